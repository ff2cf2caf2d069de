/-
  The walk of FlowsFull.
-/
import Derived.Test.YtondjponengedaaEndsWalk
namespace Go.Proofs.Ytondjponengedaa
open Go.RowKit
set_option linter.unusedVariables false
set_option linter.unusedSimpArgs false
set_option maxRecDepth 10000

def flw (i : Int) : Fl := ⟨17, { data := #[102] }, { data := #[116] }, i, 0⟩
theorem flw_ok (i : Int) : OkF (flw i) := ⟨by show (1 : Nat) ≤ _; omega, by show (1 : Nat) ≤ _; omega⟩
theorem flw_inj (i j : Int) : flw i = flw j ↔ i = j := by simp [flw]
theorem flow_any (i : Int) (w : World) : Calls Try.prog 26 #[.int .i64 i] w fun e w' => e = .returned (fv (flw i)) ∧ Below w.heap.size w w' := by
  go_enter Try.func26, Try.ntmps26
  go_wp2
  exact bodyPost_ret (v := .agg #[.int .i64 17, .string { data := #[102] }, .string { data := #[116] }, .int .i64 i, .int .i64 0]) (by simp [results, Try.results26, go_sem]) rfl ⟨rfl, below_alloc (Below.refl _ _) _⟩

/-- So many flows are there, the first ones. -/
def Has (L : List En) (k : Nat) : Prop := L.length = k ∧ ∀ j : Int, (getF L (flw j)).isSome = true ↔ (0 ≤ j ∧ j < (k : Int))
theorem getF_wth_iff (L : List En) (e : En) (f : Fl) : (getF (wth L e) f).isSome = true ↔ (f = e.fl ∨ (getF L f).isSome = true) := by
  have h : ∀ M : List En, (getF M f).isSome = true ↔ ∃ x ∈ M, x.fl = f := fun M => by
    rcases hg : getF M f with _ | y
    · simp only [Option.isSome_none, Bool.false_eq_true, false_iff]
      rintro ⟨x, hx, rfl⟩
      exact getF_none.1 hg x hx rfl
    · simp only [Option.isSome_some, true_iff]
      exact ⟨y, getF_mem hg⟩
  rw [h, h]
  constructor
  · rintro ⟨x, hx, rfl⟩
    rcases mem_wth.1 hx with rfl | hx
    · exact .inl rfl
    · exact .inr ⟨x, hx.1, rfl⟩
  · rintro (rfl | ⟨x, hx, rfl⟩)
    · exact ⟨e, mem_wth.2 (.inl rfl), rfl⟩
    · by_cases he : x.fl = e.fl
      · exact ⟨e, mem_wth.2 (.inl rfl), he.symm⟩
      · exact ⟨x, mem_wth.2 (.inr ⟨hx, he⟩), rfl⟩
theorem Has.nil : Has [] 0 := ⟨rfl, fun j => by
  constructor
  · intro h; simp [getF] at h
  · intro h; omega⟩
theorem Has.step {L : List En} {i : Nat} (h : Has L (min i 64)) : Has (opn L (flw i) 0 0 0).1 (min (i + 1) 64) ∧ (opn L (flw i) 0 0 0).2 = if i < 64 then 0 else 100 := by
  have hn : getF L (flw i) = none := by
    rcases hg : getF L (flw i) with _ | y
    · rfl
    · have := (h.2 i).1 (by rw [hg]; rfl)
      omega
  have hok : (okS 0 && okN 0) = true := by decide
  unfold opn
  rw [hok]
  simp only [Bool.true_eq_false, if_false]
  by_cases hi : i < 64
  · have hl : ¬ (getF L (flw i) = none ∧ 64 ≤ L.length) := fun h2 => by have := h.1; omega
    rw [if_neg hl, if_pos hi]
    refine ⟨⟨?_, fun j => ?_⟩, rfl⟩
    · rw [wth_len_new hn, h.1]; omega
    · rw [getF_wth_iff, h.2]
      show flw j = flw i ∨ _ ↔ _
      rw [flw_inj]; omega
  · have hl : getF L (flw i) = none ∧ 64 ≤ L.length := ⟨hn, by have := h.1; omega⟩
    rw [if_pos hl, if_neg hi]
    refine ⟨?_, rfl⟩
    rw [show min (i + 1) 64 = min i 64 by omega]
    exact h
/-- One is dropped, and another one opened. -/
theorem Has.swap {L : List En} {k g : Nat} (h : Has L k) (hs : Srt L) (hg : g < k) (hk : k ≤ 64) : (getF L (flw g)).isSome = true ∧ (opn (wo L (flw g)) (flw 1000) 1 0 0).2 = 0 ∧ (opn (wo L (flw g)) (flw 1000) 1 0 0).1.length = k := by
  have h1 : (getF L (flw g)).isSome = true := (h.2 g).2 (by omega)
  obtain ⟨x, hx⟩ := Option.isSome_iff_exists.1 h1
  have hlen := wo_len hs hx
  have hn : getF (wo L (flw g)) (flw 1000) = none := getF_none.2 fun y hy e => by
    have := (h.2 1000).1 (by rw [← e, getF_of hs (mem_wo.1 hy).1]; rfl)
    omega
  have hok : (okS 1 && okN 0) = true := by decide
  refine ⟨h1, ?_⟩
  unfold opn
  rw [hok]
  simp only [Bool.true_eq_false, if_false]
  rw [if_neg (fun h2 => by have := h.1; omega)]
  refine ⟨rfl, ?_⟩
  show (wth _ _).length = k
  rw [wth_len_new hn]
  have := h.1; omega

def FuRel (w : World) (B n : Nat) (K : List Int) (gg : Nat) (sj : Value) (wr : World) : Prop :=
  ∃ (i : Nat) (L : List En), i + gg = n ∧ sj = .int .i64 i ∧ Pl w wr B K L ∧ Has L (min i 64)

set_option maxHeartbeats 4000000 in
theorem full_no (K : List Int) (many gone : Int) (w : World) (hK : Key K) (hbad : many < 0 ∨ 200 < many ∨ gone < 0 ∨ 63 < gone) :
    Calls Try.prog 7 #[kv K, .int .i64 many, .int .i64 gone] w fun e w' => e = .returned (.bool true) ∧ Below w.heap.size w w' := by
  have HN := Lib.hid (fun w => pl_new w hK)
  have AL := Lib.hid (fun w => alive_any w)
  obtain ⟨k0, k1, k2, k3, k4, k5, k6, k7, k8, k9, k10, k11, k12, k13, k14, k15, hl⟩ := hK.letters
  have HKV : Hid (kv K = .agg #[.int .u8 k0, .int .u8 k1, .int .u8 k2, .int .u8 k3, .int .u8 k4, .int .u8 k5, .int .u8 k6, .int .u8 k7, .int .u8 k8, .int .u8 k9, .int .u8 k10, .int .u8 k11, .int .u8 k12, .int .u8 k13, .int .u8 k14, .int .u8 k15]) := Lib.hid (by rw [hl, kv_lit])
  rw [HKV.out] at HN ⊢
  have HB0 := Lib.hid (below_alloc (Below.refl w.heap.size w) (.cells #[.int .u8 k0, .int .u8 k1, .int .u8 k2, .int .u8 k3, .int .u8 k4, .int .u8 k5, .int .u8 k6, .int .u8 k7, .int .u8 k8, .int .u8 k9, .int .u8 k10, .int .u8 k11, .int .u8 k12, .int .u8 k13, .int .u8 k14, .int .u8 k15] 22))
  clear hK hl
  rcases h1 : decide (many < 0) with _ | _
  · rcases h2 : decide ((200 : Int) < many) with _ | _
    · rcases h3 : decide (gone < 0) with _ | _
      · have h4 : decide ((63 : Int) < gone) = true := by
          have := of_decide_eq_false h1
          have := of_decide_eq_false h2
          have := of_decide_eq_false h3
          exact decide_eq_true (by omega)
        clear hbad
        go_enter Try.func7, Try.ntmps7
        go_wp2_with fail
        refine (HN.out _).mono ?_
        rintro e w1 ⟨B, rfl, hP⟩
        have HB1 := Lib.hid (HB0.out.trans (hP.2.2.mono HB0.out.size))
        clear hP
        go_wp2_with fail
        refine (AL.out _).mono ?_
        rintro e w2 ⟨rfl, hb2⟩
        go_wp2
        go_ret
        exact ⟨rfl, below_then HB1.out HB1.out.size hb2⟩
      · clear hbad
        go_enter Try.func7, Try.ntmps7
        go_wp2_with fail
        refine (HN.out _).mono ?_
        rintro e w1 ⟨B, rfl, hP⟩
        have HB1 := Lib.hid (HB0.out.trans (hP.2.2.mono HB0.out.size))
        clear hP
        go_wp2_with fail
        refine (AL.out _).mono ?_
        rintro e w2 ⟨rfl, hb2⟩
        go_wp2
        go_ret
        exact ⟨rfl, below_then HB1.out HB1.out.size hb2⟩
    · clear hbad
      go_enter Try.func7, Try.ntmps7
      go_wp2_with fail
      refine (HN.out _).mono ?_
      rintro e w1 ⟨B, rfl, hP⟩
      have HB1 := Lib.hid (HB0.out.trans (hP.2.2.mono HB0.out.size))
      clear hP
      go_wp2_with fail
      refine (AL.out _).mono ?_
      rintro e w2 ⟨rfl, hb2⟩
      go_wp2
      go_ret
      exact ⟨rfl, below_then HB1.out HB1.out.size hb2⟩
  · clear hbad
    go_enter Try.func7, Try.ntmps7
    go_wp2_with fail
    refine (HN.out _).mono ?_
    rintro e w1 ⟨B, rfl, hP⟩
    have HB1 := Lib.hid (HB0.out.trans (hP.2.2.mono HB0.out.size))
    clear hP
    go_wp2_with fail
    refine (AL.out _).mono ?_
    rintro e w2 ⟨rfl, hb2⟩
    go_wp2
    go_ret
    exact ⟨rfl, below_then HB1.out HB1.out.size hb2⟩

set_option maxHeartbeats 4000000 in
theorem full_yes (K : List Int) (n g : Nat) (w : World) (hK : Key K) (h200 : n ≤ 200) (h63 : g ≤ 63) :
    Calls Try.prog 7 #[kv K, .int .i64 n, .int .i64 g] w fun e w' => e = .returned (.bool true) ∧ Below w.heap.size w w' := by
  have HN := Lib.hid (fun w => pl_new w hK)
  have AL := Lib.hid (fun w => alive_any w)
  have FL := Lib.hid (fun i w => flow_any i w)
  obtain ⟨k0, k1, k2, k3, k4, k5, k6, k7, k8, k9, k10, k11, k12, k13, k14, k15, hl⟩ := hK.letters
  have HKV : Hid (kv K = .agg #[.int .u8 k0, .int .u8 k1, .int .u8 k2, .int .u8 k3, .int .u8 k4, .int .u8 k5, .int .u8 k6, .int .u8 k7, .int .u8 k8, .int .u8 k9, .int .u8 k10, .int .u8 k11, .int .u8 k12, .int .u8 k13, .int .u8 k14, .int .u8 k15]) := Lib.hid (by rw [hl, kv_lit])
  rw [HKV.out] at HN ⊢
  have HB0 := Lib.hid (below_alloc (Below.refl w.heap.size w) (.cells #[.int .u8 k0, .int .u8 k1, .int .u8 k2, .int .u8 k3, .int .u8 k4, .int .u8 k5, .int .u8 k6, .int .u8 k7, .int .u8 k8, .int .u8 k9, .int .u8 k10, .int .u8 k11, .int .u8 k12, .int .u8 k13, .int .u8 k14, .int .u8 k15] 22))
  have z1 : decide ((n : Int) < 0) = false := decide_eq_false (by omega)
  have z2 : decide ((200 : Int) < (n : Int)) = false := decide_eq_false (by omega)
  have z3 : decide ((g : Int) < 0) = false := decide_eq_false (by omega)
  have z4 : decide ((63 : Int) < (g : Int)) = false := decide_eq_false (by omega)
  clear hK hl
  go_enter Try.func7, Try.ntmps7
  go_wp2_with fail
  refine (HN.out _).mono ?_
  rintro e w1 ⟨B, rfl, hP⟩
  have HP1 : Hid (Pl w w1 B K []) := Lib.hid ⟨hP.1, Nat.le_trans HB0.out.size hP.2.1, HB0.out.trans (hP.2.2.mono HB0.out.size)⟩
  clear hP
  go_wp2
  go_loopg [9, 36] n (fun gg s9 s36 wr => Hid (FuRel w B n K gg s36 wr))
  case atStart => exact Lib.hid ⟨0, [], by omega, rfl, HP1.out, Has.nil⟩
  case round =>
    obtain ⟨i, L, hi, rfl, hP, hH⟩ := hrel.out
    clear hrel
    have HP := Lib.hid hP
    have HH := Lib.hid hH
    clear hP hH
    by_cases hlt : i < n
    · have hltz : (i : Int) < (n : Int) := by omega
      go_wp2_with fail
      refine (FL.out _ _).mono ?_
      rintro e w2 ⟨rfl, hb2⟩
      have HO := Lib.hid (open_any (HP.out.grow hb2).1 (flw i) 0 0 0 (flw_ok i))
      have HP2 := Lib.hid (HP.out.grow hb2)
      have HST := Lib.hid HH.out.step
      rw [HST.out.2] at HO
      clear hb2
      go_wp2_with fail
      refine HO.out.mono ?_
      rintro e w3 ⟨rfl, hT3, ho3⟩
      have HP3 := Lib.hid (HP2.out.turn hT3 ho3)
      clear hT3 ho3
      by_cases h64 : i < 64
      · rw [if_pos h64]
        have hz : decide ((i : Int) < 64) = true := decide_eq_true (by omega)
        go_wp2
        go_roundg (n - (i + 1))
        case measure => omega
        case rel => exact Lib.hid ⟨i + 1, _, by omega, by go_num, HP3.out, HST.out.1⟩
      · rw [if_neg h64]
        have hz : decide ((i : Int) < 64) = false := decide_eq_false (by omega)
        go_wp2
        go_roundg (n - (i + 1))
        case measure => omega
        case rel => exact Lib.hid ⟨i + 1, _, by omega, by go_num, HP3.out, HST.out.1⟩
    · obtain rfl : i = n := by omega
      have hmin : (min (i : Int) 64) = ((min i 64 : Nat) : Int) := by omega
      by_cases hgt : g < i
      · have hz5 : decide ((g : Int) < (i : Int)) = true := decide_eq_true (by omega)
        obtain ⟨hs1, hs2, hlen⟩ := HH.out.swap (g := g) HP.out.1.fine.1 (by omega) (by omega)
        have HS1 := Lib.hid hs1
        have HS2 := Lib.hid hs2
        have HLN := Lib.hid hlen
        clear hs1 hs2 hlen
        go_wp2_with fail
        refine (FL.out _ _).mono ?_
        rintro e w2 ⟨rfl, hb2⟩
        have HP2 := Lib.hid (HP.out.grow hb2)
        have HD := Lib.hid (drop_any HP2.out.1 (flw g) (flw_ok g))
        rw [HS1.out] at HD
        clear hb2
        go_wp2_with fail
        refine HD.out.mono ?_
        rintro e w3 ⟨rfl, hT3, ho3⟩
        have HP3 := Lib.hid (HP2.out.turn hT3 ho3)
        clear hT3 ho3
        go_wp2_with fail
        refine (FL.out _ _).mono ?_
        rintro e w4 ⟨rfl, hb4⟩
        have HP4 := Lib.hid (HP3.out.grow hb4)
        have HO := Lib.hid (open_any HP4.out.1 (flw 1000) 1 0 0 (flw_ok 1000))
        rw [HS2.out] at HO
        clear hb4
        go_wp2_with fail
        refine HO.out.mono ?_
        rintro e w5 ⟨rfl, hT5, ho5⟩
        have HPZ := Lib.hid (HP4.out.turn hT5 ho5)
        clear hT5 ho5
        have hlen := HLN.out
        have HLE := Lib.hid HPZ.out.1.lenT
        rw [hlen] at HLE
        go_wp2_with fail
        refine (AL.out _).mono ?_
        rintro e w8 ⟨rfl, hb8⟩
        have HLE2 := Lib.hid (HPZ.out.grow hb8).1.lenT
        rw [hlen] at HLE2
        have HBZ := Lib.hid (HPZ.out.grow hb8).2.2
        clear hb8 hlen HLE
        go_wp2_with (go_at_call 25; refine HLE2.out.mono ?_; rintro e w' ⟨rfl, rfl⟩)
        go_ret
        exact ⟨by simp, HBZ.out⟩
      · have hz5 : decide ((g : Int) < (i : Int)) = false := decide_eq_false (by omega)
        have HPZ := HP
        have hlen := HH.out.1
        have HLE := Lib.hid HPZ.out.1.lenT
        rw [hlen] at HLE
        go_wp2_with fail
        refine (AL.out _).mono ?_
        rintro e w8 ⟨rfl, hb8⟩
        have HLE2 := Lib.hid (HPZ.out.grow hb8).1.lenT
        rw [hlen] at HLE2
        have HBZ := Lib.hid (HPZ.out.grow hb8).2.2
        clear hb8 hlen HLE
        go_wp2_with (go_at_call 25; refine HLE2.out.mono ?_; rintro e w' ⟨rfl, rfl⟩)
        go_ret
        exact ⟨by simp, HBZ.out⟩

theorem full_walk (K : List Int) (many gone : Int) (w : World) (hK : Key K) (_h1 : (Lit.int .i64 many).wf = true) (_h2 : (Lit.int .i64 gone).wf = true) :
    Calls Try.prog 7 #[kv K, .int .i64 many, .int .i64 gone] w fun e w' => e = .returned (.bool true) ∧ Below w.heap.size w w' := by
  by_cases hbad : many < 0 ∨ 200 < many ∨ gone < 0 ∨ 63 < gone
  · exact full_no K many gone w hK hbad
  · obtain ⟨n, rfl⟩ : ∃ n : Nat, many = n := ⟨many.toNat, by omega⟩
    obtain ⟨g, rfl⟩ : ∃ g : Nat, gone = g := ⟨gone.toNat, by omega⟩
    exact full_yes K n g w hK (by omega) (by omega)

end Go.Proofs.Ytondjponengedaa
