/-
  The reference's Right, has and From.
-/
import Derived.Test.YtpkahjflhboddaaMay
import Derived.Test.YtpkahjflhboddaaLists
import Derived.Test.YtpkahjflhboddaaCount
import Derived.Test.YtpkahjflhboddaaCome
namespace Go.Proofs.Ytpkahjflhboddaa
open Go.RowKit
set_option linter.unusedVariables false
set_option linter.unusedSimpArgs false
set_option maxRecDepth 10000

theorem okTo_next {l : List Bk} {k : Nat} (h : OkTo l k) (hf : Fit l[k]!) (hn : ∀ i, i < k → (l[i]!).name ≠ (l[k]!).name) : OkTo l (k + 1) := by
  refine ⟨fun i hi => ?_, fun i j hij hj => ?_⟩
  · rcases Nat.lt_or_ge i k with h' | h'
    · exact h.1 i h'
    · obtain rfl : i = k := by omega
      exact hf
  · rcases Nat.lt_or_ge j k with h' | h'
    · exact h.2 i j hij h'
    · obtain rfl : j = k := by omega
      exact hn i hij

def RiRel (w : World) (l : List Bk) (n gg : Nat) (s3 : Value) (wr : World) : Prop :=
  ∃ k : Nat, k + gg = n ∧ s3 = .int .i64 k ∧ OkTo l k ∧ Below w.heap.size w wr
def RjRel (w : World) (l : List Bk) (k gg : Nat) (s4 : Value) (wr : World) : Prop :=
  ∃ q : Nat, q + gg = k ∧ s4 = .int .i64 q ∧ (∀ i, i < q → (l[i]!).name ≠ (l[k]!).name) ∧ Below w.heap.size w wr

set_option maxHeartbeats 2000000 in
theorem rright_any {w : World} {a : Option Addr} {n c : Nat} {l : List Bk} (h : Bks w a n c l) (hw : Wide l) : Calls Try.prog 13 #[.slice a n c] w fun e w' => Tells e (Right l) ∧ Below w.heap.size w w' := by
  have H := Lib.hid h
  have HW := Lib.hid hw
  obtain ⟨hn, hnc, hn2, -⟩ := h
  have HN := Lib.hid hn
  clear hn hw
  go_enter Try.func13, Try.ntmps13
  go_wp2
  go_loopg [3, 4] n (fun gg s3 _ wr => Hid (RiRel w l n gg s3 wr))
  case atStart => exact Lib.hid ⟨0, by omega, rfl, ⟨fun i hi => by omega, fun i j _ hj => by omega⟩, Below.refl _ _⟩
  case round =>
    obtain ⟨k, hk, rfl, hok, hb⟩ := hrel.out
    clear hrel
    by_cases hlt : k < n
    · have hltz : (k : Int) < (n : Int) := by omega
      obtain ⟨b, off, rfl, hbb, c0, c1⟩ := bk_at (H.out.below hb) hlt
      have hkl : k < l.length := by rw [← HN.out]; exact hlt
      have hs := (HW.out k hkl).1
      obtain ⟨nm, hnm⟩ : ∃ nm, (l[k]!).name = nm := ⟨_, rfl⟩
      obtain ⟨wt, hwt⟩ : ∃ wt, (l[k]!).wt = wt := ⟨_, rfl⟩
      rw [hnm] at c0 hs
      rw [hwt] at c1
      have HK := Lib.hid hkl
      have HNM := Lib.hid hnm
      have HWT := Lib.hid hwt
      have HB := Lib.hid hb
      have HOK := Lib.hid hok
      obtain ⟨sz, hsz⟩ : ∃ sz : Nat, nm.size = sz := ⟨_, rfl⟩
      have HSZ := Lib.hid hsz
      have hbad : Hid (¬ (1 ≤ sz ∧ sz ≤ 40 ∧ 1 ≤ wt ∧ wt ≤ 100) → ¬ Right l) := Lib.hid (fun hf hR => by
        have := hR.2.2.1 k hkl
        rw [Fit, hnm, hwt, hsz] at this
        exact hf this)
      by_cases h1 : (nm.size : Int) < 1
      · have e1 := Lib.hid (hbad.out (by omega))
        clear hb hok hnm hwt hsz hkl
        go_wp2
        go_ret
        exact ⟨⟨false, by rfl, by simp only [Bool.false_eq_true, false_iff]; exact e1.out⟩, HB.out⟩
      · by_cases h2 : 40 < (nm.size : Int)
        · have e1 := Lib.hid (hbad.out (by omega))
          clear hb hok hnm hwt hsz hkl
          go_wp2
          go_ret
          exact ⟨⟨false, by rfl, by simp only [Bool.false_eq_true, false_iff]; exact e1.out⟩, HB.out⟩
        · by_cases h3 : wt < 1
          · have e1 := Lib.hid (hbad.out (by omega))
            clear hb hok hnm hwt hsz hkl
            go_wp2
            go_ret
            exact ⟨⟨false, by rfl, by simp only [Bool.false_eq_true, false_iff]; exact e1.out⟩, HB.out⟩
          · by_cases h4 : 100 < wt
            · have e1 := Lib.hid (hbad.out (by omega))
              clear hb hok hnm hwt hsz hkl
              go_wp2
              go_ret
              exact ⟨⟨false, by rfl, by simp only [Bool.false_eq_true, false_iff]; exact e1.out⟩, HB.out⟩
            · have hfit : Hid (Fit l[k]!) := Lib.hid (by rw [Fit, hnm, hwt, hsz]; omega)
              have hst : Hid (RjRel w l k k (.int .i64 0) wr) := Lib.hid ⟨0, by omega, rfl, fun i hi => by omega, hb⟩
              clear hb hok hnm hwt hsz hkl
              go_wp2
              go_loopg [4] k (fun gg s4 wr => Hid (RjRel w l k gg s4 wr))
              case atStart => exact hst
              case round =>
                clear hst
                obtain ⟨q, hq, rfl, hno, hb⟩ := hrel.out
                clear hrel
                by_cases hlt2 : q < k
                · have hltz2 : (q : Int) < (k : Int) := by omega
                  have hqz : (q : Int) < (n : Int) := by omega
                  have HBk := H.out.below hb
                  obtain ⟨b', off', e', hbb', d0, d1⟩ := bk_at HBk (show q < n by omega)
                  obtain ⟨b2, off2, e2, hbb2, d2, d3⟩ := bk_at HBk hlt
                  simp only [Option.some.injEq, Addr.mk.injEq, and_true] at e' e2
                  obtain ⟨rfl, rfl⟩ := e'
                  obtain ⟨rfl, rfl⟩ := e2
                  rw [HNM.out] at d2
                  obtain ⟨nm2, hnm2⟩ : ∃ nm2, (l[q]!).name = nm2 := ⟨_, rfl⟩
                  rw [hnm2] at d0
                  have HNM2 := Lib.hid hnm2
                  have HNO := Lib.hid hno
                  have HB2 := Lib.hid hb
                  clear hb hno hnm2 c0 c1 d1 d3 HBk
                  rcases he : (nm2.toList == nm.toList) with _ | _
                  · have hne : Hid (nm2 ≠ nm) := Lib.hid (fun e => by rw [e] at he; simp at he)
                    go_wp2
                    refine wp_region_tail 10 (by kernel_rfl) (by kernel_rfl) ?_
                    simp only [List.take_succ_cons, List.take_zero, List.drop_succ_cons, List.drop_zero]
                    repeat (first | still_step)
                    refine wpStill_nil ?_
                    go_wp2
                    go_roundg (k - (q + 1))
                    case measure => omega
                    case rel =>
                      refine Lib.hid ⟨q + 1, by omega, by go_num, fun i hi => ?_, HB2.out.drew⟩
                      rcases Nat.lt_or_ge i q with h' | h'
                      · exact HNO.out i h'
                      · obtain rfl : i = q := by omega
                        rw [HNM2.out, HNM.out]; exact hne.out
                  · have heq : Hid (nm2 = nm) := Lib.hid (toList_inj (by simpa using he))
                    go_wp2
                    refine wp_region_tail 10 (by kernel_rfl) (by kernel_rfl) ?_
                    simp only [List.take_succ_cons, List.take_zero, List.drop_succ_cons, List.drop_zero]
                    repeat (first | still_step)
                    refine wpStill_nil ?_
                    go_wp2
                    go_ret
                    refine ⟨⟨false, by rfl, ?_⟩, HB2.out.drew⟩
                    simp only [Bool.false_eq_true, false_iff]
                    intro hR
                    exact hR.2.2.2 q k hlt2 HK.out (by rw [HNM2.out, HNM.out, heq.out])
                · have hltz2 : ¬ (q : Int) < (k : Int) := by omega
                  obtain rfl : q = k := by omega
                  have HB2 := Lib.hid hb
                  have HNX := Lib.hid (okTo_next HOK.out hfit.out hno)
                  clear hb hno
                  go_wp2
                  go_roundg (n - (q + 1))
                  case measure => omega
                  case rel => exact Lib.hid ⟨q + 1, by omega, by go_num, HNX.out, HB2.out⟩
    · have hltz : ¬ (k : Int) < (n : Int) := by omega
      obtain rfl : k = n := by omega
      have HB := Lib.hid hb
      have HOK := Lib.hid hok
      clear hb hok
      have hyes : Hid (Right l ↔ 1 ≤ k ∧ k ≤ 16) := Lib.hid ⟨fun hR => ⟨by rw [HN.out]; exact hR.1, by rw [HN.out]; exact hR.2.1⟩, fun h => by
        have ok := HOK.out
        have e := HN.out
        rw [e] at ok h
        exact ⟨h.1, h.2, ok.1, ok.2⟩⟩
      by_cases h1 : (1 : Int) ≤ (k : Int)
      · by_cases h2 : (k : Int) ≤ 16
        · go_wp2
          go_ret
          exact ⟨⟨true, by rfl, iff_of_true rfl (hyes.out.2 ⟨by omega, by omega⟩)⟩, HB.out⟩
        · go_wp2
          go_ret
          exact ⟨⟨false, by rfl, by simp only [Bool.false_eq_true, false_iff]; intro hR; have := hyes.out.1 hR; omega⟩, HB.out⟩
      · go_wp2
        go_ret
        exact ⟨⟨false, by rfl, by simp only [Bool.false_eq_true, false_iff]; intro hR; have := hyes.out.1 hR; omega⟩, HB.out⟩

/-! ## has -/
def hasV (f : Nat → Nat) (pl : List (Option Nat)) : Int := match seat f pl with
  | some i => (f i : Int)
  | none => -1

set_option maxHeartbeats 1000000 in
theorem has_any {w : World} {g c : Nat} {o : List Nat} {pl : List (Option Nat)} {x y : Nat} (hA : Ar w g (vals (lab o pl))) (hl : pl.length = 251) (hx : x ≤ 18446744073709551615) (hy : y ≤ 18446744073709551615) :
    Calls Try.prog 30 #[.slice (some ⟨g, 0, none⟩) 251 c, .int .u64 x, .int .u64 y] w fun e w' => e = .returned (.int .i64 (hasV (wk x y) pl)) ∧ w' = w := by
  have HA := Lib.hid hA
  have HL := Lib.hid hl
  obtain ⟨xa, hxa⟩ : ∃ xa, x % 251 = xa := ⟨_, rfl⟩
  obtain ⟨yb, hyb⟩ : ∃ yb, y % 250 = yb := ⟨_, rfl⟩
  have g1 : (x : Int).tmod 251 = (xa : Int) := by rw [Int.tmod_eq_emod_of_nonneg (by omega)]; omega
  have g2 : (y : Int).tmod 250 = (yb : Int) := by rw [Int.tmod_eq_emod_of_nonneg (by omega)]; omega
  have g3 : IntKind.i64.wrap (xa : Int) = (xa : Int) := by rw [IntKind.wrap_i64]; omega
  have g4 : IntKind.i64.wrap (yb : Int) = (yb : Int) := by rw [IntKind.wrap_i64]; omega
  have g5 : IntKind.i64.wrap ((yb : Int) + 1) = (yb : Int) + 1 := by rw [IntKind.wrap_i64]; omega
  have hxa2 : xa < 251 := by omega
  have hyb2 : yb < 250 := by omega
  have HWK : Hid (∀ i, wk x y i = (xa + i * (yb + 1)) % 251) := Lib.hid (fun i => by rw [wk, hxa, hyb])
  clear hA hl hxa hyb
  go_enter Try.func30, Try.ntmps30
  go_wp2
  go_loopg [7, 8] 251 (fun gg s7 _ wr => Hid (∃ i : Nat, i + gg = 251 ∧ s7 = .int .i64 i ∧ wr = w ∧ ∀ i', i' < i → fre pl (wk x y i') = false))
  case atStart => exact Lib.hid ⟨0, by omega, rfl, rfl, fun i hi => by omega⟩
  case round =>
    obtain ⟨i, hi, rfl, rfl, hno⟩ := hrel.out
    clear hrel
    by_cases hlt : i < 251
    · have hltz : (i : Int) < 251 := by omega
      obtain ⟨m, hm⟩ : ∃ m, i * (yb + 1) = m := ⟨_, rfl⟩
      have hm2 : m ≤ 62750 := by
        rw [← hm]
        calc i * (yb + 1) ≤ 251 * 250 := Nat.mul_le_mul (by omega) (by omega)
          _ = 62750 := rfl
      have h1 : IntKind.i64.wrap ((i : Int) * ((yb : Int) + 1)) = (m : Int) := by
        rw [show (i : Int) * ((yb : Int) + 1) = ((i * (yb + 1) : Nat) : Int) by rw [Int.natCast_mul]; rfl, hm, IntKind.wrap_i64]; omega
      have h2 : IntKind.i64.wrap ((xa : Int) + (m : Int)) = ((xa + m : Nat) : Int) := by rw [IntKind.wrap_i64]; omega
      obtain ⟨p, hp⟩ : ∃ p, (xa + m) % 251 = p := ⟨_, rfl⟩
      have hp2 : p < 251 := by omega
      have h3 : ((xa + m : Nat) : Int).tmod 251 = (p : Int) := by rw [Int.tmod_eq_emod_of_nonneg (by omega)]; omega
      obtain ⟨z, hz⟩ : ∃ z, ((xa + m : Nat) : Int) = z := ⟨_, rfl⟩
      rw [hz] at h2 h3
      have HP : Hid (wk x y i = p) := Lib.hid (by rw [HWK.out, hm, hp])
      obtain ⟨v, hv, hv1, hv2⟩ := lab_fre o pl (p := p) (by rw [HL.out]; exact hp2)
      obtain ⟨e1, e2⟩ := ar_vals HA.out hv
      have hpz : (p : Int) < 251 := by omega
      have HNO := Lib.hid hno
      clear hm hp hz hno hv
      rcases hf : fre pl p with _ | _
      · have hvn := hv2 hf
        have hvz : ¬ v < 0 := by omega
        have HF := Lib.hid hf
        clear hv1 hv2 hf
        go_wp2
        go_roundg (251 - (i + 1))
        case measure => omega
        case rel =>
          refine Lib.hid ⟨i + 1, by omega, by go_num, rfl, fun i' hi' => ?_⟩
          rcases Nat.lt_or_ge i' i with h | h
          · exact HNO.out i' h
          · obtain rfl : i' = i := by omega
            rw [HP.out]; exact HF.out
      · have hvn := hv1 hf
        have hvz : v < 0 := by omega
        have hs : Hid (seat (wk x y) pl = some i) := Lib.hid (seat_some hlt (by rw [HP.out]; exact hf) HNO.out)
        clear hv1 hv2 hf hvn
        go_wp2
        go_ret
        refine ⟨?_, rfl⟩
        rw [hasV, hs.out]
        simp only [HP.out]
        rfl
    · have hltz : ¬ (i : Int) < 251 := by omega
      have hs : Hid (seat (wk x y) pl = none) := Lib.hid (seat_none fun i' hi' => hno i' (by omega))
      clear hno
      go_wp2
      go_ret
      exact ⟨by rw [hasV, hs.out]; rfl, rfl⟩

/-! ## From -/
set_option maxHeartbeats 1000000 in
theorem from_any {w : World} {g off c : Nat} {rg : List Int} {ua : Option Addr} {un uc : Nat} {up : List Bool} (h : Int) (hI : Ints w g off rg) (hU : Bls w ua un uc up) (hr : 1 ≤ rg.length) (hr2 : rg.length ≤ 100000) (hp : ∀ j, j < rg.length → 0 ≤ rg[j]!) (hu2 : un ≤ 140737488355328) (h0 : 0 ≤ h) (h1 : h ≤ 18446744073709551615) :
    Calls Try.prog 20 #[.slice (some ⟨g, off, none⟩) rg.length c, .int .u64 h, .slice ua un uc] w fun e w' => e = .returned (.tuple #[.int .i64 (who rg (h.toNat % rg.length) up), .bool (whoIs rg (h.toNat % rg.length) up)]) ∧ w' = w := by
  obtain ⟨n, hn⟩ : ∃ n, rg.length = n := ⟨_, rfl⟩
  obtain ⟨s, hs⟩ : ∃ s, h.toNat % rg.length = s := ⟨_, rfl⟩
  have hs2 : s < n := by rw [← hs, hn]; exact Nat.mod_lt _ (by omega)
  have HI := Lib.hid hI
  have HU := Lib.hid hU
  have HP := Lib.hid hp
  have HN := Lib.hid hn
  rw [hs, hn]
  rw [hn] at hr hr2 hs
  have w1 : IntKind.u64.wrap (n : Int) = (n : Int) := by rw [IntKind.wrap_u64]; omega
  have w2 : h.tmod (n : Int) = (s : Int) := by
    rw [Int.tmod_eq_emod_of_nonneg h0, ← hs, Int.natCast_emod, Int.toNat_of_nonneg h0]
  have w3 : IntKind.i64.wrap (s : Int) = (s : Int) := by rw [IntKind.wrap_i64]; omega
  have nz : (n : Int) ≠ 0 := by omega
  clear hI hU hp hn hs
  go_enter Try.func20, Try.ntmps20
  go_wp2
  go_loopg [8, 9, 10] n (fun gg s8 s9 _ wr => Hid (∃ k m : Nat, k + gg = n ∧ s9 = .int .i64 k ∧ s8 = .int .i64 m ∧ m = (s + k) % n ∧ wr = w ∧ ∀ i, i < k → upAt up rg[(s + i) % rg.length]! = false))
  case atStart => exact Lib.hid ⟨0, s, by omega, rfl, rfl, by rw [Nat.add_zero, Nat.mod_eq_of_lt hs2], rfl, fun i hi => by omega⟩
  case round =>
    obtain ⟨k, m, hk, rfl, rfl, hm, rfl, hq⟩ := hrel.out
    clear hrel
    have HQ := Lib.hid hq
    clear hq
    have hm2 : m < n := by rw [hm]; exact Nat.mod_lt _ (by omega)
    by_cases hlt : k < n
    · have hltz : (k : Int) < (n : Int) := by omega
      have HM := Lib.hid hm.symm
      have c0 := HI.out.2 m (by rw [HN.out]; exact hm2)
      obtain ⟨x, hx⟩ : ∃ x : Nat, rg[m]! = (x : Int) := by
        obtain ⟨x, hx⟩ := Int.eq_ofNat_of_zero_le (HP.out m (by rw [HN.out]; exact hm2))
        exact ⟨x, hx⟩
      rw [hx] at c0
      have HX := Lib.hid hx
      have m0 : (m : Int) < (n : Int) := by omega
      have hnext : Hid (∃ m' : Nat, m' = (s + (k + 1)) % n ∧ (m + 1 = n → m' = 0) ∧ (m + 1 ≠ n → m' = m + 1)) := Lib.hid ⟨_, rfl, fun e => by
        rw [← Nat.add_assoc, ← Nat.mod_add_mod, ← hm, e, Nat.mod_self], fun e => by
        rw [← Nat.add_assoc, ← Nat.mod_add_mod, ← hm]; exact Nat.mod_eq_of_lt (by omega)⟩
      clear hm hx
      have hxat : Hid (upAt up rg[(s + k) % rg.length]! = upAt up (x : Int)) := Lib.hid (by rw [HN.out, HM.out, HX.out])
      have hrec : upAt up (x : Int) = false → Hid (∀ i, i < k + 1 → upAt up rg[(s + i) % rg.length]! = false) := fun hf => Lib.hid fun i hi => by
        rcases Nat.lt_or_ge i k with hik | hik
        · exact HQ.out i hik
        · obtain rfl : i = k := by omega
          rw [hxat.out, hf]
      have HREC := Lib.hid hrec
      clear hrec
      by_cases hxu : x < un ∧ up[x]! = true
      · have hxz : (x : Int) < (un : Int) := by omega
        obtain ⟨ub, uo, rfl, hub, hcu⟩ := HU.out.2.2 (by omega)
        have c1 := hcu x hxu.1
        rw [hxu.2] at c1
        have hxat2 : Hid (upAt up (x : Int) = true) := Lib.hid (by rw [upAt, Int.toNat_natCast, hxu.2, decide_eq_true (by rw [← HU.out.1]; omega)]; rfl)
        clear hcu hxu
        go_wp2
        go_ret2
        have hf := fst_some (rg := rg) (s := s) (up := up) (j := k) (by rw [HN.out]; exact hlt) (by rw [hxat.out, hxat2.out]) HQ.out
        refine ⟨?_, rfl⟩
        rw [who, whoIs, hf]
        simp only [HN.out, HM.out, HX.out]
        rfl
      · have hxat2 : upAt up (x : Int) = false := by
          rw [upAt, Int.toNat_natCast]
          rcases Nat.lt_or_ge x un with h' | h'
          · have : up[x]! = false := by
              rcases hb : up[x]! with _ | _
              · rfl
              · exact absurd ⟨h', hb⟩ hxu
            rw [this, Bool.and_false]
          · rw [decide_eq_false (by rw [← HU.out.1]; omega), Bool.false_and]
        have HR := HREC.out hxat2
        obtain ⟨m', hm', hm1, hm3⟩ := hnext.out
        have HM' := Lib.hid hm'
        clear hm' hxat2
        by_cases hxl : x < un
        · have hxz : (x : Int) < (un : Int) := by omega
          obtain ⟨ub, uo, rfl, hub, hcu⟩ := HU.out.2.2 (by omega)
          have c1 := hcu x hxl
          have hb : up[x]! = false := by
            rcases hb : up[x]! with _ | _
            · rfl
            · exact absurd ⟨hxl, hb⟩ hxu
          rw [hb] at c1
          clear hcu hxu hb
          by_cases hw : m + 1 = n
          · obtain rfl := hm1 hw
            have hwz : (m : Int) + 1 = (n : Int) := by omega
            have hwb : ((m : Int) + 1 == (n : Int)) = true := by simpa using hwz
            clear hm1 hm3 hnext
            go_wp2
            go_roundg (n - (k + 1))
            case measure => omega
            case rel => exact Lib.hid ⟨k + 1, 0, by omega, by go_num, rfl, HM'.out, rfl, HR.out⟩
          · obtain rfl := hm3 hw
            have hwz : ¬ (m : Int) + 1 = (n : Int) := by omega
            have hwb : ((m : Int) + 1 == (n : Int)) = false := by simpa using hwz
            clear hm1 hm3 hnext
            go_wp2
            go_roundg (n - (k + 1))
            case measure => omega
            case rel => exact Lib.hid ⟨k + 1, m + 1, by omega, by go_num, by go_num, HM'.out, rfl, HR.out⟩
        · have hxz : ¬ (x : Int) < (un : Int) := by omega
          clear hxu
          by_cases hw : m + 1 = n
          · obtain rfl := hm1 hw
            have hwz : (m : Int) + 1 = (n : Int) := by omega
            have hwb : ((m : Int) + 1 == (n : Int)) = true := by simpa using hwz
            clear hm1 hm3 hnext
            go_wp2
            go_roundg (n - (k + 1))
            case measure => omega
            case rel => exact Lib.hid ⟨k + 1, 0, by omega, by go_num, rfl, HM'.out, rfl, HR.out⟩
          · obtain rfl := hm3 hw
            have hwz : ¬ (m : Int) + 1 = (n : Int) := by omega
            have hwb : ((m : Int) + 1 == (n : Int)) = false := by simpa using hwz
            clear hm1 hm3 hnext
            go_wp2
            go_roundg (n - (k + 1))
            case measure => omega
            case rel => exact Lib.hid ⟨k + 1, m + 1, by omega, by go_num, by go_num, HM'.out, rfl, HR.out⟩
    · have hltz : ¬ (k : Int) < (n : Int) := by omega
      clear hm
      go_wp2
      go_ret2
      have hf := fst_none (rg := rg) (s := s) (up := up) (fun i hi => HQ.out i (by rw [HN.out] at hi; omega))
      refine ⟨?_, rfl⟩
      rw [who, whoIs, hf]
      rfl

end Go.Proofs.Ytpkahjflhboddaa
