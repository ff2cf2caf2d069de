/-
  The walk of FlowsEnds.
-/
import Derived.Test.YtondjponengedaaLaw
namespace Go.Proofs.Ytondjponengedaa
open Go.RowKit
set_option linter.unusedVariables false
set_option linter.unusedSimpArgs false
set_option maxRecDepth 10000

/-- A script's loop. -/
def ScRel (w : World) (B n : Nat) (K : List Int) (l : List Opr) (gg : Nat) (sj : Value) (wr : World) : Prop :=
  ∃ j : Nat, j + gg = n ∧ sj = .int .i64 j ∧ Pl w wr B K (runS (l.take j))
/-- A row's loop. -/
def RwRel (w : World) (base : Nat) (v : Value) (l : List En) (n gg : Nat) (sj : Value) (wr : World) : Prop :=
  ∃ j : Nat, j + gg = n ∧ sj = .int .i64 j ∧ wr.ownsRow base 39 8 v n (ecells l) ∧ Below w.heap.size w wr
theorem len_parts (L : List En) (now : Int) : L.length = (xpd now L).length + (liv now L).length ∨ ¬ Srt L := by
  by_cases h : Srt L
  · left
    rw [(xpd_srt h now).2.length_eq]
    unfold liv
    clear h
    induction L with
    | nil => rfl
    | cons e r ih =>
      by_cases he : e.ends ≤ now
      · rw [List.filter_cons_of_pos (by simpa using he), List.filter_cons_of_neg (by simpa using he), List.length_cons, List.length_cons, ih]; omega
      · rw [List.filter_cons_of_neg (by simpa using he), List.filter_cons_of_pos (by simpa using (by omega : now < e.ends)), List.length_cons, List.length_cons, ih]; omega
  · exact .inr h

theorem sum_eq {l x y a b c : Nat} (h : l = x + y) (h1 : l = a) (h2 : x = b) (h3 : y = c) : (a : Int) = (b : Int) + (c : Int) := by omega
theorem xpd_len {L : List En} (h : Fine L) (now : Int) : (xpd now L).length ≤ 64 := by
  rw [(xpd_srt h.1 now).2.length_eq]
  exact Nat.le_trans (List.length_filter_le _ _) h.2

set_option maxHeartbeats 4000000 in
theorem ends_walk (K : List Int) (a : Option Addr) (n c : Nat) (l : List Opr) (now : Int) (w : World) (hK : Key K) (hS : Scr w a n c l) (_hn : (Lit.int .i64 now).wf = true) :
    Calls Try.prog 9 #[kv K, .slice a n c, .int .i64 now] w fun e w' => e = .returned (.bool true) ∧ Below w.heap.size w w' := by
  have HK := Lib.hid hK
  have HS := Lib.hid hS
  have HN := Lib.hid (fun w => pl_new w hK)
  have AL := Lib.hid (fun w => alive_any w)
  have HLN := Lib.hid hS.1.1
  obtain ⟨k0, k1, k2, k3, k4, k5, k6, k7, k8, k9, k10, k11, k12, k13, k14, k15, hl⟩ := hK.letters
  have HKV : Hid (kv K = .agg #[.int .u8 k0, .int .u8 k1, .int .u8 k2, .int .u8 k3, .int .u8 k4, .int .u8 k5, .int .u8 k6, .int .u8 k7, .int .u8 k8, .int .u8 k9, .int .u8 k10, .int .u8 k11, .int .u8 k12, .int .u8 k13, .int .u8 k14, .int .u8 k15]) := Lib.hid (by rw [hl, kv_lit])
  rw [HKV.out] at HN ⊢
  have HB0 := Lib.hid (below_alloc (Below.refl w.heap.size w) (.cells #[.int .u8 k0, .int .u8 k1, .int .u8 k2, .int .u8 k3, .int .u8 k4, .int .u8 k5, .int .u8 k6, .int .u8 k7, .int .u8 k8, .int .u8 k9, .int .u8 k10, .int .u8 k11, .int .u8 k12, .int .u8 k13, .int .u8 k14, .int .u8 k15] 22))
  clear hK hS hl
  by_cases hbig : 400 < n
  · have hz : decide ((400 : Int) < (n : Int)) = true := decide_eq_true (by omega)
    go_enter Try.func9, Try.ntmps9
    go_wp2_with fail
    refine (HN.out _).mono ?_
    rintro e w1 ⟨B, rfl, hP⟩
    have HB1 := Lib.hid (HB0.out.trans (hP.2.2.mono HB0.out.size))
    clear hP
    go_wp2_with fail
    refine (AL.out _).mono ?_
    rintro e w2 ⟨rfl, hb2⟩
    go_wp2
    go_ret
    exact ⟨rfl, below_then HB1.out HB1.out.size hb2⟩
  · have hz : decide ((400 : Int) < (n : Int)) = false := decide_eq_false (by omega)
    go_enter Try.func9, Try.ntmps9
    go_wp2_with fail
    refine (HN.out _).mono ?_
    rintro e w1 ⟨B, rfl, hP⟩
    have HP1 : Hid (Pl w w1 B K []) := Lib.hid ⟨hP.1, Nat.le_trans HB0.out.size hP.2.1, HB0.out.trans (hP.2.2.mono HB0.out.size)⟩
    clear hP
    go_wp2
    go_loopg [9, 32] n (fun gg s9 s32 wr => Hid (ScRel w B n K l gg s32 wr))
    case atStart => exact Lib.hid ⟨0, by omega, rfl, HP1.out⟩
    case round =>
      obtain ⟨j, hj, rfl, hP⟩ := hrel.out
      clear hrel
      have HPL := Lib.hid hP
      by_cases hlt : j < n
      · have hltz : (j : Int) < (n : Int) := by omega
        obtain ⟨sb, so, rfl, hsb, hat, hokx⟩ := (HS.out.below HPL.out.2.2).at hlt
        obtain ⟨d0, d1, d2, d3, d4, d5, d6, d7, d8, d9, d10⟩ := hat
        have hnx := runS_next l (j := j) (by rw [← HLN.out]; exact hlt)
        generalize l[j]! = x at d0 d1 d2 d3 d4 d5 d6 d7 d8 d9 d10 hokx hnx
        have HD := Lib.hid (pl_does (hP.grow (below_alloc (Below.refl _ _) (.cells (ocs x).toArray 53))) x hokx)
        have HNX := Lib.hid hnx
        clear hP hnx hokx
        obtain ⟨kd, fl, nw, ⟨⟨x1, x2, x3, x4, x5⟩, x6, x7, x8⟩⟩ := x
        simp only [ocs, ecs, opv] at HD
        simp only at d0 d1 d2 d3 d4 d5 d6 d7 d8 d9 d10
        go_wp2_with fail
        refine HD.out.mono ?_
        rintro e w3 ⟨v, rfl, -, hP3, -⟩
        have HP3 := Lib.hid hP3
        clear hP3
        go_wp2
        go_roundg (n - (j + 1))
        case measure => omega
        case rel => exact Lib.hid ⟨j + 1, by omega, by go_num, by rw [HNX.out]; exact HP3.out⟩
      · obtain rfl : j = n := by omega
        rw [List.take_of_length_le (by rw [← HLN.out]; exact Nat.le_refl _)] at hP
        have hfine := hP.1.fine
        generalize runS l = L at hP hfine
        have hB := hP.2.1
        have HPP := Lib.hid hP
        clear hP HPL
        go_wp2_with fail
        refine (all_any HPP.out.1).mono ?_
        rintro e w4 ⟨v4, rfl, hr4, hb4⟩
        obtain ⟨a4, c4, rfl, -, -⟩ := row_any hr4
        have HP4 := Lib.hid (HPP.out.grow hb4)
        clear hr4 hb4 HPP
        go_wp2_with fail
        refine (expire_any HP4.out.1 now).mono ?_
        rintro e w5 ⟨v5, rfl, hr5, hT5, ho5⟩
        obtain ⟨a5, c5, rfl, -, -⟩ := row_any hr5
        have HP5 := Lib.hid (HP4.out.turn hT5 ho5)
        have hlen : L.length = (xpd now L).length + (liv now L).length := by
          rcases len_parts L now with h | h
          · exact h
          · exact absurd hfine.1 h
        have hX : ∀ x ∈ xpd now L, x.ends ≤ now := fun x hx => by
          have := (xpd_srt hfine.1 now).2.subset hx
          simpa using (List.mem_filter.1 this).2
        have hY : ∀ x ∈ liv now L, now < x.ends := fun x hx => by
          unfold liv at hx
          simpa using (List.mem_filter.1 hx).2
        have h64 := hfine.2
        have hx64 := xpd_len hfine now
        have hy64 := (hfine.liv now).2
        generalize xpd now L = X at hr5 hlen hX hx64
        generalize liv now L = Y at HP5 hlen hY hy64
        have HLEN := Lib.hid hlen
        clear hlen
        have HR5 := Lib.hid hr5
        clear hr5 hT5 ho5 HP4
        go_wp2_with fail
        refine (all_any HP5.out.1).mono ?_
        rintro e w6 ⟨v6, rfl, hr6, hb6⟩
        obtain ⟨a6, c6, rfl, -, -⟩ := row_any hr6
        have HP6 := Lib.hid (HP5.out.grow hb6)
        have HR5b := Lib.hid (row_below HR5.out hb6)
        obtain ⟨ny, hny⟩ : ∃ m, Y.length = m := ⟨_, rfl⟩
        obtain ⟨nx, hnxx⟩ : ∃ m, X.length = m := ⟨_, rfl⟩
        obtain ⟨nl, hnl⟩ : ∃ m, L.length = m := ⟨_, rfl⟩
        have HNY := Lib.hid hny
        have HNX := Lib.hid hnxx
        rw [hny] at hr6 hy64
        rw [hnxx] at HR5b hx64
        have hsum : wrap64 ((nx : Int) + (ny : Int)) = (nl : Int) := by
          have := HLEN.out
          simp only [wrap64]; omega
        have HR6 := Lib.hid hr6
        have HX := Lib.hid hX
        have HY := Lib.hid hY
        rw [hny, hnxx, hnl]
        have HNL := Lib.hid hnl
        clear hr6 hb6 HR5 HP5 hX hY hny hnxx hnl
        go_wp2
        go_loopg [13, 48] ny (fun gg s13 s48 wr => Hid (RwRel w6 w5.heap.size (.slice a6 ny c6) Y ny gg s48 wr))
        case atStart => exact Lib.hid ⟨0, by omega, rfl, HR6.out, Below.refl _ _⟩
        case round =>
          obtain ⟨i, hi, rfl, hrow, hb⟩ := hrel.out
          clear hrel
          by_cases hlt2 : i < ny
          · have hltz2 : (i : Int) < (ny : Int) := by omega
            obtain ⟨g, c', e, _⟩ := row_slice hrow (by omega)
            simp only [Value.slice.injEq, true_and] at e
            obtain ⟨rfl, rfl⟩ := e
            have hgW := (hrow.lt g rfl)
            obtain ⟨d0, d1, d2, d3, d4, d5, d6, d7⟩ := erow_at hrow hlt2
            have hin : Y[i]! ∈ Y := by rw [getElem!_pos Y i (by rw [HNY.out]; exact hlt2)]; exact List.getElem_mem _
            have hgt := HY.out _ hin
            generalize Y[i]! = x at d0 d1 d2 d3 d4 d5 d6 d7 hgt
            have HRW := Lib.hid (row_below hrow (below_alloc (Below.refl _ _) (.cells (ecs x).toArray 39)))
            have HBW := Lib.hid (below_alloc hb (.cells (ecs x).toArray 39))
            clear hrow hb hin
            obtain ⟨⟨x1, x2, x3, x4, x5⟩, x6, x7, x8⟩ := x
            simp only at hgt
            have hz8 : decide (x8 ≤ now) = false := decide_eq_false (by omega)
            simp only [ecs] at HRW HBW d0 d1 d2 d3 d4 d5 d6 d7
            clear hgt
            go_wp2
            go_roundg (ny - (i + 1))
            case measure => omega
            case rel => exact Lib.hid ⟨i + 1, by omega, by go_num, HRW.out, HBW.out⟩
          · obtain rfl : i = ny := by omega
            obtain ⟨w7, hw7⟩ : ∃ w7, w7 = wr := ⟨_, rfl⟩
            rw [← hw7] at hrow hb ⊢
            clear hw7
            have HP7 := Lib.hid (HP6.out.grow hb)
            have HR7 := Lib.hid (row_below HR5b.out hb)
            clear hrow hb
            go_wp2
            go_loopg [15, 59] nx (fun gg s15 s59 wr => Hid (RwRel w7 w4.heap.size (.slice a5 nx c5) X nx gg s59 wr))
            case atStart => exact Lib.hid ⟨0, by omega, rfl, HR7.out, Below.refl _ _⟩
            case round =>
              obtain ⟨i2, hi2, rfl, hrow, hb⟩ := hrel.out
              clear hrel
              by_cases hlt3 : i2 < nx
              · have hltz3 : (i2 : Int) < (nx : Int) := by omega
                obtain ⟨g, c', e, _⟩ := row_slice hrow (by omega)
                simp only [Value.slice.injEq, true_and] at e
                obtain ⟨rfl, rfl⟩ := e
                have hgW := (hrow.lt g rfl)
                obtain ⟨d0, d1, d2, d3, d4, d5, d6, d7⟩ := erow_at hrow hlt3
                have hin : X[i2]! ∈ X := by rw [getElem!_pos X i2 (by rw [HNX.out]; exact hlt3)]; exact List.getElem_mem _
                have hgt := HX.out _ hin
                generalize X[i2]! = x at d0 d1 d2 d3 d4 d5 d6 d7 hgt
                have HRW := Lib.hid (row_below hrow (below_alloc (Below.refl _ _) (.cells (ecs x).toArray 39)))
                have HBW := Lib.hid (below_alloc hb (.cells (ecs x).toArray 39))
                clear hrow hb hin
                obtain ⟨⟨x1, x2, x3, x4, x5⟩, x6, x7, x8⟩ := x
                simp only at hgt
                have hz8 : decide (now < x8) = false := decide_eq_false (by omega)
                simp only [ecs] at HRW HBW d0 d1 d2 d3 d4 d5 d6 d7
                clear hgt
                go_wp2
                go_roundg (nx - (i2 + 1))
                case measure => omega
                case rel => exact Lib.hid ⟨i2 + 1, by omega, by go_num, HRW.out, HBW.out⟩
              · obtain rfl : i2 = nx := by omega
                have HP8 := Lib.hid (HP7.out.grow hb)
                clear hrow hb
                go_wp2_with fail
                refine (AL.out _).mono ?_
                rintro e w9 ⟨rfl, hb9⟩
                have HP9 := Lib.hid (HP8.out.grow hb9)
                have HLE := Lib.hid HP9.out.1.lenT
                rw [HNY.out] at HLE
                clear hb9
                go_wp2_with (go_at_call 25; refine HLE.out.mono ?_; rintro e w' ⟨rfl, rfl⟩)
                go_ret
                exact ⟨by simp; exact sum_eq HLEN.out HNL.out HNX.out HNY.out, HP9.out.2.2⟩

end Go.Proofs.Ytondjponengedaa
