/-
  What the function of HealthDue does, whatever rule and number it is given.
-/
import Derived.Test.YtkcndgiiangmjaaFrame
import Derived.Test.YtkcndgiiangmjaaAlive
import Derived.Test.YtkcndgiiangmjaaDuePre
namespace Go.Proofs.Ytkcndgiiangmjaa
open Go.RowKit Go.Maps
set_option linter.unusedVariables false
set_option linter.unusedSimpArgs false
set_option maxRecDepth 10000

def DoRel (w : World) (B : Nat) (r : Ru) (n E gg : Nat) (s38 : Value) (wr : World) : Prop :=
  ∃ R : Nat, R + gg = 3 ∧ s38 = .int .i64 (R : Int) ∧ ∃ F b, Bd wr F B r b ∧ OkB r b n ∧ DueAt b.s n E R 0 ∧ (∀ i, F i → w.heap.size + 1 ≤ i) ∧ Below w.heap.size w wr ∧ Cb wr w.heap.size 23 [.int .i64 r.rise, .int .i64 r.fall, .int .i64 (E : Int)]
def DmRel (w : World) (B : Nat) (r : Ru) (n E R M gg : Nat) (s45 : Value) (wr : World) : Prop :=
  ∃ t : Nat, t + gg = E ∧ s45 = .int .i64 (t : Int) ∧ ∃ F b, Bd wr F B r b ∧ OkB r b n ∧ DueAt b.s n E R t ∧ (∀ i, F i → w.heap.size + 1 ≤ i ∧ i ≠ M) ∧ Below w.heap.size w wr ∧ Cb wr w.heap.size 23 [.int .i64 r.rise, .int .i64 r.fall, .int .i64 (E : Int)] ∧
    wr.ownsRow (w.heap.size + 1) 3 1 (.slice (some ⟨M, 0, none⟩) n n) n (icells (metL n t))
def DiRel (w2 : World) (n M t d gg : Nat) (s58 : Value) (wr : World) : Prop :=
  ∃ j : Nat, j + gg = d ∧ s58 = .int .i64 (j : Int) ∧ wr.ownsRow 0 3 1 (.slice (some ⟨M, 0, none⟩) n n) n (icells (metL n (if j = 0 then t else t + 1))) ∧ Only (fun i => i = M) w2 wr
def DcRel (w2 : World) (n gg : Nat) (s79 : Value) (wr : World) : Prop := ∃ i : Nat, i + gg = n ∧ s79 = .int .i64 (i : Int) ∧ wr = w2

set_option maxHeartbeats 8000000 in
theorem due_walk (r : Ru) (m : Int) (w : World) (hmw : (Lit.int .i64 m).wf = true) :
    Calls Try.prog 8 #[ruv r, .int .i64 m] w fun e w' => e = .returned (.bool true) ∧ Below w.heap.size w w' := by
  clear hmw
  have HAL := Lib.hid (fun w => alive_any w)
  have hb0 : Below w.heap.size w (w.alloc (.cells #[.int .i64 r.rise, .int .i64 r.fall, .int .i64 r.every] 23)) := below_alloc (Below.refl _ _) _
  have HCB0 := Lib.hid (Cb.new3 w (.int .i64 r.rise) (.int .i64 r.fall) (.int .i64 r.every) 23)
  have hlay := hlay_any (w.alloc (.cells #[.int .i64 r.rise, .int .i64 r.fall, .int .i64 r.every] 23)) r m
  have HB0 := Lib.hid hb0
  unfold ruv at hlay ⊢
  have HLAY := Lib.hid hlay
  clear hlay hb0
  by_cases hok : (okR r && inn m 16) = true
  · have HOK := Lib.hid hok
    have hok2 := hok
    rw [Bool.and_eq_true] at hok2
    have HOR := Lib.hid hok2.1
    have hm2 := of_decide_eq_true hok2.2
    have hre := (okR_iff.1 hok2.1).2.2
    obtain ⟨n, rfl⟩ := Int.eq_ofNat_of_zero_le (show 0 ≤ m by omega)
    obtain ⟨ri, fa, ev⟩ := r
    simp only at hre HLAY HB0 HCB0
    obtain ⟨E, rfl⟩ := Int.eq_ofNat_of_zero_le (show 0 ≤ ev by omega)
    have hn16 : n ≤ 16 := by omega
    clear hok hok2
    by_cases hsm : E < n
    · have hsz : (E : Int) < (n : Int) := by omega
      go_enter Try.func8, Try.ntmps8
      go_wp2_with fail
      refine HLAY.out.mono ?_
      rintro e w1 ⟨hbw, ⟨-, B, F, rfl, hBd, hF⟩ | ⟨h, -⟩⟩
      rotate_left
      · rw [HOK.out] at h; cases h
      have HB1 := Lib.hid (HB0.out.trans (hbw.mono HB0.out.size))
      obtain ⟨c0, c1, c2⟩ := (HCB0.out.below hbw).three
      clear hbw hBd hF
      go_wp2_with (go_at_call 11; refine (HAL.out _).mono ?_; rintro e w3 ⟨rfl, hb3⟩; have HB3 := Lib.hid hb3; clear hb3)
      go_ret
      exact ⟨rfl, HB1.out.trans (HB3.out.mono HB1.out.size)⟩
    · have hsz : ¬ ((E : Int) < (n : Int)) := by omega
      by_cases hbg : E > 500
      · have hbz : (E : Int) > 500 := by omega
        go_enter Try.func8, Try.ntmps8
        go_wp2_with fail
        refine HLAY.out.mono ?_
        rintro e w1 ⟨hbw, ⟨-, B, F, rfl, hBd, hF⟩ | ⟨h, -⟩⟩
        rotate_left
        · rw [HOK.out] at h; cases h
        have HB1 := Lib.hid (HB0.out.trans (hbw.mono HB0.out.size))
        obtain ⟨c0, c1, c2⟩ := (HCB0.out.below hbw).three
        clear hbw hBd hF
        go_wp2_with (go_at_call 11; refine (HAL.out _).mono ?_; rintro e w3 ⟨rfl, hb3⟩; have HB3 := Lib.hid hb3; clear hb3)
        go_ret
        exact ⟨rfl, HB1.out.trans (HB3.out.mono HB1.out.size)⟩
      · have hbz : ¬ ((E : Int) > 500) := by omega
        have hE5 : E ≤ 500 := by omega
        have hnE : n ≤ E := by omega
        obtain ⟨i0, hi, hz0, hz1, hz2⟩ := info_parts info3
        have HMK := Lib.hid (fun wr : World => run_make_full (P := Try.prog) wr wr.heap.size 57 3 i0 _ 1 Try.underlying57 hi hz0 hz1 .i64 .i64 n (by rw [hz2]; omega) (by simp only [maxLen]; omega) (Nat.le_refl _))
        clear hi hz0 hz1 hz2
        go_enter Try.func8, Try.ntmps8
        go_wp2_with fail
        refine HLAY.out.mono ?_
        rintro e w1 ⟨hbw, ⟨-, B, F, rfl, hBd, hF⟩ | ⟨h, -⟩⟩
        rotate_left
        · rw [HOK.out] at h; cases h
        have HB1 := Lib.hid (HB0.out.trans (hbw.mono HB0.out.size))
        have HC1 := Lib.hid (HCB0.out.below hbw)
        obtain ⟨c0, c1, c2⟩ := HC1.out.three
        have HBD := Lib.hid hBd
        have HF : Hid (∀ i, F i → w.heap.size + 1 ≤ i) := Lib.hid fun i hi => by have := hF i hi; simpa using this
        clear hbw hBd hF HLAY HB0 HCB0
        go_wp2_with fail
        go_loopg [38] 3 (fun gg s38 wr => Hid (DoRel w B ⟨ri, fa, (E : Int)⟩ n E gg s38 wr))
        case atStart => exact Lib.hid ⟨0, by omega, rfl, F, laidB n, HBD.out, laidB_ok HOR.out hn16, due_start hn16, HF.out, HB1.out, HC1.out⟩
        case round =>
          obtain ⟨R, hR, rfl, F1, b1, hBd, hob, hda, hF1, hB, hC⟩ := hrel.out
          clear hrel HBD HF HB1 HC1 c0 c1 c2
          by_cases hR3 : R < 3
          · have hRz : (R : Int) < 3 := by omega
            obtain ⟨wm, hmk, hrow0, hgr⟩ := HMK.out wr
            have hbm : Below wr.heap.size wr wm := ⟨hgr.os, hgr.tape, hgr.output, hgr.size, fun i hi => hgr.block i hi (by simp)⟩
            obtain ⟨c0, c1, c2⟩ := (hC.below hbm).three
            have hwr : w.heap.size + 1 ≤ wr.heap.size := hC.lt
            obtain ⟨M, hM⟩ : ∃ M, wr.heap.size = M := ⟨_, rfl⟩
            have hrow1 : wm.ownsRow (w.heap.size + 1) 3 1 (.slice (some ⟨wr.heap.size, 0, none⟩) n n) n (icells (metL n 0)) := by
              have e : (madeCells (Value.int .i64 0).cells (n * 1)).toList = icells (metL n 0) := by
                rw [Nat.mul_one, show (Value.int .i64 0).cells = #[Value.int .i64 0] from rfl, toList_madeCells_one, metL_zero]
              rw [← e]
              exact row_base hrow0 hwr
            have hFM : ∀ i, F1 i → w.heap.size + 1 ≤ i ∧ i ≠ M := fun i hi => ⟨hF1 i hi, by have := hBd.lt i hi; omega⟩
            rw [hM] at hmk hrow1
            have HST : Hid (DmRel w B ⟨ri, fa, (E : Int)⟩ n E R M E (.int .i64 ((0 : Nat) : Int)) wm) := Lib.hid ⟨0, by omega, rfl, F1, b1, hBd.below hbm, hob, hda, hFM, hB.trans (hbm.mono hB.size), hC.below hbm, hrow1⟩
            have hMl : w.heap.size < M := by omega
            clear hBd hob hda hF1 hB hC hrow0 hgr hbm hwr hrow1 hFM
            go_wp2_with fail
            clear hmk hM
            go_loopg [45] E (fun gg s45 wr => Hid (DmRel w B ⟨ri, fa, (E : Int)⟩ n E R M gg s45 wr))
            case atStart => exact HST
            case round =>
              obtain ⟨t, ht, rfl, F2, b2, hBd, hob, hda, hF2, hB, hC, hmet⟩ := hrel.out
              clear hrel HST c0 c1 c2
              obtain ⟨c0, c1, c2⟩ := hC.three
              have hlw := hC.lt
              by_cases htE : t < E
              · have htz : (t : Int) < (E : Int) := by omega
                obtain ⟨X, hX⟩ : ∃ X, R * E = X := ⟨_, rfl⟩
                have hX1 : X ≤ 1000 := by rw [← hX]; exact Nat.le_trans (Nat.mul_le_mul (show R ≤ 2 by omega) hE5) (by decide)
                have hXz : (R : Int) * (E : Int) = (X : Int) := by rw [← hX]; simp
                have hw1 : IntKind.i64.wrap ((R : Int) * (E : Int)) = (X : Int) := by rw [hXz, IntKind.wrap_i64]; omega
                have hw2 : IntKind.i64.wrap (1 + (X : Int)) = 1 + (X : Int) := by rw [IntKind.wrap_i64]; omega
                have hw3 : IntKind.i64.wrap (1 + (X : Int) + (t : Int)) = 1 + (X : Int) + (t : Int) := by rw [IntKind.wrap_i64]; omega
                have hst := due_step (r := ⟨ri, fa, (E : Int)⟩) hda rfl htE hE5 hR3 hn16
                have hTe : ((1 + R * E + t : Nat) : Int) = 1 + (X : Int) + (t : Int) := by rw [hX]; omega
                rw [hTe] at hst
                obtain ⟨hD, hda2⟩ := hst
                have hmv := bmove_any hBd HOR.out hob (1 + (X : Int) + (t : Int))
                obtain ⟨D, hDD⟩ : ∃ D, bmD b2.s (1 + (X : Int) + (t : Int)) = D := ⟨_, rfl⟩
                rw [hDD] at hmv hD
                obtain ⟨d, hd⟩ : ∃ d, D.length = d := ⟨_, rfl⟩
                rw [hd] at hmv
                have HDD : Hid (d ≤ 1 ∧ (0 < d → t < n ∧ D[0]! = (t : Int)) ∧ (d = 0 → n ≤ t)) := Lib.hid (by
                  rw [← hd, hD]
                  split
                  · rename_i h
                    exact ⟨by simp, fun _ => ⟨h, rfl⟩, fun h0 => by simp at h0⟩
                  · rename_i h
                    exact ⟨by simp, fun h0 => by simp at h0, fun _ => by omega⟩)
                have HMV := Lib.hid hmv
                have HX := Lib.hid (And.intro hBd (And.intro hob (And.intro hF2 (And.intro hB (And.intro hC hmet)))))
                have HDA := Lib.hid hda2
                have HOM := Lib.hid (hob.move (1 + (X : Int) + (t : Int)))
                have hd1 := HDD.out.1
                clear hBd hob hda hF2 hB hC hmet hD hDD hd hmv hda2 hX hTe hXz
                go_wp2_with (go_at_call 22; refine HMV.out.mono ?_; rintro e w2 ⟨v2, F3, rfl, hr2, hv2, hbd2, hF3, hO2⟩; obtain ⟨a2, c2', rfl, hc2', -⟩ := row_any hr2; have HR2 := Lib.hid hr2; have HY := Lib.hid (And.intro hbd2 (And.intro hF3 hO2)); clear hr2 hv2 hbd2 hF3 hO2)
                have hmet2 := row_only HX.out.2.2.2.2.2 HY.out.2.2 fun g hg hf => by
                  have e : g = M := by simpa [Value.ownBlock] using hg.symm
                  exact (HX.out.2.2.1 g hf).2 e
                have HMET2 := Lib.hid hmet2
                have hs2 := HX.out.2.2.2.2.1.lt
                have hMlt : M < wr.heap.size := (HX.out.2.2.2.2.2.lt M rfl).2
                have HFM : Hid (∀ i, F3 i → w.heap.size + 1 ≤ i ∧ i ≠ M) := Lib.hid fun i hi => by
                  rcases HY.out.2.1 i hi with h | h
                  · exact HX.out.2.2.1 i h
                  · have h2 : wr.heap.size ≤ i := h
                    exact ⟨by omega, by omega⟩
                clear hmet2
                go_loopg [58] d (fun gg s58 wx => Hid (DiRel w2 n M t d gg s58 wx))
                case atStart => exact Lib.hid ⟨0, by omega, rfl, by rw [if_pos rfl]; exact row_base HMET2.out (Nat.zero_le _), Only.refl _ _⟩
                case round =>
                  obtain ⟨j, hj, rfl, hmet, hO⟩ := hrel.out
                  clear hrel
                  rename World => wy
                  by_cases hjd : j < d
                  · have hjz : (j : Int) < (d : Int) := by omega
                    obtain rfl : j = 0 := by omega
                    obtain ⟨htn, hk⟩ := HDD.out.2.1 (by omega)
                    have hvr := row_only HR2.out hO fun g hg e => by have := (HR2.out.lt g hg).1; omega
                    obtain ⟨g, c', e, _⟩ := row_slice hvr (by omega)
                    simp only [Value.slice.injEq, true_and] at e
                    obtain ⟨rfl, rfl⟩ := e
                    have p0 := irow_at hvr hjd
                    rw [hk] at p0
                    rw [if_pos rfl] at hmet
                    have q0 := irow_at hmet htn
                    rw [metL_at htn, if_neg (by omega)] at q0
                    have ff := hmet.frozenAt t
                    have hlM := (hmet.lt M rfl).2
                    have hst := hmet.stored t (.int .i64 1)
                    rw [metL_next htn] at hst
                    have HSTO := Lib.hid hst
                    have HO := Lib.hid hO
                    have htnz : (t : Int) < (n : Int) := by omega
                    have htn2 : ¬ ((t : Int) ≥ (n : Int)) := by omega
                    clear hmet hO hvr hst hk
                    go_wp2_with fail
                    go_roundg (d - 1)
                    case measure => omega
                    case rel => exact Lib.hid ⟨1, by omega, by go_num, by rw [if_neg (by omega)]; exact HSTO.out.1, HO.out.setCell (p := ⟨M, t, none⟩) (.inl rfl) _⟩
                  · obtain rfl : j = d := by omega
                    have hjz : ¬ ((j : Int) < (j : Int)) := by omega
                    have hme : metL n (if j = 0 then t else t + 1) = metL n (t + 1) := by
                      split
                      · rename_i h0
                        exact (metL_stay (HDD.out.2.2 h0)).symm
                      · rfl
                    rw [hme] at hmet
                    have HMET := Lib.hid hmet
                    have HO := Lib.hid hO
                    clear hmet hO hme
                    go_wp2_with fail
                    go_roundg (E - (t + 1))
                    case measure => omega
                    case rel =>
                      have b2' := HX.out.2.2.2.1.trans (Only.below HY.out.2.2 HX.out.2.2.2.1.size fun i hi => by have := (HX.out.2.2.1 i hi).1; omega)
                      have hcb := (HX.out.2.2.2.2.1.only HY.out.2.2 fun hf => by have := (HX.out.2.2.1 _ hf).1; omega).only HO.out (by show ¬ w.heap.size = M; omega)
                      refine Lib.hid ⟨t + 1, by omega, by go_num, F3, ⟨b2.ps, bmS ⟨ri, fa, (E : Int)⟩ b2.s (1 + (X : Int) + (t : Int))⟩, HY.out.1.only HO.out fun i hi => (HFM.out i hi).2, HOM.out, HDA.out, HFM.out, b2'.trans (Only.below HO.out b2'.size fun i hi => by have : i = M := hi; omega), hcb, ?_⟩
                      refine ⟨HMET.out.1, ?_⟩
                      rcases HMET.out.2 with ⟨h, _⟩ | ⟨g, cap, cur, e, hb, rest⟩
                      · cases h
                      · refine .inr ⟨g, cap, cur, e, ?_, rest⟩
                        have e2 := Value.slice.inj e
                        have e3 := Option.some.inj e2.1
                        have e4 : M = g := congrArg Addr.block e3
                        omega
              · obtain rfl : t = E := by omega
                have htz : ¬ ((t : Int) < (t : Int)) := by omega
                have HX := Lib.hid (And.intro hBd (And.intro hob (And.intro hF2 (And.intro hB (And.intro hC hmet)))))
                have HDA := Lib.hid hda
                clear hBd hob hda hF2 hB hC hmet
                go_wp2_with fail
                rename World => wz
                go_loopg [79] n (fun gg s79 wx => Hid (DcRel wz n gg s79 wx))
                case atStart => exact Lib.hid ⟨0, by omega, rfl, rfl⟩
                case round =>
                  obtain ⟨i, hi, rfl, rfl⟩ := hrel.out
                  clear hrel
                  by_cases hin : i < n
                  · have hiz : (i : Int) < (n : Int) := by omega
                    have q0 := irow_at HX.out.2.2.2.2.2 hin
                    rw [metL_at hin, if_pos (by omega)] at q0
                    go_wp2_with fail
                    go_roundg (n - (i + 1))
                    case measure => omega
                    case rel => exact Lib.hid ⟨i + 1, by omega, by go_num, rfl⟩
                  · obtain rfl : i = n := by omega
                    have hiz : ¬ ((i : Int) < (i : Int)) := by omega
                    go_wp2_with fail
                    go_roundg (3 - (R + 1))
                    case measure => omega
                    case rel => exact Lib.hid ⟨R + 1, by omega, by go_num, F2, b2, HX.out.1, HX.out.2.1, due_round HDA.out hnE, fun i hi => (HX.out.2.2.1 i hi).1, HX.out.2.2.2.1, HX.out.2.2.2.2.1⟩
          · obtain rfl : R = 3 := by omega
            have HBR := Lib.hid hB
            clear hBd hob hda hF1 hB hC
            go_wp2_with (go_at_call 11; refine (HAL.out _).mono ?_; rintro e w3 ⟨rfl, hb3⟩; have HB3 := Lib.hid hb3; clear hb3)
            go_ret
            exact ⟨rfl, HBR.out.trans (HB3.out.mono HBR.out.size)⟩
  · have hof : (okR r && inn m 16) = false := by simpa using hok
    have HOF := Lib.hid hof
    clear hok hof
    go_enter Try.func8, Try.ntmps8
    go_wp2_with fail
    refine HLAY.out.mono ?_
    rintro e w1 ⟨hbw, ⟨h, -⟩ | ⟨-, rfl⟩⟩
    · rw [HOF.out] at h; cases h
    have HB1 := Lib.hid (HB0.out.trans (hbw.mono HB0.out.size))
    clear hbw
    go_wp2_with (go_at_call 11; refine (HAL.out _).mono ?_; rintro e w3 ⟨rfl, hb3⟩; have HB3 := Lib.hid hb3; clear hb3)
    go_ret
    exact ⟨rfl, HB1.out.trans (HB3.out.mono HB1.out.size)⟩

end Go.Proofs.Ytkcndgiiangmjaa
