/-
  Table.Open, Table.Put.
-/
import Derived.Test.YtondjponengedaaLay
namespace Go.Proofs.Ytondjponengedaa
open Go.RowKit
set_option linter.unusedVariables false
set_option linter.unusedSimpArgs false
set_option maxRecDepth 10000

theorem TaS.fullT {w : World} {B : Nat} {k : List Int} {pl : List Pc} {L : List En} (h : TaS w B k pl L) : Calls Try.prog 45 #[.pointer (some ⟨B, 0, none⟩)] w fun e w' => e = .returned (.bool (decide (64 ≤ L.length))) ∧ w = w' :=
  (full_any h.tb).mono fun e w' ⟨h1, h2⟩ => ⟨h1.trans (ret_bool (decide_eq_decide.2 (by rw [cts_at _ 2 (by omega), h.tp.count]; omega))), h2⟩
theorem lif_range (s : Int) : 0 ≤ lif s ∧ lif s ≤ 900 := by unfold lif; repeat' split <;> omega

set_option maxHeartbeats 4000000 in
theorem open_any {w : World} {B : Nat} {k : List Int} {L : List En} (h : Ta w B k L) (f : Fl) (b fl now : Int) (hf : OkF f) :
    Calls Try.prog 27 #[.pointer (some ⟨B, 0, none⟩), fv f, .int .i64 b, .int .i64 fl, .int .i64 now] w fun e w' => e = .returned (.int .i64 (opn L f b fl now).2) ∧ Ta w' B k (opn L f b fl now).1 ∧ Only (· = B) w w' := by
  obtain ⟨pl, h⟩ := h
  have hfw := h.tp.fine.wth ⟨f, b, firstSt f fl, now + lif (firstSt f fl)⟩
  have hb0 : Below w.heap.size w (w.alloc (.cells (fcs f).toArray 37)) := below_alloc (Below.refl _ _) _
  have h0 := h.below hb0
  have HF := Lib.hid (h0.findM f hf)
  have H0 := Lib.hid h0
  have HS1 := Lib.hid (fun w => mayServe_any b w)
  have HS2 := Lib.hid (fun w => maySee_any now w)
  have HFS := Lib.hid (fun w => first_any f fl w)
  have HO0 : Hid (Only (· = B) w (w.alloc (.cells (fcs f).toArray 37))) := Lib.hid ((Only.refl _ w).alloc _)
  have HBX := Lib.hid (Bx.new w (fcs f) 37)
  unfold opn
  rcases hS : okS b with _ | _
  · rw [hS] at HS1
    simp only [Bool.false_and, if_true]
    clear h h0 hb0 HF hfw
    obtain ⟨p, ff, t, o, d⟩ := f
    simp only [fv, fcs] at HO0 ⊢
    go_enter Try.func27, Try.ntmps27
    go_wp2_with (first | (go_at_call 43; refine (HS1.out _).mono ?_; rintro e w' ⟨rfl, rfl⟩))
    go_ret
    exact ⟨rfl, ⟨pl, H0.out⟩, HO0.out⟩
  · rw [hS] at HS1
    rcases hN : okN now with _ | _
    · rw [hN] at HS2
      simp only [Bool.and_false, if_true]
      clear h h0 hb0 HF hfw
      obtain ⟨p, ff, t, o, d⟩ := f
      simp only [fv, fcs] at HO0 ⊢
      go_enter Try.func27, Try.ntmps27
      go_wp2_with (first | (go_at_call 43; refine (HS1.out _).mono ?_; rintro e w' ⟨rfl, rfl⟩) | (go_at_call 44; refine (HS2.out _).mono ?_; rintro e w' ⟨rfl, rfl⟩))
      go_ret
      exact ⟨rfl, ⟨pl, H0.out⟩, HO0.out⟩
    · rw [hN] at HS2
      simp only [Bool.and_self, Bool.true_eq_false, if_false]
      have hnow : 0 ≤ now ∧ now ≤ 1099511626776 := by
        unfold okN at hN
        simp only [Bool.and_eq_true, decide_eq_true_eq] at hN
        exact hN
      by_cases hfull : getF L f = none ∧ 64 ≤ L.length
      · rw [if_pos hfull]
        rw [hfull.1] at HF
        have h64 := hfull.2
        clear h h0 hb0 hfw hfull
        obtain ⟨p, ff, t, o, d⟩ := f
        simp only [fv, fcs, Option.isSome_none] at HF HO0 ⊢
        go_enter Try.func27, Try.ntmps27
        go_wp2_with (first | (go_at_call 43; refine (HS1.out _).mono ?_; rintro e w' ⟨rfl, rfl⟩) | (go_at_call 44; refine (HS2.out _).mono ?_; rintro e w' ⟨rfl, rfl⟩))
        refine HF.out.mono ?_
        rintro e w1 ⟨a, rfl, hm, hb1⟩
        have HT := Lib.hid (H0.out.below hb1)
        have HO : Hid (Only (· = B) w w1) := Lib.hid (HO0.out.trans (Only.of_below (F := (· = B)) hb1) fun j hj => .inl hj)
        have HFU := Lib.hid HT.out.fullT
        rw [decide_eq_true h64] at HFU
        clear hb1 hm
        go_wp2_with (go_at_call 45; refine HFU.out.mono ?_; rintro e w' ⟨rfl, rfl⟩)
        go_ret
        exact ⟨rfl, ⟨pl, HT.out⟩, HO.out⟩
      · rw [if_neg hfull]
        have HFW := Lib.hid (hfw hfull)
        have HG : Hid ((!(getF L f).isSome && decide (64 ≤ L.length)) = false) := Lib.hid (by
          rcases hg : getF L f with _ | x
          · have : ¬ 64 ≤ L.length := fun h64 => hfull ⟨hg, h64⟩
            rw [decide_eq_false (by omega)]; rfl
          · rfl)
        have HOK := Lib.hid hf
        obtain ⟨st, hst⟩ : ∃ st, firstSt f fl = st := ⟨_, rfl⟩
        rw [hst] at HFW HFS ⊢
        obtain ⟨lf, hlf⟩ : ∃ lf, lif st = lf := ⟨_, rfl⟩
        have hlr := lif_range st
        have HLF := Lib.hid (fun w => life_any st w)
        rw [hlf] at HFW HLF hlr ⊢
        have hw : wrap64 (now + lf) = now + lf := by simp only [wrap64]; omega
        clear h h0 hb0 hfw hfull hst hlf hf
        generalize hgs : (getF L f).isSome = is at HF HG
        have HGS := Lib.hid hgs
        clear hgs
        obtain ⟨p, ff, t, o, d⟩ := f
        simp only [fv, fcs] at HF HO0 HFS HBX ⊢
        go_enter Try.func27, Try.ntmps27
        go_wp2_with (first | (go_at_call 43; refine (HS1.out _).mono ?_; rintro e w' ⟨rfl, rfl⟩) | (go_at_call 44; refine (HS2.out _).mono ?_; rintro e w' ⟨rfl, rfl⟩))
        refine HF.out.mono ?_
        rintro e w1 ⟨a, rfl, hm, hb1⟩
        have HT := Lib.hid (H0.out.below hb1)
        have HO : Hid (Only (· = B) w w1) := Lib.hid (HO0.out.trans (Only.of_below (F := (· = B)) hb1) fun j hj => .inl hj)
        have HFU := Lib.hid HT.out.fullT
        generalize decide (64 ≤ L.length) = fu at HFU HG
        have HBX1 := Lib.hid (HBX.out.below hb1)
        have HM := Lib.hid hm
        clear hb1 hm
        have c0 := HBX1.out.cell 0
        have c1 := HBX1.out.cell 1
        have c2 := HBX1.out.cell 2
        have c3 := HBX1.out.cell 3
        have c4 := HBX1.out.cell 4
        simp only [List.getElem?_cons_zero, List.getElem?_cons_succ] at c0 c1 c2 c3 c4
        rcases is with _ | _
        · have hfu : fu = false := by have := HG.out; simpa using this
          rw [hfu] at HFU
          go_wp2_with (first | (go_at_call 45; refine HFU.out.mono ?_; rintro e w' ⟨rfl, rfl⟩))
          refine (HFS.out _).mono ?_
          rintro e w2 ⟨rfl, hb2⟩
          have HT2 := Lib.hid (HT.out.below hb2)
          have HO2 : Hid (Only (· = B) w w2) := Lib.hid (HO.out.trans (Only.of_below (F := (· = B)) hb2) fun j hj => .inl hj)
          have HBX2 := Lib.hid (HBX1.out.below hb2)
          clear c0 c1 c2 c3 c4
          have c0 := HBX2.out.cell 0
          have c1 := HBX2.out.cell 1
          have c2 := HBX2.out.cell 2
          have c3 := HBX2.out.cell 3
          have c4 := HBX2.out.cell 4
          simp only [List.getElem?_cons_zero, List.getElem?_cons_succ] at c0 c1 c2 c3 c4
          have HLAY := Lib.hid (fun q => lay_any (HT2.out.below (below_drewN (Below.refl _ _) q)) ⟨⟨p, ff, t, o, d⟩, b, st, now + lf⟩ HM.out HFW.out HOK.out)
          simp only [ev] at HLAY
          clear hb2
          go_wp2
          refine wp_region_tail 10 (by kernel_rfl) (by kernel_rfl) ?_
          simp only [List.take_succ_cons, List.take_zero, List.drop_succ_cons, List.drop_zero]
          repeat still_step
          still_call (same_turn (HLF.out _))
          repeat still_step
          refine wpStill_nil ?_
          go_wp2_with fail
          refine (HLAY.out 1).mono ?_
          rintro e w3 ⟨rfl, hT3, ho3⟩
          go_wp2
          go_ret
          exact ⟨rfl, hT3, (HO2.out.drewN 1).trans ho3 fun j hj => .inl hj⟩
        · clear HFU
          go_wp2_with fail
          refine (HFS.out _).mono ?_
          rintro e w2 ⟨rfl, hb2⟩
          have HT2 := Lib.hid (HT.out.below hb2)
          have HO2 : Hid (Only (· = B) w w2) := Lib.hid (HO.out.trans (Only.of_below (F := (· = B)) hb2) fun j hj => .inl hj)
          have HBX2 := Lib.hid (HBX1.out.below hb2)
          clear c0 c1 c2 c3 c4
          have c0 := HBX2.out.cell 0
          have c1 := HBX2.out.cell 1
          have c2 := HBX2.out.cell 2
          have c3 := HBX2.out.cell 3
          have c4 := HBX2.out.cell 4
          simp only [List.getElem?_cons_zero, List.getElem?_cons_succ] at c0 c1 c2 c3 c4
          have HLAY := Lib.hid (fun q => lay_any (HT2.out.below (below_drewN (Below.refl _ _) q)) ⟨⟨p, ff, t, o, d⟩, b, st, now + lf⟩ HM.out HFW.out HOK.out)
          simp only [ev] at HLAY
          clear hb2
          go_wp2
          refine wp_region_tail 10 (by kernel_rfl) (by kernel_rfl) ?_
          simp only [List.take_succ_cons, List.take_zero, List.drop_succ_cons, List.drop_zero]
          repeat still_step
          still_call (same_turn (HLF.out _))
          repeat still_step
          refine wpStill_nil ?_
          go_wp2_with fail
          refine (HLAY.out 1).mono ?_
          rintro e w3 ⟨rfl, hT3, ho3⟩
          go_wp2
          go_ret
          exact ⟨rfl, hT3, (HO2.out.drewN 1).trans ho3 fun j hj => .inl hj⟩

end Go.Proofs.Ytondjponengedaa
