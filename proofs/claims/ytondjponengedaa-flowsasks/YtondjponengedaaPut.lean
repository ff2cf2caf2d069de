/-
  Table.Put.
-/
import Derived.Test.YtondjponengedaaOpen
namespace Go.Proofs.Ytondjponengedaa
open Go.RowKit
set_option linter.unusedVariables false
set_option linter.unusedSimpArgs false
set_option maxRecDepth 10000

set_option maxHeartbeats 4000000 in
theorem put_any {w : World} {B : Nat} {k : List Int} {L : List En} (h : Ta w B k L) (e : En) (now : Int) (hf : OkF e.fl) :
    Calls Try.prog 42 #[.pointer (some ⟨B, 0, none⟩), ev e, .int .i64 now] w fun r w' => r = .returned (.int .i64 (put_ L e now).2) ∧ Ta w' B k (put_ L e now).1 ∧ Only (· = B) w w' := by
  obtain ⟨pl, h⟩ := h
  have hfw := h.tp.fine.wth e
  have H := Lib.hid (fun W (hb : Below w.heap.size w W) => h.below hb)
  have HS1 := Lib.hid (fun w => mayBe_any e w)
  have HS2 := Lib.hid (fun w => maySee_any now w)
  have HBX := Lib.hid (Bx.new w (ecs e) 39)
  have HB0 := Lib.hid (below_alloc (Below.refl w.heap.size w) (.cells (ecs e).toArray 39))
  have HOK := Lib.hid hf
  unfold put_
  rcases hS : okE e with _ | _
  · rw [hS] at HS1
    simp only [Bool.false_and, if_true]
    clear h hfw hf hS
    obtain ⟨⟨x1, x2, x3, x4, x5⟩, x6, x7, x8⟩ := e
    simp only [ev, ecs] at HS1 HB0 ⊢
    go_enter Try.func42, Try.ntmps42
    go_wp2_with fail
    refine (HS1.out _).mono ?_
    rintro r w1 ⟨rfl, hb1⟩
    have HB1 := Lib.hid (below_then HB0.out HB0.out.size hb1)
    clear hb1
    go_wp2
    go_ret
    exact ⟨rfl, ⟨pl, H.out _ HB1.out⟩, Only.of_below HB1.out⟩
  · rw [hS] at HS1
    rcases hN : okN now with _ | _
    · rw [hN] at HS2
      simp only [Bool.and_false, if_true]
      clear h hfw hf hS hN
      obtain ⟨⟨x1, x2, x3, x4, x5⟩, x6, x7, x8⟩ := e
      simp only [ev, ecs] at HS1 HB0 ⊢
      go_enter Try.func42, Try.ntmps42
      go_wp2_with fail
      refine (HS1.out _).mono ?_
      rintro r w1 ⟨rfl, hb1⟩
      have HB1 := Lib.hid (below_then HB0.out HB0.out.size hb1)
      clear hb1
      go_wp2_with (go_at_call 44; refine (HS2.out _).mono ?_; rintro e w' ⟨rfl, rfl⟩)
      go_ret
      exact ⟨rfl, ⟨pl, H.out _ HB1.out⟩, Only.of_below HB1.out⟩
    · rw [hN] at HS2
      simp only [Bool.and_self, Bool.true_eq_false, if_false]
      by_cases hfull : getF L e.fl = none ∧ 64 ≤ L.length
      · rw [if_pos hfull]
        have HF := Lib.hid (fun W (hb : Below w.heap.size w W) => (h.below hb).findM e.fl hf)
        rw [hfull.1] at HF
        have h64 := hfull.2
        clear h hfw hf hS hN hfull
        obtain ⟨⟨x1, x2, x3, x4, x5⟩, x6, x7, x8⟩ := e
        simp only [ev, ecs, fv, Option.isSome_none] at HS1 HB0 HF HBX ⊢
        go_enter Try.func42, Try.ntmps42
        go_wp2_with fail
        refine (HS1.out _).mono ?_
        rintro r w1 ⟨rfl, hb1⟩
        have HB1 := Lib.hid (below_then HB0.out HB0.out.size hb1)
        obtain ⟨c0, c1, c2, c3, c4, c5, c6, c7⟩ := (HBX.out.below hb1).eight
        clear hb1
        go_wp2_with (go_at_call 44; refine (HS2.out _).mono ?_; rintro e w' ⟨rfl, rfl⟩)
        refine (HF.out _ HB1.out).mono ?_
        rintro r w2 ⟨a, rfl, hm, hb2⟩
        have HB2 := Lib.hid (below_then HB1.out HB1.out.size hb2)
        have HFU := Lib.hid (H.out _ HB2.out).fullT
        rw [decide_eq_true h64] at HFU
        clear hb2 hm
        go_wp2_with (go_at_call 45; refine HFU.out.mono ?_; rintro e w' ⟨rfl, rfl⟩)
        go_ret
        exact ⟨rfl, ⟨pl, H.out _ HB2.out⟩, Only.of_below HB2.out⟩
      · rw [if_neg hfull]
        have HFW := Lib.hid (hfw hfull)
        have HF := Lib.hid (fun W (hb : Below w.heap.size w W) => (h.below hb).findM e.fl hf)
        have HG : Hid ((!(getF L e.fl).isSome && decide (64 ≤ L.length)) = false) := Lib.hid (by
          rcases hg : getF L e.fl with _ | x
          · have : ¬ 64 ≤ L.length := fun h64 => hfull ⟨hg, h64⟩
            rw [decide_eq_false (by omega)]; rfl
          · rfl)
        have HD := Lib.hid (fun W (hb : Below w.heap.size w W) => drop_any (L := L) ⟨pl, h.below hb⟩ e.fl hf)
        have HLAY := Lib.hid (fun W a (hb : Below w.heap.size w W) hm => lay_any (a := a) (h.below hb) e hm HFW.out HOK.out)
        generalize hgs : (getF L e.fl).isSome = is at HF HG
        clear h hfw hf hS hN hfull hgs
        have hfu0 : ∀ fu, (!is && fu) = false → is = false → fu = false := by intro fu; cases is <;> simp
        by_cases hends : e.ends ≤ now
        · rw [if_pos hends]
          obtain ⟨⟨x1, x2, x3, x4, x5⟩, x6, x7, x8⟩ := e
          simp only at hends
          have hz : decide (x8 ≤ now) = true := decide_eq_true hends
          simp only [ev, ecs, fv] at HS1 HB0 HF HBX HD HLAY ⊢
          clear hends
          go_enter Try.func42, Try.ntmps42
          go_wp2_with fail
          refine (HS1.out _).mono ?_
          rintro r w1 ⟨rfl, hb1⟩
          have HB1 := Lib.hid (below_then HB0.out HB0.out.size hb1)
          have HBX1 := Lib.hid (HBX.out.below hb1)
          obtain ⟨c0, c1, c2, c3, c4, c5, c6, c7⟩ := HBX1.out.eight
          clear hb1
          go_wp2_with (go_at_call 44; refine (HS2.out _).mono ?_; rintro e w' ⟨rfl, rfl⟩)
          refine (HF.out _ HB1.out).mono ?_
          rintro r w2 ⟨a, rfl, hm, hb2⟩
          have HB2 := Lib.hid (below_then HB1.out HB1.out.size hb2)
          have HFU := Lib.hid (H.out _ HB2.out).fullT
          clear c0 c1 c2 c3 c4 c5 c6 c7
          obtain ⟨c0, c1, c2, c3, c4, c5, c6, c7⟩ := (HBX1.out.below hb2).eight
          generalize decide (64 ≤ L.length) = fu at HFU HG
          clear hb2 hm
          rcases is with _ | _
          · have hfu : fu = false := hfu0 fu HG.out rfl
            rw [hfu] at HFU
            go_wp2_with (go_at_call 45; refine HFU.out.mono ?_; rintro e w' ⟨rfl, rfl⟩)
            refine (HD.out _ HB2.out).mono ?_
            rintro r w3 ⟨rfl, hT3, ho3⟩
            go_wp2
            go_ret
            exact ⟨rfl, hT3, (Only.of_below HB2.out).trans ho3 fun j hj => .inl hj⟩
          · go_wp2_with fail
            refine (HD.out _ HB2.out).mono ?_
            rintro r w3 ⟨rfl, hT3, ho3⟩
            go_wp2
            go_ret
            exact ⟨rfl, hT3, (Only.of_below HB2.out).trans ho3 fun j hj => .inl hj⟩
        · rw [if_neg hends]
          obtain ⟨⟨x1, x2, x3, x4, x5⟩, x6, x7, x8⟩ := e
          simp only at hends
          have hz : decide (x8 ≤ now) = false := decide_eq_false hends
          simp only [ev, ecs, fv] at HS1 HB0 HF HBX HD HLAY ⊢
          clear hends
          go_enter Try.func42, Try.ntmps42
          go_wp2_with fail
          refine (HS1.out _).mono ?_
          rintro r w1 ⟨rfl, hb1⟩
          have HB1 := Lib.hid (below_then HB0.out HB0.out.size hb1)
          have HBX1 := Lib.hid (HBX.out.below hb1)
          obtain ⟨c0, c1, c2, c3, c4, c5, c6, c7⟩ := HBX1.out.eight
          clear hb1
          go_wp2_with (go_at_call 44; refine (HS2.out _).mono ?_; rintro e w' ⟨rfl, rfl⟩)
          refine (HF.out _ HB1.out).mono ?_
          rintro r w2 ⟨a, rfl, hm, hb2⟩
          have HB2 := Lib.hid (below_then HB1.out HB1.out.size hb2)
          have HFU := Lib.hid (H.out _ HB2.out).fullT
          have HM := Lib.hid hm
          clear c0 c1 c2 c3 c4 c5 c6 c7
          obtain ⟨c0, c1, c2, c3, c4, c5, c6, c7⟩ := (HBX1.out.below hb2).eight
          generalize decide (64 ≤ L.length) = fu at HFU HG
          clear hb2 hm
          rcases is with _ | _
          · have hfu : fu = false := hfu0 fu HG.out rfl
            rw [hfu] at HFU
            go_wp2_with (go_at_call 45; refine HFU.out.mono ?_; rintro e w' ⟨rfl, rfl⟩)
            refine (HLAY.out _ _ HB2.out HM.out).mono ?_
            rintro r w3 ⟨rfl, hT3, ho3⟩
            go_wp2
            go_ret
            exact ⟨rfl, hT3, (Only.of_below HB2.out).trans ho3 fun j hj => .inl hj⟩
          · go_wp2_with fail
            refine (HLAY.out _ _ HB2.out HM.out).mono ?_
            rintro r w3 ⟨rfl, hT3, ho3⟩
            go_wp2
            go_ret
            exact ⟨rfl, hT3, (Only.of_below HB2.out).trans ho3 fun j hj => .inl hj⟩

end Go.Proofs.Ytondjponengedaa
