/-
  What the function of HealthProbes does, whatever rule, state and tellings it is given.
-/
import Derived.Test.YtkcndgiiangmjaaFrame
import Derived.Test.YtkcndgiiangmjaaAlive
import Derived.Test.YtkcndgiiangmjaaRsm
namespace Go.Proofs.Ytkcndgiiangmjaa
open Go.RowKit Go.Maps
set_option linter.unusedVariables false
set_option linter.unusedSimpArgs false
set_option maxRecDepth 10000

/-- What tellings leave. -/
def runP (r : Ru) (p : Pr) (l : List Bool) : Pr := l.foldl (fun p g => tellP r p g) p
theorem runP_next (r : Ru) (p : Pr) (l : List Bool) {j : Nat} (h : j < l.length) : runP r p (l.take (j + 1)) = tellP r (runP r p (l.take j)) l[j]! := by
  rw [List.take_add_one, List.getElem?_eq_getElem h, getElem!_pos l j h]
  unfold runP
  rw [List.foldl_append]
  rfl
theorem runP_ok {r : Ru} (hr : okR r = true) {p : Pr} (hp : okP r p) (l : List Bool) : okP r (runP r p l) := by
  unfold runP
  induction l generalizing p with
  | nil => exact hp
  | cons x m ih => exact ih (okP_tell hr hp x)
def PrRel (w : World) (p N : Nat) (r : Ru) (up : Bool) (l : List Bool) (n gg : Nat) (s56 : Value) (wr : World) : Prop :=
  ∃ j : Nat, j + gg = n ∧ s56 = .int .i64 (j : Int) ∧ PbAt wr p r (runP r ⟨up, 0⟩ (l.take j)) ∧ Below w.heap.size w wr ∧ Cb wr w.heap.size 23 [.int .i64 r.rise, .int .i64 r.fall, .int .i64 r.every] ∧
    Cb wr N 33 [.bool (runP r ⟨up, 0⟩ (l.take j)).up, .int .i64 (runP r ⟨up, 0⟩ (l.take j)).run]

set_option maxHeartbeats 4000000 in
theorem probes_walk (r : Ru) (up : Bool) (a : Option Addr) (n c : Nat) (l : List Bool) (w : World) (hS : Told w a n c l) :
    Calls Try.prog 3 #[ruv r, .bool up, .slice a n c] w fun e w' => e = .returned (.bool true) ∧ Below w.heap.size w w' := by
  have HS := Lib.hid hS
  have HLN := Lib.hid hS.1
  have HAL := Lib.hid (fun w => alive_any w)
  have hb0 : Below w.heap.size w (w.alloc (.cells #[.int .i64 r.rise, .int .i64 r.fall, .int .i64 r.every] 23)) := below_alloc (Below.refl _ _) _
  have HCB0 := Lib.hid (Cb.new3 w (.int .i64 r.rise) (.int .i64 r.fall) (.int .i64 r.every) 23)
  have hnew := pnew_any (w.alloc (.cells #[.int .i64 r.rise, .int .i64 r.fall, .int .i64 r.every] 23)) r up
  have HRI := Lib.hid (fun w => right_any w r)
  have HB0 := Lib.hid hb0
  unfold ruv at hnew HRI ⊢
  have HNEW := Lib.hid hnew
  have hnc := hS.2.1
  clear hnew hb0 hS
  by_cases hok : okR r = true
  · have HOK := Lib.hid hok
    rw [hok] at HRI
    clear hok
    by_cases hbig : n > 2000
    · have hbz : (n : Int) > 2000 := by omega
      go_enter Try.func3, Try.ntmps3
      go_wp2_with fail
      refine HNEW.out.mono ?_
      rintro e w1 ⟨hbw, ⟨-, p, rfl, hp, hP⟩ | ⟨h, -⟩⟩
      rotate_left
      · rw [HOK.out] at h; cases h
      have HB1 := Lib.hid (HB0.out.trans (hbw.mono HB0.out.size))
      obtain ⟨c0, c1, c2⟩ := (HCB0.out.below hbw).three
      clear hbw hP hp
      go_wp2_with (first
        | (go_at_call 10; refine (HRI.out _).mono ?_; rintro e w2 ⟨rfl, hb2⟩; have HB2 := Lib.hid hb2; clear hb2)
        | (go_at_call 11; refine (HAL.out _).mono ?_; rintro e w3 ⟨rfl, hb3⟩; have HB3 := Lib.hid hb3; clear hb3))
      go_ret
      have b2 := HB1.out.trans (HB2.out.mono HB1.out.size)
      exact ⟨rfl, b2.trans (HB3.out.mono b2.size)⟩
    · have hbz : ¬ ((n : Int) > 2000) := by omega
      go_enter Try.func3, Try.ntmps3
      go_wp2_with fail
      refine HNEW.out.mono ?_
      rintro e w1 ⟨hbw, ⟨-, p, rfl, hp, hP⟩ | ⟨h, -⟩⟩
      rotate_left
      · rw [HOK.out] at h; cases h
      have hps : w.heap.size < p := by simp at hp; omega
      have HB1 := Lib.hid (HB0.out.trans (hbw.mono HB0.out.size))
      have HC1 := Lib.hid (HCB0.out.below hbw)
      have HP1 := Lib.hid hP
      obtain ⟨c0, c1, c2⟩ := HC1.out.three
      clear hbw hP hp HNEW HB0 HCB0
      go_wp2_with (go_at_call 10; refine (HRI.out _).mono ?_; rintro e w2 ⟨rfl, hb2⟩; have HB2 := Lib.hid hb2; clear hb2)
      obtain ⟨N, hN⟩ : ∃ N, w2.heap.size = N := ⟨_, rfl⟩
      have hpN : p < N := by have := HP1.out.lt; have := HB2.out.size; omega
      have hwN : w.heap.size < N := by omega
      have HST : Hid (PbAt (w2.alloc (.cells #[.bool up, .int .i64 0] 33)) p r ⟨up, 0⟩ ∧ Below w.heap.size w (w2.alloc (.cells #[.bool up, .int .i64 0] 33)) ∧ Cb (w2.alloc (.cells #[.bool up, .int .i64 0] 33)) w.heap.size 23 [.int .i64 r.rise, .int .i64 r.fall, .int .i64 r.every] ∧ Cb (w2.alloc (.cells #[.bool up, .int .i64 0] 33)) N 33 [.bool up, .int .i64 0]) := Lib.hid (by
        have hba := below_alloc (Below.refl w2.heap.size w2) (.cells #[.bool up, .int .i64 0] 33)
        have b2 := HB1.out.trans (HB2.out.mono HB1.out.size)
        exact ⟨(HP1.out.below HB2.out).below hba, b2.trans (hba.mono b2.size), (HC1.out.below HB2.out).below hba, by rw [← hN]; exact Cb.new2 w2 _ _ 33⟩)
      rw [hN]
      clear c0 c1 c2 HRI HP1 HC1 HB1 HB2 hN
      go_loopg [56] n (fun gg s56 wr => Hid (PrRel w p N r up l n gg s56 wr))
      case atStart => exact Lib.hid ⟨0, by omega, rfl, HST.out⟩
      case round =>
        obtain ⟨j, hj, rfl, hP, hB, hC, hQ⟩ := hrel.out
        clear hrel HST
        by_cases hjn : j < n
        · have hjz : (j : Int) < (n : Int) := by omega
          obtain ⟨b, off, rfl, hbb, d0⟩ := (HS.out.below hB).at hjn
          have hnx := runP_next r ⟨up, 0⟩ l (j := j) (by rw [← HLN.out]; exact hjn)
          have hokp := runP_ok HOK.out (okP_new HOK.out up) (l.take j)
          generalize l[j]! = good at d0 hnx
          generalize runP r ⟨up, 0⟩ (l.take j) = P at hP hC hQ hnx hokp
          have HNX := Lib.hid hnx
          have hrt := fun w => rtell_any w HOK.out hokp good
          simp only [ruv, prv] at hrt
          have HTE := Lib.hid (fun (W : World) (h : PbAt W p r P) => tell_any h HOK.out hokp good)
          have HRT := Lib.hid hrt
          obtain ⟨tc, htc⟩ : ∃ tc, tellC r P good = tc := ⟨_, rfl⟩
          rw [htc] at HTE HRT
          obtain ⟨P', hP'⟩ : ∃ P', tellP r P good = P' := ⟨_, rfl⟩
          rw [hP'] at HTE HRT HNX
          obtain ⟨u1, r1⟩ := P'
          obtain ⟨c0, c1, c2⟩ := hC.three
          have hl0 := hC.lt
          obtain ⟨q0, q1⟩ := hQ.two
          have hlN := hQ.lt
          have HX := Lib.hid (And.intro hP (And.intro hB (And.intro hC hQ)))
          clear hP hB hC hQ hnx hokp hrt htc hP'
          go_wp2_with (go_at_call 12; refine (HRT.out _).mono ?_; rintro e w3 ⟨rfl, hb3⟩; have hq3 := HX.out.2.2.2.below hb3; have hlN3 := hq3.lt; have fN := hq3.free; clear c0 c1 c2 q0 q1; obtain ⟨q0, q1⟩ := hq3.two; have HB3 := Lib.hid hb3; clear hb3 hq3)
          have ho5 : Only (fun i => i = N) w3 (((w3.setCell ⟨N, 0, none⟩ (.bool u1)).setCell ⟨N, 1, none⟩ (.int .i64 r1)).alloc (.cells #[.bool u1, .int .i64 r1] 33)) := Only.alloc (Only.setCell (F := fun i => i = N) (Only.setCell (F := fun i => i = N) (Only.refl (fun i => i = N) w3) (p := ⟨N, 0, none⟩) (Or.inl rfl) _) (p := ⟨N, 1, none⟩) (Or.inl rfl) _) _
          have hq5 : Cb (((w3.setCell ⟨N, 0, none⟩ (.bool u1)).setCell ⟨N, 1, none⟩ (.int .i64 r1)).alloc (.cells #[.bool u1, .int .i64 r1] 33)) N 33 [.bool u1, .int .i64 r1] := (((HX.out.2.2.2.below HB3.out).setAt 0 (.bool u1)).setAt 1 (.int .i64 r1)).alloc _
          obtain ⟨w5, hw5⟩ : ∃ X, X = ((w3.setCell ⟨N, 0, none⟩ (.bool u1)).setCell ⟨N, 1, none⟩ (.int .i64 r1)).alloc (.cells #[.bool u1, .int .i64 r1] 33) := ⟨_, rfl⟩
          rw [← hw5] at ho5 hq5 ⊢
          have HO5 := Lib.hid (((Only.of_below (F := fun i => i = N) HB3.out).trans ho5 fun i hi => .inl hi))
          have HQ5 := Lib.hid hq5
          have HP5 := Lib.hid ((HX.out.1.only HO5.out (by show ¬ p = N; omega)).below (below_drew (Below.refl _ _)))
          have HC5 := Lib.hid (HX.out.2.2.1.only HO5.out (by show ¬ w.heap.size = N; omega))
          have HB5 := Lib.hid (HX.out.2.1.trans (Only.below HO5.out HX.out.2.1.size fun i hi => by have : i = N := hi; omega))
          have HTW := Lib.hid (HTE.out _ HP5.out)
          have z1 : (tc != tc) = false := by simp
          have z2 : (u1 != u1) = false := by simp
          clear ho5 hq5 hw5 hlN3 fN q0 q1
          refine wp_region_held_drew (S := fun X => Cb X N 33 [.bool u1, .int .i64 r1]) (by kernel_rfl) HQ5.out.drew (fun hHeld => ?_)
          refine wpAnyH_take (i := 0) (oi := ({ dst := some 68, op := Go.Op.move (Go.Operand.tmp 7), type := 25, pos := _, after := #[], guard := none } : Oper)) (v := ?_) rfl (by kernel_rfl) (by kernel_rfl) (by kernel_rfl) (fun _ _ _ h => h) (Or.inl ⟨by rfl, ?_⟩) (by assumption) ?_
          rotate_left
          · intro W' hSw
            try dsimp only at hSw
            go_simp
            try with_reducible rfl
          try simp only [Act.put, List.setIfInBounds_toArray, List.set_cons_zero, List.set_cons_succ]
          refine wpAnyH_take (i := 1) (oi := ({ dst := some 69, op := Go.Op.move (Go.Operand.tmp 11), type := 4, pos := _, after := #[], guard := none } : Oper)) (v := ?_) rfl (by kernel_rfl) (by kernel_rfl) (by kernel_rfl) (fun _ _ _ h => h) (Or.inl ⟨by rfl, ?_⟩) (by assumption) ?_
          rotate_left
          · intro W' hSw
            try dsimp only at hSw
            go_simp
            try with_reducible rfl
          try simp only [Act.put, List.setIfInBounds_toArray, List.set_cons_zero, List.set_cons_succ]
          refine wpAnyH_take (i := 3) (oi := ({ dst := some 71, op := Go.Op.move (Go.Operand.tmp 13), type := 4, pos := _, after := #[], guard := none } : Oper)) (v := ?_) rfl (by kernel_rfl) (by kernel_rfl) (by kernel_rfl) (fun _ _ _ h => h) (Or.inl ⟨by rfl, ?_⟩) (by assumption) ?_
          rotate_left
          · intro W' hSw
            try dsimp only at hSw
            go_simp
            try with_reducible rfl
          try simp only [Act.put, List.setIfInBounds_toArray, List.set_cons_zero, List.set_cons_succ]
          refine wpAnyH_ready (rs := [2]) (by kernel_rfl) (by simp) ?_
          refine AllReadyH.cons (o := ({ dst := some 70, op := Go.Op.call { callee := Go.Callee.value (Go.Operand.func 13), args := #[Go.Operand.tmp 68, Go.Operand.tmp 69], argTypes := #[25, 4] }, type := 4, pos := _, after := #[{ on := 0, ground := Go.Ground.data }, { on := 1, ground := Go.Ground.data }], guard := none } : Oper)) rfl (fun K hK => ?_) AllReadyH.nil
          go_simp
          refine HTW.out.mono ?_
          rintro e w6 ⟨rfl, hp6, ho6⟩
          go_wp2_with fail
          refine hK.out _ _ ?_ (fun hHeld => ?_)
          · exact hHeld.only ho6 (by omega)
          clear hK K
          try simp only [Act.put, List.setIfInBounds_toArray, List.set_cons_zero, List.set_cons_succ]
          have HX6 := Lib.hid (And.intro hp6 ho6)
          clear hp6 ho6
          refine wpAnyH_take (i := 4) (oi := ({ dst := some 72, op := Go.Op.binOp Go.BinOp.neq 4 (Go.Operand.tmp 70) (Go.Operand.tmp 71) 4, type := 4, pos := _, after := #[{ on := 2, ground := Go.Ground.data }, { on := 3, ground := Go.Ground.data }], guard := none } : Oper)) (v := ?_) rfl (by kernel_rfl) (by kernel_rfl) (by kernel_rfl) (fun _ _ _ h => h) (Or.inl ⟨by rfl, ?_⟩) (by assumption) ?_
          rotate_left
          · intro W' hSw
            try dsimp only at hSw
            go_simp
            try with_reducible rfl
          try simp only [Act.put, List.setIfInBounds_toArray, List.set_cons_zero, List.set_cons_succ]
          refine wpAnyH_take (i := 5) (oi := ({ dst := some 73, op := Go.Op.move (Go.Operand.tmp 72), type := 4, pos := _, after := #[{ on := 4, ground := Go.Ground.data }, { on := 2, ground := Go.Ground.chain }], guard := none } : Oper)) (v := ?_) rfl (by kernel_rfl) (by kernel_rfl) (by kernel_rfl) (fun _ _ _ h => h) (Or.inl ⟨by rfl, ?_⟩) (by assumption) ?_
          rotate_left
          · intro W' hSw
            try dsimp only at hSw
            go_simp
            try with_reducible rfl
          try simp only [Act.put, List.setIfInBounds_toArray, List.set_cons_zero, List.set_cons_succ]
          refine wpAnyH_take (i := 6) (oi := ({ dst := some 74, op := Go.Op.move (Go.Operand.tmp 7), type := 25, pos := _, after := #[{ on := 5, ground := Go.Ground.guard }], guard := some (5, false) } : Oper)) (v := ?_) rfl (by kernel_rfl) (by kernel_rfl) (by kernel_rfl) (fun _ _ _ h => h) (Or.inl ⟨by rfl, ?_⟩) (by assumption) ?_
          rotate_left
          · intro W' hSw
            try dsimp only at hSw
            go_simp
            try with_reducible rfl
          try simp only [Act.put, List.setIfInBounds_toArray, List.set_cons_zero, List.set_cons_succ]
          refine wpAnyH_take (i := 8) (oi := ({ dst := some 76, op := Go.Op.fieldAddr 33 (Go.Operand.tmp 9) 0, type := 0, pos := _, after := #[{ on := 5, ground := Go.Ground.guard }], guard := some (5, false) } : Oper)) (v := ?_) rfl (by kernel_rfl) (by kernel_rfl) (by kernel_rfl) (fun _ _ _ h => h) (Or.inl ⟨by rfl, ?_⟩) (by assumption) ?_
          rotate_left
          · intro W' hSw
            try dsimp only at hSw
            go_simp
            try with_reducible rfl
          try simp only [Act.put, List.setIfInBounds_toArray, List.set_cons_zero, List.set_cons_succ]
          refine wpAnyH_take (i := 9) (oi := ({ dst := some 77, op := Go.Op.load 4 (Go.Operand.tmp 76), type := 4, pos := _, after := #[{ on := 8, ground := Go.Ground.data }, { on := 5, ground := Go.Ground.guard }], guard := some (5, false) } : Oper)) (v := ?_) rfl (by kernel_rfl) (by kernel_rfl) (by kernel_rfl) (fun _ _ _ h => h) (Or.inl ⟨by rfl, ?_⟩) (by assumption) ?_
          rotate_left
          · intro W' hSw
            try dsimp only at hSw
            obtain ⟨q0, q1⟩ := hSw.two
            go_simp
            try with_reducible rfl
          try simp only [Act.put, List.setIfInBounds_toArray, List.set_cons_zero, List.set_cons_succ]
          refine wpAnyH_ready (rs := [7]) (by kernel_rfl) (by simp) ?_
          refine AllReadyH.cons (o := ({ dst := some 75, op := Go.Op.call { callee := Go.Callee.value (Go.Operand.func 14), args := #[Go.Operand.tmp 74], argTypes := #[25] }, type := 4, pos := _, after := #[{ on := 6, ground := Go.Ground.data }, { on := 5, ground := Go.Ground.chain }, { on := 5, ground := Go.Ground.guard }], guard := some (5, false) } : Oper)) rfl (fun K hK => ?_) AllReadyH.nil
          go_simp
          refine (up_any HX6.out.1).mono ?_
          rintro e w7 ⟨rfl, rfl⟩
          go_wp2_with fail
          refine hK.out _ _ ?_ (fun hHeld => ?_)
          · exact hHeld
          clear hK K
          try simp only [Act.put, List.setIfInBounds_toArray, List.set_cons_zero, List.set_cons_succ]
          refine wpAnyH_take (i := 10) (oi := ({ dst := some 78, op := Go.Op.binOp Go.BinOp.neq 4 (Go.Operand.tmp 75) (Go.Operand.tmp 77) 4, type := 4, pos := _, after := #[{ on := 7, ground := Go.Ground.data }, { on := 9, ground := Go.Ground.data }, { on := 5, ground := Go.Ground.guard }], guard := some (5, false) } : Oper)) (v := ?_) rfl (by kernel_rfl) (by kernel_rfl) (by kernel_rfl) (fun _ _ _ h => h) (Or.inl ⟨by rfl, ?_⟩) (by assumption) ?_
          rotate_left
          · intro W' hSw
            try dsimp only at hSw
            go_simp
            try with_reducible rfl
          try simp only [Act.put, List.setIfInBounds_toArray, List.set_cons_zero, List.set_cons_succ]
          refine wpAnyH_take (i := 11) (oi := ({ dst := some 79, op := Go.Op.pick (Go.Operand.tmp 73) (Go.Operand.const (Go.Value.bool true)) (Go.Operand.tmp 78), type := 4, pos := _, after := #[{ on := 5, ground := Go.Ground.data }, { on := 10, ground := Go.Ground.data }], guard := none } : Oper)) (v := ?_) rfl (by kernel_rfl) (by kernel_rfl) (by kernel_rfl) (fun _ _ _ h => h) (Or.inl ⟨by rfl, ?_⟩) (by assumption) ?_
          rotate_left
          · intro W' hSw
            try dsimp only at hSw
            go_simp
            try with_reducible rfl
          try simp only [Act.put, List.setIfInBounds_toArray, List.set_cons_zero, List.set_cons_succ]
          refine wpAnyH_take (i := 12) (oi := ({ dst := some 80, op := Go.Op.move (Go.Operand.tmp 79), type := 4, pos := _, after := #[{ on := 11, ground := Go.Ground.data }, { on := 7, ground := Go.Ground.chain }], guard := none } : Oper)) (v := ?_) rfl (by kernel_rfl) (by kernel_rfl) (by kernel_rfl) (fun _ _ _ h => h) (Or.inl ⟨by rfl, ?_⟩) (by assumption) ?_
          rotate_left
          · intro W' hSw
            try dsimp only at hSw
            go_simp
            try with_reducible rfl
          try simp only [Act.put, List.setIfInBounds_toArray, List.set_cons_zero, List.set_cons_succ]
          refine wpAnyH_take (i := 13) (oi := ({ dst := some 81, op := Go.Op.move (Go.Operand.tmp 7), type := 25, pos := _, after := #[{ on := 12, ground := Go.Ground.guard }], guard := some (12, false) } : Oper)) (v := ?_) rfl (by kernel_rfl) (by kernel_rfl) (by kernel_rfl) (fun _ _ _ h => h) (Or.inl ⟨by rfl, ?_⟩) (by assumption) ?_
          rotate_left
          · intro W' hSw
            try dsimp only at hSw
            go_simp
            try with_reducible rfl
          try simp only [Act.put, List.setIfInBounds_toArray, List.set_cons_zero, List.set_cons_succ]
          refine wpAnyH_take (i := 15) (oi := ({ dst := some 83, op := Go.Op.fieldAddr 33 (Go.Operand.tmp 9) 1, type := 0, pos := _, after := #[{ on := 12, ground := Go.Ground.guard }], guard := some (12, false) } : Oper)) (v := ?_) rfl (by kernel_rfl) (by kernel_rfl) (by kernel_rfl) (fun _ _ _ h => h) (Or.inl ⟨by rfl, ?_⟩) (by assumption) ?_
          rotate_left
          · intro W' hSw
            try dsimp only at hSw
            go_simp
            try with_reducible rfl
          try simp only [Act.put, List.setIfInBounds_toArray, List.set_cons_zero, List.set_cons_succ]
          refine wpAnyH_take (i := 16) (oi := ({ dst := some 84, op := Go.Op.load 3 (Go.Operand.tmp 83), type := 3, pos := _, after := #[{ on := 15, ground := Go.Ground.data }, { on := 12, ground := Go.Ground.guard }], guard := some (12, false) } : Oper)) (v := ?_) rfl (by kernel_rfl) (by kernel_rfl) (by kernel_rfl) (fun _ _ _ h => h) (Or.inl ⟨by rfl, ?_⟩) (by assumption) ?_
          rotate_left
          · intro W' hSw
            try dsimp only at hSw
            obtain ⟨q0, q1⟩ := hSw.two
            go_simp
            try with_reducible rfl
          try simp only [Act.put, List.setIfInBounds_toArray, List.set_cons_zero, List.set_cons_succ]
          refine wpAnyH_ready (rs := [14]) (by kernel_rfl) (by simp) ?_
          refine AllReadyH.cons (o := ({ dst := some 82, op := Go.Op.call { callee := Go.Callee.value (Go.Operand.func 15), args := #[Go.Operand.tmp 81], argTypes := #[25] }, type := 3, pos := _, after := #[{ on := 13, ground := Go.Ground.data }, { on := 12, ground := Go.Ground.chain }, { on := 12, ground := Go.Ground.guard }], guard := some (12, false) } : Oper)) rfl (fun K hK => ?_) AllReadyH.nil
          go_simp
          refine (run_any HX6.out.1).mono ?_
          rintro e w7 ⟨rfl, rfl⟩
          go_wp2_with fail
          refine hK.out _ _ ?_ (fun hHeld => ?_)
          · exact hHeld
          clear hK K
          try simp only [Act.put, List.setIfInBounds_toArray, List.set_cons_zero, List.set_cons_succ]
          have HHC := Lib.hid hHeld
          refine wpAnyH_take (i := 17) (oi := ({ dst := some 85, op := Go.Op.binOp Go.BinOp.neq 3 (Go.Operand.tmp 82) (Go.Operand.tmp 84) 3, type := 4, pos := _, after := #[{ on := 14, ground := Go.Ground.data }, { on := 16, ground := Go.Ground.data }, { on := 12, ground := Go.Ground.guard }], guard := some (12, false) } : Oper)) (v := ?_) rfl (by kernel_rfl) (by kernel_rfl) (by kernel_rfl) (fun _ _ _ h => h) (Or.inl ⟨by rfl, ?_⟩) (by assumption) ?_
          rotate_left
          · intro W' hSw
            try dsimp only at hSw
            go_simp
            try with_reducible rfl
          try simp only [Act.put, List.setIfInBounds_toArray, List.set_cons_zero, List.set_cons_succ]
          refine wpAnyH_take (i := 18) (oi := ({ dst := some 86, op := Go.Op.pick (Go.Operand.tmp 80) (Go.Operand.const (Go.Value.bool true)) (Go.Operand.tmp 85), type := 4, pos := _, after := #[{ on := 12, ground := Go.Ground.data }, { on := 17, ground := Go.Ground.data }], guard := none } : Oper)) (v := ?_) rfl (by kernel_rfl) (by kernel_rfl) (by kernel_rfl) (fun _ _ _ h => h) (Or.inl ⟨by rfl, ?_⟩) (by assumption) ?_
          rotate_left
          · intro W' hSw
            try dsimp only at hSw
            go_simp
            try with_reducible rfl
          try simp only [Act.put, List.setIfInBounds_toArray, List.set_cons_zero, List.set_cons_succ]
          refine wpAnyH_done (by kernel_rfl) ?_ _
          go_wp2
          go_roundg (n - (j + 1))
          case measure => omega
          case rel =>
            have hs5 := HB5.out.size
            refine Lib.hid ⟨j + 1, by omega, by go_num, ?_, (below_drew HB5.out).trans (Only.below HX6.out.2 (by exact hs5) fun i hi => by have : i = p := hi; omega), HC5.out.drew.only HX6.out.2 (by omega), ?_⟩
            · rw [HNX.out]; exact HX6.out.1
            · rw [HNX.out]; exact HHC.out
        · obtain rfl : j = n := by omega
          have HBR := Lib.hid hB
          clear hP hB hC hQ
          go_wp2_with (go_at_call 11; refine (HAL.out _).mono ?_; rintro e w3 ⟨rfl, hb3⟩; have HB3 := Lib.hid hb3; clear hb3)
          go_ret
          exact ⟨rfl, HBR.out.trans (HB3.out.mono HBR.out.size)⟩
  · have hof : okR r = false := by simpa using hok
    have HOF := Lib.hid hof
    rw [hof] at HRI
    clear hok hof
    go_enter Try.func3, Try.ntmps3
    go_wp2_with fail
    refine HNEW.out.mono ?_
    rintro e w1 ⟨hbw, ⟨h, -⟩ | ⟨-, rfl⟩⟩
    · rw [HOF.out] at h; cases h
    have HB1 := Lib.hid (HB0.out.trans (hbw.mono HB0.out.size))
    obtain ⟨c0, c1, c2⟩ := (HCB0.out.below hbw).three
    clear hbw
    go_wp2_with (first
      | (go_at_call 10; refine (HRI.out _).mono ?_; rintro e w2 ⟨rfl, hb2⟩; have HB2 := Lib.hid hb2; clear hb2)
      | (go_at_call 11; refine (HAL.out _).mono ?_; rintro e w3 ⟨rfl, hb3⟩; have HB3 := Lib.hid hb3; clear hb3))
    go_ret
    have b2 := HB1.out.trans (HB2.out.mono HB1.out.size)
    exact ⟨rfl, b2.trans (HB3.out.mono b2.size)⟩

end Go.Proofs.Ytkcndgiiangmjaa
