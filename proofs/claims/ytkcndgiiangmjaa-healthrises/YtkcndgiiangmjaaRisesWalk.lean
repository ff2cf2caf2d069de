/-
  What the function of HealthRises does, whatever rule it is given.
-/
import Derived.Test.YtkcndgiiangmjaaFrame
import Derived.Test.YtkcndgiiangmjaaAlive
import Derived.Test.YtkcndgiiangmjaaRsm
namespace Go.Proofs.Ytkcndgiiangmjaa
open Go.RowKit Go.Maps
set_option linter.unusedVariables false
set_option linter.unusedSimpArgs false
set_option maxRecDepth 10000

/-- Who is told the same, again and again. -/
def stU (u : Bool) (a j : Nat) : Pr := if j < a then ⟨u, (j : Int)⟩ else ⟨!u, 0⟩
theorem stU_less {u : Bool} {a j : Nat} (h : j < a) : stU u a j = ⟨u, (j : Int)⟩ := if_pos h
theorem stU_end {u : Bool} {a : Nat} : stU u a a = ⟨!u, 0⟩ := if_neg (by omega)
theorem stU_step {r : Ru} {u : Bool} {a j : Nat} (ha : enough r u = (a : Int)) (h : j < a) : tellP r ⟨u, (j : Int)⟩ (!u) = stU u a (j + 1) ∧ tellC r ⟨u, (j : Int)⟩ (!u) = decide (j + 1 = a) := by
  by_cases h2 : j + 1 < a
  · obtain ⟨e1, e2⟩ := @tell_less r ⟨u, (j : Int)⟩ (!u) rfl (by show (j : Int) + 1 < enough r u; omega)
    rw [e1, e2, stU_less h2]
    exact ⟨by simp, (decide_eq_false (by omega)).symm⟩
  · obtain ⟨e1, e2⟩ := @tell_turn r ⟨u, (j : Int)⟩ (!u) rfl (by show ¬ (j : Int) + 1 < enough r u; omega)
    have e3 : j + 1 = a := by omega
    rw [e1, e2, e3, stU_end]
    exact ⟨rfl, (decide_eq_true rfl).symm⟩
def RsRel (w : World) (p : Nat) (r : Ru) (u : Bool) (a gg : Nat) (s5 : Value) (wr : World) : Prop :=
  ∃ j : Nat, j + gg = a ∧ s5 = .int .i64 ((j : Int) + 1) ∧ PbAt wr p r (stU u a j) ∧ Below w.heap.size w wr ∧ Cb wr w.heap.size 23 [.int .i64 r.rise, .int .i64 r.fall, .int .i64 r.every]

set_option maxHeartbeats 4000000 in
theorem rises_walk (r : Ru) (w : World) : Calls Try.prog 6 #[ruv r] w fun e w' => e = .returned (.bool true) ∧ Below w.heap.size w w' := by
  have HAL := Lib.hid (fun w => alive_any w)
  have hb0 : Below w.heap.size w (w.alloc (.cells #[.int .i64 r.rise, .int .i64 r.fall, .int .i64 r.every] 23)) := below_alloc (Below.refl _ _) _
  have HCB0 := Lib.hid (Cb.new3 w (.int .i64 r.rise) (.int .i64 r.fall) (.int .i64 r.every) 23)
  have hnew := pnew_any (w.alloc (.cells #[.int .i64 r.rise, .int .i64 r.fall, .int .i64 r.every] 23)) r false
  have HRI := Lib.hid (fun w => right_any w r)
  have HB0 := Lib.hid hb0
  unfold ruv at hnew HRI ⊢
  have HNEW := Lib.hid hnew
  clear hnew hb0
  by_cases hok : okR r = true
  · have hin := okR_iff.1 hok
    have HOK := Lib.hid hok
    clear HRI
    obtain ⟨ri, fa, ev⟩ := r
    simp only at hin
    obtain ⟨a, rfl⟩ := Int.eq_ofNat_of_zero_le (show 0 ≤ ri by omega)
    obtain ⟨b, rfl⟩ := Int.eq_ofNat_of_zero_le (show 0 ≤ fa by omega)
    have HE1 : Hid (enough ⟨(a : Int), (b : Int), ev⟩ false = (a : Int)) := Lib.hid rfl
    have HE2 : Hid (enough ⟨(a : Int), (b : Int), ev⟩ true = (b : Int)) := Lib.hid rfl
    have ha1 : 1 ≤ a := by omega
    have ha2 : a ≤ 20 := by omega
    have hb1 : 1 ≤ b := by omega
    have hb2 : b ≤ 20 := by omega
    simp only at HNEW HB0 HCB0
    clear hin hok
    go_enter Try.func6, Try.ntmps6
    go_wp2_with fail
    refine HNEW.out.mono ?_
    rintro e w1 ⟨hbw, ⟨-, p, rfl, hp, hP⟩ | ⟨h, -⟩⟩
    rotate_left
    · rw [HOK.out] at h; cases h
    have hps : w.heap.size < p := by simp at hp; omega
    have HC1 := Lib.hid (HCB0.out.below hbw)
    have HB1 := Lib.hid (HB0.out.trans (hbw.mono HB0.out.size))
    have HP1 : Hid (PbAt w1 p ⟨(a : Int), (b : Int), ev⟩ (stU false a 0)) := Lib.hid (by rw [stU_less (by omega)]; exact hP)
    clear hbw hP hp HNEW HB0 HCB0
    go_wp2_with fail
    go_loopg [5] a (fun gg s5 wr => Hid (RsRel w p ⟨(a : Int), (b : Int), ev⟩ false a gg s5 wr))
    case atStart => exact Lib.hid ⟨0, by omega, rfl, HP1.out, HB1.out, HC1.out⟩
    case round =>
      obtain ⟨j, hj, rfl, hP, hB, hC⟩ := hrel.out
      obtain ⟨c0, c1, c2⟩ := hC.three
      have hl0 := hC.lt
      clear hrel HP1 HC1 HB1
      by_cases hja : j < a
      · have hjz : (j : Int) + 1 ≤ (a : Int) := by omega
        rw [stU_less hja] at hP
        have HT := tell_any (hP.below (below_drew (Below.refl _ _))) HOK.out (by show okP _ _; exact ⟨by show (0 : Int) ≤ j; omega, by show (j : Int) < _; rw [HE1.out]; omega⟩) true
        obtain ⟨e1, e2⟩ := stU_step (u := false) HE1.out hja
        simp only [Bool.not_false] at e1 e2
        rw [e1, e2] at HT
        have HT := Lib.hid HT
        have HCD := Lib.hid hC.drew
        have HBR := Lib.hid hB
        have hw1 : IntKind.i64.wrap ((j : Int) + 1 + 1) = (j : Int) + 1 + 1 := by rw [IntKind.wrap_i64]; omega
        clear e1 e2 hP hC hB
        by_cases hl : j + 1 = a
        · have hz : ((j : Int) + 1 == (a : Int)) = true := by simp; omega
          have hz2 : (j : Int) + 1 = (a : Int) := by omega
          have hd : decide (j + 1 = a) = true := decide_eq_true hl
          rw [hd] at HT
          clear hl hd
          go_wp2
          refine wp_region_held_drew (S := fun X => Cb X w.heap.size 23 [.int .i64 (a : Int), .int .i64 (b : Int), .int .i64 ev]) (by kernel_rfl) HCD.out (fun hHeld => ?_)
          refine wpAnyH_take (i := 0) (oi := ({ dst := some 30, op := Go.Op.move (Go.Operand.tmp 3), type := 25, pos := _, after := #[], guard := none } : Oper)) (v := ?_) rfl (by kernel_rfl) (by kernel_rfl) (by kernel_rfl) (fun _ _ _ h => h) (Or.inl ⟨by rfl, ?_⟩) (by assumption) ?_
          rotate_left
          · intro W' hSw
            try dsimp only at hSw
            go_simp
            try with_reducible rfl
          try simp only [Act.put, List.setIfInBounds_toArray, List.set_cons_zero, List.set_cons_succ]
          refine wpAnyH_take (i := 2) (oi := ({ dst := some 32, op := Go.Op.move (Go.Operand.tmp 5), type := 3, pos := _, after := #[], guard := none } : Oper)) (v := ?_) rfl (by kernel_rfl) (by kernel_rfl) (by kernel_rfl) (fun _ _ _ h => h) (Or.inl ⟨by rfl, ?_⟩) (by assumption) ?_
          rotate_left
          · intro W' hSw
            try dsimp only at hSw
            go_simp
            try with_reducible rfl
          try simp only [Act.put, List.setIfInBounds_toArray, List.set_cons_zero, List.set_cons_succ]
          refine wpAnyH_take (i := 3) (oi := ({ dst := some 33, op := Go.Op.fieldAddr 23 (Go.Operand.tmp 1) 0, type := 0, pos := _, after := #[], guard := none } : Oper)) (v := ?_) rfl (by kernel_rfl) (by kernel_rfl) (by kernel_rfl) (fun _ _ _ h => h) (Or.inl ⟨by rfl, ?_⟩) (by assumption) ?_
          rotate_left
          · intro W' hSw
            try dsimp only at hSw
            go_simp
            try with_reducible rfl
          try simp only [Act.put, List.setIfInBounds_toArray, List.set_cons_zero, List.set_cons_succ]
          refine wpAnyH_take (i := 4) (oi := ({ dst := some 34, op := Go.Op.load 3 (Go.Operand.tmp 33), type := 3, pos := _, after := #[{ on := 3, ground := Go.Ground.data }], guard := none } : Oper)) (v := ?_) rfl (by kernel_rfl) (by kernel_rfl) (by kernel_rfl) (fun _ _ _ h => h) (Or.inl ⟨by rfl, ?_⟩) (by assumption) ?_
          rotate_left
          · intro W' hSw
            try dsimp only at hSw
            obtain ⟨q0, q1, q2⟩ := hSw.three
            go_simp
            try with_reducible rfl
          try simp only [Act.put, List.setIfInBounds_toArray, List.set_cons_zero, List.set_cons_succ]
          refine wpAnyH_take (i := 5) (oi := ({ dst := some 35, op := Go.Op.binOp Go.BinOp.eql 3 (Go.Operand.tmp 32) (Go.Operand.tmp 34) 3, type := 4, pos := _, after := #[{ on := 2, ground := Go.Ground.data }, { on := 4, ground := Go.Ground.data }], guard := none } : Oper)) (v := ?_) rfl (by kernel_rfl) (by kernel_rfl) (by kernel_rfl) (fun _ _ _ h => h) (Or.inl ⟨by rfl, ?_⟩) (by assumption) ?_
          rotate_left
          · intro W' hSw
            try dsimp only at hSw
            go_simp
            try with_reducible rfl
          try simp only [Act.put, List.setIfInBounds_toArray, List.set_cons_zero, List.set_cons_succ]
          refine wpAnyH_ready (rs := [1]) (by kernel_rfl) (by simp) ?_
          refine AllReadyH.cons (o := ({ dst := some 31, op := Go.Op.call { callee := Go.Callee.value (Go.Operand.func 13), args := #[Go.Operand.tmp 30, Go.Operand.const (Go.Value.bool true)], argTypes := #[25, 4] }, type := 4, pos := _, after := #[{ on := 0, ground := Go.Ground.data }], guard := none } : Oper)) rfl (fun K hK => ?_) AllReadyH.nil
          go_simp
          refine HT.out.mono ?_
          rintro e w2 ⟨rfl, hp2, ho2⟩
          go_wp2_with fail
          refine hK.out _ _ ?_ (fun hHeld => ?_)
          · exact hHeld.only ho2 (by omega)
          clear hK K
          try simp only [Act.put, List.setIfInBounds_toArray, List.set_cons_zero, List.set_cons_succ]
          have HX := Lib.hid (And.intro hp2 ho2)
          have HHC := Lib.hid hHeld
          clear hp2 ho2
          refine wpAnyH_take (i := 6) (oi := ({ dst := some 36, op := Go.Op.binOp Go.BinOp.neq 4 (Go.Operand.tmp 31) (Go.Operand.tmp 35) 4, type := 4, pos := _, after := #[{ on := 1, ground := Go.Ground.data }, { on := 5, ground := Go.Ground.data }], guard := none } : Oper)) (v := ?_) rfl (by kernel_rfl) (by kernel_rfl) (by kernel_rfl) (fun _ _ _ h => h) (Or.inl ⟨by rfl, ?_⟩) (by assumption) ?_
          rotate_left
          · intro W' hSw
            try dsimp only at hSw
            go_simp
            try with_reducible rfl
          try simp only [Act.put, List.setIfInBounds_toArray, List.set_cons_zero, List.set_cons_succ]
          refine wpAnyH_done (by kernel_rfl) ?_ _
          go_wp2
          go_roundg (a - (j + 1))
          case measure => omega
          case rel => exact Lib.hid ⟨j + 1, by omega, by go_num, HX.out.1, (below_drew HBR.out).trans (Only.below HX.out.2 (by have := HBR.out.size; exact this) fun i hi => by have : i = p := hi; omega), HHC.out⟩
        · have hz : ((j : Int) + 1 == (a : Int)) = false := beq_eq_false_iff_ne.2 (by omega)
          have hz2 : ¬ ((j : Int) + 1 = (a : Int)) := by omega
          have hd : decide (j + 1 = a) = false := decide_eq_false hl
          rw [hd] at HT
          clear hd
          go_wp2
          refine wp_region_held_drew (S := fun X => Cb X w.heap.size 23 [.int .i64 (a : Int), .int .i64 (b : Int), .int .i64 ev]) (by kernel_rfl) HCD.out (fun hHeld => ?_)
          refine wpAnyH_take (i := 0) (oi := ({ dst := some 30, op := Go.Op.move (Go.Operand.tmp 3), type := 25, pos := _, after := #[], guard := none } : Oper)) (v := ?_) rfl (by kernel_rfl) (by kernel_rfl) (by kernel_rfl) (fun _ _ _ h => h) (Or.inl ⟨by rfl, ?_⟩) (by assumption) ?_
          rotate_left
          · intro W' hSw
            try dsimp only at hSw
            go_simp
            try with_reducible rfl
          try simp only [Act.put, List.setIfInBounds_toArray, List.set_cons_zero, List.set_cons_succ]
          refine wpAnyH_take (i := 2) (oi := ({ dst := some 32, op := Go.Op.move (Go.Operand.tmp 5), type := 3, pos := _, after := #[], guard := none } : Oper)) (v := ?_) rfl (by kernel_rfl) (by kernel_rfl) (by kernel_rfl) (fun _ _ _ h => h) (Or.inl ⟨by rfl, ?_⟩) (by assumption) ?_
          rotate_left
          · intro W' hSw
            try dsimp only at hSw
            go_simp
            try with_reducible rfl
          try simp only [Act.put, List.setIfInBounds_toArray, List.set_cons_zero, List.set_cons_succ]
          refine wpAnyH_take (i := 3) (oi := ({ dst := some 33, op := Go.Op.fieldAddr 23 (Go.Operand.tmp 1) 0, type := 0, pos := _, after := #[], guard := none } : Oper)) (v := ?_) rfl (by kernel_rfl) (by kernel_rfl) (by kernel_rfl) (fun _ _ _ h => h) (Or.inl ⟨by rfl, ?_⟩) (by assumption) ?_
          rotate_left
          · intro W' hSw
            try dsimp only at hSw
            go_simp
            try with_reducible rfl
          try simp only [Act.put, List.setIfInBounds_toArray, List.set_cons_zero, List.set_cons_succ]
          refine wpAnyH_take (i := 4) (oi := ({ dst := some 34, op := Go.Op.load 3 (Go.Operand.tmp 33), type := 3, pos := _, after := #[{ on := 3, ground := Go.Ground.data }], guard := none } : Oper)) (v := ?_) rfl (by kernel_rfl) (by kernel_rfl) (by kernel_rfl) (fun _ _ _ h => h) (Or.inl ⟨by rfl, ?_⟩) (by assumption) ?_
          rotate_left
          · intro W' hSw
            try dsimp only at hSw
            obtain ⟨q0, q1, q2⟩ := hSw.three
            go_simp
            try with_reducible rfl
          try simp only [Act.put, List.setIfInBounds_toArray, List.set_cons_zero, List.set_cons_succ]
          refine wpAnyH_take (i := 5) (oi := ({ dst := some 35, op := Go.Op.binOp Go.BinOp.eql 3 (Go.Operand.tmp 32) (Go.Operand.tmp 34) 3, type := 4, pos := _, after := #[{ on := 2, ground := Go.Ground.data }, { on := 4, ground := Go.Ground.data }], guard := none } : Oper)) (v := ?_) rfl (by kernel_rfl) (by kernel_rfl) (by kernel_rfl) (fun _ _ _ h => h) (Or.inl ⟨by rfl, ?_⟩) (by assumption) ?_
          rotate_left
          · intro W' hSw
            try dsimp only at hSw
            go_simp
            try with_reducible rfl
          try simp only [Act.put, List.setIfInBounds_toArray, List.set_cons_zero, List.set_cons_succ]
          refine wpAnyH_ready (rs := [1]) (by kernel_rfl) (by simp) ?_
          refine AllReadyH.cons (o := ({ dst := some 31, op := Go.Op.call { callee := Go.Callee.value (Go.Operand.func 13), args := #[Go.Operand.tmp 30, Go.Operand.const (Go.Value.bool true)], argTypes := #[25, 4] }, type := 4, pos := _, after := #[{ on := 0, ground := Go.Ground.data }], guard := none } : Oper)) rfl (fun K hK => ?_) AllReadyH.nil
          go_simp
          refine HT.out.mono ?_
          rintro e w2 ⟨rfl, hp2, ho2⟩
          go_wp2_with fail
          refine hK.out _ _ ?_ (fun hHeld => ?_)
          · exact hHeld.only ho2 (by omega)
          clear hK K
          try simp only [Act.put, List.setIfInBounds_toArray, List.set_cons_zero, List.set_cons_succ]
          have HX := Lib.hid (And.intro hp2 ho2)
          have HHC := Lib.hid hHeld
          clear hp2 ho2
          refine wpAnyH_take (i := 6) (oi := ({ dst := some 36, op := Go.Op.binOp Go.BinOp.neq 4 (Go.Operand.tmp 31) (Go.Operand.tmp 35) 4, type := 4, pos := _, after := #[{ on := 1, ground := Go.Ground.data }, { on := 5, ground := Go.Ground.data }], guard := none } : Oper)) (v := ?_) rfl (by kernel_rfl) (by kernel_rfl) (by kernel_rfl) (fun _ _ _ h => h) (Or.inl ⟨by rfl, ?_⟩) (by assumption) ?_
          rotate_left
          · intro W' hSw
            try dsimp only at hSw
            go_simp
            try with_reducible rfl
          try simp only [Act.put, List.setIfInBounds_toArray, List.set_cons_zero, List.set_cons_succ]
          refine wpAnyH_done (by kernel_rfl) ?_ _
          go_wp2
          go_roundg (a - (j + 1))
          case measure => omega
          case rel => exact Lib.hid ⟨j + 1, by omega, by go_num, HX.out.1, (below_drew HBR.out).trans (Only.below HX.out.2 (by have := HBR.out.size; exact this) fun i hi => by have : i = p := hi; omega), HHC.out⟩
      · obtain rfl : j = a := by omega
        have hjz : ¬ ((j : Int) + 1 ≤ (j : Int)) := by omega
        have HP1 : Hid (PbAt wr p ⟨(j : Int), (b : Int), ev⟩ (stU true b 0)) := Lib.hid (by rw [stU_less (by omega)]; rw [stU_end] at hP; exact hP)
        have HB1 := Lib.hid hB
        have HC1 := Lib.hid hC
        clear hP hB hC
        go_wp2
        go_loopg [6] b (fun gg s6 wr => Hid (RsRel w p ⟨(j : Int), (b : Int), ev⟩ true b gg s6 wr))
        case atStart => exact Lib.hid ⟨0, by omega, rfl, HP1.out, HB1.out, HC1.out⟩
        case round =>
          obtain ⟨i, hi, rfl, hP, hB, hC⟩ := hrel.out
          clear c0 c1 c2 hl0
          obtain ⟨c0, c1, c2⟩ := hC.three
          have hl0 := hC.lt
          clear hrel HP1 HC1 HB1
          by_cases hib : i < b
          · have hiz : (i : Int) + 1 ≤ (b : Int) := by omega
            rw [stU_less hib] at hP
            have HT := tell_any (hP.below (below_drew (Below.refl _ _))) HOK.out (by show okP _ _; exact ⟨by show (0 : Int) ≤ i; omega, by show (i : Int) < _; rw [HE2.out]; omega⟩) false
            obtain ⟨e1, e2⟩ := stU_step (u := true) HE2.out hib
            simp only [Bool.not_true] at e1 e2
            rw [e1, e2] at HT
            have HT := Lib.hid HT
            have HCD := Lib.hid hC.drew
            have HBR := Lib.hid hB
            have hw1 : IntKind.i64.wrap ((i : Int) + 1 + 1) = (i : Int) + 1 + 1 := by rw [IntKind.wrap_i64]; omega
            clear e1 e2 hP hC hB
            by_cases hl : i + 1 = b
            · have hz : ((i : Int) + 1 == (b : Int)) = true := by simp; omega
              have hz2 : (i : Int) + 1 = (b : Int) := by omega
              have hd : decide (i + 1 = b) = true := decide_eq_true hl
              rw [hd] at HT
              clear hl hd
              go_wp2
              refine wp_region_held_drew (S := fun X => Cb X w.heap.size 23 [.int .i64 (j : Int), .int .i64 (b : Int), .int .i64 ev]) (by kernel_rfl) HCD.out (fun hHeld => ?_)
              refine wpAnyH_take (i := 0) (oi := ({ dst := some 43, op := Go.Op.move (Go.Operand.tmp 3), type := 25, pos := _, after := #[], guard := none } : Oper)) (v := ?_) rfl (by kernel_rfl) (by kernel_rfl) (by kernel_rfl) (fun _ _ _ h => h) (Or.inl ⟨by rfl, ?_⟩) (by assumption) ?_
              rotate_left
              · intro W' hSw
                try dsimp only at hSw
                go_simp
                try with_reducible rfl
              try simp only [Act.put, List.setIfInBounds_toArray, List.set_cons_zero, List.set_cons_succ]
              refine wpAnyH_take (i := 2) (oi := ({ dst := some 45, op := Go.Op.move (Go.Operand.tmp 6), type := 3, pos := _, after := #[], guard := none } : Oper)) (v := ?_) rfl (by kernel_rfl) (by kernel_rfl) (by kernel_rfl) (fun _ _ _ h => h) (Or.inl ⟨by rfl, ?_⟩) (by assumption) ?_
              rotate_left
              · intro W' hSw
                try dsimp only at hSw
                go_simp
                try with_reducible rfl
              try simp only [Act.put, List.setIfInBounds_toArray, List.set_cons_zero, List.set_cons_succ]
              refine wpAnyH_take (i := 3) (oi := ({ dst := some 46, op := Go.Op.fieldAddr 23 (Go.Operand.tmp 1) 1, type := 0, pos := _, after := #[], guard := none } : Oper)) (v := ?_) rfl (by kernel_rfl) (by kernel_rfl) (by kernel_rfl) (fun _ _ _ h => h) (Or.inl ⟨by rfl, ?_⟩) (by assumption) ?_
              rotate_left
              · intro W' hSw
                try dsimp only at hSw
                go_simp
                try with_reducible rfl
              try simp only [Act.put, List.setIfInBounds_toArray, List.set_cons_zero, List.set_cons_succ]
              refine wpAnyH_take (i := 4) (oi := ({ dst := some 47, op := Go.Op.load 3 (Go.Operand.tmp 46), type := 3, pos := _, after := #[{ on := 3, ground := Go.Ground.data }], guard := none } : Oper)) (v := ?_) rfl (by kernel_rfl) (by kernel_rfl) (by kernel_rfl) (fun _ _ _ h => h) (Or.inl ⟨by rfl, ?_⟩) (by assumption) ?_
              rotate_left
              · intro W' hSw
                try dsimp only at hSw
                obtain ⟨q0, q1, q2⟩ := hSw.three
                go_simp
                try with_reducible rfl
              try simp only [Act.put, List.setIfInBounds_toArray, List.set_cons_zero, List.set_cons_succ]
              refine wpAnyH_take (i := 5) (oi := ({ dst := some 48, op := Go.Op.binOp Go.BinOp.eql 3 (Go.Operand.tmp 45) (Go.Operand.tmp 47) 3, type := 4, pos := _, after := #[{ on := 2, ground := Go.Ground.data }, { on := 4, ground := Go.Ground.data }], guard := none } : Oper)) (v := ?_) rfl (by kernel_rfl) (by kernel_rfl) (by kernel_rfl) (fun _ _ _ h => h) (Or.inl ⟨by rfl, ?_⟩) (by assumption) ?_
              rotate_left
              · intro W' hSw
                try dsimp only at hSw
                go_simp
                try with_reducible rfl
              try simp only [Act.put, List.setIfInBounds_toArray, List.set_cons_zero, List.set_cons_succ]
              refine wpAnyH_ready (rs := [1]) (by kernel_rfl) (by simp) ?_
              refine AllReadyH.cons (o := ({ dst := some 44, op := Go.Op.call { callee := Go.Callee.value (Go.Operand.func 13), args := #[Go.Operand.tmp 43, Go.Operand.const (Go.Value.bool false)], argTypes := #[25, 4] }, type := 4, pos := _, after := #[{ on := 0, ground := Go.Ground.data }], guard := none } : Oper)) rfl (fun K hK => ?_) AllReadyH.nil
              go_simp
              refine HT.out.mono ?_
              rintro e w2 ⟨rfl, hp2, ho2⟩
              go_wp2_with fail
              refine hK.out _ _ ?_ (fun hHeld => ?_)
              · exact hHeld.only ho2 (by omega)
              clear hK K
              try simp only [Act.put, List.setIfInBounds_toArray, List.set_cons_zero, List.set_cons_succ]
              have HX := Lib.hid (And.intro hp2 ho2)
              have HHC := Lib.hid hHeld
              clear hp2 ho2
              refine wpAnyH_take (i := 6) (oi := ({ dst := some 49, op := Go.Op.binOp Go.BinOp.neq 4 (Go.Operand.tmp 44) (Go.Operand.tmp 48) 4, type := 4, pos := _, after := #[{ on := 1, ground := Go.Ground.data }, { on := 5, ground := Go.Ground.data }], guard := none } : Oper)) (v := ?_) rfl (by kernel_rfl) (by kernel_rfl) (by kernel_rfl) (fun _ _ _ h => h) (Or.inl ⟨by rfl, ?_⟩) (by assumption) ?_
              rotate_left
              · intro W' hSw
                try dsimp only at hSw
                go_simp
                try with_reducible rfl
              try simp only [Act.put, List.setIfInBounds_toArray, List.set_cons_zero, List.set_cons_succ]
              refine wpAnyH_done (by kernel_rfl) ?_ _
              go_wp2
              go_roundg (b - (i + 1))
              case measure => omega
              case rel => exact Lib.hid ⟨i + 1, by omega, by go_num, HX.out.1, (below_drew HBR.out).trans (Only.below HX.out.2 (by have := HBR.out.size; exact this) fun i hi => by have : i = p := hi; omega), HHC.out⟩
            · have hz : ((i : Int) + 1 == (b : Int)) = false := beq_eq_false_iff_ne.2 (by omega)
              have hz2 : ¬ ((i : Int) + 1 = (b : Int)) := by omega
              have hd : decide (i + 1 = b) = false := decide_eq_false hl
              rw [hd] at HT
              clear hd
              go_wp2
              refine wp_region_held_drew (S := fun X => Cb X w.heap.size 23 [.int .i64 (j : Int), .int .i64 (b : Int), .int .i64 ev]) (by kernel_rfl) HCD.out (fun hHeld => ?_)
              refine wpAnyH_take (i := 0) (oi := ({ dst := some 43, op := Go.Op.move (Go.Operand.tmp 3), type := 25, pos := _, after := #[], guard := none } : Oper)) (v := ?_) rfl (by kernel_rfl) (by kernel_rfl) (by kernel_rfl) (fun _ _ _ h => h) (Or.inl ⟨by rfl, ?_⟩) (by assumption) ?_
              rotate_left
              · intro W' hSw
                try dsimp only at hSw
                go_simp
                try with_reducible rfl
              try simp only [Act.put, List.setIfInBounds_toArray, List.set_cons_zero, List.set_cons_succ]
              refine wpAnyH_take (i := 2) (oi := ({ dst := some 45, op := Go.Op.move (Go.Operand.tmp 6), type := 3, pos := _, after := #[], guard := none } : Oper)) (v := ?_) rfl (by kernel_rfl) (by kernel_rfl) (by kernel_rfl) (fun _ _ _ h => h) (Or.inl ⟨by rfl, ?_⟩) (by assumption) ?_
              rotate_left
              · intro W' hSw
                try dsimp only at hSw
                go_simp
                try with_reducible rfl
              try simp only [Act.put, List.setIfInBounds_toArray, List.set_cons_zero, List.set_cons_succ]
              refine wpAnyH_take (i := 3) (oi := ({ dst := some 46, op := Go.Op.fieldAddr 23 (Go.Operand.tmp 1) 1, type := 0, pos := _, after := #[], guard := none } : Oper)) (v := ?_) rfl (by kernel_rfl) (by kernel_rfl) (by kernel_rfl) (fun _ _ _ h => h) (Or.inl ⟨by rfl, ?_⟩) (by assumption) ?_
              rotate_left
              · intro W' hSw
                try dsimp only at hSw
                go_simp
                try with_reducible rfl
              try simp only [Act.put, List.setIfInBounds_toArray, List.set_cons_zero, List.set_cons_succ]
              refine wpAnyH_take (i := 4) (oi := ({ dst := some 47, op := Go.Op.load 3 (Go.Operand.tmp 46), type := 3, pos := _, after := #[{ on := 3, ground := Go.Ground.data }], guard := none } : Oper)) (v := ?_) rfl (by kernel_rfl) (by kernel_rfl) (by kernel_rfl) (fun _ _ _ h => h) (Or.inl ⟨by rfl, ?_⟩) (by assumption) ?_
              rotate_left
              · intro W' hSw
                try dsimp only at hSw
                obtain ⟨q0, q1, q2⟩ := hSw.three
                go_simp
                try with_reducible rfl
              try simp only [Act.put, List.setIfInBounds_toArray, List.set_cons_zero, List.set_cons_succ]
              refine wpAnyH_take (i := 5) (oi := ({ dst := some 48, op := Go.Op.binOp Go.BinOp.eql 3 (Go.Operand.tmp 45) (Go.Operand.tmp 47) 3, type := 4, pos := _, after := #[{ on := 2, ground := Go.Ground.data }, { on := 4, ground := Go.Ground.data }], guard := none } : Oper)) (v := ?_) rfl (by kernel_rfl) (by kernel_rfl) (by kernel_rfl) (fun _ _ _ h => h) (Or.inl ⟨by rfl, ?_⟩) (by assumption) ?_
              rotate_left
              · intro W' hSw
                try dsimp only at hSw
                go_simp
                try with_reducible rfl
              try simp only [Act.put, List.setIfInBounds_toArray, List.set_cons_zero, List.set_cons_succ]
              refine wpAnyH_ready (rs := [1]) (by kernel_rfl) (by simp) ?_
              refine AllReadyH.cons (o := ({ dst := some 44, op := Go.Op.call { callee := Go.Callee.value (Go.Operand.func 13), args := #[Go.Operand.tmp 43, Go.Operand.const (Go.Value.bool false)], argTypes := #[25, 4] }, type := 4, pos := _, after := #[{ on := 0, ground := Go.Ground.data }], guard := none } : Oper)) rfl (fun K hK => ?_) AllReadyH.nil
              go_simp
              refine HT.out.mono ?_
              rintro e w2 ⟨rfl, hp2, ho2⟩
              go_wp2_with fail
              refine hK.out _ _ ?_ (fun hHeld => ?_)
              · exact hHeld.only ho2 (by omega)
              clear hK K
              try simp only [Act.put, List.setIfInBounds_toArray, List.set_cons_zero, List.set_cons_succ]
              have HX := Lib.hid (And.intro hp2 ho2)
              have HHC := Lib.hid hHeld
              clear hp2 ho2
              refine wpAnyH_take (i := 6) (oi := ({ dst := some 49, op := Go.Op.binOp Go.BinOp.neq 4 (Go.Operand.tmp 44) (Go.Operand.tmp 48) 4, type := 4, pos := _, after := #[{ on := 1, ground := Go.Ground.data }, { on := 5, ground := Go.Ground.data }], guard := none } : Oper)) (v := ?_) rfl (by kernel_rfl) (by kernel_rfl) (by kernel_rfl) (fun _ _ _ h => h) (Or.inl ⟨by rfl, ?_⟩) (by assumption) ?_
              rotate_left
              · intro W' hSw
                try dsimp only at hSw
                go_simp
                try with_reducible rfl
              try simp only [Act.put, List.setIfInBounds_toArray, List.set_cons_zero, List.set_cons_succ]
              refine wpAnyH_done (by kernel_rfl) ?_ _
              go_wp2
              go_roundg (b - (i + 1))
              case measure => omega
              case rel => exact Lib.hid ⟨i + 1, by omega, by go_num, HX.out.1, (below_drew HBR.out).trans (Only.below HX.out.2 (by have := HBR.out.size; exact this) fun i hi => by have : i = p := hi; omega), HHC.out⟩
          · obtain rfl : i = b := by omega
            have hiz : ¬ ((i : Int) + 1 ≤ (i : Int)) := by omega
            rw [stU_end] at hP
            have HPB := Lib.hid hP
            have HBR := Lib.hid hB
            clear hP hB hC
            go_wp2_with (first
              | (go_at_call 11; refine (HAL.out _).mono ?_; rintro e w3 ⟨rfl, hb3⟩; have HB3 := Lib.hid hb3; have HP3 := Lib.hid (HPB.out.below hb3); clear hb3)
              | (go_at_call 14; refine (up_any HP3.out).mono ?_; rintro e w4 ⟨rfl, rfl⟩)
              | (go_at_call 15; refine (run_any HP3.out).mono ?_; rintro e w4 ⟨rfl, rfl⟩))
            go_ret
            exact ⟨rfl, HBR.out.trans (HB3.out.mono HBR.out.size)⟩
  · have hof : okR r = false := by simpa using hok
    have HOF := Lib.hid hof
    rw [hof] at HRI
    clear hok hof
    go_enter Try.func6, Try.ntmps6
    go_wp2_with fail
    refine HNEW.out.mono ?_
    rintro e w1 ⟨hbw, ⟨h, -⟩ | ⟨-, rfl⟩⟩
    · rw [HOF.out] at h; cases h
    have HC1 := Lib.hid (HCB0.out.below hbw)
    have HB1 := Lib.hid (HB0.out.trans (hbw.mono HB0.out.size))
    clear hbw
    go_wp2_with (first
      | (go_at_call 11; refine (HAL.out _).mono ?_; rintro e w3 ⟨rfl, hb3⟩; have HB3 := Lib.hid hb3; obtain ⟨c0, c1, c2⟩ := (HC1.out.below hb3).three; clear hb3)
      | (go_at_call 10; refine (HRI.out _).mono ?_; rintro e w4 ⟨rfl, hb4⟩; have HB4 := Lib.hid hb4; clear hb4))
    go_ret
    have b3 := HB1.out.trans (HB3.out.mono HB1.out.size)
    exact ⟨rfl, b3.trans (HB4.out.mono b3.size)⟩

end Go.Proofs.Ytkcndgiiangmjaa
