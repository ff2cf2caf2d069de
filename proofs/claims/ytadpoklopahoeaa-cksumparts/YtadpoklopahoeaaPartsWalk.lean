/-
  The walk of CksumParts.
-/
import Derived.Test.YtadpoklopahoeaaRegb
namespace Go.Proofs.Ytadpoklopahoeaa
open Go.ChangeShapes Go.WideShapes Go.ChangeAt Go.RowKit
set_option linter.unusedVariables false


set_option maxHeartbeats 400000 in
theorem parts_out (a : Option Addr) (n c : Nat) (i j : Int) (w : World) (h : i < 0 ∨ j < i ∨ (n : Int) < j) :
    Calls Try.prog 7 #[.slice a n c, .int .i64 i, .int .i64 j] w fun e w' => e = .returned (.bool true) ∧ Below w.heap.size w w' := by
  by_cases h0 : i < 0
  · clear h
    go_enter Try.func7, Try.ntmps7
    go_wp2_with (go_at_call 14; refine (alive_any _).mono ?_; rintro e w1 ⟨rfl, hbel⟩)
    go_ret
    exact ⟨rfl, hbel⟩
  · by_cases h1 : j < i
    · clear h
      go_enter Try.func7, Try.ntmps7
      go_wp2_with (go_at_call 14; refine (alive_any _).mono ?_; rintro e w1 ⟨rfl, hbel⟩)
      go_ret
      exact ⟨rfl, hbel⟩
    · have h2 : (n : Int) < j := by omega
      clear h
      go_enter Try.func7, Try.ntmps7
      go_wp2_with (go_at_call 14; refine (alive_any _).mono ?_; rintro e w1 ⟨rfl, hbel⟩)
      go_ret
      exact ⟨rfl, hbel⟩

theorem take_three (bs : List Int) (i j : Nat) (h : i ≤ j) : bs.take i ++ ((bs.drop i).take (j - i) ++ bs.drop j) = bs := by
  have h1 : (bs.drop i).take (j - i) ++ bs.drop j = bs.drop i := by
    have e : bs.drop j = (bs.drop i).drop (j - i) := by rw [List.drop_drop]; congr 1; omega
    rw [e, List.take_append_drop]
  rw [h1, List.take_append_drop]

attribute [local go_sem ↓] Go.wp_at_zero Go.wp_at_succ
set_option maxHeartbeats 4000000 in
theorem parts_in (a : Option Addr) (n c at_ too : Nat) (bs : List Int) (w : World) (hp : Part w ⟨a, n, c, bs⟩) (hn : c ≤ 140737488351232) (h0 : at_ ≤ too) (h1 : too ≤ n) :
    Calls Try.prog 7 #[.slice a n c, .int .i64 (at_ : Int), .int .i64 (too : Int)] w fun e w' => e = .returned (.bool true) ∧ Below w.heap.size w w' := by
  have hnc : n ≤ c := hp.2.1
  have hbl : bs.length = n := hp.1
  have g1 : ¬ (at_ : Int) < 0 := by omega
  have g2 : ¬ (too : Int) < (at_ : Int) := by omega
  have g3 : ¬ (n : Int) < (too : Int) := by omega
  have g4 : (0 : Int) ≤ (too : Int) := by omega
  have g5 : (at_ : Int) ≤ (c : Int) := by omega
  have g6 : (too : Int) ≤ (c : Int) := by omega
  have g7 : (at_ : Int) ≤ (n : Int) := by omega
  obtain ⟨A1, hA1⟩ : ∃ A, (if c = at_ then a else Option.map (fun x => x.add at_) a) = A := ⟨_, rfl⟩
  obtain ⟨A2, hA2⟩ : ∃ A, (if c = too then a else Option.map (fun x => x.add too) a) = A := ⟨_, rfl⟩
  have q1 : Part w ⟨a, at_, c, bs.take at_⟩ := by
    have := hp.sub 0 at_ (by omega)
    have e : (if c = 0 then a else a.map (·.add 0)) = a := by
      split
      · rfl
      · cases a <;> simp [Addr.add]
    rw [e] at this
    simpa using this
  have q2 : Part w ⟨A1, too - at_, c - at_, (bs.drop at_).take (too - at_)⟩ := by rw [← hA1]; exact hp.sub at_ (too - at_) (by omega)
  have q3 : Part w ⟨A2, n - too, c - too, bs.drop too⟩ := by
    have := hp.sub too (n - too) (by omega)
    rw [hA2, List.take_of_length_le (by simp; omega)] at this
    exact this
  have q4 : Part w ⟨A1, n - at_, c - at_, bs.drop at_⟩ := by
    have := hp.sub at_ (n - at_) (by omega)
    rw [hA1, List.take_of_length_le (by simp; omega)] at this
    exact this
  obtain ⟨s, hs⟩ : ∃ s, fd (tot bs) = s := ⟨_, rfl⟩
  have HS := Lib.hid hs
  have HS3 := Lib.hid (show fd (tot (bs.take at_ ++ ((bs.drop at_).take (too - at_) ++ bs.drop too))) = s by rw [take_three bs at_ too h0]; exact hs)
  have HS4 := Lib.hid (show fd (tot (bs.take at_ ++ ([] ++ bs.drop at_))) = s by rw [List.nil_append, List.take_append_drop]; exact hs)
  have HL := Lib.hid (show at_ ≤ 140737488355328 ∧ too - at_ ≤ 140737488355328 ∧ n - too ≤ 140737488355328 by omega)
  have HL4 := Lib.hid (show at_ ≤ 140737488355328 ∧ 0 ≤ 140737488355328 ∧ n - at_ ≤ 140737488355328 by omega)
  have hnn : n ≤ 140737488355328 := by omega
  have HP := Lib.hid hp.drew
  have HR1 := Lib.hid q1.drew
  have HR2 := Lib.hid q2.drew
  have HR3 := Lib.hid q3.drew
  have HR4 := Lib.hid q4.drew
  clear hp q1 q2 q3 q4 hs hbl
  go_enter Try.func7, Try.ntmps7
  go_wp2_with fail
  go_region_held3 (fun _ => True) (trivial)
    (first
      | (go_at_call 14; refine (alive_any _).mono ?_; rintro e w1 ⟨rfl, hbel⟩; have HP1 := Lib.hid (HP.out.below hbel); have HQ1 := Lib.hid (HR1.out.below hbel); have HQ2 := Lib.hid (HR2.out.below hbel); have HQ3 := Lib.hid (HR3.out.below hbel); have HQ4 := Lib.hid (HR4.out.below hbel); have HB1 := Lib.hid (below_of_drew hbel); clear hbel)
      | (go_at_call 15
         with_reducible refine (sum_one (a := a) (n := n) (c := c) (bs := bs) ?_ hnn HS.out).mono ?_
         · refine ⟨?_, ?_⟩
           · repeat (first | (refine (World.cell?_alloc_at _ _ _ _ ?_).trans rfl; simp; done) | refine cell_past ?_ | refine cell_drewN ?_)
           · repeat (first | exact HP1.out | exact HQ1.out | exact HQ2.out | exact HQ3.out | exact HQ4.out | exact Part.gone rfl | refine Part.alloc ?_ _ | refine Part.drewN ?_ _)
         rintro e w2 ⟨rfl, q, rfl⟩)
      | (go_at_call 15
         with_reducible refine (sum_three ?_ HL.out HS3.out).mono ?_
         · apply Exists.intro; apply Exists.intro; apply Exists.intro; apply Exists.intro; apply Exists.intro; apply Exists.intro
           refine ⟨?_, ?_, ?_, ?_, ?_, ?_⟩
           · repeat (first | (refine (World.cell?_alloc_at _ _ _ _ ?_).trans rfl; simp; done) | refine cell_past ?_ | refine cell_drewN ?_)
           · repeat (first | (refine (World.cell?_alloc_at _ _ _ _ ?_).trans rfl; simp; done) | refine cell_past ?_ | refine cell_drewN ?_)
           · repeat (first | (refine (World.cell?_alloc_at _ _ _ _ ?_).trans rfl; simp; done) | refine cell_past ?_ | refine cell_drewN ?_)
           · repeat (first | exact HP1.out | exact HQ1.out | exact HQ2.out | exact HQ3.out | exact HQ4.out | exact Part.gone rfl | refine Part.alloc ?_ _ | refine Part.drewN ?_ _)
           · repeat (first | exact HP1.out | exact HQ1.out | exact HQ2.out | exact HQ3.out | exact HQ4.out | exact Part.gone rfl | refine Part.alloc ?_ _ | refine Part.drewN ?_ _)
           · repeat (first | exact HP1.out | exact HQ1.out | exact HQ2.out | exact HQ3.out | exact HQ4.out | exact Part.gone rfl | refine Part.alloc ?_ _ | refine Part.drewN ?_ _)
         rintro e w2 ⟨rfl, q, rfl⟩)
      | (go_at_call 16
         with_reducible refine (put_one (a := a) (n := n) (c := c) (bs := bs) ?_ hnn HS.out).mono ?_
         · refine ⟨?_, ?_⟩
           · repeat (first | (refine (World.cell?_alloc_at _ _ _ _ ?_).trans rfl; simp; done) | refine cell_past ?_ | refine cell_drewN ?_)
           · repeat (first | exact HP1.out | exact HQ1.out | exact HQ2.out | exact HQ3.out | exact HQ4.out | exact Part.gone rfl | refine Part.alloc ?_ _ | refine Part.drewN ?_ _)
         rintro e w2 ⟨rfl, q, rfl⟩)
      | (go_at_call 16
         with_reducible refine (put_three ?_ HL4.out HS4.out).mono ?_
         · apply Exists.intro; apply Exists.intro; apply Exists.intro; apply Exists.intro; apply Exists.intro; apply Exists.intro
           refine ⟨?_, ?_, ?_, ?_, ?_, ?_⟩
           · repeat (first | (refine (World.cell?_alloc_at _ _ _ _ ?_).trans rfl; simp; done) | refine cell_past ?_ | refine cell_drewN ?_)
           · repeat (first | (refine (World.cell?_alloc_at _ _ _ _ ?_).trans rfl; simp; done) | refine cell_past ?_ | refine cell_drewN ?_)
           · repeat (first | (refine (World.cell?_alloc_at _ _ _ _ ?_).trans rfl; simp; done) | refine cell_past ?_ | refine cell_drewN ?_)
           · repeat (first | exact HP1.out | exact HQ1.out | exact HQ2.out | exact HQ3.out | exact HQ4.out | exact Part.gone rfl | refine Part.alloc ?_ _ | refine Part.drewN ?_ _)
           · repeat (first | exact HP1.out | exact HQ1.out | exact HQ2.out | exact HQ3.out | exact HQ4.out | exact Part.gone rfl | refine Part.alloc ?_ _ | refine Part.drewN ?_ _)
           · repeat (first | exact HP1.out | exact HQ1.out | exact HQ2.out | exact HQ3.out | exact HQ4.out | exact Part.gone rfl | refine Part.alloc ?_ _ | refine Part.drewN ?_ _)
         rintro e w2 ⟨rfl, q, rfl⟩))
  all_goals
    go_wp2
    go_ret
    refine ⟨rfl, ?_⟩
    repeat (first | exact HB1.out | refine below_alloc ?_ _ | refine below_drewN ?_ _)

set_option maxHeartbeats 400000 in
theorem parts_walk (a : Option Addr) (n c : Nat) (bs : List Int) (i j : Int) (w : World) (hp : Part w ⟨a, n, c, bs⟩) (hn : c ≤ 140737488351232) (_hi : (Lit.int .i64 i).wf = true) (_hj : (Lit.int .i64 j).wf = true) :
    Calls Try.prog 7 #[.slice a n c, .int .i64 i, .int .i64 j] w fun e w' => e = .returned (.bool true) ∧ Below w.heap.size w w' := by
  by_cases h : i < 0 ∨ j < i ∨ (n : Int) < j
  · exact parts_out a n c i j w h
  · obtain ⟨k, rfl⟩ := Int.eq_ofNat_of_zero_le (show 0 ≤ i by omega)
    obtain ⟨l, rfl⟩ := Int.eq_ofNat_of_zero_le (show 0 ≤ j by omega)
    exact parts_in a n c k l bs w hp hn (by omega) (by omega)


end Go.Proofs.Ytadpoklopahoeaa
