/-
  What outriderref06.Group does, and Encode with what can't be.
-/
import Derived.Test.YtpcdaidgijkkbaaRsum
namespace Go.Proofs.Ytpcdaidgijkkbaa
open Go.RowKit
set_option linter.unusedVariables false
set_option maxRecDepth 40000

theorem own_lit (W : World) (B N : Nat) (zs : List Int) (hB : B ≤ W.heap.size) (hN : N = W.heap.size) (hl : zs.length ≤ 1000) : Own (W.alloc (.cells (zs.map (Value.int .u8)).toArray 5)) B N zs.length zs.length zs := by
  subst hN
  exact ⟨rfl, hB, Nat.le_refl _, by simp only [maxLen]; omega, _, (0, 0), heap_alloc_new W _, .inl rfl, by simp, by simp only [cel]; exact List.take_of_length_le (by simp)⟩
set_option maxHeartbeats 1000000 in
/-- outriderref06.Group. -/
theorem rgroup_any (b : Bool) (w : World) : Calls Try.prog 59 #[.bool b] w fun e w' => e = .returned (.string (grp b)) ∧ Hid (Below w.heap.size w w') := by
  cases b
  · have HB := Lib.hid ((Below.refl w.heap.size w).alloc (Nat.le_refl _) (.cells #[.int .u8 224, .int .u8 0, .int .u8 0, .int .u8 18] 5))
    have hcv : (convert 87 22 (.slice (some ⟨w.heap.size, 0, none⟩) 4 4)).run Try.prog (w.alloc (.cells #[.int .u8 224, .int .u8 0, .int .u8 0, .int .u8 18] 5)) = .ok (.string grp4) (w.alloc (.cells #[.int .u8 224, .int .u8 0, .int .u8 0, .int .u8 18] 5)) :=
      convert_part ((own_lit w w.heap.size w.heap.size [224, 0, 0, 18] (Nat.le_refl _) rfl (by decide)).part (by intro x hx; simp at hx; omega)) 22 Try.underlying22
    go_enter Try.func59, Try.ntmps59
    go_wp2
    go_ret
    exact ⟨rfl, HB⟩
  · have HB := Lib.hid ((Below.refl w.heap.size w).alloc (Nat.le_refl _) (.cells #[.int .u8 255, .int .u8 2, .int .u8 0, .int .u8 0, .int .u8 0, .int .u8 0, .int .u8 0, .int .u8 0, .int .u8 0, .int .u8 0, .int .u8 0, .int .u8 0, .int .u8 0, .int .u8 0, .int .u8 0, .int .u8 18] 5))
    have hmk : (Instr.makeSlice 87 (.int .i64 16) (.int .i64 16)).run Try.prog w = .ok (.slice (some ⟨w.heap.size, 0, none⟩) 16 16) (w.alloc (.cells #[.int .u8 0, .int .u8 0, .int .u8 0, .int .u8 0, .int .u8 0, .int .u8 0, .int .u8 0, .int .u8 0, .int .u8 0, .int .u8 0, .int .u8 0, .int .u8 0, .int .u8 0, .int .u8 0, .int .u8 0, .int .u8 0] 5)) := make_whole w 16 _ (by omega) rfl
    have hcv : (convert 87 22 (.slice (some ⟨w.heap.size, 0, none⟩) 16 16)).run Try.prog (w.alloc (.cells #[.int .u8 255, .int .u8 2, .int .u8 0, .int .u8 0, .int .u8 0, .int .u8 0, .int .u8 0, .int .u8 0, .int .u8 0, .int .u8 0, .int .u8 0, .int .u8 0, .int .u8 0, .int .u8 0, .int .u8 0, .int .u8 18] 5)) = .ok (.string grp6) (w.alloc (.cells #[.int .u8 255, .int .u8 2, .int .u8 0, .int .u8 0, .int .u8 0, .int .u8 0, .int .u8 0, .int .u8 0, .int .u8 0, .int .u8 0, .int .u8 0, .int .u8 0, .int .u8 0, .int .u8 0, .int .u8 0, .int .u8 18] 5)) :=
      convert_part ((own_lit w w.heap.size w.heap.size [255, 2, 0, 0, 0, 0, 0, 0, 0, 0, 0, 0, 0, 0, 0, 18] (Nat.le_refl _) rfl (by decide)).part (by intro x hx; simp at hx; omega)) 22 Try.underlying22
    go_enter Try.func59, Try.ntmps59
    go_wp2
    go_ret
    exact ⟨rfl, HB⟩

section
variable {f : ByteArray} {i p e : Int} {A : Option Addr} {n c : Nat} {w : World}
set_option maxHeartbeats 1000000 in
theorem renc_right (hf : f.size ≤ 140737488351232) (hn : n ≤ 140737488351232) (h : rightB f = false) : Calls Try.prog 33 #[.agg #[.int .i64 i, .int .i64 p, .int .i64 e, .slice A n c], .string f] w fun r w' => r = .returned (.tuple #[.agg #[.string ⟨#[]⟩, .string ⟨#[]⟩, .int .i64 0, .int .i64 0, .string ⟨#[]⟩], .int .i64 1]) ∧ Below w.heap.size w w' := by
  have HRT := Lib.hid (fun w => rright_any f w hf)
  rw [h] at HRT
  go_enter Try.func33, Try.ntmps33
  go_wp2_with (go_at_call 58; refine (HRT.out _).mono ?_; rintro e w' ⟨rfl, rfl⟩)
  exact bodyPost_ret (v := .tuple #[.agg #[.string ⟨#[]⟩, .string ⟨#[]⟩, .int .i64 0, .int .i64 0, .string ⟨#[]⟩], .int .i64 1]) (by simp [results, Try.results33, go_sem]) rfl ⟨rfl, ((Below.refl _ _).alloc (Nat.le_refl _) _).alloc (by simp) _⟩

set_option maxHeartbeats 1000000 in
theorem renc_id0 (hf : f.size ≤ 140737488351232) (hn : n ≤ 140737488351232) (hr : rightB f = true)  (h : i < 1) : Calls Try.prog 33 #[.agg #[.int .i64 i, .int .i64 p, .int .i64 e, .slice A n c], .string f] w fun r w' => r = .returned (.tuple #[.agg #[.string ⟨#[]⟩, .string ⟨#[]⟩, .int .i64 0, .int .i64 0, .string ⟨#[]⟩], .int .i64 1]) ∧ Below w.heap.size w w' := by
  have HRT := Lib.hid (fun w => rright_any f w hf)
  rw [hr] at HRT
  have t0 : decide (i < 1) = true := decide_eq_true (by omega)
  clear h
  go_enter Try.func33, Try.ntmps33
  go_wp2_with (go_at_call 58; refine (HRT.out _).mono ?_; rintro e w' ⟨rfl, rfl⟩)
  exact bodyPost_ret (v := .tuple #[.agg #[.string ⟨#[]⟩, .string ⟨#[]⟩, .int .i64 0, .int .i64 0, .string ⟨#[]⟩], .int .i64 1]) (by simp [results, Try.results33, go_sem]) rfl ⟨rfl, ((Below.refl _ _).alloc (Nat.le_refl _) _).alloc (by simp) _⟩

set_option maxHeartbeats 1000000 in
theorem renc_id1 (hf : f.size ≤ 140737488351232) (hn : n ≤ 140737488351232) (hr : rightB f = true) (h0 : ¬ i < 1) (h : 255 < i) : Calls Try.prog 33 #[.agg #[.int .i64 i, .int .i64 p, .int .i64 e, .slice A n c], .string f] w fun r w' => r = .returned (.tuple #[.agg #[.string ⟨#[]⟩, .string ⟨#[]⟩, .int .i64 0, .int .i64 0, .string ⟨#[]⟩], .int .i64 1]) ∧ Below w.heap.size w w' := by
  have HRT := Lib.hid (fun w => rright_any f w hf)
  rw [hr] at HRT
  have t0 : decide (i < 1) = false := decide_eq_false (by omega)
  have t1 : decide (255 < i) = true := decide_eq_true (by omega)
  clear h0 h
  go_enter Try.func33, Try.ntmps33
  go_wp2_with (go_at_call 58; refine (HRT.out _).mono ?_; rintro e w' ⟨rfl, rfl⟩)
  exact bodyPost_ret (v := .tuple #[.agg #[.string ⟨#[]⟩, .string ⟨#[]⟩, .int .i64 0, .int .i64 0, .string ⟨#[]⟩], .int .i64 1]) (by simp [results, Try.results33, go_sem]) rfl ⟨rfl, ((Below.refl _ _).alloc (Nat.le_refl _) _).alloc (by simp) _⟩

set_option maxHeartbeats 1000000 in
theorem renc_pr0 (hf : f.size ≤ 140737488351232) (hn : n ≤ 140737488351232) (hr : rightB f = true) (h0 : ¬ i < 1) (h1 : ¬ 255 < i) (h : p < 0) : Calls Try.prog 33 #[.agg #[.int .i64 i, .int .i64 p, .int .i64 e, .slice A n c], .string f] w fun r w' => r = .returned (.tuple #[.agg #[.string ⟨#[]⟩, .string ⟨#[]⟩, .int .i64 0, .int .i64 0, .string ⟨#[]⟩], .int .i64 1]) ∧ Below w.heap.size w w' := by
  have HRT := Lib.hid (fun w => rright_any f w hf)
  rw [hr] at HRT
  have t0 : decide (i < 1) = false := decide_eq_false (by omega)
  have t1 : decide (255 < i) = false := decide_eq_false (by omega)
  have t2 : decide (p < 0) = true := decide_eq_true (by omega)
  clear h0 h1 h
  go_enter Try.func33, Try.ntmps33
  go_wp2_with (go_at_call 58; refine (HRT.out _).mono ?_; rintro e w' ⟨rfl, rfl⟩)
  exact bodyPost_ret (v := .tuple #[.agg #[.string ⟨#[]⟩, .string ⟨#[]⟩, .int .i64 0, .int .i64 0, .string ⟨#[]⟩], .int .i64 1]) (by simp [results, Try.results33, go_sem]) rfl ⟨rfl, ((Below.refl _ _).alloc (Nat.le_refl _) _).alloc (by simp) _⟩

set_option maxHeartbeats 1000000 in
theorem renc_pr1 (hf : f.size ≤ 140737488351232) (hn : n ≤ 140737488351232) (hr : rightB f = true) (h0 : ¬ i < 1) (h1 : ¬ 255 < i) (h2 : ¬ p < 0) (h : 255 < p) : Calls Try.prog 33 #[.agg #[.int .i64 i, .int .i64 p, .int .i64 e, .slice A n c], .string f] w fun r w' => r = .returned (.tuple #[.agg #[.string ⟨#[]⟩, .string ⟨#[]⟩, .int .i64 0, .int .i64 0, .string ⟨#[]⟩], .int .i64 1]) ∧ Below w.heap.size w w' := by
  have HRT := Lib.hid (fun w => rright_any f w hf)
  rw [hr] at HRT
  have t0 : decide (i < 1) = false := decide_eq_false (by omega)
  have t1 : decide (255 < i) = false := decide_eq_false (by omega)
  have t2 : decide (p < 0) = false := decide_eq_false (by omega)
  have t3 : decide (255 < p) = true := decide_eq_true (by omega)
  clear h0 h1 h2 h
  go_enter Try.func33, Try.ntmps33
  go_wp2_with (go_at_call 58; refine (HRT.out _).mono ?_; rintro e w' ⟨rfl, rfl⟩)
  exact bodyPost_ret (v := .tuple #[.agg #[.string ⟨#[]⟩, .string ⟨#[]⟩, .int .i64 0, .int .i64 0, .string ⟨#[]⟩], .int .i64 1]) (by simp [results, Try.results33, go_sem]) rfl ⟨rfl, ((Below.refl _ _).alloc (Nat.le_refl _) _).alloc (by simp) _⟩

set_option maxHeartbeats 1000000 in
theorem renc_ev0 (hf : f.size ≤ 140737488351232) (hn : n ≤ 140737488351232) (hr : rightB f = true) (h0 : ¬ i < 1) (h1 : ¬ 255 < i) (h2 : ¬ p < 0) (h3 : ¬ 255 < p) (h : e < 1) : Calls Try.prog 33 #[.agg #[.int .i64 i, .int .i64 p, .int .i64 e, .slice A n c], .string f] w fun r w' => r = .returned (.tuple #[.agg #[.string ⟨#[]⟩, .string ⟨#[]⟩, .int .i64 0, .int .i64 0, .string ⟨#[]⟩], .int .i64 1]) ∧ Below w.heap.size w w' := by
  have HRT := Lib.hid (fun w => rright_any f w hf)
  rw [hr] at HRT
  have t0 : decide (i < 1) = false := decide_eq_false (by omega)
  have t1 : decide (255 < i) = false := decide_eq_false (by omega)
  have t2 : decide (p < 0) = false := decide_eq_false (by omega)
  have t3 : decide (255 < p) = false := decide_eq_false (by omega)
  have t4 : decide (e < 1) = true := decide_eq_true (by omega)
  clear h0 h1 h2 h3 h
  go_enter Try.func33, Try.ntmps33
  go_wp2_with (go_at_call 58; refine (HRT.out _).mono ?_; rintro e w' ⟨rfl, rfl⟩)
  exact bodyPost_ret (v := .tuple #[.agg #[.string ⟨#[]⟩, .string ⟨#[]⟩, .int .i64 0, .int .i64 0, .string ⟨#[]⟩], .int .i64 1]) (by simp [results, Try.results33, go_sem]) rfl ⟨rfl, ((Below.refl _ _).alloc (Nat.le_refl _) _).alloc (by simp) _⟩

set_option maxHeartbeats 1000000 in
theorem renc_ev1 (hf : f.size ≤ 140737488351232) (hn : n ≤ 140737488351232) (hr : rightB f = true) (h0 : ¬ i < 1) (h1 : ¬ 255 < i) (h2 : ¬ p < 0) (h3 : ¬ 255 < p) (h4 : ¬ e < 1) (h : 4095 < e) : Calls Try.prog 33 #[.agg #[.int .i64 i, .int .i64 p, .int .i64 e, .slice A n c], .string f] w fun r w' => r = .returned (.tuple #[.agg #[.string ⟨#[]⟩, .string ⟨#[]⟩, .int .i64 0, .int .i64 0, .string ⟨#[]⟩], .int .i64 1]) ∧ Below w.heap.size w w' := by
  have HRT := Lib.hid (fun w => rright_any f w hf)
  rw [hr] at HRT
  have t0 : decide (i < 1) = false := decide_eq_false (by omega)
  have t1 : decide (255 < i) = false := decide_eq_false (by omega)
  have t2 : decide (p < 0) = false := decide_eq_false (by omega)
  have t3 : decide (255 < p) = false := decide_eq_false (by omega)
  have t4 : decide (e < 1) = false := decide_eq_false (by omega)
  have t5 : decide (4095 < e) = true := decide_eq_true (by omega)
  clear h0 h1 h2 h3 h4 h
  go_enter Try.func33, Try.ntmps33
  go_wp2_with (go_at_call 58; refine (HRT.out _).mono ?_; rintro e w' ⟨rfl, rfl⟩)
  exact bodyPost_ret (v := .tuple #[.agg #[.string ⟨#[]⟩, .string ⟨#[]⟩, .int .i64 0, .int .i64 0, .string ⟨#[]⟩], .int .i64 1]) (by simp [results, Try.results33, go_sem]) rfl ⟨rfl, ((Below.refl _ _).alloc (Nat.le_refl _) _).alloc (by simp) _⟩

set_option maxHeartbeats 1000000 in
theorem renc_n0 (hf : f.size ≤ 140737488351232) (hn : n ≤ 140737488351232) (hr : rightB f = true) (h0 : ¬ i < 1) (h1 : ¬ 255 < i) (h2 : ¬ p < 0) (h3 : ¬ 255 < p) (h4 : ¬ e < 1) (h5 : ¬ 4095 < e) (h : (n : Int) < 1) : Calls Try.prog 33 #[.agg #[.int .i64 i, .int .i64 p, .int .i64 e, .slice A n c], .string f] w fun r w' => r = .returned (.tuple #[.agg #[.string ⟨#[]⟩, .string ⟨#[]⟩, .int .i64 0, .int .i64 0, .string ⟨#[]⟩], .int .i64 1]) ∧ Below w.heap.size w w' := by
  have HRT := Lib.hid (fun w => rright_any f w hf)
  rw [hr] at HRT
  have t0 : decide (i < 1) = false := decide_eq_false (by omega)
  have t1 : decide (255 < i) = false := decide_eq_false (by omega)
  have t2 : decide (p < 0) = false := decide_eq_false (by omega)
  have t3 : decide (255 < p) = false := decide_eq_false (by omega)
  have t4 : decide (e < 1) = false := decide_eq_false (by omega)
  have t5 : decide (4095 < e) = false := decide_eq_false (by omega)
  have t6 : decide ((n : Int) < 1) = true := decide_eq_true (by omega)
  clear h0 h1 h2 h3 h4 h5 h
  go_enter Try.func33, Try.ntmps33
  go_wp2_with (go_at_call 58; refine (HRT.out _).mono ?_; rintro e w' ⟨rfl, rfl⟩)
  exact bodyPost_ret (v := .tuple #[.agg #[.string ⟨#[]⟩, .string ⟨#[]⟩, .int .i64 0, .int .i64 0, .string ⟨#[]⟩], .int .i64 1]) (by simp [results, Try.results33, go_sem]) rfl ⟨rfl, ((Below.refl _ _).alloc (Nat.le_refl _) _).alloc (by simp) _⟩

set_option maxHeartbeats 1000000 in
theorem renc_n1 (hf : f.size ≤ 140737488351232) (hn : n ≤ 140737488351232) (hr : rightB f = true) (h0 : ¬ i < 1) (h1 : ¬ 255 < i) (h2 : ¬ p < 0) (h3 : ¬ 255 < p) (h4 : ¬ e < 1) (h5 : ¬ 4095 < e) (h6 : ¬ (n : Int) < 1) (h : 8 < (n : Int)) : Calls Try.prog 33 #[.agg #[.int .i64 i, .int .i64 p, .int .i64 e, .slice A n c], .string f] w fun r w' => r = .returned (.tuple #[.agg #[.string ⟨#[]⟩, .string ⟨#[]⟩, .int .i64 0, .int .i64 0, .string ⟨#[]⟩], .int .i64 1]) ∧ Below w.heap.size w w' := by
  have HRT := Lib.hid (fun w => rright_any f w hf)
  rw [hr] at HRT
  have t0 : decide (i < 1) = false := decide_eq_false (by omega)
  have t1 : decide (255 < i) = false := decide_eq_false (by omega)
  have t2 : decide (p < 0) = false := decide_eq_false (by omega)
  have t3 : decide (255 < p) = false := decide_eq_false (by omega)
  have t4 : decide (e < 1) = false := decide_eq_false (by omega)
  have t5 : decide (4095 < e) = false := decide_eq_false (by omega)
  have t6 : decide ((n : Int) < 1) = false := decide_eq_false (by omega)
  have t7 : decide (8 < (n : Int)) = true := decide_eq_true (by omega)
  clear h0 h1 h2 h3 h4 h5 h6 h
  go_enter Try.func33, Try.ntmps33
  go_wp2_with (go_at_call 58; refine (HRT.out _).mono ?_; rintro e w' ⟨rfl, rfl⟩)
  exact bodyPost_ret (v := .tuple #[.agg #[.string ⟨#[]⟩, .string ⟨#[]⟩, .int .i64 0, .int .i64 0, .string ⟨#[]⟩], .int .i64 1]) (by simp [results, Try.results33, go_sem]) rfl ⟨rfl, ((Below.refl _ _).alloc (Nat.le_refl _) _).alloc (by simp) _⟩

end
end Go.Proofs.Ytpcdaidgijkkbaa
