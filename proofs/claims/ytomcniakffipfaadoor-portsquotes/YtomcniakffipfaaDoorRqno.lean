/-
  What outriderref05.Quoted does where a packet is no error.
-/
import Derived.Test.YtomcniakffipfaaDoorQted
import Derived.Test.YtomcniakffipfaaDoorRsum
namespace Go.Proofs.YtomcniakffipfaaDoor
open Go.RowKit
set_option linter.unusedVariables false
set_option maxRecDepth 10000

set_option maxHeartbeats 400000 in
theorem rq_empty (f t : ByteArray) (p l : Int) (w : World) : Calls Tryd.prog 7 #[.agg #[.string f, .string t, .int .i64 p, .int .i64 l, .string ⟨#[]⟩]] w fun e w' => e = .returned (.tuple #[.agg #[.int .i64 0, .string ⟨#[]⟩, .string ⟨#[]⟩, .int .i64 0, .int .i64 0], .int .i64 51]) ∧ Below w.heap.size w w' := by
  go_enter Tryd.func7, Tryd.ntmps7
  go_wp2
  exact bodyPost_ret (v := .tuple #[.agg #[.int .i64 0, .string ⟨#[]⟩, .string ⟨#[]⟩, .int .i64 0, .int .i64 0], .int .i64 51]) (by simp [results, Tryd.results7, go_sem]) rfl ⟨rfl, ((Below.refl _ _).alloc (Nat.le_refl _) _).alloc (by simp) _⟩
set_option maxHeartbeats 400000 in
theorem rq_other (f t : ByteArray) (p l : Int) (s : ByteArray) (w : World) (hf : f.size ≤ 140737488351232) (ht : t.size ≤ 140737488351232) (hs : 0 < s.size) (hs2 : s.size ≤ 3000) (x : Int) (hx : byteAt (bts s) 0 = x) (h1 : p ≠ 1) (h2 : p ≠ 58) : Calls Tryd.prog 7 #[.agg #[.string f, .string t, .int .i64 p, .int .i64 l, .string s]] w fun e w' => e = .returned (.tuple #[.agg #[.int .i64 0, .string ⟨#[]⟩, .string ⟨#[]⟩, .int .i64 0, .int .i64 0], .int .i64 51]) ∧ Below w.heap.size w w' := by
  have hx0 : ((s[0]'hs).toNat : Int) = x := by rw [← byteAt_text s 0 hs]; exact hx
  have i0 : (0 : Int) < (s.size : Int) := by omega
  have bx : 0 ≤ x ∧ x ≤ 255 := by rw [← hx0]; exact byte_le _
  have dz : decide ((s.size : Int) = 0) = false := decide_eq_false (by omega)
  have dz3 : ((s.size : Int) == 0) = false := beq_eq_false_iff_ne.2 (by omega)
  have d1 : (p == 1) = false := by simpa using h1
  have d2 : (p == 58) = false := by simpa using h2
  clear hx
  go_enter Tryd.func7, Tryd.ntmps7
  go_wp2
  exact bodyPost_ret (v := .tuple #[.agg #[.int .i64 0, .string ⟨#[]⟩, .string ⟨#[]⟩, .int .i64 0, .int .i64 0], .int .i64 51]) (by simp [results, Tryd.results7, go_sem]) rfl ⟨rfl, ((Below.refl _ _).alloc (Nat.le_refl _) _).alloc (by simp) _⟩
set_option maxHeartbeats 400000 in
theorem rq_one_f (f t : ByteArray) (l : Int) (s : ByteArray) (w : World) (hf : f.size ≤ 140737488351232) (ht : t.size ≤ 140737488351232) (hs : 0 < s.size) (hs2 : s.size ≤ 3000) (x : Int) (hx : byteAt (bts s) 0 = x) (h1 : f.size ≠ 4) : Calls Tryd.prog 7 #[.agg #[.string f, .string t, .int .i64 1, .int .i64 l, .string s]] w fun e w' => e = .returned (.tuple #[.agg #[.int .i64 0, .string ⟨#[]⟩, .string ⟨#[]⟩, .int .i64 0, .int .i64 0], .int .i64 51]) ∧ Below w.heap.size w w' := by
  have hx0 : ((s[0]'hs).toNat : Int) = x := by rw [← byteAt_text s 0 hs]; exact hx
  have i0 : (0 : Int) < (s.size : Int) := by omega
  have bx : 0 ≤ x ∧ x ≤ 255 := by rw [← hx0]; exact byte_le _
  have dz : decide ((s.size : Int) = 0) = false := decide_eq_false (by omega)
  have dz3 : ((s.size : Int) == 0) = false := beq_eq_false_iff_ne.2 (by omega)
  have d1 : ((f.size : Int) == 4) = false := by simp; omega
  clear hx
  go_enter Tryd.func7, Tryd.ntmps7
  go_wp2
  exact bodyPost_ret (v := .tuple #[.agg #[.int .i64 0, .string ⟨#[]⟩, .string ⟨#[]⟩, .int .i64 0, .int .i64 0], .int .i64 51]) (by simp [results, Tryd.results7, go_sem]) rfl ⟨rfl, ((Below.refl _ _).alloc (Nat.le_refl _) _).alloc (by simp) _⟩
set_option maxHeartbeats 400000 in
theorem rq_one_t (f t : ByteArray) (l : Int) (s : ByteArray) (w : World) (hf : f.size ≤ 140737488351232) (ht : t.size ≤ 140737488351232) (hs : 0 < s.size) (hs2 : s.size ≤ 3000) (x : Int) (hx : byteAt (bts s) 0 = x) (h1 : f.size = 4) (h2 : t.size ≠ 4) : Calls Tryd.prog 7 #[.agg #[.string f, .string t, .int .i64 1, .int .i64 l, .string s]] w fun e w' => e = .returned (.tuple #[.agg #[.int .i64 0, .string ⟨#[]⟩, .string ⟨#[]⟩, .int .i64 0, .int .i64 0], .int .i64 51]) ∧ Below w.heap.size w w' := by
  have hx0 : ((s[0]'hs).toNat : Int) = x := by rw [← byteAt_text s 0 hs]; exact hx
  have i0 : (0 : Int) < (s.size : Int) := by omega
  have bx : 0 ≤ x ∧ x ≤ 255 := by rw [← hx0]; exact byte_le _
  have dz : decide ((s.size : Int) = 0) = false := decide_eq_false (by omega)
  have dz3 : ((s.size : Int) == 0) = false := beq_eq_false_iff_ne.2 (by omega)
  have d1 : ((t.size : Int) == 4) = false := by simp; omega
  clear hx
  go_enter Tryd.func7, Tryd.ntmps7
  go_wp2
  exact bodyPost_ret (v := .tuple #[.agg #[.int .i64 0, .string ⟨#[]⟩, .string ⟨#[]⟩, .int .i64 0, .int .i64 0], .int .i64 51]) (by simp [results, Tryd.results7, go_sem]) rfl ⟨rfl, ((Below.refl _ _).alloc (Nat.le_refl _) _).alloc (by simp) _⟩
set_option maxHeartbeats 400000 in
theorem rq_one_x (f t : ByteArray) (l : Int) (s : ByteArray) (w : World) (hf : f.size ≤ 140737488351232) (ht : t.size ≤ 140737488351232) (hs : 0 < s.size) (hs2 : s.size ≤ 3000) (x : Int) (hx : byteAt (bts s) 0 = x) (h1 : f.size = 4) (h2 : t.size = 4) (h3 : x ≠ 3) (h4 : x ≠ 11) : Calls Tryd.prog 7 #[.agg #[.string f, .string t, .int .i64 1, .int .i64 l, .string s]] w fun e w' => e = .returned (.tuple #[.agg #[.int .i64 0, .string ⟨#[]⟩, .string ⟨#[]⟩, .int .i64 0, .int .i64 0], .int .i64 51]) ∧ Below w.heap.size w w' := by
  have hx0 : ((s[0]'hs).toNat : Int) = x := by rw [← byteAt_text s 0 hs]; exact hx
  have i0 : (0 : Int) < (s.size : Int) := by omega
  have bx : 0 ≤ x ∧ x ≤ 255 := by rw [← hx0]; exact byte_le _
  have dz : decide ((s.size : Int) = 0) = false := decide_eq_false (by omega)
  have dz3 : ((s.size : Int) == 0) = false := beq_eq_false_iff_ne.2 (by omega)
  have d1 : (x == 3) = false := by simpa using h3
  have d2 : (x == 11) = false := by simpa using h4
  clear hx
  go_enter Tryd.func7, Tryd.ntmps7
  go_wp2
  exact bodyPost_ret (v := .tuple #[.agg #[.int .i64 0, .string ⟨#[]⟩, .string ⟨#[]⟩, .int .i64 0, .int .i64 0], .int .i64 51]) (by simp [results, Tryd.results7, go_sem]) rfl ⟨rfl, ((Below.refl _ _).alloc (Nat.le_refl _) _).alloc (by simp) _⟩
set_option maxHeartbeats 400000 in
theorem rq_six_f (f t : ByteArray) (l : Int) (s : ByteArray) (w : World) (hf : f.size ≤ 140737488351232) (ht : t.size ≤ 140737488351232) (hs : 0 < s.size) (hs2 : s.size ≤ 3000) (x : Int) (hx : byteAt (bts s) 0 = x) (h1 : f.size ≠ 16) : Calls Tryd.prog 7 #[.agg #[.string f, .string t, .int .i64 58, .int .i64 l, .string s]] w fun e w' => e = .returned (.tuple #[.agg #[.int .i64 0, .string ⟨#[]⟩, .string ⟨#[]⟩, .int .i64 0, .int .i64 0], .int .i64 51]) ∧ Below w.heap.size w w' := by
  have hx0 : ((s[0]'hs).toNat : Int) = x := by rw [← byteAt_text s 0 hs]; exact hx
  have i0 : (0 : Int) < (s.size : Int) := by omega
  have bx : 0 ≤ x ∧ x ≤ 255 := by rw [← hx0]; exact byte_le _
  have dz : decide ((s.size : Int) = 0) = false := decide_eq_false (by omega)
  have dz3 : ((s.size : Int) == 0) = false := beq_eq_false_iff_ne.2 (by omega)
  have d1 : ((f.size : Int) == 16) = false := by simp; omega
  clear hx
  go_enter Tryd.func7, Tryd.ntmps7
  go_wp2
  exact bodyPost_ret (v := .tuple #[.agg #[.int .i64 0, .string ⟨#[]⟩, .string ⟨#[]⟩, .int .i64 0, .int .i64 0], .int .i64 51]) (by simp [results, Tryd.results7, go_sem]) rfl ⟨rfl, ((Below.refl _ _).alloc (Nat.le_refl _) _).alloc (by simp) _⟩
set_option maxHeartbeats 400000 in
theorem rq_six_t (f t : ByteArray) (l : Int) (s : ByteArray) (w : World) (hf : f.size ≤ 140737488351232) (ht : t.size ≤ 140737488351232) (hs : 0 < s.size) (hs2 : s.size ≤ 3000) (x : Int) (hx : byteAt (bts s) 0 = x) (h1 : f.size = 16) (h2 : t.size ≠ 16) : Calls Tryd.prog 7 #[.agg #[.string f, .string t, .int .i64 58, .int .i64 l, .string s]] w fun e w' => e = .returned (.tuple #[.agg #[.int .i64 0, .string ⟨#[]⟩, .string ⟨#[]⟩, .int .i64 0, .int .i64 0], .int .i64 51]) ∧ Below w.heap.size w w' := by
  have hx0 : ((s[0]'hs).toNat : Int) = x := by rw [← byteAt_text s 0 hs]; exact hx
  have i0 : (0 : Int) < (s.size : Int) := by omega
  have bx : 0 ≤ x ∧ x ≤ 255 := by rw [← hx0]; exact byte_le _
  have dz : decide ((s.size : Int) = 0) = false := decide_eq_false (by omega)
  have dz3 : ((s.size : Int) == 0) = false := beq_eq_false_iff_ne.2 (by omega)
  have d1 : ((t.size : Int) == 16) = false := by simp; omega
  clear hx
  go_enter Tryd.func7, Tryd.ntmps7
  go_wp2
  exact bodyPost_ret (v := .tuple #[.agg #[.int .i64 0, .string ⟨#[]⟩, .string ⟨#[]⟩, .int .i64 0, .int .i64 0], .int .i64 51]) (by simp [results, Tryd.results7, go_sem]) rfl ⟨rfl, ((Below.refl _ _).alloc (Nat.le_refl _) _).alloc (by simp) _⟩
set_option maxHeartbeats 400000 in
theorem rq_six_lo (f t : ByteArray) (l : Int) (s : ByteArray) (w : World) (hf : f.size ≤ 140737488351232) (ht : t.size ≤ 140737488351232) (hs : 0 < s.size) (hs2 : s.size ≤ 3000) (x : Int) (hx : byteAt (bts s) 0 = x) (h1 : f.size = 16) (h2 : t.size = 16) (h3 : x < 1) : Calls Tryd.prog 7 #[.agg #[.string f, .string t, .int .i64 58, .int .i64 l, .string s]] w fun e w' => e = .returned (.tuple #[.agg #[.int .i64 0, .string ⟨#[]⟩, .string ⟨#[]⟩, .int .i64 0, .int .i64 0], .int .i64 51]) ∧ Below w.heap.size w w' := by
  have hx0 : ((s[0]'hs).toNat : Int) = x := by rw [← byteAt_text s 0 hs]; exact hx
  have i0 : (0 : Int) < (s.size : Int) := by omega
  have bx : 0 ≤ x ∧ x ≤ 255 := by rw [← hx0]; exact byte_le _
  have dz : decide ((s.size : Int) = 0) = false := decide_eq_false (by omega)
  have dz3 : ((s.size : Int) == 0) = false := beq_eq_false_iff_ne.2 (by omega)
  have d1 : decide (1 ≤ x) = false := decide_eq_false (by omega)
  clear hx
  go_enter Tryd.func7, Tryd.ntmps7
  go_wp2
  exact bodyPost_ret (v := .tuple #[.agg #[.int .i64 0, .string ⟨#[]⟩, .string ⟨#[]⟩, .int .i64 0, .int .i64 0], .int .i64 51]) (by simp [results, Tryd.results7, go_sem]) rfl ⟨rfl, ((Below.refl _ _).alloc (Nat.le_refl _) _).alloc (by simp) _⟩
set_option maxHeartbeats 400000 in
theorem rq_six_hi (f t : ByteArray) (l : Int) (s : ByteArray) (w : World) (hf : f.size ≤ 140737488351232) (ht : t.size ≤ 140737488351232) (hs : 0 < s.size) (hs2 : s.size ≤ 3000) (x : Int) (hx : byteAt (bts s) 0 = x) (h1 : f.size = 16) (h2 : t.size = 16) (h3 : 3 < x) : Calls Tryd.prog 7 #[.agg #[.string f, .string t, .int .i64 58, .int .i64 l, .string s]] w fun e w' => e = .returned (.tuple #[.agg #[.int .i64 0, .string ⟨#[]⟩, .string ⟨#[]⟩, .int .i64 0, .int .i64 0], .int .i64 51]) ∧ Below w.heap.size w w' := by
  have hx0 : ((s[0]'hs).toNat : Int) = x := by rw [← byteAt_text s 0 hs]; exact hx
  have i0 : (0 : Int) < (s.size : Int) := by omega
  have bx : 0 ≤ x ∧ x ≤ 255 := by rw [← hx0]; exact byte_le _
  have dz : decide ((s.size : Int) = 0) = false := decide_eq_false (by omega)
  have dz3 : ((s.size : Int) == 0) = false := beq_eq_false_iff_ne.2 (by omega)
  have d1 : decide (1 ≤ x) = true := decide_eq_true (by omega)
  have d2 : decide (x ≤ 3) = false := decide_eq_false (by omega)
  clear hx
  go_enter Tryd.func7, Tryd.ntmps7
  go_wp2
  exact bodyPost_ret (v := .tuple #[.agg #[.int .i64 0, .string ⟨#[]⟩, .string ⟨#[]⟩, .int .i64 0, .int .i64 0], .int .i64 51]) (by simp [results, Tryd.results7, go_sem]) rfl ⟨rfl, ((Below.refl _ _).alloc (Nat.le_refl _) _).alloc (by simp) _⟩
/-- outriderref05.Quoted of what is no error. -/
theorem rq_none (f t : ByteArray) (p l : Int) (s : ByteArray) (w : World) (hf : f.size ≤ 140737488351232) (ht : t.size ≤ 140737488351232) (hs2 : s.size ≤ 3000) (h4 : er4 f t p s = false) (h6 : er6 f t p s = false) : Calls Tryd.prog 7 #[.agg #[.string f, .string t, .int .i64 p, .int .i64 l, .string s]] w fun e w' => e = .returned (.tuple #[.agg #[.int .i64 0, .string ⟨#[]⟩, .string ⟨#[]⟩, .int .i64 0, .int .i64 0], .int .i64 51]) ∧ Below w.heap.size w w' := by
  by_cases hs : s.size = 0
  · obtain rfl : s = ⟨#[]⟩ := by apply bts_inj; rw [List.eq_nil_of_length_eq_zero ((bts_len s).trans hs)]; rfl
    exact rq_empty f t p l w
  have hs' : 0 < s.size := by omega
  obtain ⟨x, hx⟩ : ∃ x, byteAt (bts s) 0 = x := ⟨_, rfl⟩
  have hb := byteAt_bd (bts_byt s) 0
  by_cases h1 : p = 1
  · subst h1
    simp [er4, four2, hs, hx] at h4
    by_cases g1 : f.size = 4
    · by_cases g2 : t.size = 4
      · exact rq_one_x f t l s w hf ht hs' hs2 x hx g1 g2 (h4 g1 g2).1 (h4 g1 g2).2
      · exact rq_one_t f t l s w hf ht hs' hs2 x hx g1 g2
    · exact rq_one_f f t l s w hf ht hs' hs2 x hx g1
  by_cases h2 : p = 58
  · subst h2
    simp [er6, six2, hs, hx] at h6
    by_cases g1 : f.size = 16
    · by_cases g2 : t.size = 16
      · have h7 := h6 g1 g2
        by_cases g3 : x < 1
        · exact rq_six_lo f t l s w hf ht hs' hs2 x hx g1 g2 g3
        · exact rq_six_hi f t l s w hf ht hs' hs2 x hx g1 g2 (by omega)
      · exact rq_six_t f t l s w hf ht hs' hs2 x hx g1 g2
    · exact rq_six_f f t l s w hf ht hs' hs2 x hx g1
  · exact rq_other f t p l s w hf ht hs' hs2 x hx h1 h2

end Go.Proofs.YtomcniakffipfaaDoor
