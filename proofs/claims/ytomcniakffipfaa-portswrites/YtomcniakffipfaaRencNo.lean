/-
  What the reference's Encode refuses.
-/
import Derived.Test.YtomcniakffipfaaRpseudo
namespace Go.Proofs.Ytomcniakffipfaa
open Go.RowKit
set_option linter.unusedVariables false

set_option maxRecDepth 100000 in
set_option maxHeartbeats 1000000 in
theorem renc_no1 (f t : ByteArray) (p l : Int) (s : ByteArray) (w : World) (hf : f.size ≤ 140737488351232) (ht : t.size ≤ 140737488351232) (hs : s.size ≤ 140737488351232) (h1 : rightB f = false) :
    Calls Try.prog 24 #[.agg #[.string f, .string t, .int .i64 p, .int .i64 l, .string s]] w fun e w' => e = .returned (.tuple #[.slice none 0 0, .int .i64 1]) ∧ Below w.heap.size w w' := by
  have H1 := Lib.hid h1
  clear h1
  go_enter Try.func24, Try.ntmps24
  go_wp2_with ((go_at_call_of 43 (Value.string f); refine (rright_at hf H1.out).mono ?_; rintro e w' ⟨rfl, rfl⟩))
  go_ret2
  exact ⟨rfl, (Below.refl _ _).alloc (Nat.le_refl _) _⟩

set_option maxRecDepth 100000 in
set_option maxHeartbeats 1000000 in
theorem renc_no2 (f t : ByteArray) (p l : Int) (s : ByteArray) (w : World) (hf : f.size ≤ 140737488351232) (ht : t.size ≤ 140737488351232) (hs : s.size ≤ 140737488351232) (h1 : rightB f = true) (h2 : rightB t = false) :
    Calls Try.prog 24 #[.agg #[.string f, .string t, .int .i64 p, .int .i64 l, .string s]] w fun e w' => e = .returned (.tuple #[.slice none 0 0, .int .i64 1]) ∧ Below w.heap.size w w' := by
  have H1 := Lib.hid h1
  have H2 := Lib.hid h2
  clear h1 h2
  go_enter Try.func24, Try.ntmps24
  go_wp2_with ((first | (go_at_call_of 43 (Value.string f); refine (rright_at hf H1.out).mono ?_; rintro e w' ⟨rfl, rfl⟩) | (go_at_call_of 43 (Value.string t); refine (rright_at ht H2.out).mono ?_; rintro e w' ⟨rfl, rfl⟩)))
  go_ret2
  exact ⟨rfl, (Below.refl _ _).alloc (Nat.le_refl _) _⟩

set_option maxRecDepth 100000 in
set_option maxHeartbeats 1000000 in
theorem renc_no3 (f t : ByteArray) (p l : Int) (s : ByteArray) (w : World) (hf : f.size ≤ 140737488351232) (ht : t.size ≤ 140737488351232) (hs : s.size ≤ 140737488351232) (h1 : rightB f = true) (h2 : rightB t = true) (h3 : f.size ≠ t.size) :
    Calls Try.prog 24 #[.agg #[.string f, .string t, .int .i64 p, .int .i64 l, .string s]] w fun e w' => e = .returned (.tuple #[.slice none 0 0, .int .i64 1]) ∧ Below w.heap.size w w' := by
  have d3 : decide ((f.size : Int) = (t.size : Int)) = false := by simp; omega
  have b3 : ((f.size : Int) != (t.size : Int)) = true := by simp; omega
  have H1 := Lib.hid h1
  have H2 := Lib.hid h2
  clear h1 h2
  go_enter Try.func24, Try.ntmps24
  go_wp2_with ((first | (go_at_call_of 43 (Value.string f); refine (rright_at hf H1.out).mono ?_; rintro e w' ⟨rfl, rfl⟩) | (go_at_call_of 43 (Value.string t); refine (rright_at ht H2.out).mono ?_; rintro e w' ⟨rfl, rfl⟩)))
  go_ret2
  exact ⟨rfl, (Below.refl _ _).alloc (Nat.le_refl _) _⟩

set_option maxRecDepth 100000 in
set_option maxHeartbeats 1000000 in
theorem renc_no4 (f t : ByteArray) (p l : Int) (s : ByteArray) (w : World) (hf : f.size ≤ 140737488351232) (ht : t.size ≤ 140737488351232) (hs : s.size ≤ 140737488351232) (h1 : rightB f = true) (h2 : rightB t = true) (h3 : f.size = t.size) (h4 : p < 0) :
    Calls Try.prog 24 #[.agg #[.string f, .string t, .int .i64 p, .int .i64 l, .string s]] w fun e w' => e = .returned (.tuple #[.slice none 0 0, .int .i64 1]) ∧ Below w.heap.size w w' := by
  have d3 : decide ((f.size : Int) = (t.size : Int)) = true := by simp; omega
  have b3 : ((f.size : Int) != (t.size : Int)) = false := by simp; omega
  have b3' : (f.size != t.size) = false := by simp; omega
  have d4 : decide (p < 0) = true := by simp; omega
  have H1 := Lib.hid h1
  have H2 := Lib.hid h2
  clear h1 h2
  go_enter Try.func24, Try.ntmps24
  go_wp2_with ((first | (go_at_call_of 43 (Value.string f); refine (rright_at hf H1.out).mono ?_; rintro e w' ⟨rfl, rfl⟩) | (go_at_call_of 43 (Value.string t); refine (rright_at ht H2.out).mono ?_; rintro e w' ⟨rfl, rfl⟩)))
  go_ret2
  exact ⟨rfl, (Below.refl _ _).alloc (Nat.le_refl _) _⟩

set_option maxRecDepth 100000 in
set_option maxHeartbeats 1000000 in
theorem renc_no5 (f t : ByteArray) (p l : Int) (s : ByteArray) (w : World) (hf : f.size ≤ 140737488351232) (ht : t.size ≤ 140737488351232) (hs : s.size ≤ 140737488351232) (h1 : rightB f = true) (h2 : rightB t = true) (h3 : f.size = t.size) (h4 : 255 < p) :
    Calls Try.prog 24 #[.agg #[.string f, .string t, .int .i64 p, .int .i64 l, .string s]] w fun e w' => e = .returned (.tuple #[.slice none 0 0, .int .i64 1]) ∧ Below w.heap.size w w' := by
  have d3 : decide ((f.size : Int) = (t.size : Int)) = true := by simp; omega
  have b3 : ((f.size : Int) != (t.size : Int)) = false := by simp; omega
  have b3' : (f.size != t.size) = false := by simp; omega
  have d4 : decide (p < 0) = false := by simp; omega
  have d5 : decide (255 < p) = true := by simp; omega
  have H1 := Lib.hid h1
  have H2 := Lib.hid h2
  clear h1 h2
  go_enter Try.func24, Try.ntmps24
  go_wp2_with ((first | (go_at_call_of 43 (Value.string f); refine (rright_at hf H1.out).mono ?_; rintro e w' ⟨rfl, rfl⟩) | (go_at_call_of 43 (Value.string t); refine (rright_at ht H2.out).mono ?_; rintro e w' ⟨rfl, rfl⟩)))
  go_ret2
  exact ⟨rfl, (Below.refl _ _).alloc (Nat.le_refl _) _⟩

set_option maxRecDepth 100000 in
set_option maxHeartbeats 1000000 in
theorem renc_no6 (f t : ByteArray) (p l : Int) (s : ByteArray) (w : World) (hf : f.size ≤ 140737488351232) (ht : t.size ≤ 140737488351232) (hs : s.size ≤ 140737488351232) (h1 : rightB f = true) (h2 : rightB t = true) (h3 : f.size = t.size) (h4 : 0 ≤ p) (h5 : p ≤ 255) (h6 : l < 0) :
    Calls Try.prog 24 #[.agg #[.string f, .string t, .int .i64 p, .int .i64 l, .string s]] w fun e w' => e = .returned (.tuple #[.slice none 0 0, .int .i64 1]) ∧ Below w.heap.size w w' := by
  have d3 : decide ((f.size : Int) = (t.size : Int)) = true := by simp; omega
  have b3 : ((f.size : Int) != (t.size : Int)) = false := by simp; omega
  have b3' : (f.size != t.size) = false := by simp; omega
  have d4 : decide (p < 0) = false := by simp; omega
  have d5 : decide (255 < p) = false := by simp; omega
  have d6 : decide (l < 0) = true := by simp; omega
  have H1 := Lib.hid h1
  have H2 := Lib.hid h2
  clear h1 h2
  go_enter Try.func24, Try.ntmps24
  go_wp2_with ((first | (go_at_call_of 43 (Value.string f); refine (rright_at hf H1.out).mono ?_; rintro e w' ⟨rfl, rfl⟩) | (go_at_call_of 43 (Value.string t); refine (rright_at ht H2.out).mono ?_; rintro e w' ⟨rfl, rfl⟩)))
  go_ret2
  exact ⟨rfl, (Below.refl _ _).alloc (Nat.le_refl _) _⟩

set_option maxRecDepth 100000 in
set_option maxHeartbeats 1000000 in
theorem renc_no7 (f t : ByteArray) (p l : Int) (s : ByteArray) (w : World) (hf : f.size ≤ 140737488351232) (ht : t.size ≤ 140737488351232) (hs : s.size ≤ 140737488351232) (h1 : rightB f = true) (h2 : rightB t = true) (h3 : f.size = t.size) (h4 : 0 ≤ p) (h5 : p ≤ 255) (h6 : 255 < l) :
    Calls Try.prog 24 #[.agg #[.string f, .string t, .int .i64 p, .int .i64 l, .string s]] w fun e w' => e = .returned (.tuple #[.slice none 0 0, .int .i64 1]) ∧ Below w.heap.size w w' := by
  have d3 : decide ((f.size : Int) = (t.size : Int)) = true := by simp; omega
  have b3 : ((f.size : Int) != (t.size : Int)) = false := by simp; omega
  have b3' : (f.size != t.size) = false := by simp; omega
  have d4 : decide (p < 0) = false := by simp; omega
  have d5 : decide (255 < p) = false := by simp; omega
  have d6 : decide (l < 0) = false := by simp; omega
  have d7 : decide (255 < l) = true := by simp; omega
  have H1 := Lib.hid h1
  have H2 := Lib.hid h2
  clear h1 h2
  go_enter Try.func24, Try.ntmps24
  go_wp2_with ((first | (go_at_call_of 43 (Value.string f); refine (rright_at hf H1.out).mono ?_; rintro e w' ⟨rfl, rfl⟩) | (go_at_call_of 43 (Value.string t); refine (rright_at ht H2.out).mono ?_; rintro e w' ⟨rfl, rfl⟩)))
  go_ret2
  exact ⟨rfl, (Below.refl _ _).alloc (Nat.le_refl _) _⟩

set_option maxRecDepth 100000 in
set_option maxHeartbeats 1000000 in
theorem renc_no8 (f t : ByteArray) (p l : Int) (s : ByteArray) (w : World) (hf : f.size ≤ 140737488351232) (ht : t.size ≤ 140737488351232) (hs : s.size ≤ 140737488351232) (h1 : rightB f = true) (h2 : rightB t = true) (h3 : f.size = t.size) (h4 : 0 ≤ p ∧ p ≤ 255) (h6 : 0 ≤ l ∧ l ≤ 255) (h7 : f.size = 16) (h8 : 1460 < s.size) :
    Calls Try.prog 24 #[.agg #[.string f, .string t, .int .i64 p, .int .i64 l, .string s]] w fun e w' => e = .returned (.tuple #[.slice none 0 0, .int .i64 1]) ∧ Below w.heap.size w w' := by
  have d3 : decide ((f.size : Int) = (t.size : Int)) = true := by simp; omega
  have b3 : ((f.size : Int) != (t.size : Int)) = false := by simp; omega
  have b3' : (f.size != t.size) = false := by simp; omega
  have d4 : decide (p < 0) = false := by simp; omega
  have d5 : decide (255 < p) = false := by simp; omega
  have d6 : decide (l < 0) = false := by simp; omega
  have d7 : decide (255 < l) = false := by simp; omega
  have d8 : decide ((f.size : Int) = 16) = true := by simp; omega
  have d9 : decide (f.size = 16) = true := by simp; omega
  have d10 : decide (1460 < (s.size : Int)) = true := by simp; omega
  have d11 : decide (1460 < s.size) = true := by simp; omega
  have H1 := Lib.hid h1
  have H2 := Lib.hid h2
  clear h1 h2
  go_enter Try.func24, Try.ntmps24
  go_wp2_with ((first | (go_at_call_of 43 (Value.string f); refine (rright_at hf H1.out).mono ?_; rintro e w' ⟨rfl, rfl⟩) | (go_at_call_of 43 (Value.string t); refine (rright_at ht H2.out).mono ?_; rintro e w' ⟨rfl, rfl⟩)))
  go_ret2
  exact ⟨rfl, (Below.refl _ _).alloc (Nat.le_refl _) _⟩

set_option maxRecDepth 100000 in
set_option maxHeartbeats 1000000 in
theorem renc_no9 (f t : ByteArray) (p l : Int) (s : ByteArray) (w : World) (hf : f.size ≤ 140737488351232) (ht : t.size ≤ 140737488351232) (hs : s.size ≤ 140737488351232) (h1 : rightB f = true) (h2 : rightB t = true) (h3 : f.size = t.size) (h4 : 0 ≤ p ∧ p ≤ 255) (h6 : 0 ≤ l ∧ l ≤ 255) (h7 : f.size ≠ 16) (h8 : 1480 < s.size) :
    Calls Try.prog 24 #[.agg #[.string f, .string t, .int .i64 p, .int .i64 l, .string s]] w fun e w' => e = .returned (.tuple #[.slice none 0 0, .int .i64 1]) ∧ Below w.heap.size w w' := by
  have d3 : decide ((f.size : Int) = (t.size : Int)) = true := by simp; omega
  have b3 : ((f.size : Int) != (t.size : Int)) = false := by simp; omega
  have b3' : (f.size != t.size) = false := by simp; omega
  have d4 : decide (p < 0) = false := by simp; omega
  have d5 : decide (255 < p) = false := by simp; omega
  have d6 : decide (l < 0) = false := by simp; omega
  have d7 : decide (255 < l) = false := by simp; omega
  have d8 : decide ((f.size : Int) = 16) = false := by simp; omega
  have d9 : decide (f.size = 16) = false := by simp; omega
  have d10 : decide (1480 < (s.size : Int)) = true := by simp; omega
  have d11 : decide (1480 < s.size) = true := by simp; omega
  have H1 := Lib.hid h1
  have H2 := Lib.hid h2
  clear h1 h2
  go_enter Try.func24, Try.ntmps24
  go_wp2_with ((first | (go_at_call_of 43 (Value.string f); refine (rright_at hf H1.out).mono ?_; rintro e w' ⟨rfl, rfl⟩) | (go_at_call_of 43 (Value.string t); refine (rright_at ht H2.out).mono ?_; rintro e w' ⟨rfl, rfl⟩)))
  go_ret2
  exact ⟨rfl, (Below.refl _ _).alloc (Nat.le_refl _) _⟩

/-- outriderref03.Encode, refused. -/
theorem renc_no (f t : ByteArray) (p l : Int) (s : ByteArray) (w : World) (hf : f.size ≤ 140737488351232) (ht : t.size ≤ 140737488351232) (hs : s.size ≤ 140737488351232) (h : ¬ Okp f t p l s) :
    Calls Try.prog 24 #[.agg #[.string f, .string t, .int .i64 p, .int .i64 l, .string s]] w fun e w' => e = .returned (.tuple #[.slice none 0 0, .int .i64 1]) ∧ Below w.heap.size w w' := by
  rcases h1 : rightB f with _ | _
  · exact renc_no1 f t p l s w hf ht hs h1
  rcases h2 : rightB t with _ | _
  · exact renc_no2 f t p l s w hf ht hs h1 h2
  by_cases h3 : f.size = t.size
  · by_cases h4 : p < 0
    · exact renc_no4 f t p l s w hf ht hs h1 h2 h3 h4
    by_cases h5 : 255 < p
    · exact renc_no5 f t p l s w hf ht hs h1 h2 h3 h5
    by_cases h6 : l < 0
    · exact renc_no6 f t p l s w hf ht hs h1 h2 h3 (by omega) (by omega) h6
    by_cases h7 : 255 < l
    · exact renc_no7 f t p l s w hf ht hs h1 h2 h3 (by omega) (by omega) h7
    have h8 : ¬ (s.size : Int) ≤ 1500 - headI f := fun hc => h ⟨by simp [alikeB, h1, h3], by simp [byteB]; omega, by simp [byteB]; omega, hc⟩
    unfold headI at h8
    by_cases h9 : f.size = 16
    · rw [if_pos h9] at h8
      exact renc_no8 f t p l s w hf ht hs h1 h2 h3 (by omega) (by omega) h9 (by omega)
    · rw [if_neg h9] at h8
      exact renc_no9 f t p l s w hf ht hs h1 h2 h3 (by omega) (by omega) h9 (by omega)
  · exact renc_no3 f t p l s w hf ht hs h1 h2 h3

end Go.Proofs.Ytomcniakffipfaa
