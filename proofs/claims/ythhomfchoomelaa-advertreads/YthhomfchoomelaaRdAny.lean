/-
  What outriderref06.Decode does.
-/
import Derived.Test.YthhomfchoomelaaRdsum
import Derived.Test.YthhomfchoomelaaRdids4
import Derived.Test.YthhomfchoomelaaRdids6
import Derived.Test.YthhomfchoomelaaRdok4
import Derived.Test.YthhomfchoomelaaRdok6
namespace Go.Proofs.Ythhomfchoomelaa
open Go.RowKit
set_option linter.unusedVariables false
set_option maxRecDepth 10000

theorem rbad4 (f t : ByteArray) (p l : Int) (s : ByteArray) (w : World) (hf : f.size ≤ 140737488351232) (ht : t.size ≤ 140737488351232) (hs : s.size ≤ 140737488351232) (hl : l = 255) (hp : p = 112) (h4 : f.size = 4) (v : Int) (ha : amiss f t p l s = v) (hv : v ≠ 0) :
    Calls Try.prog 15 #[.agg #[.string f, .string t, .int .i64 p, .int .i64 l, .string s]] w fun e w' => e = .returned (.tuple #[.agg #[.int .i64 0, .int .i64 0, .int .i64 0, .slice none 0 0], .int .i64 v]) ∧ Below w.heap.size w w' := by
  subst ha
  have a1 : am1 p l = false := by simp [am1, hl, hp]
  by_cases ht2 : t.size = f.size
  case neg =>
    have a2 : am2 f t s = true := by simp [am2, alikeB]; omega
    have e : amiss f t p l s = 60 := by simp [amiss, a1, a2]
    rw [e]
    exact rd_to4 f t p l s w hf ht hs hl hp h4 ht2
  by_cases h8 : 8 ≤ s.size
  case neg =>
    have a2 : am2 f t s = true := by simp [am2]; omega
    have e : amiss f t p l s = 60 := by simp [amiss, a1, a2]
    rw [e]
    exact rd_short4 f t p l s w hf ht hs hl hp h4 ht2 (by omega)
  have a2 : am2 f t s = false := by simp [am2, alikeB, rightB]; omega
  by_cases h3 : byteAt (bts s) 0 / 16 = 3
  case neg =>
    have a3 : am3 s = true := by simpa [am3] using h3
    have e : amiss f t p l s = 61 := by simp [amiss, a1, a2, a3]
    rw [e]
    exact rd_ver4 f t p l s w hf ht hs hl hp h4 ht2 h8 h3
  have a3 : am3 s = false := by simp [am3, h3]
  by_cases hy : byteAt (bts s) 0 % 16 = 1
  case neg =>
    have a4 : am4 s = true := by simpa [am4] using hy
    have e : amiss f t p l s = 62 := by simp [amiss, a1, a2, a3, a4]
    rw [e]
    exact rd_type4 f t p l s w hf ht hs hl hp h4 ht2 h8 h3 hy
  have a4 : am4 s = false := by simp [am4, hy]
  by_cases c1 : byteAt (bts s) 3 < 1
  · have a5 : am5 f s = true := decide_eq_true (by omega)
    have e : amiss f t p l s = 63 := by simp [amiss, a1, a2, a3, a4, a5]
    rw [e]
    exact rd_few4 f t p l s w hf ht hs hl hp h4 ht2 h8 h3 hy c1
  by_cases c2 : 8 < byteAt (bts s) 3
  · have a5 : am5 f s = true := decide_eq_true (by omega)
    have e : amiss f t p l s = 63 := by simp [amiss, a1, a2, a3, a4, a5]
    rw [e]
    exact rd_many4 f t p l s w hf ht hs hl hp h4 ht2 h8 h3 hy c2
  by_cases c3 : (s.size : Int) = 8 + byteAt (bts s) 3 * f.size
  case neg =>
    have a5 : am5 f s = true := decide_eq_true (.inr c3)
    have e : amiss f t p l s = 63 := by simp [amiss, a1, a2, a3, a4, a5]
    rw [e]
    exact rd_size4 f t p l s w hf ht hs hl hp h4 ht2 h8 h3 hy (by omega) (by omega) c3
  have a5 : am5 f s = false := decide_eq_false (by omega)
  have C3 := Lib.hid c3
  clear c3
  by_cases c6 : fd (tot (psx f t 112 (s.size : Int) ++ bts s)) = 65535
  case neg =>
    have a6 : am6 f t s = true := decide_eq_true c6
    have e : amiss f t p l s = 64 := by simp [amiss, a1, a2, a3, a4, a5, a6]
    rw [e]
    exact rd_sum4 f t p l s w hf ht hs hl hp h4 ht2 h8 h3 hy (by omega) (by omega) C3 _ rfl c6
  have a6 : am6 f t s = false := decide_eq_false (by simpa using c6)
  by_cases d1 : byteAt (bts s) 1 < 1
  · have a7 : am7 s = true := decide_eq_true (.inl d1)
    have e : amiss f t p l s = 66 := by simp [amiss, a1, a2, a3, a4, a5, a6, a7]
    rw [e]
    exact rd_id4 f t p l s w hf ht hs hl hp h4 ht2 h8 h3 hy (by omega) (by omega) C3 c6 d1
  by_cases d2 : twoAt (bts s) 4 < 1
  · have a7 : am7 s = true := decide_eq_true (by omega)
    have e : amiss f t p l s = 66 := by simp [amiss, a1, a2, a3, a4, a5, a6, a7]
    rw [e]
    exact rd_zero4 f t p l s w hf ht hs hl hp h4 ht2 h8 h3 hy (by omega) (by omega) C3 c6 (by omega) d2
  by_cases d3 : 4095 < twoAt (bts s) 4
  · have a7 : am7 s = true := decide_eq_true (by omega)
    have e : amiss f t p l s = 66 := by simp [amiss, a1, a2, a3, a4, a5, a6, a7]
    rw [e]
    exact rd_great4 f t p l s w hf ht hs hl hp h4 ht2 h8 h3 hy (by omega) (by omega) C3 c6 (by omega) d3
  have a7 : am7 s = false := decide_eq_false (by omega)
  exact absurd (by simp [amiss, a1, a2, a3, a4, a5, a6, a7]) hv

theorem rbad6 (f t : ByteArray) (p l : Int) (s : ByteArray) (w : World) (hf : f.size ≤ 140737488351232) (ht : t.size ≤ 140737488351232) (hs : s.size ≤ 140737488351232) (hl : l = 255) (hp : p = 112) (h4 : f.size = 16) (v : Int) (ha : amiss f t p l s = v) (hv : v ≠ 0) :
    Calls Try.prog 15 #[.agg #[.string f, .string t, .int .i64 p, .int .i64 l, .string s]] w fun e w' => e = .returned (.tuple #[.agg #[.int .i64 0, .int .i64 0, .int .i64 0, .slice none 0 0], .int .i64 v]) ∧ Below w.heap.size w w' := by
  subst ha
  have a1 : am1 p l = false := by simp [am1, hl, hp]
  by_cases ht2 : t.size = f.size
  case neg =>
    have a2 : am2 f t s = true := by simp [am2, alikeB]; omega
    have e : amiss f t p l s = 60 := by simp [amiss, a1, a2]
    rw [e]
    exact rd_to6 f t p l s w hf ht hs hl hp h4 ht2
  by_cases h8 : 8 ≤ s.size
  case neg =>
    have a2 : am2 f t s = true := by simp [am2]; omega
    have e : amiss f t p l s = 60 := by simp [amiss, a1, a2]
    rw [e]
    exact rd_short6 f t p l s w hf ht hs hl hp h4 ht2 (by omega)
  have a2 : am2 f t s = false := by simp [am2, alikeB, rightB]; omega
  by_cases h3 : byteAt (bts s) 0 / 16 = 3
  case neg =>
    have a3 : am3 s = true := by simpa [am3] using h3
    have e : amiss f t p l s = 61 := by simp [amiss, a1, a2, a3]
    rw [e]
    exact rd_ver6 f t p l s w hf ht hs hl hp h4 ht2 h8 h3
  have a3 : am3 s = false := by simp [am3, h3]
  by_cases hy : byteAt (bts s) 0 % 16 = 1
  case neg =>
    have a4 : am4 s = true := by simpa [am4] using hy
    have e : amiss f t p l s = 62 := by simp [amiss, a1, a2, a3, a4]
    rw [e]
    exact rd_type6 f t p l s w hf ht hs hl hp h4 ht2 h8 h3 hy
  have a4 : am4 s = false := by simp [am4, hy]
  by_cases c1 : byteAt (bts s) 3 < 1
  · have a5 : am5 f s = true := decide_eq_true (by omega)
    have e : amiss f t p l s = 63 := by simp [amiss, a1, a2, a3, a4, a5]
    rw [e]
    exact rd_few6 f t p l s w hf ht hs hl hp h4 ht2 h8 h3 hy c1
  by_cases c2 : 8 < byteAt (bts s) 3
  · have a5 : am5 f s = true := decide_eq_true (by omega)
    have e : amiss f t p l s = 63 := by simp [amiss, a1, a2, a3, a4, a5]
    rw [e]
    exact rd_many6 f t p l s w hf ht hs hl hp h4 ht2 h8 h3 hy c2
  by_cases c3 : (s.size : Int) = 8 + byteAt (bts s) 3 * f.size
  case neg =>
    have a5 : am5 f s = true := decide_eq_true (.inr c3)
    have e : amiss f t p l s = 63 := by simp [amiss, a1, a2, a3, a4, a5]
    rw [e]
    exact rd_size6 f t p l s w hf ht hs hl hp h4 ht2 h8 h3 hy (by omega) (by omega) c3
  have a5 : am5 f s = false := decide_eq_false (by omega)
  have C3 := Lib.hid c3
  clear c3
  by_cases c6 : fd (tot (psx f t 112 (s.size : Int) ++ bts s)) = 65535
  case neg =>
    have a6 : am6 f t s = true := decide_eq_true c6
    have e : amiss f t p l s = 64 := by simp [amiss, a1, a2, a3, a4, a5, a6]
    rw [e]
    exact rd_sum6 f t p l s w hf ht hs hl hp h4 ht2 h8 h3 hy (by omega) (by omega) C3 _ rfl c6
  have a6 : am6 f t s = false := decide_eq_false (by simpa using c6)
  by_cases d1 : byteAt (bts s) 1 < 1
  · have a7 : am7 s = true := decide_eq_true (.inl d1)
    have e : amiss f t p l s = 66 := by simp [amiss, a1, a2, a3, a4, a5, a6, a7]
    rw [e]
    exact rd_id6 f t p l s w hf ht hs hl hp h4 ht2 h8 h3 hy (by omega) (by omega) C3 c6 d1
  by_cases d2 : twoAt (bts s) 4 < 1
  · have a7 : am7 s = true := decide_eq_true (by omega)
    have e : amiss f t p l s = 66 := by simp [amiss, a1, a2, a3, a4, a5, a6, a7]
    rw [e]
    exact rd_zero6 f t p l s w hf ht hs hl hp h4 ht2 h8 h3 hy (by omega) (by omega) C3 c6 (by omega) d2
  by_cases d3 : 4095 < twoAt (bts s) 4
  · have a7 : am7 s = true := decide_eq_true (by omega)
    have e : amiss f t p l s = 66 := by simp [amiss, a1, a2, a3, a4, a5, a6, a7]
    rw [e]
    exact rd_great6 f t p l s w hf ht hs hl hp h4 ht2 h8 h3 hy (by omega) (by omega) C3 c6 (by omega) d3
  have a7 : am7 s = false := decide_eq_false (by omega)
  exact absurd (by simp [amiss, a1, a2, a3, a4, a5, a6, a7]) hv


/-- outriderref06.Decode of what is amiss. -/
theorem rdecode_bad (f t : ByteArray) (p l : Int) (s : ByteArray) (w : World) (hf : f.size ≤ 140737488351232) (ht : t.size ≤ 140737488351232) (hs : s.size ≤ 140737488351232) (v : Int) (ha : amiss f t p l s = v) (hv : v ≠ 0) :
    Calls Try.prog 15 #[.agg #[.string f, .string t, .int .i64 p, .int .i64 l, .string s]] w fun e w' => e = .returned (.tuple #[.agg #[.int .i64 0, .int .i64 0, .int .i64 0, .slice none 0 0], .int .i64 v]) ∧ Below w.heap.size w w' := by
  by_cases hl : l = 255
  case neg =>
    have e : amiss f t p l s = 65 := by simp [amiss, am1, hl]
    rw [← ha, e]
    exact rd_ttl f t p l s w hf ht hs hl
  by_cases hp : p = 112
  case neg =>
    have e : amiss f t p l s = 65 := by simp [amiss, am1, hp]
    rw [← ha, e]
    exact rd_proto f t p l s w hf ht hs hl hp
  by_cases h4 : f.size = 4
  · exact rbad4 f t p l s w hf ht hs hl hp h4 v ha hv
  by_cases h16 : f.size = 16
  · exact rbad6 f t p l s w hf ht hs hl hp h16 v ha hv
  have a1 : am1 p l = false := by simp [am1, hl, hp]
  have a2 : am2 f t s = true := by simp [am2, alikeB, rightB, h4, h16]
  have e : amiss f t p l s = 60 := by simp [amiss, a1, a2]
  rw [← ha, e]
  exact rd_from f t p l s w hf ht hs hl hp h4 h16
/-- outriderref06.Decode of an advertisement. -/
theorem rdecode_ok (f t : ByteArray) (p l : Int) (s : ByteArray) (w : World) (hf : f.size ≤ 140737488351232) (ht : t.size ≤ 140737488351232) (hs : s.size ≤ 140737488351232) (ha : amiss f t p l s = 0) :
    Calls Try.prog 15 #[.agg #[.string f, .string t, .int .i64 p, .int .i64 l, .string s]] w fun e w' => ∃ A c, e = .returned (.tuple #[.agg #[.int .i64 (byteAt (bts s) 1), .int .i64 (byteAt (bts s) 2), .int .i64 (twoAt (bts s) 4), .slice A (manyOf s) c], .int .i64 0]) ∧ Strs w' A (manyOf s) c (pieces s f.size (manyOf s)) ∧ Below w.heap.size w w' := by
  obtain ⟨a1, a2, a3, a4, a5, a6, a7⟩ := amiss_ok ha
  have b1 : l = 255 ∧ p = 112 := by have := of_decide_eq_false a1; omega
  have b2 : alikeB f t = true ∧ 8 ≤ s.size := by simpa [am2] using a2
  have b2' : (f.size = 4 ∨ f.size = 16) ∧ f.size = t.size := by simpa [alikeB, rightB] using b2.1
  have b3 : byteAt (bts s) 0 / 16 = 3 := by simpa [am3] using a3
  have b4 : byteAt (bts s) 0 % 16 = 1 := by simpa [am4] using a4
  have b5 := of_decide_eq_false a5
  have c3 : (s.size : Int) = 8 + byteAt (bts s) 3 * f.size := by omega
  have c1 : 1 ≤ byteAt (bts s) 3 ∧ byteAt (bts s) 3 ≤ 8 := by omega
  have b6 : fd (tot (psx f t 112 (s.size : Int) ++ bts s)) = 65535 := by simpa [am6] using a6
  have b7 := of_decide_eq_false a7
  rcases b2'.1 with h4 | h4
  · exact rd_ok4 f t p l s w hf ht hs b1.1 b1.2 h4 b2'.2.symm b2.2 b3 b4 c1.1 c1.2 (Lib.hid c3) b6 (by omega) (by omega) (by omega)
  · exact rd_ok6 f t p l s w hf ht hs b1.1 b1.2 h4 b2'.2.symm b2.2 b3 b4 c1.1 c1.2 (Lib.hid c3) b6 (by omega) (by omega) (by omega)

end Go.Proofs.Ythhomfchoomelaa
