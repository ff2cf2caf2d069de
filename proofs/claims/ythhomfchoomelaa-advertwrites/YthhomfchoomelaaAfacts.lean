/-
  What advert.Encode and Decode say of one another: what was written is read as it was.
-/
import Derived.Test.YthhomfchoomelaaAencode
import Derived.Test.YthhomfchoomelaaAdec
namespace Go.Proofs.Ythhomfchoomelaa
open Go.RowKit
set_option linter.unusedVariables false
set_option maxRecDepth 10000

/-- The Body of an advertisement. -/
def bodyS (f : ByteArray) (i p e : Int) (ss : List ByteArray) : ByteArray := strOfNums (wireA f i p e ss)
/-- To whom it goes. -/
def toA (f : ByteArray) : ByteArray := grp (decide (f.size = 16))
section
variable {f : ByteArray} {i p e : Int} {ss : List ByteArray}
theorem wire_byt (h : okA f i p e ss = true) : Byt (wireA f i p e ss) := by
  obtain ⟨g1, g2, g3, g4, g5, g6⟩ := okA_all h
  have := sumA_bd f i p e ss
  exact bodyL_byt (by omega) g3 (by omega) (by omega) (by omega) (by omega)
theorem wire_len (h : okA f i p e ss = true) : (wireA f i p e ss).length = 8 + ss.length * f.size := bodyL_len _ _ _ _ _ _ _ (okA_all h).2.2.2.2.2
theorem bodyS_bts (h : okA f i p e ss = true) : bts (bodyS f i p e ss) = wireA f i p e ss := bts_strOfNums (wire_byt h)
theorem bodyS_size (h : okA f i p e ss = true) : (bodyS f i p e ss).size = 8 + ss.length * f.size := by rw [bodyS, strOfNums_size, wire_len h]
theorem nq_le (h : okA f i p e ss = true) : 1 ≤ ss.length ∧ ss.length ≤ 8 ∧ 4 ≤ f.size ∧ f.size ≤ 16 ∧ 4 ≤ ss.length * f.size ∧ ss.length * f.size ≤ 128 ∧ (ss.length * f.size) % 2 = 0 := by
  obtain ⟨g1, g2, g3, g4, g5, g6⟩ := okA_all h
  have h1 : ss.length * f.size ≤ 8 * 16 := Nat.mul_le_mul (by omega) (by omega)
  have h2 : 1 * 4 ≤ ss.length * f.size := Nat.mul_le_mul (by omega) (by omega)
  have h3 : (ss.length * f.size) % 2 = 0 := by rw [Nat.mul_mod, show f.size % 2 = 0 by omega]; simp
  exact ⟨by omega, by omega, by omega, by omega, by omega, by omega, h3⟩
theorem toA_size (h : okA f i p e ss = true) : (toA f).size = f.size := by
  obtain ⟨g1, _⟩ := okA_all h
  rw [toA, grp_size]
  rcases g1 with g | g <;> simp [g]
theorem alike_to (h : okA f i p e ss = true) : alikeB f (toA f) = true := by
  have h1 := toA_size h
  obtain ⟨g1, _⟩ := okA_all h
  simp [alikeB, rightB, h1, g1]
theorem tot_body (hi lo : Int) : tot (bodyL i p e ss hi lo) = tot (bodyL i p e ss 0 0) + (hi * 256 + lo) := by
  simp [bodyL, tot]
  omega
theorem wire_good (h : okA f i p e ss = true) : fd (tot (psx f (toA f) 112 ((8 + ss.length * f.size : Nat) : Int) ++ wireA f i p e ss)) = 65535 := by
  obtain ⟨g1, g2, g3, g4, g5, g6⟩ := okA_all h
  have he := (psx_even f (toA f) 112 ((8 + ss.length * f.size : Nat) : Int)).1
  have hs := sumA_bd f i p e ss
  have hd : 65535 - fd (tot (psx f (toA f) 112 ((8 + ss.length * f.size : Nat) : Int) ++ bodyL i p e ss 0 0)) = sumA f i p e ss := rfl
  have hb0 := (tot_bd _ (psx_byt f (toA f) 112 ((8 + ss.length * f.size : Nat) : Int))).1
  have hj := (tot_bd _ (joined_byt ss)).1
  have hb1 : 49 * 256 ≤ tot (bodyL i p e ss 0 0) := by
    simp [bodyL, tot]
    omega
  rw [tot_append_even _ _ he] at hd ⊢
  rw [wireA, tot_body]
  generalize tot (psx f (toA f) 112 ((8 + ss.length * f.size : Nat) : Int)) = P at *
  generalize tot (bodyL i p e ss 0 0) = T at *
  generalize sumA f i p e ss = v at *
  have hv : v / 256 * 256 + v % 256 = v := by omega
  rw [hv]
  have h1 := fd_bd (P + T)
  have h2 := @fd_mod (P + T)
  unfold fd at h1 h2 hd ⊢
  rw [if_neg (by omega)] at h1 h2 hd ⊢
  omega
theorem wire_at (k : Nat) (hk : k < 8) : byteAt (wireA f i p e ss) k = byteAt [49, i, p, (ss.length : Int), e / 256, e % 256, sumA f i p e ss / 256, sumA f i p e ss % 256] k := by
  rw [wireA, bodyL, byteAt, byteAt, List.getElem?_append_left (by simpa using hk)]
theorem amiss_written (h : okA f i p e ss = true) : amiss f (toA f) 112 255 (bodyS f i p e ss) = 0 := by
  obtain ⟨g1, g2, g3, g4, g5, g6⟩ := okA_all h
  have hz := bodyS_size h
  have hq := nq_le h
  have b0 := wire_at (f := f) (i := i) (p := p) (e := e) (ss := ss) 0 (by omega)
  have b1 := wire_at (f := f) (i := i) (p := p) (e := e) (ss := ss) 1 (by omega)
  have b3 := wire_at (f := f) (i := i) (p := p) (e := e) (ss := ss) 3 (by omega)
  have b4 := wire_at (f := f) (i := i) (p := p) (e := e) (ss := ss) 4 (by omega)
  have b5 := wire_at (f := f) (i := i) (p := p) (e := e) (ss := ss) 5 (by omega)
  rw [← bodyS_bts h] at b0 b1 b3 b4 b5
  have c0 : byteAt (bts (bodyS f i p e ss)) 0 = 49 := b0
  have c1 : byteAt (bts (bodyS f i p e ss)) 1 = i := b1
  have c3 : byteAt (bts (bodyS f i p e ss)) 3 = (ss.length : Int) := b3
  have c4 : byteAt (bts (bodyS f i p e ss)) 4 = e / 256 := b4
  have c5 : byteAt (bts (bodyS f i p e ss)) 5 = e % 256 := b5
  have a1 : am1 112 255 = false := by decide
  have a2 : am2 f (toA f) (bodyS f i p e ss) = false := by simp [am2, alike_to h]; omega
  have a3 : am3 (bodyS f i p e ss) = false := by simp [am3, c0]
  have a4 : am4 (bodyS f i p e ss) = false := by simp [am4, c0]
  have a5 : am5 f (bodyS f i p e ss) = false := by
    simp only [am5, c3, hz, decide_eq_false_iff_not]
    have : ((8 + ss.length * f.size : Nat) : Int) = 8 + (ss.length : Int) * (f.size : Int) := by simp
    omega
  have a6 : am6 f (toA f) (bodyS f i p e ss) = false := by
    simp only [am6, hz, bodyS_bts h, wire_good h]
    simp
  have a7 : am7 (bodyS f i p e ss) = false := by
    simp only [am7, twoAt, c1, c4, c5, decide_eq_false_iff_not]
    omega
  simp [amiss, a1, a2, a3, a4, a5, a6, a7]
theorem many_written (h : okA f i p e ss = true) : manyOf (bodyS f i p e ss) = ss.length := by
  have b3 := wire_at (f := f) (i := i) (p := p) (e := e) (ss := ss) 3 (by omega)
  rw [← bodyS_bts h] at b3
  have c3 : byteAt (bts (bodyS f i p e ss)) 3 = (ss.length : Int) := b3
  rw [manyOf, c3]
  simp
theorem joined_piece : ∀ (ss : List ByteArray) (q k : Nat) (s : ByteArray), (∀ s ∈ ss, s.size = q) → ss[k]? = some s → ((joined ss).drop (k * q)).take q = bts s
  | [], q, k, s, h, hk => by simp at hk
  | a :: r, q, 0, s, h, hk => by
    have ha := h a (by simp)
    obtain rfl : a = s := by simpa using hk
    have : joined (a :: r) = bts a ++ joined r := by simp [joined]
    rw [this, Nat.zero_mul, List.drop_zero, List.take_append_of_le_length (by rw [bts_len]; omega), List.take_of_length_le (by rw [bts_len]; omega)]
  | a :: r, q, k + 1, s, h, hk => by
    have ha := h a (by simp)
    have ih := joined_piece r q k s (fun s hs => h s (by simp [hs])) (by simpa using hk)
    have e1 : joined (a :: r) = bts a ++ joined r := by simp [joined]
    have e2 : (k + 1) * q = (bts a).length + k * q := by rw [bts_len, ha, Nat.succ_mul, Nat.add_comm]
    have e3 : (bts a ++ joined r).drop ((bts a).length + k * q) = (joined r).drop (k * q) := by simp
    rw [e1, e2, e3]
    exact ih
theorem bts_extract (s : ByteArray) (a b : Nat) : bts (s.extract a b) = ((bts s).drop a).take (b - a) := by
  simp [bts, ByteArray.data_extract, Array.toList_extract, List.extract, List.map_drop, List.map_take]
theorem pieces_written (h : okA f i p e ss = true) : pieces (bodyS f i p e ss) f.size ss.length = ss := by
  apply List.ext_getElem?
  intro k
  by_cases hk : k < ss.length
  · obtain ⟨s, hs⟩ : ∃ s, ss[k]? = some s := ⟨_, List.getElem?_eq_getElem hk⟩
    rw [hs, pieces, List.getElem?_map, List.getElem?_range hk]
    show some (piece _ _ _) = _
    congr 1
    apply bts_inj
    rw [piece, bts_extract, bodyS_bts h, show 8 + k * f.size + f.size - (8 + k * f.size) = f.size by omega, ← joined_piece ss f.size k s (okA_all h).2.2.2.2.2 hs]
    congr 1
    rw [wireA, bodyL, ← List.drop_drop]
    rfl
  · rw [List.getElem?_eq_none (by rw [pieces_len]; omega), List.getElem?_eq_none (by omega)]
theorem id_written (h : okA f i p e ss = true) : byteAt (bts (bodyS f i p e ss)) 1 = i ∧ byteAt (bts (bodyS f i p e ss)) 2 = p ∧ twoAt (bts (bodyS f i p e ss)) 4 = e := by
  obtain ⟨g1, g2, g3, g4, g5, g6⟩ := okA_all h
  rw [bodyS_bts h, twoAt, wire_at 1 (by omega), wire_at 2 (by omega), wire_at 4 (by omega), wire_at 5 (by omega)]
  refine ⟨rfl, rfl, ?_⟩
  show e / 256 * 256 + e % 256 = e
  omega
end

/-- advert.Encode of an advertisement, by its parts' names. -/
theorem encode_yes {f : ByteArray} {i p e : Int} {A : Option Addr} {n c : Nat} {ss : List ByteArray} {w : World} (hS : Strs w A n c ss) (h : okA f i p e ss = true) :
    Calls Try.prog 10 #[.agg #[.int .i64 i, .int .i64 p, .int .i64 e, .slice A n c], .string f] w fun r w' => r = .returned (.tuple #[.agg #[.string f, .string (toA f), .int .i64 112, .int .i64 255, .string (bodyS f i p e ss)], .int .i64 0]) ∧ Below w.heap.size w w' := encode_ok hS h
/-- advert.Decode of what was written. -/
theorem decode_written {f : ByteArray} {i p e : Int} {ss : List ByteArray} {w : World} (h : okA f i p e ss = true) :
    Calls Try.prog 14 #[.agg #[.string f, .string (toA f), .int .i64 112, .int .i64 255, .string (bodyS f i p e ss)]] w fun r w' => ∃ A c, r = .returned (.tuple #[.agg #[.int .i64 i, .int .i64 p, .int .i64 e, .slice A ss.length c], .int .i64 0]) ∧ Strs w' A ss.length c ss ∧ Below w.heap.size w w' := by
  have hq := nq_le h
  have ht := toA_size h
  have := decode_ok f (toA f) 112 255 (bodyS f i p e ss) w (by omega) (by omega) (amiss_written h)
  rw [many_written h, pieces_written h, (id_written h).1, (id_written h).2.1, (id_written h).2.2] at this
  exact this

end Go.Proofs.Ythhomfchoomelaa
