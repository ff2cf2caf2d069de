/-
  A Tcp of which one byte of the body, or of who sent it, is another one is refused.
-/
import Derived.Test.YtomcniakffipfaaPalive
namespace Go.Proofs.Ytomcniakffipfaa
open Go.RowKit
set_option linter.unusedVariables false
set_option maxRecDepth 10000

/-- One byte of a list is another one. -/
theorem tot_set : ∀ (l : List Int) (k : Nat) (y : Int), k < l.length → tot (l.set k y) = tot l + (y - l[k]?.getD 0) * (if k % 2 = 0 then 256 else 1)
  | [], k, y, h => by simp at h
  | [a], k, y, h => by
    have : k = 0 := by simp at h; exact h
    subst this
    simp [tot]; omega
  | a :: b :: r, 0, y, h => by simp [tot]; omega
  | a :: b :: r, 1, y, h => by simp [tot]; omega
  | a :: b :: r, k + 2, y, h => by
    have ih := tot_set r k y (by simp at h; omega)
    simp only [List.set_cons_succ, tot, ih, List.getElem?_cons_succ]
    rw [show (k + 2) % 2 = k % 2 by omega]
    omega
theorem xor_byte (x y : Int) (hx : 0 ≤ x ∧ x ≤ 255) (hy : 1 ≤ y ∧ y ≤ 255) : ∃ z, bits BinOp.xor IntKind.u8 x y = z ∧ (0 ≤ z ∧ z ≤ 255) ∧ z ≠ x := by
  refine ⟨_, rfl, ?_⟩
  rw [u8_xor x y hx.1 (by omega) (by omega) (by omega)]
  have hlt : x.toNat ^^^ y.toNat < 2 ^ 8 := Nat.xor_lt_two_pow (by omega) (by omega)
  refine ⟨by omega, fun h => ?_⟩
  have h2 : x.toNat ^^^ y.toNat = x.toNat := by omega
  have h3 : y.toNat = 0 := by
    have := congrArg (fun n => x.toNat ^^^ n) h2
    simpa [← Nat.xor_assoc] using this
  omega
theorem sum_turn (B : List Int) (k : Nat) (z : Int) (hk : k < B.length) (hB : Byt B) (hz : 0 ≤ z ∧ z ≤ 255) (hne : z ≠ byteAt B k) (hg : fd (tot B) = 65535) : fd (tot (B.set k z)) ≠ 65535 := by
  intro h
  rw [tot_set B k z hk] at h
  have hb := byteAt_bd hB k
  have e : B[k]?.getD 0 = byteAt B k := rfl
  rw [e] at h
  have m1 := @fd_mod (tot B)
  have m2 := @fd_mod (tot B + (z - byteAt B k) * (if k % 2 = 0 then 256 else 1))
  rw [hg] at m1
  rw [h] at m2
  split at m2 <;> omega
theorem byt_set {l : List Int} (h : Byt l) (k : Nat) {z : Int} (hz : 0 ≤ z ∧ z ≤ 255) : Byt (l.set k z) := fun q hq => by
  rcases List.mem_or_eq_of_mem_set hq with hq | rfl
  · exact h q hq
  · exact hz

/-- What is read of a Tcp with a bad sum. -/
theorem read_bad (f t : ByteArray) (l0 : Int) (B : ByteArray) (hf : f.size ≤ 140737488351232) (ht : t.size ≤ 140737488351232) (h1 : 20 ≤ B.size) (h2 : B.size ≤ 3000) (hb : fd (tot (psx f t 6 (B.size : Int) ++ bts B)) ≠ 65535) :
    ∃ r, (r = 52 ∨ r = 53) ∧ ∀ w : World, Calls Try.prog 10 #[.agg #[.string f, .string t, .int .i64 6, .int .i64 l0, .string B]] w fun e w' => e = .returned (.tuple #[.agg #[.int .i64 0, .int .i64 0, .int .i64 0, .int .i64 0, .int .i64 0], .int .i64 r]) ∧ Below w.heap.size w w' := by
  by_cases h : tcpAt (bts B) < 20 ∨ (B.size : Int) < tcpAt (bts B)
  · exact ⟨53, .inr rfl, fun w => read_form f t 6 l0 B w 53 (by omega) (fun w => readHead_tcp B 0 0 0 0 0 53 w (fun w => readTcp_form B w h1 h2 h))⟩
  · refine ⟨52, .inl rfl, fun w => ?_⟩
    exact read_sum f t 6 l0 B w hf ht h2 (by omega) 6 _ _ _ _ _ rfl hb (fun w => readHead_tcp B 6 _ _ _ _ 0 w (fun w => readTcp_yes B _ _ _ _ w h1 h2 (by omega) (by omega) rfl rfl rfl rfl)) (fun w => sumless_tcp f t l0 B w)

theorem turn_body {f t : ByteArray} {l0 a b l k : Int} {s : ByteArray} (h : WrOk f t l0 6 a b l k s) (hs : s.size ≤ 2000) (i : Nat) (z : Int) (hi : i < 20 + s.size) (hz : 0 ≤ z ∧ z ≤ 255) (hne : z ≠ byteAt (wrL f t 6 a b l s) i) :
    ∃ r, (r = 52 ∨ r = 53) ∧ ∀ w : World, Calls Try.prog 10 #[.agg #[.string f, .string t, .int .i64 6, .int .i64 l0, .string (strOfNums ((wrL f t 6 a b l s).set i z))]] w fun e w' => e = .returned (.tuple #[.agg #[.int .i64 0, .int .i64 0, .int .i64 0, .int .i64 0, .int .i64 0], .int .i64 r]) ∧ Below w.heap.size w w' := by
  have hB := wrL_byt (f := f) (t := t) (s := s) h.1 h.2.1
  have hl := wrL_len f t 6 a b l s
  simp only [if_true] at hl
  have hg := wr_good h
  have hsm := okp_small h.2.2
  refine read_bad f t l0 _ (by omega) (by omega) (by rw [strOfNums_size, List.length_set]; omega) (by rw [strOfNums_size, List.length_set]; omega) ?_
  rw [bts_strOfNums (byt_set hB i hz), strOfNums_size, List.length_set]
  have hP := psx_even f t 6 ((wrL f t 6 a b l s).length : Int)
  have hPb := psx_byt f t 6 ((wrL f t 6 a b l s).length : Int)
  generalize psx f t 6 ((wrL f t 6 a b l s).length : Int) = P at hg hP hPb ⊢
  generalize wrL f t 6 a b l s = L at hg hB hl hne ⊢
  have e : P ++ L.set i z = (P ++ L).set (P.length + i) z := by
    rw [List.set_append_right _ _ (by omega)]
    congr 2
    omega
  rw [e]
  refine sum_turn (P ++ L) (P.length + i) z (by simp; omega) (hPb.append hB) hz ?_ hg
  rw [byteAt, List.getElem?_append_right (by omega), show P.length + i - P.length = i by omega]
  exact hne

theorem turn_from {f t : ByteArray} {l0 a b l k : Int} {s : ByteArray} (h : WrOk f t l0 6 a b l k s) (hs : s.size ≤ 2000) (i : Nat) (z : Int) (hi : i < f.size) (hz : 0 ≤ z ∧ z ≤ 255) (hne : z ≠ byteAt (bts f) i) :
    ∃ r, (r = 52 ∨ r = 53) ∧ ∀ w : World, Calls Try.prog 10 #[.agg #[.string (strOfNums ((bts f).set i z)), .string t, .int .i64 6, .int .i64 l0, .string (wrBody f t 6 a b l s)]] w fun e w' => e = .returned (.tuple #[.agg #[.int .i64 0, .int .i64 0, .int .i64 0, .int .i64 0, .int .i64 0], .int .i64 r]) ∧ Below w.heap.size w w' := by
  have hB := wrL_byt (f := f) (t := t) (s := s) h.1 h.2.1
  have hl := wrL_len f t 6 a b l s
  simp only [if_true] at hl
  have hg := wr_good h
  have hal : alikeB f t = true := h.2.2.1
  have hsm := okp_small h.2.2
  have hbz := wrBody_size f t 6 a b l s
  simp only [if_true] at hbz
  have hfz : (strOfNums ((bts f).set i z)).size = f.size := by rw [strOfNums_size, List.length_set, bts_len]
  have hal' : alikeB (strOfNums ((bts f).set i z)) t = true := by
    simp only [alikeB, rightB, hfz] at hal ⊢
    exact hal
  refine read_bad _ t l0 _ (by omega) (by omega) (by omega) (by omega) ?_
  rw [hbz, wrBody, bts_strOfNums hB, ← hl]
  have e0 : psx (strOfNums ((bts f).set i z)) t 6 ((wrL f t 6 a b l s).length : Int) = (psx f t 6 ((wrL f t 6 a b l s).length : Int)).set i z := by
    rw [psx, psx, if_pos hal', if_pos hal, pseu, pseu, hfz, bts_strOfNums (byt_set (bts_byt f) i hz)]
    split
    · rw [List.set_append_left _ _ (by rw [bts_len]; exact hi)]
    · rw [List.set_append_left _ _ (by rw [bts_len]; exact hi)]
  have hx : byteAt (psx f t 6 ((wrL f t 6 a b l s).length : Int)) i = byteAt (bts f) i := by
    rw [psx, if_pos hal, pseu]
    split
    · rw [byteAt, List.getElem?_append_left (by rw [bts_len]; exact hi)]; rfl
    · rw [byteAt, List.getElem?_append_left (by rw [bts_len]; exact hi)]; rfl
  have hln : i < (psx f t 6 ((wrL f t 6 a b l s).length : Int)).length := by
    rw [psx, if_pos hal, pseu]
    split
    · simp [bts_len]; omega
    · simp [bts_len]; omega
  rw [e0]
  have hPb := psx_byt f t 6 ((wrL f t 6 a b l s).length : Int)
  generalize psx f t 6 ((wrL f t 6 a b l s).length : Int) = P at hg hPb hx hln ⊢
  generalize wrL f t 6 a b l s = L at hg hB hl ⊢
  rw [← List.set_append_left i z hln]
  refine sum_turn (P ++ L) i z (by simp; omega) (hPb.append hB) hz ?_ hg
  rw [byteAt, List.getElem?_append_left hln]
  rw [byteAt] at hx
  rw [hx]
  exact hne

end Go.Proofs.Ytomcniakffipfaa
