/-
  The plain arithmetic of packets that are cut, turned in one byte, or read: what Decode says of them.
-/
import Derived.Test.YtdoefjhdipkkeaaDoorWire
namespace Go.Proofs.YtdoefjhdipkkeaaDoor
open Go.RowKit
set_option linter.unusedVariables false

/-- Who is refused has no packet. -/
theorem dec_zero (bs : List Int) : (dec bs).1 = Pk.zero ∨ (dec bs).2 = 0 := by
  obtain ⟨x, hx⟩ : ∃ x, x = dec bs := ⟨_, rfl⟩
  rw [← hx]
  unfold dec dec6 dec4 at hx
  repeat' split at hx
  all_goals subst hx
  all_goals first | exact .inl rfl | exact .inr rfl
/-- Twenty bytes that are not good are refused. -/
theorem dec_bad (bs : List Int) (h0 : byteAt bs 0 = 69) (hl : 20 ≤ bs.length) (hs : fd (tot (bs.take 20)) ≠ 65535) : ∃ r, dec bs = (Pk.zero, r) ∧ r ≠ 0 := by
  unfold dec dec4
  rw [if_neg (by omega), if_neg (by omega), if_pos (by omega), if_neg (by omega), if_neg (by omega), if_pos hs]
  by_cases h : twoAt bs 2 < 20 ∨ (bs.length : Int) < twoAt bs 2
  · rw [if_pos h]; exact ⟨33, rfl, by omega⟩
  · rw [if_neg h]; exact ⟨34, rfl, by omega⟩

theorem seg_len (bs : List Int) (k n : Nat) (h : k + n ≤ bs.length) : (seg bs k n).size = n := by
  unfold seg
  have : (strOfNums ((bs.drop k).take n)).size = ((bs.drop k).take n).length := by
    simp [strOfNums, ByteArray.size]
  rw [this]
  simp
  omega

/-- What was read is of sixteen bytes' addresses, or its first twenty bytes are good. -/
theorem dec_ok (bs : List Int) (f t : ByteArray) (p l : Int) (s : ByteArray) (h : dec bs = (⟨f, t, p, l, s⟩, 0)) :
    f.size = 16 ∨ (f.size = 4 ∧ t.size = 4 ∧ 20 ≤ bs.length ∧ fd (tot (bs.take 20)) = 65535) := by
  unfold dec at h
  by_cases h0 : bs.length = 0
  · rw [if_pos h0] at h; simp at h
  rw [if_neg h0] at h
  by_cases h6 : byteAt bs 0 / 16 = 6
  · rw [if_pos h6] at h
    unfold dec6 at h
    by_cases h40 : bs.length < 40
    · rw [if_pos h40] at h; simp at h
    rw [if_neg h40] at h
    by_cases hl : (bs.length : Int) - 40 < twoAt bs 4
    · rw [if_pos hl] at h; simp at h
    rw [if_neg hl] at h
    simp at h
    left
    rw [← h.1]
    exact seg_len _ _ _ (by omega)
  rw [if_neg h6] at h
  by_cases h4 : byteAt bs 0 / 16 = 4
  · rw [if_pos h4] at h
    unfold dec4 at h
    by_cases h20 : bs.length < 20
    · rw [if_pos h20] at h; simp at h
    rw [if_neg h20] at h
    by_cases h69 : byteAt bs 0 ≠ 69
    · rw [if_pos h69] at h; simp at h
    rw [if_neg h69] at h
    by_cases hl : twoAt bs 2 < 20 ∨ (bs.length : Int) < twoAt bs 2
    · rw [if_pos hl] at h; simp at h
    rw [if_neg hl] at h
    by_cases hs : fd (tot (bs.take 20)) ≠ 65535
    · rw [if_pos hs] at h; simp at h
    rw [if_neg hs] at h
    by_cases hv : byteAt bs 7 ≠ 0 ∨ (byteAt bs 6 ≠ 0 ∧ byteAt bs 6 ≠ 64)
    · rw [if_pos hv] at h; simp at h
    rw [if_neg hv] at h
    simp at h
    right
    refine ⟨?_, ?_, by omega, by omega⟩
    · rw [← h.1]; exact seg_len _ _ _ (by omega)
    · rw [← h.2.1]; exact seg_len _ _ _ (by omega)
  rw [if_neg h4] at h
  simp at h

/-- A packet that is cut anywhere is none. -/
theorem dec_cut (f t : ByteArray) (p l : Int) (s : ByteArray) (k : Nat) (h : Okp f t p l s) (hk : k < (wire f t p l s).length) : ∃ r, dec ((wire f t p l s).take k) = (Pk.zero, r) ∧ (r = 30 ∨ r = 33) := by
  rw [wire_len h] at hk
  obtain ⟨h1, h2, h3, h4⟩ := id h
  simp [alikeB, rightB] at h1
  have hlen := wire_len h
  unfold headI at h4
  obtain ⟨ws, hws⟩ : ∃ ws, ws = wire f t p l s := ⟨_, rfl⟩
  rw [← hws] at hlen ⊢
  have hlk : (ws.take k).length = k := by rw [List.length_take, hlen]; omega
  rcases Nat.eq_zero_or_pos k with rfl | hk0
  · exact ⟨30, by simp [dec], .inl rfl⟩
  by_cases h6 : f.size = 16
  · rw [if_pos h6] at h4 hk
    have e1 : ws = [96, 0, 0, 0, (s.size : Int) / 256 % 256, (s.size : Int) % 256, p, l] ++ (bts f ++ (bts t ++ bts s)) := by rw [hws]; simp [wire, h6, wire6]
    have b0 : byteAt (ws.take k) 0 = 96 := by rw [byteAt_take _ _ _ hk0, e1]; simp [byteAt]
    unfold dec dec6
    rw [hlk, if_neg (by omega), if_pos (by omega)]
    by_cases h40 : k < 40
    · rw [if_pos h40]; exact ⟨30, rfl, .inl rfl⟩
    · have b4 : byteAt (ws.take k) 4 = (s.size : Int) / 256 % 256 := by rw [byteAt_take _ _ _ (by omega), e1]; simp [byteAt]
      have b5 : byteAt (ws.take k) 5 = (s.size : Int) % 256 := by rw [byteAt_take _ _ _ (by omega), e1]; simp [byteAt]
      have t4 : twoAt (ws.take k) 4 = s.size := by
        have : twoAt (ws.take k) 4 = byteAt (ws.take k) 4 * 256 + byteAt (ws.take k) 5 := rfl
        rw [this, b4, b5]; omega
      rw [if_neg h40, if_pos (by omega)]
      exact ⟨33, rfl, .inr rfl⟩
  · rw [if_neg h6] at h4 hk
    obtain ⟨X, e1⟩ : ∃ X, ws = [69, 0, (20 + (s.size : Int)) / 256 % 256, (20 + (s.size : Int)) % 256] ++ X := ⟨_, by rw [hws]; simp [wire, h6, wire4, head4]; rfl⟩
    have b0 : byteAt (ws.take k) 0 = 69 := by rw [byteAt_take _ _ _ hk0, e1]; simp [byteAt]
    unfold dec dec4
    rw [hlk, if_neg (by omega), if_neg (by omega), if_pos (by omega)]
    by_cases h20 : k < 20
    · rw [if_pos h20]; exact ⟨30, rfl, .inl rfl⟩
    · have b2 : byteAt (ws.take k) 2 = (20 + (s.size : Int)) / 256 % 256 := by rw [byteAt_take _ _ _ (by omega), e1]; simp [byteAt]
      have b3 : byteAt (ws.take k) 3 = (20 + (s.size : Int)) % 256 := by rw [byteAt_take _ _ _ (by omega), e1]; simp [byteAt]
      have t2 : twoAt (ws.take k) 2 = 20 + (s.size : Int) := by
        have : twoAt (ws.take k) 2 = byteAt (ws.take k) 2 * 256 + byteAt (ws.take k) 3 := rfl
        rw [this, b2, b3]; omega
      rw [if_neg h20, if_neg (by omega), if_pos (by omega)]
      exact ⟨33, rfl, .inr rfl⟩

/-- One byte of a list is another one. -/
theorem tot_set : ∀ (l : List Int) (k : Nat) (y : Int), k < l.length → tot (l.set k y) = tot l + (y - l[k]?.getD 0) * (if k % 2 = 0 then 256 else 1)
  | [], k, y, h => by simp at h
  | [a], k, y, h => by
    have : k = 0 := by simp at h; exact h
    subst this
    simp [tot]; omega
  | a :: b :: r, 0, y, h => by simp [tot]; omega
  | a :: b :: r, 1, y, h => by simp [tot]; omega
  | a :: b :: r, k + 2, y, h => by
    have ih := tot_set r k y (by simp at h; omega)
    simp only [List.set_cons_succ, tot, ih, List.getElem?_cons_succ]
    rw [show (k + 2) % 2 = k % 2 by omega]
    omega

/-- A packet of version 4 of whose first twenty bytes one, but the first one, is another one is refused. -/
theorem dec_turn (f t : ByteArray) (p l : Int) (s : ByteArray) (k : Nat) (y : Int) (h : Okp f t p l s) (h6 : f.size ≠ 16) (hk1 : 1 ≤ k) (hk2 : k ≤ 19) (hy : 0 ≤ y ∧ y ≤ 255) (hne : y ≠ byteAt (wire f t p l s) k) : ∃ r, dec ((wire f t p l s).set k y) = (Pk.zero, r) ∧ r ≠ 0 := by
  have hlen := wire_len h
  rw [if_neg h6] at hlen
  have hbw := byteAt_bd (wire_byt h) k
  obtain ⟨h1, h2, h3, h4⟩ := id h
  simp [alikeB, rightB] at h1
  simp [byteB] at h2 h3
  have hf4 : f.size = 4 := by omega
  have ht4 : t.size = 4 := by omega
  obtain ⟨m, hm⟩ : ∃ m, m = sum4 s.size p l f t := ⟨_, rfl⟩
  have hg := good_head4 s.size p l f t h2 h3
  have hsb := sum4_bd s.size p l f t
  rw [← hm] at hg hsb
  obtain ⟨hd, hhd⟩ : ∃ hd, hd = head4 s.size p l (m / 256) (m % 256) f t := ⟨_, rfl⟩
  have hdl : hd.length = 20 := by rw [hhd]; exact head4_len _ _ _ _ _ _ _ hf4 ht4
  have e0 : wire f t p l s = hd ++ bts s := by rw [hhd]; simp [wire, h6, wire4, hm]
  rw [← hhd] at hg
  have ex : byteAt (wire f t p l s) k = byteAt hd k := by rw [e0]; simp [byteAt, List.getElem?_append, show k < hd.length by omega]
  rw [ex] at hne hbw
  have e1 : (wire f t p l s).set k y = hd.set k y ++ bts s := by rw [e0, List.set_append_left _ _ (by omega)]
  have hby : Byt hd := by rw [hhd]; exact head4_byt h2 h3 (by omega) (by omega)
  have htb := (tot_bd2 hd hby).1
  have ht := tot_set hd k y (by omega)
  have ht' : tot (hd.set k y) = tot hd + (y - byteAt hd k) * (if k % 2 = 0 then 256 else 1) := ht
  have htk : ((wire f t p l s).set k y).take 20 = hd.set k y := by rw [e1, ← hdl, ← List.length_set (i := k) (a := y), List.take_left]
  have hbad : fd (tot (hd.set k y)) ≠ 65535 := by
    intro hc
    have m1 := @fd_mod (tot (hd.set k y))
    have m2 := @fd_mod (tot hd)
    rw [hc] at m1
    rw [hg] at m2
    rw [ht'] at m1
    generalize byteAt hd k = x at *
    generalize tot hd = T at *
    split at m1 <;> omega
  refine dec_bad _ ?_ (by rw [List.length_set, hlen]; omega) (by rw [htk]; exact hbad)
  rw [e0]
  have : byteAt hd 0 = 69 := by rw [hhd]; simp [byteAt, head4]
  rw [← this]
  simp [byteAt, List.getElem?_append, show k ≠ 0 by omega, show 0 < hd.length by omega]

theorem xor_byte (x y : Int) (hx : 0 ≤ x ∧ x ≤ 255) (hy : 1 ≤ y ∧ y ≤ 255) : ∃ z, bits BinOp.xor IntKind.u8 x y = z ∧ (0 ≤ z ∧ z ≤ 255) ∧ z ≠ x := by
  refine ⟨_, rfl, ?_⟩
  rw [u8_xor x y hx.1 (by omega) (by omega) (by omega)]
  have hlt : x.toNat ^^^ y.toNat < 2 ^ 8 := Nat.xor_lt_two_pow (by omega) (by omega)
  refine ⟨by omega, fun h => ?_⟩
  have h2 : x.toNat ^^^ y.toNat = x.toNat := by omega
  have h3 : y.toNat = 0 := by
    have := congrArg (fun n => x.toNat ^^^ n) h2
    simpa [← Nat.xor_assoc] using this
  omega

end Go.Proofs.YtdoefjhdipkkeaaDoor
