/-
  What ipv.Decode does, in one contract.
-/
import Derived.Test.YtdoefjhdipkkeaaDoorDecode
namespace Go.Proofs.YtdoefjhdipkkeaaDoor
open Go.RowKit
set_option linter.unusedVariables false

/-- A packet. -/
structure Pk where
  f : ByteArray
  t : ByteArray
  p : Int
  l : Int
  s : ByteArray
def Pk.zero : Pk := ⟨⟨#[]⟩, ⟨#[]⟩, 0, 0, ⟨#[]⟩⟩
/-- The number that two bytes are. -/
def twoAt (bs : List Int) (k : Nat) : Int := byteAt bs k * 256 + byteAt bs (k + 1)
/-- What bytes of version 6 are. -/
def dec6 (bs : List Int) : Pk × Int :=
  if bs.length < 40 then (Pk.zero, 30)
  else if (bs.length : Int) - 40 < twoAt bs 4 then (Pk.zero, 33)
  else (⟨seg bs 8 16, seg bs 24 16, byteAt bs 6, byteAt bs 7, seg bs 40 (twoAt bs 4).toNat⟩, 0)
/-- What bytes of version 4 are. -/
def dec4 (bs : List Int) : Pk × Int :=
  if bs.length < 20 then (Pk.zero, 30)
  else if byteAt bs 0 ≠ 69 then (Pk.zero, 32)
  else if twoAt bs 2 < 20 ∨ (bs.length : Int) < twoAt bs 2 then (Pk.zero, 33)
  else if fd (tot (bs.take 20)) ≠ 65535 then (Pk.zero, 34)
  else if byteAt bs 7 ≠ 0 ∨ (byteAt bs 6 ≠ 0 ∧ byteAt bs 6 ≠ 64) then (Pk.zero, 32)
  else (⟨seg bs 12 4, seg bs 16 4, byteAt bs 9, byteAt bs 8, seg bs 20 ((twoAt bs 2).toNat - 20)⟩, 0)
/-- What bytes are. -/
def dec (bs : List Int) : Pk × Int :=
  if bs.length = 0 then (Pk.zero, 30)
  else if byteAt bs 0 / 16 = 6 then dec6 bs
  else if byteAt bs 0 / 16 = 4 then dec4 bs
  else (Pk.zero, 31)

theorem byteAt_take (bs : List Int) (m k : Nat) (h : k < m) : byteAt (bs.take m) k = byteAt bs k := by simp [byteAt, h]
theorem seg_take (bs : List Int) (m k n : Nat) (h : k + n ≤ m) : seg (bs.take m) k n = seg bs k n := by
  unfold seg
  rw [List.drop_take, List.take_take, Nat.min_eq_left (by omega)]

theorem decode_six_any (b off n c : Nat) (bs : List Int) (w : World) (hp : Part w ⟨some ⟨b, off, none⟩, n, c, bs⟩) (hn : n ≤ 140737488355328) (h1 : 1 ≤ n) (h6 : byteAt bs 0 / 16 = 6) (f t : ByteArray) (p l : Int) (s : ByteArray) (r : Int) (hd : dec6 bs = (⟨f, t, p, l, s⟩, r)) :
    Calls Tryd.prog 53 #[.slice (some ⟨b, off, none⟩) n c] w fun e w' => e = .returned (.tuple #[.agg #[.string f, .string t, .int .i64 p, .int .i64 l, .string s], .int .i64 r]) ∧ Below w.heap.size w w' := by
  have hbn : bs.length = n := hp.1
  have hnc : n ≤ c := hp.2.1
  have hb4 : 0 ≤ byteAt bs 4 ∧ byteAt bs 4 ≤ 255 := byteAt_bd hp.2.2.1 4
  have hb5 : 0 ≤ byteAt bs 5 ∧ byteAt bs 5 ≤ 255 := byteAt_bd hp.2.2.1 5
  have e4 : byteAt (bs.take 40) 4 = byteAt bs 4 := byteAt_take bs 40 4 (by omega)
  have e5 : byteAt (bs.take 40) 5 = byteAt bs 5 := byteAt_take bs 40 5 (by omega)
  have t4 : twoAt bs 4 = byteAt bs 4 * 256 + byteAt bs 5 := rfl
  unfold dec6 at hd
  rw [hbn] at hd
  by_cases h40 : n < 40
  · rw [if_pos h40] at hd
    simp [Pk.zero] at hd
    obtain ⟨⟨rfl, rfl, rfl, rfl, rfl⟩, rfl⟩ := hd
    exact decode_short6 b off n c bs w hp hn h1 _ rfl h6 h40
  rw [if_neg h40] at hd
  have hh : ∀ W : World, Part W ⟨some ⟨b, off, none⟩, n, c, bs⟩ → Part W ⟨some ⟨b, off, none⟩, 40, 40, bs.take 40⟩ := fun W h => by
    have := h.cut3 0 40 40 (by omega) (by omega)
    simpa using this
  have hr : ∀ W : World, Part W ⟨some ⟨b, off, none⟩, n, c, bs⟩ → Part W ⟨if c = 40 then some ⟨b, off, none⟩ else some ⟨b, off + 40, none⟩, n - 40, c - 40, bs.drop 40⟩ := fun W h => by
    have h2 := h.sub 40 (n - 40) (by omega)
    have e : (bs.drop 40).take (n - 40) = bs.drop 40 := List.take_of_length_le (by simp; omega)
    rw [e] at h2
    simpa [add_plain] using h2
  refine decode_six b off n c bs w hp hn h1 _ rfl h6 (by omega) _ rfl f t p l s r ?_
  have hW : Part ((w.alloc (.cells #[.string ⟨#[]⟩, .string ⟨#[]⟩, .int .i64 0, .int .i64 0, .string ⟨#[]⟩] 72)).drewN 1) ⟨some ⟨b, off, none⟩, n, c, bs⟩ := (hp.alloc _).drewN 1
  by_cases hl : (n : Int) - 40 < twoAt bs 4
  · rw [if_pos hl] at hd
    simp [Pk.zero] at hd
    obtain ⟨⟨rfl, rfl, rfl, rfl, rfl⟩, rfl⟩ := hd
    have hx := decodeSix_no b off (n - 40) (c - 40) _ (bs.take 40) (bs.drop 40) _ (hh _ hW) (hr _ hW) (by omega) (by rw [e4, e5]; omega)
    exact hx.mono fun e w' he => ⟨he.1, he.2.mono (by simp)⟩
  · rw [if_neg hl] at hd
    simp at hd
    obtain ⟨⟨rfl, rfl, rfl, rfl, rfl⟩, rfl⟩ := hd
    have hx := decodeSix_ok b off (n - 40) (c - 40) (twoAt bs 4).toNat _ (bs.take 40) (bs.drop 40) _ (hh _ hW) (hr _ hW) (by omega) (by rw [e4, e5]; omega) (by omega)
    rw [seg_take _ _ _ _ (by omega), seg_take _ _ _ _ (by omega), byteAt_take _ _ _ (by omega), byteAt_take _ _ _ (by omega)] at hx
    exact hx.mono fun e w' he => ⟨he.1, he.2.mono (by simp)⟩

theorem decode_four_any (b off n c : Nat) (bs : List Int) (w : World) (hp : Part w ⟨some ⟨b, off, none⟩, n, c, bs⟩) (hn : n ≤ 140737488355328) (h1 : 1 ≤ n) (h4 : byteAt bs 0 / 16 = 4) (f t : ByteArray) (p l : Int) (s : ByteArray) (r : Int) (hd : dec4 bs = (⟨f, t, p, l, s⟩, r)) :
    Calls Tryd.prog 53 #[.slice (some ⟨b, off, none⟩) n c] w fun e w' => e = .returned (.tuple #[.agg #[.string f, .string t, .int .i64 p, .int .i64 l, .string s], .int .i64 r]) ∧ Below w.heap.size w w' := by
  have hbn : bs.length = n := hp.1
  have hnc : n ≤ c := hp.2.1
  have hb0 : 0 ≤ byteAt bs 0 ∧ byteAt bs 0 ≤ 255 := byteAt_bd hp.2.2.1 0
  have hb2 : 0 ≤ byteAt bs 2 ∧ byteAt bs 2 ≤ 255 := byteAt_bd hp.2.2.1 2
  have hb3 : 0 ≤ byteAt bs 3 ∧ byteAt bs 3 ≤ 255 := byteAt_bd hp.2.2.1 3
  have hb6 : 0 ≤ byteAt bs 6 ∧ byteAt bs 6 ≤ 255 := byteAt_bd hp.2.2.1 6
  have hb7 : 0 ≤ byteAt bs 7 ∧ byteAt bs 7 ≤ 255 := byteAt_bd hp.2.2.1 7
  have e0 : byteAt (bs.take 20) 0 = byteAt bs 0 := byteAt_take bs 20 0 (by omega)
  have e2 : byteAt (bs.take 20) 2 = byteAt bs 2 := byteAt_take bs 20 2 (by omega)
  have e3 : byteAt (bs.take 20) 3 = byteAt bs 3 := byteAt_take bs 20 3 (by omega)
  have e6 : byteAt (bs.take 20) 6 = byteAt bs 6 := byteAt_take bs 20 6 (by omega)
  have e7 : byteAt (bs.take 20) 7 = byteAt bs 7 := byteAt_take bs 20 7 (by omega)
  have e8 : byteAt (bs.take 20) 8 = byteAt bs 8 := byteAt_take bs 20 8 (by omega)
  have e9 : byteAt (bs.take 20) 9 = byteAt bs 9 := byteAt_take bs 20 9 (by omega)
  have t2 : twoAt bs 2 = byteAt bs 2 * 256 + byteAt bs 3 := rfl
  unfold dec4 at hd
  rw [hbn] at hd
  by_cases h20 : n < 20
  · rw [if_pos h20] at hd
    simp [Pk.zero] at hd
    obtain ⟨⟨rfl, rfl, rfl, rfl, rfl⟩, rfl⟩ := hd
    exact decode_short4 b off n c bs w hp hn h1 _ rfl h4 h20
  rw [if_neg h20] at hd
  have hh : ∀ W : World, Part W ⟨some ⟨b, off, none⟩, n, c, bs⟩ → Part W ⟨some ⟨b, off, none⟩, 20, 20, bs.take 20⟩ := fun W h => by
    have := h.cut3 0 20 20 (by omega) (by omega)
    simpa using this
  have hr : ∀ W : World, Part W ⟨some ⟨b, off, none⟩, n, c, bs⟩ → Part W ⟨if c = 20 then some ⟨b, off, none⟩ else some ⟨b, off + 20, none⟩, n - 20, c - 20, bs.drop 20⟩ := fun W h => by
    have h2 := h.sub 20 (n - 20) (by omega)
    have e : (bs.drop 20).take (n - 20) = bs.drop 20 := List.take_of_length_le (by simp; omega)
    rw [e] at h2
    simpa [add_plain] using h2
  refine decode_four b off n c bs w hp hn h1 _ rfl h4 (by omega) _ rfl f t p l s r ?_
  have hW : Part ((w.alloc (.cells #[.string ⟨#[]⟩, .string ⟨#[]⟩, .int .i64 0, .int .i64 0, .string ⟨#[]⟩] 72)).drewN 1) ⟨some ⟨b, off, none⟩, n, c, bs⟩ := (hp.alloc _).drewN 1
  by_cases h69 : byteAt bs 0 ≠ 69
  · rw [if_pos h69] at hd
    simp [Pk.zero] at hd
    obtain ⟨⟨rfl, rfl, rfl, rfl, rfl⟩, rfl⟩ := hd
    have hx := decodeFour_head b off (n - 20) (c - 20) _ (bs.take 20) (bs.drop 20) _ (hh _ hW) (hr _ hW) (by omega) _ _ _ _ e0 e2 e3 rfl (by omega)
    exact hx.mono fun e w' he => ⟨he.1, he.2.mono (by simp)⟩
  rw [if_neg h69] at hd
  have h5 : byteAt bs 0 % 16 = 5 := by omega
  by_cases hl : twoAt bs 2 < 20 ∨ (n : Int) < twoAt bs 2
  · rw [if_pos hl] at hd
    simp [Pk.zero] at hd
    obtain ⟨⟨rfl, rfl, rfl, rfl, rfl⟩, rfl⟩ := hd
    by_cases hl2 : twoAt bs 2 < 20
    · have hx := decodeFour_short b off (n - 20) (c - 20) _ (bs.take 20) (bs.drop 20) _ (hh _ hW) (hr _ hW) (by omega) _ _ _ _ e0 e2 e3 rfl h5 hl2
      exact hx.mono fun e w' he => ⟨he.1, he.2.mono (by simp)⟩
    · have hx := decodeFour_long b off (n - 20) (c - 20) _ (bs.take 20) (bs.drop 20) _ (hh _ hW) (hr _ hW) (by omega) _ _ _ _ e0 e2 e3 rfl h5 (by omega) (by omega)
      exact hx.mono fun e w' he => ⟨he.1, he.2.mono (by simp)⟩
  rw [if_neg hl] at hd
  by_cases hs : fd (tot (bs.take 20)) ≠ 65535
  · rw [if_pos hs] at hd
    simp [Pk.zero] at hd
    obtain ⟨⟨rfl, rfl, rfl, rfl, rfl⟩, rfl⟩ := hd
    have hx := decodeFour_sum b off (n - 20) (c - 20) _ (bs.take 20) (bs.drop 20) _ (hh _ hW) (hr _ hW) (by omega) _ _ _ _ e0 e2 e3 rfl h5 (by omega) (by omega) (by simpa using hs)
    exact hx.mono fun e w' he => ⟨he.1, he.2.mono (by simp)⟩
  rw [if_neg hs] at hd
  have hs' : (fd (tot (bs.take 20)) == 65535) = true := by simpa using hs
  by_cases hv : byteAt bs 7 ≠ 0 ∨ (byteAt bs 6 ≠ 0 ∧ byteAt bs 6 ≠ 64)
  · rw [if_pos hv] at hd
    simp [Pk.zero] at hd
    obtain ⟨⟨rfl, rfl, rfl, rfl, rfl⟩, rfl⟩ := hd
    have hx := decodeFour_parts b off (n - 20) (c - 20) _ (bs.take 20) (bs.drop 20) _ (hh _ hW) (hr _ hW) (by omega) _ _ _ _ _ _ _ e0 e2 e3 e6 e7 rfl rfl h5 (by omega) (by omega) hs' _ rfl (andNot_no _ (by omega) (by omega) (by omega) (by omega))
    exact hx.mono fun e w' he => ⟨he.1, he.2.mono (by simp)⟩
  · rw [if_neg hv] at hd
    simp at hd
    obtain ⟨⟨rfl, rfl, rfl, rfl, rfl⟩, rfl⟩ := hd
    have hbit : bits BinOp.andNot IntKind.i64 (byteAt bs 6 * 256 + byteAt bs 7) 16384 = 0 := by
      by_cases h6 : byteAt bs 6 = 0
      · rw [show byteAt bs 6 * 256 + byteAt bs 7 = 0 by omega]; exact andNot_nil
      · rw [show byteAt bs 6 * 256 + byteAt bs 7 = 16384 by omega]; exact andNot_yes
    have hx := decodeFour_ok b off (n - 20) (c - 20) _ (bs.take 20) (bs.drop 20) _ (hh _ hW) (hr _ hW) (by omega) _ _ _ _ _ _ _ _ _ e0 e2 e3 e6 e7 e8 e9 rfl rfl ((twoAt bs 2).toNat - 20) (by omega) h5 (by omega) hs' hbit
    rw [seg_take _ _ _ _ (by omega), seg_take _ _ _ _ (by omega)] at hx
    exact hx.mono fun e w' he => ⟨he.1, he.2.mono (by simp)⟩

/-- ipv.Decode. -/
theorem decode_any (a : Option Addr) (n c : Nat) (bs : List Int) (w : World) (hp : Part w ⟨a, n, c, bs⟩) (hn : n ≤ 140737488355328) (f t : ByteArray) (p l : Int) (s : ByteArray) (r : Int) (hd : dec bs = (⟨f, t, p, l, s⟩, r)) :
    Calls Tryd.prog 53 #[.slice a n c] w fun e w' => e = .returned (.tuple #[.agg #[.string f, .string t, .int .i64 p, .int .i64 l, .string s], .int .i64 r]) ∧ Below w.heap.size w w' := by
  have hbn : bs.length = n := hp.1
  unfold dec at hd
  rw [hbn] at hd
  by_cases h0 : n = 0
  · rw [if_pos h0] at hd
    subst h0
    simp [Pk.zero] at hd
    obtain ⟨⟨rfl, rfl, rfl, rfl, rfl⟩, rfl⟩ := hd
    exact decode_empty a c w
  rw [if_neg h0] at hd
  obtain ⟨b, off, e, _⟩ := hp.2.2.2 (show 0 < n by omega)
  have e' : a = some ⟨b, off, none⟩ := e
  subst e'
  by_cases h6 : byteAt bs 0 / 16 = 6
  · rw [if_pos h6] at hd
    exact decode_six_any b off n c bs w hp hn (by omega) h6 f t p l s r hd
  rw [if_neg h6] at hd
  by_cases h4 : byteAt bs 0 / 16 = 4
  · rw [if_pos h4] at hd
    exact decode_four_any b off n c bs w hp hn (by omega) h4 f t p l s r hd
  rw [if_neg h4] at hd
  simp [Pk.zero] at hd
  obtain ⟨⟨rfl, rfl, rfl, rfl, rfl⟩, rfl⟩ := hd
  exact decode_version b off n c bs w hp hn (by omega) _ rfl h6 h4

end Go.Proofs.YtdoefjhdipkkeaaDoor
