/-
  What Encode does.
-/
import Derived.Test.YtdoefjhdipkkeaaDoorEPart
import Derived.Laws.MakeOwn
namespace Go.Proofs.YtdoefjhdipkkeaaDoor.E
open Go.RowKit

theorem made_cells (n : Nat) : madeCells (Value.int .u8 0).cells n = (cel (List.replicate n 0)).toArray := by
  apply Array.ext
  · simp [madeCells, cel]
  · intro i h1 h2
    simp [madeCells, Value.cells, cel, Nat.mod_one]
theorem make_bytes (W : World) (n m : Nat) (k : Int) (hk : k = (n : Int)) (hn : n ≤ 281474976710656) (hm : m = W.heap.size) :
    (Instr.makeSlice 26 (.int .i64 k) (.int .i64 k)).run Tryd.prog W = .ok (.slice (some ⟨m, 0, none⟩) n n) (W.alloc (.cells (cel (List.replicate n 0)).toArray 5)) := by
  subst hk hm
  obtain ⟨i, hi, hz, hs, hb⟩ := info_parts info5
  have hr := run_make (P := Tryd.prog) W 26 5 i (.int .u8 0) Tryd.underlying26 hi hz .i64 .i64 n n (by omega) (by omega) (by rw [hb]; omega) (by omega)
  simp only [Int.toNat_natCast] at hr
  rw [hr, hs, Nat.mul_one, made_cells]

theorem copyp0 (W : World) (N : Nat) (cur : List Value) (t ty : TypeId) (off dLen dCap : Nat) (ad : Addr) (sLen sCap : Nat) (cs : List Int) (hN : N = W.heap.size) (hn : cs.length = Nat.min sLen dLen) (hfit : off + cs.length ≤ cur.length)
    (hsrc : ∀ j v, (cel cs)[j]? = some v → (W.alloc (.cells cur.toArray t)).cell? (ad.add j) = some v) :
    (Builtin.copy_ #[26, 26] ty #[.slice (some ⟨N, off, none⟩) dLen dCap, .slice (some ad) sLen sCap]).run Tryd.prog (W.alloc (.cells cur.toArray t)) =
      .ok (goInt cs.length) (W.alloc (.cells (splice cur off (cel cs)).toArray t)) := copy_part W N cur t ty off dLen dCap 0 ad sLen sCap cs hN hn hfit hsrc
theorem copyp1 (W : World) (N : Nat) (cur : List Value) (t ty : TypeId) (off dLen dCap : Nat) (ad : Addr) (sLen sCap : Nat) (cs : List Int) (hN : N = W.heap.size) (hn : cs.length = Nat.min sLen dLen) (hfit : off + cs.length ≤ cur.length)
    (hsrc : ∀ j v, (cel cs)[j]? = some v → (W.alloc (.cells cur.toArray t)).cell? (ad.add j) = some v) :
    (Builtin.copy_ #[26, 26] ty #[.slice (some ⟨N, off, none⟩) dLen dCap, .slice (some ad) sLen sCap]).run Tryd.prog (W.alloc (.cells cur.toArray t)).drew =
      .ok (goInt cs.length) (W.alloc (.cells (splice cur off (cel cs)).toArray t)).drew := copy_part W N cur t ty off dLen dCap 1 ad sLen sCap cs hN hn hfit hsrc

theorem part_top (W : World) (R : List Value) (bs : List Int) (N n : Nat) (hR : R = cel bs) (hN : N = W.heap.size) (hb : Byt bs) (hn : bs.length = n) (k : Nat) :
    Part ((W.alloc (.cells R.toArray 5)).drewN k) ⟨some ⟨N, 0, none⟩, n, n, bs⟩ := by
  subst hR hN
  exact part_row (heap_top W _ 5 k) hb n hn

/-- A frame's bytes. -/
def wire (a0 a1 a2 a3 a4 a5 a6 a7 a8 a9 a10 a11 t : Int) (s : ByteArray) : List Int := [a0, a1, a2, a3, a4, a5, a6, a7, a8, a9, a10, a11, t / 256, t % 256] ++ bts s
theorem wire_len (a0 a1 a2 a3 a4 a5 a6 a7 a8 a9 a10 a11 t : Int) (s : ByteArray) : (wire a0 a1 a2 a3 a4 a5 a6 a7 a8 a9 a10 a11 t s).length = 14 + s.size := by simp [wire, bts_len]; omega
theorem wire_byt (a0 a1 a2 a3 a4 a5 a6 a7 a8 a9 a10 a11 t : Int) (s : ByteArray) (q0 : 0 ≤ a0 ∧ a0 ≤ 255) (q1 : 0 ≤ a1 ∧ a1 ≤ 255) (q2 : 0 ≤ a2 ∧ a2 ≤ 255) (q3 : 0 ≤ a3 ∧ a3 ≤ 255) (q4 : 0 ≤ a4 ∧ a4 ≤ 255) (q5 : 0 ≤ a5 ∧ a5 ≤ 255) (q6 : 0 ≤ a6 ∧ a6 ≤ 255) (q7 : 0 ≤ a7 ∧ a7 ≤ 255) (q8 : 0 ≤ a8 ∧ a8 ≤ 255) (q9 : 0 ≤ a9 ∧ a9 ≤ 255) (q10 : 0 ≤ a10 ∧ a10 ≤ 255) (q11 : 0 ≤ a11 ∧ a11 ≤ 255) (h1 : 1536 ≤ t) (h2 : t ≤ 65535) : Byt (wire a0 a1 a2 a3 a4 a5 a6 a7 a8 a9 a10 a11 t s) := by
  intro x hx
  rcases List.mem_append.1 hx with hx | hx
  · simp at hx
    omega
  · exact bts_byt s x hx

theorem fourteen {α : Type} (l : List α) (k : Nat) (h : l.length = 14 + k) : ∃ z0 z1 z2 z3 z4 z5 z6 z7 z8 z9 z10 z11 z12 z13 r, l = [z0, z1, z2, z3, z4, z5, z6, z7, z8, z9, z10, z11, z12, z13] ++ r ∧ r.length = k := by
  match l, h with
  | z0 :: z1 :: z2 :: z3 :: z4 :: z5 :: z6 :: z7 :: z8 :: z9 :: z10 :: z11 :: z12 :: z13 :: r, h => exact ⟨z0, z1, z2, z3, z4, z5, z6, z7, z8, z9, z10, z11, z12, z13, r, rfl, by simp at h; omega⟩
  | [], h | [_], h | [_, _], h | [_, _, _], h | [_, _, _, _], h | [_, _, _, _, _], h | [_, _, _, _, _, _], h | [_, _, _, _, _, _, _], h | [_, _, _, _, _, _, _, _], h | [_, _, _, _, _, _, _, _, _], h
  | [_, _, _, _, _, _, _, _, _, _], h | [_, _, _, _, _, _, _, _, _, _, _], h | [_, _, _, _, _, _, _, _, _, _, _, _], h | [_, _, _, _, _, _, _, _, _, _, _, _, _], h => simp at h; omega

theorem row_wire (R0 : List Value) (a0 a1 a2 a3 a4 a5 a6 a7 a8 a9 a10 a11 t : Int) (s : ByteArray) (h : R0.length = 14 + s.size) :
    splice (((splice (splice R0 0 (cel [a0, a1, a2, a3, a4, a5])) 6 (cel [a6, a7, a8, a9, a10, a11])).set 12 (.int .u8 (t / 256))).set 13 (.int .u8 (t % 256))) 14 (cel (bts s)) = cel (wire a0 a1 a2 a3 a4 a5 a6 a7 a8 a9 a10 a11 t s) := by
  obtain ⟨z0, z1, z2, z3, z4, z5, z6, z7, z8, z9, z10, z11, z12, z13, r, rfl, hr⟩ := fourteen R0 s.size h
  have e : (cel (bts s)).length = r.length := by rw [cel_len, bts_len, hr]
  simp [splice, cel, wire]
  simp [bts, hr]
  omega
theorem row_at (n k : Nat) (a0 a1 a2 a3 a4 a5 a6 a7 a8 a9 a10 a11 : Int) (h : n = 14 + k) (i : Nat) (hi : i = 12 ∨ i = 13) :
    (splice (splice (cel (List.replicate n 0)) 0 (cel [a0, a1, a2, a3, a4, a5])) 6 (cel [a6, a7, a8, a9, a10, a11]))[i]? = some (.int .u8 0) := by
  subst h
  rcases hi with rfl | rfl <;> (simp [splice, cel, List.getElem?_replicate]; omega)


theorem own_top (W : World) (R : List Value) (bs : List Int) (N n : Nat) (hR : R = cel bs) (hN : N = W.heap.size) (hn : bs.length = n) (k B : Nat) (hB : B ≤ N) (hm : n ≤ maxLen) :
    Own ((W.alloc (.cells R.toArray 5)).drewN k) B N n n bs := by
  subst hR hN
  exact ⟨hn, hB, Nat.le_refl _, hm, _, _, heap_top W _ 5 k, .inl rfl, by simp [cel, hn], by rw [List.take_of_length_le (by simp [cel, hn])]⟩

set_option maxHeartbeats 1000000 in
/-- ether.Encode, refused. -/
theorem encode_no (a0 a1 a2 a3 a4 a5 a6 a7 a8 a9 a10 a11 t : Int) (s : ByteArray) (w : World) (hs : s.size ≤ 140737488351232) (h : t < 1536 ∨ 65535 < t ∨ 1500 < s.size) :
    Calls Tryd.prog 46 #[.agg #[.int .u8 a0, .int .u8 a1, .int .u8 a2, .int .u8 a3, .int .u8 a4, .int .u8 a5, .int .u8 a6, .int .u8 a7, .int .u8 a8, .int .u8 a9, .int .u8 a10, .int .u8 a11, .int .i64 t, .string s]] w fun e w' => e = .returned (.tuple #[.slice none 0 0, .int .i64 1]) ∧ Below w.heap.size w w' := by
  by_cases h1 : t < 1536
  · have g1 : decide (t < 1536) = true := by simpa using h1
    clear h
    go_enter Tryd.func46, Tryd.ntmps46
    go_wp2
    go_ret2
    exact ⟨rfl, (Below.refl _ _).alloc (Nat.le_refl _) _⟩
  by_cases h2 : 65535 < t
  · have g1 : decide (t < 1536) = false := by simpa using h1
    have g2 : decide (65535 < t) = true := by simpa using h2
    clear h h1
    go_enter Tryd.func46, Tryd.ntmps46
    go_wp2
    go_ret2
    exact ⟨rfl, (Below.refl _ _).alloc (Nat.le_refl _) _⟩
  have h3 : 1500 < s.size := by omega
  have g1 : decide (t < 1536) = false := by simpa using h1
  have g2 : decide (65535 < t) = false := by simpa using h2
  have g3 : decide (1500 < (s.size : Int)) = true := by simp; omega
  clear h h1 h2
  go_enter Tryd.func46, Tryd.ntmps46
  go_wp2
  go_ret2
  exact ⟨rfl, (Below.refl _ _).alloc (Nat.le_refl _) _⟩

set_option maxHeartbeats 1000000 in
/-- ether.Encode. -/
theorem encode_yes (a0 a1 a2 a3 a4 a5 a6 a7 a8 a9 a10 a11 t : Int) (s : ByteArray) (w : World) (q0 : 0 ≤ a0 ∧ a0 ≤ 255) (q1 : 0 ≤ a1 ∧ a1 ≤ 255) (q2 : 0 ≤ a2 ∧ a2 ≤ 255) (q3 : 0 ≤ a3 ∧ a3 ≤ 255) (q4 : 0 ≤ a4 ∧ a4 ≤ 255) (q5 : 0 ≤ a5 ∧ a5 ≤ 255) (q6 : 0 ≤ a6 ∧ a6 ≤ 255) (q7 : 0 ≤ a7 ∧ a7 ≤ 255) (q8 : 0 ≤ a8 ∧ a8 ≤ 255) (q9 : 0 ≤ a9 ∧ a9 ≤ 255) (q10 : 0 ≤ a10 ∧ a10 ≤ 255) (q11 : 0 ≤ a11 ∧ a11 ≤ 255) (h1 : 1536 ≤ t) (h2 : t ≤ 65535) (h3 : s.size ≤ 1500) :
    Calls Tryd.prog 46 #[.agg #[.int .u8 a0, .int .u8 a1, .int .u8 a2, .int .u8 a3, .int .u8 a4, .int .u8 a5, .int .u8 a6, .int .u8 a7, .int .u8 a8, .int .u8 a9, .int .u8 a10, .int .u8 a11, .int .i64 t, .string s]] w fun e w' => e = .returned (.tuple #[.slice (some ⟨w.heap.size + 1, 0, none⟩) (14 + s.size) (14 + s.size), .int .i64 0]) ∧ Hid (Own w' w.heap.size (w.heap.size + 1) (14 + s.size) (14 + s.size) (wire a0 a1 a2 a3 a4 a5 a6 a7 a8 a9 a10 a11 t s)) ∧ Below w.heap.size w w' := by
  have g1 : decide (t < 1536) = false := by simp; omega
  have g2 : decide (65535 < t) = false := by simp; omega
  have g3 : decide (1500 < (s.size : Int)) = false := by simp; omega
  have g4 : decide (1500 < s.size) = false := by simp; omega
  obtain ⟨n, hn⟩ : ∃ n, n = 14 + s.size := ⟨_, rfl⟩
  rw [← hn]
  have hmk := make_bytes (w.alloc (.cells #[.int .u8 a0, .int .u8 a1, .int .u8 a2, .int .u8 a3, .int .u8 a4, .int .u8 a5, .int .u8 a6, .int .u8 a7, .int .u8 a8, .int .u8 a9, .int .u8 a10, .int .u8 a11, .int .i64 t, .string s] 41)) n (w.heap.size + 1) (14 + (s.size : Int)) (by omega) (by omega) (by simp)
  obtain ⟨R0, hR0⟩ : ∃ R, R = cel (List.replicate n 0) := ⟨_, rfl⟩
  rw [← hR0] at hmk
  obtain ⟨R1, hR1⟩ : ∃ R, R = splice R0 0 (cel [a0, a1, a2, a3, a4, a5]) := ⟨_, rfl⟩
  obtain ⟨R2, hR2⟩ : ∃ R, R = splice R1 6 (cel [a6, a7, a8, a9, a10, a11]) := ⟨_, rfl⟩
  obtain ⟨R4, hR4⟩ : ∃ R, R = splice ((R2.set 12 (.int .u8 (t / 256))).set 13 (.int .u8 (t % 256))) 14 (cel (bts s)) := ⟨_, rfl⟩
  have l0 : R0.length = n := by rw [hR0]; simp [cel]
  have l1 : R1.length = n := by rw [hR1, length_splice _ _ _ (by simp [cel]; omega)]; exact l0
  have l2 : R2.length = n := by rw [hR2, length_splice _ _ _ (by simp [cel]; omega)]; exact l1
  have hc1 := copyp0 (w.alloc (.cells #[.int .u8 a0, .int .u8 a1, .int .u8 a2, .int .u8 a3, .int .u8 a4, .int .u8 a5, .int .u8 a6, .int .u8 a7, .int .u8 a8, .int .u8 a9, .int .u8 a10, .int .u8 a11, .int .i64 t, .string s] 41)) (w.heap.size + 1) R0 5 3 0 n n ⟨w.heap.size, 0, none⟩ 6 6 [a0, a1, a2, a3, a4, a5] (by simp) (by simp [Nat.min_def]; omega) (by simp; omega) (by
    intro j v hv
    match j, hv with
    | 0, hv | 1, hv | 2, hv | 3, hv | 4, hv | 5, hv => simp [cel] at hv; subst hv; simp [go_sem, Addr.add]
    | j + 6, hv => simp [cel] at hv)
  rw [← hR1, show [a0, a1, a2, a3, a4, a5].length = 6 from rfl] at hc1
  have hc2 := copyp1 (w.alloc (.cells #[.int .u8 a0, .int .u8 a1, .int .u8 a2, .int .u8 a3, .int .u8 a4, .int .u8 a5, .int .u8 a6, .int .u8 a7, .int .u8 a8, .int .u8 a9, .int .u8 a10, .int .u8 a11, .int .i64 t, .string s] 41)) (w.heap.size + 1) R1 5 3 6 (n - 6) (n - 6) ⟨w.heap.size, 6, none⟩ 6 6 [a6, a7, a8, a9, a10, a11] (by simp) (by simp [Nat.min_def]; omega) (by simp; omega) (by
    intro j v hv
    match j, hv with
    | 0, hv | 1, hv | 2, hv | 3, hv | 4, hv | 5, hv => simp [cel] at hv; subst hv; simp [go_sem, Addr.add]
    | j + 6, hv => simp [cel] at hv)
  rw [← hR2, show [a6, a7, a8, a9, a10, a11].length = 6 from rfl] at hc2
  have e12 : R2[12]? = some (.int .u8 0) := by rw [hR2, hR1, hR0]; exact row_at n s.size a0 a1 a2 a3 a4 a5 a6 a7 a8 a9 a10 a11 hn 12 (.inl rfl)
  have e13 : R2[13]? = some (.int .u8 0) := by rw [hR2, hR1, hR0]; exact row_at n s.size a0 a1 a2 a3 a4 a5 a6 a7 a8 a9 a10 a11 hn 13 (.inr rfl)
  have HE := Lib.hid (show R4 = cel (wire a0 a1 a2 a3 a4 a5 a6 a7 a8 a9 a10 a11 t s) by rw [hR4, hR2, hR1]; exact row_wire R0 a0 a1 a2 a3 a4 a5 a6 a7 a8 a9 a10 a11 t s (l0.trans hn))
  have HB := Lib.hid (wire_byt a0 a1 a2 a3 a4 a5 a6 a7 a8 a9 a10 a11 t s q0 q1 q2 q3 q4 q5 q6 q7 q8 q9 q10 q11 h1 h2)
  have HW := Lib.hid (show (wire a0 a1 a2 a3 a4 a5 a6 a7 a8 a9 a10 a11 t s).length = n by rw [hn]; exact wire_len ..)
  have j1 : ((12 : Int) < (n : Int)) := by omega
  have j2 : ((13 : Int) < (n : Int)) := by omega
  rcases Nat.eq_zero_or_pos s.size with h0 | h0
  · obtain rfl : n = 14 := by omega
    have E4 : R4 = (R2.set 12 (.int .u8 (t / 256))).set 13 (.int .u8 (t % 256)) := by
      have hb : bts s = [] := List.eq_nil_of_length_eq_zero ((bts_len s).trans h0)
      rw [hR4, hb]; simp [splice, cel]
    have hc3 := fun W : World => Lib.run_copy_empty_string (P := Tryd.prog) W 26 9 3 5 (some ⟨w.heap.size + 1, 0, none⟩) 0 0 s Tryd.underlying26 (by rw [size5]; rfl) h0
    have HE4 := Lib.hid E4
    have H0 := Lib.hid h0
    clear hR0 hR1 hR2 hR4 E4 h0 hn l0 l1 l2
    go_enter Tryd.func46, Tryd.ntmps46
    go_wp2_with fail
    go_region
    go_wp2
    go_region
    go_wp2
    go_ret2
    rw [← HE4.out]
    exact ⟨rfl, Lib.hid (own_top _ R4 _ _ 14 HE.out (by simp) HW.out 2 _ (by omega) (by decide)), below_drew (below_drew (((Below.refl _ _).alloc (Nat.le_refl _) _).alloc (by simp) _))⟩
  have k1 : 14 < n := by omega
  have hc3 : (Builtin.copy_ #[26, 9] 3 #[.slice (some ⟨w.heap.size + 1, 14, none⟩) (n - 14) (n - 14), .string s]).run Tryd.prog ((w.alloc (.cells #[.int .u8 a0, .int .u8 a1, .int .u8 a2, .int .u8 a3, .int .u8 a4, .int .u8 a5, .int .u8 a6, .int .u8 a7, .int .u8 a8, .int .u8 a9, .int .u8 a10, .int .u8 a11, .int .i64 t, .string s] 41)).alloc (.cells ((R2.set 12 (.int .u8 (t / 256))).set 13 (.int .u8 (t % 256))).toArray 5)).drew.drew = .ok (goInt s.size) ((w.alloc (.cells #[.int .u8 a0, .int .u8 a1, .int .u8 a2, .int .u8 a3, .int .u8 a4, .int .u8 a5, .int .u8 a6, .int .u8 a7, .int .u8 a8, .int .u8 a9, .int .u8 a10, .int .u8 a11, .int .i64 t, .string s] 41)).alloc (.cells R4.toArray 5)).drew.drew := by
    have h := copy_text (w.alloc (.cells #[.int .u8 a0, .int .u8 a1, .int .u8 a2, .int .u8 a3, .int .u8 a4, .int .u8 a5, .int .u8 a6, .int .u8 a7, .int .u8 a8, .int .u8 a9, .int .u8 a10, .int .u8 a11, .int .i64 t, .string s] 41)) (w.heap.size + 1) ((R2.set 12 (.int .u8 (t / 256))).set 13 (.int .u8 (t % 256))) 5 3 9 14 (n - 14) (n - 14) 2 s (by simp) (by omega) (by simp [l2]; omega)
    rw [← hR4] at h
    exact h
  have HN := Lib.hid hn
  clear hR0 hR1 hR2 hR4 hn l0 l1 l2
  go_enter Tryd.func46, Tryd.ntmps46
  go_wp2_with fail
  go_region
  go_wp2
  go_region
  go_wp2
  go_ret2
  exact ⟨rfl, Lib.hid (own_top _ R4 _ _ n HE.out (by simp) HW.out 2 _ (by omega) (by have := HN.out; simp [maxLen]; omega)), below_drew (below_drew (((Below.refl _ _).alloc (Nat.le_refl _) _).alloc (by simp) _))⟩

end Go.Proofs.YtdoefjhdipkkeaaDoor.E
