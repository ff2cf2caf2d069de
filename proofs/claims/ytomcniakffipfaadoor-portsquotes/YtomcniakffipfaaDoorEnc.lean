/-
  What ipv.encodeFour and encodeSix do.
-/
import Derived.Test.YtomcniakffipfaaDoorPut
namespace Go.Proofs.YtomcniakffipfaaDoor
open Go.RowKit
set_option linter.unusedVariables false

theorem made_cells (n : Nat) : madeCells (Value.int .u8 0).cells n = (cel (List.replicate n 0)).toArray := by
  apply Array.ext
  · simp [madeCells, cel]
  · intro i h1 h2
    simp [madeCells, Value.cells, cel, Nat.mod_one]
theorem make_room (W : World) (n m : Nat) (k : Int) (hk : k = (n : Int)) (hn : n ≤ 281474976710656) (hm : m = W.heap.size) :
    (Instr.makeSlice 38 (.int .i64 0) (.int .i64 k)).run Tryd.prog W = .ok (.slice (some ⟨m, 0, none⟩) 0 n) (W.alloc (.cells (cel (List.replicate n 0)).toArray 5)) := by
  subst hk hm
  obtain ⟨i, hi, hz, hs, hb⟩ := info_parts info5
  have hr := run_make (P := Tryd.prog) W 38 5 i (.int .u8 0) Tryd.underlying38 hi hz .i64 .i64 0 n (by omega) (by omega) (by rw [hb]; omega) (by omega)
  simp only [Int.toNat_natCast] at hr
  rw [hr, hs, Nat.mul_one, made_cells]
  simp
theorem own_made (W : World) (n B N : Nat) (hB : B ≤ W.heap.size) (hn : n ≤ 281474976710656) (hN : N = W.heap.size) : Own (W.alloc (.cells (cel (List.replicate n 0)).toArray 5)) B N 0 n [] := by
  subst hN
  exact ⟨rfl, hB, Nat.zero_le _, by simp only [maxLen]; omega, _, (0, 0), heap_alloc_new W _, .inl rfl, by simp [cel], by simp [cel]⟩

/-- The packet that a call keeps in a block of its own. -/
def Boxed (W : World) (N : Nat) (f t : ByteArray) (p l : Int) (s : ByteArray) : Prop :=
  W.cell? ⟨N, 0, none⟩ = some (.string f) ∧ W.cell? ⟨N, 1, none⟩ = some (.string t) ∧ W.cell? ⟨N, 2, none⟩ = some (.int .i64 p) ∧ W.cell? ⟨N, 3, none⟩ = some (.int .i64 l) ∧ W.cell? ⟨N, 4, none⟩ = some (.string s)
theorem Boxed.below {W W' : World} {N B : Nat} {f t : ByteArray} {p l : Int} {s : ByteArray} (h : Boxed W N f t p l s) (hb : Below B W W') (hN : N < B) : Boxed W' N f t p l s :=
  ⟨(hb.cell (p := ⟨N, 0, none⟩) hN).trans h.1, (hb.cell (p := ⟨N, 1, none⟩) hN).trans h.2.1, (hb.cell (p := ⟨N, 2, none⟩) hN).trans h.2.2.1, (hb.cell (p := ⟨N, 3, none⟩) hN).trans h.2.2.2.1, (hb.cell (p := ⟨N, 4, none⟩) hN).trans h.2.2.2.2⟩
theorem Boxed.new (w : World) (f t : ByteArray) (p l : Int) (s : ByteArray) : Boxed (w.alloc (.cells #[.string f, .string t, .int .i64 p, .int .i64 l, .string s] 24)) w.heap.size f t p l s := by
  simp [Boxed, go_sem]

/-- The first twenty bytes of version 4. -/
def head4 (n p l hi lo : Int) (f t : ByteArray) : List Int := [69, 0, (20 + n) / 256 % 256, (20 + n) % 256, 0, 0, 64, 0, l, p, hi, lo] ++ (bts f ++ bts t)
/-- The sum that is put. -/
def sum4 (n p l : Int) (f t : ByteArray) : Int := 65535 - fd (tot (head4 n p l 0 0 f t))
def wire4 (f t : ByteArray) (p l : Int) (s : ByteArray) : List Int := head4 s.size p l (sum4 s.size p l f t / 256) (sum4 s.size p l f t % 256) f t ++ bts s
def wire6 (f t : ByteArray) (p l : Int) (s : ByteArray) : List Int := [96, 0, 0, 0, (s.size : Int) / 256 % 256, (s.size : Int) % 256, p, l] ++ (bts f ++ (bts t ++ bts s))

theorem below_box {w w' : World} {o : Obj} (h : Below (w.heap.size + 1) (w.alloc o) w') : Below w.heap.size w w' := ((Below.refl _ _).alloc (Nat.le_refl _) o).trans (h.mono (Nat.le_succ _))
theorem sum4_bd (n p l : Int) (f t : ByteArray) : 0 ≤ sum4 n p l f t ∧ sum4 n p l f t ≤ 65535 := by
  have := fd_bd (tot (head4 n p l 0 0 f t))
  unfold sum4
  omega
theorem head4_byt {n p l hi lo : Int} {f t : ByteArray} (h1 : 0 ≤ p ∧ p ≤ 255) (h2 : 0 ≤ l ∧ l ≤ 255) (h3 : 0 ≤ hi ∧ hi ≤ 255) (h4 : 0 ≤ lo ∧ lo ≤ 255) : Byt (head4 n p l hi lo f t) := by
  refine Byt.append ?_ ((bts_byt f).append (bts_byt t))
  intro x hx
  simp at hx
  omega
theorem head4_len (n p l hi lo : Int) (f t : ByteArray) (hf : f.size = 4) (ht : t.size = 4) : (head4 n p l hi lo f t).length = 20 := by simp [head4, bts_len, hf, ht]
theorem head4_set (n p l hi lo a b : Int) (f t : ByteArray) : ((head4 n p l a b f t).set 10 hi).set 11 lo = head4 n p l hi lo f t := by simp [head4]
theorem wire4_byt {f t s : ByteArray} {p l : Int} (h1 : 0 ≤ p ∧ p ≤ 255) (h2 : 0 ≤ l ∧ l ≤ 255) : Byt (wire4 f t p l s) := by
  have := sum4_bd s.size p l f t
  exact (head4_byt h1 h2 (by omega) (by omega)).append (bts_byt s)
theorem wire6_byt {f t s : ByteArray} {p l : Int} (h1 : 0 ≤ p ∧ p ≤ 255) (h2 : 0 ≤ l ∧ l ≤ 255) : Byt (wire6 f t p l s) := by
  refine Byt.append ?_ ((bts_byt f).append ((bts_byt t).append (bts_byt s)))
  intro x hx
  simp at hx
  omega

set_option maxHeartbeats 2000000 in
/-- ipv.encodeSix. -/
theorem encodeSix_any (f t : ByteArray) (p l : Int) (s : ByteArray) (w : World) (hf : f.size = 16) (ht : t.size = 16) (hp : 0 ≤ p ∧ p ≤ 255) (hl : 0 ≤ l ∧ l ≤ 255) (hs : s.size ≤ 1460) :
    Calls Tryd.prog 34 #[.agg #[.string f, .string t, .int .i64 p, .int .i64 l, .string s]] w fun e w' => ∃ g c, e = .returned (.slice (some ⟨g, 0, none⟩) (40 + s.size) c) ∧ Hid (Own w' w.heap.size g (40 + s.size) c (wire6 f t p l s)) ∧ Hid (Below w.heap.size w w') := by
  have hmk := make_room (w.alloc (.cells #[.string f, .string t, .int .i64 p, .int .i64 l, .string s] 24)) (40 + s.size) (w.heap.size + 1) (40 + (s.size : Int)) (by omega) (by omega) (by simp)
  have o0 := own_made (w.alloc (.cells #[.string f, .string t, .int .i64 p, .int .i64 l, .string s] 24)) (40 + s.size) (w.heap.size + 1) (w.heap.size + 1) (by simp) (by omega) (by simp)
  obtain ⟨R, hR⟩ : ∃ R, R = cel (List.replicate (40 + s.size) 0) := ⟨_, rfl⟩
  rw [← hR] at hmk o0
  have b0 : Below (w.heap.size + 1) (w.alloc (.cells #[.string f, .string t, .int .i64 p, .int .i64 l, .string s] 24)) ((w.alloc (.cells #[.string f, .string t, .int .i64 p, .int .i64 l, .string s] 24)).alloc (.cells R.toArray 5)) := (Below.refl _ _).alloc (by simp) _
  have HO0 := Lib.hid o0
  have HB0 := Lib.hid b0
  clear hR o0 b0
  go_enter Tryd.func34, Tryd.ntmps34
  obtain ⟨g1, c1, w1, hr1, hg1'⟩ := append_part (((w.alloc (.cells #[.string f, .string t, .int .i64 p, .int .i64 l, .string s] 24)).alloc (.cells R.toArray 5)).alloc (.cells #[.int .u8 96, .int .u8 0, .int .u8 0, .int .u8 0] 5)) (w.heap.size + 1) (w.heap.size + 1) 0 (40 + s.size) _ (some ⟨w.heap.size + 1 + 1, 0, none⟩) 4 4 [96, 0, 0, 0] (HO0.out.alloc _) (part_at (t := 5) (zs := [96, 0, 0, 0]) (by intro y hy; simp at hy; omega) (by simp)) (by simp) (by omega) 4 (by omega)
  have hg1 := Lib.hid (hg1'.of_alloc (by first | omega | simp))
  have HA1 := Lib.hid hr1
  clear hr1 hg1'
  have HO1 := Lib.hid hg1.out.1
  have HB1 := Lib.hid (HB0.out.trans hg1.out.2.1)
  obtain ⟨x10, x11, x12, x13, x14⟩ := (Boxed.new w f t p l s).below HB1.out (Nat.lt_succ_self _)
  have z1 : w.heap.size + 1 ≤ w1.heap.size := by have := HB1.out.size; simpa using this
  have y1 : w.heap.size < w1.heap.size := z1
  clear hg1
  go_wp2_with (at_builtin; (first | ((with_reducible refine wpList_append_run ?_ (.tmp 9) (.tmp 10) 38 38 ?_ ?_ ?_ 38 ?_ HA1.out ?_); (focus rfl); (focus rfl); (focus rfl); (focus rfl); (focus rfl))))
  refine (appendTwo_any _ (w.heap.size + 1) g1 4 c1 _ (s.size : Int) HO1.out (by omega) (by omega) (by omega)).mono ?_
  rintro e w2 ⟨g2, c2, rfl, hg2⟩
  have HO2 := Lib.hid hg2.out.1
  have HB2 := Lib.hid (HB1.out.trans hg2.out.2.1)
  obtain ⟨x20, x21, x22, x23, x24⟩ := (Boxed.new w f t p l s).below HB2.out (Nat.lt_succ_self _)
  have z2 : w.heap.size + 1 ≤ w2.heap.size := by have := HB2.out.size; simpa using this
  have y2 : w.heap.size < w2.heap.size := z2
  clear hg2
  obtain ⟨g3, c3, w3, hr3, hg3'⟩ := append_part (w2.alloc (.cells #[.int .u8 p, .int .u8 l] 5)) (w.heap.size + 1) g2 6 c2 _ (some ⟨w2.heap.size, 0, none⟩) 2 2 [p, l] (HO2.out.alloc _) (part_at (t := 5) (zs := [p, l]) (by intro y hy; simp at hy; omega) rfl) (by simp; omega) (by omega) 8 (by omega)
  have hg3 := Lib.hid (hg3'.of_alloc (by first | omega | simp))
  have HA3 := Lib.hid hr3
  clear hr3 hg3'
  have HO3 := Lib.hid hg3.out.1
  have HB3 := Lib.hid (HB2.out.trans hg3.out.2.1)
  obtain ⟨x30, x31, x32, x33, x34⟩ := (Boxed.new w f t p l s).below HB3.out (Nat.lt_succ_self _)
  have z3 : w.heap.size + 1 ≤ w3.heap.size := by have := HB3.out.size; simpa using this
  have y3 : w.heap.size < w3.heap.size := z3
  clear hg3
  obtain ⟨g4, c4, w4, hr4, hg4'⟩ := append_text w3 (w.heap.size + 1) g3 8 c3 _ f HO3.out (by omega) (by omega) 22 Tryd.underlying22 24 (by omega)
  have hg4 := Lib.hid hg4'
  have HA4 := Lib.hid hr4
  clear hr4 hg4'
  have HO4 := Lib.hid hg4.out.1
  have HB4 := Lib.hid (HB3.out.trans hg4.out.2.1)
  obtain ⟨x40, x41, x42, x43, x44⟩ := (Boxed.new w f t p l s).below HB4.out (Nat.lt_succ_self _)
  have z4 : w.heap.size + 1 ≤ w4.heap.size := by have := HB4.out.size; simpa using this
  have y4 : w.heap.size < w4.heap.size := z4
  clear hg4
  obtain ⟨g5, c5, w5, hr5, hg5'⟩ := append_text w4 (w.heap.size + 1) g4 24 c4 _ t HO4.out (by omega) (by omega) 22 Tryd.underlying22 40 (by omega)
  have hg5 := Lib.hid hg5'
  have HA5 := Lib.hid hr5
  clear hr5 hg5'
  have HO5 := Lib.hid hg5.out.1
  have HB5 := Lib.hid (HB4.out.trans hg5.out.2.1)
  obtain ⟨x50, x51, x52, x53, x54⟩ := (Boxed.new w f t p l s).below HB5.out (Nat.lt_succ_self _)
  have z5 : w.heap.size + 1 ≤ w5.heap.size := by have := HB5.out.size; simpa using this
  have y5 : w.heap.size < w5.heap.size := z5
  clear hg5
  obtain ⟨g6, c6, w6, hr6, hg6'⟩ := append_text w5 (w.heap.size + 1) g5 40 c5 _ s HO5.out (by omega) (by omega) 9 Tryd.underlying9 (40 + s.size) (by omega)
  have hg6 := Lib.hid hg6'
  have HA6 := Lib.hid hr6
  clear hr6 hg6'
  have HO6 := Lib.hid hg6.out.1
  have HB6 := Lib.hid (HB5.out.trans hg6.out.2.1)
  obtain ⟨x60, x61, x62, x63, x64⟩ := (Boxed.new w f t p l s).below HB6.out (Nat.lt_succ_self _)
  have z6 : w.heap.size + 1 ≤ w6.heap.size := by have := HB6.out.size; simpa using this
  have y6 : w.heap.size < w6.heap.size := z6
  clear hg6
  go_wp2_with (at_builtin; (first | ((with_reducible refine wpList_append_run ?_ (.tmp 17) (.tmp 24) 38 38 ?_ ?_ ?_ 38 ?_ HA3.out ?_); (focus rfl); (focus rfl); (focus rfl); (focus rfl); (focus rfl)) | ((with_reducible refine wpList_append_run ?_ (.tmp 26) (.tmp 28) 38 22 ?_ ?_ ?_ 38 ?_ HA4.out ?_); (focus rfl); (focus rfl); (focus rfl); (focus rfl); (focus rfl)) | ((with_reducible refine wpList_append_run ?_ (.tmp 30) (.tmp 32) 38 22 ?_ ?_ ?_ 38 ?_ HA5.out ?_); (focus rfl); (focus rfl); (focus rfl); (focus rfl); (focus rfl)) | ((with_reducible refine wpList_append_run ?_ (.tmp 34) (.tmp 36) 38 9 ?_ ?_ ?_ 38 ?_ HA6.out ?_); (focus rfl); (focus rfl); (focus rfl); (focus rfl); (focus rfl))))
  clear x10 x11 x12 x13 x14 y1 HO1
  clear x20 x21 x22 x23 x24 y2 HO2
  clear x30 x31 x32 x33 x34 y3 HO3
  clear x40 x41 x42 x43 x44 y4 HO4
  clear x50 x51 x52 x53 x54 y5 HO5
  go_ret
  refine ⟨_, _, rfl, Lib.hid ?_, Lib.hid (below_box HB6.out)⟩
  have ho := HO6.out
  simp only [List.nil_append, List.append_assoc, List.cons_append] at ho
  exact ho.mono (Nat.le_succ _)

set_option maxHeartbeats 2000000 in
/-- ipv.encodeFour. -/
theorem encodeFour_any (f t : ByteArray) (p l : Int) (s : ByteArray) (w : World) (hf : f.size = 4) (ht : t.size = 4) (hp : 0 ≤ p ∧ p ≤ 255) (hl : 0 ≤ l ∧ l ≤ 255) (hs : s.size ≤ 1480) :
    Calls Tryd.prog 35 #[.agg #[.string f, .string t, .int .i64 p, .int .i64 l, .string s]] w fun e w' => ∃ g c, e = .returned (.slice (some ⟨g, 0, none⟩) (20 + s.size) c) ∧ Hid (Own w' w.heap.size g (20 + s.size) c (wire4 f t p l s)) ∧ Hid (Below w.heap.size w w') := by
  have hmk := make_room (w.alloc (.cells #[.string f, .string t, .int .i64 p, .int .i64 l, .string s] 24)) (20 + s.size) (w.heap.size + 1) (20 + (s.size : Int)) (by omega) (by omega) (by simp)
  have o0 := own_made (w.alloc (.cells #[.string f, .string t, .int .i64 p, .int .i64 l, .string s] 24)) (20 + s.size) (w.heap.size + 1) (w.heap.size + 1) (by simp) (by omega) (by simp)
  obtain ⟨R, hR⟩ : ∃ R, R = cel (List.replicate (20 + s.size) 0) := ⟨_, rfl⟩
  rw [← hR] at hmk o0
  have b0 : Below (w.heap.size + 1) (w.alloc (.cells #[.string f, .string t, .int .i64 p, .int .i64 l, .string s] 24)) ((w.alloc (.cells #[.string f, .string t, .int .i64 p, .int .i64 l, .string s] 24)).alloc (.cells R.toArray 5)) := (Below.refl _ _).alloc (by simp) _
  have HO0 := Lib.hid o0
  have HB0 := Lib.hid b0
  clear hR o0 b0
  go_enter Tryd.func35, Tryd.ntmps35
  obtain ⟨g1, c1, w1, hr1, hg1'⟩ := append_part (((w.alloc (.cells #[.string f, .string t, .int .i64 p, .int .i64 l, .string s] 24)).alloc (.cells R.toArray 5)).alloc (.cells #[.int .u8 69, .int .u8 0] 5)) (w.heap.size + 1) (w.heap.size + 1) 0 (20 + s.size) _ (some ⟨w.heap.size + 1 + 1, 0, none⟩) 2 2 [69, 0] (HO0.out.alloc _) (part_at (t := 5) (zs := [69, 0]) (by intro y hy; simp at hy; omega) (by simp)) (by simp) (by omega) 2 (by omega)
  have hg1 := Lib.hid (hg1'.of_alloc (by first | omega | simp))
  have HA1 := Lib.hid hr1
  clear hr1 hg1'
  have HO1 := Lib.hid hg1.out.1
  have HB1 := Lib.hid (HB0.out.trans hg1.out.2.1)
  obtain ⟨x10, x11, x12, x13, x14⟩ := (Boxed.new w f t p l s).below HB1.out (Nat.lt_succ_self _)
  have z1 : w.heap.size + 1 ≤ w1.heap.size := by have := HB1.out.size; simpa using this
  have y1 : w.heap.size < w1.heap.size := z1
  clear hg1
  go_wp2_with (at_builtin; (first | ((with_reducible refine wpList_append_run ?_ (.tmp 10) (.tmp 11) 38 38 ?_ ?_ ?_ 38 ?_ HA1.out ?_); (focus rfl); (focus rfl); (focus rfl); (focus rfl); (focus rfl))))
  refine (appendTwo_any _ (w.heap.size + 1) g1 2 c1 _ (20 + (s.size : Int)) HO1.out (by omega) (by omega) (by omega)).mono ?_
  rintro e w2 ⟨g2, c2, rfl, hg2⟩
  have HO2 := Lib.hid hg2.out.1
  have HB2 := Lib.hid (HB1.out.trans hg2.out.2.1)
  obtain ⟨x20, x21, x22, x23, x24⟩ := (Boxed.new w f t p l s).below HB2.out (Nat.lt_succ_self _)
  have z2 : w.heap.size + 1 ≤ w2.heap.size := by have := HB2.out.size; simpa using this
  have y2 : w.heap.size < w2.heap.size := z2
  clear hg2
  obtain ⟨g3, c3, w3, hr3, hg3'⟩ := append_part (w2.alloc (.cells #[.int .u8 0, .int .u8 0] 5)) (w.heap.size + 1) g2 4 c2 _ (some ⟨w2.heap.size, 0, none⟩) 2 2 [0, 0] (HO2.out.alloc _) (part_at (t := 5) (zs := [0, 0]) (by intro y hy; simp at hy; omega) rfl) (by simp; omega) (by omega) 6 (by omega)
  have hg3 := Lib.hid (hg3'.of_alloc (by first | omega | simp))
  have HA3 := Lib.hid hr3
  clear hr3 hg3'
  have HO3 := Lib.hid hg3.out.1
  have HB3 := Lib.hid (HB2.out.trans hg3.out.2.1)
  obtain ⟨x30, x31, x32, x33, x34⟩ := (Boxed.new w f t p l s).below HB3.out (Nat.lt_succ_self _)
  have z3 : w.heap.size + 1 ≤ w3.heap.size := by have := HB3.out.size; simpa using this
  have y3 : w.heap.size < w3.heap.size := z3
  clear hg3
  go_wp2_with (at_builtin; (first | ((with_reducible refine wpList_append_run ?_ (.tmp 19) (.tmp 20) 38 38 ?_ ?_ ?_ 38 ?_ HA3.out ?_); (focus rfl); (focus rfl); (focus rfl); (focus rfl); (focus rfl))))
  clear x10 x11 x12 x13 x14 y1 HO1
  clear x20 x21 x22 x23 x24 y2 HO2
  refine (appendTwo_any _ (w.heap.size + 1) g3 6 c3 _ 16384 HO3.out (by omega) (by omega) (by omega)).mono ?_
  rintro e w4 ⟨g4, c4, rfl, hg4⟩
  have HO4 := Lib.hid hg4.out.1
  have HB4 := Lib.hid (HB3.out.trans hg4.out.2.1)
  obtain ⟨x40, x41, x42, x43, x44⟩ := (Boxed.new w f t p l s).below HB4.out (Nat.lt_succ_self _)
  have z4 : w.heap.size + 1 ≤ w4.heap.size := by have := HB4.out.size; simpa using this
  have y4 : w.heap.size < w4.heap.size := z4
  clear hg4
  obtain ⟨g5, c5, w5, hr5, hg5'⟩ := append_part (w4.alloc (.cells #[.int .u8 l, .int .u8 p] 5)) (w.heap.size + 1) g4 8 c4 _ (some ⟨w4.heap.size, 0, none⟩) 2 2 [l, p] (HO4.out.alloc _) (part_at (t := 5) (zs := [l, p]) (by intro y hy; simp at hy; omega) rfl) (by simp; omega) (by omega) 10 (by omega)
  have hg5 := Lib.hid (hg5'.of_alloc (by first | omega | simp))
  have HA5 := Lib.hid hr5
  clear hr5 hg5'
  have HO5 := Lib.hid hg5.out.1
  have HB5 := Lib.hid (HB4.out.trans hg5.out.2.1)
  obtain ⟨x50, x51, x52, x53, x54⟩ := (Boxed.new w f t p l s).below HB5.out (Nat.lt_succ_self _)
  have z5 : w.heap.size + 1 ≤ w5.heap.size := by have := HB5.out.size; simpa using this
  have y5 : w.heap.size < w5.heap.size := z5
  clear hg5
  obtain ⟨g6, c6, w6, hr6, hg6'⟩ := append_part (w5.alloc (.cells #[.int .u8 0, .int .u8 0] 5)) (w.heap.size + 1) g5 10 c5 _ (some ⟨w5.heap.size, 0, none⟩) 2 2 [0, 0] (HO5.out.alloc _) (part_at (t := 5) (zs := [0, 0]) (by intro y hy; simp at hy; omega) rfl) (by simp; omega) (by omega) 12 (by omega)
  have hg6 := Lib.hid (hg6'.of_alloc (by first | omega | simp))
  have HA6 := Lib.hid hr6
  clear hr6 hg6'
  have HO6 := Lib.hid hg6.out.1
  have HB6 := Lib.hid (HB5.out.trans hg6.out.2.1)
  obtain ⟨x60, x61, x62, x63, x64⟩ := (Boxed.new w f t p l s).below HB6.out (Nat.lt_succ_self _)
  have z6 : w.heap.size + 1 ≤ w6.heap.size := by have := HB6.out.size; simpa using this
  have y6 : w.heap.size < w6.heap.size := z6
  clear hg6
  obtain ⟨g7, c7, w7, hr7, hg7'⟩ := append_text w6 (w.heap.size + 1) g6 12 c6 _ f HO6.out (by omega) (by omega) 22 Tryd.underlying22 16 (by omega)
  have hg7 := Lib.hid hg7'
  have HA7 := Lib.hid hr7
  clear hr7 hg7'
  have HO7 := Lib.hid hg7.out.1
  have HB7 := Lib.hid (HB6.out.trans hg7.out.2.1)
  obtain ⟨x70, x71, x72, x73, x74⟩ := (Boxed.new w f t p l s).below HB7.out (Nat.lt_succ_self _)
  have z7 : w.heap.size + 1 ≤ w7.heap.size := by have := HB7.out.size; simpa using this
  have y7 : w.heap.size < w7.heap.size := z7
  clear hg7
  obtain ⟨g8, c8, w8, hr8, hg8'⟩ := append_text w7 (w.heap.size + 1) g7 16 c7 _ t HO7.out (by omega) (by omega) 22 Tryd.underlying22 20 (by omega)
  have hg8 := Lib.hid hg8'
  have HA8 := Lib.hid hr8
  clear hr8 hg8'
  have HO8 := Lib.hid hg8.out.1
  have HB8 := Lib.hid (HB7.out.trans hg8.out.2.1)
  obtain ⟨x80, x81, x82, x83, x84⟩ := (Boxed.new w f t p l s).below HB8.out (Nat.lt_succ_self _)
  have z8 : w.heap.size + 1 ≤ w8.heap.size := by have := HB8.out.size; simpa using this
  have y8 : w.heap.size < w8.heap.size := z8
  clear hg8
  go_wp2_with (at_builtin; (first | ((with_reducible refine wpList_append_run ?_ (.tmp 24) (.tmp 31) 38 38 ?_ ?_ ?_ 38 ?_ HA5.out ?_); (focus rfl); (focus rfl); (focus rfl); (focus rfl); (focus rfl)) | ((with_reducible refine wpList_append_run ?_ (.tmp 33) (.tmp 34) 38 38 ?_ ?_ ?_ 38 ?_ HA6.out ?_); (focus rfl); (focus rfl); (focus rfl); (focus rfl); (focus rfl)) | ((with_reducible refine wpList_append_run ?_ (.tmp 36) (.tmp 38) 38 22 ?_ ?_ ?_ 38 ?_ HA7.out ?_); (focus rfl); (focus rfl); (focus rfl); (focus rfl); (focus rfl)) | ((with_reducible refine wpList_append_run ?_ (.tmp 40) (.tmp 42) 38 22 ?_ ?_ ?_ 38 ?_ HA8.out ?_); (focus rfl); (focus rfl); (focus rfl); (focus rfl); (focus rfl))))
  clear x30 x31 x32 x33 x34 y3 HO3
  clear x40 x41 x42 x43 x44 y4 HO4
  clear x50 x51 x52 x53 x54 y5 HO5
  clear x60 x61 x62 x63 x64 y6 HO6
  clear x70 x71 x72 x73 x74 y7 HO7
  have ho := HO8.out
  simp only [List.nil_append, List.cons_append] at ho
  have hh : Own w8 (w.heap.size + 1) g8 20 c8 (head4 s.size p l 0 0 f t) := ho
  have hb4 := head4_byt (n := s.size) (f := f) (t := t) hp hl (show (0 : Int) ≤ 0 ∧ (0 : Int) ≤ 255 by omega) (show (0 : Int) ≤ 0 ∧ (0 : Int) ≤ 255 by omega)
  have HH := Lib.hid hh
  have HP := Lib.hid (hh.part hb4)
  have hsb := sum4_bd s.size p l f t
  obtain ⟨m, hm⟩ : ∃ m, m = sum4 s.size p l f t := ⟨_, rfl⟩
  have hm1 : 65535 - fd (tot (head4 s.size p l 0 0 f t)) = m := by rw [hm]; rfl
  rw [← hm] at hsb
  have HM := Lib.hid hm
  have HM1 := Lib.hid hm1
  have k0 : w8.cell? ⟨g8, 10, none⟩ = some (.int .u8 0) := by have := hh.cell 10 (by omega); simpa [head4] using this
  have k1 : w8.cell? ⟨g8, 11, none⟩ = some (.int .u8 0) := by have := hh.cell 11 (by omega); simpa [head4] using this
  have r0 : w8.frozen? ⟨g8, 10, none⟩ = false := hh.free 10 (by omega)
  have r1 : w8.frozen? ⟨g8, 11, none⟩ = false := hh.free 11 (by omega)
  have hgl : g8 < w8.heap.size := hh.lt
  have hgB : w.heap.size + 1 ≤ g8 := hh.2.1
  have hne : g8 ≠ w.heap.size := by omega
  clear ho hh hb4 hm hm1 HO8
  refine (put_one (a := some ⟨g8, 0, none⟩) (n := 20) (c := c8) (bs := head4 s.size p l 0 0 f t) (by simp [go_sem]) (HP.out.alloc _) (by omega) rfl).mono ?_
  rintro e wq ⟨rfl, q, rfl⟩
  rw [HM1.out]
  obtain ⟨g9, c9, w9, hr9, hg9⟩ := append_text ((((w8.alloc (.cells #[.slice (some ⟨g8, 0, none⟩) 20 c8] 38)).drewN q).setCell ⟨g8, 10, none⟩ (.int .u8 (m / 256))).setCell ⟨g8, 11, none⟩ (.int .u8 (m % 256))) (w.heap.size + 1) g8 20 c8 (((head4 s.size p l 0 0 f t).set 10 (m / 256)).set 11 (m % 256)) s
    ((((HH.out.alloc _).drewN q).stored 10 (m / 256)).1.stored 11 (m % 256)).1 (by simp; omega) (by omega) 9 Tryd.underlying9 (20 + s.size) rfl
  have HG9 := Lib.hid hg9
  have HA9 := Lib.hid hr9
  clear hg9 hr9
  go_wp2_with (at_builtin; (with_reducible refine wpList_append_run ?_ (.tmp 56) (.tmp 58) 38 9 ?_ ?_ ?_ 38 ?_ HA9.out ?_); (focus rfl); (focus rfl); (focus rfl); (focus rfl); (focus rfl))
  go_ret
  have hG := HG9.out
  rw [head4_set, HM.out] at hG
  refine ⟨_, _, rfl, Lib.hid (hG.1.mono (Nat.le_succ _)), Lib.hid (below_box ((HB8.out.trans ?_).trans hG.2.1))⟩
  exact ((below_drewN ((Below.refl _ _).alloc z8 _) q).setCell hgB _).setCell hgB _

end Go.Proofs.YtomcniakffipfaaDoor
