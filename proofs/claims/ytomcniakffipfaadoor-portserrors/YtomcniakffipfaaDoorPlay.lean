/-
  What ports.lay and start do.
-/
import Derived.Test.YtomcniakffipfaaDoorPsmall
namespace Go.Proofs.YtomcniakffipfaaDoor
open Go.RowKit
set_option linter.unusedVariables false
set_option maxRecDepth 10000

theorem Own.stored2 {w : World} {B g n cap : Nat} {zs : List Int} (h : Own w B g n cap zs) (i j : Nat) (x y : Int) :
    Own ((w.setCell ⟨g, i, none⟩ (.int .u8 x)).setCell ⟨g, j, none⟩ (.int .u8 y)) B g n cap ((zs.set i x).set j y) ∧ Below B w ((w.setCell ⟨g, i, none⟩ (.int .u8 x)).setCell ⟨g, j, none⟩ (.int .u8 y)) :=
  ⟨((h.stored i x).1.stored j y).1, ((Below.refl _ _).setCell h.2.1 _).setCell h.2.1 _⟩

set_option maxHeartbeats 400000 in
/-- ports.lay of an int. -/
theorem layInt_any {w : World} {B g n cap : Nat} {zs : List Int} (k : Nat) (x : Int) (h : Own w B g n cap zs) (hk : k + 1 < n) (hn : n ≤ 100000) (hx : -9223372036854775808 ≤ x ∧ x ≤ 9223372036854775807) :
    Calls Tryd.prog 47 #[.slice (some ⟨g, 0, none⟩) n cap, .int .i64 (k : Int), .int .i64 x] w fun e w' => e = .returned (.tuple #[]) ∧ Hid (Own w' B g n cap ((zs.set k (x / 256 % 256)).set (k + 1) (x % 256))) ∧ Hid (Below B w w') := by
  have HO := Lib.hid (h.stored2 k (k + 1) (x / 256 % 256) (x % 256))
  have c0 := h.cell k (by omega)
  have c1 := h.cell (k + 1) hk
  have r0 := h.free k (by omega)
  have r1 := h.free (k + 1) hk
  have i0 : (k : Int) < (n : Int) := by omega
  have i1 : (k : Int) + 1 < (n : Int) := by omega
  have i2 : (0 : Int) ≤ (k : Int) + 1 := by omega
  clear h
  go_enter Tryd.func47, Tryd.ntmps47
  go_wp2
  go_end0
  exact ⟨rfl, Lib.hid HO.out.1, Lib.hid HO.out.2⟩

set_option maxHeartbeats 400000 in
/-- ports.lay of a sum. -/
theorem layU_any {w : World} {B g n cap : Nat} {zs : List Int} (k : Nat) (x : Int) (h : Own w B g n cap zs) (hk : k + 1 < n) (hn : n ≤ 100000) (hx : 0 ≤ x ∧ x ≤ 65535) :
    Calls Tryd.prog 48 #[.slice (some ⟨g, 0, none⟩) n cap, .int .i64 (k : Int), .int .u16 x] w fun e w' => e = .returned (.tuple #[]) ∧ Hid (Own w' B g n cap ((zs.set k (x / 256)).set (k + 1) (x % 256))) ∧ Hid (Below B w w') := by
  have HO := Lib.hid (h.stored2 k (k + 1) (x / 256) (x % 256))
  have c0 := h.cell k (by omega)
  have c1 := h.cell (k + 1) hk
  have r0 := h.free k (by omega)
  have r1 := h.free (k + 1) hk
  have i0 : (k : Int) < (n : Int) := by omega
  have i1 : (k : Int) + 1 < (n : Int) := by omega
  have i2 : (0 : Int) ≤ (k : Int) + 1 := by omega
  clear h
  go_enter Tryd.func48, Tryd.ntmps48
  go_wp2
  go_end0
  exact ⟨rfl, Lib.hid HO.out.1, Lib.hid HO.out.2⟩

/-- A text is copied to the end of what the call has made. -/
theorem copy_own (w : World) (B g n cap k : Nat) (zs : List Int) (s : ByteArray) (A : Option Addr) (m c : Nat) (ty : TypeId) (h : Own w B g n cap zs) (hn : n = k + s.size) (hm : m = s.size) (hA : 0 < s.size → A = some ⟨g, k, none⟩) :
    ∃ w', (Builtin.copy_ #[38, 9] ty #[.slice A m c, .string s]).run Tryd.prog w = .ok (goInt s.size) w' ∧ Own w' B g n cap (zs.take k ++ bts s) ∧ Below B w w' := by
  subst hm
  obtain ⟨i0, hi, hz0, hz1, hz2⟩ := info_parts info5
  obtain ⟨h1, h2, h3, h4, cur, fz, hg, hf, hs, ht⟩ := id h
  rcases Nat.eq_zero_or_pos s.size with h0 | h0
  · have hb : bts s = [] := List.eq_nil_of_length_eq_zero ((bts_len s).trans h0)
    refine ⟨w, ?_, ?_, Below.refl _ _⟩
    · rw [h0]
      exact Lib.run_copy_empty_string w 38 9 ty 5 A 0 c s Tryd.underlying38 (by simp [hi]) h0
    · rw [hb, List.append_nil, List.take_of_length_le (by omega)]
      exact h
  · have hA' := hA h0
    subst hA'
    have hbl : (bts s).length = s.size := bts_len s
    have e : cel (bts s) = Lib.byteCells s.data.toList := by simp [cel, bts, Lib.byteCells]
    have hst := store_cells g k fz (cel (bts s)) 0 cur w hg (by rw [hs]; exact hf) (by simp [cel_len, hbl]; omega) (cel_one _)
    simp only [Nat.add_zero, cel_len, hbl] at hst
    have hmin : Nat.min s.size s.size = s.size := Nat.min_eq_left (Nat.le_refl _)
    have htk : List.take s.size (List.map (fun b : UInt8 => Value.int IntKind.u8 (b.toNat : Int)) s.data.toList) = cel (bts s) := by
      rw [List.take_of_length_le (by simp)]
      simp [cel, bts]
    refine ⟨w.setRow g (cur.toList.take k ++ cel (bts s) ++ cur.toList.drop (k + s.size)).toArray, ?_, ⟨by simp [hbl, h1]; omega, h2, h3, h4, _, fz, setRow_heap w g cur _ 5 _ hg, hf, ?_, ?_⟩, ?_⟩
    · simp [Builtin.copy_, run_underlying Tryd.underlying38, Builtin.lenOf, Builtin.firstCells, sizeOf, typeInfo, hi, hmin]
      rw [htk, hst]
      simp [Result.andThen]
    · simp only [List.size_toArray, List.length_append, List.length_take, List.length_drop, Array.length_toList, cel_len, hbl]
      omega
    · have e1 : cur.toList.take k = cel (zs.take k) := by
        have := congrArg (List.take k) ht
        rw [List.take_take, Nat.min_eq_left (by omega)] at this
        rw [this]
        simp [cel]
      rw [e1, show cel (zs.take k ++ bts s) = cel (zs.take k) ++ cel (bts s) by simp [cel]]
      have : (cel (zs.take k) ++ cel (bts s)).length = n := by simp [cel_len, hbl]; omega
      rw [← this]
      exact List.take_left
    · have hgr : w.grownBy (w.setRow g (cur.toList.take k ++ cel (bts s) ++ cur.toList.drop (k + s.size)).toArray) (some g) := ⟨rfl, rfl, rfl, by simp, fun j _ hj => setRow_other w g j _ (fun e => hj (by simp [e]))⟩
      exact (Below.refl _ _).grown hgr (by have := h.lt; omega) (fun j hj => by simp at hj; omega)

/-- The ports, zeros, the data. -/
def startB (k : Nat) (a b : Int) (s : ByteArray) : List Int := [a / 256 % 256, a % 256, b / 256 % 256, b % 256] ++ (List.replicate (k - 4) 0 ++ bts s)

theorem start_list (k n : Nat) (a b : Int) (s : ByteArray) (hk : 4 ≤ k) (hn : n = k + s.size) : (((((List.replicate n (0 : Int)).set 0 (a / 256 % 256)).set (0 + 1) (a % 256)).set 2 (b / 256 % 256)).set (2 + 1) (b % 256)).take k ++ bts s = startB k a b s := by
  subst hn
  obtain ⟨j, rfl⟩ : ∃ j, k = j + 4 := ⟨k - 4, by omega⟩
  have e : List.replicate (j + 4 + s.size) (0 : Int) = 0 :: 0 :: 0 :: 0 :: List.replicate (j + s.size) 0 := by
    rw [show j + 4 + s.size = (j + s.size) + 1 + 1 + 1 + 1 by omega]
    rfl
  rw [e]
  simp [startB]

set_option maxHeartbeats 1000000 in
/-- ports.start. -/
theorem start_any (p a b l k' : Int) (k : Nat) (s : ByteArray) (w : World) (ha : 0 ≤ a ∧ a ≤ 65535) (hb : 0 ≤ b ∧ b ≤ 65535) (hk : k = 8 ∨ k = 20) (hs : s.size ≤ 3000) :
    Calls Tryd.prog 46 #[.agg #[.int .i64 p, .int .i64 a, .int .i64 b, .int .i64 l, .int .i64 k'], .int .i64 (k : Int), .string s] w fun e w' => ∃ g, e = .returned (.slice (some ⟨g, 0, none⟩) (k + s.size) (k + s.size)) ∧ Hid (Own w' w.heap.size g (k + s.size) (k + s.size) (startB k a b s)) ∧ Hid (Below w.heap.size w w') := by
  obtain ⟨n, hn⟩ : ∃ n, n = k + s.size := ⟨_, rfl⟩
  rw [← hn]
  have hmk := make_whole (w.alloc (.cells #[.int .i64 p, .int .i64 a, .int .i64 b, .int .i64 l, .int .i64 k'] 36)) n (w.heap.size + 1) (by omega) (by simp)
  have o0 := own_whole (w.alloc (.cells #[.int .i64 p, .int .i64 a, .int .i64 b, .int .i64 l, .int .i64 k'] 36)) n (by omega)
  rw [show (w.alloc (.cells #[.int .i64 p, .int .i64 a, .int .i64 b, .int .i64 l, .int .i64 k'] 36)).heap.size = w.heap.size + 1 by simp] at o0
  obtain ⟨R, hR⟩ : ∃ R, R = cel (List.replicate n 0) := ⟨_, rfl⟩
  rw [← hR] at hmk o0
  have hnk : (k : Int) + (s.size : Int) = (n : Int) := by omega
  have hi : (k : Int) ≤ (n : Int) := by omega
  have hn4 : 4 ≤ n := by omega
  have hn5 : n ≤ 4000 := by omega
  have HO := Lib.hid o0
  have HN := Lib.hid hn
  clear o0 hR hn
  go_enter Tryd.func46, Tryd.ntmps46
  go_wp2_with fail
  refine (layInt_any 0 a HO.out (by omega) (by omega) (by omega)).mono ?_
  rintro e w1 ⟨rfl, ho1, hb1⟩
  obtain ⟨x10, x11, x12, x13, x14⟩ := (BoxH.new w p a b l k').below (((Below.refl _ _).alloc (by simp) _).trans hb1.out) (by simp)
  have y1 : w.heap.size < w1.heap.size := by have := hb1.out.size; simp at this; omega
  go_wp2_with fail
  refine (layInt_any 2 b ho1.out (by omega) (by omega) (by omega)).mono ?_
  rintro e w2 ⟨rfl, ho2, hb2⟩
  have HB := Lib.hid ((((Below.refl w.heap.size w).alloc (Nat.le_refl _) _).alloc (by simp) _).trans ((hb1.out.trans hb2.out).mono (by omega)))
  clear hb1 hb2 ho1 x10 x11 x12 x13 x14 y1
  by_cases h0 : n = k
  · obtain ⟨w3, hr, ho3, hb3⟩ := copy_own w2 _ _ _ _ k _ s (some ⟨w.heap.size + 1, 0, none⟩) 0 0 3 ho2.out HN.out (by omega) (by omega)
    rw [start_list k n a b s (by omega) HN.out] at ho3
    have HO3 := Lib.hid (ho3.mono (Nat.le_succ _))
    have HB3 := Lib.hid (HB.out.trans (hb3.mono (Nat.le_succ _)))
    clear ho3 hb3 ho2
    have hn0 : decide (n = k) = true := by simpa using h0
    subst h0
    go_wp2
    go_ret
    exact ⟨_, rfl, HO3, HB3⟩
  · obtain ⟨w3, hr, ho3, hb3⟩ := copy_own w2 _ _ _ _ k _ s (some ⟨w.heap.size + 1, k, none⟩) (n - k) (n - k) 3 ho2.out HN.out (by omega) (fun _ => rfl)
    rw [start_list k n a b s (by omega) HN.out] at ho3
    have HO3 := Lib.hid (ho3.mono (Nat.le_succ _))
    have HB3 := Lib.hid (HB.out.trans (hb3.mono (Nat.le_succ _)))
    clear ho3 hb3 ho2
    go_wp2
    go_ret
    exact ⟨_, rfl, HO3, HB3⟩

end Go.Proofs.YtomcniakffipfaaDoor
