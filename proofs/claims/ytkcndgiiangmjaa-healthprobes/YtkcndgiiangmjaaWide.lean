/-
  copy, clear, append of rows of timers, by their runs.
-/
import Derived.Test.YtkcndgiiangmjaaBase
import Derived.Lib.Overlaps
import Derived.Lib.AppendZerosOnto
import Derived.Shelf.Spec.SlicesInsert
namespace Go.Proofs.Ytkcndgiiangmjaa
open Go.RowKit
set_option linter.unusedVariables false
set_option linter.unusedSimpArgs false

theorem run_copy_wide {P : Program} (w : World) (dT sT ty elem : TypeId) (size : Nat) (b o dLen dCap : Nat) (a : Addr) (sLen sCap m : Nat) (cs : List Value)
    (hu : P.underlying dT = some (.slice elem)) (hs : (P.info? elem).map (·.size) = some size) (hm : Nat.min sLen dLen = m) (hn : cs.length = m * size)
    (hsrc : ∀ j v, cs[j]? = some v → w.cell? (a.add j) = some v) (hc : ∀ j, j < cs.length → (w.cell? ⟨b, o + j, none⟩).isSome = true) (hf : ∀ j, j < cs.length → w.frozen? ⟨b, o + j, none⟩ = false) (h1 : ∀ v ∈ cs, v.oneCell' = true) :
    (Builtin.copy_ #[dT, sT] ty #[.slice (some ⟨b, o, none⟩) dLen dCap, .slice (some a) sLen sCap]).run P w = .ok (goInt m) (w.setCells b o cs) := by
  have hl := run_loadCells_list (P := P) w a cs hsrc
  have hst := run_storeCells_cells (P := P) b o cs 0 w (by simpa using hc) (by simpa using hf) h1
  rw [hn] at hl
  cases hq : P.info? elem with
  | none => simp [hq] at hs
  | some i =>
    have hi : i.size = size := by simpa [hq] using hs
    simp at hst
    simp [Builtin.copy_, run_underlying hu, Builtin.lenOf, Builtin.firstCells, sizeOf, typeInfo, hq, hi, hm, hl, hst]

/-- What clear writes into a row of timers. -/
def zts (n : Nat) : List Value := (Builtin.zeroCells #[.int .i64 0, .int .i64 0] n).toList
theorem zts_len (n : Nat) : (zts n).length = n * 2 := by simp [zts, Builtin.zeroCells]
theorem zts_one (n : Nat) : ∀ v ∈ zts n, v.oneCell' = true := by
  intro v hv
  unfold zts Builtin.zeroCells at hv
  simp only [Array.toList_map, List.mem_map] at hv
  obtain ⟨i, _, rfl⟩ := hv
  have h2 : i % 2 = 0 ∨ i % 2 = 1 := by omega
  rcases h2 with h | h
  · have : (#[Value.int .i64 0, Value.int .i64 0])[i % (#[Value.int .i64 0, Value.int .i64 0]).size]! = .int .i64 0 := by
      show (#[Value.int .i64 0, Value.int .i64 0])[i % 2]! = _
      rw [h]; rfl
    rw [this]; rfl
  · have : (#[Value.int .i64 0, Value.int .i64 0])[i % (#[Value.int .i64 0, Value.int .i64 0]).size]! = .int .i64 0 := by
      show (#[Value.int .i64 0, Value.int .i64 0])[i % 2]! = _
      rw [h]; rfl
    rw [this]; rfl
theorem run_clear_timers (w : World) (ty : TypeId) (b o n c : Nat) (hc : ∀ j, j < n * 2 → (w.cell? ⟨b, o + j, none⟩).isSome = true) (hf : ∀ j, j < n * 2 → w.frozen? ⟨b, o + j, none⟩ = false) :
    (Builtin.clear_ #[83] ty #[.slice (some ⟨b, o, none⟩) n c]).run Try.prog w = .ok (.tuple #[]) (w.setCells b o (zts n)) := by
  rcases n with _ | n
  · have e : zts 0 = [] := List.eq_nil_of_length_eq_zero (by rw [zts_len])
    rw [e]
    simp [Builtin.clear_, run_underlying Try.underlying83, World.setCells]
  · obtain ⟨i0, hi, hz0, hz1, hz2⟩ := info_parts info61
    have hst := run_storeCells_cells (P := Try.prog) b o (zts (n + 1)) 0 w (by simpa [zts_len] using hc) (by simpa [zts_len] using hf) (zts_one _)
    have e : (Builtin.zeroCells (Value.agg #[.int .i64 0, .int .i64 0]).cells (n + 1)).toList = zts (n + 1) := rfl
    simp at hst
    simp [Builtin.clear_, run_underlying Try.underlying83, zeroValue, typeInfo, hi, hz0, e, hst]

/-- A row that is written into, from a place on. -/
theorem row_written {w : World} {g : Nat} {cur : Array Value} {t : TypeId} (hg : w.heap[g]? = some (.cells cur t (0, 0))) (o : Nat) (vs : List Value) (hl : o + vs.length ≤ cur.size) :
    (w.setCells g o vs).heap[g]? = some (.cells (splice cur.toList o vs).toArray t (0, 0)) ∧ w.grownBy (w.setCells g o vs) (some g) := ⟨setCells_heap hg o vs hl, setCells_grown g vs o w⟩
theorem grown_trans {a b c : World} {row : Option Nat} (h : a.grownBy b row) (k : b.grownBy c row) : a.grownBy c row :=
  ⟨k.os.trans h.os, k.tape.trans h.tape, k.output.trans h.output, Nat.le_trans h.size k.size, fun i hi hn => (k.block i (Nat.lt_of_lt_of_le hi h.size) hn).trans (h.block i hi hn)⟩
theorem grown_drew {a b : World} {row : Option Nat} (h : a.grownBy b row) : a.grownBy b.drew row := ⟨h.os, h.tape, h.output, h.size, h.block⟩
theorem grown_undrew {a b : World} {row : Option Nat} (h : a.drew.grownBy b row) : a.grownBy b row := ⟨h.os, h.tape, h.output, h.size, h.block⟩

theorem take_split {A B : List Value} {a k : Nat} (ha : A.length = a) (h : a ≤ k) : (A ++ B).take k = A ++ B.take (k - a) := by
  subst ha
  rw [List.take_append, List.take_of_length_le h]
theorem splice_def (L : List Value) (o : Nat) (vs : List Value) : splice L o vs = L.take o ++ (vs ++ L.drop (o + vs.length)) := rfl

/-- In the place of an element and of those behind it: a new one, and they. -/
theorem splice_ins (L : List Value) (C : List Value) (n i : Nat) (v0 v1 : Value) (hC : L.take (n * 2) = C) (hl : (n + 1) * 2 ≤ L.length) (hi : i ≤ n) :
    (splice (splice L ((i + 1) * 2) (C.drop (i * 2))) (i * 2) [v0, v1]).take ((n + 1) * 2) = C.take (i * 2) ++ v0 :: v1 :: C.drop (i * 2) := by
  have hCl : C.length = n * 2 := by rw [← hC, List.length_take]; omega
  have e1 : (splice L ((i + 1) * 2) (C.drop (i * 2))).take (i * 2) = C.take (i * 2) := by
    unfold splice
    rw [List.take_append_of_le_length (by rw [List.length_take]; omega), List.take_take, show min (i * 2) ((i + 1) * 2) = i * 2 by omega, ← hC, List.take_take, show min (i * 2) (n * 2) = i * 2 by omega]
  have e2 : (splice L ((i + 1) * 2) (C.drop (i * 2))).drop (i * 2 + 2) = C.drop (i * 2) ++ L.drop ((n + 1) * 2) := by
    unfold splice
    rw [List.drop_append_of_le_length (by rw [List.length_take]; omega), List.drop_eq_nil_of_le (by rw [List.length_take]; omega), List.nil_append, List.length_drop, hCl,
      show (i + 1) * 2 + (n * 2 - i * 2) = (n + 1) * 2 by omega]
  have e3 : splice (splice L ((i + 1) * 2) (C.drop (i * 2))) (i * 2) [v0, v1] = C.take (i * 2) ++ (v0 :: v1 :: (C.drop (i * 2) ++ L.drop ((n + 1) * 2))) := by
    rw [splice_def (splice L ((i + 1) * 2) (C.drop (i * 2))), e1, show i * 2 + [v0, v1].length = i * 2 + 2 from rfl, e2]
    rfl
  rw [e3, take_split (a := i * 2) (by rw [List.length_take]; omega) (by omega), show (n + 1) * 2 - i * 2 = (n * 2 - i * 2) + 1 + 1 by omega]
  simp only [List.take_succ_cons]
  have hd : (C.drop (i * 2)).length = n * 2 - i * 2 := by rw [List.length_drop, hCl]
  rw [take_split hd (Nat.le_refl _), Nat.sub_self, List.take_zero, List.append_nil]
theorem splice_del (L : List Value) (C : List Value) (n i : Nat) (hC : L.take (n * 2) = C) (hl : n * 2 ≤ L.length) (hi : i < n) (Z : List Value) (hZ : Z.length = 2) :
    (splice (splice L (i * 2) (C.drop ((i + 1) * 2))) ((n - 1) * 2) Z).take ((n - 1) * 2) = C.take (i * 2) ++ C.drop ((i + 1) * 2) := by
  have hCl : C.length = n * 2 := by rw [← hC, List.length_take]; omega
  have hd : (C.drop ((i + 1) * 2)).length = (n - 1) * 2 - i * 2 := by rw [List.length_drop, hCl]; omega
  have e1 : L.take (i * 2) = C.take (i * 2) := by rw [← hC, List.take_take, show min (i * 2) (n * 2) = i * 2 by omega]
  have e2 : (splice L (i * 2) (C.drop ((i + 1) * 2))).take ((n - 1) * 2) = C.take (i * 2) ++ C.drop ((i + 1) * 2) := by
    rw [splice_def, e1, take_split (a := i * 2) (by rw [List.length_take]; omega) (by omega), take_split hd (Nat.le_refl _), Nat.sub_self, List.take_zero, List.append_nil]
  have hlen : ((splice L (i * 2) (C.drop ((i + 1) * 2))).take ((n - 1) * 2)).length = (n - 1) * 2 := by
    rw [List.length_take, length_splice _ _ _ (by rw [hd]; omega)]; omega
  rw [splice_def (splice L (i * 2) (C.drop ((i + 1) * 2))), take_split hlen (Nat.le_refl _), Nat.sub_self, List.take_zero, List.append_nil, e2]
theorem splice_len (L : List Value) (o : Nat) (vs : List Value) (h : o + vs.length ≤ L.length) : (splice L o vs).length = L.length := length_splice L o vs h

end Go.Proofs.Ytkcndgiiangmjaa
