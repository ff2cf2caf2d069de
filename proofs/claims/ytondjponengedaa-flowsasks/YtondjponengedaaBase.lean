/-
  What stays as it was while a call works on blocks of its own; entries in memory.
-/
import Derived.Test.YtondjponengedaaRows
import Derived.Test.YtondjponengedaaPlc
import Derived.Test.YtondjponengedaaTxt
import Derived.Test.YtondjponengedaaRsum
import Derived.WalkKit
import Derived.WalkSpells
import Derived.WalkSmall
import Derived.BigQuiet
import Derived.Deep.QuietTactic
import Derived.Deep.Draws
import Derived.Deep.LoopGhost
import Derived.WalkMore
import Derived.Lib.Hide
import Derived.Lib.SliceRun
import Derived.Maps.AppendAt
import Derived.Maps.OwnSet
import Derived.Laws.OwnMore
import Derived.Laws.CopyRow
import Derived.Laws.CopyOwn
import Derived.Laws.IdiomCopy
import Derived.ArgAppend
import Derived.Deep.RegionLaw
import Derived.Deep.RegionHeld3
namespace Go.Proofs.Ytondjponengedaa
open Go.RowKit
set_option linter.unusedVariables false
set_option linter.unusedSimpArgs false




/-! ## What a call may turn -/
/-- Of the blocks that were there only those in F are others. -/
structure Only (F : Nat → Prop) (w w' : World) : Prop where
  os : w'.os = w.os
  tape : w'.tape = w.tape
  output : w'.output = w.output
  size : w.heap.size ≤ w'.heap.size
  block : ∀ k, k < w.heap.size → ¬ F k → w'.heap[k]? = w.heap[k]?

theorem Only.refl (F : Nat → Prop) (w : World) : Only F w w := ⟨rfl, rfl, rfl, Nat.le_refl _, fun _ _ _ => rfl⟩
theorem Only.trans {F F' : Nat → Prop} {a b c : World} (h : Only F a b) (k : Only F' b c) (hF : ∀ i, F' i → F i ∨ a.heap.size ≤ i) : Only F a c :=
  ⟨k.os.trans h.os, k.tape.trans h.tape, k.output.trans h.output, Nat.le_trans h.size k.size, fun i hi hn => by
    rw [k.block i (Nat.lt_of_lt_of_le hi h.size) (fun hf => by rcases hF i hf with h1 | h1; exact hn h1; omega), h.block i hi hn]⟩
theorem Only.mono {F F' : Nat → Prop} {a b : World} (h : Only F a b) (hF : ∀ i, F i → F' i) : Only F' a b :=
  ⟨h.os, h.tape, h.output, h.size, fun i hi hn => h.block i hi fun hf => hn (hF i hf)⟩
theorem Only.below {F : Nat → Prop} {a b : World} (h : Only F a b) {B : Nat} (hB : B ≤ a.heap.size) (hF : ∀ i, F i → B ≤ i) : Below B a b :=
  ⟨h.os, h.tape, h.output, h.size, fun i hi => h.block i (by omega) fun hf => by have := hF i hf; omega⟩
theorem Only.of_below {F : Nat → Prop} {a b : World} (h : Below a.heap.size a b) : Only F a b := ⟨h.os, h.tape, h.output, h.size, fun i hi _ => h.block i hi⟩
theorem Only.of_grown {F : Nat → Prop} {a b : World} {row : Option Nat} (h : a.grownBy b row) (hF : ∀ i, row = some i → F i) : Only F a b :=
  ⟨h.os, h.tape, h.output, h.size, fun i hi hn => h.block i hi fun e => hn (hF i e.symm)⟩
theorem Only.drew {F : Nat → Prop} {a b : World} (h : Only F a b) : Only F a b.drew := ⟨h.os, h.tape, h.output, h.size, h.block⟩
theorem Only.drewN {F : Nat → Prop} {a b : World} (h : Only F a b) (n : Nat) : Only F a (b.drewN n) := ⟨h.os, h.tape, h.output, h.size, h.block⟩
theorem Only.alloc {F : Nat → Prop} {a b : World} (h : Only F a b) (o : Obj) : Only F a (b.alloc o) :=
  ⟨h.os, h.tape, h.output, by simp; exact Nat.le_succ_of_le h.size, fun i hi hn => by rw [Below.heap_alloc b o i (Nat.lt_of_lt_of_le hi h.size)]; exact h.block i hi hn⟩
theorem Only.setCell {F : Nat → Prop} {a b : World} (h : Only F a b) {p : Addr} (hp : F p.block ∨ a.heap.size ≤ p.block) (u : Value) : Only F a (b.setCell p u) :=
  ⟨h.os, h.tape, h.output, by simpa using h.size, fun i hi hn => by
    rw [Below.heap_setCell b p u i (fun e => by rcases hp with h1 | h1; exact hn (e ▸ h1); omega)]; exact h.block i hi hn⟩
theorem Only.cell {F : Nat → Prop} {a b : World} (h : Only F a b) {p : Addr} (hp : p.block < a.heap.size) (hF : ¬ F p.block) : b.cell? p = a.cell? p := World.cell?_of_block (h.block p.block hp hF)
theorem Only.frozen {F : Nat → Prop} {a b : World} (h : Only F a b) {p : Addr} (hp : p.block < a.heap.size) (hF : ¬ F p.block) : b.frozen? p = a.frozen? p := World.frozen?_of_block (h.block p.block hp hF)

theorem row_only {F : Nat → Prop} {w w' : World} {base e size n : Nat} {v : Value} {xs : List Value} (h : w.ownsRow base e size v n xs) (ho : Only F w w') (hF : ∀ g, v.ownBlock = some g → ¬ F g) : w'.ownsRow base e size v n xs := by
  refine ⟨h.1, ?_⟩
  rcases h.2 with hn | ⟨g, cap, cur, rfl, hb, hg, rest⟩
  · exact .inl hn
  · refine .inr ⟨g, cap, cur, rfl, hb, ?_, rest⟩
    rw [ho.block g (Array.getElem?_eq_some_iff.1 hg).1 (hF g rfl)]
    exact hg
theorem row_below {w w' : World} {base e size n : Nat} {v : Value} {xs : List Value} (h : w.ownsRow base e size v n xs) (ho : Below w.heap.size w w') : w'.ownsRow base e size v n xs :=
  row_only (F := fun _ => False) h (Only.of_below ho) fun _ _ h => h
theorem row_base {w : World} {base base' e size n : Nat} {v : Value} {xs : List Value} (h : w.ownsRow base e size v n xs) (hb : base' ≤ base) : w.ownsRow base' e size v n xs := by
  refine ⟨h.1, ?_⟩
  rcases h.2 with hn | ⟨g, cap, cur, rfl, hbg, rest⟩
  · exact .inl hn
  · exact .inr ⟨g, cap, cur, rfl, Nat.le_trans hb hbg, rest⟩
theorem row_slice {w : World} {base e size n : Nat} {v : Value} {xs : List Value} (h : w.ownsRow base e size v n xs) (hn : 0 < n) : ∃ g c, v = .slice (some ⟨g, 0, none⟩) n c ∧ n ≤ c ∧ c ≤ maxLen ∧ base ≤ g ∧ g < w.heap.size := by
  rcases h.2 with ⟨rfl, h0⟩ | ⟨g, cap, cur, rfl, hb, hg, hnc, hcm, _⟩
  · omega
  · exact ⟨g, cap, rfl, hnc, hcm, hb, (Array.getElem?_eq_some_iff.1 hg).1⟩
theorem row_any {w : World} {base e size n : Nat} {v : Value} {xs : List Value} (h : w.ownsRow base e size v n xs) : ∃ a c, v = .slice a n c ∧ n ≤ c ∧ c ≤ maxLen := by
  rcases h.2 with ⟨rfl, rfl⟩ | ⟨g, cap, cur, rfl, hb, hg, hnc, hcm, _⟩
  · exact ⟨none, 0, rfl, Nat.le_refl _, by simp [maxLen]⟩
  · exact ⟨_, cap, rfl, hnc, hcm⟩

/-! ## Entries in memory -/
def fcs (f : Fl) : List Value := [.int .i64 f.proto, .string f.frm, .string f.to_, .int .i64 f.port, .int .i64 f.dest]
def fv (f : Fl) : Value := .agg #[.int .i64 f.proto, .string f.frm, .string f.to_, .int .i64 f.port, .int .i64 f.dest]
def ecs (e : En) : List Value := [.int .i64 e.fl.proto, .string e.fl.frm, .string e.fl.to_, .int .i64 e.fl.port, .int .i64 e.fl.dest, .int .i64 e.bk, .int .i64 e.st, .int .i64 e.ends]
def ev (e : En) : Value := .agg #[.int .i64 e.fl.proto, .string e.fl.frm, .string e.fl.to_, .int .i64 e.fl.port, .int .i64 e.fl.dest, .int .i64 e.bk, .int .i64 e.st, .int .i64 e.ends]
def ecells (l : List En) : List Value := l.flatMap ecs
theorem ecs_len (e : En) : (ecs e).length = 8 := rfl
theorem ecells_nil : ecells [] = [] := rfl
theorem ecells_cons (e : En) (l : List En) : ecells (e :: l) = ecs e ++ ecells l := rfl
theorem ecells_app (l m : List En) : ecells (l ++ m) = ecells l ++ ecells m := by simp [ecells]
theorem ecells_one (e : En) : ecells [e] = ecs e := by simp [ecells]
theorem ecells_len : ∀ l : List En, (ecells l).length = l.length * 8
  | [] => rfl
  | t :: r => by rw [ecells_cons, List.length_append, ecells_len r, ecs_len, List.length_cons]; omega
theorem ecells_at : ∀ (l : List En) (i j : Nat), i < l.length → j < 8 → (ecells l)[i * 8 + j]? = (ecs l[i]!)[j]?
  | t :: r, 0, j, _, hj => by
    rw [ecells_cons, Nat.zero_mul, Nat.zero_add, List.getElem?_append_left (by rw [ecs_len]; exact hj)]; rfl
  | t :: r, i + 1, j, h, hj => by
    have ih := ecells_at r i j (by simpa using h) hj
    rw [ecells_cons, List.getElem?_append_right (by rw [ecs_len]; omega), ecs_len, show (i + 1) * 8 + j - 8 = i * 8 + j by omega, ih]
    rfl
theorem ecs_one (e : En) (u : Value) (h : u ∈ ecs e) : u.oneCell' = true := by
  simp only [ecs, List.mem_cons, List.not_mem_nil, or_false] at h
  rcases h with rfl | rfl | rfl | rfl | rfl | rfl | rfl | rfl <;> rfl
theorem ecells_one' (l : List En) (u : Value) (h : u ∈ ecells l) : u.oneCell' = true := by
  obtain ⟨e, _, he⟩ := List.mem_flatMap.1 h
  exact ecs_one e u he

/-- An entry lies there. -/
def EnAt (w : World) (g o : Nat) (e : En) : Prop :=
  w.cell? ⟨g, o, none⟩ = some (.int .i64 e.fl.proto) ∧ w.cell? ⟨g, o + 1, none⟩ = some (.string e.fl.frm) ∧ w.cell? ⟨g, o + 2, none⟩ = some (.string e.fl.to_) ∧ w.cell? ⟨g, o + 3, none⟩ = some (.int .i64 e.fl.port) ∧ w.cell? ⟨g, o + 4, none⟩ = some (.int .i64 e.fl.dest) ∧
  w.cell? ⟨g, o + 5, none⟩ = some (.int .i64 e.bk) ∧ w.cell? ⟨g, o + 6, none⟩ = some (.int .i64 e.st) ∧ w.cell? ⟨g, o + 7, none⟩ = some (.int .i64 e.ends)
/-- A row of entries, an element of it. -/
theorem erow_at {w : World} {base t n g c : Nat} {l : List En} (h : w.ownsRow base t 8 (.slice (some ⟨g, 0, none⟩) n c) n (ecells l)) {i : Nat} (hi : i < n) : EnAt w g (i * 8) l[i]! := by
  have hl : l.length = n := by have := h.1; rw [ecells_len] at this; omega
  have hx : ∀ j, j < 8 → w.cell? ⟨g, i * 8 + j, none⟩ = (ecs l[i]!)[j]? := fun j hj => by
    rw [h.cellAt (i * 8 + j) (by omega), ecells_at l i j (by omega) hj]
  exact ⟨hx 0 (by omega), hx 1 (by omega), hx 2 (by omega), hx 3 (by omega), hx 4 (by omega), hx 5 (by omega), hx 6 (by omega), hx 7 (by omega)⟩

/-! ## Cells written into a row -/
theorem setCells_row (g : Nat) (t : TypeId) (fr : Nat × Nat) : ∀ (vs : List Value) (o : Nat) (cur : Array Value) (w : World), w.heap[g]? = some (.cells cur t fr) → o + vs.length ≤ cur.size →
    w.setCells g o vs = w.setRow g (cur.toList.take o ++ vs ++ cur.toList.drop (o + vs.length)).toArray
  | [], o, cur, w, hg, _ => by
    simp only [World.setCells, List.append_nil, List.length_nil, Nat.add_zero, List.take_append_drop, Array.toArray_toList]
    rw [setRow_self w g cur t fr hg]
  | v :: r, o, cur, w, hg, hl => by
    have ih := setCells_row g t fr r (o + 1) (cur.setIfInBounds o v) (w.setRow g (cur.setIfInBounds o v)) (setRow_heap w g cur _ t _ hg) (by simp at hl ⊢; omega)
    rw [World.setCells, setCell_eq_setRow w g o cur t fr v hg, ih, setRow_setRow]
    congr 2
    have e := list_seg_step cur.toList o v r (by simp at hl ⊢; omega)
    simpa [Array.toList_setIfInBounds, Nat.add_assoc] using e
theorem setCells_heap {w : World} {g : Nat} {t : TypeId} {fr : Nat × Nat} {cur : Array Value} (hg : w.heap[g]? = some (.cells cur t fr)) (o : Nat) (vs : List Value) (hl : o + vs.length ≤ cur.size) :
    (w.setCells g o vs).heap[g]? = some (.cells (splice cur.toList o vs).toArray t fr) := by
  rw [setCells_row g t fr vs o cur w hg hl, setRow_heap w g cur _ t _ hg]
  simp [splice]
theorem setCells_grown (g : Nat) : ∀ (vs : List Value) (o : Nat) (w : World), w.grownBy (w.setCells g o vs) (some g)
  | [], _, w => ⟨rfl, rfl, rfl, Nat.le_refl _, fun _ _ _ => rfl⟩
  | v :: r, o, w => by
    have ih := setCells_grown g r (o + 1) (w.setCell ⟨g, o, none⟩ v)
    refine ⟨ih.os, ih.tape, ih.output, by rw [World.setCells]; have := ih.size; simpa using this, fun k hk hne => ?_⟩
    rw [World.setCells, ih.block k (by simpa using hk) hne, Below.heap_setCell _ _ _ _ (fun e => hne (by rw [e]))]

end Go.Proofs.Ytondjponengedaa
