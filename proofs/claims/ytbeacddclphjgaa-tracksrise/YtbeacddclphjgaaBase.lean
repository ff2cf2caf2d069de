/-
  What stays as it was while a call works on blocks of its own; tracks, names and numbers in memory.
-/
import Derived.Test.YtbeacddclphjgaaRows
import Derived.Test.YtbeacddclphjgaaMath
import Derived.WalkKit
import Derived.WalkSpells
import Derived.WalkSmall
import Derived.BigQuiet
import Derived.Deep.QuietTactic
import Derived.Deep.Draws
import Derived.Deep.LoopGhost
import Derived.WalkMore
import Derived.Lib.Hide
import Derived.Lib.SliceRun
import Derived.Maps.AppendAt
import Derived.Maps.OwnSet
import Derived.Maps.RangeWalk
import Derived.Sort.KeysCollected
import Derived.Laws.MakeOwn
import Derived.Laws.OwnMore
import Derived.Laws.CopyRow
import Derived.Laws.CopyOwn
import Derived.Laws.IdiomCopy
import Derived.ArgAppend
import Derived.Deep.RegionLaw
import Derived.Deep.RegionHeld3
import Derived.StillTailTactics
import Derived.Deep.RegionHeldLaw
namespace Go.Proofs.Ytbeacddclphjgaa
open Go.RowKit
set_option linter.unusedVariables false
set_option linter.unusedSimpArgs false

theorem wp_region_tail {P : Program} {id : Nat} {Q : Exit → Act → World → Prop} {a : Act} {w : World} {l : List Oper} (n : Nat) (hm : P.follows .mixedOrders = true) (hB : Region.lexTailB .any l.toArray n = true)
    (h : wpStill P l.toArray w.drew (fun a' => wpList P l.toArray Q (l.drop n) a' w.drew) (l.take n) a) : (Code.region id l.toArray true).wp P Q a w := wp_region_still_tail n hm hB h
theorem same_turn {P : Program} {f : FuncId} {args : Array Value} {w : World} {v : Value} (h : Calls P f args w fun e w' => e = .returned v ∧ w = w') : Calls P f args w fun e w' => e = .returned v ∧ w' = w := h.mono fun _ _ h => ⟨h.1, h.2.symm⟩
theorem quiet_same {f : FuncId} {args : Array Value} {w : World} {n : Nat} {v : Value} (h : Calls Try.prog f args (w.drewN n) fun e w' => e = .returned v ∧ w.drewN n = w') : Calls Try.prog f args (w.drewN n) fun e w'' => e = .returned v ∧ ∃ m, w'' = w.drewN m :=
  h.mono fun _ _ ⟨he, hm⟩ => ⟨he, n, hm.symm⟩
theorem ret_int {k : IntKind} {a b : Int} (h : a = b) : Ending.returned (.int k a) = .returned (.int k b) := by rw [h]
theorem ret_bool {a b : Bool} (h : a = b) : Ending.returned (.bool a) = .returned (.bool b) := by rw [h]
theorem info4 : (Try.prog.info? 4).map (fun i => (i.zero, i.size, i.bytes)) = some (some (.bool false), 1, 1) := by kernel_rfl
theorem info9 : (Try.prog.info? 9).map (fun i => (i.zero, i.size, i.bytes)) = some (some (.string ⟨#[]⟩), 1, 16) := by kernel_rfl
theorem info53 : (Try.prog.info? 53).map (fun i => (i.zero, i.size, i.bytes)) = some (some (.agg #[.string ⟨#[]⟩, .int .i64 0]), 2, 24) := by kernel_rfl
theorem info58 : (Try.prog.info? 58).map (fun i => (i.zero, i.size, i.bytes)) = some (some (.agg #[.string ⟨#[]⟩, .int .i64 0]), 2, 24) := by kernel_rfl
theorem info3 : (Try.prog.info? 3).map (fun i => (i.zero, i.size, i.bytes)) = some (some (.int .i64 0), 1, 8) := by kernel_rfl

theorem below_drewN {B : Nat} {a w : World} (h : Below B a w) (n : Nat) : Below B a (w.drewN n) := ⟨h.os, h.tape, h.output, h.size, h.block⟩
theorem below_drew {B : Nat} {a w : World} (h : Below B a w) : Below B a w.drew := ⟨h.os, h.tape, h.output, h.size, h.block⟩
theorem below_alloc {w W : World} (h : Below w.heap.size w W) (o : Obj) : Below w.heap.size w (W.alloc o) := h.alloc h.size o
theorem below_then {w W w1 : World} {B : Nat} (h : Below B w W) (hB : B ≤ W.heap.size) (hb : Below W.heap.size W w1) : Below B w w1 := h.trans (hb.mono hB)

theorem add_plain (b off k : Nat) : (⟨b, off, none⟩ : Addr).add k = ⟨b, off + k, none⟩ := by
  unfold Addr.add; by_cases h0 : k = 0 <;> simp [h0]

/-! ## What a call may turn -/
/-- Of the blocks that were there only those in F are others. -/
structure Only (F : Nat → Prop) (w w' : World) : Prop where
  os : w'.os = w.os
  tape : w'.tape = w.tape
  output : w'.output = w.output
  size : w.heap.size ≤ w'.heap.size
  block : ∀ k, k < w.heap.size → ¬ F k → w'.heap[k]? = w.heap[k]?

theorem Only.refl (F : Nat → Prop) (w : World) : Only F w w := ⟨rfl, rfl, rfl, Nat.le_refl _, fun _ _ _ => rfl⟩
theorem Only.trans {F F' : Nat → Prop} {a b c : World} (h : Only F a b) (k : Only F' b c) (hF : ∀ i, F' i → F i ∨ a.heap.size ≤ i) : Only F a c :=
  ⟨k.os.trans h.os, k.tape.trans h.tape, k.output.trans h.output, Nat.le_trans h.size k.size, fun i hi hn => by
    rw [k.block i (Nat.lt_of_lt_of_le hi h.size) (fun hf => by rcases hF i hf with h1 | h1; exact hn h1; omega), h.block i hi hn]⟩
theorem Only.mono {F F' : Nat → Prop} {a b : World} (h : Only F a b) (hF : ∀ i, F i → F' i) : Only F' a b :=
  ⟨h.os, h.tape, h.output, h.size, fun i hi hn => h.block i hi fun hf => hn (hF i hf)⟩
theorem Only.below {F : Nat → Prop} {a b : World} (h : Only F a b) {B : Nat} (hB : B ≤ a.heap.size) (hF : ∀ i, F i → B ≤ i) : Below B a b :=
  ⟨h.os, h.tape, h.output, h.size, fun i hi => h.block i (by omega) fun hf => by have := hF i hf; omega⟩
theorem Only.of_below {F : Nat → Prop} {a b : World} (h : Below a.heap.size a b) : Only F a b := ⟨h.os, h.tape, h.output, h.size, fun i hi _ => h.block i hi⟩
theorem Only.of_grown {F : Nat → Prop} {a b : World} {row : Option Nat} (h : a.grownBy b row) (hF : ∀ i, row = some i → F i) : Only F a b :=
  ⟨h.os, h.tape, h.output, h.size, fun i hi hn => h.block i hi fun e => hn (hF i e.symm)⟩
theorem Only.drew {F : Nat → Prop} {a b : World} (h : Only F a b) : Only F a b.drew := ⟨h.os, h.tape, h.output, h.size, h.block⟩
theorem Only.drewN {F : Nat → Prop} {a b : World} (h : Only F a b) (n : Nat) : Only F a (b.drewN n) := ⟨h.os, h.tape, h.output, h.size, h.block⟩
theorem Only.alloc {F : Nat → Prop} {a b : World} (h : Only F a b) (o : Obj) : Only F a (b.alloc o) :=
  ⟨h.os, h.tape, h.output, by simp; exact Nat.le_succ_of_le h.size, fun i hi hn => by rw [Below.heap_alloc b o i (Nat.lt_of_lt_of_le hi h.size)]; exact h.block i hi hn⟩
theorem Only.setCell {F : Nat → Prop} {a b : World} (h : Only F a b) {p : Addr} (hp : F p.block ∨ a.heap.size ≤ p.block) (u : Value) : Only F a (b.setCell p u) :=
  ⟨h.os, h.tape, h.output, by simpa using h.size, fun i hi hn => by
    rw [Below.heap_setCell b p u i (fun e => by rcases hp with h1 | h1; exact hn (e ▸ h1); omega)]; exact h.block i hi hn⟩
theorem Only.cell {F : Nat → Prop} {a b : World} (h : Only F a b) {p : Addr} (hp : p.block < a.heap.size) (hF : ¬ F p.block) : b.cell? p = a.cell? p := World.cell?_of_block (h.block p.block hp hF)
theorem Only.frozen {F : Nat → Prop} {a b : World} (h : Only F a b) {p : Addr} (hp : p.block < a.heap.size) (hF : ¬ F p.block) : b.frozen? p = a.frozen? p := World.frozen?_of_block (h.block p.block hp hF)

theorem row_only {F : Nat → Prop} {w w' : World} {base e size n : Nat} {v : Value} {xs : List Value} (h : w.ownsRow base e size v n xs) (ho : Only F w w') (hF : ∀ g, v.ownBlock = some g → ¬ F g) : w'.ownsRow base e size v n xs := by
  refine ⟨h.1, ?_⟩
  rcases h.2 with hn | ⟨g, cap, cur, rfl, hb, hg, rest⟩
  · exact .inl hn
  · refine .inr ⟨g, cap, cur, rfl, hb, ?_, rest⟩
    rw [ho.block g (Array.getElem?_eq_some_iff.1 hg).1 (hF g rfl)]
    exact hg
theorem row_below {w w' : World} {base e size n : Nat} {v : Value} {xs : List Value} (h : w.ownsRow base e size v n xs) (ho : Below w.heap.size w w') : w'.ownsRow base e size v n xs :=
  row_only (F := fun _ => False) h (Only.of_below ho) fun _ _ h => h
theorem row_base {w : World} {base base' e size n : Nat} {v : Value} {xs : List Value} (h : w.ownsRow base e size v n xs) (hb : base' ≤ base) : w.ownsRow base' e size v n xs := by
  refine ⟨h.1, ?_⟩
  rcases h.2 with hn | ⟨g, cap, cur, rfl, hbg, rest⟩
  · exact .inl hn
  · exact .inr ⟨g, cap, cur, rfl, Nat.le_trans hb hbg, rest⟩
theorem row_slice {w : World} {base e size n : Nat} {v : Value} {xs : List Value} (h : w.ownsRow base e size v n xs) (hn : 0 < n) : ∃ g c, v = .slice (some ⟨g, 0, none⟩) n c ∧ n ≤ c ∧ c ≤ maxLen ∧ base ≤ g ∧ g < w.heap.size := by
  rcases h.2 with ⟨rfl, h0⟩ | ⟨g, cap, cur, rfl, hb, hg, hnc, hcm, _⟩
  · omega
  · exact ⟨g, cap, rfl, hnc, hcm, hb, (Array.getElem?_eq_some_iff.1 hg).1⟩
theorem row_any {w : World} {base e size n : Nat} {v : Value} {xs : List Value} (h : w.ownsRow base e size v n xs) : ∃ a c, v = .slice a n c ∧ n ≤ c ∧ c ≤ maxLen := by
  rcases h.2 with ⟨rfl, rfl⟩ | ⟨g, cap, cur, rfl, hb, hg, hnc, hcm, _⟩
  · exact ⟨none, 0, rfl, Nat.le_refl _, by simp [maxLen]⟩
  · exact ⟨_, cap, rfl, hnc, hcm⟩

/-! ## Tracks in memory -/
/-- What is known of each track that comes in. -/
def Wide (l : List Bk) : Prop := ∀ i, i < l.length → (l[i]!).name.size ≤ 9223372036854775807 ∧ -9223372036854775808 ≤ (l[i]!).wt ∧ (l[i]!).wt ≤ 9223372036854775807

/-- Tracks that lie from a place on. -/
def BkAt (w : World) (b off : Nat) (l : List Bk) : Prop := ∀ i, i < l.length → w.cell? ⟨b, off + i * 2, none⟩ = some (.string (l[i]!).name) ∧ w.cell? ⟨b, off + i * 2 + 1, none⟩ = some (.int .i64 (l[i]!).wt)
/-- A slice of tracks. -/
def Bks (w : World) (a : Option Addr) (n c : Nat) (l : List Bk) : Prop := n = l.length ∧ n ≤ c ∧ n ≤ 5864062014805 ∧ (0 < n → ∃ b off, a = some ⟨b, off, none⟩ ∧ b < w.heap.size ∧ BkAt w b off l)

theorem BkAt.below {w w' : World} {b off B : Nat} {l : List Bk} (h : BkAt w b off l) (hb : Below B w w') (hB : b < B) : BkAt w' b off l := fun i hi =>
  ⟨by rw [hb.cell (p := ⟨b, off + i * 2, none⟩) hB]; exact (h i hi).1, by rw [hb.cell (p := ⟨b, off + i * 2 + 1, none⟩) hB]; exact (h i hi).2⟩
theorem Bks.below {w w' : World} {a : Option Addr} {n c : Nat} {l : List Bk} (h : Bks w a n c l) (hb : Below w.heap.size w w') : Bks w' a n c l :=
  ⟨h.1, h.2.1, h.2.2.1, fun hn => by
    obtain ⟨b, off, e, hlt, hat⟩ := h.2.2.2 hn
    exact ⟨b, off, e, Nat.lt_of_lt_of_le hlt hb.size, hat.below hb hlt⟩⟩

def bcells : List Bk → List Value
  | [] => []
  | b :: r => .string b.name :: .int .i64 b.wt :: bcells r
theorem bcells_len : ∀ l : List Bk, (bcells l).length = l.length * 2
  | [] => rfl
  | b :: r => by simp [bcells, bcells_len r]; omega
theorem bcells_app : ∀ (l m : List Bk), bcells (l ++ m) = bcells l ++ bcells m
  | [], m => rfl
  | b :: r, m => by simp [bcells, bcells_app r m]
theorem bcells_at : ∀ (l : List Bk) (i : Nat), i < l.length → (bcells l)[i * 2]? = some (.string (l[i]!).name) ∧ (bcells l)[i * 2 + 1]? = some (.int .i64 (l[i]!).wt)
  | b :: r, 0, _ => by simp [bcells]
  | b :: r, i + 1, h => by
    have ih := bcells_at r i (by simpa using h)
    rw [Nat.succ_mul]
    simpa [bcells] using ih
theorem take_next (l : List Bk) (i : Nat) (h : i < l.length) : l.take (i + 1) = l.take i ++ [l[i]!] := by
  rw [List.take_add_one, List.getElem?_eq_getElem h, getElem!_pos l i h]; rfl

/-- A row of the call's own that holds tracks. -/
theorem bks_of_row {w : World} {B e : Nat} {v : Value} {l : List Bk} (h : w.ownsRow B e 2 v l.length (bcells l)) (hl : l.length ≤ 5864062014805) : ∃ a c, v = .slice a l.length c ∧ Bks w a l.length c l := by
  rcases h.2 with ⟨rfl, hn⟩ | ⟨g, cap, cur, rfl, hb, hg, hnc, hcm, hcs, ht⟩
  · exact ⟨none, 0, by rw [hn], rfl, by omega, hl, fun h => by omega⟩
  · refine ⟨_, cap, rfl, rfl, hnc, hl, fun _ => ⟨g, 0, rfl, (Array.getElem?_eq_some_iff.1 hg).1, fun i hi => ?_⟩⟩
    have hc := h.cells (g := g) rfl
    obtain ⟨h0, h1⟩ := bcells_at l i hi
    have c0 := hc _ _ h0
    have c1 := hc _ _ h1
    rw [add_plain] at c0 c1
    simp only [Nat.zero_add] at c0 c1 ⊢
    exact ⟨c0, c1⟩

theorem cell_two_new (w : World) (x y : Value) (t : TypeId) : ∀ j u, [x, y][j]? = some u → (w.alloc (.cells #[x, y] t)).cell? ((⟨w.heap.size, 0, none⟩ : Addr).add j) = some u := by
  intro j u hu
  rw [add_plain]
  match j, hu with
  | 0, hu => simp at hu; subst hu; simp [go_sem]
  | 1, hu => simp at hu; subst hu; simp [go_sem]

theorem bk_at {w : World} {a : Option Addr} {n c : Nat} {l : List Bk} (h : Bks w a n c l) {i : Nat} (hi : i < n) : ∃ b off, a = some ⟨b, off, none⟩ ∧ b < w.heap.size ∧ w.cell? ⟨b, off + i * 2, none⟩ = some (.string (l[i]!).name) ∧ w.cell? ⟨b, off + i * 2 + 1, none⟩ = some (.int .i64 (l[i]!).wt) := by
  obtain ⟨b, off, e, hb, hat⟩ := h.2.2.2 (by omega)
  exact ⟨b, off, e, hb, hat i (by rw [← h.1]; exact hi)⟩

theorem cell_two_at {w : World} (x y : Value) (t : TypeId) {N : Nat} (hN : N = w.heap.size) : ∀ j u, [x, y][j]? = some u → (w.alloc (.cells #[x, y] t)).cell? ((⟨N, 0, none⟩ : Addr).add j) = some u := by
  subst hN; exact cell_two_new w x y t

theorem cell_one_at {w : World} (x : Value) (t : TypeId) {N : Nat} (hN : N = w.heap.size) : ∀ j u, [x][j]? = some u → (w.alloc (.cells #[x] t)).cell? ((⟨N, 0, none⟩ : Addr).add j) = some u := by
  subst hN; exact cell_one_new w x t


/-! ## Names in memory -/
def ncells (l : List ByteArray) : List Value := l.map Value.string
theorem ncells_len (l : List ByteArray) : (ncells l).length = l.length := by simp [ncells]
/-- A row of names from a place on. -/
def NmAt (w : World) (b : Nat) (l : List ByteArray) : Prop := ∀ i, i < l.length → w.cell? ⟨b, i, none⟩ = some (.string l[i]!)
/-- A row of names of somebody's own. -/
def Nms (w : World) (base : Nat) (v : Value) (l : List ByteArray) : Prop := w.ownsRow base 9 1 v l.length (ncells l)
theorem nrow_at {w : World} {base n g c : Nat} {l : List ByteArray} (h : w.ownsRow base 9 1 (.slice (some ⟨g, 0, none⟩) n c) n (ncells l)) {i : Nat} (hi : i < n) : w.cell? ⟨g, i, none⟩ = some (.string l[i]!) := by
  have hl : l.length = n := by have := h.1; rw [ncells_len] at this; omega
  rw [h.cellAt i (by omega), ncells, List.getElem?_map, List.getElem?_eq_getElem (by omega), getElem!_pos l i (by omega)]
  rfl

/-! ## Numbers in memory -/
def icells (l : List Int) : List Value := l.map (Value.int .i64)
theorem icells_len (l : List Int) : (icells l).length = l.length := by simp [icells]
theorem irow_at {w : World} {base n g c : Nat} {l : List Int} (h : w.ownsRow base 3 1 (.slice (some ⟨g, 0, none⟩) n c) n (icells l)) {i : Nat} (hi : i < n) : w.cell? ⟨g, i, none⟩ = some (.int .i64 l[i]!) := by
  have hl : l.length = n := by have := h.1; rw [icells_len] at this; omega
  rw [h.cellAt i (by omega), icells, List.getElem?_map, List.getElem?_eq_getElem (by omega), getElem!_pos l i (by omega)]
  rfl

/-! ## Bools in memory -/
def ucells (l : List Bool) : List Value := l.map Value.bool
theorem ucells_len (l : List Bool) : (ucells l).length = l.length := by simp [ucells]
theorem urow_at {w : World} {base n g c : Nat} {l : List Bool} (h : w.ownsRow base 4 1 (.slice (some ⟨g, 0, none⟩) n c) n (ucells l)) {i : Nat} (hi : i < n) : w.cell? ⟨g, i, none⟩ = some (.bool l[i]!) := by
  have hl : l.length = n := by have := h.1; rw [ucells_len] at this; omega
  rw [h.cellAt i (by omega), ucells, List.getElem?_map, List.getElem?_eq_getElem (by omega), getElem!_pos l i (by omega)]
  rfl

end Go.Proofs.Ytbeacddclphjgaa
