/-
  A table of flows in memory: its key, its places, how many of each there are.
-/
import Derived.Test.YtondjponengedaaIo
import Derived.Test.YtondjponengedaaRhash
namespace Go.Proofs.Ytondjponengedaa
open Go.RowKit
set_option linter.unusedVariables false
set_option linter.unusedSimpArgs false
set_option maxRecDepth 10000

def pcs (p : Pc) : List Value := .int .i64 p.is_ :: ecs p.en
def pv (p : Pc) : Value := .agg (pcs p).toArray
theorem pcs_len (p : Pc) : (pcs p).length = 9 := rfl
def plcells (pl : List Pc) : List Value := pl.flatMap pcs
theorem plcells_len : ∀ pl : List Pc, (plcells pl).length = pl.length * 9
  | [] => rfl
  | p :: r => by
    have ih := plcells_len r
    unfold plcells at *
    rw [List.flatMap_cons, List.length_append, ih, pcs_len, List.length_cons]; omega
theorem plcells_at : ∀ (pl : List Pc) (i j : Nat), i < pl.length → j < 9 → (plcells pl)[i * 9 + j]? = (pcs pl[i]!)[j]?
  | t :: r, 0, j, _, hj => by
    unfold plcells
    rw [List.flatMap_cons, Nat.zero_mul, Nat.zero_add, List.getElem?_append_left (by rw [pcs_len]; exact hj)]; rfl
  | t :: r, i + 1, j, h, hj => by
    have ih := plcells_at r i j (by simpa using h) hj
    unfold plcells at *
    rw [List.flatMap_cons, List.getElem?_append_right (by rw [pcs_len]; omega), pcs_len, show (i + 1) * 9 + j - 9 = i * 9 + j by omega, ih]
    rfl
theorem mid_set (A X C P : List Value) {n m : Nat} (hA : A.length = n) (hX : X.length = m) : (A ++ (X ++ C)).take n ++ P ++ (A ++ (X ++ C)).drop (n + m) = A ++ (P ++ C) := by
  subst hA hX
  rw [List.take_left, ← List.append_assoc A X C, ← List.length_append, List.drop_left, List.append_assoc]
theorem plcells_set (pl : List Pc) (i : Nat) (p : Pc) (hi : i < pl.length) : plcells (pl.set i p) = (plcells pl).take (i * 9) ++ pcs p ++ (plcells pl).drop (i * 9 + 9) := by
  obtain ⟨h1, h2⟩ := parts_of hi p
  have e1 : plcells pl = plcells (pl.take i) ++ (pcs pl[i]! ++ plcells (pl.drop (i + 1))) := by
    have : plcells pl = plcells (pl.take i ++ pl[i]! :: pl.drop (i + 1)) := congrArg plcells h1
    rw [this]
    unfold plcells
    rw [List.flatMap_append, List.flatMap_cons]
  have e2 : plcells (pl.set i p) = plcells (pl.take i) ++ (pcs p ++ plcells (pl.drop (i + 1))) := by
    rw [h2]
    unfold plcells
    rw [List.flatMap_append, List.flatMap_cons]
  have el : (plcells (pl.take i)).length = i * 9 := by rw [plcells_len, List.length_take, Nat.min_eq_left (by omega)]
  rw [e2, e1, mid_set _ _ _ _ el (pcs_len _)]

def ics (cs : List Int) : List Value := cs.map (Value.int .i64)
/-- The table's block. -/
def Tm (w : World) (B : Nat) (k : List Int) (pl : List Pc) (cs : List Int) : Prop :=
  ∃ cur : Array Value, w.heap[B]? = some (.cells cur 73 (0, 0)) ∧ cur.toList = cel k ++ plcells pl ++ ics cs ∧ k.length = 16 ∧ pl.length = 128 ∧ cs.length = 3

section
variable {w : World} {B : Nat} {k : List Int} {pl : List Pc} {cs : List Int}
theorem Tm.lt (h : Tm w B k pl cs) : B < w.heap.size := by
  obtain ⟨cur, h1, _⟩ := h
  exact (Array.getElem?_eq_some_iff.1 h1).1
theorem Tm.cellAt (h : Tm w B k pl cs) (j : Nat) : w.cell? ⟨B, j, none⟩ = (cel k ++ plcells pl ++ ics cs)[j]? := by
  obtain ⟨cur, h1, h2, _⟩ := h
  rw [cell_of_row w B j cur 73 (0, 0) h1, ← h2, Array.getElem?_toList]
theorem Tm.key (h : Tm w B k pl cs) (j : Nat) (hj : j < 16) : w.cell? ⟨B, j, none⟩ = (cel k)[j]? := by
  have hh := h
  obtain ⟨_, _, _, h3, h4, h5⟩ := hh
  rw [Tm.cellAt h, List.append_assoc, List.getElem?_append_left (by rw [cel_len]; omega)]
theorem Tm.place (h : Tm w B k pl cs) {i : Nat} (hi : i < 128) {j : Nat} (hj : j < 9) : w.cell? ⟨B, 16 + (i * 9 + j), none⟩ = (pcs pl[i]!)[j]? := by
  have hh := h
  obtain ⟨_, _, _, h3, h4, h5⟩ := hh
  rw [Tm.cellAt h, List.append_assoc, List.getElem?_append_right (by rw [cel_len]; omega), List.getElem?_append_left (by rw [cel_len, plcells_len]; omega), cel_len, h3,
    show 16 + (i * 9 + j) - 16 = i * 9 + j by omega, plcells_at pl i j (by omega) hj]
theorem Tm.count (h : Tm w B k pl cs) {j : Nat} (hj : j < 3) : w.cell? ⟨B, 1168 + j, none⟩ = some (.int .i64 cs[j]!) := by
  have hh := h
  obtain ⟨_, _, _, h3, h4, h5⟩ := hh
  rw [Tm.cellAt h, List.getElem?_append_right (by rw [List.length_append, cel_len, plcells_len]; omega), List.length_append, cel_len, plcells_len, h3, h4, show 1168 + j - (16 + 128 * 9) = j by omega, ics, List.getElem?_map,
    List.getElem?_eq_getElem (by omega), getElem!_pos cs j (by omega)]; rfl
theorem Tm.free (h : Tm w B k pl cs) (j : Nat) : w.frozen? ⟨B, j, none⟩ = false := by
  obtain ⟨cur, h1, _⟩ := h
  exact frozen_of_row w B j cur 73 h1
theorem Tm.only {w' : World} {F : Nat → Prop} (h : Tm w B k pl cs) (ho : Only F w w') (hF : ¬ F B) : Tm w' B k pl cs := by
  have hl := h.lt
  obtain ⟨cur, h1, h2⟩ := h
  exact ⟨cur, (ho.block B hl hF).trans h1, h2⟩
theorem Tm.below {w' : World} (h : Tm w B k pl cs) (hb : Below w.heap.size w w') : Tm w' B k pl cs := h.only (F := fun _ => False) (Only.of_below hb) fun h => h
theorem Tm.alloc (h : Tm w B k pl cs) (o : Obj) : Tm (w.alloc o) B k pl cs := h.below (below_alloc (Below.refl _ _) o)
theorem Tm.setCount (h : Tm w B k pl cs) {j : Nat} (hj : j < 3) (v : Int) : Tm (w.setCell ⟨B, 1168 + j, none⟩ (.int .i64 v)) B k pl (cs.set j v) := by
  obtain ⟨cur, h1, h2, h3, h4, h5⟩ := h
  refine ⟨cur.setIfInBounds (1168 + j) (.int .i64 v), heap_setCell_same w B (1168 + j) cur 73 _ h1, ?_, h3, h4, by simp [h5]⟩
  rw [Array.toList_setIfInBounds, h2, List.set_append_right _ _ (by rw [List.length_append, cel_len, plcells_len]; omega), List.length_append, cel_len, plcells_len, h3, h4, show 1168 + j - (16 + 128 * 9) = j by omega, ics, ics, List.map_set]
theorem Tm.setPlace (h : Tm w B k pl cs) {i : Nat} (hi : i < 128) (p : Pc) : Tm (w.setCells B (16 + i * 9) (pcs p)) B k (pl.set i p) cs := by
  obtain ⟨cur, h1, h2, h3, h4, h5⟩ := h
  have hs : cur.size = 16 + 128 * 9 + 3 := by rw [← Array.length_toList, h2]; simp [cel_len, plcells_len, ics, h3, h4, h5]
  refine ⟨_, setCells_heap h1 (16 + i * 9) (pcs p) (by rw [pcs_len, hs]; omega), ?_, h3, by simp [h4], h5⟩
  show splice cur.toList (16 + i * 9) (pcs p) = _
  unfold splice
  rw [h2, plcells_set pl i p (by omega), pcs_len]
  have l1 : (cel k).length = 16 := by rw [cel_len, h3]
  have l2 : (plcells pl).length = 128 * 9 := by rw [plcells_len, h4]
  rw [List.append_assoc (cel k), List.take_append, List.take_of_length_le (by omega), l1, show 16 + i * 9 - 16 = i * 9 by omega, List.take_append_of_le_length (by omega)]
  rw [List.drop_append, List.drop_of_length_le (by omega), l1, show 16 + i * 9 + 9 - 16 = i * 9 + 9 by omega, List.nil_append, List.drop_append_of_le_length (by omega)]
  simp only [List.append_assoc]
end

def cts (pl : List Pc) : List Int := [(cnt pl 0 : Int), (cnt pl 1 : Int), (cnt pl 2 : Int)]
def Tb (w : World) (B : Nat) (k : List Int) (pl : List Pc) : Prop := Tm w B k pl (cts pl)
def hx (k : List Int) (f : Fl) : Nat := (hsh k (bts (ftext f)) % 128).toNat
theorem hx_lt (k : List Int) (f : Fl) : hx k f < 128 := by unfold hx; omega

structure TaS (w : World) (B : Nat) (k : List Int) (pl : List Pc) (L : List En) : Prop where
  tb : Tb w B k pl
  tp : TabP (hx k) pl L
  room : 32 ≤ cnt pl 0
  key : Key k
  ok : ∀ e ∈ L, OkF e.fl
/-- A table that holds these entries. -/
def Ta (w : World) (B : Nat) (k : List Int) (L : List En) : Prop := ∃ pl, TaS w B k pl L

theorem TaS.only {w w' : World} {F : Nat → Prop} {B : Nat} {k : List Int} {pl : List Pc} {L : List En} (h : TaS w B k pl L) (ho : Only F w w') (hF : ¬ F B) : TaS w' B k pl L := ⟨h.tb.only ho hF, h.tp, h.room, h.key, h.ok⟩
theorem Ta.only {w w' : World} {F : Nat → Prop} {B : Nat} {k : List Int} {L : List En} (h : Ta w B k L) (ho : Only F w w') (hF : ¬ F B) : Ta w' B k L := by
  obtain ⟨pl, h⟩ := h
  exact ⟨pl, h.only ho hF⟩
theorem TaS.below {w w' : World} {B : Nat} {k : List Int} {pl : List Pc} {L : List En} (h : TaS w B k pl L) (hb : Below w.heap.size w w') : TaS w' B k pl L := h.only (F := fun _ => False) (Only.of_below hb) fun h => h
theorem Ta.below {w w' : World} {B : Nat} {k : List Int} {L : List En} (h : Ta w B k L) (hb : Below w.heap.size w w') : Ta w' B k L := h.only (F := fun _ => False) (Only.of_below hb) fun h => h
theorem Ta.lt {w : World} {B : Nat} {k : List Int} {L : List En} (h : Ta w B k L) : B < w.heap.size := by
  obtain ⟨pl, h⟩ := h
  exact h.tb.lt
theorem Ta.fine {w : World} {B : Nat} {k : List Int} {L : List En} (h : Ta w B k L) : Fine L := by
  obtain ⟨pl, h⟩ := h
  exact h.tp.fine

end Go.Proofs.Ytondjponengedaa
