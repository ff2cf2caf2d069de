/-
  A set's map in memory: what each name's element is.
-/
import Derived.Test.YtbeacddclphjgaaBase
namespace Go.Proofs.Ytbeacddclphjgaa
open Go.RowKit Go.Maps
set_option linter.unusedVariables false
set_option linter.unusedSimpArgs false
set_option maxRecDepth 10000

theorem keyed9 : Keyed Try.prog 9 := string_keyed Try.underlying9
def ev (a : Int) (u : Bool) : Value := .agg #[.int .i64 a, .bool u]
def el (a : Int) (u : Bool) : DataW Nat := .agg [.lit (.int .i64 a), .lit (.bool u)]
/-- How an element of the map reads. -/
def elR (v : Value) : Option (DataW Nat × List MemPlace) :=
  match v with
  | .agg A => match A.toList with
    | [.int .i64 a, .bool u] => some (el a u, [])
    | _ => none
  | _ => none
theorem elR_mk (a : Int) (u : Bool) : elR (ev a u) = some (el a u, []) := rfl
theorem elR_inv {v : Value} {y : DataW Nat × List MemPlace} (h : elR v = some y) : ∃ a u, v = ev a u ∧ y = (el a u, []) := by
  unfold elR at h
  split at h
  · rename_i A
    split at h
    · rename_i a u e
      refine ⟨a, u, ?_, by simpa using h.symm⟩
      unfold ev
      congr 1
      exact Array.toList_inj.1 e
    · cases h
  · cases h
theorem el_inj {a b : Int} {u v : Bool} (h : el a u = el b v) : a = b ∧ u = v := by
  unfold el at h
  simpa using h

def key (x : ByteArray) : Lit := .string x.data.toList
theorem key_inj {x y : ByteArray} (h : key x = key y) : x = y := by
  unfold key at h
  injection h with h
  cases x; cases y
  simp only at h
  rw [Array.toList_inj.1 h]
theorem key_of (x : List UInt8) : ∃ y : ByteArray, Lit.string x = key y := ⟨⟨x.toArray⟩, by simp [key]⟩
theorem key_lit (x : ByteArray) : WideAt.IsKeyLit (key x) := by
  unfold key
  first | trivial | exact ⟨_, rfl⟩ | simp [WideAt.IsKeyLit]
theorem key_mk {x : ByteArray} (h : x.size ≤ maxLen) : keyOf Try.prog 9 (.string x) = some (key x) := Go.WideMaps.keyOf_string_mk Try.underlying9 h

theorem zero60 (w : World) : (zeroValue 60).run Try.prog w = .ok (ev 0 false) w := by kernel_rfl

def lv (o : Option Tk) : Value := match o with | some t => ev t.wt t.up | none => ev 0 false
def ld (o : Option Tk) : DataW Nat := match o with | some t => el t.wt t.up | none => el 0 false

/-- Block M is a map of these tracks. -/
def MapAt (w : World) (M : Nat) (T : List Tk) : Prop :=
  ∃ D : DataW Nat, w.ownsMap Try.prog 9 elR M T.length D ∧ Maps.size D = T.length ∧ ∀ x : ByteArray, Maps.has D (key x) = (look T x).isSome ∧ D.atKey (key x) (el 0 false) = ld (look T x)

theorem MapAt.of_block {w w' : World} {M : Nat} {T : List Tk} (h : MapAt w M T) (hb : w'.heap[M]? = w.heap[M]?) : MapAt w' M T := by
  obtain ⟨D, ⟨es, clock, h1, h2⟩, h3, h4⟩ := h
  exact ⟨D, ⟨es, clock, hb.trans h1, h2⟩, h3, h4⟩
theorem MapAt.lt {w : World} {M : Nat} {T : List Tk} (h : MapAt w M T) : M < w.heap.size := by
  obtain ⟨D, h1, _⟩ := h
  exact h1.lt
theorem made_map (w : World) : MapAt (w.alloc (.map #[] 0)) w.heap.size [] :=
  ⟨.map [], World.ownsMap_made w _ _ _, rfl, fun x => ⟨rfl, rfl⟩⟩

theorem tight {w : World} {M n : Nat} {D : DataW Nat} (h : w.ownsMap Try.prog 9 elR M n D) : w.ownsMap Try.prog 9 elR M (Maps.size D) D := by
  obtain ⟨es, clock, hb, F, hs, rfl⟩ := h
  exact ⟨es, clock, hb, F, by simp [Maps.size, length_sorted], rfl⟩

/-- 't, is := m[x]'. -/
theorem MapAt.look {w : World} {M : Nat} {T : List Tk} (h : MapAt w M T) {x : ByteArray} (hx : x.size ≤ maxLen) :
    (Instr.lookup 55 (.map (some M)) (.string x) true).run Try.prog w = .ok (.tuple #[lv (look T x), .bool (Go.Proofs.Ytbeacddclphjgaa.look T x).isSome]) w := by
  obtain ⟨D, h1, h2, h3⟩ := h
  obtain ⟨v, ps, hr, hv⟩ := h1.look_ok keyed9 Try.underlying55 (zero60 w) (elR_mk 0 false) (key_mk hx)
  rw [(h3 x).1] at hr
  rw [(h3 x).2] at hv
  rw [hr]
  obtain ⟨a, u, rfl, e⟩ := elR_inv hv
  simp only [Prod.mk.injEq] at e
  have e1 := e.1
  unfold ld at e1
  unfold lv
  cases hl : Go.Proofs.Ytbeacddclphjgaa.look T x with
  | none => rw [hl] at e1; obtain ⟨rfl, rfl⟩ := el_inj e1; rfl
  | some t => rw [hl] at e1; obtain ⟨rfl, rfl⟩ := el_inj e1; rfl

theorem look_app (T : List Tk) (t : Tk) (y : ByteArray) : look (T ++ [t]) y = (match look T y with | some s => some s | none => if t.name = y then some t else none) := by
  unfold look
  rw [List.find?_append]
  cases T.find? fun t => decide (t.name = y) with
  | some s => rfl
  | none =>
    by_cases e : t.name = y
    · simp [e]
    · simp [e]

/-- 'm[x] = s' of a track that is there. -/
theorem MapAt.tell {w : World} {M : Nat} {T : List Tk} (h : MapAt w M T) {x : ByteArray} (hx : x.size ≤ maxLen) {t : Tk} (ht : Go.Proofs.Ytbeacddclphjgaa.look T x = some t) (u : Bool) (hl : T.length ≤ 8) :
    ∃ w', (Instr.mapUpdate 55 (.map (some M)) (.string x) (ev t.wt u)).run Try.prog w = .ok () w' ∧ MapAt w' M (tel T x u) ∧ w.grownBy w' (some M) := by
  obtain ⟨D, h1, h2, h3⟩ := h
  obtain ⟨w', hr, h4, h5⟩ := h1.store keyed9 Try.underlying55 (by simp only [maxLen]; omega) (key_mk hx) (elR_mk t.wt u)
  have hsz := Maps.size_put (k := key x) (h1.tidy keyed9) (el t.wt u)
  rw [(h3 x).1, ht] at hsz
  simp at hsz
  have hsz2 : Maps.size (D.put (key x) (el t.wt u)) = (tel T x u).length := by rw [hsz, h2, tel_len]
  refine ⟨w', hr, ⟨_, by have := tight h4; rwa [hsz2] at this, hsz2, fun y => ?_⟩, h5.grown⟩
  rw [look_tel]
  by_cases e : y = x
  · subst e
    rw [if_pos rfl, Maps.has_put_same h1.isMap (key_lit y), Maps.atKey_put_same h1.isMap (key_lit y), ht]
    exact ⟨rfl, rfl⟩
  · have hne : key y ≠ key x := fun h => e (key_inj h)
    rw [if_neg e, Maps.has_put_other hne, Maps.atKey_put_other hne]
    exact h3 y

/-- 'm[x] = s' of a track that is not there. -/
theorem MapAt.add {w : World} {M : Nat} {T : List Tk} (h : MapAt w M T) {t : Tk} (hx : t.name.size ≤ maxLen) (ht : Go.Proofs.Ytbeacddclphjgaa.look T t.name = none) (hl : T.length ≤ 8) :
    ∃ w', (Instr.mapUpdate 55 (.map (some M)) (.string t.name) (ev t.wt t.up)).run Try.prog w = .ok () w' ∧ MapAt w' M (T ++ [t]) ∧ w.grownBy w' (some M) := by
  obtain ⟨D, h1, h2, h3⟩ := h
  obtain ⟨w', hr, h4, h5⟩ := h1.store keyed9 Try.underlying55 (by simp only [maxLen]; omega) (key_mk hx) (elR_mk t.wt t.up)
  have hsz := Maps.size_put (k := key t.name) (h1.tidy keyed9) (el t.wt t.up)
  rw [(h3 t.name).1, ht] at hsz
  simp at hsz
  have hsz2 : Maps.size (D.put (key t.name) (el t.wt t.up)) = (T ++ [t]).length := by rw [hsz, h2]; simp
  refine ⟨w', hr, ⟨_, by have := tight h4; rwa [hsz2] at this, hsz2, fun y => ?_⟩, h5.grown⟩
  rw [look_app]
  by_cases e : t.name = y
  · subst e
    rw [ht, Maps.has_put_same h1.isMap (key_lit _), Maps.atKey_put_same h1.isMap (key_lit _)]
    simp [ld]
  · have hne : key y ≠ key t.name := fun h => e (key_inj h).symm
    rw [Maps.has_put_other hne, Maps.atKey_put_other hne, (h3 y).1, (h3 y).2]
    cases Go.Proofs.Ytbeacddclphjgaa.look T y with
    | none => simp [e]
    | some s => simp

/-! ## A set -/
/-- What block B is: a set, its map in block M. -/
structure SetAt (w : World) (B M : Nat) (b : Int) (T : List Tk) : Prop where
  ne : B ≠ M
  obj : w.heap[B]? = some (.cells #[.int .i64 b, .map (some M)] 57 (0, 0))
  map : MapAt w M T

theorem SetAt.lt {w : World} {B M : Nat} {b : Int} {T : List Tk} (h : SetAt w B M b T) : B < w.heap.size := (Array.getElem?_eq_some_iff.1 h.obj).1
theorem SetAt.only {w w' : World} {F : Nat → Prop} {B M : Nat} {b : Int} {T : List Tk} (h : SetAt w B M b T) (ho : Only F w w') (hB : ¬ F B) (hM : ¬ F M) : SetAt w' B M b T :=
  ⟨h.ne, (ho.block B h.lt hB).trans h.obj, h.map.of_block (ho.block M h.map.lt hM)⟩
theorem SetAt.below {w w' : World} {B M : Nat} {b : Int} {T : List Tk} (h : SetAt w B M b T) (hb : Below w.heap.size w w') : SetAt w' B M b T :=
  h.only (F := fun _ => False) (Only.of_below hb) (fun h => h) (fun h => h)
theorem SetAt.c0 {w : World} {B M : Nat} {b : Int} {T : List Tk} (h : SetAt w B M b T) : w.cell? ⟨B, 0, none⟩ = some (.int .i64 b) := by simp [World.cell?, h.obj]
theorem SetAt.c1 {w : World} {B M : Nat} {b : Int} {T : List Tk} (h : SetAt w B M b T) : w.cell? ⟨B, 1, none⟩ = some (.map (some M)) := by simp [World.cell?, h.obj]
theorem SetAt.f0 {w : World} {B M : Nat} {b : Int} {T : List Tk} (h : SetAt w B M b T) : w.frozen? ⟨B, 0, none⟩ = false := by simp [World.frozen?, h.obj]
theorem SetAt.remap {w w' : World} {B M : Nat} {b : Int} {T T' : List Tk} (h : SetAt w B M b T) (hg : w.grownBy w' (some M)) (hT : MapAt w' M T') : SetAt w' B M b T' ∧ Only (fun i => i = M) w w' := by
  have ho : Only (fun i => i = M) w w' := Only.of_grown hg fun i hi => by injection hi with hi; exact hi.symm
  exact ⟨⟨h.ne, (ho.block B h.lt h.ne).trans h.obj, hT⟩, ho⟩
end Go.Proofs.Ytbeacddclphjgaa
