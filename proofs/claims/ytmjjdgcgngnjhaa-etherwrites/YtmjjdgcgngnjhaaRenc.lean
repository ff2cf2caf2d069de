/-
  What the reference's Encode does.
-/
import Derived.Test.YtmjjdgcgngnjhaaApp
namespace Go.Proofs.Ytmjjdgcgngnjhaa
open Go.RowKit
set_option linter.unusedVariables false

/-- What holds ahead of each round of a loop that gathers six bytes. -/
def ReRel (w0 : World) (B : Nat) (pre xs : List Int) (gg : Nat) (v i : Value) (wr : World) : Prop :=
  ∃ k : Nat, k + gg = 6 ∧ i = .int .i64 k ∧ Own wr B v (pre ++ xs.take k) ∧ Below B w0 wr
theorem cell_new (w : World) (x : Int) (t : TypeId) : ∀ j u, ([x].map (Value.int .u8))[j]? = some u → (w.alloc (.cells #[.int .u8 x] t)).cell? ((⟨w.heap.size, 0, none⟩ : Addr).add j) = some u := by
  intro j u hu
  match j, hu with
  | 0, hu => simp at hu; subst hu; simp [go_sem, Addr.add]
  | j + 1, hu => simp at hu

/-- An append by its run. -/
theorem wpList_append_run {ops : Array Oper} {rest : List Oper} {o : Oper} {a : Act} {w w' : World} {Q : Exit → Act → World → Prop} (hgd : o.guard = none) (s x : Operand) (sT xT : TypeId)
    (ho : o.op = .call { callee := .builtin .append, args := #[s, x], argTypes := #[sT, xT] }) {v u v' : Value} (hs : a.eval s = v) (hx : a.eval x = u)
    (ty : TypeId) (hty : o.type = ty) (hr : (Builtin.append_ #[sT, xT] ty #[v, u]).run Try.prog w = .ok v' w') (k : wpList Try.prog ops Q rest (a.put o.dst v') w') : wpList Try.prog ops Q (o :: rest) a w := by
  subst hty
  refine wpList_plain hgd fun K hK => ?_
  unfold Oper.wp execOp
  simp only [ho, resolve, invoke, builtin, Sem.run_bind, Sem.run_pure, Result.andThen_ok, List.map_toArray, List.map_cons, List.map_nil, hs, hx, hr]
  exact hK _ _ k
theorem cell_new2 (w : World) (x y : Int) (t : TypeId) : ∀ j u, ([x, y].map (Value.int .u8))[j]? = some u → (w.alloc (.cells #[.int .u8 x, .int .u8 y] t)).cell? ((⟨w.heap.size, 0, none⟩ : Addr).add j) = some u := by
  intro j u hu
  match j, hu with
  | 0, hu => simp at hu; subst hu; simp [go_sem, Addr.add]
  | 1, hu => simp at hu; subst hu; simp [go_sem, Addr.add]
  | j + 2, hu => simp at hu
/-- A slice with such bytes is handed back. -/
def EncIs (n : Nat) (bs : List Int) (w : World) (e : Ending) (w' : World) : Prop := ∃ A c, e = .returned (.tuple #[.slice A n c, .int .i64 0]) ∧ Part w' ⟨A, n, c, bs⟩ ∧ Below w.heap.size w w'
theorem enc_is {w w0 w' : World} {B n : Nat} {v : Value} {zs bs : List Int} (h : Own w' B v zs) (hb : Below B w0 w') {o : Obj} (hw : w0 = w.alloc o) (hB : B = w.heap.size + 1) (hz : zs = bs ∧ Byt bs) (hn : bs.length = n) : EncIs n bs w (.returned (.tuple #[v, .int .i64 0])) w' := by
  obtain ⟨rfl, hy⟩ := hz
  subst hw hB hn
  obtain ⟨A, c, rfl, hp⟩ := h.part hy
  exact ⟨A, c, rfl, hp, ((Below.refl _ _).alloc (Nat.le_refl _) _).trans (hb.mono (Nat.le_succ _))⟩

end Go.Proofs.Ytmjjdgcgngnjhaa
