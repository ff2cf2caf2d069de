/-
  An advertisement of the reference's in memory; an append by its run in a region that draws.
-/
import Derived.Test.YthhomfchoomelaaRdbad
import Derived.Deep.RegionLaw
namespace Go.Proofs.Ythhomfchoomelaa
open Go.RowKit
set_option linter.unusedVariables false
set_option maxRecDepth 10000

/-- An append by its run, at a step of a region that draws. -/
theorem step_append_run {ops : Array Oper} {o : Oper} {a : Act} {w w' : World} {K : Act → World → Prop} {Q : Exit → Act → World → Prop} {E : Prop} (hgd : o.guard = none) (s x : Operand) (sT xT : TypeId)
    (ho : o.op = .call { callee := .builtin .append, args := #[s, x], argTypes := #[sT, xT] }) {v u v' : Value} (hs : a.eval s = v) (hx : a.eval x = u)
    (ty : TypeId) (hty : o.type = ty) (hr : (Builtin.append_ #[sT, xT] ty #[v, u]).run Try.prog w = .ok v' w') (hK : K (a.put o.dst v') w') :
    if Region.wanted o (yielded ops a.tmps) = true then Oper.wp Try.prog o a w K Q else E := by
  have hw : Region.wanted o (yielded ops a.tmps) = true := by simp [Region.wanted, hgd]
  rw [if_pos hw]
  subst hty
  unfold Oper.wp execOp
  simp only [ho, resolve, invoke, builtin, Sem.run_bind, Sem.run_pure, Result.andThen_ok, List.map_toArray, List.map_cons, List.map_nil, hs, hx, hr]
  exact hK

theorem below4ad {B : Nat} {w W : World} (h : Below B w W) {N : Nat} (hN : B ≤ N) (hW : B ≤ W.heap.size) {v0 v1 v2 v3 : Value} {o : Obj} :
    Below B w (((((W.setCell ⟨N, 0, none⟩ v0).setCell ⟨N, 1, none⟩ v1).setCell ⟨N, 2, none⟩ v2).setCell ⟨N, 3, none⟩ v3).alloc o).drew :=
  below_drew ((below4 h hN).alloc (by simpa using hW) o)
/-- An advertisement of the reference's lies in a block of the call's own. -/
def BoxD (W : World) (B : Nat) (i p e : Int) (v : Value) : Prop := W.heap[B]? = some (.cells #[.int .i64 i, .int .i64 p, .int .i64 e, v] 24 (0, 0))
section
variable {W W' : World} {B : Nat} {i p e : Int} {v : Value}
theorem BoxD.lt (h : BoxD W B i p e v) : B < W.heap.size := (Array.getElem?_eq_some_iff.1 h).1
theorem BoxD.cells (h : BoxD W B i p e v) : W.cell? ⟨B, 0, none⟩ = some (.int .i64 i) ∧ W.cell? ⟨B, 1, none⟩ = some (.int .i64 p) ∧ W.cell? ⟨B, 2, none⟩ = some (.int .i64 e) ∧ W.cell? ⟨B, 3, none⟩ = some v := by
  simp [World.cell?, show W.heap[B]? = _ from h]
theorem BoxD.free (h : BoxD W B i p e v) : Free W B := fun o => by simp [World.frozen?, show W.heap[B]? = _ from h]
theorem BoxD.new (W : World) (i p e : Int) (v : Value) : BoxD (W.alloc (.cells #[.int .i64 i, .int .i64 p, .int .i64 e, v] 24)) W.heap.size i p e v := World.alloc_heap_new W _
theorem BoxD.kept {row : Option Nat} (h : BoxD W B i p e v) (hg : W.grownBy W' row) (hne : some B ≠ row) : BoxD W' B i p e v := (hg.block B h.lt hne).trans h
theorem BoxD.alloc (h : BoxD W B i p e v) (o : Obj) : BoxD (W.alloc o) B i p e v := h.kept (World.grownBy_alloc W o none) (by simp)
theorem BoxD.below {C : Nat} (h : BoxD W B i p e v) (hb : Below C W W') (hB : B < C) : BoxD W' B i p e v := (hb.block B hB).trans h
theorem BoxD.set (v' : Value) (h : BoxD W B i p e v) : BoxD (W.setCell ⟨B, 3, none⟩ v') B i p e v' := by
  obtain ⟨hlt, hk⟩ := Array.getElem?_eq_some_iff.1 h
  show (W.heap.modify B _)[B]? = _
  rw [Array.getElem?_eq_getElem (by rw [Array.size_modify]; exact hlt), Array.getElem_modify_self, hk]
  rfl
theorem BoxD.not_row (h : BoxD W B i p e v) {t : TypeId} (hte : 24 ≠ t) {base size k : Nat} {u : Value} {xs : List Value} (hr : W.ownsRow base t size u k xs) : some B ≠ u.ownBlock := by
  rcases hr.2 with ⟨rfl, _⟩ | ⟨g, cap, cur, rfl, _, hgb, _⟩
  · simp [Value.ownBlock]
  · intro e'
    obtain rfl : B = g := by simpa [Value.ownBlock] using e'
    have := (show W.heap[B]? = _ from h).symm.trans hgb
    simp at this
    exact hte this.2
theorem holdsD_own {β : Type} (n₀ B : Nat) (i p e : Int) (t : TypeId) (size : Nat) (k : β → Nat) (f : β → List Value) : Go.Own (fun s W => ∃ v, BoxD W B i p e v ∧ W.ownsRow n₀ t size v (k s) (f s)) := by
  rintro s X Y row ⟨v, hv, hr⟩ hg hrow
  refine ⟨v, hv.kept hg (fun e' => ?_), hr.kept hg ?_⟩
  · obtain ⟨o, ho, hc⟩ := hrow B e'.symm
    rw [show X.heap[B]? = _ from hv] at ho; cases ho; cases hc
  · rcases hr.2 with ⟨rfl, _⟩ | ⟨g, cap, cur, rfl, _, hgb, _⟩
    · exact .inl rfl
    · refine .inr fun e' => ?_
      obtain ⟨o, ho, hc⟩ := hrow g (by simpa [Value.ownBlock] using e'.symm)
      rw [hgb] at ho; cases ho; cases hc
theorem BoxD.appended {w1 : World} {n₀ : Nat} {t : TypeId} {size : Nat} {v' : Value} {k m : Nat} {xs ys : List Value} {tmp : Obj}
    (hv : BoxD W B i p e v) (hte : 24 ≠ t) (hrow : W.ownsRow n₀ t size v k xs) (hn₀ : n₀ ≤ W.heap.size) (hB : n₀ ≤ B)
    (hown' : w1.ownsRow n₀ t size v' m ys) (hgrow : (W.alloc tmp).grownBy w1 v.ownBlock) :
    BoxD w1 B i p e v ∧ BoxD (w1.setCell ⟨B, 3, none⟩ v') B i p e v' ∧ (w1.setCell ⟨B, 3, none⟩ v').ownsRow n₀ t size v' m ys ∧ KeepsOthers W (w1.setCell ⟨B, 3, none⟩ v') ∧ Below n₀ W (w1.setCell ⟨B, 3, none⟩ v') ∧ (∀ C, C < W.heap.size → C ≠ B → some C ≠ v.ownBlock → (w1.setCell ⟨B, 3, none⟩ v').heap[C]? = W.heap[C]?) := by
  have hv1 : BoxD w1 B i p e v := (hv.alloc tmp).kept hgrow (hv.not_row hte hrow)
  refine ⟨hv1, hv1.set v', hown'.kept (grown_set w1 B 3 v') (.inr (hv1.not_row hte hown').symm), ?_, ?_, ?_⟩
  · refine ((KeepsOthers.alloc W tmp).trans (KeepsOthers.of_grownBy hgrow fun j o ej hj => ?_)).trans (KeepsOthers.setCell _ _ _)
    rcases (hrow.alloc tmp).2 with ⟨rfl, _⟩ | ⟨g, cap, cur, rfl, _, hgb, _⟩
    · simp [Value.ownBlock] at ej
    · obtain rfl : g = j := by simpa [Value.ownBlock] using ej
      rw [hgb] at hj; cases hj; rfl
  · refine (((Below.refl n₀ W).alloc hn₀ tmp).grown hgrow (by simp; omega) fun j ej => ?_).setCell (p := ⟨B, 3, none⟩) hB v'
    rcases hrow.2 with ⟨rfl, _⟩ | ⟨g, cap, cur, rfl, hb, _, _⟩
    · simp [Value.ownBlock] at ej
    · obtain rfl : g = j := by simpa [Value.ownBlock] using ej
      exact hb
  · intro C hC hCB hne
    refine ((grown_set w1 B 3 v').block C ?_ (by simpa using hCB)).trans ((hgrow.block C (by simp; omega) hne).trans (heap_alloc_old W tmp hC))
    have h1 := hgrow.size
    simp at h1
    omega
end


end Go.Proofs.Ythhomfchoomelaa
