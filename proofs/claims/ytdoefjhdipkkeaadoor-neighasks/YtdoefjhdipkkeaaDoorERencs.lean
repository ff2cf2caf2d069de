/-
  What outriderref02.Encode does.
-/
import Derived.Test.YtdoefjhdipkkeaaDoorEEnc
import Derived.Maps.AppendAt
import Derived.Lib.AppendStr
import Derived.Deep.LoopGhost
namespace Go.Proofs.YtdoefjhdipkkeaaDoor.E
open Go.RowKit
set_option linter.unusedVariables false

/-- The bytes zs lie in a row of the call's own. -/
def Own (w : World) (B : Nat) (v : Value) (zs : List Int) : Prop := w.ownsRow B 5 1 v zs.length (zs.map (Value.int .u8))

theorem Own.alloc {w : World} {B : Nat} {v : Value} {zs : List Int} (h : Own w B v zs) (o : Obj) : Own (w.alloc o) B v zs := World.ownsRow.alloc h o
theorem Own.none_ (w : World) (B : Nat) : Own w B (.slice none 0 0) [] := World.ownsRow_nil w B 5 1

theorem Own.part {w : World} {B : Nat} {v : Value} {zs : List Int} (h : Own w B v zs) (hz : Byt zs) : ∃ A c, v = .slice A zs.length c ∧ Part w ⟨A, zs.length, c, zs⟩ := by
  rcases h.2 with ⟨rfl, h0⟩ | ⟨g, cap, cur, rfl, _, hg, hnc, _, _, _⟩
  · have : zs = [] := List.eq_nil_of_length_eq_zero h0
    subst this
    exact ⟨none, 0, rfl, Part.gone rfl⟩
  · refine ⟨_, cap, rfl, rfl, hnc, hz, fun _ => ⟨g, 0, rfl, fun j hj => ?_⟩⟩
    have hj' : j < zs.length := hj
    have := World.ownsRow.cells h (g := g) rfl j (.int .u8 (zs[j]?.getD 0)) (by simp [hj'])
    rw [← this]
    congr 1
    unfold Addr.add
    by_cases h0 : j = 0 <;> simp [h0]

/-- Cells that are there appended to what the call has gathered. -/
theorem append_cells (w : World) (B : Nat) (v : Value) (zs : List Int) (g m c : Nat) (bs : List Int) (h : Own w B v zs) (hm : bs.length = m) (hc : ∀ j u, (bs.map (Value.int .u8))[j]? = some u → w.cell? ((⟨g, 0, none⟩ : Addr).add j) = some u)
    (hB : B ≤ w.heap.size) (hl : zs.length + m ≤ 140737488355328) (ty : TypeId) :
    ∃ v' w', (Builtin.append_ #[26, 26] ty #[v, .slice (some ⟨g, 0, none⟩) m c]).run Tryd.prog w = .ok v' w' ∧ Own w' B v' (zs ++ bs) ∧ Below B w w' := by
  obtain ⟨i0, hi, hz0, hz1, hz2⟩ := info_parts info5
  obtain ⟨v', w', hr, ho, hg, _, _⟩ := run_append_own_at (P := Tryd.prog) w B 26 ty 5 i0 (.int .u8 0) 1 1 Tryd.underlying26 hi hz0 hz1 hz2 rfl (by omega) v zs.length (zs.map (Value.int .u8)) h ⟨g, 0, none⟩ m c (bs.map (Value.int .u8)) (by simp; omega) hc
    (by intro u hu; simp at hu; obtain ⟨x, _, rfl⟩ := hu; rfl) (by simp only [maxLen]; omega) (by omega) hB
  refine ⟨v', w', hr, ?_, (Below.refl _ _).grown hg hB (fun k hk => (World.ownsRow.lt h k hk).1)⟩
  unfold Own
  rw [List.length_append, List.map_append, hm]
  exact ho
/-- A text appended. -/
theorem append_text (w : World) (B : Nat) (v : Value) (zs : List Int) (s : ByteArray) (h : Own w B v zs) (hB : B ≤ w.heap.size) (hl : zs.length + s.size ≤ 140737488355328) (ty : TypeId) :
    ∃ v' w', (Builtin.append_ #[26, 9] ty #[v, .string s]).run Tryd.prog w = .ok v' w' ∧ Own w' B v' (zs ++ bts s) ∧ Below B w w' := by
  obtain ⟨i0, hi, hz0, hz1, hz2⟩ := info_parts info5
  obtain ⟨v', w', hr, ho, hg, _⟩ := Lib.run_append_own_string (P := Tryd.prog) w B 26 9 ty 5 i0 Tryd.underlying26 Tryd.underlying9 hi hz0 hz1 hz2 v zs.length (zs.map (Value.int .u8)) h s (by simp only [maxLen]; omega) hl hB
  refine ⟨v', w', hr, ?_, (Below.refl _ _).grown hg hB (fun k hk => (World.ownsRow.lt h k hk).1)⟩
  unfold Own
  rw [List.length_append, List.map_append, bts_len]
  have e : (bts s).map (Value.int .u8) = Lib.strCells s := by simp [bts, Lib.strCells]
  rw [e]
  exact ho

end Go.Proofs.YtdoefjhdipkkeaaDoor.E

namespace Go.Proofs.YtdoefjhdipkkeaaDoor.E
open Go.RowKit
set_option linter.unusedVariables false

/-- What holds ahead of each round of a loop that gathers six bytes. -/
def ReRel (w0 : World) (B : Nat) (pre xs : List Int) (gg : Nat) (v i : Value) (wr : World) : Prop :=
  ∃ k : Nat, k + gg = 6 ∧ i = .int .i64 k ∧ Own wr B v (pre ++ xs.take k) ∧ Below B w0 wr
theorem cell_new (w : World) (x : Int) (t : TypeId) : ∀ j u, ([x].map (Value.int .u8))[j]? = some u → (w.alloc (.cells #[.int .u8 x] t)).cell? ((⟨w.heap.size, 0, none⟩ : Addr).add j) = some u := by
  intro j u hu
  match j, hu with
  | 0, hu => simp at hu; subst hu; simp [go_sem, Addr.add]
  | j + 1, hu => simp at hu

/-- An append by its run. -/
theorem wpList_append_run {ops : Array Oper} {rest : List Oper} {o : Oper} {a : Act} {w w' : World} {Q : Exit → Act → World → Prop} (hgd : o.guard = none) (s x : Operand) (sT xT : TypeId)
    (ho : o.op = .call { callee := .builtin .append, args := #[s, x], argTypes := #[sT, xT] }) {v u v' : Value} (hs : a.eval s = v) (hx : a.eval x = u)
    (ty : TypeId) (hty : o.type = ty) (hr : (Builtin.append_ #[sT, xT] ty #[v, u]).run Tryd.prog w = .ok v' w') (k : wpList Tryd.prog ops Q rest (a.put o.dst v') w') : wpList Tryd.prog ops Q (o :: rest) a w := by
  subst hty
  refine wpList_plain hgd fun K hK => ?_
  unfold Oper.wp execOp
  simp only [ho, resolve, invoke, builtin, Sem.run_bind, Sem.run_pure, Result.andThen_ok, List.map_toArray, List.map_cons, List.map_nil, hs, hx, hr]
  exact hK _ _ k
theorem cell_new2 (w : World) (x y : Int) (t : TypeId) : ∀ j u, ([x, y].map (Value.int .u8))[j]? = some u → (w.alloc (.cells #[.int .u8 x, .int .u8 y] t)).cell? ((⟨w.heap.size, 0, none⟩ : Addr).add j) = some u := by
  intro j u hu
  match j, hu with
  | 0, hu => simp at hu; subst hu; simp [go_sem, Addr.add]
  | 1, hu => simp at hu; subst hu; simp [go_sem, Addr.add]
  | j + 2, hu => simp at hu
/-- A slice with such bytes is handed back. -/
def EncIs (n : Nat) (bs : List Int) (w : World) (e : Ending) (w' : World) : Prop := ∃ A c, e = .returned (.tuple #[.slice A n c, .int .i64 0]) ∧ Part w' ⟨A, n, c, bs⟩ ∧ Below w.heap.size w w'
theorem enc_is {w w0 w' : World} {B n : Nat} {v : Value} {zs bs : List Int} (h : Own w' B v zs) (hb : Below B w0 w') {o : Obj} (hw : w0 = w.alloc o) (hB : B = w.heap.size + 1) (hz : zs = bs ∧ Byt bs) (hn : bs.length = n) : EncIs n bs w (.returned (.tuple #[v, .int .i64 0])) w' := by
  obtain ⟨rfl, hy⟩ := hz
  subst hw hB hn
  obtain ⟨A, c, rfl, hp⟩ := h.part hy
  exact ⟨A, c, rfl, hp, ((Below.refl _ _).alloc (Nat.le_refl _) _).trans (hb.mono (Nat.le_succ _))⟩

end Go.Proofs.YtdoefjhdipkkeaaDoor.E

namespace Go.Proofs.YtdoefjhdipkkeaaDoor.E
open Go.RowKit
set_option maxRecDepth 10000
set_option linter.unusedVariables false

set_option maxHeartbeats 2000000 in
/-- outriderref02.Encode. -/
theorem rencode_yes (a0 a1 a2 a3 a4 a5 a6 a7 a8 a9 a10 a11 t : Int) (s : ByteArray) (w : World) (q0 : 0 ≤ a0 ∧ a0 ≤ 255) (q1 : 0 ≤ a1 ∧ a1 ≤ 255) (q2 : 0 ≤ a2 ∧ a2 ≤ 255) (q3 : 0 ≤ a3 ∧ a3 ≤ 255) (q4 : 0 ≤ a4 ∧ a4 ≤ 255) (q5 : 0 ≤ a5 ∧ a5 ≤ 255) (q6 : 0 ≤ a6 ∧ a6 ≤ 255) (q7 : 0 ≤ a7 ∧ a7 ≤ 255) (q8 : 0 ≤ a8 ∧ a8 ≤ 255) (q9 : 0 ≤ a9 ∧ a9 ≤ 255) (q10 : 0 ≤ a10 ∧ a10 ≤ 255) (q11 : 0 ≤ a11 ∧ a11 ≤ 255) (h1 : 1536 ≤ t) (h2 : t ≤ 65535) (h3 : s.size ≤ 1500) :
    Calls Tryd.prog 29 #[.agg #[.int .u8 a0, .int .u8 a1, .int .u8 a2, .int .u8 a3, .int .u8 a4, .int .u8 a5, .int .u8 a6, .int .u8 a7, .int .u8 a8, .int .u8 a9, .int .u8 a10, .int .u8 a11, .int .i64 t, .string s]] w (EncIs (14 + s.size) (wire a0 a1 a2 a3 a4 a5 a6 a7 a8 a9 a10 a11 t s) w) := by
  have g1 : decide (t < 1536) = false := by simp; omega
  have g2 : decide (65535 < t) = false := by simp; omega
  have g3 : decide (1514 < (s.size : Int) + 14) = false := by simp; omega
  have HBy := Lib.hid (And.intro (show ([a0, a1, a2, a3, a4, a5, a6, a7, a8, a9, a10, a11] ++ [t / 256, t % 256]) ++ bts s = (wire a0 a1 a2 a3 a4 a5 a6 a7 a8 a9 a10 a11 t s) from rfl) (wire_byt a0 a1 a2 a3 a4 a5 a6 a7 a8 a9 a10 a11 t s q0 q1 q2 q3 q4 q5 q6 q7 q8 q9 q10 q11 h1 h2))
  have HLe := Lib.hid (wire_len a0 a1 a2 a3 a4 a5 a6 a7 a8 a9 a10 a11 t s)
  go_enter Tryd.func29, Tryd.ntmps29
  go_wp2_with fail
  go_loopg [4, 5] 6 (fun gg v i wr => ReRel (w.alloc (.cells #[.int .u8 a0, .int .u8 a1, .int .u8 a2, .int .u8 a3, .int .u8 a4, .int .u8 a5, .int .u8 a6, .int .u8 a7, .int .u8 a8, .int .u8 a9, .int .u8 a10, .int .u8 a11, .int .i64 t, .string s] 36)) (w.heap.size + 1) [] [a0, a1, a2, a3, a4, a5] gg v i wr)
  case atStart => exact ⟨0, rfl, rfl, Own.none_ _ _, Below.refl _ _⟩
  case round =>
    obtain ⟨k, hk, rfl, ho, hbel⟩ := hrel
    have HB := Lib.hid hbel
    clear hbel
    match k, hk, ho with
    | 0, hk, ho =>
      rw [show ((0 : Nat) : Int) = 0 from rfl]
      have ck : wr.cell? ⟨w.heap.size, 0, none⟩ = some (.int .u8 a0) := (HB.out.cell (p := ⟨w.heap.size, 0, none⟩) (by simp)).trans (by simp [go_sem])
      obtain ⟨v', w', hr, ho', hb'⟩ := append_cells (wr.alloc (.cells #[.int .u8 a0] 5)) (w.heap.size + 1) u4 _ wr.heap.size 1 1 [a0] (ho.alloc _) rfl (cell_new _ _ _) (by have := HB.out.size; simp at this ⊢; omega) (by simp) 26
      have HR := Lib.hid (show ReRel (w.alloc (.cells #[.int .u8 a0, .int .u8 a1, .int .u8 a2, .int .u8 a3, .int .u8 a4, .int .u8 a5, .int .u8 a6, .int .u8 a7, .int .u8 a8, .int .u8 a9, .int .u8 a10, .int .u8 a11, .int .i64 t, .string s] 36)) (w.heap.size + 1) [] [a0, a1, a2, a3, a4, a5] 5 v' (.int .i64 1) w' from ⟨1, rfl, rfl, ho', (HB.out.alloc (by have := HB.out.size; simp at this; omega) _).trans hb'⟩)
      have HA := Lib.hid hr
      clear ho ho' hb' hr
      go_wp2_with (at_builtin; (with_reducible refine wpList_append_run ?_ (.tmp 11) (.tmp 16) 26 26 ?_ ?_ ?_ 26 ?_ HA.out ?_); (focus rfl); (focus rfl); (focus rfl); (focus rfl); (focus rfl))
      go_roundg 5
      case measure => omega
      case rel => exact HR.out
    | 1, hk, ho =>
      rw [show ((1 : Nat) : Int) = 1 from rfl]
      have ck : wr.cell? ⟨w.heap.size, 1, none⟩ = some (.int .u8 a1) := (HB.out.cell (p := ⟨w.heap.size, 1, none⟩) (by simp)).trans (by simp [go_sem])
      obtain ⟨v', w', hr, ho', hb'⟩ := append_cells (wr.alloc (.cells #[.int .u8 a1] 5)) (w.heap.size + 1) u4 _ wr.heap.size 1 1 [a1] (ho.alloc _) rfl (cell_new _ _ _) (by have := HB.out.size; simp at this ⊢; omega) (by simp) 26
      have HR := Lib.hid (show ReRel (w.alloc (.cells #[.int .u8 a0, .int .u8 a1, .int .u8 a2, .int .u8 a3, .int .u8 a4, .int .u8 a5, .int .u8 a6, .int .u8 a7, .int .u8 a8, .int .u8 a9, .int .u8 a10, .int .u8 a11, .int .i64 t, .string s] 36)) (w.heap.size + 1) [] [a0, a1, a2, a3, a4, a5] 4 v' (.int .i64 2) w' from ⟨2, rfl, rfl, ho', (HB.out.alloc (by have := HB.out.size; simp at this; omega) _).trans hb'⟩)
      have HA := Lib.hid hr
      clear ho ho' hb' hr
      go_wp2_with (at_builtin; (with_reducible refine wpList_append_run ?_ (.tmp 11) (.tmp 16) 26 26 ?_ ?_ ?_ 26 ?_ HA.out ?_); (focus rfl); (focus rfl); (focus rfl); (focus rfl); (focus rfl))
      go_roundg 4
      case measure => omega
      case rel => exact HR.out
    | 2, hk, ho =>
      rw [show ((2 : Nat) : Int) = 2 from rfl]
      have ck : wr.cell? ⟨w.heap.size, 2, none⟩ = some (.int .u8 a2) := (HB.out.cell (p := ⟨w.heap.size, 2, none⟩) (by simp)).trans (by simp [go_sem])
      obtain ⟨v', w', hr, ho', hb'⟩ := append_cells (wr.alloc (.cells #[.int .u8 a2] 5)) (w.heap.size + 1) u4 _ wr.heap.size 1 1 [a2] (ho.alloc _) rfl (cell_new _ _ _) (by have := HB.out.size; simp at this ⊢; omega) (by simp) 26
      have HR := Lib.hid (show ReRel (w.alloc (.cells #[.int .u8 a0, .int .u8 a1, .int .u8 a2, .int .u8 a3, .int .u8 a4, .int .u8 a5, .int .u8 a6, .int .u8 a7, .int .u8 a8, .int .u8 a9, .int .u8 a10, .int .u8 a11, .int .i64 t, .string s] 36)) (w.heap.size + 1) [] [a0, a1, a2, a3, a4, a5] 3 v' (.int .i64 3) w' from ⟨3, rfl, rfl, ho', (HB.out.alloc (by have := HB.out.size; simp at this; omega) _).trans hb'⟩)
      have HA := Lib.hid hr
      clear ho ho' hb' hr
      go_wp2_with (at_builtin; (with_reducible refine wpList_append_run ?_ (.tmp 11) (.tmp 16) 26 26 ?_ ?_ ?_ 26 ?_ HA.out ?_); (focus rfl); (focus rfl); (focus rfl); (focus rfl); (focus rfl))
      go_roundg 3
      case measure => omega
      case rel => exact HR.out
    | 3, hk, ho =>
      rw [show ((3 : Nat) : Int) = 3 from rfl]
      have ck : wr.cell? ⟨w.heap.size, 3, none⟩ = some (.int .u8 a3) := (HB.out.cell (p := ⟨w.heap.size, 3, none⟩) (by simp)).trans (by simp [go_sem])
      obtain ⟨v', w', hr, ho', hb'⟩ := append_cells (wr.alloc (.cells #[.int .u8 a3] 5)) (w.heap.size + 1) u4 _ wr.heap.size 1 1 [a3] (ho.alloc _) rfl (cell_new _ _ _) (by have := HB.out.size; simp at this ⊢; omega) (by simp) 26
      have HR := Lib.hid (show ReRel (w.alloc (.cells #[.int .u8 a0, .int .u8 a1, .int .u8 a2, .int .u8 a3, .int .u8 a4, .int .u8 a5, .int .u8 a6, .int .u8 a7, .int .u8 a8, .int .u8 a9, .int .u8 a10, .int .u8 a11, .int .i64 t, .string s] 36)) (w.heap.size + 1) [] [a0, a1, a2, a3, a4, a5] 2 v' (.int .i64 4) w' from ⟨4, rfl, rfl, ho', (HB.out.alloc (by have := HB.out.size; simp at this; omega) _).trans hb'⟩)
      have HA := Lib.hid hr
      clear ho ho' hb' hr
      go_wp2_with (at_builtin; (with_reducible refine wpList_append_run ?_ (.tmp 11) (.tmp 16) 26 26 ?_ ?_ ?_ 26 ?_ HA.out ?_); (focus rfl); (focus rfl); (focus rfl); (focus rfl); (focus rfl))
      go_roundg 2
      case measure => omega
      case rel => exact HR.out
    | 4, hk, ho =>
      rw [show ((4 : Nat) : Int) = 4 from rfl]
      have ck : wr.cell? ⟨w.heap.size, 4, none⟩ = some (.int .u8 a4) := (HB.out.cell (p := ⟨w.heap.size, 4, none⟩) (by simp)).trans (by simp [go_sem])
      obtain ⟨v', w', hr, ho', hb'⟩ := append_cells (wr.alloc (.cells #[.int .u8 a4] 5)) (w.heap.size + 1) u4 _ wr.heap.size 1 1 [a4] (ho.alloc _) rfl (cell_new _ _ _) (by have := HB.out.size; simp at this ⊢; omega) (by simp) 26
      have HR := Lib.hid (show ReRel (w.alloc (.cells #[.int .u8 a0, .int .u8 a1, .int .u8 a2, .int .u8 a3, .int .u8 a4, .int .u8 a5, .int .u8 a6, .int .u8 a7, .int .u8 a8, .int .u8 a9, .int .u8 a10, .int .u8 a11, .int .i64 t, .string s] 36)) (w.heap.size + 1) [] [a0, a1, a2, a3, a4, a5] 1 v' (.int .i64 5) w' from ⟨5, rfl, rfl, ho', (HB.out.alloc (by have := HB.out.size; simp at this; omega) _).trans hb'⟩)
      have HA := Lib.hid hr
      clear ho ho' hb' hr
      go_wp2_with (at_builtin; (with_reducible refine wpList_append_run ?_ (.tmp 11) (.tmp 16) 26 26 ?_ ?_ ?_ 26 ?_ HA.out ?_); (focus rfl); (focus rfl); (focus rfl); (focus rfl); (focus rfl))
      go_roundg 1
      case measure => omega
      case rel => exact HR.out
    | 5, hk, ho =>
      rw [show ((5 : Nat) : Int) = 5 from rfl]
      have ck : wr.cell? ⟨w.heap.size, 5, none⟩ = some (.int .u8 a5) := (HB.out.cell (p := ⟨w.heap.size, 5, none⟩) (by simp)).trans (by simp [go_sem])
      obtain ⟨v', w', hr, ho', hb'⟩ := append_cells (wr.alloc (.cells #[.int .u8 a5] 5)) (w.heap.size + 1) u4 _ wr.heap.size 1 1 [a5] (ho.alloc _) rfl (cell_new _ _ _) (by have := HB.out.size; simp at this ⊢; omega) (by simp) 26
      have HR := Lib.hid (show ReRel (w.alloc (.cells #[.int .u8 a0, .int .u8 a1, .int .u8 a2, .int .u8 a3, .int .u8 a4, .int .u8 a5, .int .u8 a6, .int .u8 a7, .int .u8 a8, .int .u8 a9, .int .u8 a10, .int .u8 a11, .int .i64 t, .string s] 36)) (w.heap.size + 1) [] [a0, a1, a2, a3, a4, a5] 0 v' (.int .i64 6) w' from ⟨6, rfl, rfl, ho', (HB.out.alloc (by have := HB.out.size; simp at this; omega) _).trans hb'⟩)
      have HA := Lib.hid hr
      clear ho ho' hb' hr
      go_wp2_with (at_builtin; (with_reducible refine wpList_append_run ?_ (.tmp 11) (.tmp 16) 26 26 ?_ ?_ ?_ 26 ?_ HA.out ?_); (focus rfl); (focus rfl); (focus rfl); (focus rfl); (focus rfl))
      go_roundg 0
      case measure => omega
      case rel => exact HR.out
    | 6, hk, ho =>
      rw [show ((6 : Nat) : Int) = 6 from rfl]
      have HO := Lib.hid (show Own wr (w.heap.size + 1) u4 [a0, a1, a2, a3, a4, a5] from ho)
      clear ho
      go_wp2
      go_loopg [4, 6] 6 (fun gg v i wr => ReRel (w.alloc (.cells #[.int .u8 a0, .int .u8 a1, .int .u8 a2, .int .u8 a3, .int .u8 a4, .int .u8 a5, .int .u8 a6, .int .u8 a7, .int .u8 a8, .int .u8 a9, .int .u8 a10, .int .u8 a11, .int .i64 t, .string s] 36)) (w.heap.size + 1) [a0, a1, a2, a3, a4, a5] [a6, a7, a8, a9, a10, a11] gg v i wr)
      case atStart => exact ⟨0, rfl, rfl, HO.out, HB.out⟩
      case round =>
        clear HO HB
        obtain ⟨k, hk, rfl, ho, hbel⟩ := hrel
        have HB := Lib.hid hbel
        clear hbel
        match k, hk, ho with
        | 0, hk, ho =>
          rw [show ((0 : Nat) : Int) = 0 from rfl]
          have ck : wr.cell? ⟨w.heap.size, 6, none⟩ = some (.int .u8 a6) := (HB.out.cell (p := ⟨w.heap.size, 6, none⟩) (by simp)).trans (by simp [go_sem])
          obtain ⟨v', w', hr, ho', hb'⟩ := append_cells (wr.alloc (.cells #[.int .u8 a6] 5)) (w.heap.size + 1) u4 _ wr.heap.size 1 1 [a6] (ho.alloc _) rfl (cell_new _ _ _) (by have := HB.out.size; simp at this ⊢; omega) (by simp) 26
          have HR := Lib.hid (show ReRel (w.alloc (.cells #[.int .u8 a0, .int .u8 a1, .int .u8 a2, .int .u8 a3, .int .u8 a4, .int .u8 a5, .int .u8 a6, .int .u8 a7, .int .u8 a8, .int .u8 a9, .int .u8 a10, .int .u8 a11, .int .i64 t, .string s] 36)) (w.heap.size + 1) [a0, a1, a2, a3, a4, a5] [a6, a7, a8, a9, a10, a11] 5 v' (.int .i64 1) w' from ⟨1, rfl, rfl, ho', (HB.out.alloc (by have := HB.out.size; simp at this; omega) _).trans hb'⟩)
          have HA := Lib.hid hr
          clear ho ho' hb' hr
          go_wp2_with (at_builtin; (with_reducible refine wpList_append_run ?_ (.tmp 22) (.tmp 27) 26 26 ?_ ?_ ?_ 26 ?_ HA.out ?_); (focus rfl); (focus rfl); (focus rfl); (focus rfl); (focus rfl))
          go_roundg 5
          case measure => omega
          case rel => exact HR.out
        | 1, hk, ho =>
          rw [show ((1 : Nat) : Int) = 1 from rfl]
          have ck : wr.cell? ⟨w.heap.size, 7, none⟩ = some (.int .u8 a7) := (HB.out.cell (p := ⟨w.heap.size, 7, none⟩) (by simp)).trans (by simp [go_sem])
          obtain ⟨v', w', hr, ho', hb'⟩ := append_cells (wr.alloc (.cells #[.int .u8 a7] 5)) (w.heap.size + 1) u4 _ wr.heap.size 1 1 [a7] (ho.alloc _) rfl (cell_new _ _ _) (by have := HB.out.size; simp at this ⊢; omega) (by simp) 26
          have HR := Lib.hid (show ReRel (w.alloc (.cells #[.int .u8 a0, .int .u8 a1, .int .u8 a2, .int .u8 a3, .int .u8 a4, .int .u8 a5, .int .u8 a6, .int .u8 a7, .int .u8 a8, .int .u8 a9, .int .u8 a10, .int .u8 a11, .int .i64 t, .string s] 36)) (w.heap.size + 1) [a0, a1, a2, a3, a4, a5] [a6, a7, a8, a9, a10, a11] 4 v' (.int .i64 2) w' from ⟨2, rfl, rfl, ho', (HB.out.alloc (by have := HB.out.size; simp at this; omega) _).trans hb'⟩)
          have HA := Lib.hid hr
          clear ho ho' hb' hr
          go_wp2_with (at_builtin; (with_reducible refine wpList_append_run ?_ (.tmp 22) (.tmp 27) 26 26 ?_ ?_ ?_ 26 ?_ HA.out ?_); (focus rfl); (focus rfl); (focus rfl); (focus rfl); (focus rfl))
          go_roundg 4
          case measure => omega
          case rel => exact HR.out
        | 2, hk, ho =>
          rw [show ((2 : Nat) : Int) = 2 from rfl]
          have ck : wr.cell? ⟨w.heap.size, 8, none⟩ = some (.int .u8 a8) := (HB.out.cell (p := ⟨w.heap.size, 8, none⟩) (by simp)).trans (by simp [go_sem])
          obtain ⟨v', w', hr, ho', hb'⟩ := append_cells (wr.alloc (.cells #[.int .u8 a8] 5)) (w.heap.size + 1) u4 _ wr.heap.size 1 1 [a8] (ho.alloc _) rfl (cell_new _ _ _) (by have := HB.out.size; simp at this ⊢; omega) (by simp) 26
          have HR := Lib.hid (show ReRel (w.alloc (.cells #[.int .u8 a0, .int .u8 a1, .int .u8 a2, .int .u8 a3, .int .u8 a4, .int .u8 a5, .int .u8 a6, .int .u8 a7, .int .u8 a8, .int .u8 a9, .int .u8 a10, .int .u8 a11, .int .i64 t, .string s] 36)) (w.heap.size + 1) [a0, a1, a2, a3, a4, a5] [a6, a7, a8, a9, a10, a11] 3 v' (.int .i64 3) w' from ⟨3, rfl, rfl, ho', (HB.out.alloc (by have := HB.out.size; simp at this; omega) _).trans hb'⟩)
          have HA := Lib.hid hr
          clear ho ho' hb' hr
          go_wp2_with (at_builtin; (with_reducible refine wpList_append_run ?_ (.tmp 22) (.tmp 27) 26 26 ?_ ?_ ?_ 26 ?_ HA.out ?_); (focus rfl); (focus rfl); (focus rfl); (focus rfl); (focus rfl))
          go_roundg 3
          case measure => omega
          case rel => exact HR.out
        | 3, hk, ho =>
          rw [show ((3 : Nat) : Int) = 3 from rfl]
          have ck : wr.cell? ⟨w.heap.size, 9, none⟩ = some (.int .u8 a9) := (HB.out.cell (p := ⟨w.heap.size, 9, none⟩) (by simp)).trans (by simp [go_sem])
          obtain ⟨v', w', hr, ho', hb'⟩ := append_cells (wr.alloc (.cells #[.int .u8 a9] 5)) (w.heap.size + 1) u4 _ wr.heap.size 1 1 [a9] (ho.alloc _) rfl (cell_new _ _ _) (by have := HB.out.size; simp at this ⊢; omega) (by simp) 26
          have HR := Lib.hid (show ReRel (w.alloc (.cells #[.int .u8 a0, .int .u8 a1, .int .u8 a2, .int .u8 a3, .int .u8 a4, .int .u8 a5, .int .u8 a6, .int .u8 a7, .int .u8 a8, .int .u8 a9, .int .u8 a10, .int .u8 a11, .int .i64 t, .string s] 36)) (w.heap.size + 1) [a0, a1, a2, a3, a4, a5] [a6, a7, a8, a9, a10, a11] 2 v' (.int .i64 4) w' from ⟨4, rfl, rfl, ho', (HB.out.alloc (by have := HB.out.size; simp at this; omega) _).trans hb'⟩)
          have HA := Lib.hid hr
          clear ho ho' hb' hr
          go_wp2_with (at_builtin; (with_reducible refine wpList_append_run ?_ (.tmp 22) (.tmp 27) 26 26 ?_ ?_ ?_ 26 ?_ HA.out ?_); (focus rfl); (focus rfl); (focus rfl); (focus rfl); (focus rfl))
          go_roundg 2
          case measure => omega
          case rel => exact HR.out
        | 4, hk, ho =>
          rw [show ((4 : Nat) : Int) = 4 from rfl]
          have ck : wr.cell? ⟨w.heap.size, 10, none⟩ = some (.int .u8 a10) := (HB.out.cell (p := ⟨w.heap.size, 10, none⟩) (by simp)).trans (by simp [go_sem])
          obtain ⟨v', w', hr, ho', hb'⟩ := append_cells (wr.alloc (.cells #[.int .u8 a10] 5)) (w.heap.size + 1) u4 _ wr.heap.size 1 1 [a10] (ho.alloc _) rfl (cell_new _ _ _) (by have := HB.out.size; simp at this ⊢; omega) (by simp) 26
          have HR := Lib.hid (show ReRel (w.alloc (.cells #[.int .u8 a0, .int .u8 a1, .int .u8 a2, .int .u8 a3, .int .u8 a4, .int .u8 a5, .int .u8 a6, .int .u8 a7, .int .u8 a8, .int .u8 a9, .int .u8 a10, .int .u8 a11, .int .i64 t, .string s] 36)) (w.heap.size + 1) [a0, a1, a2, a3, a4, a5] [a6, a7, a8, a9, a10, a11] 1 v' (.int .i64 5) w' from ⟨5, rfl, rfl, ho', (HB.out.alloc (by have := HB.out.size; simp at this; omega) _).trans hb'⟩)
          have HA := Lib.hid hr
          clear ho ho' hb' hr
          go_wp2_with (at_builtin; (with_reducible refine wpList_append_run ?_ (.tmp 22) (.tmp 27) 26 26 ?_ ?_ ?_ 26 ?_ HA.out ?_); (focus rfl); (focus rfl); (focus rfl); (focus rfl); (focus rfl))
          go_roundg 1
          case measure => omega
          case rel => exact HR.out
        | 5, hk, ho =>
          rw [show ((5 : Nat) : Int) = 5 from rfl]
          have ck : wr.cell? ⟨w.heap.size, 11, none⟩ = some (.int .u8 a11) := (HB.out.cell (p := ⟨w.heap.size, 11, none⟩) (by simp)).trans (by simp [go_sem])
          obtain ⟨v', w', hr, ho', hb'⟩ := append_cells (wr.alloc (.cells #[.int .u8 a11] 5)) (w.heap.size + 1) u4 _ wr.heap.size 1 1 [a11] (ho.alloc _) rfl (cell_new _ _ _) (by have := HB.out.size; simp at this ⊢; omega) (by simp) 26
          have HR := Lib.hid (show ReRel (w.alloc (.cells #[.int .u8 a0, .int .u8 a1, .int .u8 a2, .int .u8 a3, .int .u8 a4, .int .u8 a5, .int .u8 a6, .int .u8 a7, .int .u8 a8, .int .u8 a9, .int .u8 a10, .int .u8 a11, .int .i64 t, .string s] 36)) (w.heap.size + 1) [a0, a1, a2, a3, a4, a5] [a6, a7, a8, a9, a10, a11] 0 v' (.int .i64 6) w' from ⟨6, rfl, rfl, ho', (HB.out.alloc (by have := HB.out.size; simp at this; omega) _).trans hb'⟩)
          have HA := Lib.hid hr
          clear ho ho' hb' hr
          go_wp2_with (at_builtin; (with_reducible refine wpList_append_run ?_ (.tmp 22) (.tmp 27) 26 26 ?_ ?_ ?_ 26 ?_ HA.out ?_); (focus rfl); (focus rfl); (focus rfl); (focus rfl); (focus rfl))
          go_roundg 0
          case measure => omega
          case rel => exact HR.out
        | 6, hk, ho =>
          rw [show ((6 : Nat) : Int) = 6 from rfl]
          have ho6 : Own wr (w.heap.size + 1) u4 [a0, a1, a2, a3, a4, a5, a6, a7, a8, a9, a10, a11] := ho
          clear ho
          have c12 : wr.cell? ⟨w.heap.size, 12, none⟩ = some (.int .i64 t) := (HB.out.cell (p := ⟨w.heap.size, 12, none⟩) (by simp)).trans (by simp [go_sem])
          have c13 : wr.cell? ⟨w.heap.size, 13, none⟩ = some (.string s) := (HB.out.cell (p := ⟨w.heap.size, 13, none⟩) (by simp)).trans (by simp [go_sem])
          obtain ⟨v1, w1, hr1, ho1, hb1⟩ := append_cells (wr.alloc (.cells #[.int .u8 (t / 256), .int .u8 (t % 256)] 5)) (w.heap.size + 1) u4 _ wr.heap.size 2 2 [t / 256, t % 256] (ho6.alloc _) rfl (cell_new2 _ _ _ _) (by have := HB.out.size; simp at this ⊢; omega) (by simp) 26
          have HB1 := Lib.hid ((HB.out.alloc (by have := HB.out.size; simp at this; omega) (.cells #[.int .u8 (t / 256), .int .u8 (t % 256)] 5)).trans hb1)
          have c13' : w1.cell? ⟨w.heap.size, 13, none⟩ = some (.string s) := (HB1.out.cell (p := ⟨w.heap.size, 13, none⟩) (by simp)).trans (by simp [go_sem])
          obtain ⟨v2, w2, hr2, ho2, hb2⟩ := append_text w1 (w.heap.size + 1) v1 _ s ho1 (by have := HB1.out.size; simp at this; omega) (by simp; omega) 26
          have HE := Lib.hid (enc_is (w := w) ho2 (HB1.out.trans hb2) rfl (by simp) HBy.out HLe.out)
          have HA1 := Lib.hid hr1
          have HA2 := Lib.hid hr2
          clear ho6 ho1 hb1 ho2 hb2 hr1 hr2
          go_wp2_with (first
            | (at_builtin; (with_reducible refine wpList_append_run ?_ (.tmp 44) (.tmp 53) 26 26 ?_ ?_ ?_ 26 ?_ HA1.out ?_); (focus rfl); (focus rfl); (focus rfl); (focus rfl); (focus rfl))
            | (at_builtin; (with_reducible refine wpList_append_run ?_ (.tmp 55) (.tmp 57) 26 9 ?_ ?_ ?_ 26 ?_ HA2.out ?_); (focus rfl); (focus rfl); (focus rfl); (focus rfl); (focus rfl)))
          go_ret2
          exact HE.out
        | k + 7, hk, ho => omega
    | k + 7, hk, ho => omega


end Go.Proofs.YtdoefjhdipkkeaaDoor.E
