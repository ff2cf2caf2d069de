/-
  A wheel of the law's own, behind a script of calls.
-/
import Derived.Test.YthddphgeepgidaaFrame
import Derived.Test.YthddphgeepgidaaAlive
import Derived.Test.YthddphgeepgidaaNext
namespace Go.Proofs.Ythddphgeepgidaa
open Go.RowKit Go.Maps
set_option linter.unusedVariables false
set_option linter.unusedSimpArgs false
set_option maxRecDepth 10000

/-- What a script leaves. -/
def runS (l : List Opr) : St := l.foldl (fun s o => stp s o.k o.i o.a) ⟨0, []⟩
theorem runS_next (l : List Opr) {j : Nat} (h : j < l.length) : runS (l.take (j + 1)) = stp (runS (l.take j)) (l[j]!).k (l[j]!).i (l[j]!).a := by
  rw [List.take_add_one, List.getElem?_eq_getElem h, getElem!_pos l j h]
  unfold runS
  rw [List.foldl_append]
  rfl
theorem runS_ok (l : List Opr) : ∀ j, j ≤ l.length → OkS (runS (l.take j)) j
  | 0, _ => ⟨Fit.nil, by show (0 : Nat) ≤ _; omega, by show ([] : List Tm).length ≤ 0; simp⟩
  | j + 1, h => by
    rw [runS_next l (by omega)]
    exact (runS_ok l j (by omega)).stp _ _ _

/-- The wheel at B is in this state; what was there before is as it was. -/
def Pl (w wr : World) (B : Nat) (s : St) : Prop := ∃ F, Wh wr F B s.now s.l s.l ∧ (∀ i, F i → w.heap.size ≤ i) ∧ Below w.heap.size w wr

theorem Pl.step {w wr w' : World} {B : Nat} {s' : St} {F F' : Nat → Prop} (hF : ∀ i, F i → w.heap.size ≤ i) (hb : Below w.heap.size w wr) (hW : Wh w' F' B s'.now s'.l s'.l) (hF' : ∀ i, F' i → F i ∨ wr.heap.size ≤ i) (hO : Only F wr w') : Pl w w' B s' := by
  refine ⟨F', hW, fun i hi => ?_, hb.trans (hO.below hb.size hF)⟩
  rcases hF' i hi with h | h
  · exact hF i h
  · exact Nat.le_trans hb.size h
theorem Pl.grow {w wr w' : World} {B : Nat} {s : St} (h : Pl w wr B s) (hb : Below wr.heap.size wr w') : Pl w w' B s := by
  obtain ⟨F, hW, hF, hB⟩ := h
  exact ⟨F, hW.below hb, hF, hB.trans (hb.mono hB.size)⟩
theorem Pl.below {w wr : World} {B : Nat} {s : St} (h : Pl w wr B s) : Below w.heap.size w wr := by
  obtain ⟨F, _, _, hB⟩ := h
  exact hB

section
variable {w wr : World} {B : Nat} {s : St}
theorem pl_new (w : World) : Calls Try.prog 9 #[] w fun e w' => ∃ B, e = .returned (.pointer (some ⟨B, 0, none⟩)) ∧ Pl w w' B ⟨0, []⟩ :=
  (new_any w).mono fun e w' ⟨B, F, he, hW, hF, hb⟩ => ⟨B, he, F, hW, hF, hb⟩
theorem pl_does {k i a : Int} (h : Pl w wr B s) (ok : OkS s 990) (hi : I64 i) : Calls Try.prog 14 #[.pointer (some ⟨B, 0, none⟩), .agg #[.int .i64 k, .int .i64 i, .int .i64 a]] wr fun e w' => ∃ v, e = .returned (.tuple #[.bool (ans s k i a), v]) ∧ Pl w w' B (stp s k i a) := by
  obtain ⟨F, hW, hF, hb⟩ := h
  exact (does_any hW ok hi).mono fun e w' ⟨v, F', he, _, _, h1, h2, h3⟩ => ⟨v, he, Pl.step hF hb h1 h2 h3⟩
theorem pl_set {x a : Int} (h : Pl w wr B s) (ok : OkS s 990) : Calls Try.prog 15 #[.pointer (some ⟨B, 0, none⟩), .int .i64 x, .int .i64 a] wr fun e w' => e = .returned (.bool (inR x a)) ∧ Pl w w' B ⟨s.now, setL s.l x a⟩ := by
  obtain ⟨F, hW, hF, hb⟩ := h
  exact (set_any hW ok.fit ok.now (by have := ok.len; omega)).mono fun e w' ⟨he, F', h1, h2, h3⟩ => ⟨he, Pl.step hF hb h1 h2 h3⟩
theorem pl_cancel {x : Int} (h : Pl w wr B s) (ok : OkS s 990) (hx : I64 x) : Calls Try.prog 19 #[.pointer (some ⟨B, 0, none⟩), .int .i64 x] wr fun e w' => e = .returned (.bool (look s.l x).isSome) ∧ Pl w w' B ⟨s.now, woutI s.l x⟩ := by
  obtain ⟨F, hW, hF, hb⟩ := h
  exact (cancel_any hW ok.fit ok.now hx (by have := ok.len; omega)).mono fun e w' ⟨he, F', h1, h2, h3⟩ => ⟨he, Pl.step hF hb h1 h2 h3⟩
theorem pl_move {x : Int} (h : Pl w wr B s) (ok : OkS s 1000) : Calls Try.prog 17 #[.pointer (some ⟨B, 0, none⟩), .int .i64 x] wr fun e w' => ∃ v, e = .returned v ∧ w'.ownsRow wr.heap.size 3 1 v (mvD s.l s.now x).length (icells (mvD s.l s.now x)) ∧ Pl w w' B ⟨mvN s.now x, mvL s.l s.now x⟩ := by
  obtain ⟨F, hW, hF, hb⟩ := h
  exact (move_any hW ok).mono fun e w' ⟨v, F', he, hr, hv, h1, h2, h3⟩ => ⟨v, he, hr, Pl.step hF hb h1 h2 h3⟩
theorem pl_now (h : Pl w wr B s) : Calls Try.prog 16 #[.pointer (some ⟨B, 0, none⟩)] wr fun e w' => e = .returned (.int .i64 s.now) ∧ wr = w' := by
  obtain ⟨F, hW, hF, hb⟩ := h
  exact now_any hW
theorem pl_len (h : Pl w wr B s) : Calls Try.prog 18 #[.pointer (some ⟨B, 0, none⟩)] wr fun e w' => e = .returned (.int .i64 s.l.length) ∧ wr = w' := by
  obtain ⟨F, hW, hF, hb⟩ := h
  exact len_any hW
theorem pl_next (h : Pl w wr B s) (ok : OkS s 1000) : Calls Try.prog 20 #[.pointer (some ⟨B, 0, none⟩)] wr fun e w' => e = .returned (.tuple #[.int .i64 (nx s.l), .bool (nb s.l)]) ∧ wr = w' := by
  obtain ⟨F, hW, hF, hb⟩ := h
  exact next_any hW ok.fit ok.now
theorem pl_when {x : Int} (h : Pl w wr B s) (hx : I64 x) : Calls Try.prog 12 #[.pointer (some ⟨B, 0, none⟩), .int .i64 x] wr fun e w' => e = .returned (.tuple #[.int .i64 (((look s.l x).getD 0 : Nat) : Int), .bool (look s.l x).isSome]) ∧ wr = w' := by
  obtain ⟨F, hW, hF, hb⟩ := h
  exact when_any hW hx
end

theorem Scr.at {w : World} {a : Option Addr} {n c : Nat} {l : List Opr} (h : Scr w a n c l) {j : Nat} (hj : j < n) : ∃ b off, a = some ⟨b, off, none⟩ ∧ b < w.heap.size ∧ w.cell? ⟨b, off + j * 3, none⟩ = some (.int .i64 (l[j]!).k) ∧ w.cell? ⟨b, off + j * 3 + 1, none⟩ = some (.int .i64 (l[j]!).i) ∧ w.cell? ⟨b, off + j * 3 + 2, none⟩ = some (.int .i64 (l[j]!).a) ∧ I64 (l[j]!).i := by
  obtain ⟨b, off, e, hb, hat⟩ := h.2.2.2 (by omega)
  have hl : j < l.length := by rw [← h.1]; exact hj
  have h3 := hat j hl
  exact ⟨b, off, e, hb, h3.1, h3.2.1, h3.2.2, (h.2.2.1 j hl).2.1⟩

/-- A script's loop. -/
def ScRel (w : World) (B n : Nat) (l : List Opr) (gg : Nat) (sj : Value) (wr : World) : Prop :=
  ∃ j : Nat, j + gg = n ∧ sj = .int .i64 j ∧ Pl w wr B (runS (l.take j))

end Go.Proofs.Ythddphgeepgidaa
