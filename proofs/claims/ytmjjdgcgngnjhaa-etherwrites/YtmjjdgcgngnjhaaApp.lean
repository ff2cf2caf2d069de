/-
  Bytes that the call itself gathers by append, and what the reference's Encode does.
-/
import Derived.Test.YtmjjdgcgngnjhaaEnc
import Derived.Maps.AppendAt
import Derived.Lib.AppendStr
import Derived.Deep.LoopGhost
namespace Go.Proofs.Ytmjjdgcgngnjhaa
open Go.RowKit
set_option linter.unusedVariables false

/-- The bytes zs lie in a row of the call's own. -/
def Own (w : World) (B : Nat) (v : Value) (zs : List Int) : Prop := w.ownsRow B 5 1 v zs.length (zs.map (Value.int .u8))

theorem Own.alloc {w : World} {B : Nat} {v : Value} {zs : List Int} (h : Own w B v zs) (o : Obj) : Own (w.alloc o) B v zs := World.ownsRow.alloc h o
theorem Own.none_ (w : World) (B : Nat) : Own w B (.slice none 0 0) [] := World.ownsRow_nil w B 5 1

theorem Own.part {w : World} {B : Nat} {v : Value} {zs : List Int} (h : Own w B v zs) (hz : Byt zs) : ∃ A c, v = .slice A zs.length c ∧ Part w ⟨A, zs.length, c, zs⟩ := by
  rcases h.2 with ⟨rfl, h0⟩ | ⟨g, cap, cur, rfl, _, hg, hnc, _, _, _⟩
  · have : zs = [] := List.eq_nil_of_length_eq_zero h0
    subst this
    exact ⟨none, 0, rfl, Part.gone rfl⟩
  · refine ⟨_, cap, rfl, rfl, hnc, hz, fun _ => ⟨g, 0, rfl, fun j hj => ?_⟩⟩
    have hj' : j < zs.length := hj
    have := World.ownsRow.cells h (g := g) rfl j (.int .u8 (zs[j]?.getD 0)) (by simp [hj'])
    rw [← this]
    congr 1
    unfold Addr.add
    by_cases h0 : j = 0 <;> simp [h0]

/-- Cells that are there appended to what the call has gathered. -/
theorem append_cells (w : World) (B : Nat) (v : Value) (zs : List Int) (g m c : Nat) (bs : List Int) (h : Own w B v zs) (hm : bs.length = m) (hc : ∀ j u, (bs.map (Value.int .u8))[j]? = some u → w.cell? ((⟨g, 0, none⟩ : Addr).add j) = some u)
    (hB : B ≤ w.heap.size) (hl : zs.length + m ≤ 140737488355328) (ty : TypeId) :
    ∃ v' w', (Builtin.append_ #[26, 26] ty #[v, .slice (some ⟨g, 0, none⟩) m c]).run Try.prog w = .ok v' w' ∧ Own w' B v' (zs ++ bs) ∧ Below B w w' := by
  obtain ⟨i0, hi, hz0, hz1, hz2⟩ := info_parts info5
  obtain ⟨v', w', hr, ho, hg, _, _⟩ := run_append_own_at (P := Try.prog) w B 26 ty 5 i0 (.int .u8 0) 1 1 Try.underlying26 hi hz0 hz1 hz2 rfl (by omega) v zs.length (zs.map (Value.int .u8)) h ⟨g, 0, none⟩ m c (bs.map (Value.int .u8)) (by simp; omega) hc
    (by intro u hu; simp at hu; obtain ⟨x, _, rfl⟩ := hu; rfl) (by simp only [maxLen]; omega) (by omega) hB
  refine ⟨v', w', hr, ?_, (Below.refl _ _).grown hg hB (fun k hk => (World.ownsRow.lt h k hk).1)⟩
  unfold Own
  rw [List.length_append, List.map_append, hm]
  exact ho
/-- A text appended. -/
theorem append_text (w : World) (B : Nat) (v : Value) (zs : List Int) (s : ByteArray) (h : Own w B v zs) (hB : B ≤ w.heap.size) (hl : zs.length + s.size ≤ 140737488355328) (ty : TypeId) :
    ∃ v' w', (Builtin.append_ #[26, 9] ty #[v, .string s]).run Try.prog w = .ok v' w' ∧ Own w' B v' (zs ++ bts s) ∧ Below B w w' := by
  obtain ⟨i0, hi, hz0, hz1, hz2⟩ := info_parts info5
  obtain ⟨v', w', hr, ho, hg, _⟩ := Lib.run_append_own_string (P := Try.prog) w B 26 9 ty 5 i0 Try.underlying26 Try.underlying9 hi hz0 hz1 hz2 v zs.length (zs.map (Value.int .u8)) h s (by simp only [maxLen]; omega) hl hB
  refine ⟨v', w', hr, ?_, (Below.refl _ _).grown hg hB (fun k hk => (World.ownsRow.lt h k hk).1)⟩
  unfold Own
  rw [List.length_append, List.map_append, bts_len]
  have e : (bts s).map (Value.int .u8) = Lib.strCells s := by simp [bts, Lib.strCells]
  rw [e]
  exact ho

end Go.Proofs.Ytmjjdgcgngnjhaa
