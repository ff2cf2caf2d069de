/-
  Table.layAnew.
-/
import Derived.Test.YtondjponengedaaAll
namespace Go.Proofs.Ytondjponengedaa
open Go.RowKit
set_option linter.unusedVariables false
set_option linter.unusedSimpArgs false
set_option maxRecDepth 10000

/-! ## A table is copied -/
theorem bigL73 (a : Addr) : loadVar 73 a = bigL 73 a := rfl
theorem bigS73 (a : Addr) (v : Value) : storeVar 73 a v = bigS 73 a v := rfl

theorem load73 {w : World} {B : Nat} {k : List Int} {pl : List Pc} {cs : List Int} (h : Tm w B k pl cs) : (bigL 73 ⟨B, 0, none⟩).run Try.prog w = .ok (.agg (cel k ++ plcells pl ++ ics cs).toArray) w := by
  have hh := h
  obtain ⟨cur, h1, h2, h3, h4, h5⟩ := hh
  have hr := run_loadCells_list (P := Try.prog) w ⟨B, 0, none⟩ (cel k ++ plcells pl ++ ics cs) (fun j v hv => by
    rw [add_plain, Nat.zero_add, h.cellAt]; exact hv)
  have e : (cel k ++ plcells pl ++ ics cs).length = 1171 := by simp [cel_len, plcells_len, ics, h3, h4, h5]
  rw [e] at hr
  unfold bigL loadVar
  simp [Try.isAgg73, Try.sizeOf73] at hr ⊢
  simp [hr]
theorem cels_one (l : List Int) : ∀ v ∈ cel l, v.oneCell' = true := fun v hv => by
  simp only [cel, List.mem_map] at hv
  obtain ⟨x, _, rfl⟩ := hv; rfl
theorem store73 {w : World} {B : Nat} {k k' : List Int} {pl pl' : List Pc} {cs cs' : List Int} (h : Tm w B k pl cs) (h3 : k'.length = 16) (h4 : pl'.length = 128) (h5 : cs'.length = 3) :
    ∃ w', (bigS 73 ⟨B, 0, none⟩ (.agg (cel k' ++ plcells pl' ++ ics cs').toArray)).run Try.prog w = .ok () w' ∧ Tm w' B k' pl' cs' ∧ Only (· = B) w w' := by
  have hh := h
  obtain ⟨cur, g1, g2, g3, g4, g5⟩ := hh
  have e : (cel k' ++ plcells pl' ++ ics cs').length = 1171 := by simp [cel_len, plcells_len, ics, h3, h4, h5]
  have ec : cur.size = 1171 := by rw [← Array.length_toList, g2]; simp [cel_len, plcells_len, ics, g3, g4, g5]
  refine ⟨w.setCells B 0 (cel k' ++ plcells pl' ++ ics cs'), ?_, ⟨_, setCells_heap g1 0 _ (by rw [e, ec]; omega), ?_, h3, h4, h5⟩, setCells_only _ _ _ _⟩
  · have hr := run_storeCells_cells (P := Try.prog) B 0 (cel k' ++ plcells pl' ++ ics cs') 0 w (fun j hj => by
      rw [e] at hj
      rw [show 0 + 0 + j = j by omega, cell_of_row w B j cur 73 (0, 0) g1, Array.getElem?_eq_getElem (by omega)]; rfl) (fun j hj => h.free _) (fun v hv => by
      rw [List.mem_append, List.mem_append] at hv
      rcases hv with (hv | hv) | hv
      · exact cels_one _ v hv
      · obtain ⟨p, _, hp⟩ := List.mem_flatMap.1 hv
        simp only [pcs, List.mem_cons] at hp
        rcases hp with rfl | hp
        · rfl
        · exact ecs_one p.en v hp
      · simp only [ics, List.mem_map] at hv
        obtain ⟨x, _, rfl⟩ := hv; rfl)
    have hc : (Value.agg (cel k' ++ plcells pl' ++ ics cs').toArray).cells = (cel k' ++ plcells pl' ++ ics cs').toArray := rfl
    generalize cel k' ++ plcells pl' ++ ics cs' = vs at *
    unfold bigS storeVar
    rw [hc]
    simp [Try.sizeOf73, hr, e]
  · show splice cur.toList 0 _ = _
    unfold splice
    rw [List.take_zero, List.nil_append, List.drop_of_length_le (by rw [Array.length_toList, ec]; omega), List.append_nil]

/-! ## One entry more -/
/-- What an entry's laying leaves. -/
theorem TaS.laid {w w' : World} {B a : Nat} {k : List Int} {pl : List Pc} {L : List En} {e : En} (h : TaS w B k pl L) (ha : a < 128) (hc : ∀ j, j < (a + 128 - hx k e.fl) % 128 → (pl[(hx k e.fl + j) % 128]!).is_ ≠ 0)
    (h1 : ∀ x, getF L e.fl = some x → (pl[a]!).is_ = 2 ∧ (pl[a]!).en = x) (h2 : getF L e.fl = none → (pl[a]!).is_ ≠ 2) (hf : Fine (wth L e)) (hs : SetTo w B k (pl.set a ⟨2, e⟩) (((cts pl).set (pl[a]!).is_ ((cts pl)[(pl[a]!).is_]! - 1)).set 2 (((cts pl).set (pl[a]!).is_ ((cts pl)[(pl[a]!).is_]! - 1))[2]! + 1)) w') :
    Tb w' B k (pl.set a ⟨2, e⟩) ∧ TabP (hx k) (pl.set a ⟨2, e⟩) (wth L e) := by
  have hT := h.tp.lay (hx_lt k) ha hc h1 h2 hf
  have ec := cts_set (pl := pl) (i := a) (by rw [h.tp.len]; exact ha) ⟨2, e⟩ (h.tp.kinds a ha) (by simp)
  refine ⟨?_, hT⟩
  have := hs.1
  rw [ec] at this
  exact this

theorem take_more {L : List En} (h : Fine L) {i : Nat} (hi : i < L.length) : getF (L.take i) (L[i]!).fl = none ∧ (wth (L.take i) L[i]!).Perm (L.take (i + 1)) ∧ Fine (L.take (i + 1)) ∧ Fine (wth (L.take i) L[i]!) := by
  have hn : getF (L.take i) (L[i]!).fl = none := getF_none.2 fun x hx e => by
    obtain ⟨j, hj, rfl⟩ := List.getElem_of_mem hx
    have hj' : j < i := by rw [List.length_take] at hj; omega
    rw [List.getElem_take, getElem!_pos L i hi] at e
    have := (List.pairwise_iff_getElem.1 h.1) j i (by omega) hi hj'
    have h2 : ordF (L[j]).fl (L[i]).fl = 0 := (ordF_ok.eq _ _).2 e
    unfold LtF at this; omega
  have hp : (wth (L.take i) L[i]!).Perm (L.take (i + 1)) := by
    refine (wth_perm _ _).trans ?_
    rw [wo_none hn, List.take_add_one, List.getElem?_eq_getElem hi, Option.toList_some, getElem!_pos L i hi]
    exact List.perm_append_comm (l₁ := [L[i]])
  have hf : Fine (L.take (i + 1)) := ⟨h.1.sublist (List.take_sublist _ _), Nat.le_trans (List.length_take_le' _ _) h.2⟩
  refine ⟨hn, hp, hf, ⟨Srt.wth (h.1.sublist (List.take_sublist _ _)) _, ?_⟩⟩
  rw [hp.length_eq]; exact hf.2

def AnRel (w : World) (B B2 W1 : Nat) (k : List Int) (L : List En) (v : Value) (gg : Nat) (s15 : Value) (wr : World) : Prop :=
  ∃ (i : Nat) (pl : List Pc), i + gg = L.length ∧ s15 = .int .i64 i ∧ TaS wr B2 k pl (L.take i) ∧ cnt pl 0 = 128 - i ∧ cnt pl 1 = 0 ∧ wr.ownsRow W1 39 8 v L.length (ecells L) ∧ Below w.heap.size w wr

end Go.Proofs.Ytondjponengedaa
