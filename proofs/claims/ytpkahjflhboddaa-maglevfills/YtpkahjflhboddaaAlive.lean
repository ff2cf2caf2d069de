/-
  The law's own small table of one backend, and Names.
-/
import Derived.Test.YtpkahjflhboddaaNew
namespace Go.Proofs.Ytpkahjflhboddaa
open Go.RowKit
set_option linter.unusedVariables false
set_option linter.unusedSimpArgs false
set_option maxRecDepth 10000

/-- Names that lie in memory. -/
def NamesAt (W : World) (g : Nat) (l : List Bk) : Prop := g < W.heap.size ∧ ∀ i, i < l.length → W.cell? ⟨g, i, none⟩ = some (.string (l[i]!).name)
theorem NamesAt.below {w w' : World} {g : Nat} {l : List Bk} (h : NamesAt w g l) (hb : Below w.heap.size w w') : NamesAt w' g l :=
  ⟨Nat.lt_of_lt_of_le h.1 hb.size, fun i hi => by rw [hb.cell (p := ⟨g, i, none⟩) h.1]; exact h.2 i hi⟩

theorem names_any {w : World} {tb : Nat} {l : List Bk} {pl rg : List Int} (h : Tab w tb l pl rg) (h1 : 1 ≤ l.length) (h16 : l.length ≤ 16) :
    Calls Try.prog 17 #[.pointer (some ⟨tb, 0, none⟩)] w fun e w' => ∃ g c, e = .returned (.slice (some ⟨g, 0, none⟩) l.length c) ∧ l.length ≤ c ∧ NamesAt w' g l ∧ Below w.heap.size w w' := by
  obtain ⟨-, -, ⟨g, c, hc, hlc, hg, hat⟩, -⟩ := h
  obtain ⟨i0, hi, hz0, hz1, hz2⟩ := info_parts info9
  have hclone : Calls Try.prog 31 #[.slice (some ⟨g, 0, none⟩) l.length c] w fun e w' => ∃ v', e = .returned v' ∧ w'.ownsRow w.heap.size 9 1 v' l.length (ncells l) ∧ v' ≠ .slice none 0 0 ∧ Below w.heap.size w w' :=
    AnyE.slices_Clone laysClone i0 _ 1 16 hi hz0 hz1 hz2 rfl (by decide) Try.sizeOf9 g 0 l.length c (ncells l) w (by simp [ncells]) (by simp only [maxLen]; omega) (by omega) (fun j u hu => by
      have hj : j < l.length := by
        rcases Nat.lt_or_ge j l.length with hj | hj
        · exact hj
        · simp [ncells, hj] at hu
      rw [ncells, List.getElem?_map, List.getElem?_eq_getElem hj] at hu
      have hu' : some (Value.string (l[j]).name) = some u := hu
      rw [Nat.zero_add, ← hu', hat j hj, getElem!_pos l j hj]) (fun u hu => by
      simp only [ncells, List.mem_map] at hu
      obtain ⟨b, _, rfl⟩ := hu
      rfl)
  have HC := Lib.hid hclone
  have H1 := Lib.hid h1
  clear hat hclone h1 h16
  generalize hn : l.length = n at hc HC H1 ⊢
  have HN := Lib.hid hn
  clear hn
  go_enter Try.func17, Try.ntmps17
  go_wp2_with (go_at_call 31; refine HC.out.mono ?_; rintro e w' ⟨v', rfl, hrow, hne, hb⟩)
  go_ret
  obtain ⟨g', c', rfl, hgc⟩ := row_slice hrow H1.out
  have hlt := hrow.lt g' rfl
  have hcells := hrow.cells (g := g') rfl
  refine ⟨g', c', rfl, hgc, ⟨hlt.2, fun i hi => ?_⟩, hb⟩
  have := hcells i (.string (l[i]!).name) (by rw [ncells, List.getElem?_map, List.getElem?_eq_getElem hi, getElem!_pos l i hi]; rfl)
  rwa [add_plain, Nat.zero_add] at this

def one : List Bk := [⟨⟨#[97]⟩, 1⟩]
theorem one_right : Right one := by
  refine ⟨by decide, by decide, fun i hi => ?_, fun i j hij hj => ?_⟩
  · obtain rfl : i = 0 := by simp [one] at hi; exact hi
    exact ⟨by decide, by decide, by decide, by decide⟩
  · simp [one] at hj; omega
theorem one_wide : Wide one := fun i hi => by
  obtain rfl : i = 0 := by simp [one] at hi; exact hi
  exact ⟨by decide, by decide, by decide⟩
/-- One alone has all. -/
theorem alone {k : List Int} {l : List Bk} {o : List Nat} {t : Nat} {pl : List (Option Nat)} (hl : l.length = 1) (ho : IsOrd l o) (h : Lays t (sds k l o) pl) : lab o pl = List.replicate 251 0 := by
  have hsl : (sds k l o).length = 1 := by rw [sds_len, ho.1, hl]
  obtain ⟨hp, hw⟩ := lays_who (by omega) h
  have h0 : o[0]! = 0 := by have := (ho.2 0 (by omega)).1; omega
  apply List.ext_getElem (by rw [lab_len, hp, List.length_replicate])
  intro i h1 h2
  rw [lab_len] at h1
  obtain ⟨r, hr, e⟩ := hw i (by omega)
  rw [hsl] at hr
  obtain rfl : r = 0 := by omega
  have e2 : pl[i] = some 0 := by rw [List.getElem?_eq_getElem h1] at e; simpa using e
  rw [List.getElem_replicate]
  simp only [lab, List.getElem_map, e2, lab1, h0]
  rfl

set_option maxHeartbeats 2000000 in
theorem alive_any (w : World) : Calls Try.prog 10 #[] w fun e w' => e = .returned (.bool true) ∧ Below w.heap.size w w' := by
  have hB : Bks (w.alloc (.cells #[.string ⟨#[97]⟩, .int .i64 1] 50)) (some ⟨w.heap.size, 0, none⟩) 1 1 one := ⟨rfl, by omega, by omega, fun _ => ⟨w.heap.size, 0, rfl, by simp, fun i hi => by
    obtain rfl : i = 0 := by simp [one] at hi; exact hi
    exact ⟨by simp [go_sem, one], by simp [go_sem, one]⟩⟩⟩
  have hnew := new_any (List.replicate 16 0) zero_key one_wide hB
  have hk : kv (List.replicate 16 0) = .agg #[.int .u8 0, .int .u8 0, .int .u8 0, .int .u8 0, .int .u8 0, .int .u8 0, .int .u8 0, .int .u8 0, .int .u8 0, .int .u8 0, .int .u8 0, .int .u8 0, .int .u8 0, .int .u8 0, .int .u8 0, .int .u8 0] := rfl
  rw [hk] at hnew
  have HNEW := Lib.hid hnew
  clear hB hnew hk
  go_enter Try.func10, Try.ntmps10
  go_wp2_with fail
  refine HNEW.out.mono ?_
  rintro e w1 ⟨hn, hb1⟩
  rcases hn with ⟨hr, -⟩ | ⟨-, tb, rfl, o, t, pl, ho, -, hlay, hT⟩
  · exact absurd one_right hr
  rw [alone rfl ho hlay] at hT
  have hT : Tab w1 tb one (List.replicate 251 0) (ring one o) := hT
  have hpos : ∀ j, j < (List.replicate 251 (0 : Int)).length → 0 ≤ (List.replicate 251 (0 : Int))[j]! := fun j hj => by
    rw [getElem!_pos _ j hj, List.getElem_replicate]; exact Int.le_refl 0
  have HT := Lib.hid hT
  have HB1 : Hid (Below w.heap.size w w1) := Lib.hid (((Below.refl _ _).alloc (Nat.le_refl _) _).trans (hb1.mono (by simp)))
  have hTa := hT.below ((Below.refl w1.heap.size w1).alloc (Nat.le_refl _) (.cells #[.bool true] 4))
  have c1 := Lib.hid (find_any (ua := some ⟨w1.heap.size, 0, none⟩) (un := 1) (uc := 1) (up := [true]) 5 hTa ⟨rfl, by omega, fun _ => ⟨w1.heap.size, 0, rfl, by simp, fun j hj => by
    obtain rfl : j = 0 := by omega
    simp [go_sem]⟩⟩ hpos (by omega) (by omega) (by omega))
  have c2 := Lib.hid (find_any (ua := none) (un := 0) (uc := 0) (up := []) 5 hTa ⟨rfl, by omega, fun h => by omega⟩ hpos (by omega) (by omega) (by omega))
  have c3 := Lib.hid (at_any hTa 0)
  have c4 := Lib.hid (at_any hTa 251)
  have c5 := Lib.hid (count_any hTa 0)
  have e1 : who (List.replicate 251 0) ((5 : Int).toNat % 251) [true] = 0 := by decide +kernel
  have e2 : whoIs (List.replicate 251 0) ((5 : Int).toNat % 251) [true] = true := by decide +kernel
  have e3 : who (List.replicate 251 0) ((5 : Int).toNat % 251) [] = -1 := by decide +kernel
  have e4 : whoIs (List.replicate 251 0) ((5 : Int).toNat % 251) [] = false := by decide +kernel
  have e5 : atOf (List.replicate 251 0) 0 = 0 := by decide +kernel
  have e6 : atOf (List.replicate 251 0) 251 = -1 := by decide +kernel
  have e7 : ((List.replicate 251 (0 : Int)).count 0 : Nat) = 251 := by decide +kernel
  rw [e1, e2] at c1
  rw [e3, e4] at c2
  rw [e5] at c3
  rw [e6] at c4
  rw [e7] at c5
  clear e1 e2 e3 e4 e5 e6 e7 hT hTa hpos hb1 ho hlay
  go_wp2_with fail
  refine c1.out.mono ?_
  rintro e w2 ⟨rfl, rfl⟩
  go_wp2_with fail
  refine c2.out.mono ?_
  rintro e w2 ⟨rfl, rfl⟩
  go_wp2_with fail
  refine c3.out.mono ?_
  rintro e w2 ⟨rfl, rfl⟩
  go_wp2_with fail
  refine c4.out.mono ?_
  rintro e w2 ⟨rfl, rfl⟩
  go_wp2_with fail
  refine c5.out.mono ?_
  rintro e w2 ⟨rfl, rfl⟩
  go_wp2
  go_ret
  exact ⟨by rfl, HB1.out.alloc HB1.out.size _⟩

end Go.Proofs.Ytpkahjflhboddaa
