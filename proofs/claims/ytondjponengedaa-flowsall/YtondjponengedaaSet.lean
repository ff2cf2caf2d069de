/-
  Table.Len, Table.full, Table.set.
-/
import Derived.Test.YtondjponengedaaTab
namespace Go.Proofs.Ytondjponengedaa
open Go.RowKit
set_option linter.unusedVariables false
set_option linter.unusedSimpArgs false
set_option maxRecDepth 10000

theorem len_any {w : World} {B : Nat} {k : List Int} {pl : List Pc} {cs : List Int} (h : Tm w B k pl cs) : Calls Try.prog 25 #[.pointer (some ⟨B, 0, none⟩)] w fun e w' => e = .returned (.int .i64 cs[2]!) ∧ w = w' := by
  have d2 := h.count (j := 2) (by omega)
  simp only [show 1168 + 2 = 1170 from rfl] at d2
  generalize cs[2]! = c at d2 ⊢
  go_enter Try.func25, Try.ntmps25
  go_wp2
  go_ret
  exact ⟨rfl, rfl⟩
theorem full_any {w : World} {B : Nat} {k : List Int} {pl : List Pc} {cs : List Int} (h : Tm w B k pl cs) : Calls Try.prog 45 #[.pointer (some ⟨B, 0, none⟩)] w fun e w' => e = .returned (.bool (decide (64 ≤ cs[2]!))) ∧ w = w' := by
  have HL := Lib.hid (len_any h)
  generalize cs[2]! = c at HL ⊢
  go_enter Try.func45, Try.ntmps45
  go_wp2_with (go_at_call 25; refine HL.out.mono ?_; rintro e w' ⟨rfl, rfl⟩)
  go_ret
  exact ⟨rfl, rfl⟩

def bigS (t : TypeId) (a : Addr) (v : Value) : Sem Unit := storeVar t a v
theorem bigS70 (a : Addr) (v : Value) : storeVar 70 a v = bigS 70 a v := rfl
attribute [local go_sem ↓] bigS70

theorem store70 {W : World} {B : Nat} {k : List Int} {pl : List Pc} {cs : List Int} (h : Tm W B k pl cs) (i : Nat) (hi : i < 128) (p : Pc) : (bigS 70 ⟨B, 16 + i * 9, none⟩ (pv p)).run Try.prog W = .ok () (W.setCells B (16 + i * 9) (pcs p)) := by
  have hc : (pv p).cells = (pcs p).toArray := rfl
  have hr := run_storeCells_cells (P := Try.prog) B (16 + i * 9) (pcs p) 0 W (fun j hj => by
    rw [pcs_len] at hj
    rw [show 16 + i * 9 + 0 + j = 16 + (i * 9 + j) by omega, h.place hi hj, List.getElem?_eq_getElem (by rw [pcs_len]; exact hj)]; rfl) (fun j hj => h.free _) (fun v hv => by
    simp only [pcs, List.mem_cons] at hv
    rcases hv with rfl | hv
    · rfl
    · exact ecs_one p.en v hv)
  rw [Nat.add_zero] at hr
  unfold bigS storeVar
  rw [hc]
  simp [Try.sizeOf70, hr, pcs_len]

theorem setCells_only (g o : Nat) (vs : List Value) (w : World) : Only (· = g) w (w.setCells g o vs) := Only.of_grown (setCells_grown g vs o w) fun i hi => by simpa using hi.symm

def SetTo (w : World) (B : Nat) (k : List Int) (pl : List Pc) (cs : List Int) (w' : World) : Prop := Tm w' B k pl cs ∧ Only (· = B) w w'

set_option maxHeartbeats 1000000 in
/-- Table.set. -/
theorem set_any {w : World} {B : Nat} {k : List Int} {pl : List Pc} {cs : List Int} (h : Tm w B k pl cs) (i : Nat) (hi : i < 128) (p : Pc) (ho : (pl[i]!).is_ ≤ 2) (hs : p.is_ ≤ 2) (hb : ∀ j : Nat, j < 3 → -1000 ≤ cs[j]! ∧ cs[j]! ≤ 1000) :
    Calls Try.prog 48 #[.pointer (some ⟨B, 0, none⟩), .int .i64 i, pv p] w fun e w' => e = .returned (.tuple #[]) ∧
      SetTo w B k (pl.set i p) ((cs.set (pl[i]!).is_ (cs[(pl[i]!).is_]! - 1)).set p.is_ ((cs.set (pl[i]!).is_ (cs[(pl[i]!).is_]! - 1))[p.is_]! + 1)) w' := by
  have hl3 : cs.length = 3 := by obtain ⟨_, _, _, _, _, h⟩ := h; exact h
  have hlt := h.lt
  have hcast : (i : Int) < 128 := by omega
  have HW := Lib.hid (h.alloc (.cells (pcs p).toArray 70))
  have d0 := HW.out.place hi (j := 0) (by omega)
  simp only [pcs, ecs, List.getElem?_cons_zero, Nat.add_zero] at d0
  generalize (pl[i]!).is_ = o at d0 ho ⊢
  have d1 := HW.out.count (j := o) (by omega)
  have f1 := HW.out.free (1168 + o)
  have ho3 : (o : Int) < 3 := by omega
  have hco := hb o (by omega)
  have hw1 : wrap64 (cs[o]! - 1) = cs[o]! - 1 := by simp only [wrap64]; omega
  -- behind the first store
  have T1 := h.setCount (j := o) (by omega) (cs[o]! - 1)
  have hs2 : -2000 ≤ (cs.set o (cs[o]! - 1))[p.is_]! ∧ (cs.set o (cs[o]! - 1))[p.is_]! ≤ 2000 := by
    have := hb p.is_ (by omega)
    rw [getElem!_pos _ p.is_ (by simp; omega), List.getElem_set]
    rw [getElem!_pos cs p.is_ (by omega)] at this
    split <;> omega
  generalize cs[o]! = c at *
  generalize hcs2 : cs.set o (c - 1) = cs2 at *
  have T2 : Tm ((w.setCell ⟨B, 1168 + o, none⟩ (.int .i64 (c - 1))).alloc (.cells (pcs p).toArray 70)).drew.drew B k pl cs2 := T1.alloc _
  have T3 := T2.setPlace hi p
  have R3 := store70 T2 i hi p
  have hcl : B < ((w.setCell ⟨B, 1168 + o, none⟩ (.int .i64 (c - 1))).alloc (.cells (pcs p).toArray 70)).drew.drew.heap.size := T2.lt
  have O3 : Only (· = B) w (((w.setCell ⟨B, 1168 + o, none⟩ (.int .i64 (c - 1))).alloc (.cells (pcs p).toArray 70)).drew.drew.setCells B (16 + i * 9) (pcs p)) :=
    (((((Only.refl (· = B) w).setCell (p := ⟨B, 1168 + o, none⟩) (.inl rfl) _).alloc _).drew).drew).trans (setCells_only _ _ _ _) fun i hi => .inl hi
  have c3 : (((w.setCell ⟨B, 1168 + o, none⟩ (.int .i64 (c - 1))).alloc (.cells (pcs p).toArray 70)).drew.drew.setCells B (16 + i * 9) (pcs p)).cell? ⟨w.heap.size, 0, none⟩ = some (.int .i64 p.is_) := by
    rw [(setCells_only B (16 + i * 9) (pcs p) _).cell (by show w.heap.size < _; simp) (by show ¬ w.heap.size = B; omega)]
    simp [go_sem, pcs]
  generalize hW3 : ((w.setCell ⟨B, 1168 + o, none⟩ (.int .i64 (c - 1))).alloc (.cells (pcs p).toArray 70)).drew.drew.setCells B (16 + i * 9) (pcs p) = W3 at *
  clear hW3 hcl T2 T1 hcs2 hb
  have d3 := T3.count (j := p.is_) (by omega)
  have f3 := T3.free (1168 + p.is_)
  have T4 := T3.setCount (j := p.is_) (by omega) (cs2[p.is_]! + 1)
  generalize cs2[p.is_]! = c2 at *
  have hw2 : wrap64 (c2 + 1) = c2 + 1 := by simp only [wrap64]; omega
  have hs3 : (p.is_ : Int) < 3 := by omega
  have HT4 := Lib.hid T4
  have HO3 := Lib.hid O3
  clear T3 T4 O3 h hco hs2
  obtain ⟨s, ⟨⟨a1, a2, a3, a4, a5⟩, a6, a7, a8⟩⟩ := p
  simp only [pv, pcs, ecs] at R3 HT4 c3 d3 f3 d0 d1 f1 hs hs3 ⊢
  go_enter Try.func48, Try.ntmps48
  go_wp2
  go_region
  rw [hw1]
  go_wp2
  go_region
  go_wp2
  go_region
  rw [hw2]
  go_wp2
  go_end0
  exact ⟨rfl, HT4.out, (HO3.out.setCell (p := ⟨B, 1168 + s, none⟩) (.inl rfl) _).drew⟩

end Go.Proofs.Ytondjponengedaa
