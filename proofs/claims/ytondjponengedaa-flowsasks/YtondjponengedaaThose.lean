/-
  Table.those: the entries that are asked for, as they stand.
-/
import Derived.Test.YtondjponengedaaGet
import Derived.Test.YtondjponengedaaSort
import Derived.Lib.AppendZeros
namespace Go.Proofs.Ytondjponengedaa
open Go.RowKit
set_option linter.unusedVariables false
set_option linter.unusedSimpArgs false
set_option maxRecDepth 10000

theorem info39 : (Try.prog.info? 39).map (fun i => (i.zero, i.size, i.bytes)) = some (some (ev Z), 8, 80) := by kernel_rfl
theorem info42 : (Try.prog.info? 42).map (fun i => (i.zero, i.size, i.bytes)) = some (some (ev Z), 8, 80) := by kernel_rfl

theorem append_e {w : World} {base vb : Nat} {v : Value} {l : List En} {x : En} (hrow : w.ownsRow base 39 8 v l.length (ecells l)) (hbx : Bx w vb 39 (ecs x)) (hb : base ≤ w.heap.size) (hl : l.length ≤ 100000) (ty : TypeId) :
    ∃ v' w', (Builtin.append_ #[32, 32] ty #[v, .slice (some ⟨vb, 0, none⟩) 1 1]).run Try.prog w = .ok v' w' ∧ w'.ownsRow base 39 8 v' (l ++ [x]).length (ecells (l ++ [x])) ∧ w.grownBy w' v.ownBlock := by
  obtain ⟨i0, hi, hz0, hz1, hz2⟩ := info_parts info39
  obtain ⟨v', w', hr, h2, h3, _⟩ := run_append_own (P := Try.prog) w base 32 ty 39 i0 _ 8 80 Try.underlying32 hi hz0 hz1 hz2 rfl (by decide) v l.length _ hrow ⟨vb, 0, none⟩ 1 1 (ecs x) rfl (fun j u hu => by
    rw [add_plain, Nat.zero_add, hbx.cell j]; exact hu) (ecs_one x) (by simp only [maxLen]; omega) (by omega) hb
  refine ⟨v', w', hr, ?_, h3⟩
  rw [ecells_app, ecells_one, List.length_append]; exact h2
theorem append_r {w : World} {base vb : Nat} {v : Value} {l : List En} {x : En} (hrow : w.ownsRow base 42 8 v l.length (ecells l)) (hbx : Bx w vb 42 (ecs x)) (hb : base ≤ w.heap.size) (hl : l.length ≤ 100000) (ty : TypeId) :
    ∃ v' w', (Builtin.append_ #[27, 27] ty #[v, .slice (some ⟨vb, 0, none⟩) 1 1]).run Try.prog w = .ok v' w' ∧ w'.ownsRow base 42 8 v' (l ++ [x]).length (ecells (l ++ [x])) ∧ w.grownBy w' v.ownBlock := by
  obtain ⟨i0, hi, hz0, hz1, hz2⟩ := info_parts info42
  obtain ⟨v', w', hr, h2, h3, _⟩ := run_append_own (P := Try.prog) w base 27 ty 42 i0 _ 8 80 Try.underlying27 hi hz0 hz1 hz2 rfl (by decide) v l.length _ hrow ⟨vb, 0, none⟩ 1 1 (ecs x) rfl (fun j u hu => by
    rw [add_plain, Nat.zero_add, hbx.cell j]; exact hu) (ecs_one x) (by simp only [maxLen]; omega) (by omega) hb
  refine ⟨v', w', hr, ?_, h3⟩
  rw [ecells_app, ecells_one, List.length_append]; exact h2

/-! ## The places, as a value -/
def bigL (t : TypeId) (a : Addr) : Sem Value := loadVar t a
theorem bigL71 (a : Addr) : loadVar 71 a = bigL 71 a := rfl
def bigI (t : TypeId) (x i : Value) : Sem Value := Instr.index t x i
theorem bigI71 (x i : Value) : Instr.index 71 x i = bigI 71 x i := rfl
attribute [local go_sem ↓] bigL71 bigI71

theorem load71 {w : World} {B : Nat} {k : List Int} {pl : List Pc} {cs : List Int} (h : Tm w B k pl cs) : (bigL 71 ⟨B, 16, none⟩).run Try.prog w = .ok (.agg (plcells pl).toArray) w := by
  have hl : pl.length = 128 := by obtain ⟨_, _, _, _, h, _⟩ := h; exact h
  have hr := run_loadCells_list (P := Try.prog) w ⟨B, 16, none⟩ (plcells pl) (fun j v hv => by
    have hj : j < 128 * 9 := by
      have := (List.getElem?_eq_some_iff.1 hv).1
      rw [plcells_len, hl] at this; exact this
    rw [add_plain]
    have hp := h.place (i := j / 9) (by omega) (j := j % 9) (by omega)
    have ha := plcells_at pl (j / 9) (j % 9) (by omega) (by omega)
    rw [show j / 9 * 9 + j % 9 = j by omega] at hp ha
    rw [hp, ← ha]; exact hv)
  have e : (plcells pl).length = 1152 := by rw [plcells_len, hl]
  rw [e] at hr
  unfold bigL loadVar
  simp [Try.isAgg71, Try.sizeOf71, hr]
theorem index71 (pl : List Pc) (hl : pl.length = 128) (i : Nat) (hi : i < 128) (w : World) : (bigI 71 (.agg (plcells pl).toArray) (.int .i64 i)).run Try.prog w = .ok (pv pl[i]!) w := by
  have e : (plcells pl).toArray.extract (i * 9) (i * 9 + 9) = (pcs pl[i]!).toArray := by
    apply Array.ext'
    rw [Array.toList_extract, List.extract_eq_take_drop]
    apply List.ext_getElem?
    intro j
    rcases Nat.lt_or_ge j 9 with hj | hj
    · rw [List.getElem?_take, if_pos (by omega), List.getElem?_drop]
      show (plcells pl)[i * 9 + j]? = (pcs pl[i]!)[j]?
      rw [plcells_at pl i j (by omega) hj]
    · rw [List.getElem?_eq_none (by simp; omega), List.getElem?_eq_none (by rw [pcs_len]; exact hj)]
  have hi1 : (0 : Int) ≤ (i : Int) ∧ (i : Int) < 128 := by omega
  unfold bigI Instr.index
  generalize pl[i]! = pc at e ⊢
  simp [asIntOf, run_underlying Try.underlying71, Try.sizeOf70, part, Try.isAgg70, hi1, e, pv, hi, ← Array.toList_inj]
  simpa using congrArg Array.toList e

theorem ents_next (pl : List Pc) {i : Nat} (hi : i < pl.length) (q : En → Bool) : (ents (pl.take (i + 1))).filter q = (ents (pl.take i)).filter q ++ (ent1 pl[i]!).filter q := by
  rw [List.take_add_one, List.getElem?_eq_getElem hi, getElem!_pos pl i hi, Option.toList_some]
  unfold ents
  rw [List.flatMap_append, List.filter_append]
  simp

def ThRel (w : World) (pl : List Pc) (q : En → Bool) (gg : Nat) (s5 s12 : Value) (wr : World) : Prop :=
  ∃ i : Nat, i + gg = 128 ∧ s12 = .int .i64 i ∧ wr.ownsRow w.heap.size 39 8 s5 ((ents (pl.take i)).filter q).length (ecells ((ents (pl.take i)).filter q)) ∧ Below w.heap.size w wr

set_option maxHeartbeats 4000000 in
theorem those33_any {w : World} {B : Nat} {k : List Int} {pl : List Pc} {cs : List Int} (h : Tm w B k pl cs) (hkd : ∀ i, i < 128 → (pl[i]!).is_ ≤ 2) (q : En → Bool)
    (hA : ∀ (e : En) (W : World), Below w.heap.size w W → Calls Try.prog 33 #[ev e] W fun r W' => r = .returned (.bool (q e)) ∧ Below W.heap.size W W') :
    Calls Try.prog 32 #[.pointer (some ⟨B, 0, none⟩), .func (.func 33) #[] #[]] w fun e w' => ∃ v, e = .returned v ∧ w'.ownsRow w.heap.size 39 8 v ((ents pl).filter q).length (ecells ((ents pl).filter q)) ∧ Below w.heap.size w w' := by
  have hl : pl.length = 128 := by obtain ⟨_, _, _, _, h, _⟩ := h; exact h
  have hel : (ents pl).length ≤ 128 := by rw [ents_len, ← hl]; exact List.countP_le_length
  have hL := load71 h
  have HI := Lib.hid (index71 pl hl)
  have HA := Lib.hid hA
  have HL := Lib.hid hl
  clear hA
  generalize hG : (plcells pl).toArray = D at hL HI
  clear hG
  go_enter Try.func32, Try.ntmps32
  go_wp2
  go_loopg [5, 7, 12] 128 (fun gg s5 s7 s12 wr => Hid (ThRel w pl q gg s5 s12 wr))
  case atStart => exact Lib.hid ⟨0, rfl, rfl, World.ownsRow_nil w w.heap.size 39 8, Below.refl _ _⟩
  case round =>
    obtain ⟨i, hi, rfl, hrow, hb⟩ := hrel.out
    clear hrel
    by_cases hlt : i < 128
    · have hltz : (i : Int) < 128 := by omega
      have hix := HI.out i hlt
      have hnx := ents_next pl (i := i) (by rw [HL.out]; exact hlt) q
      have ho := hkd i hlt
      generalize hp : pl[i]! = pc at hix hnx ho
      clear hp
      obtain ⟨o, x⟩ := pc
      simp only at ho
      have HB := Lib.hid hb
      clear hb
      by_cases h2 : o = 2
      · subst h2
        simp only [ent1, if_true] at hnx
        have hb1 : Below w.heap.size w (wr.alloc (.cells (pcs ⟨2, x⟩).toArray 70)) := below_alloc HB.out _
        have HAx := Lib.hid (HA.out x (wr.alloc (.cells (pcs ⟨2, x⟩).toArray 70)) hb1)
        have HBX := Lib.hid (Bx.new wr (pcs ⟨2, x⟩) 70)
        clear hb1
        rcases hq : q x with _ | _
        · rw [List.filter_cons_of_neg (by rw [hq]; simp), List.filter_nil, List.append_nil] at hnx
          rw [hq] at HAx
          have HNX := Lib.hid hnx
          have HR := Lib.hid hrow
          clear hnx hrow hq
          obtain ⟨⟨x1, x2, x3, x4, x5⟩, x6, x7, x8⟩ := x
          simp only [pv, pcs, ecs, ev] at hix HAx
          go_wp2_with (go_at_call 33; refine HAx.out.mono ?_; rintro e w1 ⟨rfl, hb2⟩)
          go_roundg (128 - (i + 1))
          case measure => omega
          case rel =>
            have hb3 := below_then (below_alloc HB.out _) (below_alloc HB.out _).size hb2
            exact Lib.hid ⟨i + 1, by omega, by simp, by rw [HNX.out]; exact row_below (row_below HR.out (below_alloc (Below.refl _ _) _)) hb2, hb3⟩
        · rw [List.filter_cons_of_pos hq, List.filter_nil] at hnx
          rw [hq] at HAx
          have HNX := Lib.hid hnx
          have hle : ((ents (pl.take i)).filter q).length ≤ 1000 := by
            refine Nat.le_trans (List.length_filter_le _ _) ?_
            rw [ents_len]
            refine Nat.le_trans List.countP_le_length ?_
            rw [List.length_take]; omega
          generalize (ents (pl.take i)).filter q = l at HNX hrow hle
          have HR := Lib.hid hrow
          clear hnx hrow hq
          obtain ⟨⟨x1, x2, x3, x4, x5⟩, x6, x7, x8⟩ := x
          simp only [pv, pcs, ecs, ev] at hix HAx HBX
          go_wp2_with fail
          refine HAx.out.mono ?_
          rintro e w1 ⟨rfl, hb2⟩
          have hr1 := row_below (row_below HR.out (below_alloc (Below.refl _ _) _)) hb2
          have hbx := HBX.out.below hb2
          have c1 := hbx.cell 1
          have c2 := hbx.cell 2
          have c3 := hbx.cell 3
          have c4 := hbx.cell 4
          have c5 := hbx.cell 5
          have c6 := hbx.cell 6
          have c7 := hbx.cell 7
          have c8 := hbx.cell 8
          simp only [List.getElem?_cons_zero, List.getElem?_cons_succ] at c1 c2 c3 c4 c5 c6 c7 c8
          have hb3 := below_then (below_alloc HB.out _) (below_alloc HB.out _).size hb2
          obtain ⟨v3, w3, happ, hown, hgrow⟩ := append_e (x := ⟨⟨x1, x2, x3, x4, x5⟩, x6, x7, x8⟩) (vb := w1.heap.size) (row_below hr1 (below_alloc (Below.refl _ _) (.cells (ecs ⟨⟨x1, x2, x3, x4, x5⟩, x6, x7, x8⟩).toArray 39))) (Bx.new w1 _ 39) (below_alloc hb3 _).size (by omega) 32
          simp only [ecs] at happ hgrow
          have HOWN := Lib.hid hown
          have HB4 := Lib.hid ((below_alloc hb3 _).grown hgrow (below_alloc hb3 _).size (fun j hj => (hr1.lt j hj).1))
          have HRUN := Lib.hid happ
          clear hown hgrow hr1 hb3 hbx happ
          go_wp2_with (at_builtin; refine Lib.wpList_append_run _ rfl _ _ _ _ rfl _ _ rfl rfl _ _ HRUN.out ?_)
          go_roundg (128 - (i + 1))
          case measure => omega
          case rel => exact Lib.hid ⟨i + 1, by omega, by simp, by rw [HNX.out]; exact HOWN.out, HB4.out⟩
      · have hz := eqz (o : Int) 2 (by omega)
        obtain ⟨z1, z2, z3⟩ := hz
        simp only [ent1, if_neg h2, List.filter_nil, List.append_nil] at hnx
        have HNX := Lib.hid hnx
        have HR := Lib.hid hrow
        clear hnx hrow h2
        obtain ⟨⟨x1, x2, x3, x4, x5⟩, x6, x7, x8⟩ := x
        simp only [pv, pcs, ecs, ev] at hix
        go_wp2
        go_roundg (128 - (i + 1))
        case measure => omega
        case rel => exact Lib.hid ⟨i + 1, by omega, by simp, by rw [HNX.out]; exact row_below HR.out (below_alloc (Below.refl _ _) _), below_alloc HB.out _⟩
    · obtain rfl : i = 128 := by omega
      rw [List.take_of_length_le (by rw [HL.out]; exact Nat.le_refl _)] at hrow
      go_wp2
      go_ret
      exact ⟨_, rfl, hrow, hb⟩

set_option maxHeartbeats 4000000 in
theorem those49_any {w : World} {B : Nat} {k : List Int} {pl : List Pc} {cs : List Int} (h : Tm w B k pl cs) (hkd : ∀ i, i < 128 → (pl[i]!).is_ ≤ 2) (q : En → Bool) (P : Nat)
    (hA : ∀ (e : En) (W : World), Below w.heap.size w W → Calls Try.prog 49 #[ev e, .pointer (some ⟨P, 0, none⟩)] W fun r W' => r = .returned (.bool (q e)) ∧ Below W.heap.size W W') :
    Calls Try.prog 32 #[.pointer (some ⟨B, 0, none⟩), .func (.func 49) #[] #[.pointer (some ⟨P, 0, none⟩)]] w fun e w' => ∃ v, e = .returned v ∧ w'.ownsRow w.heap.size 39 8 v ((ents pl).filter q).length (ecells ((ents pl).filter q)) ∧ Below w.heap.size w w' := by
  have hl : pl.length = 128 := by obtain ⟨_, _, _, _, h, _⟩ := h; exact h
  have hel : (ents pl).length ≤ 128 := by rw [ents_len, ← hl]; exact List.countP_le_length
  have hL := load71 h
  have HI := Lib.hid (index71 pl hl)
  have HA := Lib.hid hA
  have HL := Lib.hid hl
  clear hA
  generalize hG : (plcells pl).toArray = D at hL HI
  clear hG
  go_enter Try.func32, Try.ntmps32
  go_wp2
  go_loopg [5, 7, 12] 128 (fun gg s5 s7 s12 wr => Hid (ThRel w pl q gg s5 s12 wr))
  case atStart => exact Lib.hid ⟨0, rfl, rfl, World.ownsRow_nil w w.heap.size 39 8, Below.refl _ _⟩
  case round =>
    obtain ⟨i, hi, rfl, hrow, hb⟩ := hrel.out
    clear hrel
    by_cases hlt : i < 128
    · have hltz : (i : Int) < 128 := by omega
      have hix := HI.out i hlt
      have hnx := ents_next pl (i := i) (by rw [HL.out]; exact hlt) q
      have ho := hkd i hlt
      generalize hp : pl[i]! = pc at hix hnx ho
      clear hp
      obtain ⟨o, x⟩ := pc
      simp only at ho
      have HB := Lib.hid hb
      clear hb
      by_cases h2 : o = 2
      · subst h2
        simp only [ent1, if_true] at hnx
        have hb1 : Below w.heap.size w (wr.alloc (.cells (pcs ⟨2, x⟩).toArray 70)) := below_alloc HB.out _
        have HAx := Lib.hid (HA.out x (wr.alloc (.cells (pcs ⟨2, x⟩).toArray 70)) hb1)
        have HBX := Lib.hid (Bx.new wr (pcs ⟨2, x⟩) 70)
        clear hb1
        rcases hq : q x with _ | _
        · rw [List.filter_cons_of_neg (by rw [hq]; simp), List.filter_nil, List.append_nil] at hnx
          rw [hq] at HAx
          have HNX := Lib.hid hnx
          have HR := Lib.hid hrow
          clear hnx hrow hq
          obtain ⟨⟨x1, x2, x3, x4, x5⟩, x6, x7, x8⟩ := x
          simp only [pv, pcs, ecs, ev] at hix HAx
          go_wp2_with (go_at_call 49; refine HAx.out.mono ?_; rintro e w1 ⟨rfl, hb2⟩)
          go_roundg (128 - (i + 1))
          case measure => omega
          case rel =>
            have hb3 := below_then (below_alloc HB.out _) (below_alloc HB.out _).size hb2
            exact Lib.hid ⟨i + 1, by omega, by simp, by rw [HNX.out]; exact row_below (row_below HR.out (below_alloc (Below.refl _ _) _)) hb2, hb3⟩
        · rw [List.filter_cons_of_pos hq, List.filter_nil] at hnx
          rw [hq] at HAx
          have HNX := Lib.hid hnx
          have hle : ((ents (pl.take i)).filter q).length ≤ 1000 := by
            refine Nat.le_trans (List.length_filter_le _ _) ?_
            rw [ents_len]
            refine Nat.le_trans List.countP_le_length ?_
            rw [List.length_take]; omega
          generalize (ents (pl.take i)).filter q = l at HNX hrow hle
          have HR := Lib.hid hrow
          clear hnx hrow hq
          obtain ⟨⟨x1, x2, x3, x4, x5⟩, x6, x7, x8⟩ := x
          simp only [pv, pcs, ecs, ev] at hix HAx HBX
          go_wp2_with fail
          refine HAx.out.mono ?_
          rintro e w1 ⟨rfl, hb2⟩
          have hr1 := row_below (row_below HR.out (below_alloc (Below.refl _ _) _)) hb2
          have hbx := HBX.out.below hb2
          have c1 := hbx.cell 1
          have c2 := hbx.cell 2
          have c3 := hbx.cell 3
          have c4 := hbx.cell 4
          have c5 := hbx.cell 5
          have c6 := hbx.cell 6
          have c7 := hbx.cell 7
          have c8 := hbx.cell 8
          simp only [List.getElem?_cons_zero, List.getElem?_cons_succ] at c1 c2 c3 c4 c5 c6 c7 c8
          have hb3 := below_then (below_alloc HB.out _) (below_alloc HB.out _).size hb2
          obtain ⟨v3, w3, happ, hown, hgrow⟩ := append_e (x := ⟨⟨x1, x2, x3, x4, x5⟩, x6, x7, x8⟩) (vb := w1.heap.size) (row_below hr1 (below_alloc (Below.refl _ _) (.cells (ecs ⟨⟨x1, x2, x3, x4, x5⟩, x6, x7, x8⟩).toArray 39))) (Bx.new w1 _ 39) (below_alloc hb3 _).size (by omega) 32
          simp only [ecs] at happ hgrow
          have HOWN := Lib.hid hown
          have HB4 := Lib.hid ((below_alloc hb3 _).grown hgrow (below_alloc hb3 _).size (fun j hj => (hr1.lt j hj).1))
          have HRUN := Lib.hid happ
          clear hown hgrow hr1 hb3 hbx happ
          go_wp2_with (at_builtin; refine Lib.wpList_append_run _ rfl _ _ _ _ rfl _ _ rfl rfl _ _ HRUN.out ?_)
          go_roundg (128 - (i + 1))
          case measure => omega
          case rel => exact Lib.hid ⟨i + 1, by omega, by simp, by rw [HNX.out]; exact HOWN.out, HB4.out⟩
      · have hz := eqz (o : Int) 2 (by omega)
        obtain ⟨z1, z2, z3⟩ := hz
        simp only [ent1, if_neg h2, List.filter_nil, List.append_nil] at hnx
        have HNX := Lib.hid hnx
        have HR := Lib.hid hrow
        clear hnx hrow h2
        obtain ⟨⟨x1, x2, x3, x4, x5⟩, x6, x7, x8⟩ := x
        simp only [pv, pcs, ecs, ev] at hix
        go_wp2
        go_roundg (128 - (i + 1))
        case measure => omega
        case rel => exact Lib.hid ⟨i + 1, by omega, by simp, by rw [HNX.out]; exact row_below HR.out (below_alloc (Below.refl _ _) _), below_alloc HB.out _⟩
    · obtain rfl : i = 128 := by omega
      rw [List.take_of_length_le (by rw [HL.out]; exact Nat.le_refl _)] at hrow
      go_wp2
      go_ret
      exact ⟨_, rfl, hrow, hb⟩

end Go.Proofs.Ytondjponengedaa
