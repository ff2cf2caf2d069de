/-
  slices.Sort of at most eight names.
-/
import Derived.Test.YtbeacddclphjgaaSmall
namespace Go.Proofs.Ytbeacddclphjgaa
open Go.RowKit Go.Maps
set_option linter.unusedVariables false
set_option linter.unusedSimpArgs false
set_option maxRecDepth 10000

theorem isNaN_any (s : ByteArray) (w : World) : Calls Try.prog 46 #[.string s] w fun e w' => e = .returned (.bool false) ∧ w' = w := by
  go_enter Try.func46, Try.ntmps46
  go_wp2
  go_ret
  exact ⟨by rfl, rfl⟩

set_option maxHeartbeats 400000 in
theorem less_any (x y : ByteArray) (w : World) : Calls Try.prog 36 #[.string x, .string y] w fun e w' => e = .returned (.bool (lt8 x y)) ∧ w' = w := by
  have H1 := Lib.hid (isNaN_any x w)
  have H2 := Lib.hid (isNaN_any y w)
  have e0 : Op.bytesLess x.toList y.toList = lt8 x y := rfl
  generalize lt8 x y = r at e0
  go_enter Try.func36, Try.ntmps36
  go_wp2_with (first | (go_at_call_of 46 (Value.string x); refine H1.out.mono ?_; rintro e w' ⟨rfl, rfl⟩) | (go_at_call_of 46 (Value.string y); refine H2.out.mono ?_; rintro e w' ⟨rfl, rfl⟩))
  go_ret
  exact ⟨by rfl, rfl⟩

/-- The first i are in order. -/
def SrtTo (l : List ByteArray) (i : Nat) : Prop := ∀ p q, p < q → q < i → lt8 l[q]! l[p]! = false
/-- .. but for the one at j, which is not yet in its place. -/
def Moving (l : List ByteArray) (i j : Nat) : Prop := ∀ p q, p < q → q ≤ i → q ≠ j → lt8 l[q]! l[p]! = false
theorem SrtTo.moving {l : List ByteArray} {i : Nat} (h : SrtTo l i) : Moving l i i := fun p q hpq hq hne => h p q hpq (by omega)
theorem Moving.front {l : List ByteArray} {i : Nat} (h : Moving l i 0) : SrtTo l (i + 1) := fun p q hpq hq => h p q hpq (by omega) (by omega)
theorem Moving.stop {l : List ByteArray} {i j : Nat} (h : Moving l i (j + 1)) (hj : j + 1 ≤ i) (hlt : lt8 l[j + 1]! l[j]! = false) : SrtTo l (i + 1) := fun p q hpq hq => by
  by_cases e : q = j + 1
  · subst e
    by_cases e2 : p = j
    · subst e2; exact hlt
    · exact le8_trans (h p j (by omega) (by omega) (by omega)) hlt
  · exact h p q hpq (by omega) e
/-- Two that change places. -/
def swp (l : List ByteArray) (j : Nat) : List ByteArray := (l.set (j + 1) l[j]!).set j l[j + 1]!
theorem swp_len (l : List ByteArray) (j : Nat) : (swp l j).length = l.length := by simp [swp]
theorem swp_at {l : List ByteArray} {j : Nat} (hj : j + 1 < l.length) (k : Nat) : (swp l j)[k]! = if k = j then l[j + 1]! else if k = j + 1 then l[j]! else l[k]! := by
  unfold swp
  by_cases hk : k < l.length
  · rw [getElem!_pos _ k (by simpa using hk), List.getElem_set]
    by_cases e : j = k
    · subst e; simp
    · rw [if_neg e, if_neg (fun h : k = j => e h.symm), List.getElem_set]
      by_cases e2 : j + 1 = k
      · subst e2; rw [if_pos rfl, if_pos rfl]
      · rw [if_neg e2, if_neg (fun h : k = j + 1 => e2 h.symm), getElem!_pos l k hk]
  · rw [if_neg (by omega), if_neg (by omega), getElem!_neg _ k (by simpa using hk), getElem!_neg l k hk]
theorem Moving.step {l : List ByteArray} {i j : Nat} (h : Moving l i (j + 1)) (hj : j + 1 ≤ i) (hi : i < l.length) (hlt : lt8 l[j + 1]! l[j]! = true) : Moving (swp l j) i j := fun p q hpq hq hne => by
  rw [swp_at (by omega), swp_at (by omega), if_neg hne]
  by_cases e : q = j + 1
  · subst e
    rw [if_pos rfl]
    by_cases e2 : p = j
    · rw [if_pos e2]; exact lt8_asym hlt
    · rw [if_neg e2, if_neg (by omega)]
      exact h p j (by omega) (by omega) (by omega)
  · rw [if_neg e]
    by_cases e2 : p = j
    · rw [if_pos e2]; exact h (j + 1) q (by omega) hq e
    · rw [if_neg e2]
      by_cases e3 : p = j + 1
      · rw [if_pos e3]; exact h j q (by omega) hq e
      · rw [if_neg e3]; exact h p q hpq hq e
theorem swp_perm {l : List ByteArray} {j : Nat} (hj : j + 1 < l.length) : (swp l j).Perm l := by
  obtain ⟨x, hx⟩ : ∃ x, l[j]! = x := ⟨_, rfl⟩
  obtain ⟨y, hy⟩ : ∃ y, l[j + 1]! = y := ⟨_, rfl⟩
  have e1 : l = l.take j ++ x :: y :: l.drop (j + 2) := by
    have h1 : l.drop j = x :: l.drop (j + 1) := by rw [← hx, getElem!_pos l j (by omega)]; exact List.drop_eq_getElem_cons (by omega)
    have h2 : l.drop (j + 1) = y :: l.drop (j + 2) := by rw [← hy, getElem!_pos l (j + 1) hj]; exact List.drop_eq_getElem_cons hj
    rw [← h2, ← h1, List.take_append_drop]
  have hl : (l.take j).length = j := by rw [List.length_take]; omega
  have e2 : swp l j = l.take j ++ y :: x :: l.drop (j + 2) := by
    unfold swp
    rw [hx, hy]
    conv => lhs; rw [e1]
    rw [List.set_append_right _ _ (by omega), List.set_append_right _ _ (by omega), hl]
    simp
  rw [e2]
  conv => rhs; rw [e1]
  exact (List.Perm.swap x y _).append_left _

theorem ncells_set (l : List ByteArray) (k : Nat) (x : ByteArray) : ncells (l.set k x) = (ncells l).set k (.string x) := by simp [ncells, List.map_set]
theorem SrtTo.pairwise {l : List ByteArray} (h : SrtTo l l.length) : l.Pairwise fun a b => lt8 b a = false := by
  rw [List.pairwise_iff_getElem]
  intro i j hi hj hij
  have := h i j hij hj
  rwa [getElem!_pos l i hi, getElem!_pos l j hj] at this

/-- The row of what is sorted. -/
def RowOf (w : World) (base : Nat) (a : Option Addr) (n c : Nat) (l0 l : List ByteArray) (wr : World) : Prop :=
  l.length = n ∧ l.Perm l0 ∧ wr.ownsRow base 9 1 (.slice a n c) n (ncells l) ∧ Below base w wr
def InsRel (w : World) (base : Nat) (a : Option Addr) (n c : Nat) (l0 : List ByteArray) (gg : Nat) (s6 : Value) (wr : World) : Prop :=
  ∃ (i : Nat) (l : List ByteArray), i + gg = n + 1 ∧ 1 ≤ i ∧ s6 = .int .i64 i ∧ SrtTo l i ∧ RowOf w base a n c l0 l wr
def MovRel (w : World) (base : Nat) (a : Option Addr) (n c : Nat) (l0 : List ByteArray) (i : Nat) (gg : Nat) (s7 : Value) (wr : World) : Prop :=
  ∃ (j : Nat) (l : List ByteArray), gg = j ∧ j ≤ i ∧ s7 = .int .i64 j ∧ Moving l i j ∧ RowOf w base a n c l0 l wr

theorem RowOf.drewN {w wr : World} {base n c : Nat} {a : Option Addr} {l0 l : List ByteArray} (h : RowOf w base a n c l0 l wr) (k : Nat) : RowOf w base a n c l0 l (wr.drewN k) := ⟨h.1, h.2.1, h.2.2.1, below_drewN h.2.2.2 k⟩
theorem RowOf.drew {w wr : World} {base n c : Nat} {a : Option Addr} {l0 l : List ByteArray} (h : RowOf w base a n c l0 l wr) : RowOf w base a n c l0 l wr.drew := ⟨h.1, h.2.1, h.2.2.1, below_drew h.2.2.2⟩
theorem RowOf.swap {w wr : World} {base n c g : Nat} {l0 l : List ByteArray} (h : RowOf w base (some ⟨g, 0, none⟩) n c l0 l wr) {j : Nat} (hj : j + 1 < n) :
    RowOf w base (some ⟨g, 0, none⟩) n c l0 (swp l j) ((wr.setCell ⟨g, j + 1, none⟩ (.string l[j]!)).setCell ⟨g, j, none⟩ (.string l[j + 1]!)) := by
  obtain ⟨h1, h2, h3, h4⟩ := h
  have hg := h3.lt g rfl
  have r1 := (h3.stored (j + 1) (.string l[j]!)).1
  have r2 := (r1.stored j (.string l[j + 1]!)).1
  rw [← ncells_set, ← ncells_set] at r2
  exact ⟨by rw [swp_len]; exact h1, (swp_perm (by omega)).trans h2, r2, (h4.setCell (p := ⟨g, j + 1, none⟩) hg.1 _).setCell (p := ⟨g, j, none⟩) hg.1 _⟩

set_option maxHeartbeats 4000000 in
theorem insertion_any {w : World} {base n c : Nat} {a : Option Addr} {l : List ByteArray} (hn : l.length = n) (h : w.ownsRow base 9 1 (.slice a n c) n (ncells l)) (hn8 : n ≤ 8) :
    Calls Try.prog 30 #[.slice a n c, .int .i64 0, .int .i64 n] w fun e w' => e = .returned (.tuple #[]) ∧ ∃ l', SrtTo l' n ∧ RowOf w base a n c l l' w' := by
  have hnc : n ≤ c := by
    obtain ⟨_, _, e, h1, _⟩ := row_any h
    simp only [Value.slice.injEq, true_and] at e
    omega
  have HS : Hid (RowOf w base a n c l l w) := Lib.hid ⟨hn, .refl _, h, Below.refl _ _⟩
  clear h hn
  go_enter Try.func30, Try.ntmps30
  go_wp2
  go_loopg [6, 7] n (fun gg s6 _ wr => Hid (InsRel w base a n c l gg s6 wr))
  case atStart => exact Lib.hid ⟨1, l, by omega, by omega, by go_num, fun p q h1 h2 => by omega, HS.out⟩
  case round =>
    obtain ⟨i, m, hi, hi1, rfl, hsr, hro⟩ := hrel.out
    clear hrel
    by_cases hin : i < n
    · have hiz : (i : Int) < (n : Int) := by omega
      go_wp2
      go_loopg [7] i (fun gg s7 wr => Hid (MovRel w base a n c l i gg s7 wr))
      case atStart => exact Lib.hid ⟨i, m, rfl, Nat.le_refl _, rfl, hsr.moving, hro⟩
      case round =>
        obtain ⟨j, m2, hgj, hji, rfl, hmv, hro2⟩ := hrel.out
        clear hrel hsr hro
        have hl2 := hro2.1
        have hrow := hro2.2.2.1
        have HRO := Lib.hid hro2
        have HMV := Lib.hid hmv
        cases j with
        | zero =>
          have hsr2 := Lib.hid hmv.front
          clear hro2 hmv hrow hl2
          go_wp2
          go_quiet (fail)
          go_wp2
          go_roundg (n - i)
          case measure => omega
          case rel => exact Lib.hid ⟨i + 1, m2, by omega, by omega, by go_num, hsr2.out, HRO.out.drewN _⟩
        | succ j =>
          obtain ⟨g, c', e, _⟩ := row_slice hrow (by omega)
          simp only [Value.slice.injEq, true_and] at e
          obtain ⟨rfl, rfl⟩ := e
          have p1 := nrow_at hrow (i := j + 1) (by omega)
          have p0 := nrow_at hrow (i := j) (by omega)
          have f1 := hrow.frozenAt (j + 1)
          have f0 := hrow.frozenAt j
          have z1 : ((j + 1 : Nat) : Int) > 0 := by omega
          have z1a : decide (((j + 1 : Nat) : Int) > 0) = true := decide_eq_true z1
          have z1b : decide (0 < ((j + 1 : Nat) : Int)) = true := decide_eq_true z1
          have z1c : decide (0 < j + 1) = true := decide_eq_true (by omega)
          have z1d : 0 < j + 1 := by omega
          have z2 : ((j + 1 : Nat) : Int) < (n : Int) := by omega
          have z3 : (j : Int) < (n : Int) := by omega
          have HW : IntKind.i64.wrap (((j + 1 : Nat) : Int) - 1) = (j : Int) := by rw [IntKind.wrap_i64]; omega
          have HRS : Hid (∀ X, RowOf w base (some ⟨g, 0, none⟩) n c l m2 X → RowOf w base (some ⟨g, 0, none⟩) n c l (swp m2 j) ((X.setCell ⟨g, j + 1, none⟩ (.string m2[j]!)).setCell ⟨g, j, none⟩ (.string m2[j + 1]!))) := Lib.hid (fun X hX => hX.swap (by omega))
          have HL := fun w => Lib.hid (less_any m2[j + 1]! m2[j]! w)
          cases hlt : lt8 m2[j + 1]! m2[j]! with
          | false =>
            have HST := Lib.hid (hmv.stop hji hlt)
            rw [hlt] at HL
            clear hro2 hrow hl2 hmv HMV hlt HRS
            generalize m2[j + 1]! = x1 at p1 HL
            generalize m2[j]! = x0 at p0 HL
            generalize j + 1 = J at *
            go_wp2
            go_quiet (first | (go_at_call 36; exact quiet_same ((HL _).out.mono fun _ _ h => ⟨h.1, h.2.symm⟩)))
            go_wp2
            go_roundg (n - i)
            case measure => omega
            case rel => exact Lib.hid ⟨i + 1, m2, by omega, by omega, by go_num, HST.out, HRO.out.drewN _⟩
          | true =>
            have HSW := Lib.hid (hmv.step hji (by omega) hlt)
            have hji2 : j ≤ i := by omega
            have hJj : j < j + 1 := by omega
            rw [hlt] at HL
            clear hro2 hrow hl2 hmv HMV hlt
            generalize m2[j + 1]! = x1 at p1 HL HRS
            generalize m2[j]! = x0 at p0 HL HRS
            generalize j + 1 = J at *
            go_wp2
            go_quiet (first | (go_at_call 36; exact quiet_same ((HL _).out.mono fun _ _ h => ⟨h.1, h.2.symm⟩)))
            go_wp2
            have hne : j ≠ J := by omega
            have hne2 : J ≠ j := by omega
            refine wp_region_held_drew (S := fun _ => True) (by kernel_rfl) trivial (fun hHeld => ?_)
            refine wpAnyH_take (i := 0) (oi := ({ dst := some 33, op := Go.Op.move (Go.Operand.tmp 0), type := 48, pos := _, after := #[], guard := none } : Oper)) (v := ?_) rfl (by kernel_rfl) (by kernel_rfl) (by kernel_rfl) (fun _ _ _ h => h) (Or.inl ⟨by rfl, ?_⟩) (by assumption) ?_
            rotate_left
            · intro W' hSw
              try dsimp only at hSw
              go_simp
              try with_reducible rfl
            try simp only [Act.put, List.setIfInBounds_toArray, List.set_cons_zero, List.set_cons_succ]
            refine wpAnyH_take (i := 1) (oi := ({ dst := some 34, op := Go.Op.move (Go.Operand.tmp 7), type := 3, pos := _, after := #[], guard := none } : Oper)) (v := ?_) rfl (by kernel_rfl) (by kernel_rfl) (by kernel_rfl) (fun _ _ _ h => h) (Or.inl ⟨by rfl, ?_⟩) (by assumption) ?_
            rotate_left
            · intro W' hSw
              try dsimp only at hSw
              go_simp
              try with_reducible rfl
            try simp only [Act.put, List.setIfInBounds_toArray, List.set_cons_zero, List.set_cons_succ]
            refine wpAnyH_take (i := 2) (oi := ({ dst := some 35, op := Go.Op.move (Go.Operand.tmp 0), type := 48, pos := _, after := #[{ on := 15, ground := Go.Ground.gcOnly Go.Departure.lateStores }], guard := none } : Oper)) (v := ?_) rfl (by kernel_rfl) (by kernel_rfl) (by kernel_rfl) (fun _ _ _ h => h) (Or.inl ⟨by rfl, ?_⟩) (by assumption) ?_
            rotate_left
            · intro W' hSw
              try dsimp only at hSw
              go_simp
              try with_reducible rfl
            try simp only [Act.put, List.setIfInBounds_toArray, List.set_cons_zero, List.set_cons_succ]
            refine wpAnyH_take (i := 3) (oi := ({ dst := some 36, op := Go.Op.move (Go.Operand.tmp 7), type := 3, pos := _, after := #[{ on := 15, ground := Go.Ground.gcOnly Go.Departure.lateStores }], guard := none } : Oper)) (v := ?_) rfl (by kernel_rfl) (by kernel_rfl) (by kernel_rfl) (fun _ _ _ h => h) (Or.inl ⟨by rfl, ?_⟩) (by assumption) ?_
            rotate_left
            · intro W' hSw
              try dsimp only at hSw
              go_simp
              try with_reducible rfl
            try simp only [Act.put, List.setIfInBounds_toArray, List.set_cons_zero, List.set_cons_succ]
            refine wpAnyH_take (i := 4) (oi := ({ dst := some 37, op := Go.Op.binOp Go.BinOp.sub 3 (Go.Operand.tmp 36) (Go.Operand.const (Go.Value.int Go.IntKind.i64 1)) 3, type := 3, pos := _, after := #[{ on := 3, ground := Go.Ground.data }, { on := 15, ground := Go.Ground.gcOnly Go.Departure.lateStores }], guard := none } : Oper)) (v := ?_) rfl (by kernel_rfl) (by kernel_rfl) (by kernel_rfl) (fun _ _ _ h => h) (Or.inl ⟨by rfl, ?_⟩) (by assumption) ?_
            rotate_left
            · intro W' hSw
              try dsimp only at hSw
              go_simp
              try with_reducible rfl
            try simp only [Act.put, List.setIfInBounds_toArray, List.set_cons_zero, List.set_cons_succ]
            refine wpAnyH_take (i := 5) (oi := ({ dst := some 38, op := Go.Op.move (Go.Operand.tmp 0), type := 48, pos := _, after := #[], guard := none } : Oper)) (v := ?_) rfl (by kernel_rfl) (by kernel_rfl) (by kernel_rfl) (fun _ _ _ h => h) (Or.inl ⟨by rfl, ?_⟩) (by assumption) ?_
            rotate_left
            · intro W' hSw
              try dsimp only at hSw
              go_simp
              try with_reducible rfl
            try simp only [Act.put, List.setIfInBounds_toArray, List.set_cons_zero, List.set_cons_succ]
            refine wpAnyH_take (i := 6) (oi := ({ dst := some 39, op := Go.Op.move (Go.Operand.tmp 7), type := 3, pos := _, after := #[], guard := none } : Oper)) (v := ?_) rfl (by kernel_rfl) (by kernel_rfl) (by kernel_rfl) (fun _ _ _ h => h) (Or.inl ⟨by rfl, ?_⟩) (by assumption) ?_
            rotate_left
            · intro W' hSw
              try dsimp only at hSw
              go_simp
              try with_reducible rfl
            try simp only [Act.put, List.setIfInBounds_toArray, List.set_cons_zero, List.set_cons_succ]
            refine wpAnyH_take (i := 7) (oi := ({ dst := some 40, op := Go.Op.binOp Go.BinOp.sub 3 (Go.Operand.tmp 39) (Go.Operand.const (Go.Value.int Go.IntKind.i64 1)) 3, type := 3, pos := _, after := #[{ on := 6, ground := Go.Ground.data }], guard := none } : Oper)) (v := ?_) rfl (by kernel_rfl) (by kernel_rfl) (by kernel_rfl) (fun _ _ _ h => h) (Or.inl ⟨by rfl, ?_⟩) (by assumption) ?_
            rotate_left
            · intro W' hSw
              try dsimp only at hSw
              go_simp
              try with_reducible rfl
            try simp only [Act.put, List.setIfInBounds_toArray, List.set_cons_zero, List.set_cons_succ]
            refine wpAnyH_take (i := 8) (oi := ({ dst := some 41, op := Go.Op.indexAddr 48 (Go.Operand.tmp 38) (Go.Operand.tmp 40), type := 0, pos := _, after := #[{ on := 5, ground := Go.Ground.data }, { on := 7, ground := Go.Ground.data }], guard := none } : Oper)) (v := ?_) rfl (by kernel_rfl) (by kernel_rfl) (by kernel_rfl) (fun _ _ _ h => h) (Or.inl ⟨by rfl, ?_⟩) (by assumption) ?_
            rotate_left
            · intro W' hSw
              try dsimp only at hSw
              go_simp
              try with_reducible rfl
            try simp only [Act.put, List.setIfInBounds_toArray, List.set_cons_zero, List.set_cons_succ]
            refine wpAnyH_take (i := 10) (oi := ({ dst := some 43, op := Go.Op.move (Go.Operand.tmp 0), type := 48, pos := _, after := #[], guard := none } : Oper)) (v := ?_) rfl (by kernel_rfl) (by kernel_rfl) (by kernel_rfl) (fun _ _ _ h => h) (Or.inl ⟨by rfl, ?_⟩) (by assumption) ?_
            rotate_left
            · intro W' hSw
              try dsimp only at hSw
              go_simp
              try with_reducible rfl
            try simp only [Act.put, List.setIfInBounds_toArray, List.set_cons_zero, List.set_cons_succ]
            refine wpAnyH_take (i := 11) (oi := ({ dst := some 44, op := Go.Op.move (Go.Operand.tmp 7), type := 3, pos := _, after := #[], guard := none } : Oper)) (v := ?_) rfl (by kernel_rfl) (by kernel_rfl) (by kernel_rfl) (fun _ _ _ h => h) (Or.inl ⟨by rfl, ?_⟩) (by assumption) ?_
            rotate_left
            · intro W' hSw
              try dsimp only at hSw
              go_simp
              try with_reducible rfl
            try simp only [Act.put, List.setIfInBounds_toArray, List.set_cons_zero, List.set_cons_succ]
            refine wpAnyH_take (i := 12) (oi := ({ dst := some 45, op := Go.Op.indexAddr 48 (Go.Operand.tmp 43) (Go.Operand.tmp 44), type := 0, pos := _, after := #[{ on := 10, ground := Go.Ground.data }, { on := 11, ground := Go.Ground.data }], guard := none } : Oper)) (v := ?_) rfl (by kernel_rfl) (by kernel_rfl) (by kernel_rfl) (fun _ _ _ h => h) (Or.inl ⟨by rfl, ?_⟩) (by assumption) ?_
            rotate_left
            · intro W' hSw
              try dsimp only at hSw
              go_simp
              try with_reducible rfl
            try simp only [Act.put, List.setIfInBounds_toArray, List.set_cons_zero, List.set_cons_succ]
            refine wpAnyH_ready (rs := [9, 13]) (by kernel_rfl) (by simp) ?_
            refine (AllReadyH.cons (o := ({ dst := some 42, op := Go.Op.load 9 (Go.Operand.tmp 41), type := 9, pos := _, after := #[{ on := 8, ground := Go.Ground.data }], guard := none } : Oper)) rfl (fun K hK => ?_) (AllReadyH.cons (o := ({ dst := some 46, op := Go.Op.load 9 (Go.Operand.tmp 45), type := 9, pos := _, after := #[{ on := 12, ground := Go.Ground.data }], guard := none } : Oper)) rfl (fun K hK => ?_) AllReadyH.nil))
            · go_simp
              refine hK.out _ _ ?_ (fun hHeld => ?_)
              · exact trivial
              clear hK K
              try simp only [Act.put, List.setIfInBounds_toArray, List.set_cons_zero, List.set_cons_succ]
              refine wpAnyH_ready (rs := [13]) (by kernel_rfl) (by simp) ?_
              refine AllReadyH.cons (o := ({ dst := some 46, op := Go.Op.load 9 (Go.Operand.tmp 45), type := 9, pos := _, after := #[{ on := 12, ground := Go.Ground.data }], guard := none } : Oper)) rfl (fun K hK => ?_) AllReadyH.nil
              go_simp
              refine hK.out _ _ ?_ (fun hHeld => ?_)
              · exact trivial
              clear hK K
              try simp only [Act.put, List.setIfInBounds_toArray, List.set_cons_zero, List.set_cons_succ]
              refine wpAnyH_take (i := 14) (oi := ({ dst := some 47, op := Go.Op.indexAddr 48 (Go.Operand.tmp 33) (Go.Operand.tmp 34), type := 0, pos := _, after := #[{ on := 0, ground := Go.Ground.data }, { on := 1, ground := Go.Ground.data }, { on := 0, ground := Go.Ground.phase }, { on := 1, ground := Go.Ground.phase }, { on := 2, ground := Go.Ground.textOnly Go.Departure.lateStores }, { on := 3, ground := Go.Ground.textOnly Go.Departure.lateStores }, { on := 4, ground := Go.Ground.textOnly Go.Departure.lateStores }, { on := 5, ground := Go.Ground.phase }, { on := 6, ground := Go.Ground.phase }, { on := 7, ground := Go.Ground.phase }, { on := 8, ground := Go.Ground.phase }, { on := 9, ground := Go.Ground.phase }, { on := 10, ground := Go.Ground.textOnly Go.Departure.lateStores }, { on := 11, ground := Go.Ground.textOnly Go.Departure.lateStores }, { on := 12, ground := Go.Ground.textOnly Go.Departure.lateStoresUnsure }, { on := 13, ground := Go.Ground.phase }], guard := none } : Oper)) (v := ?_) rfl (by kernel_rfl) (by kernel_rfl) (by kernel_rfl) (fun _ _ _ h => h) (Or.inl ⟨by rfl, ?_⟩) (by assumption) ?_
              rotate_left
              · intro W' hSw
                try dsimp only at hSw
                go_simp
                try with_reducible rfl
              try simp only [Act.put, List.setIfInBounds_toArray, List.set_cons_zero, List.set_cons_succ]
              refine wpAnyH_ready (rs := [15]) (by kernel_rfl) (by simp) ?_
              refine AllReadyH.cons (o := ({ dst := none, op := Go.Op.store 9 (Go.Operand.tmp 47) (Go.Operand.tmp 42), type := 0, pos := _, after := #[{ on := 14, ground := Go.Ground.data }, { on := 9, ground := Go.Ground.data }, { on := 0, ground := Go.Ground.phase }, { on := 1, ground := Go.Ground.phase }, { on := 2, ground := Go.Ground.textOnly Go.Departure.lateStores }, { on := 3, ground := Go.Ground.textOnly Go.Departure.lateStores }, { on := 4, ground := Go.Ground.textOnly Go.Departure.lateStores }, { on := 5, ground := Go.Ground.phase }, { on := 6, ground := Go.Ground.phase }, { on := 7, ground := Go.Ground.phase }, { on := 8, ground := Go.Ground.phase }, { on := 9, ground := Go.Ground.phase }, { on := 10, ground := Go.Ground.textOnly Go.Departure.lateStores }, { on := 11, ground := Go.Ground.textOnly Go.Departure.lateStores }, { on := 12, ground := Go.Ground.textOnly Go.Departure.lateStoresUnsure }, { on := 13, ground := Go.Ground.phase }], guard := none } : Oper)) rfl (fun K hK => ?_) AllReadyH.nil
              go_simp
              refine hK.out _ _ ?_ (fun hHeld => ?_)
              · exact trivial
              clear hK K
              try simp only [Act.put, List.setIfInBounds_toArray, List.set_cons_zero, List.set_cons_succ]
              refine wpAnyH_take (i := 16) (oi := ({ dst := some 48, op := Go.Op.indexAddr 48 (Go.Operand.tmp 35) (Go.Operand.tmp 37), type := 0, pos := _, after := #[{ on := 2, ground := Go.Ground.data }, { on := 4, ground := Go.Ground.data }, { on := 0, ground := Go.Ground.phase }, { on := 1, ground := Go.Ground.phase }, { on := 2, ground := Go.Ground.phase }, { on := 3, ground := Go.Ground.phase }, { on := 4, ground := Go.Ground.phase }, { on := 5, ground := Go.Ground.phase }, { on := 6, ground := Go.Ground.phase }, { on := 7, ground := Go.Ground.phase }, { on := 8, ground := Go.Ground.phase }, { on := 9, ground := Go.Ground.phase }, { on := 10, ground := Go.Ground.phase }, { on := 11, ground := Go.Ground.phase }, { on := 12, ground := Go.Ground.phase }, { on := 13, ground := Go.Ground.phase }, { on := 14, ground := Go.Ground.phase }, { on := 15, ground := Go.Ground.phase }], guard := none } : Oper)) (v := ?_) rfl (by kernel_rfl) (by kernel_rfl) (by kernel_rfl) (fun _ _ _ h => h) (Or.inl ⟨by rfl, ?_⟩) (by assumption) ?_
              rotate_left
              · intro W' hSw
                try dsimp only at hSw
                go_simp
                try with_reducible rfl
              try simp only [Act.put, List.setIfInBounds_toArray, List.set_cons_zero, List.set_cons_succ]
              refine wpAnyH_ready (rs := [17]) (by kernel_rfl) (by simp) ?_
              refine AllReadyH.cons (o := ({ dst := none, op := Go.Op.store 9 (Go.Operand.tmp 48) (Go.Operand.tmp 46), type := 0, pos := _, after := #[{ on := 16, ground := Go.Ground.data }, { on := 13, ground := Go.Ground.data }, { on := 15, ground := Go.Ground.chain }, { on := 0, ground := Go.Ground.phase }, { on := 1, ground := Go.Ground.phase }, { on := 2, ground := Go.Ground.phase }, { on := 3, ground := Go.Ground.phase }, { on := 4, ground := Go.Ground.phase }, { on := 5, ground := Go.Ground.phase }, { on := 6, ground := Go.Ground.phase }, { on := 7, ground := Go.Ground.phase }, { on := 8, ground := Go.Ground.phase }, { on := 9, ground := Go.Ground.phase }, { on := 10, ground := Go.Ground.phase }, { on := 11, ground := Go.Ground.phase }, { on := 12, ground := Go.Ground.phase }, { on := 13, ground := Go.Ground.phase }, { on := 14, ground := Go.Ground.phase }, { on := 15, ground := Go.Ground.phase }], guard := none } : Oper)) rfl (fun K hK => ?_) AllReadyH.nil
              go_simp
              refine hK.out _ _ ?_ (fun hHeld => ?_)
              · exact trivial
              clear hK K
              try simp only [Act.put, List.setIfInBounds_toArray, List.set_cons_zero, List.set_cons_succ]
              refine wpAnyH_done (by kernel_rfl) ?_ _
              go_wp2
              go_roundg j
              case measure => omega
              case rel => exact Lib.hid ⟨j, swp m2 j, rfl, hji2, by go_num, HSW.out, HRS.out _ (HRO.out.drewN _).drew⟩
            · go_simp
              refine hK.out _ _ ?_ (fun hHeld => ?_)
              · exact trivial
              clear hK K
              try simp only [Act.put, List.setIfInBounds_toArray, List.set_cons_zero, List.set_cons_succ]
              refine wpAnyH_ready (rs := [9]) (by kernel_rfl) (by simp) ?_
              refine AllReadyH.cons (o := ({ dst := some 42, op := Go.Op.load 9 (Go.Operand.tmp 41), type := 9, pos := _, after := #[{ on := 8, ground := Go.Ground.data }], guard := none } : Oper)) rfl (fun K hK => ?_) AllReadyH.nil
              go_simp
              refine hK.out _ _ ?_ (fun hHeld => ?_)
              · exact trivial
              clear hK K
              try simp only [Act.put, List.setIfInBounds_toArray, List.set_cons_zero, List.set_cons_succ]
              refine wpAnyH_take (i := 14) (oi := ({ dst := some 47, op := Go.Op.indexAddr 48 (Go.Operand.tmp 33) (Go.Operand.tmp 34), type := 0, pos := _, after := #[{ on := 0, ground := Go.Ground.data }, { on := 1, ground := Go.Ground.data }, { on := 0, ground := Go.Ground.phase }, { on := 1, ground := Go.Ground.phase }, { on := 2, ground := Go.Ground.textOnly Go.Departure.lateStores }, { on := 3, ground := Go.Ground.textOnly Go.Departure.lateStores }, { on := 4, ground := Go.Ground.textOnly Go.Departure.lateStores }, { on := 5, ground := Go.Ground.phase }, { on := 6, ground := Go.Ground.phase }, { on := 7, ground := Go.Ground.phase }, { on := 8, ground := Go.Ground.phase }, { on := 9, ground := Go.Ground.phase }, { on := 10, ground := Go.Ground.textOnly Go.Departure.lateStores }, { on := 11, ground := Go.Ground.textOnly Go.Departure.lateStores }, { on := 12, ground := Go.Ground.textOnly Go.Departure.lateStoresUnsure }, { on := 13, ground := Go.Ground.phase }], guard := none } : Oper)) (v := ?_) rfl (by kernel_rfl) (by kernel_rfl) (by kernel_rfl) (fun _ _ _ h => h) (Or.inl ⟨by rfl, ?_⟩) (by assumption) ?_
              rotate_left
              · intro W' hSw
                try dsimp only at hSw
                go_simp
                try with_reducible rfl
              try simp only [Act.put, List.setIfInBounds_toArray, List.set_cons_zero, List.set_cons_succ]
              refine wpAnyH_ready (rs := [15]) (by kernel_rfl) (by simp) ?_
              refine AllReadyH.cons (o := ({ dst := none, op := Go.Op.store 9 (Go.Operand.tmp 47) (Go.Operand.tmp 42), type := 0, pos := _, after := #[{ on := 14, ground := Go.Ground.data }, { on := 9, ground := Go.Ground.data }, { on := 0, ground := Go.Ground.phase }, { on := 1, ground := Go.Ground.phase }, { on := 2, ground := Go.Ground.textOnly Go.Departure.lateStores }, { on := 3, ground := Go.Ground.textOnly Go.Departure.lateStores }, { on := 4, ground := Go.Ground.textOnly Go.Departure.lateStores }, { on := 5, ground := Go.Ground.phase }, { on := 6, ground := Go.Ground.phase }, { on := 7, ground := Go.Ground.phase }, { on := 8, ground := Go.Ground.phase }, { on := 9, ground := Go.Ground.phase }, { on := 10, ground := Go.Ground.textOnly Go.Departure.lateStores }, { on := 11, ground := Go.Ground.textOnly Go.Departure.lateStores }, { on := 12, ground := Go.Ground.textOnly Go.Departure.lateStoresUnsure }, { on := 13, ground := Go.Ground.phase }], guard := none } : Oper)) rfl (fun K hK => ?_) AllReadyH.nil
              go_simp
              refine hK.out _ _ ?_ (fun hHeld => ?_)
              · exact trivial
              clear hK K
              try simp only [Act.put, List.setIfInBounds_toArray, List.set_cons_zero, List.set_cons_succ]
              refine wpAnyH_take (i := 16) (oi := ({ dst := some 48, op := Go.Op.indexAddr 48 (Go.Operand.tmp 35) (Go.Operand.tmp 37), type := 0, pos := _, after := #[{ on := 2, ground := Go.Ground.data }, { on := 4, ground := Go.Ground.data }, { on := 0, ground := Go.Ground.phase }, { on := 1, ground := Go.Ground.phase }, { on := 2, ground := Go.Ground.phase }, { on := 3, ground := Go.Ground.phase }, { on := 4, ground := Go.Ground.phase }, { on := 5, ground := Go.Ground.phase }, { on := 6, ground := Go.Ground.phase }, { on := 7, ground := Go.Ground.phase }, { on := 8, ground := Go.Ground.phase }, { on := 9, ground := Go.Ground.phase }, { on := 10, ground := Go.Ground.phase }, { on := 11, ground := Go.Ground.phase }, { on := 12, ground := Go.Ground.phase }, { on := 13, ground := Go.Ground.phase }, { on := 14, ground := Go.Ground.phase }, { on := 15, ground := Go.Ground.phase }], guard := none } : Oper)) (v := ?_) rfl (by kernel_rfl) (by kernel_rfl) (by kernel_rfl) (fun _ _ _ h => h) (Or.inl ⟨by rfl, ?_⟩) (by assumption) ?_
              rotate_left
              · intro W' hSw
                try dsimp only at hSw
                go_simp
                try with_reducible rfl
              try simp only [Act.put, List.setIfInBounds_toArray, List.set_cons_zero, List.set_cons_succ]
              refine wpAnyH_ready (rs := [17]) (by kernel_rfl) (by simp) ?_
              refine AllReadyH.cons (o := ({ dst := none, op := Go.Op.store 9 (Go.Operand.tmp 48) (Go.Operand.tmp 46), type := 0, pos := _, after := #[{ on := 16, ground := Go.Ground.data }, { on := 13, ground := Go.Ground.data }, { on := 15, ground := Go.Ground.chain }, { on := 0, ground := Go.Ground.phase }, { on := 1, ground := Go.Ground.phase }, { on := 2, ground := Go.Ground.phase }, { on := 3, ground := Go.Ground.phase }, { on := 4, ground := Go.Ground.phase }, { on := 5, ground := Go.Ground.phase }, { on := 6, ground := Go.Ground.phase }, { on := 7, ground := Go.Ground.phase }, { on := 8, ground := Go.Ground.phase }, { on := 9, ground := Go.Ground.phase }, { on := 10, ground := Go.Ground.phase }, { on := 11, ground := Go.Ground.phase }, { on := 12, ground := Go.Ground.phase }, { on := 13, ground := Go.Ground.phase }, { on := 14, ground := Go.Ground.phase }, { on := 15, ground := Go.Ground.phase }], guard := none } : Oper)) rfl (fun K hK => ?_) AllReadyH.nil
              go_simp
              refine hK.out _ _ ?_ (fun hHeld => ?_)
              · exact trivial
              clear hK K
              try simp only [Act.put, List.setIfInBounds_toArray, List.set_cons_zero, List.set_cons_succ]
              refine wpAnyH_done (by kernel_rfl) ?_ _
              go_wp2
              go_roundg j
              case measure => omega
              case rel => exact Lib.hid ⟨j, swp m2 j, rfl, hji2, by go_num, HSW.out, HRS.out _ (HRO.out.drewN _).drew⟩
    · have hiz : ¬ (i : Int) < (n : Int) := by omega
      have HR := Lib.hid (And.intro hsr hro)
      clear hsr hro
      go_wp2
      go_end0
      have h1 := HR.out.2.1
      exact ⟨rfl, m, fun p q hp hq => HR.out.1 p q hp (by omega), HR.out.2⟩

/-! ## slices.Sort -/
set_option maxHeartbeats 2000000 in
theorem len64_any {n : Nat} (hn : n ≤ 8) (w : World) : Calls Try.prog 40 #[.int .u64 n] w fun e w' => (∃ k : Int, e = .returned (.int .i64 k)) ∧ w' = w := by
  have h : n = 0 ∨ n = 1 ∨ n = 2 ∨ n = 3 ∨ n = 4 ∨ n = 5 ∨ n = 6 ∨ n = 7 ∨ n = 8 := by omega
  rcases h with rfl | rfl | rfl | rfl | rfl | rfl | rfl | rfl | rfl
  all_goals
    go_enter Try.func40, Try.ntmps40
    go_wp2
    go_ret
    exact ⟨⟨_, rfl⟩, rfl⟩
end Go.Proofs.Ytbeacddclphjgaa
