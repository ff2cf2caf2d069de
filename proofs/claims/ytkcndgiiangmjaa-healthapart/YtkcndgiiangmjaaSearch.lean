/-
  slices.BinarySearchFunc over timers: how many stand ahead of one.
-/
import Derived.Test.YtkcndgiiangmjaaCmp
namespace Go.Proofs.Ytkcndgiiangmjaa
open Go.RowKit
set_option linter.unusedVariables false
set_option linter.unusedSimpArgs false
set_option maxRecDepth 10000

def SRel (w : World) (base n : Nat) (sv : Value) (l : List Tm) (t : Tm) (gg : Nat) (s9 s10 : Value) (wr : World) : Prop :=
  ∃ lo hi : Nat, s9 = .int .i64 lo ∧ s10 = .int .i64 hi ∧ lo ≤ cnt t l ∧ cnt t l ≤ hi ∧ hi ≤ n ∧ hi - lo ≤ gg ∧ wr.ownsRow base 90 2 sv n (tcells l) ∧ Below w.heap.size w wr ∧
    wr.cell? ⟨w.heap.size, 0, none⟩ = some (.int .i64 t.id) ∧ wr.cell? ⟨w.heap.size, 1, none⟩ = some (.int .i64 t.at_) ∧ w.heap.size < wr.heap.size

theorem undrew {B : Nat} {w w1 : World} (h : Below B w.drew w1) : Below B w w1 := ⟨h.os, h.tape, h.output, h.size, h.block⟩
theorem mid (lo hi : Nat) : ((lo : Int) + (hi : Int)) / 2 = (((lo + hi) / 2 : Nat) : Int) := by omega

set_option maxHeartbeats 800000 in
theorem search_any {w : World} {base n c : Nat} {a : Option Addr} {l : List Tm} {t : Tm} (hrow : w.ownsRow base 90 2 (.slice a n c) n (tcells l)) (hs : Srt l) (hn : n ≤ 100000) :
    Calls Try.prog 42 #[.slice a n c, tv t, .func (.func 43) #[] #[]] w fun e w' => (∃ b, e = .returned (.tuple #[.int .i64 (cnt t l), .bool b])) ∧ Below w.heap.size w w' := by
  have hl : l.length = n := by have := hrow.1; rw [tcells_len] at this; omega
  have hcn : cnt t l ≤ n := by rw [← hl]; exact cnt_le t l
  have HF := Lib.hid (cnt_first (t := t) hs)
  have HN := Lib.hid hl
  have HROW := Lib.hid hrow
  have HCN := Lib.hid hcn
  have hnc : n ≤ c := by
    obtain ⟨a', c', e, h1, _⟩ := row_any hrow
    simp at e
    omega
  obtain ⟨ct, hct⟩ : ∃ ct, ct = cnt t l := ⟨_, rfl⟩
  have HCT := Lib.hid hct
  rw [← hct]
  clear hct
  obtain ⟨ti, ta⟩ := t
  simp only [tv]
  clear hcn hl hs hrow
  go_enter Try.func42, Try.ntmps42
  go_wp2
  go_loopg [9, 10] n (fun gg s9 s10 wr => Hid (SRel w base n (.slice a n c) l ⟨ti, ta⟩ gg s9 s10 wr))
  case atStart =>
    refine Lib.hid ⟨0, n, rfl, rfl, Nat.zero_le _, HCN.out, Nat.le_refl _, by omega, row_below HROW.out (below_alloc (Below.refl _ _) _), below_alloc (Below.refl _ _) _, ?_, ?_, by simp⟩
    · simp [go_sem]
    · simp [go_sem]
  case round =>
    obtain ⟨lo, hi, rfl, rfl, h1, h2, h3, h4, hr, hb, hc0, hc1, hsz⟩ := hrel.out
    rw [← HCT.out] at h1 h2
    clear hrel
    by_cases hlt : lo < hi
    · have hm : (lo + hi) / 2 < n := by omega
      have hmz : (((lo + hi) / 2 : Nat) : Int) < (n : Int) := by omega
      obtain ⟨g, c', e, _⟩ := row_slice hr (by omega)
      simp at e
      obtain ⟨rfl, rfl⟩ := e
      obtain ⟨d0, d1⟩ := trow_at hr hm
      have hf := HF.out ((lo + hi) / 2) (by rw [HN.out]; exact hm)
      rw [← HCT.out] at hf
      have hmid := mid lo hi
      generalize hM : (lo + hi) / 2 = M at *
      generalize hX : l[M]! = X at d0 d1 hf
      obtain ⟨xi, xa⟩ := X
      simp only at d0 d1
      have HR := Lib.hid hr
      have HB := Lib.hid hb
      have HFF := Lib.hid hf
      have HM := Lib.hid hM
      clear hr hb hf hM hX
      have hT := Lib.hid (fun W => inTurn_any ⟨xi, xa⟩ ⟨ti, ta⟩ W)
      generalize hp : turn ⟨xi, xa⟩ ⟨ti, ta⟩ = p at hT
      have HP := Lib.hid (hp ▸ turn_neg ⟨xi, xa⟩ ⟨ti, ta⟩)
      clear hp
      simp only [tv] at hT
      by_cases hp0 : p < 0
      · have hMK := HFF.out.1 (HP.out.1 hp0)
        go_wp2
        refine wp_region_tail 6 (by kernel_rfl) (by kernel_rfl) ?_
        simp only [List.take_succ_cons, List.take_zero, List.drop_succ_cons, List.drop_zero]
        repeat still_step
        refine wpStill_nil ?_
        go_wp2_with (go_at_call 43; refine (hT.out _).mono ?_; rintro e w1 ⟨rfl, hb1⟩)
        go_roundg (hi - (M + 1))
        case measure => have := HM.out; omega
        case rel =>
          refine Lib.hid ⟨M + 1, hi, by go_num, rfl, by rw [← HCT.out]; omega, by rw [← HCT.out]; omega, h3, Nat.le_refl _, ?_, ?_, ?_, ?_, ?_⟩
          · exact row_below HR.out (undrew hb1)
          · exact HB.out.trans (Below.mono (undrew hb1) HB.out.size)
          · rw [Below.cell (undrew hb1) (p := ⟨w.heap.size, 0, none⟩) hsz]; exact hc0
          · rw [Below.cell (undrew hb1) (p := ⟨w.heap.size, 1, none⟩) hsz]; exact hc1
          · exact Nat.lt_of_lt_of_le hsz hb1.size
      · have hMK : ¬ M < ct := fun h => hp0 (HP.out.2 (HFF.out.2 h))
        go_wp2
        refine wp_region_tail 6 (by kernel_rfl) (by kernel_rfl) ?_
        simp only [List.take_succ_cons, List.take_zero, List.drop_succ_cons, List.drop_zero]
        repeat still_step
        refine wpStill_nil ?_
        go_wp2_with (go_at_call 43; refine (hT.out _).mono ?_; rintro e w1 ⟨rfl, hb1⟩)
        go_roundg (M - lo)
        case measure => have := HM.out; omega
        case rel =>
          refine Lib.hid ⟨lo, M, rfl, rfl, by rw [← HCT.out]; omega, by rw [← HCT.out]; omega, by omega, Nat.le_refl _, ?_, ?_, ?_, ?_, ?_⟩
          · exact row_below HR.out (undrew hb1)
          · exact HB.out.trans (Below.mono (undrew hb1) HB.out.size)
          · rw [Below.cell (undrew hb1) (p := ⟨w.heap.size, 0, none⟩) hsz]; exact hc0
          · rw [Below.cell (undrew hb1) (p := ⟨w.heap.size, 1, none⟩) hsz]; exact hc1
          · exact Nat.lt_of_lt_of_le hsz hb1.size
    · obtain rfl : hi = lo := by omega
      obtain rfl : ct = hi := by omega
      by_cases hKn : ct < n
      · have hKz : (ct : Int) < (n : Int) := by omega
        have hKd : decide ((ct : Int) < (n : Int)) = true := decide_eq_true hKz
        obtain ⟨g, c', e, _, _, _, hgs⟩ := row_slice hr (by omega)
        simp at e
        obtain ⟨rfl, rfl⟩ := e
        obtain ⟨d0, d1⟩ := trow_at hr hKn
        generalize hX : l[ct]! = X at d0 d1
        obtain ⟨xi, xa⟩ := X
        simp only at d0 d1
        have HB := Lib.hid hb
        clear hr hb hX
        have hT := Lib.hid (fun W => inTurn_any ⟨xi, xa⟩ ⟨ti, ta⟩ W)
        generalize hp : turn ⟨xi, xa⟩ ⟨ti, ta⟩ = p at hT
        clear hp
        simp only [tv] at hT
        go_wp2
        refine wp_region_held_drew (S := fun W => W.cell? ⟨g, ct * 2, none⟩ = some (.int .i64 xi) ∧ W.cell? ⟨g, ct * 2 + 1, none⟩ = some (.int .i64 xa) ∧ W.cell? ⟨w.heap.size, 0, none⟩ = some (.int .i64 ti) ∧ W.cell? ⟨w.heap.size, 1, none⟩ = some (.int .i64 ta) ∧ w.heap.size < W.heap.size ∧ g < W.heap.size ∧ Below w.heap.size w W) (by kernel_rfl) ⟨d0, d1, hc0, hc1, hsz, hgs, below_drew HB.out⟩ (fun hHeld => ?_)
        refine wpAnyH_take (i := 0) (oi := ({ dst := some 35, op := Go.Op.move (Go.Operand.tmp 9), type := 3, pos := _, after := #[], guard := none } : Oper)) (v := ?_) rfl (by kernel_rfl) (by kernel_rfl) (by kernel_rfl) (fun _ _ _ h => h) (Or.inl ⟨by rfl, ?_⟩) (by assumption) ?_
        rotate_left
        · intro W' hSw
          try dsimp only at hSw
          go_simp
          try with_reducible rfl
        try simp only [Act.put, List.setIfInBounds_toArray, List.set_cons_zero, List.set_cons_succ]
        refine wpAnyH_take (i := 1) (oi := ({ dst := some 36, op := Go.Op.move (Go.Operand.tmp 9), type := 3, pos := _, after := #[], guard := none } : Oper)) (v := ?_) rfl (by kernel_rfl) (by kernel_rfl) (by kernel_rfl) (fun _ _ _ h => h) (Or.inl ⟨by rfl, ?_⟩) (by assumption) ?_
        rotate_left
        · intro W' hSw
          try dsimp only at hSw
          go_simp
          try with_reducible rfl
        try simp only [Act.put, List.setIfInBounds_toArray, List.set_cons_zero, List.set_cons_succ]
        refine wpAnyH_take (i := 2) (oi := ({ dst := some 37, op := Go.Op.move (Go.Operand.tmp 8), type := 3, pos := _, after := #[], guard := none } : Oper)) (v := ?_) rfl (by kernel_rfl) (by kernel_rfl) (by kernel_rfl) (fun _ _ _ h => h) (Or.inl ⟨by rfl, ?_⟩) (by assumption) ?_
        rotate_left
        · intro W' hSw
          try dsimp only at hSw
          go_simp
          try with_reducible rfl
        try simp only [Act.put, List.setIfInBounds_toArray, List.set_cons_zero, List.set_cons_succ]
        refine wpAnyH_take (i := 3) (oi := ({ dst := some 38, op := Go.Op.binOp Go.BinOp.lss 3 (Go.Operand.tmp 36) (Go.Operand.tmp 37) 3, type := 4, pos := _, after := #[{ on := 1, ground := Go.Ground.data }, { on := 2, ground := Go.Ground.data }], guard := none } : Oper)) (v := ?_) rfl (by kernel_rfl) (by kernel_rfl) (by kernel_rfl) (fun _ _ _ h => h) (Or.inl ⟨by rfl, ?_⟩) (by assumption) ?_
        rotate_left
        · intro W' hSw
          try dsimp only at hSw
          go_simp
          try with_reducible rfl
        try simp only [Act.put, List.setIfInBounds_toArray, List.set_cons_zero, List.set_cons_succ]
        refine wpAnyH_take (i := 4) (oi := ({ dst := some 39, op := Go.Op.move (Go.Operand.tmp 38), type := 4, pos := _, after := #[{ on := 3, ground := Go.Ground.data }], guard := none } : Oper)) (v := ?_) rfl (by kernel_rfl) (by kernel_rfl) (by kernel_rfl) (fun _ _ _ h => h) (Or.inl ⟨by rfl, ?_⟩) (by assumption) ?_
        rotate_left
        · intro W' hSw
          try dsimp only at hSw
          go_simp
          try with_reducible rfl
        try simp only [Act.put, List.setIfInBounds_toArray, List.set_cons_zero, List.set_cons_succ]
        refine wpAnyH_take (i := 5) (oi := ({ dst := some 40, op := Go.Op.move (Go.Operand.tmp 2), type := 99, pos := _, after := #[{ on := 4, ground := Go.Ground.guard }], guard := some (4, true) } : Oper)) (v := ?_) rfl (by kernel_rfl) (by kernel_rfl) (by kernel_rfl) (fun _ _ _ h => h) (Or.inl ⟨by rfl, ?_⟩) (by assumption) ?_
        rotate_left
        · intro W' hSw
          try dsimp only at hSw
          go_simp
          try with_reducible rfl
        try simp only [Act.put, List.setIfInBounds_toArray, List.set_cons_zero, List.set_cons_succ]
        refine wpAnyH_take (i := 6) (oi := ({ dst := some 41, op := Go.Op.move (Go.Operand.tmp 0), type := 83, pos := _, after := #[{ on := 4, ground := Go.Ground.guard }], guard := some (4, true) } : Oper)) (v := ?_) rfl (by kernel_rfl) (by kernel_rfl) (by kernel_rfl) (fun _ _ _ h => h) (Or.inl ⟨by rfl, ?_⟩) (by assumption) ?_
        rotate_left
        · intro W' hSw
          try dsimp only at hSw
          go_simp
          try with_reducible rfl
        try simp only [Act.put, List.setIfInBounds_toArray, List.set_cons_zero, List.set_cons_succ]
        refine wpAnyH_take (i := 7) (oi := ({ dst := some 42, op := Go.Op.move (Go.Operand.tmp 9), type := 3, pos := _, after := #[{ on := 4, ground := Go.Ground.guard }], guard := some (4, true) } : Oper)) (v := ?_) rfl (by kernel_rfl) (by kernel_rfl) (by kernel_rfl) (fun _ _ _ h => h) (Or.inl ⟨by rfl, ?_⟩) (by assumption) ?_
        rotate_left
        · intro W' hSw
          try dsimp only at hSw
          go_simp
          try with_reducible rfl
        try simp only [Act.put, List.setIfInBounds_toArray, List.set_cons_zero, List.set_cons_succ]
        refine wpAnyH_take (i := 8) (oi := ({ dst := some 43, op := Go.Op.indexAddr 83 (Go.Operand.tmp 41) (Go.Operand.tmp 42), type := 0, pos := _, after := #[{ on := 6, ground := Go.Ground.data }, { on := 7, ground := Go.Ground.data }, { on := 4, ground := Go.Ground.guard }], guard := some (4, true) } : Oper)) (v := ?_) rfl (by kernel_rfl) (by kernel_rfl) (by kernel_rfl) (fun _ _ _ h => h) (Or.inl ⟨by rfl, ?_⟩) (by assumption) ?_
        rotate_left
        · intro W' hSw
          try dsimp only at hSw
          go_simp
          try with_reducible rfl
        try simp only [Act.put, List.setIfInBounds_toArray, List.set_cons_zero, List.set_cons_succ]
        refine wpAnyH_take (i := 9) (oi := ({ dst := some 44, op := Go.Op.load 90 (Go.Operand.tmp 43), type := 90, pos := _, after := #[{ on := 8, ground := Go.Ground.data }, { on := 4, ground := Go.Ground.guard }], guard := some (4, true) } : Oper)) (v := ?_) rfl (by kernel_rfl) (by kernel_rfl) (by kernel_rfl) (fun _ _ _ h => h) (Or.inl ⟨by rfl, ?_⟩) (by assumption) ?_
        rotate_left
        · intro W' hSw
          try dsimp only at hSw
          obtain ⟨f0, f1, f2, f3, -⟩ := hSw
          go_simp
          try with_reducible rfl
        try simp only [Act.put, List.setIfInBounds_toArray, List.set_cons_zero, List.set_cons_succ]
        refine wpAnyH_take (i := 10) (oi := ({ dst := some 45, op := Go.Op.load 90 (Go.Operand.tmp 4), type := 90, pos := _, after := #[{ on := 4, ground := Go.Ground.guard }], guard := some (4, true) } : Oper)) (v := ?_) rfl (by kernel_rfl) (by kernel_rfl) (by kernel_rfl) (fun _ _ _ h => h) (Or.inl ⟨by rfl, ?_⟩) (by assumption) ?_
        rotate_left
        · intro W' hSw
          try dsimp only at hSw
          obtain ⟨f0, f1, f2, f3, -⟩ := hSw
          go_simp
          try with_reducible rfl
        try simp only [Act.put, List.setIfInBounds_toArray, List.set_cons_zero, List.set_cons_succ]
        refine wpAnyH_ready (rs := [11]) (by kernel_rfl) (by simp) ?_
        refine AllReadyH.cons (o := ({ dst := some 46, op := Go.Op.call { callee := Go.Callee.value (Go.Operand.tmp 40), args := #[Go.Operand.tmp 44, Go.Operand.tmp 45], argTypes := #[90, 90] }, type := 3, pos := _, after := #[{ on := 5, ground := Go.Ground.data }, { on := 9, ground := Go.Ground.data }, { on := 10, ground := Go.Ground.data }, { on := 4, ground := Go.Ground.chain }, { on := 4, ground := Go.Ground.guard }], guard := some (4, true) } : Oper)) rfl (fun K hK => ?_) AllReadyH.nil
        go_simp
        refine (hT.out _).mono ?_
        rintro e w1 ⟨rfl, hb1⟩
        go_wp2_with fail
        refine hK.out _ _ ?_ (fun hHeld => ?_)
        · exact ⟨by rw [hb1.cell (p := ⟨g, ct * 2, none⟩) hHeld.2.2.2.2.2.1]; exact hHeld.1, by rw [hb1.cell (p := ⟨g, ct * 2 + 1, none⟩) hHeld.2.2.2.2.2.1]; exact hHeld.2.1, by rw [hb1.cell (p := ⟨w.heap.size, 0, none⟩) hHeld.2.2.2.2.1]; exact hHeld.2.2.1, by rw [hb1.cell (p := ⟨w.heap.size, 1, none⟩) hHeld.2.2.2.2.1]; exact hHeld.2.2.2.1, Nat.lt_of_lt_of_le hHeld.2.2.2.2.1 hb1.size, Nat.lt_of_lt_of_le hHeld.2.2.2.2.2.1 hb1.size, hHeld.2.2.2.2.2.2.trans (hb1.mono hHeld.2.2.2.2.2.2.size)⟩
        clear hK K
        try simp only [Act.put, List.setIfInBounds_toArray, List.set_cons_zero, List.set_cons_succ]
        refine wpAnyH_take (i := 12) (oi := ({ dst := some 47, op := Go.Op.binOp Go.BinOp.eql 3 (Go.Operand.tmp 46) (Go.Operand.const (Go.Value.int Go.IntKind.i64 0)) 3, type := 4, pos := _, after := #[{ on := 11, ground := Go.Ground.data }, { on := 4, ground := Go.Ground.guard }, { on := 14, ground := Go.Ground.gcOnly Go.Departure.lateStores }], guard := some (4, true) } : Oper)) (v := ?_) rfl (by kernel_rfl) (by kernel_rfl) (by kernel_rfl) (fun _ _ _ h => h) (Or.inl ⟨by rfl, ?_⟩) (by assumption) ?_
        rotate_left
        · intro W' hSw
          try dsimp only at hSw
          go_simp
          try with_reducible rfl
        try simp only [Act.put, List.setIfInBounds_toArray, List.set_cons_zero, List.set_cons_succ]
        refine wpAnyH_take (i := 13) (oi := ({ dst := some 48, op := Go.Op.pick (Go.Operand.tmp 39) (Go.Operand.tmp 47) (Go.Operand.const (Go.Value.bool false)), type := 4, pos := _, after := #[{ on := 4, ground := Go.Ground.data }, { on := 12, ground := Go.Ground.data }, { on := 14, ground := Go.Ground.gcOnly Go.Departure.lateStores }], guard := none } : Oper)) (v := ?_) rfl (by kernel_rfl) (by kernel_rfl) (by kernel_rfl) (fun _ _ _ h => h) (Or.inl ⟨by rfl, ?_⟩) (by assumption) ?_
        rotate_left
        · intro W' hSw
          try dsimp only at hSw
          go_simp
          try with_reducible rfl
        try simp only [Act.put, List.setIfInBounds_toArray, List.set_cons_zero, List.set_cons_succ]
        refine wpAnyH_take (i := 14) (oi := ({ dst := some 6, op := Go.Op.assign (Go.Operand.tmp 35), type := 3, pos := _, after := #[{ on := 0, ground := Go.Ground.data }, { on := 11, ground := Go.Ground.chain }, { on := 0, ground := Go.Ground.phase }, { on := 1, ground := Go.Ground.textOnly Go.Departure.lateStores }, { on := 2, ground := Go.Ground.textOnly Go.Departure.lateStores }, { on := 3, ground := Go.Ground.textOnly Go.Departure.lateStores }, { on := 4, ground := Go.Ground.textOnly Go.Departure.lateStores }, { on := 5, ground := Go.Ground.textOnly Go.Departure.lateStores }, { on := 6, ground := Go.Ground.textOnly Go.Departure.lateStores }, { on := 7, ground := Go.Ground.textOnly Go.Departure.lateStores }, { on := 8, ground := Go.Ground.textOnly Go.Departure.lateStores }, { on := 9, ground := Go.Ground.textOnly Go.Departure.lateStores }, { on := 10, ground := Go.Ground.textOnly Go.Departure.lateStores }, { on := 11, ground := Go.Ground.textOnly Go.Departure.lateStoresUnsure }, { on := 12, ground := Go.Ground.textOnly Go.Departure.lateStores }, { on := 13, ground := Go.Ground.textOnly Go.Departure.lateStores }], guard := none } : Oper)) (v := ?_) rfl (by kernel_rfl) (by kernel_rfl) (by kernel_rfl) (fun _ _ _ h => h) (Or.inl ⟨by rfl, ?_⟩) (by assumption) ?_
        rotate_left
        · intro W' hSw
          try dsimp only at hSw
          go_simp
          try with_reducible rfl
        try simp only [Act.put, List.setIfInBounds_toArray, List.set_cons_zero, List.set_cons_succ]
        refine wpAnyH_take (i := 15) (oi := ({ dst := some 7, op := Go.Op.assign (Go.Operand.tmp 48), type := 4, pos := _, after := #[{ on := 13, ground := Go.Ground.data }, { on := 14, ground := Go.Ground.chain }, { on := 0, ground := Go.Ground.phase }, { on := 1, ground := Go.Ground.phase }, { on := 2, ground := Go.Ground.phase }, { on := 3, ground := Go.Ground.phase }, { on := 4, ground := Go.Ground.phase }, { on := 5, ground := Go.Ground.phase }, { on := 6, ground := Go.Ground.phase }, { on := 7, ground := Go.Ground.phase }, { on := 8, ground := Go.Ground.phase }, { on := 9, ground := Go.Ground.phase }, { on := 10, ground := Go.Ground.phase }, { on := 11, ground := Go.Ground.phase }, { on := 12, ground := Go.Ground.phase }, { on := 13, ground := Go.Ground.phase }, { on := 14, ground := Go.Ground.phase }], guard := none } : Oper)) (v := ?_) rfl (by kernel_rfl) (by kernel_rfl) (by kernel_rfl) (fun _ _ _ h => h) (Or.inl ⟨by rfl, ?_⟩) (by assumption) ?_
        rotate_left
        · intro W' hSw
          try dsimp only at hSw
          go_simp
          try with_reducible rfl
        try simp only [Act.put, List.setIfInBounds_toArray, List.set_cons_zero, List.set_cons_succ]
        refine wpAnyH_done (by kernel_rfl) ?_ _
        go_wp2
        go_ret2
        exact ⟨⟨_, rfl⟩, hHeld.2.2.2.2.2.2⟩
      · have hKz : ¬ (ct : Int) < (n : Int) := by omega
        have hKd : decide ((ct : Int) < (n : Int)) = false := decide_eq_false hKz
        go_wp2
        refine wp_region_held_drew (S := fun W => Below w.heap.size w W) (by kernel_rfl) (below_drew hb) (fun hHeld => ?_)
        refine wpAnyH_take (i := 0) (oi := ({ dst := some 35, op := Go.Op.move (Go.Operand.tmp 9), type := 3, pos := _, after := #[], guard := none } : Oper)) (v := ?_) rfl (by kernel_rfl) (by kernel_rfl) (by kernel_rfl) (fun _ _ _ h => h) (Or.inl ⟨by rfl, ?_⟩) (by assumption) ?_
        rotate_left
        · intro W' hSw
          try dsimp only at hSw
          go_simp
          try with_reducible rfl
        try simp only [Act.put, List.setIfInBounds_toArray, List.set_cons_zero, List.set_cons_succ]
        refine wpAnyH_take (i := 1) (oi := ({ dst := some 36, op := Go.Op.move (Go.Operand.tmp 9), type := 3, pos := _, after := #[], guard := none } : Oper)) (v := ?_) rfl (by kernel_rfl) (by kernel_rfl) (by kernel_rfl) (fun _ _ _ h => h) (Or.inl ⟨by rfl, ?_⟩) (by assumption) ?_
        rotate_left
        · intro W' hSw
          try dsimp only at hSw
          go_simp
          try with_reducible rfl
        try simp only [Act.put, List.setIfInBounds_toArray, List.set_cons_zero, List.set_cons_succ]
        refine wpAnyH_take (i := 2) (oi := ({ dst := some 37, op := Go.Op.move (Go.Operand.tmp 8), type := 3, pos := _, after := #[], guard := none } : Oper)) (v := ?_) rfl (by kernel_rfl) (by kernel_rfl) (by kernel_rfl) (fun _ _ _ h => h) (Or.inl ⟨by rfl, ?_⟩) (by assumption) ?_
        rotate_left
        · intro W' hSw
          try dsimp only at hSw
          go_simp
          try with_reducible rfl
        try simp only [Act.put, List.setIfInBounds_toArray, List.set_cons_zero, List.set_cons_succ]
        refine wpAnyH_take (i := 3) (oi := ({ dst := some 38, op := Go.Op.binOp Go.BinOp.lss 3 (Go.Operand.tmp 36) (Go.Operand.tmp 37) 3, type := 4, pos := _, after := #[{ on := 1, ground := Go.Ground.data }, { on := 2, ground := Go.Ground.data }], guard := none } : Oper)) (v := ?_) rfl (by kernel_rfl) (by kernel_rfl) (by kernel_rfl) (fun _ _ _ h => h) (Or.inl ⟨by rfl, ?_⟩) (by assumption) ?_
        rotate_left
        · intro W' hSw
          try dsimp only at hSw
          go_simp
          try with_reducible rfl
        try simp only [Act.put, List.setIfInBounds_toArray, List.set_cons_zero, List.set_cons_succ]
        refine wpAnyH_take (i := 4) (oi := ({ dst := some 39, op := Go.Op.move (Go.Operand.tmp 38), type := 4, pos := _, after := #[{ on := 3, ground := Go.Ground.data }], guard := none } : Oper)) (v := ?_) rfl (by kernel_rfl) (by kernel_rfl) (by kernel_rfl) (fun _ _ _ h => h) (Or.inl ⟨by rfl, ?_⟩) (by assumption) ?_
        rotate_left
        · intro W' hSw
          try dsimp only at hSw
          go_simp
          try with_reducible rfl
        try simp only [Act.put, List.setIfInBounds_toArray, List.set_cons_zero, List.set_cons_succ]
        refine wpAnyH_take (i := 5) (oi := ({ dst := some 40, op := Go.Op.move (Go.Operand.tmp 2), type := 99, pos := _, after := #[{ on := 4, ground := Go.Ground.guard }], guard := some (4, true) } : Oper)) (v := undef) rfl (by kernel_rfl) (by kernel_rfl) (by kernel_rfl) (fun _ _ _ h => h) (Or.inr ⟨by rfl, rfl⟩) (by assumption) ?_
        try simp only [Act.put, List.setIfInBounds_toArray, List.set_cons_zero, List.set_cons_succ]
        refine wpAnyH_take (i := 6) (oi := ({ dst := some 41, op := Go.Op.move (Go.Operand.tmp 0), type := 83, pos := _, after := #[{ on := 4, ground := Go.Ground.guard }], guard := some (4, true) } : Oper)) (v := undef) rfl (by kernel_rfl) (by kernel_rfl) (by kernel_rfl) (fun _ _ _ h => h) (Or.inr ⟨by rfl, rfl⟩) (by assumption) ?_
        try simp only [Act.put, List.setIfInBounds_toArray, List.set_cons_zero, List.set_cons_succ]
        refine wpAnyH_take (i := 7) (oi := ({ dst := some 42, op := Go.Op.move (Go.Operand.tmp 9), type := 3, pos := _, after := #[{ on := 4, ground := Go.Ground.guard }], guard := some (4, true) } : Oper)) (v := undef) rfl (by kernel_rfl) (by kernel_rfl) (by kernel_rfl) (fun _ _ _ h => h) (Or.inr ⟨by rfl, rfl⟩) (by assumption) ?_
        try simp only [Act.put, List.setIfInBounds_toArray, List.set_cons_zero, List.set_cons_succ]
        refine wpAnyH_take (i := 8) (oi := ({ dst := some 43, op := Go.Op.indexAddr 83 (Go.Operand.tmp 41) (Go.Operand.tmp 42), type := 0, pos := _, after := #[{ on := 6, ground := Go.Ground.data }, { on := 7, ground := Go.Ground.data }, { on := 4, ground := Go.Ground.guard }], guard := some (4, true) } : Oper)) (v := undef) rfl (by kernel_rfl) (by kernel_rfl) (by kernel_rfl) (fun _ _ _ h => h) (Or.inr ⟨by rfl, rfl⟩) (by assumption) ?_
        try simp only [Act.put, List.setIfInBounds_toArray, List.set_cons_zero, List.set_cons_succ]
        refine wpAnyH_take (i := 9) (oi := ({ dst := some 44, op := Go.Op.load 90 (Go.Operand.tmp 43), type := 90, pos := _, after := #[{ on := 8, ground := Go.Ground.data }, { on := 4, ground := Go.Ground.guard }], guard := some (4, true) } : Oper)) (v := undef) rfl (by kernel_rfl) (by kernel_rfl) (by kernel_rfl) (fun _ _ _ h => h) (Or.inr ⟨by rfl, rfl⟩) (by assumption) ?_
        try simp only [Act.put, List.setIfInBounds_toArray, List.set_cons_zero, List.set_cons_succ]
        refine wpAnyH_take (i := 10) (oi := ({ dst := some 45, op := Go.Op.load 90 (Go.Operand.tmp 4), type := 90, pos := _, after := #[{ on := 4, ground := Go.Ground.guard }], guard := some (4, true) } : Oper)) (v := undef) rfl (by kernel_rfl) (by kernel_rfl) (by kernel_rfl) (fun _ _ _ h => h) (Or.inr ⟨by rfl, rfl⟩) (by assumption) ?_
        try simp only [Act.put, List.setIfInBounds_toArray, List.set_cons_zero, List.set_cons_succ]
        refine wpAnyH_take (i := 11) (oi := ({ dst := some 46, op := Go.Op.call { callee := Go.Callee.value (Go.Operand.tmp 40), args := #[Go.Operand.tmp 44, Go.Operand.tmp 45], argTypes := #[90, 90] }, type := 3, pos := _, after := #[{ on := 5, ground := Go.Ground.data }, { on := 9, ground := Go.Ground.data }, { on := 10, ground := Go.Ground.data }, { on := 4, ground := Go.Ground.chain }, { on := 4, ground := Go.Ground.guard }], guard := some (4, true) } : Oper)) (v := undef) rfl (by kernel_rfl) (by kernel_rfl) (by kernel_rfl) (fun _ _ _ h => h) (Or.inr ⟨by rfl, rfl⟩) (by assumption) ?_
        try simp only [Act.put, List.setIfInBounds_toArray, List.set_cons_zero, List.set_cons_succ]
        refine wpAnyH_take (i := 12) (oi := ({ dst := some 47, op := Go.Op.binOp Go.BinOp.eql 3 (Go.Operand.tmp 46) (Go.Operand.const (Go.Value.int Go.IntKind.i64 0)) 3, type := 4, pos := _, after := #[{ on := 11, ground := Go.Ground.data }, { on := 4, ground := Go.Ground.guard }, { on := 14, ground := Go.Ground.gcOnly Go.Departure.lateStores }], guard := some (4, true) } : Oper)) (v := undef) rfl (by kernel_rfl) (by kernel_rfl) (by kernel_rfl) (fun _ _ _ h => h) (Or.inr ⟨by rfl, rfl⟩) (by assumption) ?_
        try simp only [Act.put, List.setIfInBounds_toArray, List.set_cons_zero, List.set_cons_succ]
        refine wpAnyH_take (i := 13) (oi := ({ dst := some 48, op := Go.Op.pick (Go.Operand.tmp 39) (Go.Operand.tmp 47) (Go.Operand.const (Go.Value.bool false)), type := 4, pos := _, after := #[{ on := 4, ground := Go.Ground.data }, { on := 12, ground := Go.Ground.data }, { on := 14, ground := Go.Ground.gcOnly Go.Departure.lateStores }], guard := none } : Oper)) (v := ?_) rfl (by kernel_rfl) (by kernel_rfl) (by kernel_rfl) (fun _ _ _ h => h) (Or.inl ⟨by rfl, ?_⟩) (by assumption) ?_
        rotate_left
        · intro W' hSw
          try dsimp only at hSw
          go_simp
          try with_reducible rfl
        try simp only [Act.put, List.setIfInBounds_toArray, List.set_cons_zero, List.set_cons_succ]
        refine wpAnyH_take (i := 14) (oi := ({ dst := some 6, op := Go.Op.assign (Go.Operand.tmp 35), type := 3, pos := _, after := #[{ on := 0, ground := Go.Ground.data }, { on := 11, ground := Go.Ground.chain }, { on := 0, ground := Go.Ground.phase }, { on := 1, ground := Go.Ground.textOnly Go.Departure.lateStores }, { on := 2, ground := Go.Ground.textOnly Go.Departure.lateStores }, { on := 3, ground := Go.Ground.textOnly Go.Departure.lateStores }, { on := 4, ground := Go.Ground.textOnly Go.Departure.lateStores }, { on := 5, ground := Go.Ground.textOnly Go.Departure.lateStores }, { on := 6, ground := Go.Ground.textOnly Go.Departure.lateStores }, { on := 7, ground := Go.Ground.textOnly Go.Departure.lateStores }, { on := 8, ground := Go.Ground.textOnly Go.Departure.lateStores }, { on := 9, ground := Go.Ground.textOnly Go.Departure.lateStores }, { on := 10, ground := Go.Ground.textOnly Go.Departure.lateStores }, { on := 11, ground := Go.Ground.textOnly Go.Departure.lateStoresUnsure }, { on := 12, ground := Go.Ground.textOnly Go.Departure.lateStores }, { on := 13, ground := Go.Ground.textOnly Go.Departure.lateStores }], guard := none } : Oper)) (v := ?_) rfl (by kernel_rfl) (by kernel_rfl) (by kernel_rfl) (fun _ _ _ h => h) (Or.inl ⟨by rfl, ?_⟩) (by assumption) ?_
        rotate_left
        · intro W' hSw
          try dsimp only at hSw
          go_simp
          try with_reducible rfl
        try simp only [Act.put, List.setIfInBounds_toArray, List.set_cons_zero, List.set_cons_succ]
        refine wpAnyH_take (i := 15) (oi := ({ dst := some 7, op := Go.Op.assign (Go.Operand.tmp 48), type := 4, pos := _, after := #[{ on := 13, ground := Go.Ground.data }, { on := 14, ground := Go.Ground.chain }, { on := 0, ground := Go.Ground.phase }, { on := 1, ground := Go.Ground.phase }, { on := 2, ground := Go.Ground.phase }, { on := 3, ground := Go.Ground.phase }, { on := 4, ground := Go.Ground.phase }, { on := 5, ground := Go.Ground.phase }, { on := 6, ground := Go.Ground.phase }, { on := 7, ground := Go.Ground.phase }, { on := 8, ground := Go.Ground.phase }, { on := 9, ground := Go.Ground.phase }, { on := 10, ground := Go.Ground.phase }, { on := 11, ground := Go.Ground.phase }, { on := 12, ground := Go.Ground.phase }, { on := 13, ground := Go.Ground.phase }, { on := 14, ground := Go.Ground.phase }], guard := none } : Oper)) (v := ?_) rfl (by kernel_rfl) (by kernel_rfl) (by kernel_rfl) (fun _ _ _ h => h) (Or.inl ⟨by rfl, ?_⟩) (by assumption) ?_
        rotate_left
        · intro W' hSw
          try dsimp only at hSw
          go_simp
          try with_reducible rfl
        try simp only [Act.put, List.setIfInBounds_toArray, List.set_cons_zero, List.set_cons_succ]
        refine wpAnyH_done (by kernel_rfl) ?_ _
        go_wp2
        go_ret2
        exact ⟨⟨_, rfl⟩, hHeld⟩

end Go.Proofs.Ytkcndgiiangmjaa
