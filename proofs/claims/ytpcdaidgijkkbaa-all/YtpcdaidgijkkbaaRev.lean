/-
  Events held against one another: SameEvents; events as the reference's: plain.
-/
import Derived.Test.YtpcdaidgijkkbaaRbase
import Derived.Test.YtpcdaidgijkkbaaAsame
namespace Go.Proofs.Ytpcdaidgijkkbaa
open Go.RowKit Go.Maps
set_option linter.unusedVariables false
set_option linter.unusedSimpArgs false
set_option maxRecDepth 40000
attribute [local go_sem ↓] bigS58
attribute [local go_sem ↓] bigS78

/-- An event's addresses, wherever they lie. -/
def Eq1 (w : World) (x : Vt × Value) : Prop := ∃ a k j, x.2 = .slice a k j ∧ Strs w a k j x.1.ads ∧ k ≤ 140737488351232
theorem Eq1.below {w w' : World} {x : Vt × Value} (h : Eq1 w x) (hb : Below w.heap.size w w') : Eq1 w' x := by
  obtain ⟨a, k, j, h1, h2, h3⟩ := h
  exact ⟨a, k, j, h1, h2.below hb, h3⟩
theorem erow78 {w : World} {base g c n : Nat} {l : List (Vt × Value)} (h : w.ownsRow base 78 5 (.slice (some ⟨g, 0, none⟩) n c) n (ecells l)) {i : Nat} (hi : i < n) : w.cell? ⟨g, i * 5, none⟩ = some (.int .i64 (l[i]!).1.kind) ∧ w.cell? ⟨g, i * 5 + 1, none⟩ = some (.int .i64 (l[i]!).1.id) ∧ w.cell? ⟨g, i * 5 + 2, none⟩ = some (.int .i64 (l[i]!).1.pr) ∧ w.cell? ⟨g, i * 5 + 3, none⟩ = some (.int .i64 (l[i]!).1.ev) ∧ w.cell? ⟨g, i * 5 + 4, none⟩ = some (l[i]!).2 := by
  have hl : l.length = n := by have := h.1; rw [ecells_len] at this; omega
  obtain ⟨h0, h1, h2, h3, h4⟩ := ecells_at l i (by omega)
  have hn := ecells_len l
  exact ⟨by rw [h.cellAt _ (by omega)]; exact h0, by rw [h.cellAt _ (by omega)]; exact h1, by rw [h.cellAt _ (by omega)]; exact h2, by rw [h.cellAt _ (by omega)]; exact h3, by rw [h.cellAt _ (by omega)]; exact h4⟩
def SvRel (w : World) (N gg : Nat) (x : Value) (wr : World) : Prop := ∃ k : Nat, k + gg = N ∧ x = .int .i64 (k : Int) ∧ Below w.heap.size w wr

set_option maxHeartbeats 4000000 in
/-- The reference's SameEvents, where they are the same. -/
theorem ev_same {w : World} {l1 l2 : List (Vt × Value)} {b1 b2 : Nat} {v1 v2 : Value} (hr1 : w.ownsRow b1 78 5 v1 l1.length (ecells l1)) (hr2 : w.ownsRow b2 78 5 v2 l2.length (ecells l2)) (he : l1.map Prod.fst = l2.map Prod.fst) (h1 : ∀ x ∈ l1, Eq1 w x) (h2 : ∀ x ∈ l2, Eq1 w x) (hlen : l1.length ≤ 1099511627776) :
    Calls Try.prog 20 #[v1, v2] w fun e w' => e = .returned (.bool true) ∧ Below w.heap.size w w' := by
  have hl : l2.length = l1.length := by have := congrArg List.length he; simpa using this.symm
  rw [hl] at hr2
  obtain ⟨a1, c1, rfl, -, -⟩ := row_any hr1
  obtain ⟨a2, c2, rfl, -, -⟩ := row_any hr2
  have HL : Hid (l2.length = l1.length) := Lib.hid hl
  obtain ⟨N, hN⟩ : ∃ N, N = l1.length := ⟨_, rfl⟩
  have HNN := Lib.hid hN
  rw [← hN] at hr1 hr2 hlen ⊢
  have HR1 := Lib.hid hr1
  have HR2 := Lib.hid hr2
  have HE := Lib.hid he
  have HA1 := Lib.hid h1
  have HA2 := Lib.hid h2
  have HLE := Lib.hid hlen
  have e0 : ((N : Int) != (N : Int)) = false := by simp
  clear hr1 hr2 he h1 h2 hlen hl hN
  go_enter Try.func20, Try.ntmps20
  go_wp2
  go_loopg [5] N (fun gg x wr => SvRel w N gg x wr)
  case atStart => exact ⟨0, by omega, rfl, Below.refl _ _⟩
  case round =>
    obtain ⟨k, hk, rfl, hb⟩ := hrel
    have HB := Lib.hid hb
    clear hb
    by_cases hlt : k < N
    · have e4 : decide ((k : Int) < (N : Int)) = true := decide_eq_true (by omega)
      have hlk1 : (k : Int) < (N : Int) := by omega
      have hlk0 : (0 : Int) ≤ (k : Int) := by omega
      obtain ⟨g1, d1, heq1, -, -⟩ := row_slice HR1.out (by omega)
      obtain ⟨rfl, -, rfl⟩ : a1 = some ⟨g1, 0, none⟩ ∧ True ∧ c1 = d1 := by
        simp at heq1
        exact ⟨heq1.1, trivial, heq1.2⟩
      obtain ⟨g2, d2, heq2, -, -⟩ := row_slice HR2.out (by omega)
      obtain ⟨rfl, -, rfl⟩ : a2 = some ⟨g2, 0, none⟩ ∧ True ∧ c2 = d2 := by
        simp at heq2
        exact ⟨heq2.1, trivial, heq2.2⟩
      have hk1 : k < l1.length := by have := HNN.out; omega
      have hk2 : k < l2.length := by have := HNN.out; have := HL.out; omega
      have hm1 : l1[k]! ∈ l1 := by rw [getElem!_pos l1 k hk1]; exact List.getElem_mem hk1
      have hm2 : l2[k]! ∈ l2 := by rw [getElem!_pos l2 k hk2]; exact List.getElem_mem hk2
      have hf : (l1[k]!).1 = (l2[k]!).1 := by
        have h := congrArg (fun l => l[k]?) HE.out
        rw [getElem!_pos l1 k hk1, getElem!_pos l2 k hk2]
        simpa [List.getElem?_map, List.getElem?_eq_getElem hk1, List.getElem?_eq_getElem hk2] using h
      obtain ⟨p1, n1, j1, hv1, hs1, hb1⟩ := HA1.out _ hm1
      obtain ⟨p2, n2, j2, hv2, hs2, hb2⟩ := HA2.out _ hm2
      have hE1 := fun (W : World) (hW : Below w.heap.size w W) => erow78 (row_below HR1.out hW) hlt
      have hE2 := fun (W : World) (hW : Below w.heap.size w W) => erow78 (row_below HR2.out hW) hlt
      clear hm1 hm2 hk1 hk2 heq1 heq2
      generalize l1[k]! = x1 at *
      generalize l2[k]! = x2 at *
      obtain ⟨⟨xk, xi, xp, xe, xs⟩, y1⟩ := x1
      obtain ⟨⟨zk, zi, zp, ze, zs⟩, y2⟩ := x2
      simp only [Vt.mk.injEq] at hf hv1 hv2 hE1 hE2 hs1 hs2
      obtain ⟨rfl, rfl, rfl, rfl, rfl⟩ := hf
      subst hv1
      subst hv2
      have HE1 := Lib.hid hE1
      have HE2 := Lib.hid hE2
      have HS1 := Lib.hid hs1
      have HS2 := Lib.hid hs2
      have HN1 := Lib.hid hb1
      have HSB : Hid (sameB xi xp xe xs xi xp xe xs = true) := Lib.hid (by simp [sameB])
      have HW : Hid (Value.int .i64 (wrap64 ((k : Int) + 1)) = .int .i64 ((k + 1 : Nat) : Int)) := Lib.hid (by congr 1; have := HLE.out; unfold wrap64; omega)
      clear hE1 hE2 hs1 hs2 hb1 hb2
      go_wp2
      refine wp_region_held_drew (S := fun X => Below w.heap.size w X) (by kernel_rfl) (below_drew HB.out) (fun hHeld => ?_)
      refine wpAnyH_take (i := 0) (oi := ({ dst := some 17, op := Go.Op.move (Go.Operand.tmp 0), type := 32, pos := _, after := #[], guard := none } : Oper)) (v := ?_) rfl (by kernel_rfl) (by kernel_rfl) (by kernel_rfl) (fun _ _ _ h => h) (Or.inl ⟨by rfl, ?_⟩) (by assumption) ?_
      rotate_left
      · intro W' hSw
        try dsimp only at hSw
        go_simp
        try with_reducible rfl
      try simp only [Act.put, List.setIfInBounds_toArray, List.set_cons_zero, List.set_cons_succ]
      refine wpAnyH_take (i := 1) (oi := ({ dst := some 18, op := Go.Op.move (Go.Operand.tmp 5), type := 3, pos := _, after := #[], guard := none } : Oper)) (v := ?_) rfl (by kernel_rfl) (by kernel_rfl) (by kernel_rfl) (fun _ _ _ h => h) (Or.inl ⟨by rfl, ?_⟩) (by assumption) ?_
      rotate_left
      · intro W' hSw
        try dsimp only at hSw
        go_simp
        try with_reducible rfl
      try simp only [Act.put, List.setIfInBounds_toArray, List.set_cons_zero, List.set_cons_succ]
      refine wpAnyH_take (i := 2) (oi := ({ dst := some 19, op := Go.Op.indexAddr 32 (Go.Operand.tmp 17) (Go.Operand.tmp 18), type := 0, pos := _, after := #[{ on := 0, ground := Go.Ground.data }, { on := 1, ground := Go.Ground.data }], guard := none } : Oper)) (v := ?_) rfl (by kernel_rfl) (by kernel_rfl) (by kernel_rfl) (fun _ _ _ h => h) (Or.inl ⟨by rfl, ?_⟩) (by assumption) ?_
      rotate_left
      · intro W' hSw
        try dsimp only at hSw
        go_simp
        try with_reducible rfl
      try simp only [Act.put, List.setIfInBounds_toArray, List.set_cons_zero, List.set_cons_succ]
      refine wpAnyH_take (i := 3) (oi := ({ dst := some 20, op := Go.Op.fieldAddr 78 (Go.Operand.tmp 19) 0, type := 0, pos := _, after := #[{ on := 2, ground := Go.Ground.data }], guard := none } : Oper)) (v := ?_) rfl (by kernel_rfl) (by kernel_rfl) (by kernel_rfl) (fun _ _ _ h => h) (Or.inl ⟨by rfl, ?_⟩) (by assumption) ?_
      rotate_left
      · intro W' hSw
        try dsimp only at hSw
        go_simp
        try with_reducible rfl
      try simp only [Act.put, List.setIfInBounds_toArray, List.set_cons_zero, List.set_cons_succ]
      refine wpAnyH_take (i := 4) (oi := ({ dst := some 21, op := Go.Op.load 3 (Go.Operand.tmp 20), type := 3, pos := _, after := #[{ on := 3, ground := Go.Ground.data }], guard := none } : Oper)) (v := ?_) rfl (by kernel_rfl) (by kernel_rfl) (by kernel_rfl) (fun _ _ _ h => h) (Or.inl ⟨by rfl, ?_⟩) (by assumption) ?_
      rotate_left
      · intro W' hSw
        try dsimp only at hSw
        obtain ⟨r0, r1, r2, r3, r4⟩ := HE1.out _ hSw
        go_simp
        try with_reducible rfl
      try simp only [Act.put, List.setIfInBounds_toArray, List.set_cons_zero, List.set_cons_succ]
      refine wpAnyH_take (i := 5) (oi := ({ dst := some 22, op := Go.Op.move (Go.Operand.tmp 1), type := 32, pos := _, after := #[], guard := none } : Oper)) (v := ?_) rfl (by kernel_rfl) (by kernel_rfl) (by kernel_rfl) (fun _ _ _ h => h) (Or.inl ⟨by rfl, ?_⟩) (by assumption) ?_
      rotate_left
      · intro W' hSw
        try dsimp only at hSw
        go_simp
        try with_reducible rfl
      try simp only [Act.put, List.setIfInBounds_toArray, List.set_cons_zero, List.set_cons_succ]
      refine wpAnyH_take (i := 6) (oi := ({ dst := some 23, op := Go.Op.move (Go.Operand.tmp 5), type := 3, pos := _, after := #[], guard := none } : Oper)) (v := ?_) rfl (by kernel_rfl) (by kernel_rfl) (by kernel_rfl) (fun _ _ _ h => h) (Or.inl ⟨by rfl, ?_⟩) (by assumption) ?_
      rotate_left
      · intro W' hSw
        try dsimp only at hSw
        go_simp
        try with_reducible rfl
      try simp only [Act.put, List.setIfInBounds_toArray, List.set_cons_zero, List.set_cons_succ]
      refine wpAnyH_take (i := 7) (oi := ({ dst := some 24, op := Go.Op.indexAddr 32 (Go.Operand.tmp 22) (Go.Operand.tmp 23), type := 0, pos := _, after := #[{ on := 5, ground := Go.Ground.data }, { on := 6, ground := Go.Ground.data }], guard := none } : Oper)) (v := ?_) rfl (by kernel_rfl) (by kernel_rfl) (by kernel_rfl) (fun _ _ _ h => h) (Or.inl ⟨by rfl, ?_⟩) (by assumption) ?_
      rotate_left
      · intro W' hSw
        try dsimp only at hSw
        go_simp
        try with_reducible rfl
      try simp only [Act.put, List.setIfInBounds_toArray, List.set_cons_zero, List.set_cons_succ]
      refine wpAnyH_take (i := 8) (oi := ({ dst := some 25, op := Go.Op.fieldAddr 78 (Go.Operand.tmp 24) 0, type := 0, pos := _, after := #[{ on := 7, ground := Go.Ground.data }], guard := none } : Oper)) (v := ?_) rfl (by kernel_rfl) (by kernel_rfl) (by kernel_rfl) (fun _ _ _ h => h) (Or.inl ⟨by rfl, ?_⟩) (by assumption) ?_
      rotate_left
      · intro W' hSw
        try dsimp only at hSw
        go_simp
        try with_reducible rfl
      try simp only [Act.put, List.setIfInBounds_toArray, List.set_cons_zero, List.set_cons_succ]
      refine wpAnyH_take (i := 9) (oi := ({ dst := some 26, op := Go.Op.load 3 (Go.Operand.tmp 25), type := 3, pos := _, after := #[{ on := 8, ground := Go.Ground.data }], guard := none } : Oper)) (v := ?_) rfl (by kernel_rfl) (by kernel_rfl) (by kernel_rfl) (fun _ _ _ h => h) (Or.inl ⟨by rfl, ?_⟩) (by assumption) ?_
      rotate_left
      · intro W' hSw
        try dsimp only at hSw
        obtain ⟨r0, r1, r2, r3, r4⟩ := HE2.out _ hSw
        go_simp
        try with_reducible rfl
      try simp only [Act.put, List.setIfInBounds_toArray, List.set_cons_zero, List.set_cons_succ]
      refine wpAnyH_take (i := 10) (oi := ({ dst := some 27, op := Go.Op.binOp Go.BinOp.neq 3 (Go.Operand.tmp 21) (Go.Operand.tmp 26) 3, type := 4, pos := _, after := #[{ on := 4, ground := Go.Ground.data }, { on := 9, ground := Go.Ground.data }], guard := none } : Oper)) (v := ?_) rfl (by kernel_rfl) (by kernel_rfl) (by kernel_rfl) (fun _ _ _ h => h) (Or.inl ⟨by rfl, ?_⟩) (by assumption) ?_
      rotate_left
      · intro W' hSw
        try dsimp only at hSw
        go_simp
        try with_reducible rfl
      try simp only [Act.put, List.setIfInBounds_toArray, List.set_cons_zero, List.set_cons_succ]
      refine wpAnyH_take (i := 11) (oi := ({ dst := some 28, op := Go.Op.move (Go.Operand.tmp 27), type := 4, pos := _, after := #[{ on := 10, ground := Go.Ground.data }], guard := none } : Oper)) (v := ?_) rfl (by kernel_rfl) (by kernel_rfl) (by kernel_rfl) (fun _ _ _ h => h) (Or.inl ⟨by rfl, ?_⟩) (by assumption) ?_
      rotate_left
      · intro W' hSw
        try dsimp only at hSw
        go_simp
        try with_reducible rfl
      try simp only [Act.put, List.setIfInBounds_toArray, List.set_cons_zero, List.set_cons_succ]
      refine wpAnyH_take (i := 12) (oi := ({ dst := some 29, op := Go.Op.move (Go.Operand.tmp 0), type := 32, pos := _, after := #[{ on := 11, ground := Go.Ground.guard }], guard := some (11, false) } : Oper)) (v := ?_) rfl (by kernel_rfl) (by kernel_rfl) (by kernel_rfl) (fun _ _ _ h => h) (Or.inl ⟨by rfl, ?_⟩) (by assumption) ?_
      rotate_left
      · intro W' hSw
        try dsimp only at hSw
        go_simp
        try with_reducible rfl
      try simp only [Act.put, List.setIfInBounds_toArray, List.set_cons_zero, List.set_cons_succ]
      refine wpAnyH_take (i := 13) (oi := ({ dst := some 30, op := Go.Op.move (Go.Operand.tmp 5), type := 3, pos := _, after := #[{ on := 11, ground := Go.Ground.guard }], guard := some (11, false) } : Oper)) (v := ?_) rfl (by kernel_rfl) (by kernel_rfl) (by kernel_rfl) (fun _ _ _ h => h) (Or.inl ⟨by rfl, ?_⟩) (by assumption) ?_
      rotate_left
      · intro W' hSw
        try dsimp only at hSw
        go_simp
        try with_reducible rfl
      try simp only [Act.put, List.setIfInBounds_toArray, List.set_cons_zero, List.set_cons_succ]
      refine wpAnyH_take (i := 14) (oi := ({ dst := some 31, op := Go.Op.indexAddr 32 (Go.Operand.tmp 29) (Go.Operand.tmp 30), type := 0, pos := _, after := #[{ on := 12, ground := Go.Ground.data }, { on := 13, ground := Go.Ground.data }, { on := 11, ground := Go.Ground.guard }], guard := some (11, false) } : Oper)) (v := ?_) rfl (by kernel_rfl) (by kernel_rfl) (by kernel_rfl) (fun _ _ _ h => h) (Or.inl ⟨by rfl, ?_⟩) (by assumption) ?_
      rotate_left
      · intro W' hSw
        try dsimp only at hSw
        go_simp
        try with_reducible rfl
      try simp only [Act.put, List.setIfInBounds_toArray, List.set_cons_zero, List.set_cons_succ]
      refine wpAnyH_take (i := 15) (oi := ({ dst := some 32, op := Go.Op.fieldAddr 78 (Go.Operand.tmp 31) 1, type := 0, pos := _, after := #[{ on := 14, ground := Go.Ground.data }, { on := 11, ground := Go.Ground.guard }], guard := some (11, false) } : Oper)) (v := ?_) rfl (by kernel_rfl) (by kernel_rfl) (by kernel_rfl) (fun _ _ _ h => h) (Or.inl ⟨by rfl, ?_⟩) (by assumption) ?_
      rotate_left
      · intro W' hSw
        try dsimp only at hSw
        go_simp
        try with_reducible rfl
      try simp only [Act.put, List.setIfInBounds_toArray, List.set_cons_zero, List.set_cons_succ]
      refine wpAnyH_take (i := 16) (oi := ({ dst := some 33, op := Go.Op.load 39 (Go.Operand.tmp 32), type := 39, pos := _, after := #[{ on := 15, ground := Go.Ground.data }, { on := 11, ground := Go.Ground.guard }], guard := some (11, false) } : Oper)) (v := ?_) rfl (by kernel_rfl) (by kernel_rfl) (by kernel_rfl) (fun _ _ _ h => h) (Or.inl ⟨by rfl, ?_⟩) (by assumption) ?_
      rotate_left
      · intro W' hSw
        try dsimp only at hSw
        obtain ⟨r0, r1, r2, r3, r4⟩ := HE1.out _ hSw
        go_simp
        try with_reducible rfl
      try simp only [Act.put, List.setIfInBounds_toArray, List.set_cons_zero, List.set_cons_succ]
      refine wpAnyH_take (i := 17) (oi := ({ dst := some 34, op := Go.Op.move (Go.Operand.tmp 1), type := 32, pos := _, after := #[{ on := 11, ground := Go.Ground.guard }], guard := some (11, false) } : Oper)) (v := ?_) rfl (by kernel_rfl) (by kernel_rfl) (by kernel_rfl) (fun _ _ _ h => h) (Or.inl ⟨by rfl, ?_⟩) (by assumption) ?_
      rotate_left
      · intro W' hSw
        try dsimp only at hSw
        go_simp
        try with_reducible rfl
      try simp only [Act.put, List.setIfInBounds_toArray, List.set_cons_zero, List.set_cons_succ]
      refine wpAnyH_take (i := 18) (oi := ({ dst := some 35, op := Go.Op.move (Go.Operand.tmp 5), type := 3, pos := _, after := #[{ on := 11, ground := Go.Ground.guard }], guard := some (11, false) } : Oper)) (v := ?_) rfl (by kernel_rfl) (by kernel_rfl) (by kernel_rfl) (fun _ _ _ h => h) (Or.inl ⟨by rfl, ?_⟩) (by assumption) ?_
      rotate_left
      · intro W' hSw
        try dsimp only at hSw
        go_simp
        try with_reducible rfl
      try simp only [Act.put, List.setIfInBounds_toArray, List.set_cons_zero, List.set_cons_succ]
      refine wpAnyH_take (i := 19) (oi := ({ dst := some 36, op := Go.Op.indexAddr 32 (Go.Operand.tmp 34) (Go.Operand.tmp 35), type := 0, pos := _, after := #[{ on := 17, ground := Go.Ground.data }, { on := 18, ground := Go.Ground.data }, { on := 11, ground := Go.Ground.guard }], guard := some (11, false) } : Oper)) (v := ?_) rfl (by kernel_rfl) (by kernel_rfl) (by kernel_rfl) (fun _ _ _ h => h) (Or.inl ⟨by rfl, ?_⟩) (by assumption) ?_
      rotate_left
      · intro W' hSw
        try dsimp only at hSw
        go_simp
        try with_reducible rfl
      try simp only [Act.put, List.setIfInBounds_toArray, List.set_cons_zero, List.set_cons_succ]
      refine wpAnyH_take (i := 20) (oi := ({ dst := some 37, op := Go.Op.fieldAddr 78 (Go.Operand.tmp 36) 1, type := 0, pos := _, after := #[{ on := 19, ground := Go.Ground.data }, { on := 11, ground := Go.Ground.guard }], guard := some (11, false) } : Oper)) (v := ?_) rfl (by kernel_rfl) (by kernel_rfl) (by kernel_rfl) (fun _ _ _ h => h) (Or.inl ⟨by rfl, ?_⟩) (by assumption) ?_
      rotate_left
      · intro W' hSw
        try dsimp only at hSw
        go_simp
        try with_reducible rfl
      try simp only [Act.put, List.setIfInBounds_toArray, List.set_cons_zero, List.set_cons_succ]
      refine wpAnyH_take (i := 21) (oi := ({ dst := some 38, op := Go.Op.load 39 (Go.Operand.tmp 37), type := 39, pos := _, after := #[{ on := 20, ground := Go.Ground.data }, { on := 11, ground := Go.Ground.guard }], guard := some (11, false) } : Oper)) (v := ?_) rfl (by kernel_rfl) (by kernel_rfl) (by kernel_rfl) (fun _ _ _ h => h) (Or.inl ⟨by rfl, ?_⟩) (by assumption) ?_
      rotate_left
      · intro W' hSw
        try dsimp only at hSw
        obtain ⟨r0, r1, r2, r3, r4⟩ := HE2.out _ hSw
        go_simp
        try with_reducible rfl
      try simp only [Act.put, List.setIfInBounds_toArray, List.set_cons_zero, List.set_cons_succ]
      refine wpAnyH_ready (rs := [22]) (by kernel_rfl) (by simp) ?_
      refine AllReadyH.cons (o := ({ dst := some 39, op := Go.Op.call { callee := Go.Callee.value (Go.Operand.func 40), args := #[Go.Operand.tmp 33, Go.Operand.tmp 38], argTypes := #[39, 39] }, type := 4, pos := _, after := #[{ on := 16, ground := Go.Ground.data }, { on := 21, ground := Go.Ground.data }, { on := 11, ground := Go.Ground.chain }, { on := 11, ground := Go.Ground.guard }], guard := some (11, false) } : Oper)) rfl (fun K hK => ?_) AllReadyH.nil
      go_simp
      refine (same_at (HS1.out.below hHeld) (HS2.out.below hHeld) HN1.out HSB.out).mono ?_
      rintro e w5 ⟨rfl, hb5⟩
      go_wp2_with fail
      refine hK.out _ _ ?_ (fun hHeld => ?_)
      · exact below_then hHeld hHeld.size hb5
      clear hK K
      try simp only [Act.put, List.setIfInBounds_toArray, List.set_cons_zero, List.set_cons_succ]
      clear hb5
      refine wpAnyH_take (i := 23) (oi := ({ dst := some 40, op := Go.Op.unOp Go.UnOp.not 4 (Go.Operand.tmp 39), type := 4, pos := _, after := #[{ on := 22, ground := Go.Ground.data }, { on := 11, ground := Go.Ground.guard }], guard := some (11, false) } : Oper)) (v := ?_) rfl (by kernel_rfl) (by kernel_rfl) (by kernel_rfl) (fun _ _ _ h => h) (Or.inl ⟨by rfl, ?_⟩) (by assumption) ?_
      rotate_left
      · intro W' hSw
        try dsimp only at hSw
        go_simp
        try with_reducible rfl
      try simp only [Act.put, List.setIfInBounds_toArray, List.set_cons_zero, List.set_cons_succ]
      refine wpAnyH_take (i := 24) (oi := ({ dst := some 41, op := Go.Op.pick (Go.Operand.tmp 28) (Go.Operand.const (Go.Value.bool true)) (Go.Operand.tmp 40), type := 4, pos := _, after := #[{ on := 11, ground := Go.Ground.data }, { on := 23, ground := Go.Ground.data }], guard := none } : Oper)) (v := ?_) rfl (by kernel_rfl) (by kernel_rfl) (by kernel_rfl) (fun _ _ _ h => h) (Or.inl ⟨by rfl, ?_⟩) (by assumption) ?_
      rotate_left
      · intro W' hSw
        try dsimp only at hSw
        go_simp
        try with_reducible rfl
      try simp only [Act.put, List.setIfInBounds_toArray, List.set_cons_zero, List.set_cons_succ]
      refine wpAnyH_done (by kernel_rfl) ?_ _
      go_wp2
      go_roundg (N - (k + 1))
      case measure => omega
      case rel => exact ⟨k + 1, by omega, HW.out, hHeld⟩
    · have e4 : decide ((k : Int) < (N : Int)) = false := decide_eq_false (by omega)
      have hlk1 : ¬ (k : Int) < (N : Int) := by omega
      go_wp2
      go_ret
      exact ⟨rfl, HB.out⟩
end Go.Proofs.Ytpcdaidgijkkbaa
