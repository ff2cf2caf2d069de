/-
  What the closure of advert.checks that asks for the sum tells.
-/
import Derived.Test.YthhomfchoomelaaAclo
namespace Go.Proofs.Ythhomfchoomelaa
open Go.RowKit
set_option linter.unusedVariables false
set_option maxRecDepth 10000

set_option maxHeartbeats 2000000 in
theorem clo6_at {W : World} {bp bb : Nat} {f t : ByteArray} {p l : Int} {s : ByteArray} {r : Bool} (hB : Boxed W bp f t p l s) (hS : BoxS W bb s) (hf : f.size ≤ 140737488351232) (ht : t.size ≤ 140737488351232) (hs : s.size ≤ 3000) (hr : am6 f t s = r) :
    Calls Try.prog 49 #[.pointer (some ⟨bp, 0, none⟩), .pointer (some ⟨bb, 0, none⟩)] W fun e w' => e = .returned (.bool r) ∧ Hid (Below W.heap.size W w') := by
  obtain ⟨v, hv⟩ : ∃ v, fd (tot (psx f t 112 (s.size : Int) ++ bts s)) = v := ⟨_, rfl⟩
  have HV := Lib.hid hv
  have HR := Lib.hid hr
  have nB : bp < W.heap.size := World.block_lt_of_cell? _ _ hB.1
  have nS : bb < W.heap.size := World.block_lt_of_cell? _ _ hS
  obtain ⟨cc, wc, hrc, hoc, hbc', -, -⟩ := conv_bytes W.drew W.heap.size s 9 Try.underlying9 (by simp) (by omega) W.heap.size (by simp) s.size rfl
  have hbc : Below W.heap.size W wc := (below_drew (Below.refl _ W)).trans hbc'
  have HBc := Lib.hid hbc
  have HPc := Lib.hid (hoc.part (bts_byt s))
  have zc : W.heap.size ≤ wc.heap.size := by have := hbc.size; simpa using this
  clear hv hbc hoc hr hbc'
  go_enter Try.func49, Try.ntmps49
  go_wp2_with fail
  refine wp_region_held_drew (S := fun X => (X.cell? ⟨bp, 0, none⟩ = some (.string f) ∧ X.cell? ⟨bp, 1, none⟩ = some (.string t) ∧ X.cell? ⟨bp, 2, none⟩ = some (.int .i64 p) ∧ X.cell? ⟨bp, 3, none⟩ = some (.int .i64 l) ∧ X.cell? ⟨bp, 4, none⟩ = some (.string s)) ∧ X.cell? ⟨bb, 0, none⟩ = some (.string s)) (by kernel_rfl) ⟨hB, hS⟩ (fun hHeld => ?_)
  refine wpAnyH_take (i := 0) (oi := ({ dst := some 3, op := Go.Op.load 28 (Go.Operand.tmp 0), type := 28, pos := _, after := #[], guard := none } : Oper)) (v := ?_) rfl (by kernel_rfl) (by kernel_rfl) (by kernel_rfl) (fun _ _ _ h => h) (Or.inl ⟨by rfl, ?_⟩) (by assumption) ?_
  rotate_left
  · intro W' hSw
    try dsimp only at hSw
    go_simp
    try with_reducible rfl
  try simp only [Act.put, List.setIfInBounds_toArray, List.set_cons_zero, List.set_cons_succ]
  refine wpAnyH_take (i := 1) (oi := ({ dst := some 4, op := Go.Op.load 9 (Go.Operand.tmp 1), type := 9, pos := _, after := #[], guard := none } : Oper)) (v := ?_) rfl (by kernel_rfl) (by kernel_rfl) (by kernel_rfl) (fun _ _ _ h => h) (Or.inl ⟨by rfl, ?_⟩) (by assumption) ?_
  rotate_left
  · intro W' hSw
    try dsimp only at hSw
    go_simp
    try with_reducible rfl
  try simp only [Act.put, List.setIfInBounds_toArray, List.set_cons_zero, List.set_cons_succ]
  refine wpAnyH_take (i := 2) (oi := ({ dst := some 5, op := Go.Op.call { callee := Go.Callee.builtin Go.Builtin.len, args := #[Go.Operand.tmp 4], argTypes := #[9] }, type := 3, pos := _, after := #[{ on := 1, ground := Go.Ground.data }], guard := none } : Oper)) (v := ?_) rfl (by kernel_rfl) (by kernel_rfl) (by kernel_rfl) (fun _ _ _ h => h) (Or.inl ⟨by rfl, ?_⟩) (by assumption) ?_
  rotate_left
  · intro W' hSw
    try dsimp only at hSw
    go_simp
    try with_reducible rfl
  try simp only [Act.put, List.setIfInBounds_toArray, List.set_cons_zero, List.set_cons_succ]
  refine wpAnyH_take (i := 4) (oi := ({ dst := some 7, op := Go.Op.load 9 (Go.Operand.tmp 1), type := 9, pos := _, after := #[], guard := none } : Oper)) (v := ?_) rfl (by kernel_rfl) (by kernel_rfl) (by kernel_rfl) (fun _ _ _ h => h) (Or.inl ⟨by rfl, ?_⟩) (by assumption) ?_
  rotate_left
  · intro W' hSw
    try dsimp only at hSw
    go_simp
    try with_reducible rfl
  try simp only [Act.put, List.setIfInBounds_toArray, List.set_cons_zero, List.set_cons_succ]
  refine wpAnyH_ready (rs := [3, 5]) (by kernel_rfl) (by simp) ?_
  refine (AllReadyH.cons (o := ({ dst := some 6, op := Go.Op.call { callee := Go.Callee.value (Go.Operand.func 25), args := #[Go.Operand.tmp 3, Go.Operand.tmp 5], argTypes := #[28, 3] }, type := 43, pos := _, after := #[{ on := 0, ground := Go.Ground.data }, { on := 2, ground := Go.Ground.data }], guard := none } : Oper)) rfl (fun K hK => ?_) (AllReadyH.cons (o := ({ dst := some 8, op := Go.Op.convert 9 43 (Go.Operand.tmp 7), type := 43, pos := _, after := #[{ on := 4, ground := Go.Ground.data }], guard := none } : Oper)) rfl (fun K hK => ?_) AllReadyH.nil))
  · go_simp
    refine (apseudo_at (f := f) (t := t) hf ht (by omega)).mono ?_
    rintro e w1 ⟨A1, n1, c1, rfl, hn1, hp1, hb1⟩
    go_wp2_with fail
    refine hK.out _ _ ?_ (fun hHeld => ?_)
    · exact ⟨hB.below ((show Below W.heap.size W w1 from by simpa using (below_drew (Below.refl _ W)).trans hb1.out)) nB, (((show Below W.heap.size W w1 from by simpa using (below_drew (Below.refl _ W)).trans hb1.out)).cell (p := ⟨bb, 0, none⟩) nS).trans hS⟩
    clear hK K
    try simp only [Act.put, List.setIfInBounds_toArray, List.set_cons_zero, List.set_cons_succ]
    have HB1 := Lib.hid (show Below W.heap.size W w1 from by simpa using (below_drew (Below.refl _ W)).trans hb1.out)
    have z1 : W.heap.size ≤ w1.heap.size := HB1.out.size
    obtain ⟨c2, w2, hr2, ho2, hb2, -, -⟩ := conv_bytes w1 w1.heap.size s 9 Try.underlying9 (Nat.le_refl _) (by omega) w1.heap.size rfl s.size rfl
    refine wpAnyH_ready (rs := [5]) (by kernel_rfl) (by simp) ?_
    refine AllReadyH.cons (o := ({ dst := some 8, op := Go.Op.convert 9 43 (Go.Operand.tmp 7), type := 43, pos := _, after := #[{ on := 4, ground := Go.Ground.data }], guard := none } : Oper)) rfl (fun K hK => ?_) AllReadyH.nil
    go_simp
    refine hK.out _ _ ?_ (fun hHeld => ?_)
    · exact ⟨hB.below (HB1.out.trans (hb2.mono z1)) nB, ((HB1.out.trans (hb2.mono z1)).cell (p := ⟨bb, 0, none⟩) nS).trans hS⟩
    clear hK K
    try simp only [Act.put, List.setIfInBounds_toArray, List.set_cons_zero, List.set_cons_succ]
    have HBe := Lib.hid (HB1.out.trans (hb2.mono z1))
    have HPs := Lib.hid (ho2.part (bts_byt s))
    have HPp := Lib.hid (hp1.out.below hb2)
    have ze : W.heap.size ≤ w2.heap.size := by have := hb2.size; omega
    refine wpAnyH_ready (rs := [6]) (by kernel_rfl) (by simp) ?_
    refine AllReadyH.cons (o := ({ dst := some 9, op := Go.Op.buildSlice 60 2 #[(0, Go.Operand.tmp 6), (1, Go.Operand.tmp 8)], type := 60, pos := _, after := #[{ on := 3, ground := Go.Ground.data }, { on := 5, ground := Go.Ground.data }], guard := none } : Oper)) rfl (fun K hK => ?_) AllReadyH.nil
    go_simp
    refine hK.out _ _ ?_ (fun hHeld => ?_)
    · exact ⟨hB.below (HBe.out.alloc ze _) nB, ((HBe.out.alloc ze _).cell (p := ⟨bb, 0, none⟩) nS).trans hS⟩
    clear hK K
    try simp only [Act.put, List.setIfInBounds_toArray, List.set_cons_zero, List.set_cons_succ]
    refine wpAnyH_ready (rs := [7]) (by kernel_rfl) (by simp) ?_
    refine AllReadyH.cons (o := ({ dst := some 10, op := Go.Op.call { callee := Go.Callee.value (Go.Operand.func 50), args := #[Go.Operand.tmp 9], argTypes := #[60] }, type := 4, pos := _, after := #[{ on := 6, ground := Go.Ground.data }, { on := 3, ground := Go.Ground.chain }], guard := none } : Oper)) rfl (fun K hK => ?_) AllReadyH.nil
    go_simp
    refine (good_at (ps := [⟨A1, n1, c1, psx f t 112 (s.size : Int)⟩, ⟨some ⟨w1.heap.size, 0, none⟩, s.size, c2, bts s⟩]) (Parts.two (by simp [go_sem, PartV.val]) (by simp [go_sem, PartV.val]) (HPp.out.alloc _) (HPs.out.alloc _) (by simp; omega) (by simp; omega)) (m := 2) rfl (s := v) (by rw [← HV.out]; simp [flat])).mono ?_
    rintro e w4 ⟨rfl, q, rfl⟩
    go_wp2_with fail
    refine hK.out _ _ ?_ (fun hHeld => ?_)
    · exact ⟨hB.below (below_drewN (HBe.out.alloc ze _) q) nB, ((below_drewN (HBe.out.alloc ze _) q).cell (p := ⟨bb, 0, none⟩) nS).trans hS⟩
    clear hK K
    try simp only [Act.put, List.setIfInBounds_toArray, List.set_cons_zero, List.set_cons_succ]
    refine wpAnyH_take (i := 8) (oi := ({ dst := some 11, op := Go.Op.unOp Go.UnOp.not 4 (Go.Operand.tmp 10), type := 4, pos := _, after := #[{ on := 7, ground := Go.Ground.data }], guard := none } : Oper)) (v := ?_) rfl (by kernel_rfl) (by kernel_rfl) (by kernel_rfl) (fun _ _ _ h => h) (Or.inl ⟨by rfl, ?_⟩) (by assumption) ?_
    rotate_left
    · intro W' hSw
      try dsimp only at hSw
      go_simp
      try with_reducible rfl
    try simp only [Act.put, List.setIfInBounds_toArray, List.set_cons_zero, List.set_cons_succ]
    refine wpAnyH_take (i := 9) (oi := ({ dst := some 2, op := Go.Op.assign (Go.Operand.tmp 11), type := 4, pos := _, after := #[{ on := 8, ground := Go.Ground.data }, { on := 7, ground := Go.Ground.chain }, { on := 0, ground := Go.Ground.phase }, { on := 1, ground := Go.Ground.phase }, { on := 2, ground := Go.Ground.phase }, { on := 3, ground := Go.Ground.phase }, { on := 4, ground := Go.Ground.phase }, { on := 5, ground := Go.Ground.phase }, { on := 6, ground := Go.Ground.phase }, { on := 7, ground := Go.Ground.phase }, { on := 8, ground := Go.Ground.phase }], guard := none } : Oper)) (v := ?_) rfl (by kernel_rfl) (by kernel_rfl) (by kernel_rfl) (fun _ _ _ h => h) (Or.inl ⟨by rfl, ?_⟩) (by assumption) ?_
    rotate_left
    · intro W' hSw
      try dsimp only at hSw
      go_simp
      try with_reducible rfl
    try simp only [Act.put, List.setIfInBounds_toArray, List.set_cons_zero, List.set_cons_succ]
    refine wpAnyH_done (by kernel_rfl) ?_ _
    go_wp2
    go_ret
    exact ⟨ret_bool (by rw [← HR.out, am6, HV.out]; rw [Bool.eq_iff_iff]; simp), Lib.hid (below_drewN (HBe.out.alloc ze _) q)⟩
  · go_simp
    refine hK.out _ _ ?_ (fun hHeld => ?_)
    · exact ⟨hB.below (HBc.out) nB, ((HBc.out).cell (p := ⟨bb, 0, none⟩) nS).trans hS⟩
    clear hK K
    try simp only [Act.put, List.setIfInBounds_toArray, List.set_cons_zero, List.set_cons_succ]
    refine wpAnyH_ready (rs := [3]) (by kernel_rfl) (by simp) ?_
    refine AllReadyH.cons (o := ({ dst := some 6, op := Go.Op.call { callee := Go.Callee.value (Go.Operand.func 25), args := #[Go.Operand.tmp 3, Go.Operand.tmp 5], argTypes := #[28, 3] }, type := 43, pos := _, after := #[{ on := 0, ground := Go.Ground.data }, { on := 2, ground := Go.Ground.data }], guard := none } : Oper)) rfl (fun K hK => ?_) AllReadyH.nil
    go_simp
    refine (apseudo_at (f := f) (t := t) hf ht (by omega)).mono ?_
    rintro e w1 ⟨A1, n1, c1, rfl, hn1, hp1, hb1⟩
    go_wp2_with fail
    refine hK.out _ _ ?_ (fun hHeld => ?_)
    · exact ⟨hB.below (HBc.out.trans (hb1.out.mono zc)) nB, ((HBc.out.trans (hb1.out.mono zc)).cell (p := ⟨bb, 0, none⟩) nS).trans hS⟩
    clear hK K
    try simp only [Act.put, List.setIfInBounds_toArray, List.set_cons_zero, List.set_cons_succ]
    have HBe := Lib.hid (HBc.out.trans (hb1.out.mono zc))
    have HPs := Lib.hid (HPc.out.below hb1.out)
    have ze : W.heap.size ≤ w1.heap.size := by have := hb1.out.size; omega
    refine wpAnyH_ready (rs := [6]) (by kernel_rfl) (by simp) ?_
    refine AllReadyH.cons (o := ({ dst := some 9, op := Go.Op.buildSlice 60 2 #[(0, Go.Operand.tmp 6), (1, Go.Operand.tmp 8)], type := 60, pos := _, after := #[{ on := 3, ground := Go.Ground.data }, { on := 5, ground := Go.Ground.data }], guard := none } : Oper)) rfl (fun K hK => ?_) AllReadyH.nil
    go_simp
    refine hK.out _ _ ?_ (fun hHeld => ?_)
    · exact ⟨hB.below (HBe.out.alloc ze _) nB, ((HBe.out.alloc ze _).cell (p := ⟨bb, 0, none⟩) nS).trans hS⟩
    clear hK K
    try simp only [Act.put, List.setIfInBounds_toArray, List.set_cons_zero, List.set_cons_succ]
    refine wpAnyH_ready (rs := [7]) (by kernel_rfl) (by simp) ?_
    refine AllReadyH.cons (o := ({ dst := some 10, op := Go.Op.call { callee := Go.Callee.value (Go.Operand.func 50), args := #[Go.Operand.tmp 9], argTypes := #[60] }, type := 4, pos := _, after := #[{ on := 6, ground := Go.Ground.data }, { on := 3, ground := Go.Ground.chain }], guard := none } : Oper)) rfl (fun K hK => ?_) AllReadyH.nil
    go_simp
    refine (good_at (ps := [⟨A1, n1, c1, psx f t 112 (s.size : Int)⟩, ⟨some ⟨W.heap.size, 0, none⟩, s.size, cc, bts s⟩]) (Parts.two (by simp [go_sem, PartV.val]) (by simp [go_sem, PartV.val]) (hp1.out.alloc _) (HPs.out.alloc _) (by simp; omega) (by simp; omega)) (m := 2) rfl (s := v) (by rw [← HV.out]; simp [flat])).mono ?_
    rintro e w4 ⟨rfl, q, rfl⟩
    go_wp2_with fail
    refine hK.out _ _ ?_ (fun hHeld => ?_)
    · exact ⟨hB.below (below_drewN (HBe.out.alloc ze _) q) nB, ((below_drewN (HBe.out.alloc ze _) q).cell (p := ⟨bb, 0, none⟩) nS).trans hS⟩
    clear hK K
    try simp only [Act.put, List.setIfInBounds_toArray, List.set_cons_zero, List.set_cons_succ]
    refine wpAnyH_take (i := 8) (oi := ({ dst := some 11, op := Go.Op.unOp Go.UnOp.not 4 (Go.Operand.tmp 10), type := 4, pos := _, after := #[{ on := 7, ground := Go.Ground.data }], guard := none } : Oper)) (v := ?_) rfl (by kernel_rfl) (by kernel_rfl) (by kernel_rfl) (fun _ _ _ h => h) (Or.inl ⟨by rfl, ?_⟩) (by assumption) ?_
    rotate_left
    · intro W' hSw
      try dsimp only at hSw
      go_simp
      try with_reducible rfl
    try simp only [Act.put, List.setIfInBounds_toArray, List.set_cons_zero, List.set_cons_succ]
    refine wpAnyH_take (i := 9) (oi := ({ dst := some 2, op := Go.Op.assign (Go.Operand.tmp 11), type := 4, pos := _, after := #[{ on := 8, ground := Go.Ground.data }, { on := 7, ground := Go.Ground.chain }, { on := 0, ground := Go.Ground.phase }, { on := 1, ground := Go.Ground.phase }, { on := 2, ground := Go.Ground.phase }, { on := 3, ground := Go.Ground.phase }, { on := 4, ground := Go.Ground.phase }, { on := 5, ground := Go.Ground.phase }, { on := 6, ground := Go.Ground.phase }, { on := 7, ground := Go.Ground.phase }, { on := 8, ground := Go.Ground.phase }], guard := none } : Oper)) (v := ?_) rfl (by kernel_rfl) (by kernel_rfl) (by kernel_rfl) (fun _ _ _ h => h) (Or.inl ⟨by rfl, ?_⟩) (by assumption) ?_
    rotate_left
    · intro W' hSw
      try dsimp only at hSw
      go_simp
      try with_reducible rfl
    try simp only [Act.put, List.setIfInBounds_toArray, List.set_cons_zero, List.set_cons_succ]
    refine wpAnyH_done (by kernel_rfl) ?_ _
    go_wp2
    go_ret
    exact ⟨ret_bool (by rw [← HR.out, am6, HV.out]; rw [Bool.eq_iff_iff]; simp), Lib.hid (below_drewN (HBe.out.alloc ze _) q)⟩

end Go.Proofs.Ythhomfchoomelaa
