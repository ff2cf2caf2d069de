/-
  The document's boards: Tell.
-/
import Derived.Test.YtkcndgiiangmjaaRb2
import Derived.Deep.Cut
import Derived.Deep.CutBlock
import Derived.Deep.CutRange
namespace Go.Proofs.Ytkcndgiiangmjaa
open Go.RowKit Go.Maps
set_option linter.unusedVariables false
set_option linter.unusedSimpArgs false
set_option maxRecDepth 10000
attribute [local go_sem ↓] bigS48

theorem copy_pr {w : World} {gp c : Nat} {ps : List Pr} {n : Nat} (hn : ps.length = n) (h : w.ownsRow 0 33 2 (.slice (some ⟨gp, 0, none⟩) n c) n (pcells ps)) (hl : n ≤ 1000) :
    ∃ v' w', (Builtin.append_ #[43, 43] 43 #[.slice (some ⟨w.heap.size, 0, none⟩) 0 0, .slice (some ⟨gp, 0, none⟩) n c]).run Try.prog (w.alloc (.cells #[] 33)) = .ok v' w' ∧ w'.ownsRow w.heap.size 33 2 v' n (pcells ps) ∧ Below w.heap.size w w' := by
  have hb2 : Below w.heap.size w (w.alloc (.cells #[] 33)) := below_alloc (Below.refl _ _) _
  have h0 : (w.alloc (.cells #[] 33)).ownsRow w.heap.size 33 2 (.slice (some ⟨w.heap.size, 0, none⟩) 0 0) 0 [] := World.ownsRow_lit w #[] 0 (Nat.le_refl _) (by decide) rfl
  obtain ⟨i0, hi, hz0, hz1, hz2⟩ := info_parts info33
  have h' := row_below h hb2
  have hpl : (pcells ps).length = n * 2 := by rw [pcells_len, hn]
  obtain ⟨v', w', hr, h2, h3, _, _⟩ := run_append_own_at (P := Try.prog) (w.alloc (.cells #[] 33)) w.heap.size 43 43 33 i0 _ 2 16 Try.underlying43 hi hz0 hz1 hz2 rfl (by decide) _ 0 _ h0 ⟨gp, 0, none⟩ n c (pcells ps) hpl (fun j u hu => by
    rw [add_plain, Nat.zero_add, h'.cellAt j (by have := (List.getElem?_eq_some_iff.1 hu).1; omega)]; exact hu) (pcells_one ps) (by simp only [maxLen]; omega) (by omega) hb2.size
  rw [Nat.zero_add, List.nil_append] at h2
  refine ⟨v', w', hr, h2, hb2.trans (Only.below (F := fun i => i = w.heap.size) (Only.of_grown h3 fun i hi => ?_) hb2.size fun i hi => by have : i = w.heap.size := hi; omega)⟩
  simpa [Value.ownBlock] using hi.symm

theorem setTwo (w : World) (N : Nat) (x y : Value) : Only (fun i => i = N) w ((w.setCell ⟨N, 0, none⟩ x).setCell ⟨N, 1, none⟩ y) :=
  Only.setCell (F := fun i => i = N) (Only.setCell (F := fun i => i = N) (Only.refl _ w) (p := ⟨N, 0, none⟩) (Or.inl rfl) _) (p := ⟨N, 1, none⟩) (Or.inl rfl) _

set_option maxHeartbeats 8000000 in
theorem rtellone_any {w : World} {r : Ru} {b : Bo} {n now m2 c2 : Nat} {vp : Value} {a2 : Option Addr} (hp : w.ownsRow 0 33 2 vp b.ps.length (pcells b.ps)) (hr : okR r = true) (ok : OkB r b n) (k : Int) (good : Bool) :
    Calls Try.prog 18 #[rbv r vp now (.slice a2 m2 c2), .int .i64 k, .bool good] w fun e w' => ∃ vp', e = .returned (.tuple #[rbv r vp' now (.slice a2 m2 c2), .bool (tellBC r b k good), .bool (isB b k)]) ∧ w'.ownsRow 0 33 2 vp' b.ps.length (pcells (tellB r b k good).ps) ∧
      Below w.heap.size w w' ∧ (∀ g, vp'.ownBlock = some g → vp.ownBlock = some g ∨ w.heap.size ≤ g) := by
  obtain ⟨a1, c1, rfl, -, -⟩ := row_any hp
  have hpl := ok.len
  have hn16 := ok.n16
  rw [hpl] at hp ⊢
  obtain ⟨w0, hw0⟩ : ∃ X, X = (w.alloc (.cells #[.int .i64 r.rise, .int .i64 r.fall, .int .i64 r.every, .slice a1 n c1, .int .i64 now, .slice a2 m2 c2] 48)).alloc (.cells #[.int .i64 0, .int .i64 0, .int .i64 0, .slice none 0 0, .int .i64 0, .slice none 0 0] 48) := ⟨_, rfl⟩
  have hc0 : Cb w0 w.heap.size 48 [.int .i64 r.rise, .int .i64 r.fall, .int .i64 r.every, .slice a1 n c1, .int .i64 now, .slice a2 m2 c2] := by rw [hw0]; exact (Cb.new6 w _ _ _ _ _ _ 48).alloc _
  have hc1 : Cb w0 (w.heap.size + 1) 48 [.int .i64 0, .int .i64 0, .int .i64 0, .slice none 0 0, .int .i64 0, .slice none 0 0] := by
    rw [hw0]
    have h := Cb.new6 (w.alloc (.cells #[.int .i64 r.rise, .int .i64 r.fall, .int .i64 r.every, .slice a1 n c1, .int .i64 now, .slice a2 m2 c2] 48)) (.int .i64 0) (.int .i64 0) (.int .i64 0) (.slice none 0 0) (.int .i64 0) (.slice none 0 0) 48
    rwa [World.size_alloc] at h
  have hb0 : Below w.heap.size w w0 := by rw [hw0]; exact below_alloc (below_alloc (Below.refl _ _) _) _
  have hs0 : w0.heap.size = w.heap.size + 2 := by rw [hw0]; simp
  have hp0 := row_below hp hb0
  have HGP : Hid (∀ g, (Value.slice a1 n c1).ownBlock = some g → g < w.heap.size) := Lib.hid fun g hg => (hp.lt g hg).2
  obtain ⟨q0, q1, q2, q3, q4, q5⟩ := hc0.six
  have hl0 := hc0.lt
  have HW0 := Lib.hid hw0
  have HX := Lib.hid (And.intro hc0 (And.intro hc1 (And.intro hb0 hp0)))
  unfold rbv
  by_cases hin : 0 ≤ k ∧ k < (n : Int)
  · have e1 : isB b k = true := decide_eq_true (by rw [hpl]; exact hin)
    obtain ⟨j, rfl⟩ := Int.eq_ofNat_of_zero_le hin.1
    have e2 : tellBC r b (j : Int) good = tellC r b.ps[j]! good := by unfold tellBC; rw [if_pos e1]; rfl
    have e3 : tellB r b (j : Int) good = ⟨b.ps.set j (tellP r b.ps[j]! good), b.s⟩ := by unfold tellB; rw [if_pos e1]; rfl
    rw [e1, e2, e3]
    have hjn : j < n := by omega
    have hk1 : ¬ ((j : Int) < 0) := by omega
    have hk2 : (j : Int) < (n : Int) := by omega
    have hk3 : ¬ ((j : Int) ≥ (n : Int)) := by omega
    obtain ⟨gp, c', e, _⟩ := row_slice hp0 (by omega)
    simp only [Value.slice.injEq, true_and] at e
    obtain ⟨rfl, rfl⟩ := e
    have hgp := HGP.out gp rfl
    obtain ⟨⟨u0, r0⟩, hPJ⟩ : ∃ P, b.ps[j]! = P := ⟨_, rfl⟩
    have hok := ok.p j (by omega)
    rw [hPJ] at hok ⊢
    have HRT := Lib.hid (fun w => rtell_any w hr hok good)
    obtain ⟨tc, htc⟩ : ∃ tc, tellC r ⟨u0, r0⟩ good = tc := ⟨_, rfl⟩
    obtain ⟨⟨u1, r1⟩, hte⟩ : ∃ P, tellP r ⟨u0, r0⟩ good = P := ⟨_, rfl⟩
    rw [htc, hte] at HRT ⊢
    have HPJ := Lib.hid hPJ
    have HPL := Lib.hid hpl
    simp only [ruv, prv] at HRT
    have hW0 : Cb w0.drew w.heap.size 48 [.int .i64 r.rise, .int .i64 r.fall, .int .i64 r.every, .slice (some ⟨gp, 0, none⟩) n c1, .int .i64 now, .slice a2 m2 c2] ∧ w0.drew.ownsRow 0 33 2 (.slice (some ⟨gp, 0, none⟩) n c1) n (pcells b.ps) := ⟨hc0, hp0⟩
    have HH0 := Lib.hid hW0
    clear hp0 hp hc0 hc1 hb0 hw0 e1 e2 e3 hin ok hok htc hte hPJ hpl hW0
    go_enter Try.func18, Try.ntmps18
    go_upto_region 3 with fail
    rw [← HW0.out]
    go_cut [9, 10] from 11 (fun s9 s10 wx => Hid (∃ N9, s9 = .pointer (some ⟨N9, 0, none⟩) ∧ s10 = .bool tc ∧ Cb wx N9 33 [.bool u1, .int .i64 r1] ∧ Below w0.heap.size w0 wx))
    case first =>
      refine wp_region_held_drew (S := fun X => Cb X w.heap.size 48 [.int .i64 r.rise, .int .i64 r.fall, .int .i64 r.every, .slice (some ⟨gp, 0, none⟩) n c1, .int .i64 now, .slice a2 m2 c2] ∧ X.ownsRow 0 33 2 (.slice (some ⟨gp, 0, none⟩) n c1) n (pcells b.ps)) (by kernel_rfl) HH0.out (fun hHeld => ?_)
      refine wpAnyH_take (i := 0) (oi := ({ dst := some 23, op := Go.Op.fieldAddr 48 (Go.Operand.tmp 3) 0, type := 0, pos := _, after := #[], guard := none } : Oper)) (v := ?_) rfl (by kernel_rfl) (by kernel_rfl) (by kernel_rfl) (fun _ _ _ h => h) (Or.inl ⟨by rfl, ?_⟩) (by assumption) ?_
      rotate_left
      · intro W' hSw
        try dsimp only at hSw
        go_simp
        try with_reducible rfl
      try simp only [Act.put, List.setIfInBounds_toArray, List.set_cons_zero, List.set_cons_succ]
      refine wpAnyH_take (i := 1) (oi := ({ dst := some 24, op := Go.Op.load 23 (Go.Operand.tmp 23), type := 23, pos := _, after := #[{ on := 0, ground := Go.Ground.data }], guard := none } : Oper)) (v := ?_) rfl (by kernel_rfl) (by kernel_rfl) (by kernel_rfl) (fun _ _ _ h => h) (Or.inl ⟨by rfl, ?_⟩) (by assumption) ?_
      rotate_left
      · intro W' hSw
        try dsimp only at hSw
        obtain ⟨y0, y1, y2, y3, y4, y5⟩ := hSw.1.six
        go_simp
        try with_reducible rfl
      try simp only [Act.put, List.setIfInBounds_toArray, List.set_cons_zero, List.set_cons_succ]
      refine wpAnyH_take (i := 2) (oi := ({ dst := some 25, op := Go.Op.fieldAddr 48 (Go.Operand.tmp 3) 1, type := 0, pos := _, after := #[], guard := none } : Oper)) (v := ?_) rfl (by kernel_rfl) (by kernel_rfl) (by kernel_rfl) (fun _ _ _ h => h) (Or.inl ⟨by rfl, ?_⟩) (by assumption) ?_
      rotate_left
      · intro W' hSw
        try dsimp only at hSw
        go_simp
        try with_reducible rfl
      try simp only [Act.put, List.setIfInBounds_toArray, List.set_cons_zero, List.set_cons_succ]
      refine wpAnyH_take (i := 3) (oi := ({ dst := some 26, op := Go.Op.load 43 (Go.Operand.tmp 25), type := 43, pos := _, after := #[{ on := 2, ground := Go.Ground.data }], guard := none } : Oper)) (v := ?_) rfl (by kernel_rfl) (by kernel_rfl) (by kernel_rfl) (fun _ _ _ h => h) (Or.inl ⟨by rfl, ?_⟩) (by assumption) ?_
      rotate_left
      · intro W' hSw
        try dsimp only at hSw
        obtain ⟨y0, y1, y2, y3, y4, y5⟩ := hSw.1.six
        go_simp
        try with_reducible rfl
      try simp only [Act.put, List.setIfInBounds_toArray, List.set_cons_zero, List.set_cons_succ]
      refine wpAnyH_take (i := 4) (oi := ({ dst := some 27, op := Go.Op.move (Go.Operand.tmp 1), type := 3, pos := _, after := #[], guard := none } : Oper)) (v := ?_) rfl (by kernel_rfl) (by kernel_rfl) (by kernel_rfl) (fun _ _ _ h => h) (Or.inl ⟨by rfl, ?_⟩) (by assumption) ?_
      rotate_left
      · intro W' hSw
        try dsimp only at hSw
        go_simp
        try with_reducible rfl
      try simp only [Act.put, List.setIfInBounds_toArray, List.set_cons_zero, List.set_cons_succ]
      refine wpAnyH_take (i := 5) (oi := ({ dst := some 28, op := Go.Op.indexAddr 43 (Go.Operand.tmp 26) (Go.Operand.tmp 27), type := 0, pos := _, after := #[{ on := 3, ground := Go.Ground.data }, { on := 4, ground := Go.Ground.data }], guard := none } : Oper)) (v := ?_) rfl (by kernel_rfl) (by kernel_rfl) (by kernel_rfl) (fun _ _ _ h => h) (Or.inl ⟨by rfl, ?_⟩) (by assumption) ?_
      rotate_left
      · intro W' hSw
        try dsimp only at hSw
        go_simp
        try with_reducible rfl
      try simp only [Act.put, List.setIfInBounds_toArray, List.set_cons_zero, List.set_cons_succ]
      refine wpAnyH_take (i := 6) (oi := ({ dst := some 29, op := Go.Op.load 33 (Go.Operand.tmp 28), type := 33, pos := _, after := #[{ on := 5, ground := Go.Ground.data }], guard := none } : Oper)) (v := ?_) rfl (by kernel_rfl) (by kernel_rfl) (by kernel_rfl) (fun _ _ _ h => h) (Or.inl ⟨by rfl, ?_⟩) (by assumption) ?_
      rotate_left
      · intro W' hSw
        try dsimp only at hSw
        obtain ⟨p0, p1⟩ := prow2_at hSw.2 hjn
        rw [HPJ.out] at p0 p1
        simp only at p0 p1
        go_simp
        try with_reducible rfl
      try simp only [Act.put, List.setIfInBounds_toArray, List.set_cons_zero, List.set_cons_succ]
      refine wpAnyH_take (i := 7) (oi := ({ dst := some 30, op := Go.Op.move (Go.Operand.tmp 2), type := 4, pos := _, after := #[], guard := none } : Oper)) (v := ?_) rfl (by kernel_rfl) (by kernel_rfl) (by kernel_rfl) (fun _ _ _ h => h) (Or.inl ⟨by rfl, ?_⟩) (by assumption) ?_
      rotate_left
      · intro W' hSw
        try dsimp only at hSw
        go_simp
        try with_reducible rfl
      try simp only [Act.put, List.setIfInBounds_toArray, List.set_cons_zero, List.set_cons_succ]
      refine wpAnyH_ready (rs := [8, 12]) (by kernel_rfl) (by simp) ?_
      refine (AllReadyH.cons (o := ({ dst := some 31, op := Go.Op.call { callee := Go.Callee.value (Go.Operand.func 12), args := #[Go.Operand.tmp 24, Go.Operand.tmp 29, Go.Operand.tmp 30], argTypes := #[23, 33, 4] }, type := 34, pos := _, after := #[{ on := 1, ground := Go.Ground.data }, { on := 6, ground := Go.Ground.data }, { on := 7, ground := Go.Ground.data }], guard := none } : Oper)) rfl (fun K hK => ?_) (AllReadyH.cons (o := ({ dst := some 9, op := Go.Op.alloc 33, type := 0, pos := _, after := #[], guard := none } : Oper)) rfl (fun K hK => ?_) AllReadyH.nil))
      · go_simp
        refine (HRT.out _).mono ?_
        rintro e w3 ⟨rfl, hb3⟩
        go_wp2_with fail
        refine hK.out _ _ ?_ (fun hHeld => ?_)
        · exact ⟨hHeld.1.below hb3, row_below hHeld.2 hb3⟩
        clear hK K
        try simp only [Act.put, List.setIfInBounds_toArray, List.set_cons_zero, List.set_cons_succ]
        have HB3 := Lib.hid hb3
        have HH3 := Lib.hid hHeld
        clear hb3
        refine wpAnyH_take (i := 9) (oi := ({ dst := some 22, op := Go.Op.move (Go.Operand.tmp 31), type := 34, pos := _, after := #[{ on := 8, ground := Go.Ground.data }], guard := none } : Oper)) (v := ?_) rfl (by kernel_rfl) (by kernel_rfl) (by kernel_rfl) (fun _ _ _ h => h) (Or.inl ⟨by rfl, ?_⟩) (by assumption) ?_
        rotate_left
        · intro W' hSw
          try dsimp only at hSw
          go_simp
          try with_reducible rfl
        try simp only [Act.put, List.setIfInBounds_toArray, List.set_cons_zero, List.set_cons_succ]
        refine wpAnyH_take (i := 10) (oi := ({ dst := some 32, op := Go.Op.extract (Go.Operand.tmp 22) 0, type := 33, pos := _, after := #[{ on := 9, ground := Go.Ground.data }], guard := none } : Oper)) (v := ?_) rfl (by kernel_rfl) (by kernel_rfl) (by kernel_rfl) (fun _ _ _ h => h) (Or.inl ⟨by rfl, ?_⟩) (by assumption) ?_
        rotate_left
        · intro W' hSw
          try dsimp only at hSw
          go_simp
          try with_reducible rfl
        try simp only [Act.put, List.setIfInBounds_toArray, List.set_cons_zero, List.set_cons_succ]
        refine wpAnyH_take (i := 11) (oi := ({ dst := some 33, op := Go.Op.extract (Go.Operand.tmp 22) 1, type := 4, pos := _, after := #[{ on := 9, ground := Go.Ground.data }, { on := 13, ground := Go.Ground.gcOnly Go.Departure.lateStores }], guard := none } : Oper)) (v := ?_) rfl (by kernel_rfl) (by kernel_rfl) (by kernel_rfl) (fun _ _ _ h => h) (Or.inl ⟨by rfl, ?_⟩) (by assumption) ?_
        rotate_left
        · intro W' hSw
          try dsimp only at hSw
          go_simp
          try with_reducible rfl
        try simp only [Act.put, List.setIfInBounds_toArray, List.set_cons_zero, List.set_cons_succ]
        refine wpAnyH_ready (rs := [12]) (by kernel_rfl) (by simp) ?_
        refine AllReadyH.cons (o := ({ dst := some 9, op := Go.Op.alloc 33, type := 0, pos := _, after := #[], guard := none } : Oper)) rfl (fun K hK => ?_) AllReadyH.nil
        go_simp
        refine hK.out _ _ ?_ (fun hHeld => ?_)
        · exact ⟨hHeld.1.alloc _, row_below hHeld.2 (below_alloc (Below.refl _ _) _)⟩
        clear hK K
        try simp only [Act.put, List.setIfInBounds_toArray, List.set_cons_zero, List.set_cons_succ]
        refine wpAnyH_ready (rs := [13]) (by kernel_rfl) (by simp) ?_
        refine AllReadyH.cons (o := ({ dst := none, op := Go.Op.store 33 (Go.Operand.tmp 9) (Go.Operand.tmp 32), type := 0, pos := _, after := #[{ on := 12, ground := Go.Ground.data }, { on := 10, ground := Go.Ground.data }, { on := 8, ground := Go.Ground.chain }, { on := 0, ground := Go.Ground.phase }, { on := 1, ground := Go.Ground.phase }, { on := 2, ground := Go.Ground.phase }, { on := 3, ground := Go.Ground.phase }, { on := 4, ground := Go.Ground.phase }, { on := 5, ground := Go.Ground.phase }, { on := 6, ground := Go.Ground.phase }, { on := 7, ground := Go.Ground.phase }, { on := 8, ground := Go.Ground.phase }, { on := 9, ground := Go.Ground.phase }, { on := 10, ground := Go.Ground.phase }, { on := 11, ground := Go.Ground.textOnly Go.Departure.lateStores }, { on := 12, ground := Go.Ground.phase }], guard := none } : Oper)) rfl (fun K hK => ?_) AllReadyH.nil
        go_simp
        refine hK.out _ _ ?_ (fun hHeld => ?_)
        · exact ⟨HH3.out.1.alloc _, row_below HH3.out.2 (below_alloc (Below.refl _ _) _)⟩
        clear hK K
        try simp only [Act.put, List.setIfInBounds_toArray, List.set_cons_zero, List.set_cons_succ]
        have HEND : Hid (Cb (w3.alloc (.cells #[.bool u1, .int .i64 r1] 33)) w3.heap.size 33 [.bool u1, .int .i64 r1] ∧ Below w0.heap.size w0 (w3.alloc (.cells #[.bool u1, .int .i64 r1] 33))) := Lib.hid ⟨Cb.new2 w3 _ _ 33, (Below.trans (b := w0.drew) (below_drew (Below.refl _ _)) HB3.out).trans ((below_alloc (Below.refl _ _) _).mono HB3.out.size)⟩
        refine wpAnyH_take (i := 14) (oi := ({ dst := some 10, op := Go.Op.assign (Go.Operand.tmp 33), type := 4, pos := _, after := #[{ on := 11, ground := Go.Ground.data }, { on := 13, ground := Go.Ground.chain }, { on := 0, ground := Go.Ground.phase }, { on := 1, ground := Go.Ground.phase }, { on := 2, ground := Go.Ground.phase }, { on := 3, ground := Go.Ground.phase }, { on := 4, ground := Go.Ground.phase }, { on := 5, ground := Go.Ground.phase }, { on := 6, ground := Go.Ground.phase }, { on := 7, ground := Go.Ground.phase }, { on := 8, ground := Go.Ground.phase }, { on := 9, ground := Go.Ground.phase }, { on := 10, ground := Go.Ground.phase }, { on := 11, ground := Go.Ground.phase }, { on := 12, ground := Go.Ground.phase }, { on := 13, ground := Go.Ground.phase }], guard := none } : Oper)) (v := ?_) rfl (by kernel_rfl) (by kernel_rfl) (by kernel_rfl) (fun _ _ _ h => h) (Or.inl ⟨by rfl, ?_⟩) (by assumption) ?_
        rotate_left
        · intro W' hSw
          try dsimp only at hSw
          go_simp
          try with_reducible rfl
        try simp only [Act.put, List.setIfInBounds_toArray, List.set_cons_zero, List.set_cons_succ]
        refine wpAnyH_done (by kernel_rfl) ?_ _
        go_wp2
        go_meet
        case rel => exact Lib.hid ⟨_, rfl, rfl, HEND.out.1, HEND.out.2⟩
      · go_simp
        refine hK.out _ _ ?_ (fun hHeld => ?_)
        · exact ⟨hHeld.1.alloc _, row_below hHeld.2 (below_alloc (Below.refl _ _) _)⟩
        clear hK K
        try simp only [Act.put, List.setIfInBounds_toArray, List.set_cons_zero, List.set_cons_succ]
        refine wpAnyH_ready (rs := [8]) (by kernel_rfl) (by simp) ?_
        refine AllReadyH.cons (o := ({ dst := some 31, op := Go.Op.call { callee := Go.Callee.value (Go.Operand.func 12), args := #[Go.Operand.tmp 24, Go.Operand.tmp 29, Go.Operand.tmp 30], argTypes := #[23, 33, 4] }, type := 34, pos := _, after := #[{ on := 1, ground := Go.Ground.data }, { on := 6, ground := Go.Ground.data }, { on := 7, ground := Go.Ground.data }], guard := none } : Oper)) rfl (fun K hK => ?_) AllReadyH.nil
        go_simp
        refine (HRT.out _).mono ?_
        rintro e w3 ⟨rfl, hb3⟩
        go_wp2_with fail
        refine hK.out _ _ ?_ (fun hHeld => ?_)
        · exact ⟨hHeld.1.below hb3, row_below hHeld.2 hb3⟩
        clear hK K
        try simp only [Act.put, List.setIfInBounds_toArray, List.set_cons_zero, List.set_cons_succ]
        have HB3 := Lib.hid hb3
        have HH3 := Lib.hid hHeld
        clear hb3
        have hc3 := (Cb.new2 w0.drew (.bool false) (.int .i64 0) 33).below HB3.out
        obtain ⟨s0, s1⟩ := hc3.two
        have sf := hc3.free
        have sl := hc3.lt
        have HC3 := Lib.hid hc3
        clear hc3
        have hdz : w0.drew.heap.size = w.heap.size + 2 := hs0
        rw [hdz] at s0 s1 sf sl HC3
        clear hdz
        refine wpAnyH_take (i := 9) (oi := ({ dst := some 22, op := Go.Op.move (Go.Operand.tmp 31), type := 34, pos := _, after := #[{ on := 8, ground := Go.Ground.data }], guard := none } : Oper)) (v := ?_) rfl (by kernel_rfl) (by kernel_rfl) (by kernel_rfl) (fun _ _ _ h => h) (Or.inl ⟨by rfl, ?_⟩) (by assumption) ?_
        rotate_left
        · intro W' hSw
          try dsimp only at hSw
          go_simp
          try with_reducible rfl
        try simp only [Act.put, List.setIfInBounds_toArray, List.set_cons_zero, List.set_cons_succ]
        refine wpAnyH_take (i := 10) (oi := ({ dst := some 32, op := Go.Op.extract (Go.Operand.tmp 22) 0, type := 33, pos := _, after := #[{ on := 9, ground := Go.Ground.data }], guard := none } : Oper)) (v := ?_) rfl (by kernel_rfl) (by kernel_rfl) (by kernel_rfl) (fun _ _ _ h => h) (Or.inl ⟨by rfl, ?_⟩) (by assumption) ?_
        rotate_left
        · intro W' hSw
          try dsimp only at hSw
          go_simp
          try with_reducible rfl
        try simp only [Act.put, List.setIfInBounds_toArray, List.set_cons_zero, List.set_cons_succ]
        refine wpAnyH_take (i := 11) (oi := ({ dst := some 33, op := Go.Op.extract (Go.Operand.tmp 22) 1, type := 4, pos := _, after := #[{ on := 9, ground := Go.Ground.data }, { on := 13, ground := Go.Ground.gcOnly Go.Departure.lateStores }], guard := none } : Oper)) (v := ?_) rfl (by kernel_rfl) (by kernel_rfl) (by kernel_rfl) (fun _ _ _ h => h) (Or.inl ⟨by rfl, ?_⟩) (by assumption) ?_
        rotate_left
        · intro W' hSw
          try dsimp only at hSw
          go_simp
          try with_reducible rfl
        try simp only [Act.put, List.setIfInBounds_toArray, List.set_cons_zero, List.set_cons_succ]
        refine wpAnyH_ready (rs := [13]) (by kernel_rfl) (by simp) ?_
        refine AllReadyH.cons (o := ({ dst := none, op := Go.Op.store 33 (Go.Operand.tmp 9) (Go.Operand.tmp 32), type := 0, pos := _, after := #[{ on := 12, ground := Go.Ground.data }, { on := 10, ground := Go.Ground.data }, { on := 8, ground := Go.Ground.chain }, { on := 0, ground := Go.Ground.phase }, { on := 1, ground := Go.Ground.phase }, { on := 2, ground := Go.Ground.phase }, { on := 3, ground := Go.Ground.phase }, { on := 4, ground := Go.Ground.phase }, { on := 5, ground := Go.Ground.phase }, { on := 6, ground := Go.Ground.phase }, { on := 7, ground := Go.Ground.phase }, { on := 8, ground := Go.Ground.phase }, { on := 9, ground := Go.Ground.phase }, { on := 10, ground := Go.Ground.phase }, { on := 11, ground := Go.Ground.textOnly Go.Departure.lateStores }, { on := 12, ground := Go.Ground.phase }], guard := none } : Oper)) rfl (fun K hK => ?_) AllReadyH.nil
        go_simp
        refine hK.out _ _ ?_ (fun hHeld => ?_)
        · exact ⟨HH3.out.1.only (setTwo w3 (w.heap.size + 2) _ _) (by omega), row_only HH3.out.2 (setTwo w3 (w.heap.size + 2) _ _) fun g hg e => by have := HGP.out g hg; omega⟩
        clear hK K
        try simp only [Act.put, List.setIfInBounds_toArray, List.set_cons_zero, List.set_cons_succ]
        have HEND : Hid (Cb ((w3.setCell ⟨w.heap.size + 2, 0, none⟩ (.bool u1)).setCell ⟨w.heap.size + 2, 1, none⟩ (.int .i64 r1)) (w.heap.size + 2) 33 [.bool u1, .int .i64 r1] ∧ Below w0.heap.size w0 ((w3.setCell ⟨w.heap.size + 2, 0, none⟩ (.bool u1)).setCell ⟨w.heap.size + 2, 1, none⟩ (.int .i64 r1))) := Lib.hid (by
          refine ⟨(HC3.out.setAt 0 (.bool u1)).setAt 1 (.int .i64 r1), ?_⟩
          have h1 := (Below.trans (b := w0.drew) (below_drew (Below.refl w0.heap.size w0)) (below_alloc (Below.refl w0.drew.heap.size w0.drew) (.cells #[.bool false, .int .i64 0] 33)))
          have h2 := h1.trans (HB3.out.mono h1.size)
          exact h2.trans (Only.below (setTwo w3 (w.heap.size + 2) _ _) h2.size fun i hi => by have : i = w.heap.size + 2 := hi; omega))
        refine wpAnyH_take (i := 14) (oi := ({ dst := some 10, op := Go.Op.assign (Go.Operand.tmp 33), type := 4, pos := _, after := #[{ on := 11, ground := Go.Ground.data }, { on := 13, ground := Go.Ground.chain }, { on := 0, ground := Go.Ground.phase }, { on := 1, ground := Go.Ground.phase }, { on := 2, ground := Go.Ground.phase }, { on := 3, ground := Go.Ground.phase }, { on := 4, ground := Go.Ground.phase }, { on := 5, ground := Go.Ground.phase }, { on := 6, ground := Go.Ground.phase }, { on := 7, ground := Go.Ground.phase }, { on := 8, ground := Go.Ground.phase }, { on := 9, ground := Go.Ground.phase }, { on := 10, ground := Go.Ground.phase }, { on := 11, ground := Go.Ground.phase }, { on := 12, ground := Go.Ground.phase }, { on := 13, ground := Go.Ground.phase }], guard := none } : Oper)) (v := ?_) rfl (by kernel_rfl) (by kernel_rfl) (by kernel_rfl) (fun _ _ _ h => h) (Or.inl ⟨by rfl, ?_⟩) (by assumption) ?_
        rotate_left
        · intro W' hSw
          try dsimp only at hSw
          go_simp
          try with_reducible rfl
        try simp only [Act.put, List.setIfInBounds_toArray, List.set_cons_zero, List.set_cons_succ]
        refine wpAnyH_done (by kernel_rfl) ?_ _
        go_wp2
        go_meet
        case rel => exact Lib.hid ⟨_, rfl, rfl, HEND.out.1, HEND.out.2⟩
    case rest =>
      obtain ⟨N9, rfl, rfl, hc9, hb9⟩ := hcut.out
      clear hcut
      have hbc := HX.out.2.2.1.trans (hb9.mono HX.out.2.2.1.size)
      have hcA := HX.out.1.below hb9
      have hcB := HX.out.2.1.below hb9
      have hpA := row_below HX.out.2.2.2 hb9
      obtain ⟨v4, w4, happ, hown4, hb4⟩ := copy_pr HPL.out hpA (by omega)
      obtain ⟨g4, c4, rfl, -, -, hg4, hg4l⟩ := row_slice hown4 (by omega)
      have hszc : w.heap.size + 2 ≤ wc.heap.size := by have := hb9.size; omega
      have hcA4 := hcA.below hb4
      have hcB4 := hcB.below hb4
      have hc94 := hc9.below hb4
      have h9l := hc94.lt
      have h9c := hc9.lt
      obtain ⟨y0, y1⟩ := hc94.two
      obtain ⟨x0, x1, x2, x3, x4, x5⟩ := hcA.six
      have hlA := hcA.lt
      obtain ⟨t0, t1⟩ := prow2_at hown4 hjn
      have tf := hown4.frozenAt
      have hst2 := ((hown4.stored (j * 2) (.bool u1)).1.stored (j * 2 + 1) (.int .i64 r1)).1
      have hpset := pcells_set b.ps j ⟨u1, r1⟩ (by rw [HPL.out]; exact hjn)
      simp only at hpset
      rw [hpset] at hst2
      have ho5 : Only (fun i => i = g4) w4 ((w4.setCell ⟨g4, j * 2, none⟩ (.bool u1)).setCell ⟨g4, j * 2 + 1, none⟩ (.int .i64 r1)) :=
        Only.setCell (F := fun i => i = g4) (Only.setCell (F := fun i => i = g4) (Only.refl _ w4) (p := ⟨g4, j * 2, none⟩) (Or.inl rfl) _) (p := ⟨g4, j * 2 + 1, none⟩) (Or.inl rfl) _
      have hcA5 := hcA4.only ho5 (by show ¬ w.heap.size = g4; omega)
      have hcB5 := hcB4.only ho5 (by show ¬ w.heap.size + 1 = g4; omega)
      have b5 : Below w.heap.size w ((w4.setCell ⟨g4, j * 2, none⟩ (.bool u1)).setCell ⟨g4, j * 2 + 1, none⟩ (.int .i64 r1)) := by
        have b4 := hbc.trans (hb4.mono hbc.size)
        exact b4.trans (Only.below ho5 b4.size fun i hi => by have : i = g4 := hi; omega)
      have HRUN := Lib.hid happ
      have HF := Lib.hid (And.intro hst2 (And.intro hcA5 (And.intro hcB5 b5)))
      obtain ⟨f0, f1⟩ : w4.frozen? ⟨g4, j * 2, none⟩ = false ∧ w4.frozen? ⟨g4, j * 2 + 1, none⟩ = false := ⟨tf _, tf _⟩
      clear hbc hcA hcB hpA happ hown4 hb4 hcA4 hcB4 hc94 tf hst2 hpset ho5 hcA5 hcB5 b5 hc9 hb9
      go_upto_region 6 with (at_builtin; refine Lib.wpList_append_run _ rfl _ _ _ _ rfl _ _ rfl rfl _ _ HRUN.out ?_)
      obtain ⟨w5, hw5⟩ : ∃ X, X = (w4.setCell ⟨g4, j * 2, none⟩ (.bool u1)).setCell ⟨g4, j * 2 + 1, none⟩ (.int .i64 r1) := ⟨_, rfl⟩
      rw [← hw5] at HF ⊢
      clear hw5 x0 x1 x2 x3 x4 x5
      obtain ⟨x0, x1, x2, x3, x4, x5⟩ := HF.out.2.1.six
      have xl := HF.out.2.1.lt
      have xf := HF.out.2.1.free
      have hcA6 := HF.out.2.1.setAt 3 (.slice (some ⟨g4, 0, none⟩) n c4)
      simp only [List.set_cons_succ, List.set_cons_zero] at hcA6
      have ho6 : Only (fun i => i = w.heap.size) w5 (w5.setCell ⟨w.heap.size, 3, none⟩ (.slice (some ⟨g4, 0, none⟩) n c4)) := Only.setCell (F := fun i => i = w.heap.size) (Only.refl _ w5) (p := ⟨w.heap.size, 3, none⟩) (Or.inl rfl) _
      have hcB6 := HF.out.2.2.1.only ho6 (by show ¬ w.heap.size + 1 = w.heap.size; omega)
      have hr6 := row_only HF.out.1 ho6 fun g hg e => by have := (HF.out.1.lt g hg).1; have : g = w.heap.size := e; omega
      have b6 := HF.out.2.2.2.trans (Only.below ho6 HF.out.2.2.2.size fun i hi => by have : i = w.heap.size := hi; omega)
      obtain ⟨w7, hst7, hcb7, ho7⟩ := store48 hcB6 rfl r.rise r.fall r.every now (.slice (some ⟨g4, 0, none⟩) n c4) (.slice a2 m2 c2) rfl rfl
      obtain ⟨g0, g1, g2, g3, g4', g5⟩ := hcb7.six
      have HF7 := Lib.hid (And.intro (row_only hr6 ho7 fun g hg e => by have := (hr6.lt g hg).1; have : g = w.heap.size + 1 := e; omega) (b6.trans (Only.below ho7 b6.size fun i hi => by have : i = w.heap.size + 1 := hi; omega)))
      clear hcA6 ho6 hcB6 hr6 b6 hcb7 ho7
      go_wp2
      refine bodyPost_ret (v := .tuple #[.agg #[.int .i64 r.rise, .int .i64 r.fall, .int .i64 r.every, .slice (some ⟨g4, 0, none⟩) n c4, .int .i64 now, .slice a2 m2 c2], .bool tc, .bool true]) (by simp [results, Try.results18, go_sem, g0, g1, g2, g3, g4', g5]) rfl ⟨_, rfl, row_base HF7.out.1 (Nat.zero_le _), HF7.out.2, fun g hg => .inr ?_⟩
      have e : g4 = g := by simpa [Value.ownBlock] using hg
      omega
  · have e1 : isB b k = false := decide_eq_false (by rw [hpl]; exact hin)
    have e2 : tellBC r b k good = false := by unfold tellBC; rw [e1]; rfl
    have e3 : tellB r b k good = b := by unfold tellB; rw [e1]; rfl
    rw [e1, e2, e3]
    obtain ⟨w3, hst3, hcb3, ho3⟩ := store48 hc1 rfl r.rise r.fall r.every now (.slice a1 n c1) (.slice a2 m2 c2) rfl rfl
    obtain ⟨g0, g1, g2, g3, g4, g5⟩ := hcb3.six
    have HO3 := Lib.hid ho3
    have HP3 := Lib.hid (row_only hp0 ho3 fun g hg e => by have := HGP.out g hg; have : g = w.heap.size + 1 := e; omega)
    clear hp0 hp hc0 hc1 hb0 hcb3 ho3 e1 e2 e3 ok hpl
    rw [hw0] at q0 q1 q2 q3 q4 q5 hst3
    clear hw0 hs0 hl0
    by_cases hk0 : k < 0
    · go_enter Try.func18, Try.ntmps18
      go_wp2
      refine bodyPost_ret (v := .tuple #[.agg #[.int .i64 r.rise, .int .i64 r.fall, .int .i64 r.every, .slice a1 n c1, .int .i64 now, .slice a2 m2 c2], .bool false, .bool false]) (by simp [results, Try.results18, go_sem, g0, g1, g2, g3, g4, g5]) rfl ⟨_, rfl, HP3.out, only_below HX.out.2.2.1 HO3.out (by omega), fun g hg => .inl hg⟩
    · have hk1 : k ≥ (n : Int) := by omega
      go_enter Try.func18, Try.ntmps18
      go_wp2
      refine bodyPost_ret (v := .tuple #[.agg #[.int .i64 r.rise, .int .i64 r.fall, .int .i64 r.every, .slice a1 n c1, .int .i64 now, .slice a2 m2 c2], .bool false, .bool false]) (by simp [results, Try.results18, go_sem, g0, g1, g2, g3, g4, g5]) rfl ⟨_, rfl, HP3.out, only_below HX.out.2.2.1 HO3.out (by omega), fun g hg => .inl hg⟩

end Go.Proofs.Ytkcndgiiangmjaa
