/-
  health.Lay.
-/
import Derived.Test.YtkcndgiiangmjaaCb
import Derived.Test.YtkcndgiiangmjaaNew
namespace Go.Proofs.Ytkcndgiiangmjaa
open Go.RowKit Go.Maps
set_option linter.unusedVariables false
set_option linter.unusedSimpArgs false
set_option maxRecDepth 10000

theorem bd_start {w : World} {G : Nat → Prop} {W : Nat} (r : Ru) (hW : Wh w G W 0 [] []) : BdS (w.alloc (.cells #[.int .i64 r.rise, .int .i64 r.fall, .int .i64 r.every, .slice none 0 0, .pointer (some ⟨W, 0, none⟩)] 77)) (fun i => G i ∨ i = w.heap.size) w.heap.size r [] [] (.slice none 0 0) W G ⟨0, []⟩ := by
  have hlt : ∀ i, G i → i < w.heap.size := by obtain ⟨M, sl, h⟩ := hW; exact h.lt
  refine ⟨?_, .inr rfl, ?_, ?_, ?_, ?_, ?_, ?_, World.ownsRow_nil _ _ _ _, ?_, rfl, ?_, ?_, ?_, hW.below (below_alloc (Below.refl _ _) _), ?_⟩
  · rintro i (hi | rfl)
    · have := hlt i hi; simp; omega
    · simp
  · simp [go_sem]
  · simp [go_sem]
  · simp [go_sem]
  · simp [go_sem]
  · simp [go_sem]
  · intro j; simp [go_sem]
  · intro g hg; simp [Value.ownBlock] at hg
  · intro k hk; simp at hk
  · intro k hk; simp at hk
  · intro j k hj; simp at hj
  · intro i hi
    have := hlt i hi
    exact ⟨.inl hi, by omega⟩

theorem repl_next {α : Type} (k : Nat) (a : α) : List.replicate (k + 1) a = List.replicate k a ++ [a] := List.replicate_succ'

def LyRel (w : World) (r : Ru) (n B : Nat) (gg : Nat) (s21 : Value) (wr : World) : Prop :=
  ∃ k : Nat, k + gg = n ∧ s21 = .int .i64 k ∧ ∃ F qs v W G, BdS wr F B r (List.replicate k ⟨false, 0⟩) qs v W G (layS k) ∧ (∀ i, F i → w.heap.size + 1 ≤ i) ∧
    Below (w.heap.size + 1) (w.alloc (.cells #[.int .i64 r.rise, .int .i64 r.fall, .int .i64 r.every] 29)) wr

set_option maxHeartbeats 4000000 in
theorem hlay_any (w : World) (r : Ru) (m : Int) : Calls Try.prog 16 #[ruv r, .int .i64 m] w fun e w' => Below w.heap.size w w' ∧
    (((okR r && inn m 16) = true ∧ ∃ B F, e = .returned (.tuple #[.pointer (some ⟨B, 0, none⟩), .int .i64 0]) ∧ Bd w' F B r (laidB m.toNat) ∧ ∀ i, F i → w.heap.size ≤ i) ∨ ((okR r && inn m 16) = false ∧ e = .returned (.tuple #[.pointer none, .int .i64 1]))) := by
  have HB := Lib.hid (below_alloc (Below.refl w.heap.size w) (.cells #[.int .i64 r.rise, .int .i64 r.fall, .int .i64 r.every] 29))
  have hh := holds_any (w.alloc (.cells #[.int .i64 r.rise, .int .i64 r.fall, .int .i64 r.every] 29)) r
  have HWI := Lib.hid (fun w => within_any w m 16)
  unfold ruv at hh ⊢
  cases hk : okR r with
  | false =>
    rw [hk] at hh
    have HH := Lib.hid hh
    clear hh hk
    go_enter Try.func16, Try.ntmps16
    go_wp2_with (go_at_call 26; refine HH.out.mono ?_; rintro e w1 ⟨rfl, hb1⟩; have HB1 := Lib.hid hb1; clear hb1)
    go_ret2
    exact ⟨HB.out.trans (HB1.out.mono (by simp)), .inr ⟨by simp, rfl⟩⟩
  | true =>
    rw [hk] at hh
    have HH := Lib.hid hh
    have HK := Lib.hid hk
    clear hh hk
    cases hm : inn m 16 with
    | false =>
      rw [hm] at HWI
      go_enter Try.func16, Try.ntmps16
      go_wp2_with (first | (go_at_call 26; refine HH.out.mono ?_; rintro e w1 ⟨rfl, hb1⟩; have HB1 := Lib.hid hb1; clear hb1) | (go_at_call 29; refine (HWI.out _).mono ?_; rintro e w1 ⟨rfl, rfl⟩))
      go_ret2
      exact ⟨HB.out.trans (HB1.out.mono (by simp)), .inr ⟨by simp, rfl⟩⟩
    | true =>
      rw [hm] at HWI
      have hm2 := of_decide_eq_true hm
      obtain ⟨n, rfl⟩ := Int.eq_ofNat_of_zero_le (show 0 ≤ m by omega)
      clear hm
      have hn16 : n ≤ 16 := by omega
      have HN := Lib.hid (fun w => new_any w)
      go_enter Try.func16, Try.ntmps16
      go_wp2_with (first | (go_at_call 26; refine HH.out.mono ?_; rintro e w1 ⟨rfl, hb1⟩; have hc : ∀ j, w1.cell? ⟨w.heap.size, j, none⟩ = (w.alloc (.cells #[.int .i64 r.rise, .int .i64 r.fall, .int .i64 r.every] 29)).cell? ⟨w.heap.size, j, none⟩ := fun j => hb1.cell (p := ⟨w.heap.size, j, none⟩) (by simp); have c0 := hc 0; have c1 := hc 1; have c2 := hc 2; simp [go_sem] at c0 c1 c2; have HCB : Hid (Cb w1.drew w.heap.size 29 [.int .i64 r.rise, .int .i64 r.fall, .int .i64 r.every]) := Lib.hid ((Cb.new3 w (.int .i64 r.rise) (.int .i64 r.fall) (.int .i64 r.every) 29).below hb1).drew; have HB1 := Lib.hid hb1; clear hb1 hc) | (go_at_call 29; refine (HWI.out _).mono ?_; rintro e w1 ⟨rfl, rfl⟩))
      refine wp_region_held_drew (S := fun X => Cb X w.heap.size 29 [.int .i64 r.rise, .int .i64 r.fall, .int .i64 r.every]) (by kernel_rfl) HCB.out (fun hHeld => ?_)
      refine wpAnyH_take (i := 0) (oi := ({ dst := some 16, op := Go.Op.load 29 (Go.Operand.tmp 2), type := 29, pos := _, after := #[], guard := none } : Oper)) (v := ?_) rfl (by kernel_rfl) (by kernel_rfl) (by kernel_rfl) (fun _ _ _ h => h) (Or.inl ⟨by rfl, ?_⟩) (by assumption) ?_
      rotate_left
      · intro W' hSw
        try dsimp only at hSw
        obtain ⟨q0, q1, q2⟩ := hSw.three
        go_simp
        try with_reducible rfl
      try simp only [Act.put, List.setIfInBounds_toArray, List.set_cons_zero, List.set_cons_succ]
      refine wpAnyH_ready (rs := [1]) (by kernel_rfl) (by simp) ?_
      refine AllReadyH.cons (o := ({ dst := some 17, op := Go.Op.call { callee := Go.Callee.value (Go.Operand.func 30), args := #[], argTypes := #[] }, type := 73, pos := _, after := #[], guard := none } : Oper)) rfl (fun K hK => ?_) AllReadyH.nil
      go_simp
      refine (HN.out _).mono ?_
      rintro e w2 ⟨W, G, rfl, hW, hG, hb2⟩
      go_wp2_with fail
      refine hK.out _ _ ?_ (fun hHeld => ?_)
      · exact hHeld.below hb2
      clear hK K
      try simp only [Act.put, List.setIfInBounds_toArray, List.set_cons_zero, List.set_cons_succ]
      have HW := Lib.hid hW
      have HG := Lib.hid hG
      have HB2 := Lib.hid hb2
      clear hW hG hb2
      refine wpAnyH_take (i := 2) (oi := ({ dst := some 18, op := Go.Op.build 77 #[(0, Go.Operand.tmp 16), (2, Go.Operand.tmp 17)], type := 77, pos := _, after := #[{ on := 0, ground := Go.Ground.data }, { on := 1, ground := Go.Ground.data }], guard := none } : Oper)) (v := ?_) rfl (by kernel_rfl) (by kernel_rfl) (by kernel_rfl) (fun _ _ _ h => h) (Or.inl ⟨by rfl, ?_⟩) (by assumption) ?_
      rotate_left
      · intro W' hSw
        try dsimp only at hSw
        go_simp
        try with_reducible rfl
      try simp only [Act.put, List.setIfInBounds_toArray, List.set_cons_zero, List.set_cons_succ]
      refine wpAnyH_ready (rs := [3]) (by kernel_rfl) (by simp) ?_
      refine AllReadyH.cons (o := ({ dst := some 19, op := Go.Op.box 77 (Go.Operand.tmp 18), type := 40, pos := _, after := #[{ on := 2, ground := Go.Ground.data }], guard := none } : Oper)) rfl (fun K hK => ?_) AllReadyH.nil
      go_simp
      refine hK.out _ _ ?_ (fun hHeld => ?_)
      · exact hHeld.alloc _
      clear hK K
      try simp only [Act.put, List.setIfInBounds_toArray, List.set_cons_zero, List.set_cons_succ]
      refine wpAnyH_take (i := 4) (oi := ({ dst := some 6, op := Go.Op.assign (Go.Operand.tmp 19), type := 40, pos := _, after := #[{ on := 3, ground := Go.Ground.data }, { on := 1, ground := Go.Ground.chain }, { on := 0, ground := Go.Ground.phase }, { on := 1, ground := Go.Ground.phase }, { on := 2, ground := Go.Ground.phase }, { on := 3, ground := Go.Ground.phase }], guard := none } : Oper)) (v := ?_) rfl (by kernel_rfl) (by kernel_rfl) (by kernel_rfl) (fun _ _ _ h => h) (Or.inl ⟨by rfl, ?_⟩) (by assumption) ?_
      rotate_left
      · intro W' hSw
        try dsimp only at hSw
        go_simp
        try with_reducible rfl
      try simp only [Act.put, List.setIfInBounds_toArray, List.set_cons_zero, List.set_cons_succ]
      refine wpAnyH_done (by kernel_rfl) ?_ _
      have hsz2 : w.heap.size + 1 ≤ w2.heap.size := by have h1 := HB2.out.size; have h2 := HB1.out.size; simp at h1 h2; omega
      have HBB : Hid (Below (w.heap.size + 1) (w.alloc (.cells #[.int .i64 r.rise, .int .i64 r.fall, .int .i64 r.every] 29)) (w2.alloc (.cells #[.int .i64 r.rise, .int .i64 r.fall, .int .i64 r.every, .slice none 0 0, .pointer (some ⟨W, 0, none⟩)] 77))) := Lib.hid (by
        have h1 := HB1.out
        have e1 : (w.alloc (.cells #[.int .i64 r.rise, .int .i64 r.fall, .int .i64 r.every] 29)).heap.size = w.heap.size + 1 := by simp
        rw [e1] at h1
        have h2 := below_drew h1
        have hs1 : w.heap.size + 1 ≤ w1.heap.size := by have h3 := HB1.out.size; simpa using h3
        have h3 := h2.trans (HB2.out.mono (by simpa using hs1))
        exact h3.trans ((below_alloc (Below.refl _ _) _).mono hsz2))
      have HST := Lib.hid (bd_start r HW.out)
      have HGG : Hid (∀ i, G i ∨ i = w2.heap.size → w.heap.size + 1 ≤ i) := Lib.hid (by
        rintro i (hi | rfl)
        · have h1 := HG.out i hi; have h2 := HB1.out.size; simp at h1 h2; omega
        · exact hsz2)
      obtain ⟨B, hB⟩ : ∃ B, w2.heap.size = B := ⟨_, rfl⟩
      rw [hB] at HST HGG hsz2
      clear HCB hHeld HH
      have HNN := Lib.hid hn16
      go_wp2
      rw [hB]
      go_loopg [21] n (fun gg s21 wr => Hid (LyRel w r n B gg s21 wr))
      case atStart => exact Lib.hid ⟨0, by omega, rfl, _, [], _, W, G, HST.out, HGG.out, HBB.out⟩
      case round =>
        obtain ⟨k, hk, rfl, F, qs, v, W', G', hBd, hF, hBl⟩ := hrel.out
        clear hrel
        have hcb := (Cb.new3 w (.int .i64 r.rise) (.int .i64 r.fall) (.int .i64 r.every) 29).low hBl (by omega)
        obtain ⟨c0, c1, c2⟩ := hcb.three
        have hwl := hcb.lt
        have hszr : w.heap.size + 1 ≤ wr.heap.size := hwl
        by_cases hkn : k < n
        · have hkz : (k : Int) < (n : Int) := by omega
          have hqk : qs.length = k := by rw [hBd.len]; simp
          obtain ⟨a, c, rfl, -, -⟩ := row_any hBd.row
          have hbd := hBd.only (F' := fun _ => False) (Only.of_below (below_drew (Below.refl wr.heap.size wr))) (fun _ _ h => h)
          obtain ⟨v', w3, hrun, hl3, z3, f3, F2, hBd2, hF2, hO2⟩ := hbd.more (by omega) ⟨false, 0⟩
          obtain ⟨a2, c2', rfl, -, -⟩ := row_any hBd2.row
          have hl2 : (qs ++ [wr.drew.heap.size]).length = k + 1 := by rw [List.length_append, List.length_singleton, hqk]
          rw [hl2] at hrun hBd2 hO2
          have d3 := hBd.c3
          have hBlt : B < wr.heap.size := hBd.lt B hBd.inB
          have z4 := hBd2.c4
          simp [go_sem] at z4
          have hlo := layS_ok k
          have hset := set_any (now := (layS k).now) (x := (k : Int)) (a := (k : Int) + 1) hBd2.wh hlo.fit hlo.now (by have := hlo.len; omega)
          have hw1 : IntKind.i64.wrap ((k : Int) + 1) = (k : Int) + 1 := by rw [IntKind.wrap_i64]; omega
          have HRUN := Lib.hid hrun
          have HSET := Lib.hid hset
          have HBD2 := Lib.hid hBd2
          have HX := Lib.hid (And.intro hF (And.intro hF2 (And.intro hO2 hBl)))
          rw [hqk] at d3 HRUN z3
          clear hBd hbd hrun hBd2 hset hlo hF hF2 hO2 hBl hcb
          go_wp2_with fail
          go_region_law (refine step_append_run rfl (.tmp 28) (.tmp 32) 75 75 rfl (v := .slice a k c) (u := .slice (some ⟨wr.heap.size + 1, 0, none⟩) 1 1) rfl rfl 75 rfl HRUN.out ?_)
          all_goals go_wp2_with (go_at_call 31; refine HSET.out.mono ?_; rintro e w4 ⟨rfl, G2, hW4, hG2, hO4⟩; have HZ := Lib.hid (And.intro hW4 (And.intro hG2 hO4)); clear hW4 hG2 hO4)
          all_goals (
            go_roundg (n - (k + 1))
            case measure => omega
            case rel =>
              refine Lib.hid ⟨k + 1, by omega, by go_num, fun i => F2 i ∨ G2 i, qs ++ [wr.drew.heap.size], .slice a2 (k + 1) c2', W', G2, ?_, ?_, ?_⟩
              · rw [repl_next]
                exact HBD2.out.wheel (s' := layS (k + 1)) (by rw [layS_next]; exact HZ.out.1) HZ.out.2.1 HZ.out.2.2
              · intro i hi
                rcases HBD2.out.wheel_in HZ.out.2.1 i hi with h | h
                · rcases HX.out.2.1 i h with h | h
                  · exact HX.out.1 i h
                  · exact Nat.le_trans hszr h
                · exact Nat.le_trans (Nat.le_trans hszr HX.out.2.2.1.size) h
              · refine HX.out.2.2.2.trans ?_
                have h1 := Only.below (B := w.heap.size + 1) HX.out.2.2.1 hszr HX.out.1
                refine Below.trans (b := wr.drew) (below_drew (Below.refl _ _)) (h1.trans (Only.below (HBD2.out.wheel_only HZ.out.2.2) (Nat.le_trans hszr HX.out.2.2.1.size) fun i hi => ?_))
                rcases HX.out.2.1 i hi with h | h
                · exact HX.out.1 i h
                · exact Nat.le_trans hszr h)
        · obtain rfl : k = n := by omega
          have HBd := Lib.hid hBd
          have HX := Lib.hid (And.intro hF hBl)
          clear hBd hF hBl hcb
          go_wp2_with fail
          go_ret2
          refine ⟨HB.out.trans (HX.out.2.mono (by omega)), .inl ⟨by simp, B, F, rfl, ⟨qs, v, W', G', ?_⟩, fun i hi => by have := HX.out.1 i hi; omega⟩⟩
          simpa [laidB] using HBd.out

end Go.Proofs.Ytkcndgiiangmjaa
