/-
  slices.Insert of one timer into a row of timers.
-/
import Derived.Test.YtkcndgiiangmjaaInsb
import Derived.Test.YtkcndgiiangmjaaInsc
namespace Go.Proofs.Ytkcndgiiangmjaa
open Go.RowKit Go.Proofs
set_option linter.unusedVariables false
set_option linter.unusedSimpArgs false
set_option maxRecDepth 100000

theorem tcells_ins (l : List Tm) (i : Nat) (t : Tm) : tcells (l.take i ++ t :: l.drop i) = (tcells l).take (i * 2) ++ .int .i64 t.id :: .int .i64 t.at_ :: (tcells l).drop (i * 2) := by
  rw [tcells_app, tcells_take, tcells_drop]; rfl

/-- An append of one timer: in the row's own block, or in a new one. -/
theorem append_one {w : World} {base n c vb : Nat} {a : Option Addr} {C : List Value} {v0 v1 : Value} (hrow : w.ownsRow base 90 2 (.slice a n c) n C) (hb : base ≤ w.heap.size)
    (hv : w.heap[vb]? = some (.cells #[v0, v1] 90 (0, 0))) (h1v : ∀ u ∈ [v0, v1], u.oneCell' = true) (hn : n ≤ 100000) :
    ∃ v' w', (Builtin.append_ #[83, 83] 83 #[.slice a n c, .slice (some ⟨vb, 0, none⟩) 1 1]).run Try.prog w = .ok v' w' ∧ w'.ownsRow base 90 2 v' (n + 1) (C ++ [v0, v1]) ∧ w.grownBy w' (Value.slice a n c).ownBlock ∧
      (v'.ownBlock = (Value.slice a n c).ownBlock ∨ ∀ k, v'.ownBlock = some k → w.heap.size ≤ k) := by
  obtain ⟨i0, hi, hz0, hz1, hz2⟩ := info_parts info61
  have hnews : ∀ j u, [v0, v1][j]? = some u → w.cell? ((⟨vb, 0, none⟩ : Addr).add j) = some u := fun j v hj => by
    rw [add_plain, Nat.zero_add, cell_of_row w vb j _ 90 (0, 0) hv]
    simpa using hj
  rcases hrow.2 with ⟨h, h0⟩ | ⟨g, cap, cur, h, hbg, hg, hnc, hcm, hcs, htake⟩
  · simp at h
    obtain ⟨rfl, rfl, rfl⟩ := h
    have hC : C = [] := List.eq_nil_of_length_eq_zero (by simpa using hrow.1)
    subst hC
    obtain ⟨v', w', hr, h2, h3, h4⟩ := run_append_own (P := Try.prog) w w.heap.size 83 83 90 i0 _ 2 16 Try.underlying83 hi hz0 hz1 hz2 rfl (by decide) _ 0 [] (World.ownsRow_nil w w.heap.size 90 2) ⟨vb, 0, none⟩ 1 1 [v0, v1] rfl hnews h1v (by simp only [maxLen]; omega) (by omega) (Nat.le_refl _)
    exact ⟨v', w', hr, row_base h2 hb, h3, .inr fun k hk => (h2.lt k hk).1⟩
  · simp at h
    obtain ⟨rfl, rfl⟩ := h
    by_cases hroom : n + 1 ≤ c
    · obtain ⟨w', hr, h2, h3⟩ := run_append_fits (P := Try.prog) w base 83 83 90 i0 2 Try.underlying83 hi hz1 g n c C hrow ⟨vb, 0, none⟩ 1 1 [v0, v1] rfl hnews h1v hroom
      exact ⟨_, w', hr, h2, h3, .inl rfl⟩
    · have holds : ∀ j u, C[j]? = some u → w.cell? ((⟨g, 0, none⟩ : Addr).add j) = some u := hrow.cells (g := g) rfl
      have hr := run_append_grow (P := Try.prog) w 83 83 90 i0 _ Try.underlying83 hi hz0 ⟨g, 0, none⟩ n c C (by rw [hz1]; exact hrow.1) holds ⟨vb, 0, none⟩ 1 1 [v0, v1] (by rw [hz1]; rfl) hnews (by omega) (by omega) (growslice_fits (by omega) (by rw [hz2]; omega))
      have hge := grownCap_ge w (n + 1) c 90
      have hcm' : grownCap w (n + 1) c 90 ≤ maxLen := grownCap_le_maxLen w (n + 1) c 90 (by simp only [maxLen]; omega)
      refine ⟨_, _, hr, ⟨?_, .inr ⟨w.heap.size, _, _, rfl, hb, heap_alloc_new w.drew _, hge, hcm', ?_, ?_⟩⟩, ⟨rfl, rfl, rfl, by simp, fun k hk _ => Below.heap_alloc w.drew _ k hk⟩, .inr fun k hk => ?_⟩
      · rw [List.length_append, hrow.1]; simp; omega
      · simp only [Array.size_append, List.size_toArray, size_zeroCells, hrow.1]
        simp [Value.cells]
        omega
      · simp only [Array.toList_append, List.append_assoc]
        rw [← List.append_assoc, take_split (a := (n + 1) * 2) (by rw [List.length_append, hrow.1]; simp; omega) (Nat.le_refl _), Nat.sub_self, List.take_zero, List.append_nil]
      · simp [Value.ownBlock] at hk
        omega

set_option maxHeartbeats 1000000 in
theorem insert_end {w : World} {base n c vb : Nat} {a : Option Addr} {C : List Value} {v0 v1 : Value} (hrow : w.ownsRow base 90 2 (.slice a n c) n C) (hb : base ≤ w.heap.size)
    (hv : w.heap[vb]? = some (.cells #[v0, v1] 90 (0, 0))) (h1v : ∀ u ∈ [v0, v1], u.oneCell' = true) (hn : n ≤ 100000) :
    Calls Try.prog 44 #[.slice a n c, .int .i64 n, .slice (some ⟨vb, 0, none⟩) 1 1] w fun e w' =>
      ∃ v', e = .returned v' ∧ w'.ownsRow base 90 2 v' (n + 1) (C ++ [v0, v1]) ∧ w.grownBy w' (Value.slice a n c).ownBlock ∧ (v'.ownBlock = (Value.slice a n c).ownBlock ∨ ∀ k, v'.ownBlock = some k → w.heap.size ≤ k) := by
  obtain ⟨v', w', hr, h2, h3, h4⟩ := append_one hrow hb hv h1v hn
  have hnc : n ≤ c := by
    obtain ⟨a', c', e, h1, _⟩ := row_any hrow
    simp at e
    omega
  have H1 := Lib.hid hr
  have H2 := Lib.hid h2
  have H3 := Lib.hid (And.intro h3 h4)
  have hac : a = none → n = 0 ∧ c = 0 := by
    rintro rfl
    rcases hrow.2 with ⟨h, h0⟩ | ⟨g, cap, cur, h, _⟩
    · simp at h; exact ⟨h0, h.2⟩
    · simp at h
  clear hr h2 h3 h4 hrow hv h1v
  rcases a with _ | ⟨g, off, sp⟩
  · obtain ⟨rfl, rfl⟩ := hac rfl
    clear hac
    go_enter Try.func44, Try.ntmps44
    go_wp2_with (at_builtin; refine Lib.wpList_append_run _ rfl _ _ _ _ rfl _ _ rfl rfl _ _ H1.out ?_)
    go_ret
    exact ⟨_, rfl, H2.out, H3.out.1, H3.out.2⟩
  · clear hac
    go_enter Try.func44, Try.ntmps44
    go_wp2_with (at_builtin; refine Lib.wpList_append_run _ rfl _ _ _ _ rfl _ _ rfl rfl _ _ H1.out ?_)
    all_goals (go_ret; exact ⟨_, rfl, H2.out, H3.out.1, H3.out.2⟩)

/-- A timer goes into a row of timers. -/
theorem insert_any {w : World} {base n i vb : Nat} {v : Value} {l : List Tm} {t : Tm} (hrow : w.ownsRow base 90 2 v n (tcells l)) (hb : base ≤ w.heap.size)
    (hv : w.heap[vb]? = some (.cells #[.int .i64 t.id, .int .i64 t.at_] 90 (0, 0))) (hne : v.ownBlock ≠ some vb) (hi : i ≤ n) (hn : n ≤ 100000) :
    Calls Try.prog 44 #[v, .int .i64 i, .slice (some ⟨vb, 0, none⟩) 1 1] w fun e w' =>
      ∃ v', e = .returned v' ∧ w'.ownsRow base 90 2 v' (n + 1) (tcells (l.take i ++ t :: l.drop i)) ∧ w.grownBy w' v.ownBlock ∧ (v'.ownBlock = v.ownBlock ∨ ∀ k, v'.ownBlock = some k → w.heap.size ≤ k) := by
  have h1v : ∀ u ∈ [Value.int .i64 (t.id : Int), .int .i64 (t.at_ : Int)], u.oneCell' = true := by intro u hu; simp at hu; rcases hu with rfl | rfl <;> rfl
  have hl : l.length = n := by have := hrow.1; rw [tcells_len] at this; omega
  have hlen2 : (tcells (l.take i ++ t :: l.drop i)).length = (n + 1) * 2 := by rw [tcells_len]; simp; omega
  by_cases hin : i = n
  · subst hin
    obtain ⟨a, c, rfl, hnc, hcm⟩ := row_any hrow
    refine (insert_end hrow hb hv h1v hn).mono ?_
    rintro e w' ⟨v', rfl, hr, hg, hbl⟩
    have e1 : l.take i ++ t :: l.drop i = l ++ [t] := by rw [List.take_of_length_le (by omega), List.drop_eq_nil_of_le (by omega)]
    exact ⟨v', rfl, by rw [e1, tcells_app]; exact hr, hg, hbl⟩
  · obtain ⟨g, c, rfl, hnc, hcm, hbg, hgl⟩ := row_slice hrow (by omega)
    rcases hrow.2 with ⟨h, _⟩ | ⟨g', cap, cur, h, _, hg, _, _, hcs, htake⟩
    · simp at h
    · simp only [Value.slice.injEq, Option.some.injEq, Addr.mk.injEq, and_true, true_and] at h
      obtain ⟨rfl, rfl⟩ := h
      have hneg : vb ≠ g := fun e => hne (by rw [e]; rfl)
      by_cases hroom : n + 1 ≤ c
      · refine (insert_shift hg htake hcs (tcells_one l) hv h1v hneg (by omega) hroom (by simp only [maxLen] at hcm; omega)).mono ?_
        rintro e w' ⟨rfl, rfl⟩
        have hCl : (tcells l).length = n * 2 := by rw [tcells_len, hl]
        have hdl : ((tcells l).drop (i * 2)).length = (n - i) * 2 := by rw [List.length_drop, hCl]; omega
        obtain ⟨hW1g, hW1b⟩ := row_written (show w.drew.heap[g]? = _ from hg) ((i + 1) * 2) ((tcells l).drop (i * 2)) (by rw [hdl]; omega)
        have hL1 : (splice cur.toList ((i + 1) * 2) ((tcells l).drop (i * 2))).length = c * 2 := by rw [length_splice _ _ _ (by rw [hdl, Array.length_toList]; omega), Array.length_toList, hcs]
        obtain ⟨hW2g, hW2b⟩ := row_written hW1g (i * 2) [.int .i64 (t.id : Int), .int .i64 (t.at_ : Int)] (by rw [List.size_toArray, hL1]; simp; omega)
        have hgr : w.grownBy ((w.drew.setCells g ((i + 1) * 2) ((tcells l).drop (i * 2))).setCells g (i * 2) [.int .i64 (t.id : Int), .int .i64 (t.at_ : Int)]) (some g) := grown_undrew (grown_trans hW1b hW2b)
        refine ⟨_, rfl, ⟨hlen2, .inr ⟨g, c, _, rfl, hbg, hW2g, hroom, hcm, ?_, ?_⟩⟩, hgr, .inl rfl⟩
        · rw [List.size_toArray, length_splice _ _ _ (by rw [hL1]; simp; omega), hL1]
        · rw [tcells_ins]
          exact splice_ins cur.toList (tcells l) n i _ _ htake (by rw [Array.length_toList]; omega) hi
      · refine (insert_grow hg htake hcs (tcells_one l) hv h1v hneg (by omega) hnc (by omega) hn).mono ?_
        rintro e w' ⟨G, cur', rfl, hGn, hGm, hg', hs', ht', hb'⟩
        refine ⟨_, rfl, ⟨hlen2, .inr ⟨w.heap.size, G, cur', rfl, hb, hg', hGn, hGm, hs', by rw [ht', tcells_ins]⟩⟩, ⟨hb'.os, hb'.tape, hb'.output, hb'.size, fun k hk _ => hb'.block k hk⟩, .inr fun k hk => ?_⟩
        simp [Value.ownBlock] at hk
        omega

end Go.Proofs.Ytkcndgiiangmjaa
