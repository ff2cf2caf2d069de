/-
  wheel.Move$1.
-/
import Derived.Test.YtkcndgiiangmjaaClo
namespace Go.Proofs.Ytkcndgiiangmjaa
open Go.RowKit Go.Maps
set_option linter.unusedVariables false
set_option linter.unusedSimpArgs false
set_option maxRecDepth 10000

/-- An append of one element: in the row's own block, or in a new one. -/
theorem append_gen {w : World} {base n c vb t e size bytes : Nat} {i : TypeInfo} {z : Value} {a : Option Addr} {C news : List Value} (ht : Try.prog.underlying t = some (.slice e)) (hi : Try.prog.info? e = some i) (hz0 : i.zero = some z) (hz1 : i.size = size) (hz2 : i.bytes = bytes) (hzs : z.cells.size = size) (hsz : 0 < size)
    (hrow : w.ownsRow base e size (.slice a n c) n C) (hb : base ≤ w.heap.size) (hl : news.length = 1 * size) (hnews : ∀ j u, news[j]? = some u → w.cell? ((⟨vb, 0, none⟩ : Addr).add j) = some u) (h1v : ∀ u ∈ news, u.oneCell' = true) (hn : n ≤ 100000) (hby : bytes ≤ 1000) (ty : TypeId) :
    ∃ v' w', (Builtin.append_ #[t, t] ty #[.slice a n c, .slice (some ⟨vb, 0, none⟩) 1 1]).run Try.prog w = .ok v' w' ∧ w'.ownsRow base e size v' (n + 1) (C ++ news) ∧ w.grownBy w' (Value.slice a n c).ownBlock ∧
      (v'.ownBlock = (Value.slice a n c).ownBlock ∨ ∀ k, v'.ownBlock = some k → w.heap.size ≤ k) := by
  have hbb : (n + 1) * bytes ≤ 140737488355328 := Nat.le_trans (Nat.mul_le_mul (show n + 1 ≤ 100001 by omega) hby) (by decide)
  rcases hrow.2 with ⟨h, h0⟩ | ⟨g, cap, cur, h, hbg, hg, hnc, hcm, hcs, htake⟩
  · simp at h
    obtain ⟨rfl, rfl, rfl⟩ := h
    have hC : C = [] := List.eq_nil_of_length_eq_zero (by simpa using hrow.1)
    subst hC
    obtain ⟨v', w', hr, h2, h3, h4⟩ := run_append_own (P := Try.prog) w w.heap.size t ty e i z size bytes ht hi hz0 hz1 hz2 hzs hsz _ 0 [] (World.ownsRow_nil w w.heap.size e size) ⟨vb, 0, none⟩ 1 1 news hl hnews h1v (by simp only [maxLen]; omega) hbb (Nat.le_refl _)
    exact ⟨v', w', hr, row_base h2 hb, h3, .inr fun k hk => (h2.lt k hk).1⟩
  · simp at h
    obtain ⟨rfl, rfl⟩ := h
    by_cases hroom : n + 1 ≤ c
    · obtain ⟨w', hr, h2, h3⟩ := run_append_fits (P := Try.prog) w base t ty e i size ht hi hz1 g n c C hrow ⟨vb, 0, none⟩ 1 1 news hl hnews h1v hroom
      exact ⟨_, w', hr, h2, h3, .inl rfl⟩
    · have holds : ∀ j u, C[j]? = some u → w.cell? ((⟨g, 0, none⟩ : Addr).add j) = some u := hrow.cells (g := g) rfl
      have hr := run_append_grow (P := Try.prog) w t ty e i z ht hi hz0 ⟨g, 0, none⟩ n c C (by rw [hz1]; exact hrow.1) holds ⟨vb, 0, none⟩ 1 1 news (by rw [hz1]; exact hl) hnews (by omega) (by omega) (growslice_fits (by omega) (by rw [hz2]; exact hbb))
      have hge := grownCap_ge w (n + 1) c e
      have hcm' : grownCap w (n + 1) c e ≤ maxLen := grownCap_le_maxLen w (n + 1) c e (by simp only [maxLen]; omega)
      have hlen : (C ++ news).length = (n + 1) * size := by rw [List.length_append, hrow.1, hl, Nat.add_mul]
      refine ⟨_, _, hr, ⟨hlen, .inr ⟨w.heap.size, _, _, rfl, hb, heap_alloc_new w.drew _, hge, hcm', ?_, ?_⟩⟩, ⟨rfl, rfl, rfl, by simp, fun k hk _ => Below.heap_alloc w.drew _ k hk⟩, .inr fun k hk => ?_⟩
      · simp only [Array.size_append, List.size_toArray, size_zeroCells, hzs, hrow.1, hl, ← Nat.add_mul]
        congr 1
        omega
      · simp only [Array.toList_append, List.append_assoc]
        rw [← List.append_assoc, take_split hlen (Nat.le_refl _), Nat.sub_self, List.take_zero, List.append_nil]
      · simp [Value.ownBlock] at hk
        omega

theorem cell_two_at {w : World} (x y : Value) (t : TypeId) {N : Nat} (hN : N = w.heap.size) : ∀ j u, [x, y][j]? = some u → (w.alloc (.cells #[x, y] t)).cell? ((⟨N, 0, none⟩ : Addr).add j) = some u := by
  subst hN
  intro j u hu
  rw [add_plain]
  match j, hu with
  | 0, hu => simp at hu; subst hu; simp [go_sem]
  | 1, hu => simp at hu; subst hu; simp [go_sem]
theorem cell_one_at {w : World} (x : Value) (t : TypeId) {N : Nat} (hN : N = w.heap.size) : ∀ j u, [x][j]? = some u → (w.alloc (.cells #[x] t)).cell? ((⟨N, 0, none⟩ : Addr).add j) = some u := by
  subst hN; exact cell_one_new w x t

theorem Fit.sub {L L' : List Tm} (h : Fit L) (hs : List.Sublist L' L) : Fit L' := ⟨List.Pairwise.sublist hs h.srt, List.Pairwise.sublist hs h.nodup, fun t ht => h.wide t (hs.subset ht)⟩
theorem left_sub (P R : List Tm) (m : Nat) : List.Sublist (left P m ++ R) (P ++ R) := List.Sublist.append List.filter_sublist (List.Sublist.refl _)
theorem wout_mid {P R : List Tm} {t : Tm} {m : Nat} (h : Fit (P ++ t :: R)) : wout (left P m ++ t :: R) t.id = left P m ++ R := by
  have hd := List.pairwise_append.1 h.nodup
  have h1 := List.pairwise_cons.1 hd.2.1
  unfold wout
  rw [List.filter_append, List.filter_cons]
  have e : (t.id != t.id) = false := by simp
  rw [e]
  simp only [Bool.false_eq_true, if_false]
  have e1 : (left P m).filter (fun x => x.id != t.id) = left P m := List.filter_eq_self.2 fun x hx => by
    have := hd.2.2 x (List.mem_filter.1 hx).1 t (by simp)
    simpa using this
  have e2 : R.filter (fun x => x.id != t.id) = R := List.filter_eq_self.2 fun x hx => by
    have := h1.1 x hx
    simp; omega
  rw [e1, e2]

set_option maxHeartbeats 2000000 in
/-- A timer that is not due is kept. -/
theorem clo_later {w W : World} {F : Nat → Prop} {B M : Nat} {sl : Nat → Value} {now m : Nat} {L P R : List Tm} {t : Tm} {v5 v6 : Value} (h : MS w W F B M sl now m L P (t :: R) v5 v6) (hF : ∀ i, F i → i < w.heap.size) (ht : m < t.at_) (hP : P.length ≤ 1000) :
    Calls Try.prog 39 #[tv t, .pointer (some ⟨w.heap.size + 1, 0, none⟩), .pointer (some ⟨w.heap.size + 3, 0, none⟩), .pointer (some ⟨w.heap.size + 2, 0, none⟩), .pointer (some ⟨w.heap.size, 0, none⟩)] W fun e W' =>
      e = .returned (.tuple #[]) ∧ ∃ v5' v6', MS w W' F B M sl now m L (P ++ [t]) R v5' v6' := by
  obtain ⟨ti, ta⟩ := t
  simp only at ht
  obtain ⟨i0, hi0, hz0, hz1, hz2⟩ := info_parts info61
  obtain ⟨a, c, rfl, hnc, hcm⟩ := row_any h.r6
  have hlp : (left P m).length ≤ 1000 := Nat.le_trans (List.length_filter_le _ _) hP
  have hbA : Below W.heap.size W ((W.alloc (.cells #[.int .i64 (ti : Int), .int .i64 (ta : Int)] 90)).alloc (.cells #[.int .i64 (ti : Int), .int .i64 (ta : Int)] 90)) := below_alloc (below_alloc (Below.refl _ _) _) _
  have hA := h.below hbA
  obtain ⟨v', w', hr, h2, h3, h4⟩ := append_gen (vb := W.heap.size + 1) (news := [.int .i64 (ti : Int), .int .i64 (ta : Int)]) Try.underlying83 hi0 hz0 hz1 hz2 rfl (by decide) hA.r6 hA.sz rfl (fun j u hu => by
    have := cell_two_at (.int .i64 (ti : Int)) (.int .i64 (ta : Int)) 90 (w := W.alloc (.cells #[.int .i64 (ti : Int), .int .i64 (ta : Int)] 90)) (N := W.heap.size + 1) (by simp) j u
    exact this hu) (fun u hu => by simp at hu; rcases hu with rfl | rfl <;> rfl) (by omega) (by decide) 83
  obtain ⟨a', c', rfl, hnc', hcm'⟩ := row_any h2
  have hfin := hA.later hF (t := ⟨ti, ta⟩) ht h2 h3 h4
  have HFIN := Lib.hid hfin
  have HR := Lib.hid hr
  have hc3 := h.c3
  have hc6 := h.c6
  have hsz := h.sz
  have h6 : ∀ g, (Value.slice a (left P m).length c).ownBlock = some g → w.heap.size + 4 ≤ g := fun g hg => (h.r6.lt g hg).1
  have hblk := h3.block (w.heap.size + 3) (by simp; omega) (fun e => by have := h6 (w.heap.size + 3) e.symm; omega)
  have hc6' : w'.cell? ⟨w.heap.size + 3, 0, none⟩ = some (.slice a (left P m).length c) := by rw [World.cell?_of_block hblk]; exact hA.c6
  have hf6' : w'.frozen? ⟨w.heap.size + 3, 0, none⟩ = false := by rw [World.frozen?_of_block hblk]; exact hA.f6
  have hgt : (ta : Int) > (m : Int) := by omega
  have hb3 : w.heap.size + 3 < W.heap.size := by omega
  have hb1 : w.heap.size + 1 < W.heap.size := by omega
  generalize (left P m).length = n6 at *
  clear h hA hbA h2 h3 h4 hr hfin h6 hblk hi0 hz0 hz1 hz2 hcm hcm' hnc hnc'
  simp only [tv]
  go_enter Try.func39, Try.ntmps39
  go_wp2_with (at_builtin; refine Lib.wpList_append_run _ rfl _ _ _ _ rfl _ _ rfl rfl _ _ HR.out ?_)
  refine bodyPost_ret (results_none rfl _ _ _) rfl ?_
  exact ⟨rfl, _, _, HFIN.out⟩

set_option maxHeartbeats 2000000 in
/-- A timer that is due is told. -/
theorem clo_told {w W : World} {F : Nat → Prop} {B M : Nat} {sl : Nat → Value} {now m : Nat} {L P R : List Tm} {t : Tm} {v5 v6 : Value} (h : MS w W F B M sl now m L P (t :: R) v5 v6) (hF : ∀ i, F i → i < w.heap.size) (ht : t.at_ ≤ m) (hP : P.length ≤ 1000) (hf : Fit (P ++ t :: R)) :
    Calls Try.prog 39 #[tv t, .pointer (some ⟨w.heap.size + 1, 0, none⟩), .pointer (some ⟨w.heap.size + 3, 0, none⟩), .pointer (some ⟨w.heap.size + 2, 0, none⟩), .pointer (some ⟨w.heap.size, 0, none⟩)] W fun e W' =>
      e = .returned (.tuple #[]) ∧ ∃ v5' v6', MS w W' F B M sl now m L (P ++ [t]) R v5' v6' := by
  obtain ⟨ti, ta⟩ := t
  simp only at ht
  obtain ⟨i0, hi0, hz0, hz1, hz2⟩ := info_parts info3
  obtain ⟨a, c, rfl, hnc, hcm⟩ := row_any h.r5
  have hlp : (due P m).length ≤ 1000 := Nat.le_trans (List.length_filter_le _ _) hP
  have hbA : Below W.heap.size W ((W.alloc (.cells #[.int .i64 (ti : Int), .int .i64 (ta : Int)] 90)).alloc (.cells #[.int .i64 (ti : Int)] 3)) := below_alloc (below_alloc (Below.refl _ _) _) _
  have hA := h.below hbA
  obtain ⟨v', w', hr, h2, h3, h4⟩ := append_gen (vb := W.heap.size + 1) (news := [.int .i64 (ti : Int)]) Try.underlying57 hi0 hz0 hz1 hz2 rfl (by decide) hA.r5 hA.sz rfl (fun j u hu => by
    have := cell_one_at (.int .i64 (ti : Int)) 3 (w := W.alloc (.cells #[.int .i64 (ti : Int), .int .i64 (ta : Int)] 90)) (N := W.heap.size + 1) (by simp) j u
    exact this hu) (fun u hu => by simp at hu; subst hu; rfl) (by omega) (by decide) 57
  obtain ⟨a', c', rfl, hnc', hcm'⟩ := row_any h2
  have hsz := h.sz
  have h5 : ∀ g, (Value.slice a (due P m).length c).ownBlock = some g → w.heap.size + 4 ≤ g := fun g hg => (h.r5.lt g hg).1
  have hMl := hF M h.wh.inM
  have hBl := hF B h.wh.inB
  have hold : ∀ k, k < w.heap.size + 4 → k ≠ w.heap.size + 2 → (w'.setCell ⟨w.heap.size + 2, 0, none⟩ (.slice a' ((due P m).length + 1) c')).heap[k]? = W.heap[k]? := fun k hk hk2 => by
    rw [Below.heap_setCell _ _ _ _ hk2, h3.block k (by simp; omega) (fun e => by have := h5 k e.symm; omega), hbA.block k (by omega)]
  have hbox : (w'.setCell ⟨w.heap.size + 2, 0, none⟩ (.slice a' ((due P m).length + 1) c')).heap[W.heap.size]? = some (.cells #[.int .i64 (ti : Int), .int .i64 (ta : Int)] 90 (0, 0)) := by
    have hne : ¬ some W.heap.size = (Value.slice a (due P m).length c).ownBlock := fun e => by
      have := (h.r5.lt W.heap.size e.symm).2
      omega
    rw [Below.heap_setCell _ _ _ _ (show W.heap.size ≠ w.heap.size + 2 by omega), h3.block W.heap.size (by simp; omega) hne, Below.heap_alloc _ _ _ (by simp)]
    exact heap_alloc_new W _
  have hT0 : Tms (w'.setCell ⟨w.heap.size + 2, 0, none⟩ (.slice a' ((due P m).length + 1) c')) M (left P m ++ ⟨ti, ta⟩ :: R) := h.wh.map.of_block (hold M (by omega) (by omega))
  obtain ⟨W2, hd, hT, hg2⟩ := Tms.drop (w := (w'.setCell ⟨w.heap.size + 2, 0, none⟩ (.slice a' ((due P m).length + 1) c')).drew) (hT0.of_block rfl) (hf.sub (left_sub P _ m)) (t := ⟨ti, ta⟩) (by simp) 0
  rw [wout_mid hf] at hT
  have hfin := hA.told hF (t := ⟨ti, ta⟩) ht h2 h3 h4 hT (grown_undrew hg2)
  have HFIN := Lib.hid hfin
  have HR := Lib.hid hr
  have hc3 := h.c3
  have hc5 := h.c5
  have hblk := h3.block (w.heap.size + 2) (by simp; omega) (fun e => by have := h5 (w.heap.size + 2) e.symm; omega)
  have hc5' : w'.cell? ⟨w.heap.size + 2, 0, none⟩ = some (.slice a (due P m).length c) := by rw [World.cell?_of_block hblk]; exact hA.c5
  have hf5' : w'.frozen? ⟨w.heap.size + 2, 0, none⟩ = false := by rw [World.frozen?_of_block hblk]; exact hA.f5
  have e1 : (w'.setCell ⟨w.heap.size + 2, 0, none⟩ (.slice a' ((due P m).length + 1) c')).cell? ⟨w.heap.size, 0, none⟩ = some (.pointer (some ⟨B, 0, none⟩)) := by
    rw [World.cell?_of_block (a := ⟨w.heap.size, 0, none⟩) (hold w.heap.size (by omega) (by omega))]; exact h.c2
  have e2 : (w'.setCell ⟨w.heap.size + 2, 0, none⟩ (.slice a' ((due P m).length + 1) c')).cell? ⟨B, 1, none⟩ = some (.map (some M)) := by
    rw [World.cell?_of_block (a := ⟨B, 1, none⟩) (hold B (by omega) (by omega))]; exact h.wh.cells.2.1
  have e3 : (w'.setCell ⟨w.heap.size + 2, 0, none⟩ (.slice a' ((due P m).length + 1) c')).cell? ⟨W.heap.size, 0, none⟩ = some (.int .i64 ti) := by
    rw [cell_of_row _ _ _ _ _ _ hbox]; rfl
  have hgt : ¬ ((ta : Int) > (m : Int)) := by omega
  have hb2 : w.heap.size + 2 < W.heap.size := by omega
  have hb1 : w.heap.size + 1 < W.heap.size := by omega
  generalize hwS : w'.setCell ⟨w.heap.size + 2, 0, none⟩ (.slice a' ((due P m).length + 1) c') = wS at *
  generalize (due P m).length = n5 at *
  clear h hA hbA h2 h3 h4 hr hfin h5 hblk hi0 hz0 hz1 hz2 hcm hcm' hnc hnc' hold hbox hT0 hT hg2 hf hMl hBl
  simp only [tv]
  go_enter Try.func39, Try.ntmps39
  go_wp2_with (at_builtin; refine Lib.wpList_append_run _ rfl _ _ _ _ rfl _ _ rfl rfl _ _ HR.out ?_)
  go_region
  all_goals
    first | go_end0 | refine bodyPost_ret (results_none rfl _ _ _) rfl ?_
    exact ⟨rfl, _, _, HFIN.out⟩

/-- Move's closure, of whatever timer. -/
theorem clo_any {w W : World} {F : Nat → Prop} {B M : Nat} {sl : Nat → Value} {now m : Nat} {L P R : List Tm} {t : Tm} {v5 v6 : Value} (h : MS w W F B M sl now m L P (t :: R) v5 v6) (hF : ∀ i, F i → i < w.heap.size) (hP : P.length ≤ 1000) (hf : Fit (P ++ t :: R)) :
    Calls Try.prog 39 #[tv t, .pointer (some ⟨w.heap.size + 1, 0, none⟩), .pointer (some ⟨w.heap.size + 3, 0, none⟩), .pointer (some ⟨w.heap.size + 2, 0, none⟩), .pointer (some ⟨w.heap.size, 0, none⟩)] W fun e W' =>
      e = .returned (.tuple #[]) ∧ ∃ v5' v6', MS w W' F B M sl now m L (P ++ [t]) R v5' v6' := by
  by_cases ht : t.at_ ≤ m
  · exact clo_told h hF ht hP hf
  · exact clo_later h hF (by omega) hP

end Go.Proofs.Ytkcndgiiangmjaa
