/-
  In how many steps time goes on is not seen: without memory; two wheels beside one another, and the rows that they told.
-/
import Derived.Test.YthddphgeepgidaaCancPre
namespace Go.Proofs.Ythddphgeepgidaa
open Go.RowKit Go.Maps
set_option linter.unusedVariables false
set_option linter.unusedSimpArgs false
set_option maxRecDepth 10000

theorem count_split (q : Tm → Bool) (i : Int) : ∀ l : List Tm, (ids (l.filter q)).count i + (ids (l.filter fun t => !q t)).count i = (ids l).count i
  | [] => rfl
  | t :: r => by
    have ih := count_split q i r
    rw [List.filter_cons, List.filter_cons]
    cases hq : q t
    · simp only [Bool.false_eq_true, if_false, Bool.not_false, if_true]
      unfold ids at *
      rw [List.map_cons, List.map_cons, List.count_cons, List.count_cons]
      omega
    · simp only [if_true, Bool.not_true, Bool.false_eq_true, if_false]
      unfold ids at *
      rw [List.map_cons, List.map_cons, List.count_cons, List.count_cons]
      omega
theorem len_split (q : Tm → Bool) : ∀ l : List Tm, (l.filter q).length + (l.filter fun t => !q t).length = l.length
  | [] => rfl
  | t :: r => by
    have ih := len_split q r
    rw [List.filter_cons, List.filter_cons]
    cases hq : q t
    · simp only [Bool.false_eq_true, if_false, Bool.not_false, if_true, List.length_cons]
      omega
    · simp only [if_true, Bool.not_true, Bool.false_eq_true, if_false, List.length_cons]
      omega

theorem count_one : ∀ {l : List Int}, l.Nodup → ∀ {i : Int}, i ∈ l → l.count i = 1
  | y :: r, h, i, hm => by
    have h2 := List.pairwise_cons.1 h
    rw [List.count_cons]
    rcases List.mem_cons.1 hm with rfl | hm
    · have : r.count i = 0 := List.count_eq_zero.2 fun hi => h2.1 i hi rfl
      simp [this]
    · have hne : ¬ y = i := fun e => h2.1 i hm e
      rw [count_one h2.2 hm]
      simp [hne]

/-- While time goes on by steps that are not above 'now'. -/
structure StI (L0 : List Tm) (now : Nat) (N : Nat) (L : List Tm) (M : List Int) : Prop where
  part : ∃ p : Tm → Bool, L = L0.filter p ∧ ∀ t ∈ L0, now < t.at_ → p t = true
  time : N ≤ now
  count : ∀ i : Int, M.count i + (ids L).count i = (ids L0).count i
  len : M.length + L.length = L0.length

theorem StI.start {L0 : List Tm} {now N : Nat} (h : N ≤ now) : StI L0 now N L0 [] :=
  ⟨⟨fun _ => true, (List.filter_eq_self.2 fun _ _ => rfl).symm, fun _ _ _ => rfl⟩, h, fun i => by simp, by simp⟩
theorem StI.step {L0 L : List Tm} {now N : Nat} {M : List Int} (h : StI L0 now N L M) {x : Int} (hx : x ≤ now) : StI L0 now (mvN N x) (mvL L N x) (M ++ mvD L N x) := by
  cases hok : okM N x with
  | false =>
    obtain ⟨e1, e2, e3⟩ := mv_bad (s := ⟨N, L⟩) hok
    simp only at e1 e2 e3
    rw [e1, e2, e3, List.append_nil]
    exact h
  | true =>
    obtain ⟨m, rfl, h1, h2, e1, e2, e3⟩ := mv_ok (s := ⟨N, L⟩) hok
    simp only at e1 e2 e3 h1
    rw [e1, e2, e3]
    obtain ⟨p, hp, hp2⟩ := h.part
    refine ⟨⟨fun t => (!decide (t.at_ ≤ m)) && p t, ?_, fun t ht hn => ?_⟩, by omega, fun i => ?_, ?_⟩
    · rw [hp]; unfold left; rw [List.filter_filter]
    · have := hp2 t ht hn
      simp [this]; omega
    · have h3 := h.count i
      have h4 := count_split (fun t => decide (t.at_ ≤ m)) i L
      rw [List.count_append]
      unfold due left
      omega
    · have h3 := h.len
      have h4 := len_split (fun t : Tm => decide (t.at_ ≤ m)) L
      rw [List.length_append, ids_len]
      unfold due left
      omega
theorem StI.last {L0 L : List Tm} {now N : Nat} {M : List Int} (h : StI L0 now N L M) (hm : now ≤ 1099511627776) (hf : Fit L0) :
    mvN N (now : Int) = now ∧ (mvL L N (now : Int)) = left L0 now ∧ (M ++ mvD L N (now : Int)).length = (due L0 now).length ∧ ∀ k, k < (ids (due L0 now)).length → (M ++ mvD L N (now : Int)).count (ids (due L0 now))[k]! = 1 := by
  have h2 := h.step (x := (now : Int)) (Int.le_refl _)
  have hok : okM N (now : Int) = true := decide_eq_true (by have := h.time; omega)
  obtain ⟨m, hm2, _, _, e1, e2, e3⟩ := mv_ok (s := ⟨N, L⟩) hok
  simp only at e1 e2 e3
  obtain rfl : m = now := by omega
  have hl : left L m = left L0 m := by
    obtain ⟨p, hp, hp2⟩ := h.part
    rw [hp]
    unfold left
    rw [List.filter_filter]
    apply List.filter_congr
    intro t ht
    by_cases hd : t.at_ ≤ m
    · simp [hd]
    · simp [hd, hp2 t ht (by omega)]
  refine ⟨e2, by rw [e3, hl], ?_, fun k hk => ?_⟩
  · have h3 := h2.len
    rw [e3, hl] at h3
    have h4 := len_split (fun t : Tm => decide (t.at_ ≤ m)) L0
    unfold due
    unfold left at h3
    omega
  · have hmem : (ids (due L0 m))[k]! ∈ ids (due L0 m) := by rw [getElem!_pos _ k hk]; exact List.getElem_mem _
    have h3 := h2.count (ids (due L0 m))[k]!
    generalize (ids (due L0 m))[k]! = i at hmem h3 ⊢
    rw [e3, hl] at h3
    have h4 := count_split (fun t => decide (t.at_ ≤ m)) i L0
    have h5 : (ids (due L0 m)).count i = 1 := count_one (ids_nodup (List.Pairwise.filter _ hf.nodup)) hmem
    unfold due at h5
    unfold left at h3
    omega

/-! ## Two wheels -/
def PlT (w wr : World) (Ba Bb : Nat) (sa sb : St) : Prop := ∃ Fa Fb, Wh wr Fa Ba sa.now sa.l sa.l ∧ Wh wr Fb Bb sb.now sb.l sb.l ∧ (∀ i, Fa i → ¬ Fb i) ∧ (∀ i, Fa i → w.heap.size ≤ i) ∧ (∀ i, Fb i → w.heap.size ≤ i) ∧ Below w.heap.size w wr

theorem Wh.lt {w : World} {F : Nat → Prop} {B now : Nat} {L T : List Tm} (h : Wh w F B now L T) : ∀ i, F i → i < w.heap.size := by
  obtain ⟨M, sl, h⟩ := h
  exact h.lt

section
variable {w wr : World} {Ba Bb : Nat} {sa sb : St}
theorem PlT.swap (h : PlT w wr Ba Bb sa sb) : PlT w wr Bb Ba sb sa := by
  obtain ⟨Fa, Fb, h1, h2, h3, h4, h5, h6⟩ := h
  exact ⟨Fb, Fa, h2, h1, fun i hb ha => h3 i ha hb, h5, h4, h6⟩
theorem PlT.grow (h : PlT w wr Ba Bb sa sb) {w' : World} (hb : Below wr.heap.size wr w') : PlT w w' Ba Bb sa sb := by
  obtain ⟨Fa, Fb, h1, h2, h3, h4, h5, h6⟩ := h
  exact ⟨Fa, Fb, h1.below hb, h2.below hb, h3, h4, h5, h6.trans (hb.mono h6.size)⟩
theorem PlT.below (h : PlT w wr Ba Bb sa sb) : Below w.heap.size w wr := by
  obtain ⟨Fa, Fb, h1, h2, h3, h4, h5, h6⟩ := h
  exact h6
theorem plt_new (h : Pl w wr Ba sa) : Calls Try.prog 9 #[] wr fun e w' => ∃ Bb, e = .returned (.pointer (some ⟨Bb, 0, none⟩)) ∧ PlT w w' Ba Bb sa ⟨0, []⟩ := by
  obtain ⟨F, hW, hF, hb⟩ := h
  refine (new_any wr).mono fun e w' ⟨B, F', he, hW', hF', hb'⟩ => ⟨B, he, F, F', hW.below hb', hW', fun i h1 h2 => ?_, hF, fun i hi => Nat.le_trans hb.size (hF' i hi), hb.trans (hb'.mono hb.size)⟩
  have := hW.lt i h1
  have := hF' i h2
  omega
theorem plt_does {k i a : Int} (h : PlT w wr Ba Bb sa sb) (ok : OkS sa 990) (hi : I64 i) : Calls Try.prog 14 #[.pointer (some ⟨Ba, 0, none⟩), .agg #[.int .i64 k, .int .i64 i, .int .i64 a]] wr fun e w' => ∃ v, e = .returned (.tuple #[.bool (ans sa k i a), v]) ∧ PlT w w' Ba Bb (stp sa k i a) sb := by
  obtain ⟨Fa, Fb, h1, h2, h3, h4, h5, h6⟩ := h
  refine (does_any h1 ok hi).mono fun e w' ⟨v, F', he, _, _, g1, g2, g3⟩ => ⟨v, he, F', Fb, g1, h2.only g3 (fun j hj hja => h3 j hja hj), fun j hj hjb => ?_, fun j hj => ?_, h5, h6.trans (g3.below h6.size h4)⟩
  · rcases g2 j hj with h | h
    · exact h3 j h hjb
    · have := h2.lt j hjb; omega
  · rcases g2 j hj with h | h
    · exact h4 j h
    · exact Nat.le_trans h6.size h
theorem plt_now (h : PlT w wr Ba Bb sa sb) : Calls Try.prog 16 #[.pointer (some ⟨Ba, 0, none⟩)] wr fun e w' => e = .returned (.int .i64 sa.now) ∧ wr = w' := by
  obtain ⟨Fa, Fb, h1, _⟩ := h
  exact now_any h1
end

/-! ## .. and what they told -/
/-- 'l' is what the first one told, 'm' what the second one did. -/
def P2 (w wr : World) (Ba Bb : Nat) (sa sb : St) (vl : Value) (D : List Int) (vm : Value) (M : List Int) : Prop :=
  ∃ Fa Fb, Wh wr Fa Ba sa.now sa.l sa.l ∧ Wh wr Fb Bb sb.now sb.l sb.l ∧ (∀ i, Fa i → ¬ Fb i) ∧ (∀ i, Fa i → w.heap.size ≤ i) ∧ (∀ i, Fb i → w.heap.size ≤ i) ∧ Below w.heap.size w wr ∧
    wr.ownsRow 0 3 1 vl D.length (icells D) ∧ wr.ownsRow 0 3 1 vm M.length (icells M) ∧ (∀ g, vl.ownBlock = some g → ¬ Fa g ∧ ¬ Fb g ∧ vm.ownBlock ≠ some g) ∧ (∀ g, vm.ownBlock = some g → ¬ Fa g ∧ ¬ Fb g ∧ w.heap.size ≤ g)

section
variable {w wr : World} {Ba Bb : Nat} {sa sb : St} {vl vm : Value} {D M : List Int}
/-- The first one moves. -/
theorem p2_first {x : Int} (h : PlT w wr Ba Bb sa sb) (ok : OkS sa 1000) : Calls Try.prog 17 #[.pointer (some ⟨Ba, 0, none⟩), .int .i64 x] wr fun e w' => ∃ v, e = .returned v ∧ P2 w w' Ba Bb ⟨mvN sa.now x, mvL sa.l sa.now x⟩ sb v (mvD sa.l sa.now x) (.slice none 0 0) [] := by
  obtain ⟨Fa, Fb, h1, h2, h3, h4, h5, h6⟩ := h
  refine (move_any h1 ok).mono fun e w' ⟨v, F', he, hr, hv, g1, g2, g3⟩ => ⟨v, he, F', Fb, g1, h2.only g3 (fun j hj hja => h3 j hja hj), fun j hj hjb => ?_, fun j hj => ?_, h5, h6.trans (g3.below h6.size h4), row_base hr (Nat.zero_le _), World.ownsRow_nil _ _ _ _, fun g hg => ⟨hv g hg, fun hb => ?_, by simp [Value.ownBlock]⟩, fun g hg => by simp [Value.ownBlock] at hg⟩
  · rcases g2 j hj with h | h
    · exact h3 j h hjb
    · have := h2.lt j hjb; omega
  · rcases g2 j hj with h | h
    · exact h4 j h
    · exact Nat.le_trans h6.size h
  · have := (hr.lt g hg).1
    have := h2.lt g hb
    omega
/-- The second one moves, and what it told goes behind what it told before. -/
theorem p2_move {x : Int} (h : P2 w wr Ba Bb sa sb vl D vm M) (ok : OkS sb 1000) : Calls Try.prog 17 #[.pointer (some ⟨Bb, 0, none⟩), .int .i64 x] wr fun e w' => ∃ v, e = .returned v ∧ P2 w w' Ba Bb sa ⟨mvN sb.now x, mvL sb.l sb.now x⟩ vl D vm M ∧
      w'.ownsRow 0 3 1 v (mvD sb.l sb.now x).length (icells (mvD sb.l sb.now x)) ∧ (∀ g, v.ownBlock = some g → wr.heap.size ≤ g) ∧ (∀ g, vm.ownBlock = some g → g < wr.heap.size) := by
  obtain ⟨Fa, Fb, h1, h2, h3, h4, h5, h6, h7, h8, h9, h10⟩ := h
  refine (move_any h2 ok).mono fun e w' ⟨v, F', he, hr, hv, g1, g2, g3⟩ => ⟨v, he, ⟨Fa, F', h1.only g3 (fun j hj => h3 j hj), g1, fun j hj hjb => ?_, h4, fun j hj => ?_, h6.trans (g3.below h6.size h5), row_only h7 g3 (fun g hg => (h9 g hg).2.1), row_only h8 g3 (fun g hg => (h10 g hg).2.1), fun g hg => ⟨(h9 g hg).1, fun hb => ?_, (h9 g hg).2.2⟩, fun g hg => ⟨(h10 g hg).1, fun hb => ?_, (h10 g hg).2.2⟩⟩, row_base hr (Nat.zero_le _), fun g hg => (hr.lt g hg).1, fun g hg => (h8.lt g hg).2⟩
  · rcases g2 j hjb with h | h
    · exact h3 j hj h
    · have := h1.lt j hj; omega
  · rcases g2 j hj with h | h
    · exact h5 j h
    · exact Nat.le_trans h6.size h
  · rcases g2 g hb with h | h
    · exact (h9 g hg).2.1 h
    · have := (h7.lt g hg).2; omega
  · rcases g2 g hb with h | h
    · exact (h10 g hg).2.1 h
    · have := (h8.lt g hg).2; omega

/-- An append of a row to a row of the call's own. -/
theorem append_row {wr : World} {b1 b2 : Nat} {v u : Value} {xs ys : List Int} (hx : wr.ownsRow b1 3 1 v xs.length (icells xs)) (hy : wr.ownsRow b2 3 1 u ys.length (icells ys)) (hb : b1 ≤ wr.heap.size) (hl : xs.length + ys.length ≤ 100000) :
    ∃ v' w', (Builtin.append_ #[36, 36] 36 #[v, u]).run Try.prog wr = .ok v' w' ∧ w'.ownsRow b1 3 1 v' (xs ++ ys).length (icells (xs ++ ys)) ∧ wr.grownBy w' v.ownBlock ∧ (v'.ownBlock = v.ownBlock ∨ ∀ k, v'.ownBlock = some k → wr.heap.size ≤ k) := by
  obtain ⟨i0, hi, hz0, hz1, hz2⟩ := info_parts info3
  have hic : icells (xs ++ ys) = icells xs ++ icells ys := by simp [icells]
  rcases Nat.eq_zero_or_pos ys.length with h0 | h0
  · have hys : ys = [] := List.eq_nil_of_length_eq_zero h0
    subst hys
    rw [List.append_nil]
    obtain ⟨a, c, rfl, _, _⟩ := row_any hy
    refine ⟨v, wr, ?_, hx, ⟨rfl, rfl, rfl, Nat.le_refl _, fun _ _ _ => rfl⟩, .inl rfl⟩
    rcases hx.2 with ⟨rfl, h1⟩ | ⟨g, cap, cur, rfl, _, _, hnc, _⟩
    · rcases a with _ | ad
      · simp [Builtin.append_, run_underlying Try.underlying36, sizeOf, typeInfo, hi, Builtin.lenOf, Builtin.firstCells, h1]
      · simp [Builtin.append_, run_underlying Try.underlying36, sizeOf, typeInfo, hi, Builtin.lenOf, Builtin.firstCells, h1, loadCells, loadCellsFrom]
    · rcases a with _ | ad
      · simp [Builtin.append_, run_underlying Try.underlying36, sizeOf, typeInfo, hi, Builtin.lenOf, Builtin.firstCells, hnc, storeCells]
      · simp [Builtin.append_, run_underlying Try.underlying36, sizeOf, typeInfo, hi, Builtin.lenOf, Builtin.firstCells, hnc, storeCells, loadCells, loadCellsFrom]
  · obtain ⟨g, c, rfl, hnc, hcm, _, _⟩ := row_slice hy h0
    have hnews : ∀ j u, (icells ys)[j]? = some u → wr.cell? ((⟨g, 0, none⟩ : Addr).add j) = some u := hy.cells (g := g) rfl
    have h1 : ∀ u ∈ icells ys, u.oneCell' = true := by intro u hu; simp [icells] at hu; obtain ⟨_, _, rfl⟩ := hu; rfl
    have hlen : (xs ++ ys).length = xs.length + ys.length := List.length_append
    rw [hic, hlen]
    rcases hx.2 with ⟨rfl, hn0⟩ | ⟨g2, cap, cur, rfl, hbg, hg, hnc2, hcm2, hcs, htake⟩
    · have hxs : xs = [] := List.eq_nil_of_length_eq_zero hn0
      subst hxs
      obtain ⟨v', w', hr, h2, h3, _⟩ := run_append_own (P := Try.prog) wr wr.heap.size 36 36 3 i0 _ 1 8 Try.underlying36 hi hz0 hz1 hz2 rfl (by decide) _ 0 [] (World.ownsRow_nil wr wr.heap.size 3 1) ⟨g, 0, none⟩ ys.length c (icells ys) (by rw [icells_len]; omega) hnews h1 (by simp only [maxLen]; omega) (by omega) (Nat.le_refl _)
      exact ⟨v', w', hr, row_base h2 hb, h3, .inr fun k hk => (h2.lt k hk).1⟩
    · by_cases hroom : xs.length + ys.length ≤ cap
      · obtain ⟨w', hr, h2, h3⟩ := run_append_fits (P := Try.prog) wr b1 36 36 3 i0 1 Try.underlying36 hi hz1 g2 xs.length cap (icells xs) hx ⟨g, 0, none⟩ ys.length c (icells ys) (by rw [icells_len]; omega) hnews h1 hroom
        exact ⟨_, w', hr, h2, h3, .inl rfl⟩
      · have holds : ∀ j u, (icells xs)[j]? = some u → wr.cell? ((⟨g2, 0, none⟩ : Addr).add j) = some u := hx.cells (g := g2) rfl
        have hr := run_append_grow (P := Try.prog) wr 36 36 3 i0 _ Try.underlying36 hi hz0 ⟨g2, 0, none⟩ xs.length cap (icells xs) (by rw [hz1]; exact hx.1) holds ⟨g, 0, none⟩ ys.length c (icells ys) (by rw [hz1, icells_len]; omega) hnews (by omega) (by omega) (growslice_fits (by omega) (by rw [hz2]; omega))
        have hge := grownCap_ge wr (xs.length + ys.length) cap 3
        have hcm' : grownCap wr (xs.length + ys.length) cap 3 ≤ maxLen := grownCap_le_maxLen wr (xs.length + ys.length) cap 3 (by simp only [maxLen]; omega)
        have hll : (icells xs ++ icells ys).length = (xs.length + ys.length) * 1 := by rw [List.length_append, icells_len, icells_len]; omega
        refine ⟨_, _, hr, ⟨hll, .inr ⟨wr.heap.size, _, _, rfl, hb, heap_alloc_new wr.drew _, hge, hcm', ?_, ?_⟩⟩, ⟨rfl, rfl, rfl, by simp, fun k hk _ => Below.heap_alloc wr.drew _ k hk⟩, .inr fun k hk => ?_⟩
        · simp only [Array.size_append, List.size_toArray, size_zeroCells, icells_len]
          simp [Value.cells]
          omega
        · simp only [Array.toList_append, List.append_assoc]
          rw [← List.append_assoc, take_split hll (Nat.le_refl _), Nat.sub_self, List.take_zero, List.append_nil]
        · simp [Value.ownBlock] at hk
          omega

theorem p2_append {v : Value} {E : List Int} (h : P2 w wr Ba Bb sa sb vl D vm M) (hr : wr.ownsRow 0 3 1 v E.length (icells E)) (hl : M.length + E.length ≤ 100000) :
    ∃ vm' w', (Builtin.append_ #[36, 36] 36 #[vm, v]).run Try.prog wr = .ok vm' w' ∧ P2 w w' Ba Bb sa sb vl D vm' (M ++ E) := by
  obtain ⟨Fa, Fb, h1, h2, h3, h4, h5, h6, h7, h8, h9, h10⟩ := h
  obtain ⟨vm', w', e, g1, g2, g3⟩ := append_row h8 hr (Nat.zero_le _) hl
  have ho : Only (fun i => vm.ownBlock = some i) wr w' := Only.of_grown g2 fun i hi => hi
  refine ⟨vm', w', e, Fa, Fb, h1.only ho (fun i hi e => (h10 i e).1 hi), h2.only ho (fun i hi e => (h10 i e).2.1 hi), h3, h4, h5, h6.trans (ho.below h6.size fun i hi => (h10 i hi).2.2), row_only h7 ho (fun g hg e => (h9 g hg).2.2 e), g1, fun g hg => ⟨(h9 g hg).1, (h9 g hg).2.1, fun e => ?_⟩, fun g hg => ?_⟩
  · rcases g3 with h | h
    · exact (h9 g hg).2.2 (h ▸ e)
    · have := h g e; have := (h7.lt g hg).2; omega
  · rcases g3 with h | h
    · exact h10 g (h ▸ hg)
    · have h11 := h g hg
      exact ⟨fun hf => by have := h1.lt g hf; omega, fun hf => by have := h2.lt g hf; omega, Nat.le_trans h6.size h11⟩
end

end Go.Proofs.Ythddphgeepgidaa
