/-
  The document's New.
-/
import Derived.Test.YtbeacddclphjgaaRbase
import Derived.Test.YtbeacddclphjgaaNew
namespace Go.Proofs.Ytbeacddclphjgaa
open Go.RowKit Go.Maps
set_option linter.unusedVariables false
set_option linter.unusedSimpArgs false
set_option maxRecDepth 10000
attribute [local go_sem ↓] bigS32

/-- What the document's New tells. -/
def RNew (w : World) (b : Int) (a : Option Addr) (n c : Nat) (l : List Bk) (e : Ending) (w' : World) : Prop :=
  (NewOk b l ∧ ∃ v, e = .returned (.tuple #[rsv b a n c v, .bool true]) ∧ Rs w' a n c v l (List.replicate l.length false) ∧ ∀ g, v.ownBlock = some g → w.heap.size ≤ g) ∨
  (¬ NewOk b l ∧ e = .returned (.tuple #[.agg #[.int .i64 0, .slice none 0 0, .slice none 0 0], .bool false]))

/-- The box of the answer. -/
structure NB (w : World) (X : World) : Prop where
  c : Cb X w.heap.size 32 Z32
  bel : Below w.heap.size w X
theorem NB.below {w X X' : World} (h : NB w X) (hb : Below X.heap.size X X') : NB w X' := ⟨h.c.below hb, below_then h.bel h.bel.size hb⟩

theorem NB.drew {w X : World} (h : NB w X) : NB w X.drew := h.below (below_drew (Below.refl _ _))
theorem NB.drewN {w X : World} (h : NB w X) (q : Nat) : NB w (X.drewN q) := h.below (below_drewN (Below.refl _ _) q)
theorem dup_not {l : List Bk} {j k : Nat} (hjk : j < k) (hk : k < l.length) (e : (l[j]!).name = (l[k]!).name) : ¬ Right l := fun h => by
  have h1 := List.pairwise_iff_getElem.1 h.2.2 j k (by omega) hk hjk
  rw [getElem!_pos l j (by omega), getElem!_pos l k hk] at e
  exact h1 e
theorem not_fit_ways {b : Bk} (h : ¬ Fit b) : b.name.size < 1 ∨ (1 ≤ b.name.size ∧ 40 < b.name.size) ∨ ((1 ≤ b.name.size ∧ b.name.size ≤ 40) ∧ (b.wt = 0 ∨ (b.wt ≠ 0 ∧ (b.wt < -254 ∨ (-254 ≤ b.wt ∧ 254 < b.wt))))) := by
  unfold Fit at h
  omega

def RnRel (w : World) (l : List Bk) (n gg : Nat) (s6 : Value) (wr : World) : Prop :=
  ∃ k : Nat, k + gg = n ∧ s6 = .int .i64 k ∧ Upto l k ∧ NB w wr
def RmRel (w : World) (l : List Bk) (k gg : Nat) (s7 : Value) (wr : World) : Prop :=
  ∃ j : Nat, j + gg = k ∧ s7 = .int .i64 j ∧ (∀ i, i < j → (l[i]!).name ≠ (l[k]!).name) ∧ NB w wr

set_option maxHeartbeats 8000000 in
theorem rnew_right {w : World} {b : Int} {a : Option Addr} {n c : Nat} {l : List Bk} (h : Bks w a n c l) (hw : Wide l) (hb : isB b = true) (hn8 : n ≤ 8) :
    Calls Try.prog 10 #[.int .i64 b, .slice a n c] w fun e w' => RNew w b a n c l e w' ∧ Below w.heap.size w w' := by
  have hb2 : 1 ≤ b ∧ b ≤ 255 := of_decide_eq_true hb
  have HN := Lib.hid h.1
  have HW := Lib.hid hw
  have HH := Lib.hid h
  have HB := Lib.hid hb
  have hnc := h.2.1
  have hz1 : ¬ b < 1 := by omega
  have hz2 : ¬ b > 255 := by omega
  have hz8 : ¬ ((n : Int) > 8) := by omega
  have HNB : Hid (NB w (w.alloc (.cells #[.int .i64 0, .slice none 0 0, .slice none 0 0] 32))) := Lib.hid ⟨Cb.new w Z32 32, below_alloc (Below.refl _ _) _⟩
  obtain ⟨i0, hi, hz0, hzz1, hzz2⟩ := info_parts info4
  clear h hw hb
  go_enter Try.func10, Try.ntmps10
  go_wp2
  go_loopg [6, 7] n (fun gg s6 _ wr => Hid (RnRel w l n gg s6 wr))
  case atStart => exact Lib.hid ⟨0, by omega, rfl, Upto.start l, HNB.out⟩
  case round =>
    obtain ⟨k, hk, rfl, hup, hnb⟩ := hrel.out
    clear hrel
    by_cases hkn : k < n
    · have hkz : (k : Int) < (n : Int) := by omega
      have hkl : k < l.length := by rw [← HN.out]; exact hkn
      obtain ⟨g, off, rfl, hg0, c0w, c1w⟩ := bk_at HH.out hkn
      have c0 := (hnb.bel.cell (p := ⟨g, off + k * 2, none⟩) hg0).trans c0w
      have c1 := (hnb.bel.cell (p := ⟨g, off + k * 2 + 1, none⟩) hg0).trans c1w
      have HNF := fun h => Lib.hid (not_fit hkl h)
      have hways := fun h => not_fit_ways (b := l[k]!) h
      have HNBX := Lib.hid hnb
      have HUP := Lib.hid hup
      by_cases hfit : Fit l[k]!
      · have hf2 := hfit
        unfold Fit at hf2
        have HFIT := Lib.hid hfit
        obtain ⟨nk, hnk⟩ : ∃ nk, (l[k]!).name = nk := ⟨_, rfl⟩
        have HNK := Lib.hid hnk
        rw [hnk] at c0 hf2
        generalize (l[k]!).wt = wt at c1 hf2
        have z1 : ¬ (nk.size : Int) < 1 := by omega
        have z2 : ¬ (nk.size : Int) > 40 := by omega
        have z3 : (wt == 0) = false := by simpa using hf2.2.2.1
        have z4 : ¬ wt < -254 := by omega
        have z5 : ¬ wt > 254 := by omega
        clear hup hnb HNF hways hfit c0w c1w hf2 hnk
        go_wp2
        go_loopg [7] k (fun gg s7 wr => Hid (RmRel w l k gg s7 wr))
        case atStart => exact Lib.hid ⟨0, by omega, rfl, fun i hi => by omega, HNBX.out⟩
        case round =>
          obtain ⟨j, hj, rfl, hno, hnb⟩ := hrel.out
          clear hrel
          have HNO := Lib.hid hno
          have HNB2 := Lib.hid hnb
          by_cases hjk : j < k
          · have hjz : (j : Int) < (k : Int) := by omega
            have hjn : j < n := by omega
            have hjz2 : (j : Int) < (n : Int) := by omega
            obtain ⟨g', off', e', -, y0w, -⟩ := bk_at HH.out hjn
            simp only [Option.some.injEq, Addr.mk.injEq, and_true] at e'
            obtain ⟨rfl, rfl⟩ := e'
            obtain ⟨g3, off3, e2, -, x0w, -⟩ := bk_at HH.out hkn
            simp only [Option.some.injEq, Addr.mk.injEq, and_true] at e2
            obtain ⟨rfl, rfl⟩ := e2
            have y0 := (hnb.bel.cell (p := ⟨g, off + j * 2, none⟩) hg0).trans y0w
            have x0 := (hnb.bel.cell (p := ⟨g, off + k * 2, none⟩) hg0).trans x0w
            rw [HNK.out] at x0
            obtain ⟨nj, hnj⟩ : ∃ nj, (l[j]!).name = nj := ⟨_, rfl⟩
            rw [hnj] at y0
            have HNJ := Lib.hid hnj
            by_cases hx : nj = nk
            · have e0 : (nj.toList == nk.toList) = true := by rw [hx]; simp
              have HD := Lib.hid (dup_not hjk hkl (HNJ.out.trans (hx.trans HNK.out.symm)))
              clear hno hnb y0w x0w hx hnj
              go_wp2
              go_quiet (fail)
              obtain ⟨w2, hst, hcb, ho⟩ := store32 (HNB2.out.drewN nq).c rfl 0 (.slice none 0 0) (.slice none 0 0) rfl rfl
              obtain ⟨g0, g1, g2⟩ := hcb.three
              have HE := Lib.hid (only_below (HNB2.out.drewN nq).bel ho (Nat.le_refl _))
              have HQ : Hid (RNew w b (some ⟨g, off, none⟩) n c l (.returned (.tuple #[.agg #[.int .i64 0, .slice none 0 0, .slice none 0 0], .bool false])) w2) := Lib.hid (.inr ⟨fun h => HD.out h.2, rfl⟩)
              clear hcb ho
              go_wp2
              exact bodyPost_ret (v := .tuple #[.agg #[.int .i64 0, .slice none 0 0, .slice none 0 0], .bool false]) (by simp [results, Try.results10, go_sem, g0, g1, g2]) rfl ⟨HQ.out, HE.out⟩
            · have e0 : (nj.toList == nk.toList) = false := by rw [beq_eq_false_iff_ne]; exact fun e => hx (toList_inj e)
              have HX := Lib.hid hx
              clear hno hnb y0w x0w hx hnj
              go_wp2
              go_quiet (fail)
              go_wp2
              go_roundg (k - (j + 1))
              case measure => omega
              case rel =>
                refine Lib.hid ⟨j + 1, by omega, by go_num, fun i hi => ?_, HNB2.out.below (below_drewN (Below.refl _ _) _)⟩
                by_cases e : i = j
                · rw [e, HNJ.out, HNK.out]; exact HX.out
                · exact HNO.out i (by omega)
          · have hjz : ¬ (j : Int) < (k : Int) := by omega
            have hnx : Upto l (k + 1) := HUP.out.next hkl HFIT.out (look_fresh.2 fun b hb => by
              obtain ⟨i, hi, rfl⟩ := List.getElem_of_mem hb
              rw [List.length_take] at hi
              have h1 := HNO.out i (by omega)
              rw [getElem!_pos l i (by omega)] at h1
              rw [List.getElem_take]
              exact h1)
            have HNX := Lib.hid hnx
            clear hno hnb hnx
            go_wp2
            go_roundg (n - (k + 1))
            case measure => omega
            case rel => exact Lib.hid ⟨k + 1, by omega, by go_num, HNX.out, HNB2.out⟩
      · obtain ⟨w2, hst, hcb, ho⟩ := store32 hnb.c rfl 0 (.slice none 0 0) (.slice none 0 0) rfl rfl
        obtain ⟨g0, g1, g2⟩ := hcb.three
        have HE := Lib.hid (only_below hnb.bel ho (Nat.le_refl _))
        have HNO := Lib.hid (HNF hfit).out
        have hways2 := hways hfit
        generalize (l[k]!).name = nm at c0 hways2
        generalize (l[k]!).wt = wt at c1 hways2
        have hq : RNew w b (some ⟨g, off, none⟩) n c l (.returned (.tuple #[.agg #[.int .i64 0, .slice none 0 0, .slice none 0 0], .bool false])) w2 := .inr ⟨fun h => HNO.out h.2, rfl⟩
        have HQ := Lib.hid hq
        clear hup hnb HNF hways hfit hcb ho c0w c1w hq
        obtain h1 | ⟨h1, h2⟩ | ⟨⟨h1, h2⟩, h3⟩ := hways2
        · have z1 : (nm.size : Int) < 1 := by omega
          go_wp2
          exact bodyPost_ret (v := .tuple #[.agg #[.int .i64 0, .slice none 0 0, .slice none 0 0], .bool false]) (by simp [results, Try.results10, go_sem, g0, g1, g2]) rfl ⟨HQ.out, HE.out⟩
        · have z1 : ¬ (nm.size : Int) < 1 := by omega
          have z2 : (nm.size : Int) > 40 := by omega
          go_wp2
          exact bodyPost_ret (v := .tuple #[.agg #[.int .i64 0, .slice none 0 0, .slice none 0 0], .bool false]) (by simp [results, Try.results10, go_sem, g0, g1, g2]) rfl ⟨HQ.out, HE.out⟩
        · have z1 : ¬ (nm.size : Int) < 1 := by omega
          have z2 : ¬ (nm.size : Int) > 40 := by omega
          obtain rfl | ⟨h4, h5 | ⟨h5, h6⟩⟩ := h3
          · go_wp2
            exact bodyPost_ret (v := .tuple #[.agg #[.int .i64 0, .slice none 0 0, .slice none 0 0], .bool false]) (by simp [results, Try.results10, go_sem, g0, g1, g2]) rfl ⟨HQ.out, HE.out⟩
          · have z3 : (wt == 0) = false := by simpa using h4
            go_wp2
            exact bodyPost_ret (v := .tuple #[.agg #[.int .i64 0, .slice none 0 0, .slice none 0 0], .bool false]) (by simp [results, Try.results10, go_sem, g0, g1, g2]) rfl ⟨HQ.out, HE.out⟩
          · have z3 : (wt == 0) = false := by simpa using h4
            have z4 : ¬ wt < -254 := by omega
            have z5 : wt > 254 := by omega
            go_wp2
            exact bodyPost_ret (v := .tuple #[.agg #[.int .i64 0, .slice none 0 0, .slice none 0 0], .bool false]) (by simp [results, Try.results10, go_sem, g0, g1, g2]) rfl ⟨HQ.out, HE.out⟩
    · have hkz : ¬ (k : Int) < (n : Int) := by omega
      obtain rfl : k = n := by omega
      obtain ⟨wm, hmk, hrow0, hgr⟩ := run_make_full (P := Try.prog) wr wr.heap.size 30 4 i0 _ 1 Try.underlying30 hi hz0 hzz1 .i64 .i64 k (by rw [hzz2]; omega) (by simp only [maxLen]; omega) (Nat.le_refl _)
      have hbm : Below wr.heap.size wr wm := ⟨hgr.os, hgr.tape, hgr.output, hgr.size, fun i hi => hgr.block i hi (by simp)⟩
      have e : (madeCells (Value.bool false).cells (k * 1)).toList = ucells (List.replicate k false) := by
        rw [Nat.mul_one, show (Value.bool false).cells = #[Value.bool false] from rfl, toList_madeCells_one]
        simp [ucells]
      rw [e] at hrow0
      have hnm := hnb.below hbm
      obtain ⟨w2, hst, hcb, ho⟩ := store32 hnm.c rfl b (.slice a k c) (.slice (some ⟨wr.heap.size, 0, none⟩) k k) rfl rfl
      obtain ⟨g0, g1, g2⟩ := hcb.three
      have HE := Lib.hid (only_below hnm.bel ho (Nat.le_refl _))
      have hR : Right l := Upto.whole (by rw [← HN.out]; exact hup) (by rw [← HN.out]; exact hn8)
      have hr2 := row_only (row_base hrow0 (Nat.zero_le _)) ho (fun g hg e => by
        simp [Value.ownBlock] at hg
        have h1 : g = w.heap.size := e
        have h2 := hnb.c.lt
        omega)
      have HQ : Hid (RNew w b a k c l (.returned (.tuple #[.agg #[.int .i64 b, .slice a k c, .slice (some ⟨wr.heap.size, 0, none⟩) k k], .bool true])) w2) := Lib.hid (.inl ⟨⟨HB.out, hR⟩, _, rfl, ⟨HH.out.below HE.out, by rw [List.length_replicate]; exact HN.out.symm, by rw [← HN.out]; exact hr2⟩, fun g hg => (by simp [Value.ownBlock] at hg; have h2 := hnb.bel.size; omega)⟩)
      clear hup hnb hrow0 hgr hbm e hnm hcb ho hR hr2 hi hz0 hzz1 hzz2
      go_wp2
      exact bodyPost_ret (v := .tuple #[.agg #[.int .i64 b, .slice a k c, .slice (some ⟨wr.heap.size, 0, none⟩) k k], .bool true]) (by simp [results, Try.results10, go_sem, g0, g1, g2]) rfl ⟨HQ.out, HE.out⟩

set_option maxHeartbeats 2000000 in
theorem rnew_any {w : World} {b : Int} {a : Option Addr} {n c : Nat} {l : List Bk} (h : Bks w a n c l) (hw : Wide l) :
    Calls Try.prog 10 #[.int .i64 b, .slice a n c] w fun e w' => RNew w b a n c l e w' ∧ Below w.heap.size w w' := by
  by_cases hb : isB b = true
  · by_cases hn8 : n ≤ 8
    · exact rnew_right h hw hb hn8
    · have hz8 : ((n : Int) > 8) := by omega
      have hb2 : 1 ≤ b ∧ b ≤ 255 := of_decide_eq_true hb
      have hz1 : ¬ b < 1 := by omega
      have hz2 : ¬ b > 255 := by omega
      have HNO : Hid (¬ NewOk b l) := Lib.hid (fun h1 => by have := h1.2.1; have := h.1; omega)
      obtain ⟨w2, hst, hcb, ho⟩ := store32 (show Cb (w.alloc (.cells #[.int .i64 0, .slice none 0 0, .slice none 0 0] 32)) w.heap.size 32 Z32 from Cb.new w Z32 32) rfl 0 (.slice none 0 0) (.slice none 0 0) rfl rfl
      obtain ⟨g0, g1, g2⟩ := hcb.three
      have HE := Lib.hid (only_below (below_alloc (Below.refl w.heap.size w) _) ho (Nat.le_refl _))
      clear h hw hb hb2 hcb ho
      go_enter Try.func10, Try.ntmps10
      go_wp2
      exact bodyPost_ret (v := .tuple #[.agg #[.int .i64 0, .slice none 0 0, .slice none 0 0], .bool false]) (by simp [results, Try.results10, go_sem, g0, g1, g2]) rfl ⟨.inr ⟨HNO.out, rfl⟩, HE.out⟩
  · have HNO : Hid (¬ NewOk b l) := Lib.hid (fun h1 => hb h1.1)
    obtain ⟨w2, hst, hcb, ho⟩ := store32 (show Cb (w.alloc (.cells #[.int .i64 0, .slice none 0 0, .slice none 0 0] 32)) w.heap.size 32 Z32 from Cb.new w Z32 32) rfl 0 (.slice none 0 0) (.slice none 0 0) rfl rfl
    obtain ⟨g0, g1, g2⟩ := hcb.three
    have HE := Lib.hid (only_below (below_alloc (Below.refl w.heap.size w) _) ho (Nat.le_refl _))
    by_cases hz1 : b < 1
    · clear h hw hb hcb ho
      go_enter Try.func10, Try.ntmps10
      go_wp2
      exact bodyPost_ret (v := .tuple #[.agg #[.int .i64 0, .slice none 0 0, .slice none 0 0], .bool false]) (by simp [results, Try.results10, go_sem, g0, g1, g2]) rfl ⟨.inr ⟨HNO.out, rfl⟩, HE.out⟩
    · have hz2 : b > 255 := by
        rcases Int.lt_or_le 255 b with h1 | h1
        · exact h1
        · exact absurd (decide_eq_true (⟨by omega, h1⟩ : 1 ≤ b ∧ b ≤ 255)) hb
      clear h hw hb hcb ho
      go_enter Try.func10, Try.ntmps10
      go_wp2
      exact bodyPost_ret (v := .tuple #[.agg #[.int .i64 0, .slice none 0 0, .slice none 0 0], .bool false]) (by simp [results, Try.results10, go_sem, g0, g1, g2]) rfl ⟨.inr ⟨HNO.out, rfl⟩, HE.out⟩
end Go.Proofs.Ytbeacddclphjgaa
