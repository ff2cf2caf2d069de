/-
  The reference's Move.
-/
import Derived.Test.YtkcndgiiangmjaaRefS
namespace Go.Proofs.Ytkcndgiiangmjaa
open Go.RowKit Go.Maps
set_option linter.unusedVariables false
set_option linter.unusedSimpArgs false
set_option maxRecDepth 10000

theorem dueI_next (L : List Tm) (m : Nat) {k : Nat} (h : k < L.length) : ids (due (L.take (k + 1)) m) = ids (due (L.take k) m) ++ (if (L[k]!).at_ ≤ m then [((L[k]!).id : Int)] else []) := by
  rw [take_next L h]
  unfold due ids
  rw [List.filter_append, List.map_append]
  congr 1
  generalize L[k]! = t
  by_cases e : t.at_ ≤ m
  · simp [List.filter_cons, e]
  · simp [List.filter_cons, e]
theorem left_next (L : List Tm) (m : Nat) {k : Nat} (h : k < L.length) : left (L.take (k + 1)) m = left (L.take k) m ++ (if (L[k]!).at_ ≤ m then [] else [L[k]!]) := by
  rw [take_next L h]
  unfold left
  rw [List.filter_append]
  congr 1
  generalize L[k]! = t
  by_cases e : t.at_ ≤ m
  · simp [List.filter_cons, e]
  · simp [List.filter_cons, e]
theorem left_le (L : List Tm) (m : Nat) : (left L m).length ≤ L.length := List.length_filter_le _ _
theorem dueI_le (L : List Tm) (m : Nat) : (ids (due L m)).length ≤ L.length := by unfold ids; rw [List.length_map]; exact List.length_filter_le _ _

set_option maxHeartbeats 1000000 in
theorem rmove_no {w : World} {now : Nat} {v : Value} {L : List Tm} {x : Int} (hrow : w.ownsRow 0 93 2 v L.length (tcells L)) (hr : okM now x = false) :
    Calls Try.prog 33 #[rv now v, .int .i64 x] w fun e w' => e = .returned (.tuple #[rv now v, .slice none 0 0]) ∧ Below w.heap.size w w' := by
  have hr : ¬ ((now : Int) ≤ x ∧ x ≤ 1099511627776) := by simpa [okM] using hr
  obtain ⟨a', c, rfl, hnc, -⟩ := row_any hrow
  generalize L.length = n at *
  clear hrow
  simp only [rv]
  by_cases h1 : x < (now : Int)
  · clear hr
    go_enter Try.func33, Try.ntmps33
    go_wp2
    refine bodyPost_ret (v := .tuple #[.agg #[.int .i64 (now : Int), .slice a' n c], .slice none 0 0]) (by simp [results, Try.results33, go_sem]) rfl ⟨rfl, ?_⟩
    repeat (first | exact Below.refl _ _ | with_reducible refine below_drewN ?_ _ | with_reducible refine below_drew ?_ | with_reducible refine Below.setCell ?_ (by simp) _ | with_reducible refine below_alloc ?_ _)
  · have h4 : 1099511627776 < x := by omega
    clear hr
    go_enter Try.func33, Try.ntmps33
    go_wp2
    refine bodyPost_ret (v := .tuple #[.agg #[.int .i64 (now : Int), .slice a' n c], .slice none 0 0]) (by simp [results, Try.results33, go_sem]) rfl ⟨rfl, ?_⟩
    repeat (first | exact Below.refl _ _ | with_reducible refine below_drewN ?_ _ | with_reducible refine below_drew ?_ | with_reducible refine Below.setCell ?_ (by simp) _ | with_reducible refine below_alloc ?_ _)

def MoRel (w0 : World) (B : Nat) (L : List Tm) (m n gg : Nat) (s6 s7 s8 : Value) (wr : World) : Prop :=
  ∃ k : Nat, k + gg = n ∧ s8 = .int .i64 k ∧ wr.ownsRow B 3 1 s6 (ids (due (L.take k) m)).length (icells (ids (due (L.take k) m))) ∧
    wr.ownsRow B 93 2 s7 (left (L.take k) m).length (tcells (left (L.take k) m)) ∧ (∀ g, s6.ownBlock = some g → s7.ownBlock ≠ some g) ∧ Below B w0 wr

set_option maxHeartbeats 4000000 in
theorem rmove_yes {w : World} {now : Nat} {v : Value} {L : List Tm} {m : Nat} (hrow : w.ownsRow 0 93 2 v L.length (tcells L)) (hlen : L.length ≤ 1000) (hn : now ≤ m) (hm : m ≤ 1099511627776) :
    Calls Try.prog 33 #[rv now v, .int .i64 m] w fun e w' => ∃ v' u, e = .returned (.tuple #[rv m v', u]) ∧ w'.ownsRow w.heap.size 93 2 v' (left L m).length (tcells (left L m)) ∧ w'.ownsRow w.heap.size 3 1 u (ids (due L m)).length (icells (ids (due L m))) ∧ Below w.heap.size w w' := by
  obtain ⟨a0, c, rfl, hnc, -⟩ := row_any hrow
  generalize hnn' : L.length = n at *
  have hnn := hnn'.symm
  clear hnn'
  obtain ⟨w0, hw0⟩ : ∃ W, W = ((w.alloc (.cells #[.int .i64 (now : Int), .slice a0 n c] 46)).alloc (.cells #[.int .i64 0, .slice none 0 0] 46)) := ⟨_, rfl⟩
  have hb0 : Below w.heap.size w w0 := by rw [hw0]; exact below_alloc (below_alloc (Below.refl _ _) _) _
  have hN : w.heap.size + 2 = w0.heap.size := by rw [hw0]; simp
  have hr0 := row_below hrow hb0
  have hx0 : Bx w0 w.heap.size (.int .i64 (now : Int)) (.slice a0 n c) (.int .i64 0) (.slice none 0 0) := by rw [hw0]; exact bx_new w _ _ _ _
  have HX0 := Lib.hid hx0
  have HR0 := Lib.hid hr0
  have HB0 := Lib.hid hb0
  have HW := Lib.hid hw0
  have HN0 := Lib.hid hN
  have HN := Lib.hid hnn
  clear hr0 hb0 hx0 hw0 hrow hN hnn
  obtain ⟨i0, hi, hz0, hz1, hz2⟩ := info_parts info58
  obtain ⟨i3, hi3, hy0, hy1, hy2⟩ := info_parts info3
  have h1 : ¬ ((m : Int) < (now : Int)) := by omega
  have h2 : ¬ ((m : Int) > 1099511627776) := by omega
  simp only [rv]
  go_enter Try.func33, Try.ntmps33
  go_wp2
  rw [← HW.out]
  go_loopg [6, 7, 8] n (fun gg s6 s7 s8 wr => Hid (MoRel w0 w0.heap.size L m n gg s6 s7 s8 wr))
  case atStart => exact Lib.hid ⟨0, by omega, rfl, by simpa [due, ids, icells] using World.ownsRow_nil w0 w0.heap.size 3 1, by simpa [left, tcells] using World.ownsRow_nil w0 w0.heap.size 93 2, fun g hg => by simp [Value.ownBlock] at hg, Below.refl _ _⟩
  case round =>
    obtain ⟨k, hk, rfl, hA, hC, hne, hb⟩ := hrel.out
    clear hrel
    have hx := HX0.out.below hb (by rw [HN0.out]; exact Nat.le_refl _)
    have HX := Lib.hid hx
    obtain ⟨c0, c1, r0, r1, f0, f1, g0, g1⟩ := hx
    have hsz := hb.size
    have hlA := dueI_le (L.take k) m
    have hlC := left_le (L.take k) m
    rw [List.length_take] at hlA hlC
    obtain ⟨aA, cA, rfl, hncA, -⟩ := row_any hA
    obtain ⟨aC, cC, rfl, hncC, -⟩ := row_any hC
    by_cases hlt : k < n
    · have hltz : (k : Int) < (n : Int) := by omega
      have hk2 : k < L.length := by rw [← HN.out]; exact hlt
      have hr := row_below HR0.out hb
      obtain ⟨g, c', e, _⟩ := row_slice hr (by omega)
      simp only [Value.slice.injEq, true_and] at e
      obtain ⟨rfl, rfl⟩ := e
      obtain ⟨d0, d1⟩ := rrow_at hr hlt
      have hnd := dueI_next L m hk2
      have hnl := left_next L m hk2
      generalize L[k]! = t at d0 d1 hnd hnl
      obtain ⟨ti, ta⟩ := t
      simp only at d0 d1 hnd hnl
      have HB := Lib.hid hb
      clear hr hb
      by_cases hx : ta ≤ m
      · rw [if_pos hx] at hnd hnl
        rw [List.append_nil] at hnl
        have hxz : (ta : Int) ≤ (m : Int) := by omega
        obtain ⟨v3, w3, hrun, hown, hgrow, hblk⟩ := append_gen (vb := wr.heap.size) (news := [.int .i64 (ti : Int)]) Try.underlying57 hi3 hy0 hy1 hy2 rfl (by decide) (hA.alloc (.cells #[.int .i64 (ti : Int)] 3)) (by simp; omega) rfl (cell_one_at _ _ rfl) (by intro u hu; simp at hu; subst hu; rfl) (by omega) (by decide) 57
        have hC3 : w3.ownsRow w0.heap.size 93 2 (.slice aC (left (L.take k) m).length cC) (left (L.take k) m).length (tcells (left (L.take k) m)) := (hC.alloc (.cells #[.int .i64 (ti : Int)] 3)).kept hgrow (by
          cases hq : (Value.slice aC (left (L.take k) m).length cC).ownBlock with
          | none => exact .inl rfl
          | some z => exact .inr fun e => hne z e.symm hq)
        have hb3 : Below w0.heap.size w0 w3 := (HB.out.alloc (by omega) (.cells #[.int .i64 (ti : Int)] 3)).grown hgrow (by simp; omega) (fun j hj => (hA.lt j hj).1)
        have hne3 : ∀ g, v3.ownBlock = some g → (Value.slice aC (left (L.take k) m).length cC).ownBlock ≠ some g := fun g hg hh => by
          rcases hblk with h | h
          · exact hne g (h ▸ hg) hh
          · have h1 := h g hg
            have h2 := (hC.lt g hh).2
            simp at h1
            omega
        have HE := Lib.hid (And.intro hown (And.intro hC3 (And.intro hb3 (And.intro hne3 (And.intro hnd hnl)))))
        have HRUN := Lib.hid hrun
        clear hrun hA hC hne hown hgrow hblk hC3 hb3 hne3 hnd hnl hlA hlC hncA hncC
        generalize hmA : (ids (due (L.take k) m)).length = mA at *
        generalize hmC : (left (L.take k) m).length = mC at *
        have HMA := Lib.hid hmA
        have HMC := Lib.hid hmC
        clear hmA hmC
        go_wp2_with (at_builtin; refine Lib.wpList_append_run _ rfl _ _ _ _ rfl _ _ rfl rfl _ _ HRUN.out ?_)
        go_roundg (n - (k + 1))
        case measure => omega
        case rel =>
          obtain ⟨q1, q2, q3, q4, q5, q6⟩ := HE.out
          refine Lib.hid ⟨k + 1, by omega, by go_num, ?_, ?_, q4, q3⟩
          · rw [q5, List.length_append, HMA.out]; simp only [icells] at q1 ⊢; rw [List.map_append]; exact q1
          · rw [q6, HMC.out]; exact q2
      · rw [if_neg hx] at hnd hnl
        rw [List.append_nil] at hnd
        have hxz : ¬ ((ta : Int) ≤ (m : Int)) := by omega
        obtain ⟨v3, w3, hrun, hown, hgrow, hblk⟩ := append_gen (vb := wr.heap.size) (news := [.int .i64 (ti : Int), .int .i64 (ta : Int)]) Try.underlying44 hi hz0 hz1 hz2 rfl (by decide) (hC.alloc (.cells #[.int .i64 (ti : Int), .int .i64 (ta : Int)] 93)) (by simp; omega) rfl (cell_two_at _ _ _ rfl) (by intro u hu; simp at hu; rcases hu with rfl | rfl <;> rfl) (by omega) (by decide) 44
        have hA3 : w3.ownsRow w0.heap.size 3 1 (.slice aA (ids (due (L.take k) m)).length cA) (ids (due (L.take k) m)).length (icells (ids (due (L.take k) m))) := (hA.alloc (.cells #[.int .i64 (ti : Int), .int .i64 (ta : Int)] 93)).kept hgrow (by
          cases hq : (Value.slice aA (ids (due (L.take k) m)).length cA).ownBlock with
          | none => exact .inl rfl
          | some z => exact .inr fun e => hne z hq e.symm)
        have hb3 : Below w0.heap.size w0 w3 := (HB.out.alloc (by omega) (.cells #[.int .i64 (ti : Int), .int .i64 (ta : Int)] 93)).grown hgrow (by simp; omega) (fun j hj => (hC.lt j hj).1)
        have hne3 : ∀ g, (Value.slice aA (ids (due (L.take k) m)).length cA).ownBlock = some g → v3.ownBlock ≠ some g := fun g hg hh => by
          rcases hblk with h | h
          · exact hne g hg (h ▸ hh)
          · have h1 := h g hh
            have h2 := (hA.lt g hg).2
            simp at h1
            omega
        have HE := Lib.hid (And.intro hown (And.intro hA3 (And.intro hb3 (And.intro hne3 (And.intro hnd hnl)))))
        have HRUN := Lib.hid hrun
        clear hrun hA hC hne hown hgrow hblk hA3 hb3 hne3 hnd hnl hlA hlC hncA hncC
        generalize hmA : (ids (due (L.take k) m)).length = mA at *
        generalize hmC : (left (L.take k) m).length = mC at *
        have HMA := Lib.hid hmA
        have HMC := Lib.hid hmC
        clear hmA hmC
        go_wp2_with (at_builtin; refine Lib.wpList_append_run _ rfl _ _ _ _ rfl _ _ rfl rfl _ _ HRUN.out ?_)
        go_roundg (n - (k + 1))
        case measure => omega
        case rel =>
          obtain ⟨q1, q2, q3, q4, q5, q6⟩ := HE.out
          refine Lib.hid ⟨k + 1, by omega, by go_num, ?_, ?_, q4, q3⟩
          · rw [q5, HMA.out]; exact q2
          · rw [q6, tcells_app, List.length_append, HMC.out]; exact q1
    · obtain rfl : k = n := by omega
      have hltz : ¬ ((k : Int) < (k : Int)) := by omega
      have he : L.take k = L := List.take_of_length_le (by rw [← HN.out]; exact Nat.le_refl _)
      rw [he] at hA hC hncA hncC
      have HA := Lib.hid hA
      have HC := Lib.hid hC
      have HBE := Lib.hid (HB0.out.trans (hb.mono (by rw [← HN0.out]; omega)))
      clear hA hC hne hlA hlC hb hncA hncC
      generalize hmA : (ids (due L m)).length = mA at *
      generalize hmC : (left L m).length = mC at *
      rw [he] at *
      go_wp2
      trace_state
      refine bodyPost_ret (v := .tuple #[.agg #[.int .i64 (m : Int), .slice aC mC cC], .slice aA mA cA]) (by simp [results, Try.results33, go_sem, c0, c1, r0, r1]) rfl ⟨_, _, rfl, ?_, ?_, ?_⟩
      · refine row_base (base := w0.heap.size) ?_ (by rw [← HN0.out]; omega)
        repeat (first | exact HC.out | with_reducible refine row_drewN ?_ _ | with_reducible refine row_drew ?_ | with_reducible refine row_set ?_ (by show _ < w0.heap.size; rw [← HN0.out]; simp only []; omega) _)
      · refine row_base (base := w0.heap.size) ?_ (by rw [← HN0.out]; omega)
        repeat (first | exact HA.out | with_reducible refine row_drewN ?_ _ | with_reducible refine row_drew ?_ | with_reducible refine row_set ?_ (by show _ < w0.heap.size; rw [← HN0.out]; simp only []; omega) _)
      · repeat (first | exact HBE.out | with_reducible refine below_drewN ?_ _ | with_reducible refine below_drew ?_ | with_reducible refine Below.setCell ?_ (by simp only []; omega) _)

end Go.Proofs.Ytkcndgiiangmjaa
