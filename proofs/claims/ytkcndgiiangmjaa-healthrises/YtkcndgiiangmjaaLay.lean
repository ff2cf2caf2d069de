/-
  wheel.lay: a timer goes into its slot.
-/
import Derived.Test.YtkcndgiiangmjaaPlace
import Derived.Test.YtkcndgiiangmjaaSearch
import Derived.Test.YtkcndgiiangmjaaIns
namespace Go.Proofs.Ytkcndgiiangmjaa
open Go.RowKit
set_option linter.unusedVariables false
set_option linter.unusedSimpArgs false
set_option maxRecDepth 10000

theorem slot_length (now : Nat) (L : List Tm) (k : Nat) : (slot now L k).length ≤ L.length := List.length_filter_le _ _

set_option maxHeartbeats 2000000 in
theorem lay_any {w : World} {F : Nat → Prop} {B now : Nat} {L T : List Tm} {t : Tm} (h : Wh w F B now L T) (hf : Fit L) (hn : now ≤ 1099511627776) (ht : t.at_ ≤ 1099511627776) (hnot : ∀ x ∈ L, x.id ≠ t.id) (hlen : L.length ≤ 1000) :
    Calls Try.prog 36 #[.pointer (some ⟨B, 0, none⟩), tv t] w fun e w' => e = .returned (.tuple #[]) ∧ ∃ F', Wh w' F' B now (ins t L) T ∧ (∀ i, F' i → F i ∨ w.heap.size ≤ i) ∧ Only F w w' := by
  have HPL := Lib.hid (fun W (hW : Wh W F B now L T) => place_any hW hn ht)
  obtain ⟨M, sl, h⟩ := h
  obtain ⟨k, hk⟩ : ∃ k, pl now t.at_ = k := ⟨_, rfl⟩
  have hk448 : k < 448 := by rw [← hk]; exact pl_lt _ _
  have hkz : (k : Int) < 448 := by omega
  rw [hk] at HPL
  have H := Lib.hid h
  have HK := Lib.hid hk
  have HF := Lib.hid hf
  have HNOT := Lib.hid hnot
  have HB0 := Lib.hid (h.lt B h.inB)
  obtain ⟨ti, ta⟩ := t
  obtain ⟨w1, hw1⟩ : ∃ W, W = w.alloc (.cells #[.int .i64 (ti : Int), .int .i64 (ta : Int)] 90) := ⟨_, rfl⟩
  have hb1 : Below w.heap.size w w1 := by rw [hw1]; exact below_alloc (Below.refl _ _) _
  have H1 := Lib.hid (h.below hb1)
  have HB1 := Lib.hid hb1
  have hc2 := H1.out.cells.2.2 k hk448
  have hs := slot_length now L k
  have hrow := H1.out.row k hk448
  obtain ⟨a, c, e, hnc, hcm⟩ := row_any hrow
  have HSL := Lib.hid e
  rw [e] at hc2 hrow
  have hg0 : w1.cell? ⟨w.heap.size, 0, none⟩ = some (.int .i64 ti) := by rw [hw1]; simp [go_sem]
  have hg1 : w1.cell? ⟨w.heap.size, 1, none⟩ = some (.int .i64 ta) := by rw [hw1]; simp [go_sem]
  have hws : w.heap.size < w1.heap.size := by rw [hw1]; simp
  have hBs : B < w1.heap.size := H1.out.lt B H1.out.inB
  have HG := Lib.hid (And.intro hc2 (And.intro hg0 (And.intro hg1 (And.intro hws hBs))))
  generalize hN : (slot now L k).length = N at *
  have HN := Lib.hid hN
  have hN2 : N ≤ 100000 := by omega
  have HW1 := Lib.hid hw1
  have HROW := Lib.hid hrow
  have HSR := Lib.hid (fun W (hb : Below w1.heap.size w1 W) => search_any (t := ⟨ti, ta⟩) (row_below HROW.out hb) ((HF.out.filter _).srt) hN2)
  have HCT := Lib.hid (cnt_le ⟨ti, ta⟩ (slot now L k))
  rw [HN.out] at HCT
  generalize hct : cnt ⟨ti, ta⟩ (slot now L k) = ct at HSR HCT
  have HCTE := Lib.hid hct
  have hPL2 := fun n => place_any (w := w1.drewN n) ⟨M, sl, H1.out.below (below_drewN (Below.refl _ _) _)⟩ hn ht
  simp only at hPL2
  rw [HK.out] at hPL2
  rw [hw1] at hPL2
  have HPL2 := Lib.hid hPL2
  clear h hf hnot hk hb1 e hnc hcm hN hct hw1 hc2 hrow hg0 hg1 hws hBs hPL2 HPL
  simp only [tv]
  go_enter Try.func36, Try.ntmps36
  go_wp2_with fail
  go_quiet (first | (go_at_call_of 41 (Value.pointer (some ⟨B, 0, none⟩)); exact Calls.quiet_of (HPL2.out _)))
  rw [← HW1.out]
  go_wp2_with fail
  refine wp_region_held_drew (S := fun W => Below w1.heap.size w1 W) (by kernel_rfl) (below_drew (below_drewN (Below.refl _ _) _)) (fun hHeld => ?_)
  refine wpAnyH_take (i := 0) (oi := ({ dst := some 16, op := Go.Op.move (Go.Operand.tmp 4), type := 96, pos := _, after := #[], guard := none } : Oper)) (v := ?_) rfl (by kernel_rfl) (by kernel_rfl) (by kernel_rfl) (fun _ _ _ h => h) (Or.inl ⟨by rfl, ?_⟩) (by assumption) ?_
  rotate_left
  · intro W' hSw
    try dsimp only at hSw
    go_simp
    try with_reducible rfl
  try simp only [Act.put, List.setIfInBounds_toArray, List.set_cons_zero, List.set_cons_succ]
  refine wpAnyH_take (i := 1) (oi := ({ dst := some 17, op := Go.Op.nilCheck (Go.Operand.tmp 16), type := 0, pos := _, after := #[{ on := 0, ground := Go.Ground.data }], guard := none } : Oper)) (v := ?_) rfl (by kernel_rfl) (by kernel_rfl) (by kernel_rfl) (fun _ _ _ h => h) (Or.inl ⟨by rfl, ?_⟩) (by assumption) ?_
  rotate_left
  · intro W' hSw
    try dsimp only at hSw
    go_simp
    try with_reducible rfl
  try simp only [Act.put, List.setIfInBounds_toArray, List.set_cons_zero, List.set_cons_succ]
  refine wpAnyH_take (i := 2) (oi := ({ dst := some 18, op := Go.Op.load 83 (Go.Operand.tmp 17), type := 83, pos := _, after := #[{ on := 1, ground := Go.Ground.data }], guard := none } : Oper)) (v := ?_) rfl (by kernel_rfl) (by kernel_rfl) (by kernel_rfl) (fun _ _ _ h => h) (Or.inl ⟨by rfl, ?_⟩) (by assumption) ?_
  rotate_left
  · intro W' hSw
    try dsimp only at hSw
    have f2 := (Below.cell hSw (p := ⟨B, 2 + k, none⟩) HG.out.2.2.2.2).trans HG.out.1
    go_simp
    try with_reducible rfl
  try simp only [Act.put, List.setIfInBounds_toArray, List.set_cons_zero, List.set_cons_succ]
  refine wpAnyH_take (i := 3) (oi := ({ dst := some 19, op := Go.Op.load 90 (Go.Operand.tmp 3), type := 90, pos := _, after := #[], guard := none } : Oper)) (v := ?_) rfl (by kernel_rfl) (by kernel_rfl) (by kernel_rfl) (fun _ _ _ h => h) (Or.inl ⟨by rfl, ?_⟩) (by assumption) ?_
  rotate_left
  · intro W' hSw
    try dsimp only at hSw
    have f3 := (Below.cell hSw (p := ⟨w.heap.size, 0, none⟩) HG.out.2.2.2.1).trans HG.out.2.1
    have f4 := (Below.cell hSw (p := ⟨w.heap.size, 1, none⟩) HG.out.2.2.2.1).trans HG.out.2.2.1
    go_simp
    try with_reducible rfl
  try simp only [Act.put, List.setIfInBounds_toArray, List.set_cons_zero, List.set_cons_succ]
  refine wpAnyH_ready (rs := [4]) (by kernel_rfl) (by simp) ?_
  refine AllReadyH.cons (o := ({ dst := some 20, op := Go.Op.call { callee := Go.Callee.value (Go.Operand.func 42), args := #[Go.Operand.tmp 18, Go.Operand.tmp 19, Go.Operand.func 43], argTypes := #[83, 90, 99] }, type := 95, pos := _, after := #[{ on := 2, ground := Go.Ground.data }, { on := 3, ground := Go.Ground.data }], guard := none } : Oper)) rfl (fun K hK => ?_) AllReadyH.nil
  go_simp
  refine (HSR.out _ hHeld).mono ?_
  rintro e w2 ⟨⟨bb, rfl⟩, hb2⟩
  go_wp2_with fail
  refine hK.out _ _ ?_ (fun hHeld => ?_)
  · exact hHeld.trans (hb2.mono hHeld.size)
  clear hK K
  try simp only [Act.put, List.setIfInBounds_toArray, List.set_cons_zero, List.set_cons_succ]
  refine wpAnyH_take (i := 5) (oi := ({ dst := some 15, op := Go.Op.move (Go.Operand.tmp 20), type := 95, pos := _, after := #[{ on := 4, ground := Go.Ground.data }], guard := none } : Oper)) (v := ?_) rfl (by kernel_rfl) (by kernel_rfl) (by kernel_rfl) (fun _ _ _ h => h) (Or.inl ⟨by rfl, ?_⟩) (by assumption) ?_
  rotate_left
  · intro W' hSw
    try dsimp only at hSw
    go_simp
    try with_reducible rfl
  try simp only [Act.put, List.setIfInBounds_toArray, List.set_cons_zero, List.set_cons_succ]
  refine wpAnyH_take (i := 6) (oi := ({ dst := some 21, op := Go.Op.extract (Go.Operand.tmp 15) 0, type := 3, pos := _, after := #[{ on := 5, ground := Go.Ground.data }], guard := none } : Oper)) (v := ?_) rfl (by kernel_rfl) (by kernel_rfl) (by kernel_rfl) (fun _ _ _ h => h) (Or.inl ⟨by rfl, ?_⟩) (by assumption) ?_
  rotate_left
  · intro W' hSw
    try dsimp only at hSw
    go_simp
    try with_reducible rfl
  try simp only [Act.put, List.setIfInBounds_toArray, List.set_cons_zero, List.set_cons_succ]
  refine wpAnyH_take (i := 7) (oi := ({ dst := some 22, op := Go.Op.extract (Go.Operand.tmp 15) 1, type := 4, pos := _, after := #[{ on := 5, ground := Go.Ground.data }, { on := 8, ground := Go.Ground.gcOnly Go.Departure.lateStores }], guard := none } : Oper)) (v := ?_) rfl (by kernel_rfl) (by kernel_rfl) (by kernel_rfl) (fun _ _ _ h => h) (Or.inl ⟨by rfl, ?_⟩) (by assumption) ?_
  rotate_left
  · intro W' hSw
    try dsimp only at hSw
    go_simp
    try with_reducible rfl
  try simp only [Act.put, List.setIfInBounds_toArray, List.set_cons_zero, List.set_cons_succ]
  refine wpAnyH_take (i := 8) (oi := ({ dst := some 5, op := Go.Op.assign (Go.Operand.tmp 21), type := 3, pos := _, after := #[{ on := 6, ground := Go.Ground.data }, { on := 4, ground := Go.Ground.chain }, { on := 0, ground := Go.Ground.phase }, { on := 1, ground := Go.Ground.phase }, { on := 2, ground := Go.Ground.phase }, { on := 3, ground := Go.Ground.phase }, { on := 4, ground := Go.Ground.phase }, { on := 5, ground := Go.Ground.phase }, { on := 6, ground := Go.Ground.phase }, { on := 7, ground := Go.Ground.textOnly Go.Departure.lateStores }], guard := none } : Oper)) (v := ?_) rfl (by kernel_rfl) (by kernel_rfl) (by kernel_rfl) (fun _ _ _ h => h) (Or.inl ⟨by rfl, ?_⟩) (by assumption) ?_
  rotate_left
  · intro W' hSw
    try dsimp only at hSw
    go_simp
    try with_reducible rfl
  try simp only [Act.put, List.setIfInBounds_toArray, List.set_cons_zero, List.set_cons_succ]
  refine wpAnyH_take (i := 9) (oi := ({ dst := some 6, op := Go.Op.assign (Go.Operand.tmp 22), type := 4, pos := _, after := #[{ on := 7, ground := Go.Ground.data }, { on := 8, ground := Go.Ground.chain }, { on := 0, ground := Go.Ground.phase }, { on := 1, ground := Go.Ground.phase }, { on := 2, ground := Go.Ground.phase }, { on := 3, ground := Go.Ground.phase }, { on := 4, ground := Go.Ground.phase }, { on := 5, ground := Go.Ground.phase }, { on := 6, ground := Go.Ground.phase }, { on := 7, ground := Go.Ground.phase }, { on := 8, ground := Go.Ground.phase }], guard := none } : Oper)) (v := ?_) rfl (by kernel_rfl) (by kernel_rfl) (by kernel_rfl) (fun _ _ _ h => h) (Or.inl ⟨by rfl, ?_⟩) (by assumption) ?_
  rotate_left
  · intro W' hSw
    try dsimp only at hSw
    go_simp
    try with_reducible rfl
  try simp only [Act.put, List.setIfInBounds_toArray, List.set_cons_zero, List.set_cons_succ]
  refine wpAnyH_done (by kernel_rfl) ?_ _
  go_wp2_with fail
  have HB2 := Lib.hid hHeld
  have hc5 := (Below.cell hHeld (p := ⟨B, 2 + k, none⟩) HG.out.2.2.2.2).trans HG.out.1
  have hc6 := (Below.cell hHeld (p := ⟨w.heap.size, 0, none⟩) HG.out.2.2.2.1).trans HG.out.2.1
  have hc7 := (Below.cell hHeld (p := ⟨w.heap.size, 1, none⟩) HG.out.2.2.2.1).trans HG.out.2.2.1
  clear hHeld
  have hb2d : Below w1.heap.size w1 (w2.alloc (.cells #[.int .i64 (ti : Int), .int .i64 (ta : Int)] 90)).drew := below_drew (below_alloc HB2.out _)
  have HB3 := Lib.hid hb2d
  have hin := insert_any (t := ⟨ti, ta⟩) (vb := w2.heap.size) (row_below HROW.out hb2d) (Nat.zero_le _) (heap_alloc_new w2 _) (fun e => by have := (HROW.out.lt _ e).2; have := HB2.out.size; omega) HCT.out hN2
  have HIN := Lib.hid hin
  have hpost : ∀ w4, (w2.alloc (.cells #[.int .i64 (ti : Int), .int .i64 (ta : Int)] 90)).drew.grownBy w4 (Value.slice a N c).ownBlock → Only (fun i => (sl k).ownBlock = some i) w1 w4 := fun w4 hg4 =>
    (Only.of_below hb2d).trans (Only.of_grown (F := fun i => (sl k).ownBlock = some i) hg4 (fun i hi => by rw [HSL.out]; exact hi)) (fun i hi => .inl hi)
  have HPOST := Lib.hid hpost
  have HNB : Hid (¬ (sl k).ownBlock = some B) := Lib.hid (fun e => (H1.out.own k hk448 B e).2.1 rfl)
  have hB2 : B < w2.heap.size := Nat.lt_of_lt_of_le HG.out.2.2.2.2 HB2.out.size
  have hc9 := (Below.cell HB3.out (p := ⟨B, 2 + k, none⟩) HG.out.2.2.2.2).trans HG.out.1
  clear hin hpost hb2d
  go_region_with (refine HIN.out.mono ?_; rintro e w4 ⟨v', rfl, hr4, hg4, hb4⟩; obtain ⟨a4, c4, rfl, -, -⟩ := row_any hr4; have HR4 := Lib.hid hr4; have HG4 := Lib.hid (HPOST.out w4 hg4); have HB4 := Lib.hid hb4; clear hr4 hg4 hb4; have hc8 := (HG4.out.cell (p := ⟨B, 2 + k, none⟩) HG.out.2.2.2.2 HNB.out).trans HG.out.1; have hf8 := (HG4.out.frozen (p := ⟨B, 2 + k, none⟩) HG.out.2.2.2.2 HNB.out).trans (H1.out.free (2 + k)); go_wp2)
  all_goals
    go_wp2
    go_end0
    have hslot : slot now (ins ⟨ti, ta⟩ L) k = (slot now L k).take ct ++ ⟨ti, ta⟩ :: (slot now L k).drop ct := by
      rw [slot_ins HF.out.srt, if_pos HK.out, ins_at (t := ⟨ti, ta⟩) (l := slot now L k) (HF.out.filter _).srt (fun x hx => HNOT.out x (List.mem_filter.1 hx).1), HCTE.out]
    have hlen2 : (slot now (ins ⟨ti, ta⟩ L) k).length = N + 1 := by
      rw [slot_ins HF.out.srt, if_pos HK.out, ins_length, HN.out]
    obtain ⟨F', sl', hS, hF', hO⟩ := H1.out.put hk448 (L' := ins ⟨ti, ta⟩ L) HG4.out (by rw [hlen2, hslot]; exact HR4.out) (by
      rcases HB4.out with e | e
      · exact .inl (by rw [HSL.out]; exact e)
      · exact .inr fun g hg => Nat.le_trans HB3.out.size (e g hg)) (fun j hj => by
      rw [slot_ins HF.out.srt, if_neg (by rw [HK.out]; exact Ne.symm hj)])
    refine ⟨rfl, F', ⟨M, sl', hS⟩, fun i hi => ?_, (Only.of_below HB1.out).trans hO fun i hi => .inl hi⟩
    rcases hF' i hi with h | h
    · exact .inl h
    · exact .inr (Nat.le_trans HB1.out.size h)

end Go.Proofs.Ytkcndgiiangmjaa
