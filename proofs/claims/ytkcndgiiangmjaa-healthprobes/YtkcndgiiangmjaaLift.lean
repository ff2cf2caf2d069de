/-
  wheel.lift: a timer goes out of its slot.
-/
import Derived.Test.YtkcndgiiangmjaaPlace
import Derived.Test.YtkcndgiiangmjaaSearch
import Derived.Test.YtkcndgiiangmjaaDel
namespace Go.Proofs.Ytkcndgiiangmjaa
open Go.RowKit
set_option linter.unusedVariables false
set_option linter.unusedSimpArgs false
set_option maxRecDepth 10000

theorem slot_len_le (now : Nat) (L : List Tm) (k : Nat) : (slot now L k).length ≤ L.length := List.length_filter_le _ _

theorem same_of_id : ∀ {L : List Tm}, L.Pairwise (fun a b => a.id ≠ b.id) → ∀ {x y : Tm}, x ∈ L → y ∈ L → x.id = y.id → x = y
  | z :: r, h, x, y, hx, hy, e => by
    rw [List.pairwise_cons] at h
    rcases List.mem_cons.1 hx with h1 | h1
    · rcases List.mem_cons.1 hy with h2 | h2
      · rw [h1, h2]
      · exact absurd (by rw [← h1]; exact e) (h.1 y h2)
    · rcases List.mem_cons.1 hy with h2 | h2
      · exact absurd (by rw [← h2]; exact e.symm) (h.1 x h1)
      · exact same_of_id h.2 h1 h2 e

set_option maxHeartbeats 2000000 in
theorem lift_any {w : World} {F : Nat → Prop} {B now : Nat} {L T : List Tm} {t : Tm} (h : Wh w F B now L T) (hf : Fit L) (hn : now ≤ 1099511627776) (ht : t.at_ ≤ 1099511627776) (hmem : t ∈ L) (hlen : L.length ≤ 1000) :
    Calls Try.prog 40 #[.pointer (some ⟨B, 0, none⟩), tv t] w fun e w' => e = .returned (.tuple #[]) ∧ ∃ F', Wh w' F' B now (wout L t.id) T ∧ (∀ i, F' i → F i ∨ w.heap.size ≤ i) ∧ Only F w w' := by
  have HPL := Lib.hid (fun W (hW : Wh W F B now L T) => place_any hW hn ht)
  obtain ⟨M, sl, h⟩ := h
  obtain ⟨k, hk⟩ : ∃ k, pl now t.at_ = k := ⟨_, rfl⟩
  have hk448 : k < 448 := by rw [← hk]; exact pl_lt _ _
  have hkz : (k : Int) < 448 := by omega
  rw [hk] at HPL
  have H := Lib.hid h
  have HK := Lib.hid hk
  have HF := Lib.hid hf
  have HMEM := Lib.hid hmem
  have HB0 := Lib.hid (h.lt B h.inB)
  obtain ⟨ti, ta⟩ := t
  obtain ⟨w1, hw1⟩ : ∃ W, W = w.alloc (.cells #[.int .i64 (ti : Int), .int .i64 (ta : Int)] 90) := ⟨_, rfl⟩
  have hb1 : Below w.heap.size w w1 := by rw [hw1]; exact below_alloc (Below.refl _ _) _
  have H1 := Lib.hid (h.below hb1)
  have HB1 := Lib.hid hb1
  have hc2 := H1.out.cells.2.2 k hk448
  have hs := slot_len_le now L k
  have hrow := H1.out.row k hk448
  obtain ⟨a, c, e, hnc, hcm⟩ := row_any hrow
  have HSL := Lib.hid e
  rw [e] at hc2 hrow
  have hg0 : w1.cell? ⟨w.heap.size, 0, none⟩ = some (.int .i64 ti) := by rw [hw1]; simp [go_sem]
  have hg1 : w1.cell? ⟨w.heap.size, 1, none⟩ = some (.int .i64 ta) := by rw [hw1]; simp [go_sem]
  have hws : w.heap.size < w1.heap.size := by rw [hw1]; simp
  have hBs : B < w1.heap.size := H1.out.lt B H1.out.inB
  have HG := Lib.hid (And.intro hc2 (And.intro hg0 (And.intro hg1 (And.intro hws hBs))))
  generalize hN : (slot now L k).length = N at *
  have HN := Lib.hid hN
  have hN2 : N ≤ 100000 := by omega
  have HW1 := Lib.hid hw1
  have HROW := Lib.hid hrow
  have HSR := Lib.hid (fun W (hb : Below w1.heap.size w1 W) => search_any (t := ⟨ti, ta⟩) (row_below HROW.out hb) ((HF.out.filter _).srt) hN2)
  have HCT := Lib.hid (cnt_le ⟨ti, ta⟩ (slot now L k))
  rw [HN.out] at HCT
  generalize hct : cnt ⟨ti, ta⟩ (slot now L k) = ct at HSR HCT
  have HCTE := Lib.hid hct
  have hmk : (⟨ti, ta⟩ : Tm) ∈ slot now L k := List.mem_filter.2 ⟨HMEM.out, by simp only; rw [HK.out]; simp⟩
  have hwo := wout_at (HF.out.filter (fun t => pl now t.at_ == k)).srt (HF.out.filter (fun t => pl now t.at_ == k)).nodup hmk
  have HWO : Hid (wout (slot now L k) ti = (slot now L k).take ct ++ (slot now L k).drop (ct + 1)) := Lib.hid (by rw [← hct]; exact hwo.2)
  have HCLT : Hid (ct < N) := Lib.hid (by rw [← hct, ← HN.out]; exact hwo.1)
  have HUN : Hid (∀ x ∈ L, x.id = ti → x = ⟨ti, ta⟩) := Lib.hid (fun x hx e => same_of_id HF.out.nodup hx HMEM.out e)
  clear hmk hwo
  have hPL2 := fun n => place_any (w := w1.drewN n) ⟨M, sl, H1.out.below (below_drewN (Below.refl _ _) _)⟩ hn ht
  simp only at hPL2
  rw [HK.out] at hPL2
  rw [hw1] at hPL2
  have HPL2 := Lib.hid hPL2
  clear h hf hmem hk hb1 e hnc hcm hN hct hw1 hc2 hrow hg0 hg1 hws hBs hPL2 HPL
  simp only [tv]
  go_enter Try.func40, Try.ntmps40
  go_wp2_with fail
  go_quiet (first | (go_at_call_of 41 (Value.pointer (some ⟨B, 0, none⟩)); exact Calls.quiet_of (HPL2.out _)))
  rw [← HW1.out]
  go_wp2_with fail
  refine wp_region_held_drew (S := fun W => Below w1.heap.size w1 W) (by kernel_rfl) (below_drew (below_drewN (Below.refl _ _) _)) (fun hHeld => ?_)
  refine wpAnyH_take (i := 0) (oi := ({ dst := some 16, op := Go.Op.move (Go.Operand.tmp 4), type := 96, pos := _, after := #[], guard := none } : Oper)) (v := ?_) rfl (by kernel_rfl) (by kernel_rfl) (by kernel_rfl) (fun _ _ _ h => h) (Or.inl ⟨by rfl, ?_⟩) (by assumption) ?_
  rotate_left
  · intro W' hSw
    try dsimp only at hSw
    go_simp
    try with_reducible rfl
  try simp only [Act.put, List.setIfInBounds_toArray, List.set_cons_zero, List.set_cons_succ]
  refine wpAnyH_take (i := 1) (oi := ({ dst := some 17, op := Go.Op.nilCheck (Go.Operand.tmp 16), type := 0, pos := _, after := #[{ on := 0, ground := Go.Ground.data }], guard := none } : Oper)) (v := ?_) rfl (by kernel_rfl) (by kernel_rfl) (by kernel_rfl) (fun _ _ _ h => h) (Or.inl ⟨by rfl, ?_⟩) (by assumption) ?_
  rotate_left
  · intro W' hSw
    try dsimp only at hSw
    go_simp
    try with_reducible rfl
  try simp only [Act.put, List.setIfInBounds_toArray, List.set_cons_zero, List.set_cons_succ]
  refine wpAnyH_take (i := 2) (oi := ({ dst := some 18, op := Go.Op.load 83 (Go.Operand.tmp 17), type := 83, pos := _, after := #[{ on := 1, ground := Go.Ground.data }], guard := none } : Oper)) (v := ?_) rfl (by kernel_rfl) (by kernel_rfl) (by kernel_rfl) (fun _ _ _ h => h) (Or.inl ⟨by rfl, ?_⟩) (by assumption) ?_
  rotate_left
  · intro W' hSw
    try dsimp only at hSw
    have f2 := (Below.cell hSw (p := ⟨B, 2 + k, none⟩) HG.out.2.2.2.2).trans HG.out.1
    go_simp
    try with_reducible rfl
  try simp only [Act.put, List.setIfInBounds_toArray, List.set_cons_zero, List.set_cons_succ]
  refine wpAnyH_take (i := 3) (oi := ({ dst := some 19, op := Go.Op.load 90 (Go.Operand.tmp 3), type := 90, pos := _, after := #[], guard := none } : Oper)) (v := ?_) rfl (by kernel_rfl) (by kernel_rfl) (by kernel_rfl) (fun _ _ _ h => h) (Or.inl ⟨by rfl, ?_⟩) (by assumption) ?_
  rotate_left
  · intro W' hSw
    try dsimp only at hSw
    have f3 := (Below.cell hSw (p := ⟨w.heap.size, 0, none⟩) HG.out.2.2.2.1).trans HG.out.2.1
    have f4 := (Below.cell hSw (p := ⟨w.heap.size, 1, none⟩) HG.out.2.2.2.1).trans HG.out.2.2.1
    go_simp
    try with_reducible rfl
  try simp only [Act.put, List.setIfInBounds_toArray, List.set_cons_zero, List.set_cons_succ]
  refine wpAnyH_ready (rs := [4]) (by kernel_rfl) (by simp) ?_
  refine AllReadyH.cons (o := ({ dst := some 20, op := Go.Op.call { callee := Go.Callee.value (Go.Operand.func 42), args := #[Go.Operand.tmp 18, Go.Operand.tmp 19, Go.Operand.func 43], argTypes := #[83, 90, 99] }, type := 95, pos := _, after := #[{ on := 2, ground := Go.Ground.data }, { on := 3, ground := Go.Ground.data }], guard := none } : Oper)) rfl (fun K hK => ?_) AllReadyH.nil
  go_simp
  refine (HSR.out _ hHeld).mono ?_
  rintro e w2 ⟨⟨bb, rfl⟩, hb2⟩
  go_wp2_with fail
  refine hK.out _ _ ?_ (fun hHeld => ?_)
  · exact hHeld.trans (hb2.mono hHeld.size)
  clear hK K
  try simp only [Act.put, List.setIfInBounds_toArray, List.set_cons_zero, List.set_cons_succ]
  refine wpAnyH_take (i := 5) (oi := ({ dst := some 15, op := Go.Op.move (Go.Operand.tmp 20), type := 95, pos := _, after := #[{ on := 4, ground := Go.Ground.data }], guard := none } : Oper)) (v := ?_) rfl (by kernel_rfl) (by kernel_rfl) (by kernel_rfl) (fun _ _ _ h => h) (Or.inl ⟨by rfl, ?_⟩) (by assumption) ?_
  rotate_left
  · intro W' hSw
    try dsimp only at hSw
    go_simp
    try with_reducible rfl
  try simp only [Act.put, List.setIfInBounds_toArray, List.set_cons_zero, List.set_cons_succ]
  refine wpAnyH_take (i := 6) (oi := ({ dst := some 21, op := Go.Op.extract (Go.Operand.tmp 15) 0, type := 3, pos := _, after := #[{ on := 5, ground := Go.Ground.data }], guard := none } : Oper)) (v := ?_) rfl (by kernel_rfl) (by kernel_rfl) (by kernel_rfl) (fun _ _ _ h => h) (Or.inl ⟨by rfl, ?_⟩) (by assumption) ?_
  rotate_left
  · intro W' hSw
    try dsimp only at hSw
    go_simp
    try with_reducible rfl
  try simp only [Act.put, List.setIfInBounds_toArray, List.set_cons_zero, List.set_cons_succ]
  refine wpAnyH_take (i := 7) (oi := ({ dst := some 22, op := Go.Op.extract (Go.Operand.tmp 15) 1, type := 4, pos := _, after := #[{ on := 5, ground := Go.Ground.data }, { on := 8, ground := Go.Ground.gcOnly Go.Departure.lateStores }], guard := none } : Oper)) (v := ?_) rfl (by kernel_rfl) (by kernel_rfl) (by kernel_rfl) (fun _ _ _ h => h) (Or.inl ⟨by rfl, ?_⟩) (by assumption) ?_
  rotate_left
  · intro W' hSw
    try dsimp only at hSw
    go_simp
    try with_reducible rfl
  try simp only [Act.put, List.setIfInBounds_toArray, List.set_cons_zero, List.set_cons_succ]
  refine wpAnyH_take (i := 8) (oi := ({ dst := some 5, op := Go.Op.assign (Go.Operand.tmp 21), type := 3, pos := _, after := #[{ on := 6, ground := Go.Ground.data }, { on := 4, ground := Go.Ground.chain }, { on := 0, ground := Go.Ground.phase }, { on := 1, ground := Go.Ground.phase }, { on := 2, ground := Go.Ground.phase }, { on := 3, ground := Go.Ground.phase }, { on := 4, ground := Go.Ground.phase }, { on := 5, ground := Go.Ground.phase }, { on := 6, ground := Go.Ground.phase }, { on := 7, ground := Go.Ground.textOnly Go.Departure.lateStores }], guard := none } : Oper)) (v := ?_) rfl (by kernel_rfl) (by kernel_rfl) (by kernel_rfl) (fun _ _ _ h => h) (Or.inl ⟨by rfl, ?_⟩) (by assumption) ?_
  rotate_left
  · intro W' hSw
    try dsimp only at hSw
    go_simp
    try with_reducible rfl
  try simp only [Act.put, List.setIfInBounds_toArray, List.set_cons_zero, List.set_cons_succ]
  refine wpAnyH_take (i := 9) (oi := ({ dst := some 6, op := Go.Op.assign (Go.Operand.tmp 22), type := 4, pos := _, after := #[{ on := 7, ground := Go.Ground.data }, { on := 8, ground := Go.Ground.chain }, { on := 0, ground := Go.Ground.phase }, { on := 1, ground := Go.Ground.phase }, { on := 2, ground := Go.Ground.phase }, { on := 3, ground := Go.Ground.phase }, { on := 4, ground := Go.Ground.phase }, { on := 5, ground := Go.Ground.phase }, { on := 6, ground := Go.Ground.phase }, { on := 7, ground := Go.Ground.phase }, { on := 8, ground := Go.Ground.phase }], guard := none } : Oper)) (v := ?_) rfl (by kernel_rfl) (by kernel_rfl) (by kernel_rfl) (fun _ _ _ h => h) (Or.inl ⟨by rfl, ?_⟩) (by assumption) ?_
  rotate_left
  · intro W' hSw
    try dsimp only at hSw
    go_simp
    try with_reducible rfl
  try simp only [Act.put, List.setIfInBounds_toArray, List.set_cons_zero, List.set_cons_succ]
  refine wpAnyH_done (by kernel_rfl) ?_ _
  have HB2 := Lib.hid hHeld
  have hc5 := (Below.cell hHeld (p := ⟨B, 2 + k, none⟩) HG.out.2.2.2.2).trans HG.out.1
  have hc6 := (Below.cell hHeld (p := ⟨w.heap.size, 0, none⟩) HG.out.2.2.2.1).trans HG.out.2.1
  have hc7 := (Below.cell hHeld (p := ⟨w.heap.size, 1, none⟩) HG.out.2.2.2.1).trans HG.out.2.2.1
  clear hHeld
  have hin := delete_any (row_below HROW.out HB2.out) HCLT.out
  have HIN := Lib.hid hin
  have hpost : ∀ w4, w2.grownBy w4 (Value.slice a N c).ownBlock → Only (fun i => (sl k).ownBlock = some i) w1 w4 := fun w4 hg4 =>
    (Only.of_below HB2.out).trans (Only.of_grown (F := fun i => (sl k).ownBlock = some i) hg4 (fun i hi => by rw [HSL.out]; exact hi)) (fun i hi => .inl hi)
  have HPOST := Lib.hid hpost
  have HNB : Hid (¬ (sl k).ownBlock = some B) := Lib.hid (fun e => (H1.out.own k hk448 B e).2.1 rfl)
  have hB2 : B < w2.heap.size := Nat.lt_of_lt_of_le HG.out.2.2.2.2 HB2.out.size
  have hcN : ct ≤ N := Nat.le_of_lt HCLT.out
  clear hin hpost
  go_wp2_with (go_at_call 45; refine HIN.out.mono ?_; rintro e w4 ⟨v', rfl, hr4, hg4, hb4⟩; obtain ⟨a4, c4, rfl, -, -⟩ := row_any hr4; have HR4 := Lib.hid hr4; have HG4 := Lib.hid (HPOST.out w4 hg4); have HB4 := Lib.hid hb4; clear hr4 hg4 hb4; have hc8 := (HG4.out.cell (p := ⟨B, 2 + k, none⟩) HG.out.2.2.2.2 HNB.out).trans HG.out.1; have hf8 := (HG4.out.frozen (p := ⟨B, 2 + k, none⟩) HG.out.2.2.2.2 HNB.out).trans (H1.out.free (2 + k)))
  all_goals
    go_end0
    have hslot : slot now (wout L ti) k = (slot now L k).take ct ++ (slot now L k).drop (ct + 1) := by
      rw [slot_wout]; exact HWO.out
    have hlen2 : (slot now (wout L ti) k).length = N - 1 := by
      have := HR4.out.1
      rw [← hslot, tcells_len] at this
      omega
    obtain ⟨F', sl', hS, hF', hO⟩ := H1.out.put hk448 (L' := wout L ti) HG4.out (by rw [hlen2, hslot]; exact HR4.out) (.inl (by rw [HSL.out]; exact HB4.out)) (fun j hj => by
      rw [slot_wout]
      refine wout_none fun x hx e => ?_
      have hx2 := List.mem_filter.1 hx
      have e2 := HUN.out x hx2.1 e
      rw [e2] at hx2
      have := hx2.2
      rw [beq_iff_eq, HK.out] at this
      exact hj this.symm)
    refine ⟨rfl, F', ⟨M, sl', hS⟩, fun i hi => ?_, (Only.of_below HB1.out).trans hO fun i hi => .inl hi⟩
    rcases hF' i hi with h | h
    · exact .inl h
    · exact .inr (Nat.le_trans HB1.out.size h)

end Go.Proofs.Ytkcndgiiangmjaa
