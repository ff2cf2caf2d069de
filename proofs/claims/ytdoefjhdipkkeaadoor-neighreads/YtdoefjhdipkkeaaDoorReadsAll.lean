/-
  NeighReads: whatever frame it is given, the statement's function returns true, and nothing that was there is changed; the program's two variables hold what its text lays in them. No other conditions.
-/
import Derived.Test.YtdoefjhdipkkeaaDoorRReads3
import Derived.Test.YtdoefjhdipkkeaaDoorLAlive
import Derived.Test.YtdoefjhdipkkeaaDoorLFrame
namespace Go.Proofs.YtdoefjhdipkkeaaDoor
open Go.RowKit
set_option linter.unusedVariables false
set_option maxRecDepth 10000


theorem rnote_same (k : Int) (m0 m1 m2 m3 m4 m5 : Int) (u v : ByteArray) (q : Bool) (w : World) : (Op.equalIn 10000 42 (.agg #[.int .i64 k, .int .u8 m0, .int .u8 m1, .int .u8 m2, .int .u8 m3, .int .u8 m4, .int .u8 m5, .string u, .string v, .bool q]) (.agg #[.int .i64 k, .int .u8 m0, .int .u8 m1, .int .u8 m2, .int .u8 m3, .int .u8 m4, .int .u8 m5, .string u, .string v, .bool q])).run Tryd.prog w = .ok true w := by
  rw [show (10000 : Nat) = 9999 + 1 from rfl, run_equalIn_agg w 9999 42 _ _ (by kernel_rfl) (by kernel_rfl)]
  simp [Program.fieldsOf, Tryd.underlying42, Op.eqFields, part, isAgg, run_underlying Tryd.underlying23, run_underlying Tryd.underlying24, run_underlying Tryd.underlying3, run_underlying Tryd.underlying4, E.mac_eq_at 9997, run_equalIn_int w 9998 3 .i64 .i64 _ _ Tryd.underlying3, run_equalIn_string w 9998 24 _ _ Tryd.underlying24, run_equalIn_bool w 9998 4 _ _ Tryd.underlying4]

/-- What a frame says lies in a block. -/
def BoxN (W : World) (N : Nat) (k : Int) (m0 m1 m2 m3 m4 m5 : Int) (u v : ByteArray) (q : Bool) : Prop := W.cell? ⟨N, 0, none⟩ = some (.int .i64 k) ∧ W.cell? ⟨N, 1, none⟩ = some (.int .u8 m0) ∧ W.cell? ⟨N, 2, none⟩ = some (.int .u8 m1) ∧ W.cell? ⟨N, 3, none⟩ = some (.int .u8 m2) ∧ W.cell? ⟨N, 4, none⟩ = some (.int .u8 m3) ∧ W.cell? ⟨N, 5, none⟩ = some (.int .u8 m4) ∧ W.cell? ⟨N, 6, none⟩ = some (.int .u8 m5) ∧ W.cell? ⟨N, 7, none⟩ = some (.string u) ∧ W.cell? ⟨N, 8, none⟩ = some (.string v) ∧ W.cell? ⟨N, 9, none⟩ = some (.bool q)
theorem BoxN.below {W W' : World} {N B : Nat} {k : Int} {m0 m1 m2 m3 m4 m5 : Int} {u v : ByteArray} {q : Bool} (h : BoxN W N k m0 m1 m2 m3 m4 m5 u v q) (hb : Below B W W') (hN : N < B) : BoxN W' N k m0 m1 m2 m3 m4 m5 u v q := by
  obtain ⟨h0, h1, h2, h3, h4, h5, h6, h7, h8, h9⟩ := h
  exact ⟨(hb.cell hN).trans h0, (hb.cell hN).trans h1, (hb.cell hN).trans h2, (hb.cell hN).trans h3, (hb.cell hN).trans h4, (hb.cell hN).trans h5, (hb.cell hN).trans h6, (hb.cell hN).trans h7, (hb.cell hN).trans h8, (hb.cell hN).trans h9⟩
theorem BoxN.new (w : World) (k : Int) (m0 m1 m2 m3 m4 m5 : Int) (u v : ByteArray) (q : Bool) : BoxN (w.alloc (.cells #[.int .i64 k, .int .u8 m0, .int .u8 m1, .int .u8 m2, .int .u8 m3, .int .u8 m4, .int .u8 m5, .string u, .string v, .bool q] 38)) w.heap.size k m0 m1 m2 m3 m4 m5 u v q := by
  refine ⟨?_, ?_, ?_, ?_, ?_, ?_, ?_, ?_, ?_, ?_⟩ <;> simp [go_sem]
/-- What the reference says lies in a block. -/
theorem BoxN.rnew (w : World) (k : Int) (m0 m1 m2 m3 m4 m5 : Int) (u v : ByteArray) (q : Bool) : BoxN (w.alloc (.cells #[.int .i64 k, .int .u8 m0, .int .u8 m1, .int .u8 m2, .int .u8 m3, .int .u8 m4, .int .u8 m5, .string u, .string v, .bool q] 42)) w.heap.size k m0 m1 m2 m3 m4 m5 u v q := by
  refine ⟨?_, ?_, ?_, ?_, ?_, ?_, ?_, ?_, ?_, ?_⟩ <;> simp [go_sem]
attribute [local go_sem ↓] rnote_same
set_option maxHeartbeats 4000000 in
set_option maxRecDepth 100000 in
theorem reads_go (a0 a1 a2 a3 a4 a5 b0 b1 b2 b3 b4 b5 ty : Int) (s : ByteArray) (w : World) (hG : Glob w) (k : Int) (m0 m1 m2 m3 m4 m5 : Int) (u v : ByteArray) (q : Bool) (r : Int)
    (H1 : ∀ W, Glob W → Calls Tryd.prog 18 #[.agg #[.int .u8 a0, .int .u8 a1, .int .u8 a2, .int .u8 a3, .int .u8 a4, .int .u8 a5, .int .u8 b0, .int .u8 b1, .int .u8 b2, .int .u8 b3, .int .u8 b4, .int .u8 b5, .int .i64 ty, .string s]] W (Told (⟨k, m0, m1, m2, m3, m4, m5, u, v, q⟩, r) W)) (H2 : ∀ W, Calls Tryd.prog 19 #[.agg #[.int .u8 a0, .int .u8 a1, .int .u8 a2, .int .u8 a3, .int .u8 a4, .int .u8 a5, .int .u8 b0, .int .u8 b1, .int .u8 b2, .int .u8 b3, .int .u8 b4, .int .u8 b5, .int .i64 ty, .string s]] W (Told (⟨k, m0, m1, m2, m3, m4, m5, u, v, q⟩, r) W)) :
    Calls Tryd.prog 4 #[.agg #[.int .u8 a0, .int .u8 a1, .int .u8 a2, .int .u8 a3, .int .u8 a4, .int .u8 a5, .int .u8 b0, .int .u8 b1, .int .u8 b2, .int .u8 b3, .int .u8 b4, .int .u8 b5, .int .i64 ty, .string s]] w fun e w' => e = .returned (.bool true) ∧ Below w.heap.size w w' := by
  have HH1 := Lib.hid H1
  have HH2 := Lib.hid H2
  have HG0 := Lib.hid (hG.alloc (.cells #[.int .u8 a0, .int .u8 a1, .int .u8 a2, .int .u8 a3, .int .u8 a4, .int .u8 a5, .int .u8 b0, .int .u8 b1, .int .u8 b2, .int .u8 b3, .int .u8 b4, .int .u8 b5, .int .i64 ty, .string s] 36))
  have HB0 := Lib.hid ((Below.refl w.heap.size w).alloc (Nat.le_refl _) (.cells #[.int .u8 a0, .int .u8 a1, .int .u8 a2, .int .u8 a3, .int .u8 a4, .int .u8 a5, .int .u8 b0, .int .u8 b1, .int .u8 b2, .int .u8 b3, .int .u8 b4, .int .u8 b5, .int .i64 ty, .string s] 36))
  have HF := Lib.hid (show ∀ j x, (#[.int .u8 a0, .int .u8 a1, .int .u8 a2, .int .u8 a3, .int .u8 a4, .int .u8 a5, .int .u8 b0, .int .u8 b1, .int .u8 b2, .int .u8 b3, .int .u8 b4, .int .u8 b5, .int .i64 ty, .string s] : Array Value)[j]? = some x → (w.alloc (.cells #[.int .u8 a0, .int .u8 a1, .int .u8 a2, .int .u8 a3, .int .u8 a4, .int .u8 a5, .int .u8 b0, .int .u8 b1, .int .u8 b2, .int .u8 b3, .int .u8 b4, .int .u8 b5, .int .i64 ty, .string s] 36)).cell? ⟨w.heap.size, j, none⟩ = some x from fun j x h => by rw [← h]; simp [go_sem])
  clear H1 H2 hG
  go_enter Tryd.func4, Tryd.ntmps4
  go_wp2_with fail
  refine (HH1.out _ HG0.out).mono ?_
  rintro e w1 ⟨rfl, hb1⟩
  simp only [Nt.val]
  have HG1 := Lib.hid (HG0.out.below hb1 HG0.out.size)
  have HB1 := Lib.hid (below_then HB0.out HB0.out.size hb1)
  have z1 : w.heap.size + 1 ≤ w1.heap.size := by have := hb1.size; simpa using this
  have y1 : w.heap.size < w1.heap.size := z1
  have x0 := (hb1.cell (p := ⟨w.heap.size, 0, none⟩) (by simp)).trans (HF.out 0 _ rfl)
  have x1 := (hb1.cell (p := ⟨w.heap.size, 1, none⟩) (by simp)).trans (HF.out 1 _ rfl)
  have x2 := (hb1.cell (p := ⟨w.heap.size, 2, none⟩) (by simp)).trans (HF.out 2 _ rfl)
  have x3 := (hb1.cell (p := ⟨w.heap.size, 3, none⟩) (by simp)).trans (HF.out 3 _ rfl)
  have x4 := (hb1.cell (p := ⟨w.heap.size, 4, none⟩) (by simp)).trans (HF.out 4 _ rfl)
  have x5 := (hb1.cell (p := ⟨w.heap.size, 5, none⟩) (by simp)).trans (HF.out 5 _ rfl)
  have x6 := (hb1.cell (p := ⟨w.heap.size, 6, none⟩) (by simp)).trans (HF.out 6 _ rfl)
  have x7 := (hb1.cell (p := ⟨w.heap.size, 7, none⟩) (by simp)).trans (HF.out 7 _ rfl)
  have x8 := (hb1.cell (p := ⟨w.heap.size, 8, none⟩) (by simp)).trans (HF.out 8 _ rfl)
  have x9 := (hb1.cell (p := ⟨w.heap.size, 9, none⟩) (by simp)).trans (HF.out 9 _ rfl)
  have x10 := (hb1.cell (p := ⟨w.heap.size, 10, none⟩) (by simp)).trans (HF.out 10 _ rfl)
  have x11 := (hb1.cell (p := ⟨w.heap.size, 11, none⟩) (by simp)).trans (HF.out 11 _ rfl)
  have x12 := (hb1.cell (p := ⟨w.heap.size, 12, none⟩) (by simp)).trans (HF.out 12 _ rfl)
  have x13 := (hb1.cell (p := ⟨w.heap.size, 13, none⟩) (by simp)).trans (HF.out 13 _ rfl)
  clear hb1
  go_wp2_with fail
  refine (HH2.out _).mono ?_
  rintro e w2 ⟨rfl, hb2⟩
  simp only [Nt.val]
  have HG2 := Lib.hid ((HG1.out.alloc (.cells #[.int .i64 k, .int .u8 m0, .int .u8 m1, .int .u8 m2, .int .u8 m3, .int .u8 m4, .int .u8 m5, .string u, .string v, .bool q] 38)).below hb2 (HG1.out.alloc (.cells #[.int .i64 k, .int .u8 m0, .int .u8 m1, .int .u8 m2, .int .u8 m3, .int .u8 m4, .int .u8 m5, .string u, .string v, .bool q] 38)).size)
  have HB2 := Lib.hid (below_then (below_alloc HB1.out (.cells #[.int .i64 k, .int .u8 m0, .int .u8 m1, .int .u8 m2, .int .u8 m3, .int .u8 m4, .int .u8 m5, .string u, .string v, .bool q] 38)) (below_alloc HB1.out (.cells #[.int .i64 k, .int .u8 m0, .int .u8 m1, .int .u8 m2, .int .u8 m3, .int .u8 m4, .int .u8 m5, .string u, .string v, .bool q] 38)).size hb2)
  have HN1 := Lib.hid ((BoxN.new w1 k m0 m1 m2 m3 m4 m5 u v q).below hb2 (by simp))
  have z2 : w1.heap.size + 1 ≤ w2.heap.size := by have := hb2.size; simpa using this
  clear hb2 x0 x1 x2 x3 x4 x5 x6 x7 x8 x9 x10 x11 x12 x13
  go_wp2_with fail
  refine (alive_any _ (HG2.out.alloc _)).mono ?_
  rintro e w3 ⟨rfl, hb3⟩
  have HB3 := Lib.hid (below_then (below_alloc HB2.out (.cells #[.int .i64 k, .int .u8 m0, .int .u8 m1, .int .u8 m2, .int .u8 m3, .int .u8 m4, .int .u8 m5, .string u, .string v, .bool q] 42)) (below_alloc HB2.out (.cells #[.int .i64 k, .int .u8 m0, .int .u8 m1, .int .u8 m2, .int .u8 m3, .int .u8 m4, .int .u8 m5, .string u, .string v, .bool q] 42)).size hb3)
  obtain ⟨i0, i1, i2, i3, i4, i5, i6, i7, i8, i9⟩ := (HN1.out.below ((Below.refl _ _).alloc (Nat.le_refl _) (.cells #[.int .i64 k, .int .u8 m0, .int .u8 m1, .int .u8 m2, .int .u8 m3, .int .u8 m4, .int .u8 m5, .string u, .string v, .bool q] 42)) z2).below hb3 (by simp; omega)
  obtain ⟨j0, j1, j2, j3, j4, j5, j6, j7, j8, j9⟩ := (BoxN.rnew w2 k m0 m1 m2 m3 m4 m5 u v q).below hb3 (by simp)
  clear hb3
  go_wp2
  go_ret
  exact ⟨rfl, HB3.out⟩
theorem reads_walk (a0 a1 a2 a3 a4 a5 b0 b1 b2 b3 b4 b5 ty : Int) (s : ByteArray) (w : World) (hG : Glob w) (hs : s.size ≤ 140737488351232) : Calls Tryd.prog 4 #[.agg #[.int .u8 a0, .int .u8 a1, .int .u8 a2, .int .u8 a3, .int .u8 a4, .int .u8 a5, .int .u8 b0, .int .u8 b1, .int .u8 b2, .int .u8 b3, .int .u8 b4, .int .u8 b5, .int .i64 ty, .string s]] w fun e w' => e = .returned (.bool true) ∧ Below w.heap.size w w' :=
  reads_go a0 a1 a2 a3 a4 a5 b0 b1 b2 b3 b4 b5 ty s w hG _ _ _ _ _ _ _ _ _ _ _ (fun W hW => read_any a0 a1 a2 a3 a4 a5 b0 b1 b2 b3 b4 b5 ty s W hs hW) (fun W => rread_any a0 a1 a2 a3 a4 a5 b0 b1 b2 b3 b4 b5 ty s W hs)

end Go.Proofs.YtdoefjhdipkkeaaDoor

namespace Go.Proofs.YtdoefjhdipkkeaaDoor
open Go.ChangeShapes Go.WideShapes Go.ChangeAt Go.RowKit
set_option linter.unusedVariables false

set_option maxRecDepth 100000 in
theorem neighReads_lifted (os : Os) (started : os.Started) (H : Type) (enc : TypeId × Value → H) :
    ReturnsInHanded {} Tryd.checked os 4 .any (fun w args => (Rows.neighReadsSpec.pre enc Tryd.prog Tryd.f4 [] false w args ∧ laidMetH Tryd.prog Rows.neighReadsRow.laid w) ∧ sizedMet enc Tryd.prog Tryd.f4 (OpenSpec.ofChange Rows.neighReadsSpec) false w args)
      (Rows.neighReadsSpec.post enc Tryd.prog Tryd.f4 false true false false) := by
  refine returnsInHanded_of_change_and (C := Tryd.checked) (X := fun w _ => laidMetH Tryd.prog Rows.neighReadsRow.laid w) (fun _ _ _ hh h => h.of_heap hh) own started (by kernel_rfl) Tryd.func4
    (ChangeSpec.witness_shaped (enc := enc) (C := Tryd.checked) (os := os) (X := fun w _ => laidMetH Tryd.prog Rows.neighReadsRow.laid w) false (World.doorLaid Tryd.prog 400 os) #[.agg #[.int .u8 0, .int .u8 0, .int .u8 0, .int .u8 0, .int .u8 0, .int .u8 0, .int .u8 0, .int .u8 0, .int .u8 0, .int .u8 0, .int .u8 0, .int .u8 0, .int .i64 0, .string ⟨#[]⟩]] 8 rfl (World.shaped_of_RefB (by kernel_rfl) (by kernel_rfl)) (by kernel_rfl) (by kernel_rfl) (by kernel_rfl) (door_met os _)) ?_
  intro W base args ds gs before hval0 hW hcnd hsz0 hL _
  have hsz : (DataW.weightsEach Tryd.prog (Tryd.f4.params.toList ++ Rows.neighReadsSpec.plain.varTypes Tryd.prog) (ds ++ gs)).all (· ≤ reachBytes) = true := hsz0
  have hG : Glob W := glob_of_laid hL
  have hval : ∀ (j : Nat) t v, Tryd.f4.params[j]? = some t → args[j]? = some v → Value.okWide Tryd.prog W .any base t v := hval0
  have hW' := hW
  obtain ⟨p, q, hA0, hV, rfl, hfz, hnd⟩ := hW
  have hA : DataW.TrodAll enc Tryd.prog W 0 (fun _ => true) true Tryd.f4.params.toList args.toList ds p := hA0
  rw [Tryd.params4] at hA hval hsz
  obtain ⟨v0, vs0, d0, ds0, p0, q0, hargs, rfl, rfl, h0, r0⟩ := trodAll_cons hA
  obtain ⟨rfl, rfl, rfl⟩ := trodAll_nil r0
  obtain rfl : args = #[v0] := by cases args; simp_all
  obtain ⟨rfl, rfl⟩ := trodVars_none hV
  clear hA0 hval0 hL
  have k0 := h0
  have lt0 : ∀ x ∈ p0, x.block < W.heap.size := by obtain ⟨m, hm⟩ := k0; exact DataW.trod_lt m _ _ _ hm
  obtain ⟨x0_0, x0_1, x0_2, x0_3, x0_4, x0_5, x0_6, x0_7, x0_8, x0_9, x0_10, x0_11, t0, s0, f0, g0, rfl, rfl, w0_0, w0_1, w0_2, w0_3, w0_4, w0_5, w0_6, w0_7, w0_8, w0_9, w0_10, w0_11, wt0⟩ := open_frame (hval 0 36 v0 rfl rfl) h0
  have b0 := frame_reach hsz (j := 0) rfl rfl
  refine (reads_walk x0_0 x0_1 x0_2 x0_3 x0_4 x0_5 x0_6 x0_7 x0_8 x0_9 x0_10 x0_11 t0 s0 W hG b0).mono fun e W' ⟨he, bel⟩ => ?_
  subst he
  exact ⟨_, rfl, _, _, _, [], _, [], hW', trodAll_mk1 (shut_bool Tryd.underlying4 _), (trodAll_cons_mk (Below.trod laidOut (by kernel_rfl) (of_decide_eq_true (by kernel_rfl)) k0 bel lt0) trodAll_mk0), rfl, bel.frame _, fun h => by cases h⟩

theorem neighReads_row : Rows.NeighReadsSaid :=
  OpenClaim.holds_of_wide 4 Tryd.f4 rfl rfl rfl rfl rfl rfl rfl ⟨rfl, rfl, rfl, rfl, rfl⟩ rfl rfl rfl rfl rfl (by kernel_rfl) Tryd.func4 (by kernel_rfl)
    (of_decide_eq_true (by kernel_rfl)) (by unfold Func.isWrapper; first | (rw [if_pos (by decide +kernel)]; kernel_rfl) | (rw [if_neg (by decide +kernel)]; exact ⟨rfl, rfl⟩))
    (fun os started H enc _ => neighReads_lifted os started H enc)

/-- The card. -/
theorem neighReads_holds : Rows.NeighReadsCardSaid :=
  Claim7.holds_tied_plain_at .later [] [.data, .data] true _ false
    neighReads_row (fun _ h => by cases h) (by kernel_rfl) (fun _ h => by cases h) neighReads_row_tie rfl ⟨rfl, rfl⟩ (by kernel_rfl) rfl
    (fun f fn hf hfn => by
      obtain rfl : 4 = f := Option.some.inj (Eq.trans (Eq.symm (by kernel_rfl)) hf)
      obtain rfl : fn = Tryd.f4 := (Option.some.inj (Tryd.func4.symm.trans hfn)).symm
      exact ⟨by kernel_rfl, fun j t ht => by
        rw [Tryd.params4] at ht
        have hm : t ∈ [36] := by simpa using Array.mem_of_getElem? ht
        have hall : ([36].all fun u => !Tryd.prog.wantsStandIn u) = true := by kernel_rfl
        exact (show Tryd.prog.wantsStandIn t = false by simpa using List.all_eq_true.1 hall t hm)⟩)
    (by kernel_rfl)
#print axioms neighReads_holds


end Go.Proofs.YtdoefjhdipkkeaaDoor
