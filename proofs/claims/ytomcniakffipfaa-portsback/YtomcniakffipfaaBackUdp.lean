/-
  The walk of PortsBack where a Udp is written.
-/
import Derived.Test.YtomcniakffipfaaBackTcp
namespace Go.Proofs.Ytomcniakffipfaa
open Go.RowKit
set_option linter.unusedVariables false
set_option maxRecDepth 10000

attribute [local go_sem ↓] hd_eq26 flow_eq
set_option maxHeartbeats 4000000 in
theorem back_udp (f t : ByteArray) (p0 l0 : Int) (s0 : ByteArray) (a b l : Int) (s : ByteArray) (w : World) (hf : f.size ≤ 140737488351232) (ht : t.size ≤ 140737488351232) (hs : s.size ≤ 2000) (h : WrOk f t l0 17 a b l 0 s) : Calls Try.prog 4 #[.agg #[.string f, .string t, .int .i64 p0, .int .i64 l0, .string s0], .agg #[.int .i64 17, .int .i64 a, .int .i64 b, .int .i64 l, .int .i64 0], .string s] w fun e w' => e = .returned (.bool true) ∧ Below w.heap.size w w' := by
  have h' := h.turn
  obtain ⟨B, hB⟩ : ∃ B, B = wrBody f t 17 a b l s := ⟨_, rfl⟩
  obtain ⟨B2, hB2⟩ : ∃ B2, B2 = wrBody t f 17 b a l s := ⟨_, rfl⟩
  have hsz : B.size = 8 + s.size := by rw [hB, wrBody_size]; rfl
  have htl : B.extract 8 (8 + s.size) = s := by rw [hB]; exact wr_tail f t 17 a b l 0 s h.1 h.2.1 8 _ rfl rfl
  have HW1 := Lib.hid (fun w => write_yes f t p0 l0 s0 17 a b l 0 s w hf ht (by omega) h)
  have HR1 := Lib.hid (fun w => read_written f t l0 17 a b l 0 s w hf ht hs h)
  have HF1 := Lib.hid (fun w => flow_written f t l0 17 a b l 0 s w hf ht hs h)
  have HW2 := Lib.hid (fun w => write_yes t f p0 l0 s0 17 b a l 0 s w ht hf (by omega) h')
  have HF2 := Lib.hid (fun w => flow_written t f l0 17 b a l 0 s w ht hf hs h')
  rw [← hB] at HW1 HR1 HF1
  rw [← hB2] at HW2 HF2
  rw [show (if (17 : Int) = 6 then (20 : Int) else 8) = 8 from rfl] at HR1
  have d0 : decide (3000 < (s.size : Int)) = false := by simp; omega
  have d1 : decide (3000 < s.size) = false := by simp; omega
  have d2 : decide ((8 : Int) + (s.size : Int) < 8) = false := decide_eq_false (by omega)
  have HX0 := Lib.hid (show Boxed ((w.alloc (.cells #[.string f, .string t, .int .i64 p0, .int .i64 l0, .string s0] 24)).alloc (.cells #[.int .i64 17, .int .i64 a, .int .i64 b, .int .i64 l, .int .i64 0] 26)) w.heap.size f t p0 l0 s0 from (Boxed.new w f t p0 l0 s0).below ((Below.refl (w.heap.size + 1) _).alloc (by simp) _) (by simp))
  have HY0 : Hid (BoxH ((w.alloc (.cells #[.string f, .string t, .int .i64 p0, .int .i64 l0, .string s0] 24)).alloc (.cells #[.int .i64 17, .int .i64 a, .int .i64 b, .int .i64 l, .int .i64 0] 26)) (w.heap.size + 1) 17 a b l 0) := Lib.hid (by simp [BoxH, go_sem])
  have HF0 : Hid (Free ((w.alloc (.cells #[.string f, .string t, .int .i64 p0, .int .i64 l0, .string s0] 24)).alloc (.cells #[.int .i64 17, .int .i64 a, .int .i64 b, .int .i64 l, .int .i64 0] 26)) (w.heap.size + 1)) := Lib.hid (fun o => by simp [go_sem])
  have HE0 : Hid (Free ((w.alloc (.cells #[.string f, .string t, .int .i64 p0, .int .i64 l0, .string s0] 24)).alloc (.cells #[.int .i64 17, .int .i64 a, .int .i64 b, .int .i64 l, .int .i64 0] 26)) w.heap.size) := Lib.hid (fun o => by simp [go_sem])
  clear h h' hB hB2
  go_enter Try.func4, Try.ntmps4
  go_wp2_with fail
  refine (HW1.out _).mono ?_
  rintro e w1 ⟨rfl, hb1'⟩
  have hb1 : Below (w.heap.size + 1 + 1) ((w.alloc (.cells #[.string f, .string t, .int .i64 p0, .int .i64 l0, .string s0] 24)).alloc (.cells #[.int .i64 17, .int .i64 a, .int .i64 b, .int .i64 l, .int .i64 0] 26)) w1 := by simpa using hb1'
  have HB1 := Lib.hid ((((Below.refl w.heap.size _).alloc (Nat.le_refl _) _).alloc (by simp) _).trans (hb1.mono (by omega)))
  have HX1 := Lib.hid (HX0.out.below hb1 (by omega))
  have HY1 := Lib.hid (HY0.out.below hb1 (by omega))
  have HFy1 := Lib.hid (HF0.out.below hb1 (by omega))
  have HFx1 := Lib.hid (HE0.out.below hb1 (by omega))
  have n1 : w.heap.size + 1 < w1.heap.size := World.block_lt_of_cell? _ _ HY1.out.1
  clear hb1 hb1'
  go_wp2_with fail
  refine (HR1.out _).mono ?_
  rintro e w2 ⟨rfl, hb2'⟩
  have hb2 : Below (w1.heap.size + 1) (w1.alloc (.cells #[.string f, .string t, .int .i64 17, .int .i64 l0, .string B] 24)) w2 := by simpa using hb2'
  have hba : Below w1.heap.size w1 w2 := ((Below.refl w1.heap.size _).alloc (Nat.le_refl _) _).trans (hb2.mono (by omega))
  have HB2 := Lib.hid (HB1.out.trans (hba.mono (by omega)))
  have HX2 := Lib.hid (HX1.out.below hba (by omega))
  have HY2 := Lib.hid (HY1.out.below hba (by omega))
  have HFy2 := Lib.hid (HFy1.out.below hba (by omega))
  have HFx2 := Lib.hid (HFx1.out.below hba (by omega))
  have HA2 := Lib.hid ((Boxed.new w1 f t 17 l0 B).below hb2 (by omega))
  obtain ⟨y0, y1, y2, y3, y4⟩ := HY2.out
  have yf : ∀ o, w2.frozen? ⟨w.heap.size + 1, o, none⟩ = false := HFy2.out
  obtain ⟨a0, a1, a2, a3, a4⟩ := HA2.out
  have n2 : w1.heap.size < w2.heap.size := World.block_lt_of_cell? _ _ HA2.out.1
  have n3 : w.heap.size + 1 < w2.heap.size := by omega
  have n4 : w.heap.size + 1 ≠ w1.heap.size := by omega
  clear hb2 hb2' hba
  go_wp2_with fail
  refine (HF1.out _).mono ?_
  rintro e w3 ⟨rfl, hb3'⟩
  have hb3 : Below (w2.heap.size + 1) ((w2.setCell ⟨w.heap.size + 1, 4, none⟩ (.int .i64 8)).alloc (.cells #[.int .i64 17, .int .i64 a, .int .i64 b, .int .i64 l, .int .i64 8] 31)) w3 := by simpa using hb3'
  have hs2 : Below (w.heap.size + 1) w2 (w2.setCell ⟨w.heap.size + 1, 4, none⟩ (.int .i64 8)) := (Below.refl (w.heap.size + 1) w2).setCell (p := ⟨w.heap.size + 1, 4, none⟩) (Nat.le_refl _) _
  have ha2 : Below w2.heap.size (w2.setCell ⟨w.heap.size + 1, 4, none⟩ (.int .i64 8)) w3 := ((Below.refl w2.heap.size _).alloc (by simp) _).trans (hb3.mono (by omega))
  have HB3 := Lib.hid (HB2.out.trans ((hs2.mono (by omega)).trans (ha2.mono (by omega))))
  have HX3 := Lib.hid ((HX2.out.below hs2 (by omega)).below ha2 (by omega))
  have HY3 := Lib.hid ((HY2.out.stored4 8).below ha2 (by omega))
  have HFy3 := Lib.hid ((HFy2.out.set _ _).below ha2 (by omega))
  have HFx3 := Lib.hid ((HFx2.out.set _ _).below ha2 (by omega))
  clear hb3 hb3' hs2 ha2 y0 y1 y2 y3 y4 yf a0 a1 a2 a3 a4 n3 n4 HA2
  obtain ⟨y0, y1, y2, y3, y4⟩ := HY3.out
  obtain ⟨x0, x1, x2, x3, x4⟩ := HX3.out
  have yf : ∀ o, w3.frozen? ⟨w.heap.size + 1, o, none⟩ = false := HFy3.out
  have xf : ∀ o, w3.frozen? ⟨w.heap.size, o, none⟩ = false := HFx3.out
  have n3 : w.heap.size + 1 < w3.heap.size := World.block_lt_of_cell? _ _ y0
  have n4 : w.heap.size < w3.heap.size := by omega
  go_wp2_with fail
  have HZ3 := Lib.hid (show BoxF ((((((w3.setCell ⟨w.heap.size + 1, 4, none⟩ (.int .i64 0)).setCell ⟨w.heap.size + 1, 1, none⟩ (.int .i64 b)).setCell ⟨w.heap.size + 1, 2, none⟩ (.int .i64 a)).setCell ⟨w.heap.size, 0, none⟩ (.string t)).setCell ⟨w.heap.size, 1, none⟩ (.string f)).alloc (.cells #[.int .i64 17, .string f, .string t, .int .i64 a, .int .i64 b] 37)) w3.heap.size f t 17 a b by simpa using BoxF.new (((((w3.setCell ⟨w.heap.size + 1, 4, none⟩ (.int .i64 0)).setCell ⟨w.heap.size + 1, 1, none⟩ (.int .i64 b)).setCell ⟨w.heap.size + 1, 2, none⟩ (.int .i64 a)).setCell ⟨w.heap.size, 0, none⟩ (.string t)).setCell ⟨w.heap.size, 1, none⟩ (.string f)) f t 17 a b)
  have HBc := Lib.hid (show Below w.heap.size w ((((((w3.setCell ⟨w.heap.size + 1, 4, none⟩ (.int .i64 0)).setCell ⟨w.heap.size + 1, 1, none⟩ (.int .i64 b)).setCell ⟨w.heap.size + 1, 2, none⟩ (.int .i64 a)).setCell ⟨w.heap.size, 0, none⟩ (.string t)).setCell ⟨w.heap.size, 1, none⟩ (.string f)).alloc (.cells #[.int .i64 17, .string f, .string t, .int .i64 a, .int .i64 b] 37)) from (HB3.out.trans ((((((Below.refl w.heap.size w3).setCell (p := ⟨w.heap.size + 1, 4, none⟩) (Nat.le_succ _) _).setCell (p := ⟨w.heap.size + 1, 1, none⟩) (Nat.le_succ _) _).setCell (p := ⟨w.heap.size + 1, 2, none⟩) (Nat.le_succ _) _).setCell (p := ⟨w.heap.size, 0, none⟩) (Nat.le_refl _) _).setCell (p := ⟨w.heap.size, 1, none⟩) (Nat.le_refl _) _)).alloc (by simp; omega) _)
  have HZs : Hid (((((((w3.setCell ⟨w.heap.size + 1, 4, none⟩ (.int .i64 0)).setCell ⟨w.heap.size + 1, 1, none⟩ (.int .i64 b)).setCell ⟨w.heap.size + 1, 2, none⟩ (.int .i64 a)).setCell ⟨w.heap.size, 0, none⟩ (.string t)).setCell ⟨w.heap.size, 1, none⟩ (.string f)).alloc (.cells #[.int .i64 17, .string f, .string t, .int .i64 a, .int .i64 b] 37)).heap.size = w3.heap.size + 1) := Lib.hid (by simp)
  refine (HW2.out _).mono ?_
  rintro e w4 ⟨rfl, hb4⟩
  rw [HZs.out] at hb4
  have HZ4 := Lib.hid (HZ3.out.below hb4 (by omega))
  have HB4 := Lib.hid (HBc.out.trans (hb4.mono (by omega)))
  have n5 : w3.heap.size < w4.heap.size := World.block_lt_of_cell? _ _ HZ4.out.1
  clear hb4 HZ3 HBc x0 x1 x2 x3 x4 y0 y1 y2 y3 y4 xf yf
  go_wp2_with fail
  refine (HF2.out _).mono ?_
  rintro e w5 ⟨rfl, hb5'⟩
  have hb5 : Below w4.heap.size w4 w5 := ((Below.refl w4.heap.size _).alloc (Nat.le_refl _) _).trans (hb5'.mono (by simp))
  have n6 : w4.heap.size ≤ w5.heap.size := hb5.size
  have HZ5 := Lib.hid (show BoxF (w5.alloc (.cells #[.int .i64 17, .string t, .string f, .int .i64 b, .int .i64 a] 37)).drew w3.heap.size f t 17 a b from (HZ4.out.below hb5 n5).below (below_drew ((Below.refl w5.heap.size _).alloc (Nat.le_refl _) _)) (by omega))
  have HO5 := Lib.hid (show BoxF (w5.alloc (.cells #[.int .i64 17, .string t, .string f, .int .i64 b, .int .i64 a] 37)).drew w5.heap.size t f 17 b a from BoxF.new w5 t f 17 b a)
  have HB5 := Lib.hid (show Below w.heap.size w (w5.alloc (.cells #[.int .i64 17, .string t, .string f, .int .i64 b, .int .i64 a] 37)).drew from below_drew ((HB4.out.trans (hb5.mono (by omega))).alloc (by omega) _))
  clear hb5 hb5' HZ4 HB4
  go_wp2_with fail
  refine wp_region_held_drew (S := fun W => (W.cell? ⟨w3.heap.size, 0, none⟩ = some (.int .i64 17) ∧ W.cell? ⟨w3.heap.size, 1, none⟩ = some (.string f) ∧ W.cell? ⟨w3.heap.size, 2, none⟩ = some (.string t) ∧ W.cell? ⟨w3.heap.size, 3, none⟩ = some (.int .i64 a) ∧ W.cell? ⟨w3.heap.size, 4, none⟩ = some (.int .i64 b)) ∧ (W.cell? ⟨w5.heap.size, 0, none⟩ = some (.int .i64 17) ∧ W.cell? ⟨w5.heap.size, 1, none⟩ = some (.string t) ∧ W.cell? ⟨w5.heap.size, 2, none⟩ = some (.string f) ∧ W.cell? ⟨w5.heap.size, 3, none⟩ = some (.int .i64 b) ∧ W.cell? ⟨w5.heap.size, 4, none⟩ = some (.int .i64 a))) (by kernel_rfl) ⟨HZ5.out, HO5.out⟩ (fun hHeld => ?_)
  refine wpAnyH_ready (rs := [0]) (by kernel_rfl) (by simp) ?_
  refine AllReadyH.cons (o := ({ dst := some 99, op := Go.Op.call { callee := Go.Callee.value (Go.Operand.func 7), args := #[], argTypes := #[] }, type := 4, pos := _, after := #[], guard := none } : Oper)) rfl (fun K hK => ?_) AllReadyH.nil
  go_simp
  refine (alive_any _).mono ?_
  rintro e w6 ⟨rfl, hb6⟩
  go_wp2_with fail
  refine hK.out _ _ ?_ (fun hHeld => ?_)
  · exact ⟨HZ5.out.below hb6 (by simp; omega), HO5.out.below hb6 (by simp)⟩
  clear hK K
  try simp only [Act.put, List.setIfInBounds_toArray, List.set_cons_zero, List.set_cons_succ]
  have HZ6 := Lib.hid (HZ5.out.below hb6 (by simp; omega))
  have HO6 := Lib.hid (HO5.out.below hb6 (by simp))
  have HB6 := Lib.hid (HB5.out.trans (hb6.mono (by simp; omega)))
  have n7 : w5.heap.size < w6.heap.size := World.block_lt_of_cell? _ _ HO6.out.1
  clear hb6
  refine wpAnyH_take (i := 1) (oi := ({ dst := some 100, op := Go.Op.move (Go.Operand.tmp 99), type := 4, pos := _, after := #[{ on := 0, ground := Go.Ground.data }, { on := 0, ground := Go.Ground.chain }], guard := none } : Oper)) (v := ?_) rfl (by kernel_rfl) (by kernel_rfl) (by kernel_rfl) (fun _ _ _ h => h) (Or.inl ⟨by rfl, ?_⟩) (by assumption) ?_
  rotate_left
  · intro W' hSw
    try dsimp only at hSw
    go_simp
    try with_reducible rfl
  try simp only [Act.put, List.setIfInBounds_toArray, List.set_cons_zero, List.set_cons_succ]
  refine wpAnyH_take (i := 2) (oi := ({ dst := some 101, op := Go.Op.move (Go.Operand.tmp 15), type := 28, pos := _, after := #[{ on := 1, ground := Go.Ground.guard }], guard := some (1, true) } : Oper)) (v := ?_) rfl (by kernel_rfl) (by kernel_rfl) (by kernel_rfl) (fun _ _ _ h => h) (Or.inl ⟨by rfl, ?_⟩) (by assumption) ?_
  rotate_left
  · intro W' hSw
    try dsimp only at hSw
    go_simp
    try with_reducible rfl
  try simp only [Act.put, List.setIfInBounds_toArray, List.set_cons_zero, List.set_cons_succ]
  refine wpAnyH_take (i := 3) (oi := ({ dst := some 102, op := Go.Op.binOp Go.BinOp.eql 28 (Go.Operand.tmp 101) (Go.Operand.const (Go.Value.int Go.IntKind.i64 0)) 28, type := 4, pos := _, after := #[{ on := 2, ground := Go.Ground.data }, { on := 1, ground := Go.Ground.guard }], guard := some (1, true) } : Oper)) (v := ?_) rfl (by kernel_rfl) (by kernel_rfl) (by kernel_rfl) (fun _ _ _ h => h) (Or.inl ⟨by rfl, ?_⟩) (by assumption) ?_
  rotate_left
  · intro W' hSw
    try dsimp only at hSw
    go_simp
    try with_reducible rfl
  try simp only [Act.put, List.setIfInBounds_toArray, List.set_cons_zero, List.set_cons_succ]
  refine wpAnyH_take (i := 4) (oi := ({ dst := some 103, op := Go.Op.pick (Go.Operand.tmp 100) (Go.Operand.tmp 102) (Go.Operand.const (Go.Value.bool false)), type := 4, pos := _, after := #[{ on := 1, ground := Go.Ground.data }, { on := 3, ground := Go.Ground.data }], guard := none } : Oper)) (v := ?_) rfl (by kernel_rfl) (by kernel_rfl) (by kernel_rfl) (fun _ _ _ h => h) (Or.inl ⟨by rfl, ?_⟩) (by assumption) ?_
  rotate_left
  · intro W' hSw
    try dsimp only at hSw
    go_simp
    try with_reducible rfl
  try simp only [Act.put, List.setIfInBounds_toArray, List.set_cons_zero, List.set_cons_succ]
  refine wpAnyH_take (i := 5) (oi := ({ dst := some 104, op := Go.Op.move (Go.Operand.tmp 103), type := 4, pos := _, after := #[{ on := 4, ground := Go.Ground.data }, { on := 1, ground := Go.Ground.chain }], guard := none } : Oper)) (v := ?_) rfl (by kernel_rfl) (by kernel_rfl) (by kernel_rfl) (fun _ _ _ h => h) (Or.inl ⟨by rfl, ?_⟩) (by assumption) ?_
  rotate_left
  · intro W' hSw
    try dsimp only at hSw
    go_simp
    try with_reducible rfl
  try simp only [Act.put, List.setIfInBounds_toArray, List.set_cons_zero, List.set_cons_succ]
  refine wpAnyH_take (i := 6) (oi := ({ dst := some 105, op := Go.Op.move (Go.Operand.tmp 17), type := 28, pos := _, after := #[{ on := 5, ground := Go.Ground.guard }], guard := some (5, true) } : Oper)) (v := ?_) rfl (by kernel_rfl) (by kernel_rfl) (by kernel_rfl) (fun _ _ _ h => h) (Or.inl ⟨by rfl, ?_⟩) (by assumption) ?_
  rotate_left
  · intro W' hSw
    try dsimp only at hSw
    go_simp
    try with_reducible rfl
  try simp only [Act.put, List.setIfInBounds_toArray, List.set_cons_zero, List.set_cons_succ]
  refine wpAnyH_take (i := 7) (oi := ({ dst := some 106, op := Go.Op.binOp Go.BinOp.eql 28 (Go.Operand.tmp 105) (Go.Operand.const (Go.Value.int Go.IntKind.i64 0)) 28, type := 4, pos := _, after := #[{ on := 6, ground := Go.Ground.data }, { on := 5, ground := Go.Ground.guard }], guard := some (5, true) } : Oper)) (v := ?_) rfl (by kernel_rfl) (by kernel_rfl) (by kernel_rfl) (fun _ _ _ h => h) (Or.inl ⟨by rfl, ?_⟩) (by assumption) ?_
  rotate_left
  · intro W' hSw
    try dsimp only at hSw
    go_simp
    try with_reducible rfl
  try simp only [Act.put, List.setIfInBounds_toArray, List.set_cons_zero, List.set_cons_succ]
  refine wpAnyH_take (i := 8) (oi := ({ dst := some 107, op := Go.Op.pick (Go.Operand.tmp 104) (Go.Operand.tmp 106) (Go.Operand.const (Go.Value.bool false)), type := 4, pos := _, after := #[{ on := 5, ground := Go.Ground.data }, { on := 7, ground := Go.Ground.data }], guard := none } : Oper)) (v := ?_) rfl (by kernel_rfl) (by kernel_rfl) (by kernel_rfl) (fun _ _ _ h => h) (Or.inl ⟨by rfl, ?_⟩) (by assumption) ?_
  rotate_left
  · intro W' hSw
    try dsimp only at hSw
    go_simp
    try with_reducible rfl
  try simp only [Act.put, List.setIfInBounds_toArray, List.set_cons_zero, List.set_cons_succ]
  refine wpAnyH_take (i := 9) (oi := ({ dst := some 108, op := Go.Op.move (Go.Operand.tmp 107), type := 4, pos := _, after := #[{ on := 8, ground := Go.Ground.data }, { on := 5, ground := Go.Ground.chain }], guard := none } : Oper)) (v := ?_) rfl (by kernel_rfl) (by kernel_rfl) (by kernel_rfl) (fun _ _ _ h => h) (Or.inl ⟨by rfl, ?_⟩) (by assumption) ?_
  rotate_left
  · intro W' hSw
    try dsimp only at hSw
    go_simp
    try with_reducible rfl
  try simp only [Act.put, List.setIfInBounds_toArray, List.set_cons_zero, List.set_cons_succ]
  refine wpAnyH_take (i := 10) (oi := ({ dst := some 109, op := Go.Op.load 37 (Go.Operand.tmp 16), type := 37, pos := _, after := #[{ on := 9, ground := Go.Ground.guard }], guard := some (9, true) } : Oper)) (v := ?_) rfl (by kernel_rfl) (by kernel_rfl) (by kernel_rfl) (fun _ _ _ h => h) (Or.inl ⟨by rfl, ?_⟩) (by assumption) ?_
  rotate_left
  · intro W' hSw
    try dsimp only at hSw
    go_simp
    try with_reducible rfl
  try simp only [Act.put, List.setIfInBounds_toArray, List.set_cons_zero, List.set_cons_succ]
  refine wpAnyH_take (i := 11) (oi := ({ dst := some 110, op := Go.Op.load 37 (Go.Operand.tmp 12), type := 37, pos := _, after := #[{ on := 9, ground := Go.Ground.guard }], guard := some (9, true) } : Oper)) (v := ?_) rfl (by kernel_rfl) (by kernel_rfl) (by kernel_rfl) (fun _ _ _ h => h) (Or.inl ⟨by rfl, ?_⟩) (by assumption) ?_
  rotate_left
  · intro W' hSw
    try dsimp only at hSw
    go_simp
    try with_reducible rfl
  try simp only [Act.put, List.setIfInBounds_toArray, List.set_cons_zero, List.set_cons_succ]
  refine wpAnyH_ready (rs := [12]) (by kernel_rfl) (by simp) ?_
  refine AllReadyH.cons (o := ({ dst := some 111, op := Go.Op.call { callee := Go.Callee.value (Go.Operand.func 12), args := #[Go.Operand.tmp 110], argTypes := #[37] }, type := 37, pos := _, after := #[{ on := 11, ground := Go.Ground.data }, { on := 9, ground := Go.Ground.chain }, { on := 9, ground := Go.Ground.guard }], guard := some (9, true) } : Oper)) rfl (fun K hK => ?_) AllReadyH.nil
  go_simp
  refine (turn_any f t 17 a b _).mono ?_
  rintro e w7 ⟨rfl, hb7⟩
  go_wp2_with fail
  refine hK.out _ _ ?_ (fun hHeld => ?_)
  · exact ⟨HZ6.out.below hb7 (by omega), HO6.out.below hb7 (by omega)⟩
  clear hK K
  try simp only [Act.put, List.setIfInBounds_toArray, List.set_cons_zero, List.set_cons_succ]
  have HZ7 := Lib.hid (HZ6.out.below hb7 (by omega))
  have HO7 := Lib.hid (HO6.out.below hb7 (by omega))
  have HB7 := Lib.hid (HB6.out.trans (hb7.mono (by omega)))
  have n8 : w5.heap.size < w7.heap.size := World.block_lt_of_cell? _ _ HO7.out.1
  clear hb7
  refine wpAnyH_take (i := 13) (oi := ({ dst := some 112, op := Go.Op.binOp Go.BinOp.eql 37 (Go.Operand.tmp 109) (Go.Operand.tmp 111) 37, type := 4, pos := _, after := #[{ on := 10, ground := Go.Ground.data }, { on := 12, ground := Go.Ground.data }, { on := 9, ground := Go.Ground.guard }], guard := some (9, true) } : Oper)) (v := ?_) rfl (by kernel_rfl) (by kernel_rfl) (by kernel_rfl) (fun _ _ _ h => h) (Or.inl ⟨by rfl, ?_⟩) (by assumption) ?_
  rotate_left
  · intro W' hSw
    try dsimp only at hSw
    go_simp
    try with_reducible rfl
  try simp only [Act.put, List.setIfInBounds_toArray, List.set_cons_zero, List.set_cons_succ]
  refine wpAnyH_take (i := 14) (oi := ({ dst := some 113, op := Go.Op.pick (Go.Operand.tmp 108) (Go.Operand.tmp 112) (Go.Operand.const (Go.Value.bool false)), type := 4, pos := _, after := #[{ on := 9, ground := Go.Ground.data }, { on := 13, ground := Go.Ground.data }], guard := none } : Oper)) (v := ?_) rfl (by kernel_rfl) (by kernel_rfl) (by kernel_rfl) (fun _ _ _ h => h) (Or.inl ⟨by rfl, ?_⟩) (by assumption) ?_
  rotate_left
  · intro W' hSw
    try dsimp only at hSw
    go_simp
    try with_reducible rfl
  try simp only [Act.put, List.setIfInBounds_toArray, List.set_cons_zero, List.set_cons_succ]
  refine wpAnyH_take (i := 15) (oi := ({ dst := some 114, op := Go.Op.move (Go.Operand.tmp 113), type := 4, pos := _, after := #[{ on := 14, ground := Go.Ground.data }, { on := 12, ground := Go.Ground.chain }], guard := none } : Oper)) (v := ?_) rfl (by kernel_rfl) (by kernel_rfl) (by kernel_rfl) (fun _ _ _ h => h) (Or.inl ⟨by rfl, ?_⟩) (by assumption) ?_
  rotate_left
  · intro W' hSw
    try dsimp only at hSw
    go_simp
    try with_reducible rfl
  try simp only [Act.put, List.setIfInBounds_toArray, List.set_cons_zero, List.set_cons_succ]
  refine wpAnyH_take (i := 16) (oi := ({ dst := some 115, op := Go.Op.load 37 (Go.Operand.tmp 16), type := 37, pos := _, after := #[{ on := 15, ground := Go.Ground.guard }], guard := some (15, true) } : Oper)) (v := ?_) rfl (by kernel_rfl) (by kernel_rfl) (by kernel_rfl) (fun _ _ _ h => h) (Or.inl ⟨by rfl, ?_⟩) (by assumption) ?_
  rotate_left
  · intro W' hSw
    try dsimp only at hSw
    go_simp
    try with_reducible rfl
  try simp only [Act.put, List.setIfInBounds_toArray, List.set_cons_zero, List.set_cons_succ]
  refine wpAnyH_take (i := 18) (oi := ({ dst := some 117, op := Go.Op.load 37 (Go.Operand.tmp 12), type := 37, pos := _, after := #[{ on := 15, ground := Go.Ground.guard }], guard := some (15, true) } : Oper)) (v := ?_) rfl (by kernel_rfl) (by kernel_rfl) (by kernel_rfl) (fun _ _ _ h => h) (Or.inl ⟨by rfl, ?_⟩) (by assumption) ?_
  rotate_left
  · intro W' hSw
    try dsimp only at hSw
    go_simp
    try with_reducible rfl
  try simp only [Act.put, List.setIfInBounds_toArray, List.set_cons_zero, List.set_cons_succ]
  refine wpAnyH_ready (rs := [17]) (by kernel_rfl) (by simp) ?_
  refine AllReadyH.cons (o := ({ dst := some 116, op := Go.Op.call { callee := Go.Callee.value (Go.Operand.func 12), args := #[Go.Operand.tmp 115], argTypes := #[37] }, type := 37, pos := _, after := #[{ on := 16, ground := Go.Ground.data }, { on := 15, ground := Go.Ground.chain }, { on := 15, ground := Go.Ground.guard }], guard := some (15, true) } : Oper)) rfl (fun K hK => ?_) AllReadyH.nil
  go_simp
  refine (turn_any t f 17 b a _).mono ?_
  rintro e w8 ⟨rfl, hb8⟩
  go_wp2_with fail
  refine hK.out _ _ ?_ (fun hHeld => ?_)
  · exact ⟨HZ7.out.below hb8 (by omega), HO7.out.below hb8 (by omega)⟩
  clear hK K
  try simp only [Act.put, List.setIfInBounds_toArray, List.set_cons_zero, List.set_cons_succ]
  have HB8 := Lib.hid (HB7.out.trans (hb8.mono (by omega)))
  clear hb8
  refine wpAnyH_take (i := 19) (oi := ({ dst := some 118, op := Go.Op.binOp Go.BinOp.eql 37 (Go.Operand.tmp 116) (Go.Operand.tmp 117) 37, type := 4, pos := _, after := #[{ on := 17, ground := Go.Ground.data }, { on := 18, ground := Go.Ground.data }, { on := 15, ground := Go.Ground.guard }], guard := some (15, true) } : Oper)) (v := ?_) rfl (by kernel_rfl) (by kernel_rfl) (by kernel_rfl) (fun _ _ _ h => h) (Or.inl ⟨by rfl, ?_⟩) (by assumption) ?_
  rotate_left
  · intro W' hSw
    try dsimp only at hSw
    go_simp
    try with_reducible rfl
  try simp only [Act.put, List.setIfInBounds_toArray, List.set_cons_zero, List.set_cons_succ]
  refine wpAnyH_take (i := 20) (oi := ({ dst := some 119, op := Go.Op.pick (Go.Operand.tmp 114) (Go.Operand.tmp 118) (Go.Operand.const (Go.Value.bool false)), type := 4, pos := _, after := #[{ on := 15, ground := Go.Ground.data }, { on := 19, ground := Go.Ground.data }], guard := none } : Oper)) (v := ?_) rfl (by kernel_rfl) (by kernel_rfl) (by kernel_rfl) (fun _ _ _ h => h) (Or.inl ⟨by rfl, ?_⟩) (by assumption) ?_
  rotate_left
  · intro W' hSw
    try dsimp only at hSw
    go_simp
    try with_reducible rfl
  try simp only [Act.put, List.setIfInBounds_toArray, List.set_cons_zero, List.set_cons_succ]
  refine wpAnyH_take (i := 21) (oi := ({ dst := some 6, op := Go.Op.assign (Go.Operand.tmp 119), type := 4, pos := _, after := #[{ on := 20, ground := Go.Ground.data }, { on := 17, ground := Go.Ground.chain }, { on := 0, ground := Go.Ground.phase }, { on := 1, ground := Go.Ground.phase }, { on := 2, ground := Go.Ground.phase }, { on := 3, ground := Go.Ground.phase }, { on := 4, ground := Go.Ground.phase }, { on := 5, ground := Go.Ground.phase }, { on := 6, ground := Go.Ground.phase }, { on := 7, ground := Go.Ground.phase }, { on := 8, ground := Go.Ground.phase }, { on := 9, ground := Go.Ground.phase }, { on := 10, ground := Go.Ground.phase }, { on := 11, ground := Go.Ground.phase }, { on := 12, ground := Go.Ground.phase }, { on := 13, ground := Go.Ground.phase }, { on := 14, ground := Go.Ground.phase }, { on := 15, ground := Go.Ground.phase }, { on := 16, ground := Go.Ground.phase }, { on := 17, ground := Go.Ground.phase }, { on := 18, ground := Go.Ground.phase }, { on := 19, ground := Go.Ground.phase }, { on := 20, ground := Go.Ground.phase }], guard := none } : Oper)) (v := ?_) rfl (by kernel_rfl) (by kernel_rfl) (by kernel_rfl) (fun _ _ _ h => h) (Or.inl ⟨by rfl, ?_⟩) (by assumption) ?_
  rotate_left
  · intro W' hSw
    try dsimp only at hSw
    go_simp
    try with_reducible rfl
  try simp only [Act.put, List.setIfInBounds_toArray, List.set_cons_zero, List.set_cons_succ]
  refine wpAnyH_done (by kernel_rfl) ?_ _
  go_wp2
  go_ret
  exact ⟨rfl, HB8.out⟩


end Go.Proofs.Ytomcniakffipfaa
