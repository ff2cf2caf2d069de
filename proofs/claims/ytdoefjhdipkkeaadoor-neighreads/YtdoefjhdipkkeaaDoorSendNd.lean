/-
  What neigh.sendNd and neigh.sendGroup do.
-/
import Derived.Test.YtdoefjhdipkkeaaDoorLayNd
import Derived.Test.YtdoefjhdipkkeaaDoorEncode
import Derived.Test.YtdoefjhdipkkeaaDoorWire
import Derived.Test.YtdoefjhdipkkeaaDoorEEnc
import Derived.Test.YtdoefjhdipkkeaaDoorSendArp
namespace Go.Proofs.YtdoefjhdipkkeaaDoor
open Go.RowKit
set_option linter.unusedVariables false
set_option maxRecDepth 10000


theorem ndS_size (f t : ByteArray) (f0 f1 fl : Int) (g : ByteArray) (f2 f3 : Int) (m0 m1 m2 m3 m4 m5 : Int) (h3 : g.size = 16) : (strOfNums (ndS f t f0 f1 fl g f2 f3 [m0, m1, m2, m3, m4, m5])).size = 32 := by
  rw [strOfNums_size, ndS, ndB_len, h3]; rfl
theorem nd_okp (f t : ByteArray) (f0 f1 fl : Int) (g : ByteArray) (f2 f3 : Int) (m0 m1 m2 m3 m4 m5 : Int) (h1 : f.size = 16) (h2 : t.size = 16) (h3 : g.size = 16) : Okp f t 58 255 (strOfNums (ndS f t f0 f1 fl g f2 f3 [m0, m1, m2, m3, m4, m5])) := by
  have := ndS_size f t f0 f1 fl g f2 f3 m0 m1 m2 m3 m4 m5 h3
  simp [Okp, alikeB, rightB, byteB, headI, h1, h2, this]
set_option maxHeartbeats 4000000 in
set_option maxRecDepth 100000 in
/-- neigh.sendNd. -/
theorem sendNd_any (a0 a1 a2 a3 a4 a5 : Int) (f0 f1 f2 f3 fl : Int) (f t g : ByteArray) (m0 m1 m2 m3 m4 m5 : Int) (w : World) (ha : Byt [a0, a1, a2, a3, a4, a5]) (hf : Byt [f0, f1, f2, f3]) (hl : 0 ≤ fl ∧ fl ≤ 255) (hm : Byt [m0, m1, m2, m3, m4, m5]) (h1 : f.size = 16) (h2 : t.size = 16) (h3 : g.size = 16) :
    Calls Tryd.prog 34 #[.agg #[.int .u8 a0, .int .u8 a1, .int .u8 a2, .int .u8 a3, .int .u8 a4, .int .u8 a5], .agg #[.int .u8 f0, .int .u8 f1, .int .u8 f2, .int .u8 f3, .int .u8 fl, .string f, .string t, .string g, .int .u8 m0, .int .u8 m1, .int .u8 m2, .int .u8 m3, .int .u8 m4, .int .u8 m5]] w (Sent (E.wire a0 a1 a2 a3 a4 a5 m0 m1 m2 m3 m4 m5 34525 (strOfNums (wire f t 58 255 (strOfNums (ndS f t f0 f1 fl g f2 f3 [m0, m1, m2, m3, m4, m5]))))) w) := by
  have HF := Lib.hid hf
  have HL := Lib.hid hl
  have HM := Lib.hid hm
  have HK := Lib.hid (nd_okp f t f0 f1 fl g f2 f3 m0 m1 m2 m3 m4 m5 h1 h2 h3)
  have HZ := Lib.hid (show 72 = (if f.size = 16 then 40 else 20) + (strOfNums (ndS f t f0 f1 fl g f2 f3 [m0, m1, m2, m3, m4, m5])).size by rw [ndS_size f t f0 f1 fl g f2 f3 m0 m1 m2 m3 m4 m5 h3, if_pos h1])
  have HWL := Lib.hid (show (strOfNums (wire f t 58 255 (strOfNums (ndS f t f0 f1 fl g f2 f3 [m0, m1, m2, m3, m4, m5])))).size ≤ 1500 by rw [strOfNums_size, wire_len HK.out, ← HZ.out]; omega)
  have HE := Lib.hid (fun W => E.encode_yes a0 a1 a2 a3 a4 a5 m0 m1 m2 m3 m4 m5 34525 (strOfNums (wire f t 58 255 (strOfNums (ndS f t f0 f1 fl g f2 f3 [m0, m1, m2, m3, m4, m5])))) W (ha _ (by simp)) (ha _ (by simp)) (ha _ (by simp)) (ha _ (by simp)) (ha _ (by simp)) (ha _ (by simp)) (hm _ (by simp)) (hm _ (by simp)) (hm _ (by simp)) (hm _ (by simp)) (hm _ (by simp)) (hm _ (by simp)) (by omega) (by omega) HWL.out)
  have HA := Lib.hid ((Box6.new w a0 a1 a2 a3 a4 a5).below ((Below.refl _ _).alloc (Nat.le_refl _) (.cells #[.int .u8 f0, .int .u8 f1, .int .u8 f2, .int .u8 f3, .int .u8 fl, .string f, .string t, .string g, .int .u8 m0, .int .u8 m1, .int .u8 m2, .int .u8 m3, .int .u8 m4, .int .u8 m5] 65)) (by simp))
  have HX := Lib.hid (show BoxL ((w.alloc (.cells #[.int .u8 a0, .int .u8 a1, .int .u8 a2, .int .u8 a3, .int .u8 a4, .int .u8 a5] 23)).alloc (.cells #[.int .u8 f0, .int .u8 f1, .int .u8 f2, .int .u8 f3, .int .u8 fl, .string f, .string t, .string g, .int .u8 m0, .int .u8 m1, .int .u8 m2, .int .u8 m3, .int .u8 m4, .int .u8 m5] 65)) (w.heap.size + 1) f0 f1 f2 f3 fl f t g m0 m1 m2 m3 m4 m5 by have h := BoxL.new (w.alloc (.cells #[.int .u8 a0, .int .u8 a1, .int .u8 a2, .int .u8 a3, .int .u8 a4, .int .u8 a5] 23)) f0 f1 f2 f3 fl f t g m0 m1 m2 m3 m4 m5; simpa using h)
  have HB0 := Lib.hid (show Below (w.heap.size + 2) ((w.alloc (.cells #[.int .u8 a0, .int .u8 a1, .int .u8 a2, .int .u8 a3, .int .u8 a4, .int .u8 a5] 23)).alloc (.cells #[.int .u8 f0, .int .u8 f1, .int .u8 f2, .int .u8 f3, .int .u8 fl, .string f, .string t, .string g, .int .u8 m0, .int .u8 m1, .int .u8 m2, .int .u8 m3, .int .u8 m4, .int .u8 m5] 65)) ((w.alloc (.cells #[.int .u8 a0, .int .u8 a1, .int .u8 a2, .int .u8 a3, .int .u8 a4, .int .u8 a5] 23)).alloc (.cells #[.int .u8 f0, .int .u8 f1, .int .u8 f2, .int .u8 f3, .int .u8 fl, .string f, .string t, .string g, .int .u8 m0, .int .u8 m1, .int .u8 m2, .int .u8 m3, .int .u8 m4, .int .u8 m5] 65)).drew from below_drew (Below.refl _ _))
  clear hf hl hm ha
  go_enter Tryd.func34, Tryd.ntmps34
  go_wp2_with fail
  refine wp_region_held_drew (S := fun W => W.cell? ⟨w.heap.size + 1, 0, none⟩ = some (.int .u8 f0) ∧ W.cell? ⟨w.heap.size + 1, 1, none⟩ = some (.int .u8 f1) ∧ W.cell? ⟨w.heap.size + 1, 2, none⟩ = some (.int .u8 f2) ∧ W.cell? ⟨w.heap.size + 1, 3, none⟩ = some (.int .u8 f3) ∧ W.cell? ⟨w.heap.size + 1, 4, none⟩ = some (.int .u8 fl) ∧ W.cell? ⟨w.heap.size + 1, 5, none⟩ = some (.string f) ∧ W.cell? ⟨w.heap.size + 1, 6, none⟩ = some (.string t) ∧ W.cell? ⟨w.heap.size + 1, 7, none⟩ = some (.string g) ∧ W.cell? ⟨w.heap.size + 1, 8, none⟩ = some (.int .u8 m0) ∧ W.cell? ⟨w.heap.size + 1, 9, none⟩ = some (.int .u8 m1) ∧ W.cell? ⟨w.heap.size + 1, 10, none⟩ = some (.int .u8 m2) ∧ W.cell? ⟨w.heap.size + 1, 11, none⟩ = some (.int .u8 m3) ∧ W.cell? ⟨w.heap.size + 1, 12, none⟩ = some (.int .u8 m4) ∧ W.cell? ⟨w.heap.size + 1, 13, none⟩ = some (.int .u8 m5)) (by kernel_rfl) (HX.out.below HB0.out (by omega)) (fun hHeld => ?_)
  refine wpAnyH_take (i := 0) (oi := ({ dst := some 9, op := Go.Op.fieldAddr 65 (Go.Operand.tmp 3) 2, type := 0, pos := _, after := #[], guard := none } : Oper)) (v := ?_) rfl (by kernel_rfl) (by kernel_rfl) (by kernel_rfl) (fun _ _ _ h => h) (Or.inl ⟨by rfl, ?_⟩) (by assumption) ?_
  rotate_left
  · intro W' hSw
    try dsimp only at hSw
    go_simp
    try with_reducible rfl
  try simp only [Act.put, List.setIfInBounds_toArray, List.set_cons_zero, List.set_cons_succ]
  refine wpAnyH_take (i := 1) (oi := ({ dst := some 10, op := Go.Op.load 24 (Go.Operand.tmp 9), type := 24, pos := _, after := #[{ on := 0, ground := Go.Ground.data }], guard := none } : Oper)) (v := ?_) rfl (by kernel_rfl) (by kernel_rfl) (by kernel_rfl) (fun _ _ _ h => h) (Or.inl ⟨by rfl, ?_⟩) (by assumption) ?_
  rotate_left
  · intro W' hSw
    try dsimp only at hSw
    go_simp
    try with_reducible rfl
  try simp only [Act.put, List.setIfInBounds_toArray, List.set_cons_zero, List.set_cons_succ]
  refine wpAnyH_take (i := 2) (oi := ({ dst := some 11, op := Go.Op.fieldAddr 65 (Go.Operand.tmp 3) 3, type := 0, pos := _, after := #[], guard := none } : Oper)) (v := ?_) rfl (by kernel_rfl) (by kernel_rfl) (by kernel_rfl) (fun _ _ _ h => h) (Or.inl ⟨by rfl, ?_⟩) (by assumption) ?_
  rotate_left
  · intro W' hSw
    try dsimp only at hSw
    go_simp
    try with_reducible rfl
  try simp only [Act.put, List.setIfInBounds_toArray, List.set_cons_zero, List.set_cons_succ]
  refine wpAnyH_take (i := 3) (oi := ({ dst := some 12, op := Go.Op.load 24 (Go.Operand.tmp 11), type := 24, pos := _, after := #[{ on := 2, ground := Go.Ground.data }], guard := none } : Oper)) (v := ?_) rfl (by kernel_rfl) (by kernel_rfl) (by kernel_rfl) (fun _ _ _ h => h) (Or.inl ⟨by rfl, ?_⟩) (by assumption) ?_
  rotate_left
  · intro W' hSw
    try dsimp only at hSw
    go_simp
    try with_reducible rfl
  try simp only [Act.put, List.setIfInBounds_toArray, List.set_cons_zero, List.set_cons_succ]
  refine wpAnyH_take (i := 4) (oi := ({ dst := some 13, op := Go.Op.load 65 (Go.Operand.tmp 3), type := 65, pos := _, after := #[], guard := none } : Oper)) (v := ?_) rfl (by kernel_rfl) (by kernel_rfl) (by kernel_rfl) (fun _ _ _ h => h) (Or.inl ⟨by rfl, ?_⟩) (by assumption) ?_
  rotate_left
  · intro W' hSw
    try dsimp only at hSw
    go_simp
    try with_reducible rfl
  try simp only [Act.put, List.setIfInBounds_toArray, List.set_cons_zero, List.set_cons_succ]
  refine wpAnyH_ready (rs := [5]) (by kernel_rfl) (by simp) ?_
  refine AllReadyH.cons (o := ({ dst := some 14, op := Go.Op.call { callee := Go.Callee.value (Go.Operand.func 51), args := #[Go.Operand.tmp 13], argTypes := #[65] }, type := 9, pos := _, after := #[{ on := 4, ground := Go.Ground.data }], guard := none } : Oper)) rfl (fun K hK => ?_) AllReadyH.nil
  go_simp
  refine (layNd_any f0 f1 f2 f3 fl f t g m0 m1 m2 m3 m4 m5 _ HF.out HL.out HM.out h1 h2 h3).mono ?_
  rintro e w3 ⟨rfl, hb3⟩
  have HB3 := Lib.hid (below_then HB0.out (by simp) hb3)
  clear hb3
  go_wp2_with fail
  refine hK.out _ _ ?_ (fun hHeld => ?_)
  · exact HX.out.below HB3.out (by omega)
  clear hK K
  try simp only [Act.put, List.setIfInBounds_toArray, List.set_cons_zero, List.set_cons_succ]
  refine wpAnyH_take (i := 6) (oi := ({ dst := some 15, op := Go.Op.build 72 #[(0, Go.Operand.tmp 10), (1, Go.Operand.tmp 12), (2, Go.Operand.const (Go.Value.int Go.IntKind.i64 58)), (3, Go.Operand.const (Go.Value.int Go.IntKind.i64 255)), (4, Go.Operand.tmp 14)], type := 72, pos := _, after := #[{ on := 1, ground := Go.Ground.data }, { on := 3, ground := Go.Ground.data }, { on := 5, ground := Go.Ground.data }], guard := none } : Oper)) (v := ?_) rfl (by kernel_rfl) (by kernel_rfl) (by kernel_rfl) (fun _ _ _ h => h) (Or.inl ⟨by rfl, ?_⟩) (by assumption) ?_
  rotate_left
  · intro W' hSw
    try dsimp only at hSw
    go_simp
    try with_reducible rfl
  try simp only [Act.put, List.setIfInBounds_toArray, List.set_cons_zero, List.set_cons_succ]
  refine wpAnyH_ready (rs := [7]) (by kernel_rfl) (by simp) ?_
  refine AllReadyH.cons (o := ({ dst := some 16, op := Go.Op.call { callee := Go.Callee.value (Go.Operand.func 50), args := #[Go.Operand.tmp 15], argTypes := #[72] }, type := 28, pos := _, after := #[{ on := 6, ground := Go.Ground.data }, { on := 5, ground := Go.Ground.chain }], guard := none } : Oper)) rfl (fun K hK => ?_) AllReadyH.nil
  go_simp
  refine (encode_yes f t 58 255 (strOfNums (ndS f t f0 f1 fl g f2 f3 [m0, m1, m2, m3, m4, m5])) _ HK.out 72 HZ.out).mono ?_
  rintro e w4 ⟨g4, c4, rfl, ho4, hb4⟩
  have z3 : w.heap.size + 2 ≤ w3.heap.size := by have := HB3.out.size; simpa using this
  have HB4 := Lib.hid (below_then HB3.out z3 hb4.out)
  have HCV := Lib.hid (convert_part (ho4.out.part (wire_byt HK.out)) 9 Tryd.underlying9)
  clear hb4 ho4
  go_wp2_with fail
  refine hK.out _ _ ?_ (fun hHeld => ?_)
  · exact HX.out.below HB4.out (by omega)
  clear hK K
  try simp only [Act.put, List.setIfInBounds_toArray, List.set_cons_zero, List.set_cons_succ]
  refine wpAnyH_take (i := 8) (oi := ({ dst := some 8, op := Go.Op.move (Go.Operand.tmp 16), type := 28, pos := _, after := #[{ on := 7, ground := Go.Ground.data }], guard := none } : Oper)) (v := ?_) rfl (by kernel_rfl) (by kernel_rfl) (by kernel_rfl) (fun _ _ _ h => h) (Or.inl ⟨by rfl, ?_⟩) (by assumption) ?_
  rotate_left
  · intro W' hSw
    try dsimp only at hSw
    go_simp
    try with_reducible rfl
  try simp only [Act.put, List.setIfInBounds_toArray, List.set_cons_zero, List.set_cons_succ]
  refine wpAnyH_take (i := 9) (oi := ({ dst := some 17, op := Go.Op.extract (Go.Operand.tmp 8) 0, type := 26, pos := _, after := #[{ on := 8, ground := Go.Ground.data }], guard := none } : Oper)) (v := ?_) rfl (by kernel_rfl) (by kernel_rfl) (by kernel_rfl) (fun _ _ _ h => h) (Or.inl ⟨by rfl, ?_⟩) (by assumption) ?_
  rotate_left
  · intro W' hSw
    try dsimp only at hSw
    go_simp
    try with_reducible rfl
  try simp only [Act.put, List.setIfInBounds_toArray, List.set_cons_zero, List.set_cons_succ]
  refine wpAnyH_take (i := 10) (oi := ({ dst := some 18, op := Go.Op.extract (Go.Operand.tmp 8) 1, type := 27, pos := _, after := #[{ on := 8, ground := Go.Ground.data }, { on := 11, ground := Go.Ground.gcOnly Go.Departure.lateStores }], guard := none } : Oper)) (v := ?_) rfl (by kernel_rfl) (by kernel_rfl) (by kernel_rfl) (fun _ _ _ h => h) (Or.inl ⟨by rfl, ?_⟩) (by assumption) ?_
  rotate_left
  · intro W' hSw
    try dsimp only at hSw
    go_simp
    try with_reducible rfl
  try simp only [Act.put, List.setIfInBounds_toArray, List.set_cons_zero, List.set_cons_succ]
  refine wpAnyH_take (i := 11) (oi := ({ dst := some 6, op := Go.Op.assign (Go.Operand.tmp 17), type := 26, pos := _, after := #[{ on := 9, ground := Go.Ground.data }, { on := 7, ground := Go.Ground.chain }, { on := 0, ground := Go.Ground.phase }, { on := 1, ground := Go.Ground.phase }, { on := 2, ground := Go.Ground.phase }, { on := 3, ground := Go.Ground.phase }, { on := 4, ground := Go.Ground.phase }, { on := 5, ground := Go.Ground.phase }, { on := 6, ground := Go.Ground.phase }, { on := 7, ground := Go.Ground.phase }, { on := 8, ground := Go.Ground.phase }, { on := 9, ground := Go.Ground.phase }, { on := 10, ground := Go.Ground.textOnly Go.Departure.lateStores }], guard := none } : Oper)) (v := ?_) rfl (by kernel_rfl) (by kernel_rfl) (by kernel_rfl) (fun _ _ _ h => h) (Or.inl ⟨by rfl, ?_⟩) (by assumption) ?_
  rotate_left
  · intro W' hSw
    try dsimp only at hSw
    go_simp
    try with_reducible rfl
  try simp only [Act.put, List.setIfInBounds_toArray, List.set_cons_zero, List.set_cons_succ]
  refine wpAnyH_take (i := 12) (oi := ({ dst := some 7, op := Go.Op.assign (Go.Operand.tmp 18), type := 27, pos := _, after := #[{ on := 10, ground := Go.Ground.data }, { on := 11, ground := Go.Ground.chain }, { on := 0, ground := Go.Ground.phase }, { on := 1, ground := Go.Ground.phase }, { on := 2, ground := Go.Ground.phase }, { on := 3, ground := Go.Ground.phase }, { on := 4, ground := Go.Ground.phase }, { on := 5, ground := Go.Ground.phase }, { on := 6, ground := Go.Ground.phase }, { on := 7, ground := Go.Ground.phase }, { on := 8, ground := Go.Ground.phase }, { on := 9, ground := Go.Ground.phase }, { on := 10, ground := Go.Ground.phase }, { on := 11, ground := Go.Ground.phase }], guard := none } : Oper)) (v := ?_) rfl (by kernel_rfl) (by kernel_rfl) (by kernel_rfl) (fun _ _ _ h => h) (Or.inl ⟨by rfl, ?_⟩) (by assumption) ?_
  rotate_left
  · intro W' hSw
    try dsimp only at hSw
    go_simp
    try with_reducible rfl
  try simp only [Act.put, List.setIfInBounds_toArray, List.set_cons_zero, List.set_cons_succ]
  refine wpAnyH_done (by kernel_rfl) ?_ _

  have z4 : w.heap.size + 2 ≤ w4.heap.size := by have := HB4.out.size; simpa using this
  obtain ⟨x0, x1, x2, x3, x4, x5⟩ := HA.out.below HB4.out (by omega)
  obtain ⟨-, -, -, -, -, -, -, -, y0, y1, y2, y3, y4, y5⟩ := HX.out.below HB4.out (by omega)
  have hcv := HCV.out
  clear HB0 HCV hHeld
  go_wp2_with fail
  refine (HE.out _).mono ?_
  rintro e w5 ⟨rfl, ho5, hb5⟩
  have HB5 := Lib.hid (below_then (((Below.refl _ _).alloc (Nat.le_refl _) _ |>.alloc (by simp) _).trans (HB4.out.mono (by omega))) (by omega) hb5)
  have HO5 := Lib.hid (ho5.out.mono (show w.heap.size ≤ _ by omega))
  clear hb5 ho5
  go_wp2
  go_ret2
  exact ⟨_, _, _, rfl, HO5, HB5⟩

set_option maxHeartbeats 1000000 in
set_option maxRecDepth 100000 in
/-- neigh.sendGroup. -/
theorem sendGroup_any (a0 a1 a2 a3 a4 a5 : Int) (f0 f1 f2 f3 fl : Int) (f t g : ByteArray) (m0 m1 m2 m3 m4 m5 : Int) (w : World) (ha : Byt [a0, a1, a2, a3, a4, a5]) (hf : Byt [f0, f1, f2, f3]) (hl : 0 ≤ fl ∧ fl ≤ 255) (hm : Byt [m0, m1, m2, m3, m4, m5]) (h1 : f.size = 16) (h2 : t.size = 16) (h3 : g.size = 16) (H : ∀ W, Calls Tryd.prog 21 #[.string t] W fun e w' => e = .returned (.tuple #[.agg #[.int .u8 a0, .int .u8 a1, .int .u8 a2, .int .u8 a3, .int .u8 a4, .int .u8 a5], .bool true]) ∧ Below W.heap.size W w') :
    Calls Tryd.prog 27 #[.agg #[.int .u8 f0, .int .u8 f1, .int .u8 f2, .int .u8 f3, .int .u8 fl, .string f, .string t, .string g, .int .u8 m0, .int .u8 m1, .int .u8 m2, .int .u8 m3, .int .u8 m4, .int .u8 m5]] w (Sent (E.wire a0 a1 a2 a3 a4 a5 m0 m1 m2 m3 m4 m5 34525 (strOfNums (wire f t 58 255 (strOfNums (ndS f t f0 f1 fl g f2 f3 [m0, m1, m2, m3, m4, m5]))))) w) := by
  have HH := Lib.hid H
  have HX := Lib.hid (BoxL.new w f0 f1 f2 f3 fl f t g m0 m1 m2 m3 m4 m5)
  clear H
  go_enter Tryd.func27, Tryd.ntmps27
  go_wp2_with fail
  refine (HH.out _).mono ?_
  rintro e w1 ⟨rfl, hb1⟩
  obtain ⟨x0, x1, x2, x3, x4, x5, x6, x7, x8, x9, x10, x11, x12, x13⟩ := HX.out.below hb1 (by simp)
  have z1 : w.heap.size + 1 ≤ w1.heap.size := by have := hb1.size; simpa using this
  have z2 : w.heap.size < w1.heap.size := z1
  have HB1 := Lib.hid (((Below.refl w.heap.size w).alloc (Nat.le_refl _) (.cells #[.int .u8 f0, .int .u8 f1, .int .u8 f2, .int .u8 f3, .int .u8 fl, .string f, .string t, .string g, .int .u8 m0, .int .u8 m1, .int .u8 m2, .int .u8 m3, .int .u8 m4, .int .u8 m5] 65)).trans (hb1.mono (by simp)))
  clear hb1
  go_wp2_with fail
  refine (sendNd_any a0 a1 a2 a3 a4 a5 f0 f1 f2 f3 fl f t g m0 m1 m2 m3 m4 m5 _ ha hf hl hm h1 h2 h3).mono ?_
  rintro e w2 ⟨g2, n2, c2, rfl, ho2, hb2⟩
  have HB2 := Lib.hid (below_then (HB1.out.alloc (by omega) _) (by simp; omega) hb2.out)
  have HO2 := Lib.hid (ho2.out.mono (show w.heap.size ≤ _ by simp; omega))
  clear hb2 ho2
  go_wp2
  go_ret2
  exact ⟨_, _, _, rfl, HO2, HB2⟩

end Go.Proofs.YtdoefjhdipkkeaaDoor
