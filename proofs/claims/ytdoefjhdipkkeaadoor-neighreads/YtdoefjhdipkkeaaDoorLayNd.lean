/-
  What neigh.layNd does.
-/
import Derived.Test.YtdoefjhdipkkeaaDoorNdBase
namespace Go.Proofs.YtdoefjhdipkkeaaDoor
open Go.RowKit
set_option linter.unusedVariables false
set_option maxRecDepth 10000


theorem below_drewN {B : Nat} {a w : World} (h : Below B a w) (n : Nat) : Below B a (w.drewN n) := ⟨h.os, h.tape, h.output, h.size, h.block⟩
theorem put_v {w : World} {gb m : Nat} {ps : List PartV} (h : Parts w gb ps) (hm : ps.length = m) {v : Int} (hs : 65535 - fd (tot (flat ps)) = v) :
    Calls Tryd.prog 65 #[.slice (some ⟨gb, 0, none⟩) m m] w fun e w' => e = .returned (.int .u16 v) ∧ ∃ k, w' = w.drewN k := by subst hs; exact put_at h hm rfl
set_option maxHeartbeats 4000000 in
set_option maxRecDepth 100000 in
/-- neigh.layNd. -/
theorem layNd_any (f0 f1 f2 f3 fl : Int) (f t g : ByteArray) (m0 m1 m2 m3 m4 m5 : Int) (w : World) (hf : Byt [f0, f1, f2, f3]) (hl : 0 ≤ fl ∧ fl ≤ 255) (hm : Byt [m0, m1, m2, m3, m4, m5]) (h1 : f.size = 16) (h2 : t.size = 16) (h3 : g.size = 16) :
    Calls Tryd.prog 51 #[.agg #[.int .u8 f0, .int .u8 f1, .int .u8 f2, .int .u8 f3, .int .u8 fl, .string f, .string t, .string g, .int .u8 m0, .int .u8 m1, .int .u8 m2, .int .u8 m3, .int .u8 m4, .int .u8 m5]] w fun e w' => e = .returned (.string (strOfNums (ndS f t f0 f1 fl g f2 f3 [m0, m1, m2, m3, m4, m5]))) ∧ Below w.heap.size w w' := by
  obtain ⟨v, hv⟩ : ∃ v, ndV f t f0 f1 fl g f2 f3 [m0, m1, m2, m3, m4, m5] = v := ⟨_, rfl⟩
  obtain ⟨b1, b2⟩ := ndV_bd f t f0 f1 fl g f2 f3 [m0, m1, m2, m3, m4, m5]
  rw [show ndS f t f0 f1 fl g f2 f3 [m0, m1, m2, m3, m4, m5] = ndB f0 f1 (v / 256) (v % 256) fl g f2 f3 [m0, m1, m2, m3, m4, m5] by rw [ndS, hv]]
  rw [hv] at b1 b2
  have HVV := Lib.hid hv
  clear hv
  have HX := Lib.hid (BoxL.new w f0 f1 f2 f3 fl f t g m0 m1 m2 m3 m4 m5)
  have HS := Lib.hid (show ∀ W : World, Below (w.heap.size + 1) (w.alloc (.cells #[.int .u8 f0, .int .u8 f1, .int .u8 f2, .int .u8 f3, .int .u8 fl, .string f, .string t, .string g, .int .u8 m0, .int .u8 m1, .int .u8 m2, .int .u8 m3, .int .u8 m4, .int .u8 m5] 65)) W → (W.cell? ⟨w.heap.size, 4, none⟩ = some (.int .u8 fl) ∧ W.cell? ⟨w.heap.size, 7, none⟩ = some (.string g) ∧ (convert 26 9 (.slice (some ⟨w.heap.size, 2, none⟩) 2 2)).run Tryd.prog W = .ok (.string (strOfNums [f2, f3])) W ∧ (convert 26 9 (.slice (some ⟨w.heap.size, 8, none⟩) 6 6)).run Tryd.prog W = .ok (.string (strOfNums [m0, m1, m2, m3, m4, m5])) W) from fun W hb => by
    have hx := HX.out.below hb (Nat.lt_succ_self _)
    exact ⟨hx.2.2.2.2.1, hx.2.2.2.2.2.2.2.1, hx.conv2 hf, hx.conv3 hm⟩)
  have hcv0 := HX.out.conv1 hf
  have HB0 := Lib.hid (show Below (w.heap.size + 1) (w.alloc (.cells #[.int .u8 f0, .int .u8 f1, .int .u8 f2, .int .u8 f3, .int .u8 fl, .string f, .string t, .string g, .int .u8 m0, .int .u8 m1, .int .u8 m2, .int .u8 m3, .int .u8 m4, .int .u8 m5] 65)) (w.alloc (.cells #[.int .u8 f0, .int .u8 f1, .int .u8 f2, .int .u8 f3, .int .u8 fl, .string f, .string t, .string g, .int .u8 m0, .int .u8 m1, .int .u8 m2, .int .u8 m3, .int .u8 m4, .int .u8 m5] 65)).drew from below_drew (Below.refl _ _))
  have HB1 := Lib.hid (show Below (w.heap.size + 1) (w.alloc (.cells #[.int .u8 f0, .int .u8 f1, .int .u8 f2, .int .u8 f3, .int .u8 fl, .string f, .string t, .string g, .int .u8 m0, .int .u8 m1, .int .u8 m2, .int .u8 m3, .int .u8 m4, .int .u8 m5] 65)) ((w.alloc (.cells #[.int .u8 f0, .int .u8 f1, .int .u8 f2, .int .u8 f3, .int .u8 fl, .string f, .string t, .string g, .int .u8 m0, .int .u8 m1, .int .u8 m2, .int .u8 m3, .int .u8 m4, .int .u8 m5] 65)).alloc (.cells #[.int .u8 fl, .int .u8 0, .int .u8 0, .int .u8 0] 5)).drew from below_drew ((Below.refl _ _).alloc (by simp) _))
  have HB2 := Lib.hid (show Below (w.heap.size + 1) (w.alloc (.cells #[.int .u8 f0, .int .u8 f1, .int .u8 f2, .int .u8 f3, .int .u8 fl, .string f, .string t, .string g, .int .u8 m0, .int .u8 m1, .int .u8 m2, .int .u8 m3, .int .u8 m4, .int .u8 m5] 65)) (((w.alloc (.cells #[.int .u8 f0, .int .u8 f1, .int .u8 f2, .int .u8 f3, .int .u8 fl, .string f, .string t, .string g, .int .u8 m0, .int .u8 m1, .int .u8 m2, .int .u8 m3, .int .u8 m4, .int .u8 m5] 65)).alloc (.cells #[.int .u8 fl, .int .u8 0, .int .u8 0, .int .u8 0] 5)).alloc (.cells #[.string (strOfNums [fl, 0, 0, 0]), .string g, .string (strOfNums [f2, f3]), .string (strOfNums [m0, m1, m2, m3, m4, m5])] 9)).drew from below_drew (((Below.refl _ _).alloc (by simp) _).alloc (by simp) _))
  have HP1 := Lib.hid (show Part ((w.alloc (.cells #[.int .u8 f0, .int .u8 f1, .int .u8 f2, .int .u8 f3, .int .u8 fl, .string f, .string t, .string g, .int .u8 m0, .int .u8 m1, .int .u8 m2, .int .u8 m3, .int .u8 m4, .int .u8 m5] 65)).alloc (.cells #[.int .u8 fl, .int .u8 0, .int .u8 0, .int .u8 0] 5)).drew ⟨some ⟨w.heap.size + 1, 0, none⟩, 4, 4, [fl, 0, 0, 0]⟩ from part_at (w := (w.alloc (.cells #[.int .u8 f0, .int .u8 f1, .int .u8 f2, .int .u8 f3, .int .u8 fl, .string f, .string t, .string g, .int .u8 m0, .int .u8 m1, .int .u8 m2, .int .u8 m3, .int .u8 m4, .int .u8 m5] 65))) (t := 5) (zs := [fl, 0, 0, 0]) (Byt.cons hl (byt_of rfl)) (N := w.heap.size + 1) (by simp))
  have HP2 := Lib.hid (show Part (((w.alloc (.cells #[.int .u8 f0, .int .u8 f1, .int .u8 f2, .int .u8 f3, .int .u8 fl, .string f, .string t, .string g, .int .u8 m0, .int .u8 m1, .int .u8 m2, .int .u8 m3, .int .u8 m4, .int .u8 m5] 65)).alloc (.cells #[.int .u8 fl, .int .u8 0, .int .u8 0, .int .u8 0] 5)).alloc (.cells #[.string (strOfNums [fl, 0, 0, 0]), .string g, .string (strOfNums [f2, f3]), .string (strOfNums [m0, m1, m2, m3, m4, m5])] 9)).drew ⟨some ⟨w.heap.size + 1, 0, none⟩, 4, 4, [fl, 0, 0, 0]⟩ from HP1.out.alloc _)
  have b4 : Byt [fl, 0, 0, 0] := Byt.cons hl (byt_of rfl)
  have b22 : Byt [f2, f3] := Byt.cons (hf _ (by simp)) (Byt.cons (hf _ (by simp)) Byt.nil)
  have b0 : Byt [f0, f1] := Byt.cons (hf _ (by simp)) (Byt.cons (hf _ (by simp)) Byt.nil)
  have bR : Byt (ndR fl g f2 f3 [m0, m1, m2, m3, m4, m5]) := ndR_byt hl b22 hm
  have HC := Lib.hid (show cat [(strOfNums [fl, 0, 0, 0]), g, (strOfNums [f2, f3]), (strOfNums [m0, m1, m2, m3, m4, m5])] = (strOfNums (ndR fl g f2 f3 [m0, m1, m2, m3, m4, m5])) by
    unfold cat ndR
    simp only [List.map_cons, List.map_nil, List.flatten_cons, List.flatten_nil, List.append_nil, bts_strOfNums hm, bts_strOfNums b22, bts_strOfNums b4]
    congr 1; simp only [List.append_assoc])
  have HC2 := Lib.hid (show cat [strOfNums [f0, f1], ⟨#[0, 0]⟩, (strOfNums (ndR fl g f2 f3 [m0, m1, m2, m3, m4, m5]))] = strOfNums (ndB f0 f1 0 0 fl g f2 f3 [m0, m1, m2, m3, m4, m5]) by
    unfold cat ndB
    simp only [List.map_cons, List.map_nil, List.flatten_cons, List.flatten_nil, List.append_nil, bts_strOfNums b0, bts_strOfNums bR]
    rfl)
  have HV := Lib.hid (show ∀ v : Int, 0 ≤ v ∧ v ≤ 65535 → cat [strOfNums [f0, f1], strOfNums [v / 256, v % 256], (strOfNums (ndR fl g f2 f3 [m0, m1, m2, m3, m4, m5]))] = strOfNums (ndB f0 f1 (v / 256) (v % 256) fl g f2 f3 [m0, m1, m2, m3, m4, m5]) from fun v hv => by
    unfold cat ndB
    simp only [List.map_cons, List.map_nil, List.flatten_cons, List.flatten_nil, List.append_nil, bts_strOfNums b0, bts_strOfNums bR, bts_strOfNums (show Byt [v / 256, v % 256] from Byt.cons (by omega) (Byt.cons (by omega) Byt.nil))]
    rfl)
  have HBB := Lib.hid (show Byt (ndB f0 f1 0 0 fl g f2 f3 [m0, m1, m2, m3, m4, m5]) from ndB_byt (b0.append (byt_of rfl : Byt [0, 0])) hl b22 hm)
  clear b4 b22 b0 bR hm hl hf
  go_enter Tryd.func51, Tryd.ntmps51
  go_wp2_with fail
  refine wp_region_held_drew (S := fun W => W.cell? ⟨w.heap.size, 4, none⟩ = some (.int .u8 fl) ∧ W.cell? ⟨w.heap.size, 7, none⟩ = some (.string g) ∧ (convert 26 9 (.slice (some ⟨w.heap.size, 2, none⟩) 2 2)).run Tryd.prog W = .ok (.string (strOfNums [f2, f3])) W ∧ (convert 26 9 (.slice (some ⟨w.heap.size, 8, none⟩) 6 6)).run Tryd.prog W = .ok (.string (strOfNums [m0, m1, m2, m3, m4, m5])) W) (by kernel_rfl) (HS.out _ HB0.out) (fun hHeld => ?_)
  refine wpAnyH_take (i := 0) (oi := ({ dst := some 9, op := Go.Op.fieldAddr 65 (Go.Operand.tmp 1) 1, type := 0, pos := _, after := #[], guard := none } : Oper)) (v := ?_) rfl (by kernel_rfl) (by kernel_rfl) (by kernel_rfl) (fun _ _ _ h => h) (Or.inl ⟨by rfl, ?_⟩) (by assumption) ?_
  rotate_left
  · intro W' hSw
    try dsimp only at hSw
    go_simp
    try with_reducible rfl
  try simp only [Act.put, List.setIfInBounds_toArray, List.set_cons_zero, List.set_cons_succ]
  refine wpAnyH_take (i := 1) (oi := ({ dst := some 10, op := Go.Op.load 5 (Go.Operand.tmp 9), type := 5, pos := _, after := #[{ on := 0, ground := Go.Ground.data }], guard := none } : Oper)) (v := ?_) rfl (by kernel_rfl) (by kernel_rfl) (by kernel_rfl) (fun _ _ _ h => h) (Or.inl ⟨by rfl, ?_⟩) (by assumption) ?_
  rotate_left
  · intro W' hSw
    try dsimp only at hSw
    go_simp
    try with_reducible rfl
  try simp only [Act.put, List.setIfInBounds_toArray, List.set_cons_zero, List.set_cons_succ]
  refine wpAnyH_take (i := 4) (oi := ({ dst := some 13, op := Go.Op.fieldAddr 65 (Go.Operand.tmp 1) 4, type := 0, pos := _, after := #[], guard := none } : Oper)) (v := ?_) rfl (by kernel_rfl) (by kernel_rfl) (by kernel_rfl) (fun _ _ _ h => h) (Or.inl ⟨by rfl, ?_⟩) (by assumption) ?_
  rotate_left
  · intro W' hSw
    try dsimp only at hSw
    go_simp
    try with_reducible rfl
  try simp only [Act.put, List.setIfInBounds_toArray, List.set_cons_zero, List.set_cons_succ]
  refine wpAnyH_take (i := 5) (oi := ({ dst := some 14, op := Go.Op.load 24 (Go.Operand.tmp 13), type := 24, pos := _, after := #[{ on := 4, ground := Go.Ground.data }], guard := none } : Oper)) (v := ?_) rfl (by kernel_rfl) (by kernel_rfl) (by kernel_rfl) (fun _ _ _ h => h) (Or.inl ⟨by rfl, ?_⟩) (by assumption) ?_
  rotate_left
  · intro W' hSw
    try dsimp only at hSw
    go_simp
    try with_reducible rfl
  try simp only [Act.put, List.setIfInBounds_toArray, List.set_cons_zero, List.set_cons_succ]
  refine wpAnyH_take (i := 6) (oi := ({ dst := some 15, op := Go.Op.fieldAddr 65 (Go.Operand.tmp 1) 0, type := 0, pos := _, after := #[], guard := none } : Oper)) (v := ?_) rfl (by kernel_rfl) (by kernel_rfl) (by kernel_rfl) (fun _ _ _ h => h) (Or.inl ⟨by rfl, ?_⟩) (by assumption) ?_
  rotate_left
  · intro W' hSw
    try dsimp only at hSw
    go_simp
    try with_reducible rfl
  try simp only [Act.put, List.setIfInBounds_toArray, List.set_cons_zero, List.set_cons_succ]
  refine wpAnyH_take (i := 7) (oi := ({ dst := some 16, op := Go.Op.slice 63 (Go.Operand.tmp 15) (some (Go.Operand.const (Go.Value.int Go.IntKind.i64 2))) none none, type := 26, pos := _, after := #[{ on := 6, ground := Go.Ground.data }], guard := none } : Oper)) (v := ?_) rfl (by kernel_rfl) (by kernel_rfl) (by kernel_rfl) (fun _ _ _ h => h) (Or.inl ⟨by rfl, ?_⟩) (by assumption) ?_
  rotate_left
  · intro W' hSw
    try dsimp only at hSw
    go_simp
    try with_reducible rfl
  try simp only [Act.put, List.setIfInBounds_toArray, List.set_cons_zero, List.set_cons_succ]
  refine wpAnyH_take (i := 8) (oi := ({ dst := some 17, op := Go.Op.convert 26 9 (Go.Operand.tmp 16), type := 9, pos := _, after := #[{ on := 7, ground := Go.Ground.data }], guard := none } : Oper)) (v := ?_) rfl (by kernel_rfl) (by kernel_rfl) (by kernel_rfl) (fun _ _ _ h => h) (Or.inl ⟨by rfl, ?_⟩) (by assumption) ?_
  rotate_left
  · intro W' hSw
    try dsimp only at hSw
    go_simp
    try with_reducible rfl
  try simp only [Act.put, List.setIfInBounds_toArray, List.set_cons_zero, List.set_cons_succ]
  refine wpAnyH_take (i := 9) (oi := ({ dst := some 18, op := Go.Op.fieldAddr 65 (Go.Operand.tmp 1) 5, type := 0, pos := _, after := #[], guard := none } : Oper)) (v := ?_) rfl (by kernel_rfl) (by kernel_rfl) (by kernel_rfl) (fun _ _ _ h => h) (Or.inl ⟨by rfl, ?_⟩) (by assumption) ?_
  rotate_left
  · intro W' hSw
    try dsimp only at hSw
    go_simp
    try with_reducible rfl
  try simp only [Act.put, List.setIfInBounds_toArray, List.set_cons_zero, List.set_cons_succ]
  refine wpAnyH_take (i := 10) (oi := ({ dst := some 19, op := Go.Op.slice 23 (Go.Operand.tmp 18) none none none, type := 26, pos := _, after := #[{ on := 9, ground := Go.Ground.data }], guard := none } : Oper)) (v := ?_) rfl (by kernel_rfl) (by kernel_rfl) (by kernel_rfl) (fun _ _ _ h => h) (Or.inl ⟨by rfl, ?_⟩) (by assumption) ?_
  rotate_left
  · intro W' hSw
    try dsimp only at hSw
    go_simp
    try with_reducible rfl
  try simp only [Act.put, List.setIfInBounds_toArray, List.set_cons_zero, List.set_cons_succ]
  refine wpAnyH_take (i := 11) (oi := ({ dst := some 20, op := Go.Op.convert 26 9 (Go.Operand.tmp 19), type := 9, pos := _, after := #[{ on := 10, ground := Go.Ground.data }], guard := none } : Oper)) (v := ?_) rfl (by kernel_rfl) (by kernel_rfl) (by kernel_rfl) (fun _ _ _ h => h) (Or.inl ⟨by rfl, ?_⟩) (by assumption) ?_
  rotate_left
  · intro W' hSw
    try dsimp only at hSw
    go_simp
    try with_reducible rfl
  try simp only [Act.put, List.setIfInBounds_toArray, List.set_cons_zero, List.set_cons_succ]
  refine wpAnyH_ready (rs := [2]) (by kernel_rfl) (by simp) ?_
  refine AllReadyH.cons (o := ({ dst := some 11, op := Go.Op.buildSlice 26 4 #[(0, Go.Operand.tmp 10), (1, Go.Operand.const (Go.Value.int Go.IntKind.u8 0)), (2, Go.Operand.const (Go.Value.int Go.IntKind.u8 0)), (3, Go.Operand.const (Go.Value.int Go.IntKind.u8 0))], type := 26, pos := _, after := #[{ on := 1, ground := Go.Ground.data }], guard := none } : Oper)) rfl (fun K hK => ?_) AllReadyH.nil
  go_simp
  refine hK.out _ _ ?_ (fun hHeld => ?_)
  · exact HS.out _ HB1.out
  clear hK K
  try simp only [Act.put, List.setIfInBounds_toArray, List.set_cons_zero, List.set_cons_succ]
  refine wpAnyH_more (S' := fun W => (W.cell? ⟨w.heap.size, 4, none⟩ = some (.int .u8 fl) ∧ W.cell? ⟨w.heap.size, 7, none⟩ = some (.string g) ∧ (convert 26 9 (.slice (some ⟨w.heap.size, 2, none⟩) 2 2)).run Tryd.prog W = .ok (.string (strOfNums [f2, f3])) W ∧ (convert 26 9 (.slice (some ⟨w.heap.size, 8, none⟩) 6 6)).run Tryd.prog W = .ok (.string (strOfNums [m0, m1, m2, m3, m4, m5])) W) ∧ (convert 26 9 (.slice (some ⟨w.heap.size + 1, 0, none⟩) 4 4)).run Tryd.prog W = .ok (.string (strOfNums [fl, 0, 0, 0])) W) (fun _ h => h.1) _ _ _ _ ?_
  have hHeld2 := And.intro hHeld (convert_part HP1.out 9 Tryd.underlying9)
  clear hHeld
  refine wpAnyH_take (i := 3) (oi := ({ dst := some 12, op := Go.Op.convert 26 9 (Go.Operand.tmp 11), type := 9, pos := _, after := #[{ on := 2, ground := Go.Ground.data }], guard := none } : Oper)) (v := ?_) rfl (by kernel_rfl) (by kernel_rfl) (by kernel_rfl) (fun _ _ _ h => h) (Or.inl ⟨by rfl, ?_⟩) (by assumption) ?_
  rotate_left
  · intro W' hSw
    try dsimp only at hSw
    go_simp
    try with_reducible rfl
  try simp only [Act.put, List.setIfInBounds_toArray, List.set_cons_zero, List.set_cons_succ]
  refine wpAnyH_ready (rs := [12]) (by kernel_rfl) (by simp) ?_
  refine AllReadyH.cons (o := ({ dst := some 21, op := Go.Op.buildSlice 93 4 #[(0, Go.Operand.tmp 12), (1, Go.Operand.tmp 14), (2, Go.Operand.tmp 17), (3, Go.Operand.tmp 20)], type := 93, pos := _, after := #[{ on := 3, ground := Go.Ground.data }, { on := 5, ground := Go.Ground.data }, { on := 8, ground := Go.Ground.data }, { on := 11, ground := Go.Ground.data }], guard := none } : Oper)) rfl (fun K hK => ?_) AllReadyH.nil
  go_simp
  refine hK.out _ _ ?_ (fun hHeld => ?_)
  · exact ⟨HS.out _ HB2.out, convert_part HP2.out 9 Tryd.underlying9⟩
  clear hK K
  try simp only [Act.put, List.setIfInBounds_toArray, List.set_cons_zero, List.set_cons_succ]
  clear hHeld2
  refine wpAnyH_ready (rs := [13]) (by kernel_rfl) (by simp) ?_
  refine AllReadyH.cons (o := ({ dst := some 22, op := Go.Op.call { callee := Go.Callee.value (Go.Operand.func 45), args := #[Go.Operand.tmp 21], argTypes := #[93] }, type := 9, pos := _, after := #[{ on := 12, ground := Go.Ground.data }], guard := none } : Oper)) rfl (fun K hK => ?_) AllReadyH.nil
  go_simp
  refine (lay_at (xs := [(strOfNums [fl, 0, 0, 0]), g, (strOfNums [f2, f3]), (strOfNums [m0, m1, m2, m3, m4, m5])]) (s := strOfNums (ndR fl g f2 f3 [m0, m1, m2, m3, m4, m5])) ?_ (by simp) (m := 4) rfl (by omega) HC.out (by rw [strOfNums_size, ndR_len]; simp; omega)).mono ?_
  · intro j x hj
    match j, hj with
    | 0, hj | 1, hj | 2, hj | 3, hj => simp at hj; subst hj; simp [go_sem]
    | j + 4, hj => simp at hj
  rintro e w3 ⟨rfl, hb3⟩
  have HB3 := Lib.hid (below_then HB2.out (by simp) hb3)
  have HQ3 := Lib.hid (HP2.out.below hb3)
  clear hb3
  go_wp2_with fail
  refine hK.out _ _ ?_ (fun hHeld => ?_)
  · exact ⟨HS.out _ HB3.out, convert_part HQ3.out 9 Tryd.underlying9⟩
  clear hK K
  try simp only [Act.put, List.setIfInBounds_toArray, List.set_cons_zero, List.set_cons_succ]
  refine wpAnyH_take (i := 14) (oi := ({ dst := some 4, op := Go.Op.assign (Go.Operand.tmp 22), type := 9, pos := _, after := #[{ on := 13, ground := Go.Ground.data }, { on := 13, ground := Go.Ground.chain }, { on := 0, ground := Go.Ground.phase }, { on := 1, ground := Go.Ground.phase }, { on := 2, ground := Go.Ground.phase }, { on := 3, ground := Go.Ground.phase }, { on := 4, ground := Go.Ground.phase }, { on := 5, ground := Go.Ground.phase }, { on := 6, ground := Go.Ground.phase }, { on := 7, ground := Go.Ground.phase }, { on := 8, ground := Go.Ground.phase }, { on := 9, ground := Go.Ground.phase }, { on := 10, ground := Go.Ground.phase }, { on := 11, ground := Go.Ground.phase }, { on := 12, ground := Go.Ground.phase }, { on := 13, ground := Go.Ground.phase }], guard := none } : Oper)) (v := ?_) rfl (by kernel_rfl) (by kernel_rfl) (by kernel_rfl) (fun _ _ _ h => h) (Or.inl ⟨by rfl, ?_⟩) (by assumption) ?_
  rotate_left
  · intro W' hSw
    try dsimp only at hSw
    go_simp
    try with_reducible rfl
  try simp only [Act.put, List.setIfInBounds_toArray, List.set_cons_zero, List.set_cons_succ]
  refine wpAnyH_done (by kernel_rfl) ?_ _

  clear HB0 HB1 HB2 HP1 HP2 HQ3 HS
  have z3 : w.heap.size + 1 ≤ w3.heap.size := by have := HB3.out.size; simpa using this
  have x5 := (HX.out.below HB3.out (Nat.lt_succ_self _)).2.2.2.2.2.1
  have x6 := (HX.out.below HB3.out (Nat.lt_succ_self _)).2.2.2.2.2.2.1
  go_wp2_with fail
  refine (npseudo_any f t w3 h1 h2).mono ?_
  rintro e w4 ⟨g4, c4, rfl, ho4, hb4⟩
  have z4 : w3.heap.size ≤ w4.heap.size := hb4.out.size
  have HB4 := Lib.hid (below_then HB3.out z3 hb4.out)
  go_wp2_with fail
  refine (lay_at (xs := [strOfNums [f0, f1], ⟨#[0, 0]⟩, (strOfNums (ndR fl g f2 f3 [m0, m1, m2, m3, m4, m5]))]) (s := strOfNums (ndB f0 f1 0 0 fl g f2 f3 [m0, m1, m2, m3, m4, m5])) ?_ (by simp) (m := 3) rfl (by omega) HC2.out (by rw [strOfNums_size, ndB_len]; simp; omega)).mono ?_
  · intro j x hj
    match j, hj with
    | 0, hj | 1, hj | 2, hj => simp at hj; subst hj; simp [go_sem]
    | j + 3, hj => simp at hj
  rintro e w5 ⟨rfl, hb5⟩
  have HB5 := Lib.hid (below_then (HB4.out.alloc (by omega) _) (by simp; omega) hb5)
  have z5 : w.heap.size + 1 ≤ w5.heap.size := by have := HB5.out.size; simpa using this
  obtain ⟨c6, w6, hr6, ho6, hb6, hz6, -⟩ := conv_bytes w5 w5.heap.size (strOfNums (ndB f0 f1 0 0 fl g f2 f3 [m0, m1, m2, m3, m4, m5])) 9 Tryd.underlying9 (Nat.le_refl _) (by rw [strOfNums_size, ndB_len]; simp; omega) w5.heap.size rfl 32 (by rw [strOfNums_size, ndB_len]; simp; omega)
  rw [bts_strOfNums HBB.out] at ho6
  have HP4 := Lib.hid ((((ho4.out.part (pseu_byt f t 58 32)).alloc (.cells #[.string (strOfNums [f0, f1]), .string ⟨#[0, 0]⟩, .string (strOfNums (ndR fl g f2 f3 [m0, m1, m2, m3, m4, m5]))] 9)).below hb5).below hb6)
  have HP6 := Lib.hid (ho6.part HBB.out)
  have HB6 := Lib.hid (below_then HB5.out z5 hb6)
  have z6 : w.heap.size + 1 ≤ w6.heap.size := by omega
  clear hz6 ho6 hb6 hb5 ho4 hb4
  go_wp2_with fail
  refine (put_v (ps := [⟨some ⟨g4, 0, none⟩, 40, c4, pseu f t 58 32⟩, ⟨some ⟨w5.heap.size, 0, none⟩, 32, c6, (ndB f0 f1 0 0 fl g f2 f3 [m0, m1, m2, m3, m4, m5])⟩]) (Parts.two (by simp [go_sem, PartV.val]) (by simp [go_sem, PartV.val]) (HP4.out.alloc _) (HP6.out.alloc _) (by simp) (by simp)) (m := 2) rfl (v := v) (by rw [← HVV.out]; simp [flat, ndV])).mono ?_
  rintro e w7 ⟨rfl, k7, rfl⟩
  have hcv7 : (convert 26 9 (.slice (some ⟨w6.heap.size + 1, 0, none⟩) 2 2)).run Tryd.prog (((w6.alloc (.cells #[.slice (some ⟨g4, 0, none⟩) 40 c4, .slice (some ⟨w5.heap.size, 0, none⟩) 32 c6] 26)).drewN k7).alloc (.cells #[.int .u8 (v / 256), .int .u8 (v % 256)] 5)) = .ok (.string (strOfNums [v / 256, v % 256])) (((w6.alloc (.cells #[.slice (some ⟨g4, 0, none⟩) 40 c4, .slice (some ⟨w5.heap.size, 0, none⟩) 32 c6] 26)).drewN k7).alloc (.cells #[.int .u8 (v / 256), .int .u8 (v % 256)] 5)) :=
    convert_part (part_at (w := (w6.alloc (.cells #[.slice (some ⟨g4, 0, none⟩) 40 c4, .slice (some ⟨w5.heap.size, 0, none⟩) 32 c6] 26)).drewN k7) (t := 5) (zs := [v / 256, v % 256]) (Byt.cons (by omega) (Byt.cons (by omega) Byt.nil)) (N := w6.heap.size + 1) (by simp)) 9 Tryd.underlying9
  go_wp2_with fail
  refine (lay_at (xs := [strOfNums [f0, f1], strOfNums [v / 256, v % 256], (strOfNums (ndR fl g f2 f3 [m0, m1, m2, m3, m4, m5]))]) (s := strOfNums (ndB f0 f1 (v / 256) (v % 256) fl g f2 f3 [m0, m1, m2, m3, m4, m5])) ?_ (by simp) (m := 3) rfl (by omega) (HV.out v ⟨b1, b2⟩) (by rw [strOfNums_size, ndB_len]; simp; omega)).mono ?_
  · intro j x hj
    match j, hj with
    | 0, hj | 1, hj | 2, hj => simp at hj; subst hj; simp [go_sem]
    | j + 3, hj => simp at hj
  rintro e w8 ⟨rfl, hb8⟩
  have HB8 := Lib.hid (((Below.refl w.heap.size w).alloc (Nat.le_refl _) (.cells #[.int .u8 f0, .int .u8 f1, .int .u8 f2, .int .u8 f3, .int .u8 fl, .string f, .string t, .string g, .int .u8 m0, .int .u8 m1, .int .u8 m2, .int .u8 m3, .int .u8 m4, .int .u8 m5] 65)).trans ((below_then (((below_drewN (HB6.out.alloc (by omega) _) k7).alloc (by simp; omega) _).alloc (by simp; omega) _) (by simp; omega) hb8).mono (by omega)))
  clear hb8
  go_wp2
  go_ret
  exact ⟨rfl, HB8.out⟩

end Go.Proofs.YtdoefjhdipkkeaaDoor
