/-
  What neigh.sendArp does.
-/
import Derived.Test.YtdoefjhdipkkeaaDoorSmall
import Derived.Test.YtdoefjhdipkkeaaDoorEEnc
namespace Go.Proofs.YtdoefjhdipkkeaaDoor
open Go.RowKit
set_option linter.unusedVariables false
set_option maxRecDepth 10000


/-- The bytes of an ARP. -/
def arpB (k : Int) (m : List Int) (s : ByteArray) (o : List Int) (t : ByteArray) : List Int := [0, 1, 8, 0, 6, 4, 0, k] ++ m ++ bts s ++ o ++ bts t
theorem arpB_len (k : Int) (m : List Int) (s : ByteArray) (o : List Int) (t : ByteArray) : (arpB k m s o t).length = 8 + m.length + s.size + o.length + t.size := by simp [arpB, bts_len]; omega
theorem arpB_byt {k : Int} {m : List Int} {s : ByteArray} {o : List Int} {t : ByteArray} (hk : 0 ≤ k ∧ k ≤ 255) (hm : Byt m) (ho : Byt o) : Byt (arpB k m s o t) := (((byt8 hk).append hm).append (bts_byt s)).append ho |>.append (bts_byt t)
/-- A frame's bytes lie in a slice of the call's own. -/
def Sent (bs : List Int) (w : World) (e : Ending) (w' : World) : Prop := ∃ g n c, e = .returned (.tuple #[.slice (some ⟨g, 0, none⟩) n c, .int .i64 0]) ∧ Hid (Own w' w.heap.size g n c bs) ∧ Hid (Below w.heap.size w w')

set_option maxHeartbeats 4000000 in
set_option maxRecDepth 100000 in
/-- neigh.sendArp. -/
theorem sendArp_any (a0 a1 a2 a3 a4 a5 : Int) (k : Int) (m0 m1 m2 m3 m4 m5 : Int) (s : ByteArray) (o0 o1 o2 o3 o4 o5 : Int) (t : ByteArray) (w : World) (ha : Byt [a0, a1, a2, a3, a4, a5]) (hk : 0 ≤ k ∧ k ≤ 255) (hm : Byt [m0, m1, m2, m3, m4, m5]) (ho : Byt [o0, o1, o2, o3, o4, o5]) (hs : s.size ≤ 16) (ht : t.size ≤ 16) :
    Calls Tryd.prog 25 #[.agg #[.int .u8 a0, .int .u8 a1, .int .u8 a2, .int .u8 a3, .int .u8 a4, .int .u8 a5], .int .u8 k, .agg #[.int .u8 m0, .int .u8 m1, .int .u8 m2, .int .u8 m3, .int .u8 m4, .int .u8 m5], .string s, .agg #[.int .u8 o0, .int .u8 o1, .int .u8 o2, .int .u8 o3, .int .u8 o4, .int .u8 o5], .string t] w (Sent (E.wire a0 a1 a2 a3 a4 a5 m0 m1 m2 m3 m4 m5 2054 (strOfNums (arpB k [m0, m1, m2, m3, m4, m5] s [o0, o1, o2, o3, o4, o5] t))) w) := by
  have HM := Lib.hid hm
  have HO := Lib.hid ho
  have HXa := Lib.hid (((Box6.new w a0 a1 a2 a3 a4 a5).below ((Below.refl _ _).alloc (Nat.le_refl _) (.cells #[.int .u8 m0, .int .u8 m1, .int .u8 m2, .int .u8 m3, .int .u8 m4, .int .u8 m5] 23)) (by simp)).below ((Below.refl _ _).alloc (Nat.le_refl _) (.cells #[.int .u8 o0, .int .u8 o1, .int .u8 o2, .int .u8 o3, .int .u8 o4, .int .u8 o5] 23)) (by simp; omega))
  have HXm := Lib.hid (show Box6 (((w.alloc (.cells #[.int .u8 a0, .int .u8 a1, .int .u8 a2, .int .u8 a3, .int .u8 a4, .int .u8 a5] 23)).alloc (.cells #[.int .u8 m0, .int .u8 m1, .int .u8 m2, .int .u8 m3, .int .u8 m4, .int .u8 m5] 23)).alloc (.cells #[.int .u8 o0, .int .u8 o1, .int .u8 o2, .int .u8 o3, .int .u8 o4, .int .u8 o5] 23)) (w.heap.size + 1) m0 m1 m2 m3 m4 m5 by have h := (Box6.new (w.alloc (.cells #[.int .u8 a0, .int .u8 a1, .int .u8 a2, .int .u8 a3, .int .u8 a4, .int .u8 a5] 23)) m0 m1 m2 m3 m4 m5).below ((Below.refl _ _).alloc (Nat.le_refl _) (.cells #[.int .u8 o0, .int .u8 o1, .int .u8 o2, .int .u8 o3, .int .u8 o4, .int .u8 o5] 23)) (by simp); simpa using h)
  have HXo := Lib.hid (show Box6 (((w.alloc (.cells #[.int .u8 a0, .int .u8 a1, .int .u8 a2, .int .u8 a3, .int .u8 a4, .int .u8 a5] 23)).alloc (.cells #[.int .u8 m0, .int .u8 m1, .int .u8 m2, .int .u8 m3, .int .u8 m4, .int .u8 m5] 23)).alloc (.cells #[.int .u8 o0, .int .u8 o1, .int .u8 o2, .int .u8 o3, .int .u8 o4, .int .u8 o5] 23)) (w.heap.size + 2) o0 o1 o2 o3 o4 o5 by have h := Box6.new ((w.alloc (.cells #[.int .u8 a0, .int .u8 a1, .int .u8 a2, .int .u8 a3, .int .u8 a4, .int .u8 a5] 23)).alloc (.cells #[.int .u8 m0, .int .u8 m1, .int .u8 m2, .int .u8 m3, .int .u8 m4, .int .u8 m5] 23)) o0 o1 o2 o3 o4 o5; simpa using h)
  have HB0 := Lib.hid (show Below (w.heap.size + 3) (((w.alloc (.cells #[.int .u8 a0, .int .u8 a1, .int .u8 a2, .int .u8 a3, .int .u8 a4, .int .u8 a5] 23)).alloc (.cells #[.int .u8 m0, .int .u8 m1, .int .u8 m2, .int .u8 m3, .int .u8 m4, .int .u8 m5] 23)).alloc (.cells #[.int .u8 o0, .int .u8 o1, .int .u8 o2, .int .u8 o3, .int .u8 o4, .int .u8 o5] 23)) (((w.alloc (.cells #[.int .u8 a0, .int .u8 a1, .int .u8 a2, .int .u8 a3, .int .u8 a4, .int .u8 a5] 23)).alloc (.cells #[.int .u8 m0, .int .u8 m1, .int .u8 m2, .int .u8 m3, .int .u8 m4, .int .u8 m5] 23)).alloc (.cells #[.int .u8 o0, .int .u8 o1, .int .u8 o2, .int .u8 o3, .int .u8 o4, .int .u8 o5] 23)).drew from below_drew (Below.refl _ _))
  have HB1 := Lib.hid (show Below (w.heap.size + 3) (((w.alloc (.cells #[.int .u8 a0, .int .u8 a1, .int .u8 a2, .int .u8 a3, .int .u8 a4, .int .u8 a5] 23)).alloc (.cells #[.int .u8 m0, .int .u8 m1, .int .u8 m2, .int .u8 m3, .int .u8 m4, .int .u8 m5] 23)).alloc (.cells #[.int .u8 o0, .int .u8 o1, .int .u8 o2, .int .u8 o3, .int .u8 o4, .int .u8 o5] 23)) ((((w.alloc (.cells #[.int .u8 a0, .int .u8 a1, .int .u8 a2, .int .u8 a3, .int .u8 a4, .int .u8 a5] 23)).alloc (.cells #[.int .u8 m0, .int .u8 m1, .int .u8 m2, .int .u8 m3, .int .u8 m4, .int .u8 m5] 23)).alloc (.cells #[.int .u8 o0, .int .u8 o1, .int .u8 o2, .int .u8 o3, .int .u8 o4, .int .u8 o5] 23)).alloc (.cells #[.int .u8 k] 5)).drew from below_drew ((Below.refl _ _).alloc (by simp) _))
  have HB2 := Lib.hid (show Below (w.heap.size + 3) (((w.alloc (.cells #[.int .u8 a0, .int .u8 a1, .int .u8 a2, .int .u8 a3, .int .u8 a4, .int .u8 a5] 23)).alloc (.cells #[.int .u8 m0, .int .u8 m1, .int .u8 m2, .int .u8 m3, .int .u8 m4, .int .u8 m5] 23)).alloc (.cells #[.int .u8 o0, .int .u8 o1, .int .u8 o2, .int .u8 o3, .int .u8 o4, .int .u8 o5] 23)) (((((w.alloc (.cells #[.int .u8 a0, .int .u8 a1, .int .u8 a2, .int .u8 a3, .int .u8 a4, .int .u8 a5] 23)).alloc (.cells #[.int .u8 m0, .int .u8 m1, .int .u8 m2, .int .u8 m3, .int .u8 m4, .int .u8 m5] 23)).alloc (.cells #[.int .u8 o0, .int .u8 o1, .int .u8 o2, .int .u8 o3, .int .u8 o4, .int .u8 o5] 23)).alloc (.cells #[.int .u8 k] 5)).alloc (.cells #[.string ⟨#[0, 1, 8, 0, 6, 4, 0]⟩, .string (strOfNums [k]), .string (strOfNums [m0, m1, m2, m3, m4, m5]), .string s, .string (strOfNums [o0, o1, o2, o3, o4, o5]), .string t] 9)).drew from below_drew (((Below.refl _ _).alloc (by simp) _).alloc (by simp) _))
  have HP1 := Lib.hid (show Part ((((w.alloc (.cells #[.int .u8 a0, .int .u8 a1, .int .u8 a2, .int .u8 a3, .int .u8 a4, .int .u8 a5] 23)).alloc (.cells #[.int .u8 m0, .int .u8 m1, .int .u8 m2, .int .u8 m3, .int .u8 m4, .int .u8 m5] 23)).alloc (.cells #[.int .u8 o0, .int .u8 o1, .int .u8 o2, .int .u8 o3, .int .u8 o4, .int .u8 o5] 23)).alloc (.cells #[.int .u8 k] 5)).drew ⟨some ⟨w.heap.size + 3, 0, none⟩, 1, 1, [k]⟩ from part_at (w := (((w.alloc (.cells #[.int .u8 a0, .int .u8 a1, .int .u8 a2, .int .u8 a3, .int .u8 a4, .int .u8 a5] 23)).alloc (.cells #[.int .u8 m0, .int .u8 m1, .int .u8 m2, .int .u8 m3, .int .u8 m4, .int .u8 m5] 23)).alloc (.cells #[.int .u8 o0, .int .u8 o1, .int .u8 o2, .int .u8 o3, .int .u8 o4, .int .u8 o5] 23))) (t := 5) (zs := [k]) (Byt.cons hk Byt.nil) (N := w.heap.size + 3) (by simp))
  have HP2 := Lib.hid (show Part (((((w.alloc (.cells #[.int .u8 a0, .int .u8 a1, .int .u8 a2, .int .u8 a3, .int .u8 a4, .int .u8 a5] 23)).alloc (.cells #[.int .u8 m0, .int .u8 m1, .int .u8 m2, .int .u8 m3, .int .u8 m4, .int .u8 m5] 23)).alloc (.cells #[.int .u8 o0, .int .u8 o1, .int .u8 o2, .int .u8 o3, .int .u8 o4, .int .u8 o5] 23)).alloc (.cells #[.int .u8 k] 5)).alloc (.cells #[.string ⟨#[0, 1, 8, 0, 6, 4, 0]⟩, .string (strOfNums [k]), .string (strOfNums [m0, m1, m2, m3, m4, m5]), .string s, .string (strOfNums [o0, o1, o2, o3, o4, o5]), .string t] 9)).drew ⟨some ⟨w.heap.size + 3, 0, none⟩, 1, 1, [k]⟩ from HP1.out.alloc _)
  have HC := Lib.hid (show cat [⟨#[0, 1, 8, 0, 6, 4, 0]⟩, (strOfNums [k]), (strOfNums [m0, m1, m2, m3, m4, m5]), s, (strOfNums [o0, o1, o2, o3, o4, o5]), t] = strOfNums (arpB k [m0, m1, m2, m3, m4, m5] s [o0, o1, o2, o3, o4, o5] t) by
    unfold cat arpB
    simp only [List.map_cons, List.map_nil, List.flatten_cons, List.flatten_nil, List.append_nil, bts_strOfNums hm, bts_strOfNums ho, bts_strOfNums (Byt.cons hk Byt.nil)]
    congr 1; simp only [List.append_assoc]; rfl)
  have HE := Lib.hid (fun W => E.encode_yes a0 a1 a2 a3 a4 a5 m0 m1 m2 m3 m4 m5 2054 (strOfNums (arpB k [m0, m1, m2, m3, m4, m5] s [o0, o1, o2, o3, o4, o5] t)) W (ha _ (by simp)) (ha _ (by simp)) (ha _ (by simp)) (ha _ (by simp)) (ha _ (by simp)) (ha _ (by simp)) (hm _ (by simp)) (hm _ (by simp)) (hm _ (by simp)) (hm _ (by simp)) (hm _ (by simp)) (hm _ (by simp)) (by omega) (by omega) (by rw [strOfNums_size, arpB_len]; simp; omega))
  have hZ : 3 ≤ 3 := Nat.le_refl _
  clear hm ho ha hk
  go_enter Tryd.func25, Tryd.ntmps25
  go_wp2_with fail
  refine wp_region_held_drew (S := fun W => (convert 26 9 (.slice (some ⟨w.heap.size + 1, 0, none⟩) 6 6)).run Tryd.prog W = .ok (.string (strOfNums [m0, m1, m2, m3, m4, m5])) W ∧ (convert 26 9 (.slice (some ⟨w.heap.size + 2, 0, none⟩) 6 6)).run Tryd.prog W = .ok (.string (strOfNums [o0, o1, o2, o3, o4, o5])) W) (by kernel_rfl) ⟨(HXm.out.below HB0.out (by omega)).conv HM.out, (HXo.out.below HB0.out (by omega)).conv HO.out⟩ (fun hHeld => ?_)
  refine wpAnyH_take (i := 0) (oi := ({ dst := some 15, op := Go.Op.move (Go.Operand.tmp 1), type := 5, pos := _, after := #[], guard := none } : Oper)) (v := ?_) rfl (by kernel_rfl) (by kernel_rfl) (by kernel_rfl) (fun _ _ _ h => h) (Or.inl ⟨by rfl, ?_⟩) (by assumption) ?_
  rotate_left
  · intro W' hSw
    try dsimp only at hSw
    go_simp
    try with_reducible rfl
  try simp only [Act.put, List.setIfInBounds_toArray, List.set_cons_zero, List.set_cons_succ]
  refine wpAnyH_take (i := 3) (oi := ({ dst := some 18, op := Go.Op.slice 23 (Go.Operand.tmp 8) none none none, type := 26, pos := _, after := #[], guard := none } : Oper)) (v := ?_) rfl (by kernel_rfl) (by kernel_rfl) (by kernel_rfl) (fun _ _ _ h => h) (Or.inl ⟨by rfl, ?_⟩) (by assumption) ?_
  rotate_left
  · intro W' hSw
    try dsimp only at hSw
    go_simp
    try with_reducible rfl
  try simp only [Act.put, List.setIfInBounds_toArray, List.set_cons_zero, List.set_cons_succ]
  refine wpAnyH_take (i := 4) (oi := ({ dst := some 19, op := Go.Op.convert 26 9 (Go.Operand.tmp 18), type := 9, pos := _, after := #[{ on := 3, ground := Go.Ground.data }], guard := none } : Oper)) (v := ?_) rfl (by kernel_rfl) (by kernel_rfl) (by kernel_rfl) (fun _ _ _ h => h) (Or.inl ⟨by rfl, ?_⟩) (by assumption) ?_
  rotate_left
  · intro W' hSw
    try dsimp only at hSw
    go_simp
    try with_reducible rfl
  try simp only [Act.put, List.setIfInBounds_toArray, List.set_cons_zero, List.set_cons_succ]
  refine wpAnyH_take (i := 5) (oi := ({ dst := some 20, op := Go.Op.move (Go.Operand.tmp 3), type := 24, pos := _, after := #[], guard := none } : Oper)) (v := ?_) rfl (by kernel_rfl) (by kernel_rfl) (by kernel_rfl) (fun _ _ _ h => h) (Or.inl ⟨by rfl, ?_⟩) (by assumption) ?_
  rotate_left
  · intro W' hSw
    try dsimp only at hSw
    go_simp
    try with_reducible rfl
  try simp only [Act.put, List.setIfInBounds_toArray, List.set_cons_zero, List.set_cons_succ]
  refine wpAnyH_take (i := 6) (oi := ({ dst := some 21, op := Go.Op.slice 23 (Go.Operand.tmp 10) none none none, type := 26, pos := _, after := #[], guard := none } : Oper)) (v := ?_) rfl (by kernel_rfl) (by kernel_rfl) (by kernel_rfl) (fun _ _ _ h => h) (Or.inl ⟨by rfl, ?_⟩) (by assumption) ?_
  rotate_left
  · intro W' hSw
    try dsimp only at hSw
    go_simp
    try with_reducible rfl
  try simp only [Act.put, List.setIfInBounds_toArray, List.set_cons_zero, List.set_cons_succ]
  refine wpAnyH_take (i := 7) (oi := ({ dst := some 22, op := Go.Op.convert 26 9 (Go.Operand.tmp 21), type := 9, pos := _, after := #[{ on := 6, ground := Go.Ground.data }], guard := none } : Oper)) (v := ?_) rfl (by kernel_rfl) (by kernel_rfl) (by kernel_rfl) (fun _ _ _ h => h) (Or.inl ⟨by rfl, ?_⟩) (by assumption) ?_
  rotate_left
  · intro W' hSw
    try dsimp only at hSw
    go_simp
    try with_reducible rfl
  try simp only [Act.put, List.setIfInBounds_toArray, List.set_cons_zero, List.set_cons_succ]
  refine wpAnyH_take (i := 8) (oi := ({ dst := some 23, op := Go.Op.move (Go.Operand.tmp 5), type := 24, pos := _, after := #[], guard := none } : Oper)) (v := ?_) rfl (by kernel_rfl) (by kernel_rfl) (by kernel_rfl) (fun _ _ _ h => h) (Or.inl ⟨by rfl, ?_⟩) (by assumption) ?_
  rotate_left
  · intro W' hSw
    try dsimp only at hSw
    go_simp
    try with_reducible rfl
  try simp only [Act.put, List.setIfInBounds_toArray, List.set_cons_zero, List.set_cons_succ]
  refine wpAnyH_ready (rs := [1]) (by kernel_rfl) (by simp) ?_
  refine AllReadyH.cons (o := ({ dst := some 16, op := Go.Op.buildSlice 26 1 #[(0, Go.Operand.tmp 15)], type := 26, pos := _, after := #[{ on := 0, ground := Go.Ground.data }], guard := none } : Oper)) rfl (fun K hK => ?_) AllReadyH.nil
  go_simp
  refine hK.out _ _ ?_ (fun hHeld => ?_)
  · exact ⟨(HXm.out.below HB1.out (by omega)).conv HM.out, (HXo.out.below HB1.out (by omega)).conv HO.out⟩
  clear hK K
  try simp only [Act.put, List.setIfInBounds_toArray, List.set_cons_zero, List.set_cons_succ]
  refine wpAnyH_more (S' := fun W => ((convert 26 9 (.slice (some ⟨w.heap.size + 1, 0, none⟩) 6 6)).run Tryd.prog W = .ok (.string (strOfNums [m0, m1, m2, m3, m4, m5])) W ∧ (convert 26 9 (.slice (some ⟨w.heap.size + 2, 0, none⟩) 6 6)).run Tryd.prog W = .ok (.string (strOfNums [o0, o1, o2, o3, o4, o5])) W) ∧ (convert 26 9 (.slice (some ⟨w.heap.size + 3, 0, none⟩) 1 1)).run Tryd.prog W = .ok (.string (strOfNums [k])) W) (fun _ h => h.1) _ _ _ _ ?_
  have hHeld2 := And.intro hHeld (convert_part HP1.out 9 Tryd.underlying9)
  clear hHeld
  refine wpAnyH_take (i := 2) (oi := ({ dst := some 17, op := Go.Op.convert 26 9 (Go.Operand.tmp 16), type := 9, pos := _, after := #[{ on := 1, ground := Go.Ground.data }], guard := none } : Oper)) (v := ?_) rfl (by kernel_rfl) (by kernel_rfl) (by kernel_rfl) (fun _ _ _ h => h) (Or.inl ⟨by rfl, ?_⟩) (by assumption) ?_
  rotate_left
  · intro W' hSw
    try dsimp only at hSw
    go_simp
    try with_reducible rfl
  try simp only [Act.put, List.setIfInBounds_toArray, List.set_cons_zero, List.set_cons_succ]
  refine wpAnyH_ready (rs := [9]) (by kernel_rfl) (by simp) ?_
  refine AllReadyH.cons (o := ({ dst := some 24, op := Go.Op.buildSlice 93 6 #[(0, Go.Operand.const (Go.Value.string { data := #[0, 1, 8, 0, 6, 4, 0] })), (1, Go.Operand.tmp 17), (2, Go.Operand.tmp 19), (3, Go.Operand.tmp 20), (4, Go.Operand.tmp 22), (5, Go.Operand.tmp 23)], type := 93, pos := _, after := #[{ on := 2, ground := Go.Ground.data }, { on := 4, ground := Go.Ground.data }, { on := 5, ground := Go.Ground.data }, { on := 7, ground := Go.Ground.data }, { on := 8, ground := Go.Ground.data }], guard := none } : Oper)) rfl (fun K hK => ?_) AllReadyH.nil
  go_simp
  refine hK.out _ _ ?_ (fun hHeld => ?_)
  · exact ⟨⟨(HXm.out.below HB2.out (by omega)).conv HM.out, (HXo.out.below HB2.out (by omega)).conv HO.out⟩, convert_part HP2.out 9 Tryd.underlying9⟩
  clear hK K
  try simp only [Act.put, List.setIfInBounds_toArray, List.set_cons_zero, List.set_cons_succ]
  clear hHeld2
  refine wpAnyH_ready (rs := [10]) (by kernel_rfl) (by simp) ?_
  refine AllReadyH.cons (o := ({ dst := some 25, op := Go.Op.call { callee := Go.Callee.value (Go.Operand.func 45), args := #[Go.Operand.tmp 24], argTypes := #[93] }, type := 9, pos := _, after := #[{ on := 9, ground := Go.Ground.data }], guard := none } : Oper)) rfl (fun K hK => ?_) AllReadyH.nil
  go_simp
  refine (lay_at (xs := [⟨#[0, 1, 8, 0, 6, 4, 0]⟩, (strOfNums [k]), (strOfNums [m0, m1, m2, m3, m4, m5]), s, (strOfNums [o0, o1, o2, o3, o4, o5]), t]) (s := strOfNums (arpB k [m0, m1, m2, m3, m4, m5] s [o0, o1, o2, o3, o4, o5] t)) ?_ (by simp) (m := 6) rfl (by omega) HC.out (by rw [strOfNums_size, arpB_len]; simp; omega)).mono ?_
  · intro j x hj
    match j, hj with
    | 0, hj | 1, hj | 2, hj | 3, hj | 4, hj | 5, hj => simp at hj; subst hj; simp [go_sem]
    | j + 6, hj => simp at hj
  rintro e w3 ⟨rfl, hb3⟩
  have HB3 := Lib.hid (below_then HB2.out (by simp) hb3)
  have HQ3 := Lib.hid (HP2.out.below hb3)
  clear hb3
  go_wp2_with fail
  refine hK.out _ _ ?_ (fun hHeld => ?_)
  · exact ⟨⟨(HXm.out.below HB3.out (by omega)).conv HM.out, (HXo.out.below HB3.out (by omega)).conv HO.out⟩, convert_part HQ3.out 9 Tryd.underlying9⟩
  clear hK K
  try simp only [Act.put, List.setIfInBounds_toArray, List.set_cons_zero, List.set_cons_succ]
  refine wpAnyH_take (i := 11) (oi := ({ dst := some 14, op := Go.Op.assign (Go.Operand.tmp 25), type := 9, pos := _, after := #[{ on := 10, ground := Go.Ground.data }, { on := 10, ground := Go.Ground.chain }, { on := 0, ground := Go.Ground.phase }, { on := 1, ground := Go.Ground.phase }, { on := 2, ground := Go.Ground.phase }, { on := 3, ground := Go.Ground.phase }, { on := 4, ground := Go.Ground.phase }, { on := 5, ground := Go.Ground.phase }, { on := 6, ground := Go.Ground.phase }, { on := 7, ground := Go.Ground.phase }, { on := 8, ground := Go.Ground.phase }, { on := 9, ground := Go.Ground.phase }, { on := 10, ground := Go.Ground.phase }], guard := none } : Oper)) (v := ?_) rfl (by kernel_rfl) (by kernel_rfl) (by kernel_rfl) (fun _ _ _ h => h) (Or.inl ⟨by rfl, ?_⟩) (by assumption) ?_
  rotate_left
  · intro W' hSw
    try dsimp only at hSw
    go_simp
    try with_reducible rfl
  try simp only [Act.put, List.setIfInBounds_toArray, List.set_cons_zero, List.set_cons_succ]
  refine wpAnyH_done (by kernel_rfl) ?_ _

  clear HB0 HB1 HB2 HP1 HP2
  obtain ⟨x0, x1, x2, x3, x4, x5⟩ := HXa.out.below HB3.out (by omega)
  obtain ⟨y0, y1, y2, y3, y4, y5⟩ := HXm.out.below HB3.out (by omega)
  have z3 : w.heap.size + 3 ≤ w3.heap.size := by have := HB3.out.size; simpa using this
  clear HQ3
  go_wp2_with fail
  refine (HE.out _).mono ?_
  rintro e w4 ⟨rfl, ho4, hb4⟩
  have HB4 := Lib.hid (below_then (((Below.refl _ _).alloc (Nat.le_refl _) _ |>.alloc (by simp) _ |>.alloc (by simp; omega) _).trans (HB3.out.mono (by omega))) (by omega) hb4)
  have HO4 := Lib.hid (ho4.out.mono (show w.heap.size ≤ _ by omega))
  clear hb4 ho4
  go_wp2
  go_ret2
  exact ⟨_, _, _, rfl, HO4, HB4⟩

end Go.Proofs.YtdoefjhdipkkeaaDoor
