/-
  NeighAsks: whatever cards and addresses it is given, the statement's function returns true, and nothing that was there is changed; the program's two variables hold what its text lays in them. No other conditions.
-/
import Derived.Test.YtdoefjhdipkkeaaDoorLAlive
import Derived.Test.YtdoefjhdipkkeaaDoorRAsks
import Derived.Test.YtdoefjhdipkkeaaDoorLFrame
namespace Go.Proofs.YtdoefjhdipkkeaaDoor
open Go.RowKit
set_option linter.unusedVariables false
set_option maxRecDepth 10000


/-- Two addresses lie in a block. -/
def Box2 (W : World) (N : Nat) (f t : ByteArray) : Prop := W.cell? ⟨N, 0, none⟩ = some (.string f) ∧ W.cell? ⟨N, 1, none⟩ = some (.string t)
theorem Box2.below {W W' : World} {N B : Nat} {f t : ByteArray} (h : Box2 W N f t) (hb : Below B W W') (hN : N < B) : Box2 W' N f t := ⟨(hb.cell hN).trans h.1, (hb.cell hN).trans h.2⟩
theorem Sent.part {w' : World} {B g n c : Nat} {a0 a1 a2 a3 a4 a5 m0 m1 m2 m3 m4 m5 ty : Int} {s : ByteArray} (h : Own w' B g n c (E.wire a0 a1 a2 a3 a4 a5 m0 m1 m2 m3 m4 m5 ty s)) (ha : Byt [a0, a1, a2, a3, a4, a5]) (hm : Byt [m0, m1, m2, m3, m4, m5]) (h1 : 1536 ≤ ty) (h2 : ty ≤ 65535) : Part w' ⟨some ⟨g, 0, none⟩, n, c, E.wire a0 a1 a2 a3 a4 a5 m0 m1 m2 m3 m4 m5 ty s⟩ :=
  h.part (E.wire_byt a0 a1 a2 a3 a4 a5 m0 m1 m2 m3 m4 m5 ty s (ha _ (by simp)) (ha _ (by simp)) (ha _ (by simp)) (ha _ (by simp)) (ha _ (by simp)) (ha _ (by simp)) (hm _ (by simp)) (hm _ (by simp)) (hm _ (by simp)) (hm _ (by simp)) (hm _ (by simp)) (hm _ (by simp)) h1 h2)

/-- Bytes lie in a slice, and a number is told. -/
def Ans (bs : List Int) (r : Int) (w : World) (e : Ending) (w' : World) : Prop := ∃ A n c, e = .returned (.tuple #[.slice A n c, .int .i64 r]) ∧ Hid (Part w' ⟨A, n, c, bs⟩) ∧ Hid (Below w.heap.size w w')
theorem Ans.no {w : World} {e : Ending} {w' : World} (h : Refused w e w') : Ans [] 1 w e w' := ⟨none, 0, 0, h.1, Lib.hid (Part.gone rfl), Lib.hid h.2⟩
theorem Ans.ref {bs : List Int} {w : World} {e : Ending} {w' : World} (h : RSent bs w e w') : Ans bs 0 w e w' := h
theorem Ans.sent {a0 a1 a2 a3 a4 a5 m0 m1 m2 m3 m4 m5 ty : Int} {s : ByteArray} {w : World} {e : Ending} {w' : World} (h : Sent (E.wire a0 a1 a2 a3 a4 a5 m0 m1 m2 m3 m4 m5 ty s) w e w') (ha : Byt [a0, a1, a2, a3, a4, a5]) (hm : Byt [m0, m1, m2, m3, m4, m5]) (h1 : 1536 ≤ ty) (h2 : ty ≤ 65535) : Ans (E.wire a0 a1 a2 a3 a4 a5 m0 m1 m2 m3 m4 m5 ty s) 0 w e w' := by
  obtain ⟨g, n, c, he, ho, hb⟩ := h
  exact ⟨_, _, _, he, Lib.hid (Sent.part ho.out ha hm h1 h2), hb⟩
set_option maxHeartbeats 8000000 in
set_option maxRecDepth 100000 in
theorem asks_go (m0 m1 m2 m3 m4 m5 a0 a1 a2 a3 a4 a5 : Int) (f t : ByteArray) (w : World) (hG : Glob w) (hf : f.size ≤ 140737488351232) (b1 b2 b3 : List Int) (r1 r2 r3 : Int)
    (H1 : ∀ W, Glob W → Calls Tryd.prog 9 #[.agg #[.int .u8 m0, .int .u8 m1, .int .u8 m2, .int .u8 m3, .int .u8 m4, .int .u8 m5], .string f, .string t] W (Ans b1 r1 W)) (H2 : ∀ W, Calls Tryd.prog 10 #[.agg #[.int .u8 m0, .int .u8 m1, .int .u8 m2, .int .u8 m3, .int .u8 m4, .int .u8 m5], .string f, .string t] W (Ans b1 r1 W))
    (H3 : ∀ W, Glob W → Calls Tryd.prog 11 #[.agg #[.int .u8 m0, .int .u8 m1, .int .u8 m2, .int .u8 m3, .int .u8 m4, .int .u8 m5], .string f, .agg #[.int .u8 a0, .int .u8 a1, .int .u8 a2, .int .u8 a3, .int .u8 a4, .int .u8 a5], .string t] W (Ans b2 r2 W)) (H4 : ∀ W, Calls Tryd.prog 12 #[.agg #[.int .u8 m0, .int .u8 m1, .int .u8 m2, .int .u8 m3, .int .u8 m4, .int .u8 m5], .string f, .agg #[.int .u8 a0, .int .u8 a1, .int .u8 a2, .int .u8 a3, .int .u8 a4, .int .u8 a5], .string t] W (Ans b2 r2 W))
    (H5 : ∀ W, Glob W → Calls Tryd.prog 13 #[.agg #[.int .u8 m0, .int .u8 m1, .int .u8 m2, .int .u8 m3, .int .u8 m4, .int .u8 m5], .string f] W (Ans b3 r3 W)) (H6 : ∀ W, Calls Tryd.prog 14 #[.agg #[.int .u8 m0, .int .u8 m1, .int .u8 m2, .int .u8 m3, .int .u8 m4, .int .u8 m5], .string f] W (Ans b3 r3 W)) :
    Calls Tryd.prog 3 #[.agg #[.int .u8 m0, .int .u8 m1, .int .u8 m2, .int .u8 m3, .int .u8 m4, .int .u8 m5], .agg #[.int .u8 a0, .int .u8 a1, .int .u8 a2, .int .u8 a3, .int .u8 a4, .int .u8 a5], .agg #[.string f, .string t]] w fun e w' => e = .returned (.bool true) ∧ Below w.heap.size w w' := by
  obtain ⟨s1, hs1⟩ : ∃ s, strOfNums b1 = s := ⟨_, rfl⟩
  obtain ⟨s2, hs2⟩ : ∃ s, strOfNums b2 = s := ⟨_, rfl⟩
  obtain ⟨s3, hs3⟩ : ∃ s, strOfNums b3 = s := ⟨_, rfl⟩
  obtain ⟨nr, hnr⟩ : ∃ s, near f = s := ⟨_, rfl⟩
  have HSs1 := Lib.hid hs1
  have HSs2 := Lib.hid hs2
  have HSs3 := Lib.hid hs3
  have HNR := Lib.hid hnr
  have HH1 := Lib.hid H1
  have HH2 := Lib.hid H2
  have HH3 := Lib.hid H3
  have HH4 := Lib.hid H4
  have HH5 := Lib.hid H5
  have HH6 := Lib.hid H6
  have HM6 := Lib.hid (((Box6.new w m0 m1 m2 m3 m4 m5).below ((Below.refl _ _).alloc (Nat.le_refl _) (.cells #[.int .u8 a0, .int .u8 a1, .int .u8 a2, .int .u8 a3, .int .u8 a4, .int .u8 a5] 23)) (by simp)).below ((Below.refl _ _).alloc (Nat.le_refl _) (.cells #[.string f, .string t] 25)) (by simp; omega))
  have HA6 := Lib.hid (show Box6 (((w.alloc (.cells #[.int .u8 m0, .int .u8 m1, .int .u8 m2, .int .u8 m3, .int .u8 m4, .int .u8 m5] 23)).alloc (.cells #[.int .u8 a0, .int .u8 a1, .int .u8 a2, .int .u8 a3, .int .u8 a4, .int .u8 a5] 23)).alloc (.cells #[.string f, .string t] 25)) (w.heap.size + 1) a0 a1 a2 a3 a4 a5 by have h := (Box6.new (w.alloc (.cells #[.int .u8 m0, .int .u8 m1, .int .u8 m2, .int .u8 m3, .int .u8 m4, .int .u8 m5] 23)) a0 a1 a2 a3 a4 a5).below ((Below.refl _ _).alloc (Nat.le_refl _) (.cells #[.string f, .string t] 25)) (by simp); simpa using h)
  have HF2 := Lib.hid (show Box2 (((w.alloc (.cells #[.int .u8 m0, .int .u8 m1, .int .u8 m2, .int .u8 m3, .int .u8 m4, .int .u8 m5] 23)).alloc (.cells #[.int .u8 a0, .int .u8 a1, .int .u8 a2, .int .u8 a3, .int .u8 a4, .int .u8 a5] 23)).alloc (.cells #[.string f, .string t] 25)) (w.heap.size + 2) f t from ⟨by simp [go_sem], by simp [go_sem]⟩)
  have HG0 := Lib.hid (((hG.alloc (.cells #[.int .u8 m0, .int .u8 m1, .int .u8 m2, .int .u8 m3, .int .u8 m4, .int .u8 m5] 23)).alloc (.cells #[.int .u8 a0, .int .u8 a1, .int .u8 a2, .int .u8 a3, .int .u8 a4, .int .u8 a5] 23)).alloc (.cells #[.string f, .string t] 25))
  have HB0 := Lib.hid (show Below (w.heap.size + 3) (((w.alloc (.cells #[.int .u8 m0, .int .u8 m1, .int .u8 m2, .int .u8 m3, .int .u8 m4, .int .u8 m5] 23)).alloc (.cells #[.int .u8 a0, .int .u8 a1, .int .u8 a2, .int .u8 a3, .int .u8 a4, .int .u8 a5] 23)).alloc (.cells #[.string f, .string t] 25)) (((w.alloc (.cells #[.int .u8 m0, .int .u8 m1, .int .u8 m2, .int .u8 m3, .int .u8 m4, .int .u8 m5] 23)).alloc (.cells #[.int .u8 a0, .int .u8 a1, .int .u8 a2, .int .u8 a3, .int .u8 a4, .int .u8 a5] 23)).alloc (.cells #[.string f, .string t] 25)) from Below.refl _ _)
  have HBW := Lib.hid (show Below w.heap.size w (((w.alloc (.cells #[.int .u8 m0, .int .u8 m1, .int .u8 m2, .int .u8 m3, .int .u8 m4, .int .u8 m5] 23)).alloc (.cells #[.int .u8 a0, .int .u8 a1, .int .u8 a2, .int .u8 a3, .int .u8 a4, .int .u8 a5] 23)).alloc (.cells #[.string f, .string t] 25)) from (((Below.refl _ _).alloc (Nat.le_refl _) _).alloc (by simp) _).alloc (by simp; omega) _)
  clear H1 H2 H3 H4 H5 H6 hG hs1 hs2 hs3 hnr
  go_enter Tryd.func3, Tryd.ntmps3
  go_wp2_with fail
  refine (HH1.out _ HG0.out).mono ?_
  rintro e w1 ⟨A1, n1, c1, rfl, hp1, hb1⟩
  have HB1 := Lib.hid (below_then HB0.out (by simp) hb1.out)
  have HG1 := Lib.hid (HG0.out.below hb1.out HG0.out.size)
  have z1 : w.heap.size + 3 ≤ w1.heap.size := by have := HB1.out.size; simpa using this
  have HQ1 := Lib.hid hp1.out
  clear hb1 hp1
  obtain ⟨m0c, m1c, m2c, m3c, m4c, m5c⟩ := HM6.out.below HB1.out (by omega)
  obtain ⟨a0c, a1c, a2c, a3c, a4c, a5c⟩ := HA6.out.below HB1.out (by omega)
  obtain ⟨fc, tc⟩ := HF2.out.below HB1.out (by omega)
  go_wp2_with fail
  refine (HH2.out _).mono ?_
  rintro e w2 ⟨A2, n2, c2, rfl, hp2, hb2⟩
  have HB2 := Lib.hid (below_then HB1.out (z1) hb2.out)
  have HG2 := Lib.hid (HG1.out.below hb2.out HG1.out.size)
  have z2 : w.heap.size + 3 ≤ w2.heap.size := by have := HB2.out.size; simpa using this
  have HQ1b := Lib.hid (HQ1.out.below hb2.out)
  have HQ2 := Lib.hid hp2.out
  clear hb2 hp2
  clear m0c m1c m2c m3c m4c m5c a0c a1c a2c a3c a4c a5c fc tc
  obtain ⟨m0c, m1c, m2c, m3c, m4c, m5c⟩ := HM6.out.below HB2.out (by omega)
  obtain ⟨a0c, a1c, a2c, a3c, a4c, a5c⟩ := HA6.out.below HB2.out (by omega)
  obtain ⟨fc, tc⟩ := HF2.out.below HB2.out (by omega)
  have v1 : (convert 26 9 (.slice A1 n1 c1)).run Tryd.prog w2 = .ok (.string s1) w2 := by rw [← HSs1.out]; exact convert_part HQ1b.out 9 Tryd.underlying9
  have v2 : (convert 26 9 (.slice A2 n2 c2)).run Tryd.prog w2 = .ok (.string s1) w2 := by rw [← HSs1.out]; exact convert_part HQ2.out 9 Tryd.underlying9
  go_wp2_with fail
  refine (HH3.out _ HG2.out).mono ?_
  rintro e w3 ⟨A3, n3, c3, rfl, hp3, hb3⟩
  have HB3 := Lib.hid (below_then HB2.out (z2) hb3.out)
  have HG3 := Lib.hid (HG2.out.below hb3.out HG2.out.size)
  have z3 : w.heap.size + 3 ≤ w3.heap.size := by have := HB3.out.size; simpa using this
  have HQ3 := Lib.hid hp3.out
  clear hb3 hp3
  clear m0c m1c m2c m3c m4c m5c a0c a1c a2c a3c a4c a5c fc tc
  obtain ⟨m0c, m1c, m2c, m3c, m4c, m5c⟩ := HM6.out.below HB3.out (by omega)
  obtain ⟨a0c, a1c, a2c, a3c, a4c, a5c⟩ := HA6.out.below HB3.out (by omega)
  obtain ⟨fc, tc⟩ := HF2.out.below HB3.out (by omega)
  go_wp2_with fail
  refine (HH4.out _).mono ?_
  rintro e w4 ⟨A4, n4, c4, rfl, hp4, hb4⟩
  have HB4 := Lib.hid (below_then HB3.out (z3) hb4.out)
  have HG4 := Lib.hid (HG3.out.below hb4.out HG3.out.size)
  have z4 : w.heap.size + 3 ≤ w4.heap.size := by have := HB4.out.size; simpa using this
  have HQ3b := Lib.hid (HQ3.out.below hb4.out)
  have HQ4 := Lib.hid hp4.out
  clear hb4 hp4
  clear m0c m1c m2c m3c m4c m5c a0c a1c a2c a3c a4c a5c fc tc
  obtain ⟨m0c, m1c, m2c, m3c, m4c, m5c⟩ := HM6.out.below HB4.out (by omega)
  obtain ⟨a0c, a1c, a2c, a3c, a4c, a5c⟩ := HA6.out.below HB4.out (by omega)
  obtain ⟨fc, tc⟩ := HF2.out.below HB4.out (by omega)
  have v3 : (convert 26 9 (.slice A3 n3 c3)).run Tryd.prog w4 = .ok (.string s2) w4 := by rw [← HSs2.out]; exact convert_part HQ3b.out 9 Tryd.underlying9
  have v4 : (convert 26 9 (.slice A4 n4 c4)).run Tryd.prog w4 = .ok (.string s2) w4 := by rw [← HSs2.out]; exact convert_part HQ4.out 9 Tryd.underlying9
  clear v1 v2
  go_wp2_with fail
  refine (HH5.out _ HG4.out).mono ?_
  rintro e w5 ⟨A5, n5, c5, rfl, hp5, hb5⟩
  have HB5 := Lib.hid (below_then HB4.out (z4) hb5.out)
  have HG5 := Lib.hid (HG4.out.below hb5.out HG4.out.size)
  have z5 : w.heap.size + 3 ≤ w5.heap.size := by have := HB5.out.size; simpa using this
  have HQ5 := Lib.hid hp5.out
  clear hb5 hp5
  clear m0c m1c m2c m3c m4c m5c a0c a1c a2c a3c a4c a5c fc tc
  obtain ⟨m0c, m1c, m2c, m3c, m4c, m5c⟩ := HM6.out.below HB5.out (by omega)
  obtain ⟨a0c, a1c, a2c, a3c, a4c, a5c⟩ := HA6.out.below HB5.out (by omega)
  obtain ⟨fc, tc⟩ := HF2.out.below HB5.out (by omega)
  go_wp2_with fail
  refine (HH6.out _).mono ?_
  rintro e w6 ⟨A6, n6, c6, rfl, hp6, hb6⟩
  have HB6 := Lib.hid (below_then HB5.out (z5) hb6.out)
  have HG6 := Lib.hid (HG5.out.below hb6.out HG5.out.size)
  have z6 : w.heap.size + 3 ≤ w6.heap.size := by have := HB6.out.size; simpa using this
  have HQ5b := Lib.hid (HQ5.out.below hb6.out)
  have HQ6 := Lib.hid hp6.out
  clear hb6 hp6
  clear m0c m1c m2c m3c m4c m5c a0c a1c a2c a3c a4c a5c fc tc
  obtain ⟨m0c, m1c, m2c, m3c, m4c, m5c⟩ := HM6.out.below HB6.out (by omega)
  obtain ⟨a0c, a1c, a2c, a3c, a4c, a5c⟩ := HA6.out.below HB6.out (by omega)
  obtain ⟨fc, tc⟩ := HF2.out.below HB6.out (by omega)
  have HS := Lib.hid (show ∀ W, Below w6.heap.size w6 W → (W.cell? ⟨w.heap.size + 2, 0, none⟩ = some (.string f) ∧ (convert 26 9 (.slice A5 n5 c5)).run Tryd.prog W = .ok (.string s3) W ∧ (convert 26 9 (.slice A6 n6 c6)).run Tryd.prog W = .ok (.string s3) W) from fun W hb => ⟨(HF2.out.below (HB6.out.trans (hb.mono z6)) (by omega)).1, by rw [← HSs3.out]; exact convert_part (HQ5b.out.below hb) 9 Tryd.underlying9, by rw [← HSs3.out]; exact convert_part (HQ6.out.below hb) 9 Tryd.underlying9⟩)
  clear v3 v4
  go_wp2_with fail
  refine wp_region_held_drew (S := fun W => W.cell? ⟨w.heap.size + 2, 0, none⟩ = some (.string f) ∧ (convert 26 9 (.slice A5 n5 c5)).run Tryd.prog W = .ok (.string s3) W ∧ (convert 26 9 (.slice A6 n6 c6)).run Tryd.prog W = .ok (.string s3) W) (by kernel_rfl) (HS.out _ (below_drew (Below.refl _ _))) (fun hHeld => ?_)
  refine wpAnyH_ready (rs := [0]) (by kernel_rfl) (by simp) ?_
  refine AllReadyH.cons (o := ({ dst := some 83, op := Go.Op.call { callee := Go.Callee.value (Go.Operand.func 15), args := #[], argTypes := #[] }, type := 4, pos := _, after := #[], guard := none } : Oper)) rfl (fun K hK => ?_) AllReadyH.nil
  go_simp
  refine (alive_any _ HG6.out.drew).mono ?_
  rintro e w7 ⟨rfl, hb7⟩
  have HC7 := Lib.hid (show Below w6.heap.size w6 w7 from below_left hb7)
  clear hb7
  go_wp2_with fail
  refine hK.out _ _ ?_ (fun hHeld => ?_)
  · exact HS.out _ HC7.out
  clear hK K
  try simp only [Act.put, List.setIfInBounds_toArray, List.set_cons_zero, List.set_cons_succ]
  refine wpAnyH_take (i := 1) (oi := ({ dst := some 84, op := Go.Op.move (Go.Operand.tmp 83), type := 4, pos := _, after := #[{ on := 0, ground := Go.Ground.data }, { on := 0, ground := Go.Ground.chain }], guard := none } : Oper)) (v := ?_) rfl (by kernel_rfl) (by kernel_rfl) (by kernel_rfl) (fun _ _ _ h => h) (Or.inl ⟨by rfl, ?_⟩) (by assumption) ?_
  rotate_left
  · intro W' hSw
    try dsimp only at hSw
    go_simp
    try with_reducible rfl
  try simp only [Act.put, List.setIfInBounds_toArray, List.set_cons_zero, List.set_cons_succ]
  refine wpAnyH_take (i := 2) (oi := ({ dst := some 85, op := Go.Op.move (Go.Operand.tmp 7), type := 26, pos := _, after := #[{ on := 1, ground := Go.Ground.guard }], guard := some (1, true) } : Oper)) (v := ?_) rfl (by kernel_rfl) (by kernel_rfl) (by kernel_rfl) (fun _ _ _ h => h) (Or.inl ⟨by rfl, ?_⟩) (by assumption) ?_
  rotate_left
  · intro W' hSw
    try dsimp only at hSw
    go_simp
    try with_reducible rfl
  try simp only [Act.put, List.setIfInBounds_toArray, List.set_cons_zero, List.set_cons_succ]
  refine wpAnyH_take (i := 3) (oi := ({ dst := some 86, op := Go.Op.convert 26 9 (Go.Operand.tmp 85), type := 9, pos := _, after := #[{ on := 2, ground := Go.Ground.data }, { on := 1, ground := Go.Ground.guard }], guard := some (1, true) } : Oper)) (v := ?_) rfl (by kernel_rfl) (by kernel_rfl) (by kernel_rfl) (fun _ _ _ h => h) (Or.inl ⟨by rfl, ?_⟩) (by assumption) ?_
  rotate_left
  · intro W' hSw
    try dsimp only at hSw
    go_simp
    try with_reducible rfl
  try simp only [Act.put, List.setIfInBounds_toArray, List.set_cons_zero, List.set_cons_succ]
  refine wpAnyH_take (i := 4) (oi := ({ dst := some 87, op := Go.Op.move (Go.Operand.tmp 9), type := 26, pos := _, after := #[{ on := 1, ground := Go.Ground.guard }], guard := some (1, true) } : Oper)) (v := ?_) rfl (by kernel_rfl) (by kernel_rfl) (by kernel_rfl) (fun _ _ _ h => h) (Or.inl ⟨by rfl, ?_⟩) (by assumption) ?_
  rotate_left
  · intro W' hSw
    try dsimp only at hSw
    go_simp
    try with_reducible rfl
  try simp only [Act.put, List.setIfInBounds_toArray, List.set_cons_zero, List.set_cons_succ]
  refine wpAnyH_take (i := 5) (oi := ({ dst := some 88, op := Go.Op.convert 26 9 (Go.Operand.tmp 87), type := 9, pos := _, after := #[{ on := 4, ground := Go.Ground.data }, { on := 1, ground := Go.Ground.guard }], guard := some (1, true) } : Oper)) (v := ?_) rfl (by kernel_rfl) (by kernel_rfl) (by kernel_rfl) (fun _ _ _ h => h) (Or.inl ⟨by rfl, ?_⟩) (by assumption) ?_
  rotate_left
  · intro W' hSw
    try dsimp only at hSw
    go_simp
    try with_reducible rfl
  try simp only [Act.put, List.setIfInBounds_toArray, List.set_cons_zero, List.set_cons_succ]
  refine wpAnyH_take (i := 6) (oi := ({ dst := some 89, op := Go.Op.binOp Go.BinOp.eql 9 (Go.Operand.tmp 86) (Go.Operand.tmp 88) 9, type := 4, pos := _, after := #[{ on := 3, ground := Go.Ground.data }, { on := 5, ground := Go.Ground.data }, { on := 1, ground := Go.Ground.guard }], guard := some (1, true) } : Oper)) (v := ?_) rfl (by kernel_rfl) (by kernel_rfl) (by kernel_rfl) (fun _ _ _ h => h) (Or.inl ⟨by rfl, ?_⟩) (by assumption) ?_
  rotate_left
  · intro W' hSw
    try dsimp only at hSw
    go_simp
    try with_reducible rfl
  try simp only [Act.put, List.setIfInBounds_toArray, List.set_cons_zero, List.set_cons_succ]
  refine wpAnyH_take (i := 7) (oi := ({ dst := some 90, op := Go.Op.pick (Go.Operand.tmp 84) (Go.Operand.tmp 89) (Go.Operand.const (Go.Value.bool false)), type := 4, pos := _, after := #[{ on := 1, ground := Go.Ground.data }, { on := 6, ground := Go.Ground.data }], guard := none } : Oper)) (v := ?_) rfl (by kernel_rfl) (by kernel_rfl) (by kernel_rfl) (fun _ _ _ h => h) (Or.inl ⟨by rfl, ?_⟩) (by assumption) ?_
  rotate_left
  · intro W' hSw
    try dsimp only at hSw
    go_simp
    try with_reducible rfl
  try simp only [Act.put, List.setIfInBounds_toArray, List.set_cons_zero, List.set_cons_succ]
  refine wpAnyH_take (i := 8) (oi := ({ dst := some 91, op := Go.Op.move (Go.Operand.tmp 90), type := 4, pos := _, after := #[{ on := 7, ground := Go.Ground.data }, { on := 1, ground := Go.Ground.chain }], guard := none } : Oper)) (v := ?_) rfl (by kernel_rfl) (by kernel_rfl) (by kernel_rfl) (fun _ _ _ h => h) (Or.inl ⟨by rfl, ?_⟩) (by assumption) ?_
  rotate_left
  · intro W' hSw
    try dsimp only at hSw
    go_simp
    try with_reducible rfl
  try simp only [Act.put, List.setIfInBounds_toArray, List.set_cons_zero, List.set_cons_succ]
  refine wpAnyH_take (i := 9) (oi := ({ dst := some 92, op := Go.Op.move (Go.Operand.tmp 8), type := 27, pos := _, after := #[{ on := 8, ground := Go.Ground.guard }], guard := some (8, true) } : Oper)) (v := ?_) rfl (by kernel_rfl) (by kernel_rfl) (by kernel_rfl) (fun _ _ _ h => h) (Or.inl ⟨by rfl, ?_⟩) (by assumption) ?_
  rotate_left
  · intro W' hSw
    try dsimp only at hSw
    go_simp
    try with_reducible rfl
  try simp only [Act.put, List.setIfInBounds_toArray, List.set_cons_zero, List.set_cons_succ]
  refine wpAnyH_take (i := 10) (oi := ({ dst := some 93, op := Go.Op.move (Go.Operand.tmp 10), type := 27, pos := _, after := #[{ on := 8, ground := Go.Ground.guard }], guard := some (8, true) } : Oper)) (v := ?_) rfl (by kernel_rfl) (by kernel_rfl) (by kernel_rfl) (fun _ _ _ h => h) (Or.inl ⟨by rfl, ?_⟩) (by assumption) ?_
  rotate_left
  · intro W' hSw
    try dsimp only at hSw
    go_simp
    try with_reducible rfl
  try simp only [Act.put, List.setIfInBounds_toArray, List.set_cons_zero, List.set_cons_succ]
  refine wpAnyH_take (i := 11) (oi := ({ dst := some 94, op := Go.Op.binOp Go.BinOp.eql 27 (Go.Operand.tmp 92) (Go.Operand.tmp 93) 27, type := 4, pos := _, after := #[{ on := 9, ground := Go.Ground.data }, { on := 10, ground := Go.Ground.data }, { on := 8, ground := Go.Ground.guard }], guard := some (8, true) } : Oper)) (v := ?_) rfl (by kernel_rfl) (by kernel_rfl) (by kernel_rfl) (fun _ _ _ h => h) (Or.inl ⟨by rfl, ?_⟩) (by assumption) ?_
  rotate_left
  · intro W' hSw
    try dsimp only at hSw
    go_simp
    try with_reducible rfl
  try simp only [Act.put, List.setIfInBounds_toArray, List.set_cons_zero, List.set_cons_succ]
  refine wpAnyH_take (i := 12) (oi := ({ dst := some 95, op := Go.Op.pick (Go.Operand.tmp 91) (Go.Operand.tmp 94) (Go.Operand.const (Go.Value.bool false)), type := 4, pos := _, after := #[{ on := 8, ground := Go.Ground.data }, { on := 11, ground := Go.Ground.data }], guard := none } : Oper)) (v := ?_) rfl (by kernel_rfl) (by kernel_rfl) (by kernel_rfl) (fun _ _ _ h => h) (Or.inl ⟨by rfl, ?_⟩) (by assumption) ?_
  rotate_left
  · intro W' hSw
    try dsimp only at hSw
    go_simp
    try with_reducible rfl
  try simp only [Act.put, List.setIfInBounds_toArray, List.set_cons_zero, List.set_cons_succ]
  refine wpAnyH_take (i := 13) (oi := ({ dst := some 96, op := Go.Op.move (Go.Operand.tmp 95), type := 4, pos := _, after := #[{ on := 12, ground := Go.Ground.data }, { on := 8, ground := Go.Ground.chain }], guard := none } : Oper)) (v := ?_) rfl (by kernel_rfl) (by kernel_rfl) (by kernel_rfl) (fun _ _ _ h => h) (Or.inl ⟨by rfl, ?_⟩) (by assumption) ?_
  rotate_left
  · intro W' hSw
    try dsimp only at hSw
    go_simp
    try with_reducible rfl
  try simp only [Act.put, List.setIfInBounds_toArray, List.set_cons_zero, List.set_cons_succ]
  refine wpAnyH_take (i := 14) (oi := ({ dst := some 97, op := Go.Op.indexAddr 25 (Go.Operand.tmp 5) (Go.Operand.const (Go.Value.int Go.IntKind.i64 0)), type := 0, pos := _, after := #[{ on := 13, ground := Go.Ground.guard }], guard := some (13, true) } : Oper)) (v := ?_) rfl (by kernel_rfl) (by kernel_rfl) (by kernel_rfl) (fun _ _ _ h => h) (Or.inl ⟨by rfl, ?_⟩) (by assumption) ?_
  rotate_left
  · intro W' hSw
    try dsimp only at hSw
    go_simp
    try with_reducible rfl
  try simp only [Act.put, List.setIfInBounds_toArray, List.set_cons_zero, List.set_cons_succ]
  refine wpAnyH_take (i := 15) (oi := ({ dst := some 98, op := Go.Op.load 24 (Go.Operand.tmp 97), type := 24, pos := _, after := #[{ on := 14, ground := Go.Ground.data }, { on := 13, ground := Go.Ground.guard }], guard := some (13, true) } : Oper)) (v := ?_) rfl (by kernel_rfl) (by kernel_rfl) (by kernel_rfl) (fun _ _ _ h => h) (Or.inl ⟨by rfl, ?_⟩) (by assumption) ?_
  rotate_left
  · intro W' hSw
    try dsimp only at hSw
    go_simp
    try with_reducible rfl
  try simp only [Act.put, List.setIfInBounds_toArray, List.set_cons_zero, List.set_cons_succ]
  refine wpAnyH_take (i := 17) (oi := ({ dst := some 100, op := Go.Op.indexAddr 25 (Go.Operand.tmp 5) (Go.Operand.const (Go.Value.int Go.IntKind.i64 0)), type := 0, pos := _, after := #[{ on := 13, ground := Go.Ground.guard }], guard := some (13, true) } : Oper)) (v := ?_) rfl (by kernel_rfl) (by kernel_rfl) (by kernel_rfl) (fun _ _ _ h => h) (Or.inl ⟨by rfl, ?_⟩) (by assumption) ?_
  rotate_left
  · intro W' hSw
    try dsimp only at hSw
    go_simp
    try with_reducible rfl
  try simp only [Act.put, List.setIfInBounds_toArray, List.set_cons_zero, List.set_cons_succ]
  refine wpAnyH_take (i := 18) (oi := ({ dst := some 101, op := Go.Op.load 24 (Go.Operand.tmp 100), type := 24, pos := _, after := #[{ on := 17, ground := Go.Ground.data }, { on := 13, ground := Go.Ground.guard }], guard := some (13, true) } : Oper)) (v := ?_) rfl (by kernel_rfl) (by kernel_rfl) (by kernel_rfl) (fun _ _ _ h => h) (Or.inl ⟨by rfl, ?_⟩) (by assumption) ?_
  rotate_left
  · intro W' hSw
    try dsimp only at hSw
    go_simp
    try with_reducible rfl
  try simp only [Act.put, List.setIfInBounds_toArray, List.set_cons_zero, List.set_cons_succ]
  refine wpAnyH_ready (rs := [16]) (by kernel_rfl) (by simp) ?_
  refine AllReadyH.cons (o := ({ dst := some 99, op := Go.Op.call { callee := Go.Callee.value (Go.Operand.func 16), args := #[Go.Operand.tmp 98], argTypes := #[24] }, type := 24, pos := _, after := #[{ on := 15, ground := Go.Ground.data }, { on := 13, ground := Go.Ground.chain }, { on := 13, ground := Go.Ground.guard }], guard := some (13, true) } : Oper)) rfl (fun K hK => ?_) AllReadyH.nil
  go_simp
  refine (near_any f _ hf).mono ?_
  rintro e w' ⟨rfl, rfl⟩
  rw [HNR.out]
  go_wp2_with fail
  refine hK.out _ _ ?_ (fun hHeld => ?_)
  · exact HS.out _ HC7.out
  clear hK K
  try simp only [Act.put, List.setIfInBounds_toArray, List.set_cons_zero, List.set_cons_succ]
  refine wpAnyH_ready (rs := [19]) (by kernel_rfl) (by simp) ?_
  refine AllReadyH.cons (o := ({ dst := some 102, op := Go.Op.call { callee := Go.Callee.value (Go.Operand.func 17), args := #[Go.Operand.tmp 101], argTypes := #[24] }, type := 24, pos := _, after := #[{ on := 18, ground := Go.Ground.data }, { on := 16, ground := Go.Ground.chain }, { on := 13, ground := Go.Ground.guard }], guard := some (13, true) } : Oper)) rfl (fun K hK => ?_) AllReadyH.nil
  go_simp
  refine (rnear_any f _ hf).mono ?_
  rintro e w8 ⟨rfl, hb8⟩
  rw [HNR.out]
  have HC8 := Lib.hid (below_then HC7.out HC7.out.size hb8)
  clear hb8
  go_wp2_with fail
  refine hK.out _ _ ?_ (fun hHeld => ?_)
  · exact HS.out _ HC8.out
  clear hK K
  try simp only [Act.put, List.setIfInBounds_toArray, List.set_cons_zero, List.set_cons_succ]
  refine wpAnyH_take (i := 20) (oi := ({ dst := some 103, op := Go.Op.binOp Go.BinOp.eql 24 (Go.Operand.tmp 99) (Go.Operand.tmp 102) 24, type := 4, pos := _, after := #[{ on := 16, ground := Go.Ground.data }, { on := 19, ground := Go.Ground.data }, { on := 13, ground := Go.Ground.guard }], guard := some (13, true) } : Oper)) (v := ?_) rfl (by kernel_rfl) (by kernel_rfl) (by kernel_rfl) (fun _ _ _ h => h) (Or.inl ⟨by rfl, ?_⟩) (by assumption) ?_
  rotate_left
  · intro W' hSw
    try dsimp only at hSw
    go_simp
    try with_reducible rfl
  try simp only [Act.put, List.setIfInBounds_toArray, List.set_cons_zero, List.set_cons_succ]
  refine wpAnyH_take (i := 21) (oi := ({ dst := some 104, op := Go.Op.pick (Go.Operand.tmp 96) (Go.Operand.tmp 103) (Go.Operand.const (Go.Value.bool false)), type := 4, pos := _, after := #[{ on := 13, ground := Go.Ground.data }, { on := 20, ground := Go.Ground.data }], guard := none } : Oper)) (v := ?_) rfl (by kernel_rfl) (by kernel_rfl) (by kernel_rfl) (fun _ _ _ h => h) (Or.inl ⟨by rfl, ?_⟩) (by assumption) ?_
  rotate_left
  · intro W' hSw
    try dsimp only at hSw
    go_simp
    try with_reducible rfl
  try simp only [Act.put, List.setIfInBounds_toArray, List.set_cons_zero, List.set_cons_succ]
  refine wpAnyH_take (i := 22) (oi := ({ dst := some 6, op := Go.Op.assign (Go.Operand.tmp 104), type := 4, pos := _, after := #[{ on := 21, ground := Go.Ground.data }, { on := 19, ground := Go.Ground.chain }, { on := 0, ground := Go.Ground.phase }, { on := 1, ground := Go.Ground.phase }, { on := 2, ground := Go.Ground.phase }, { on := 3, ground := Go.Ground.phase }, { on := 4, ground := Go.Ground.phase }, { on := 5, ground := Go.Ground.phase }, { on := 6, ground := Go.Ground.phase }, { on := 7, ground := Go.Ground.phase }, { on := 8, ground := Go.Ground.phase }, { on := 9, ground := Go.Ground.phase }, { on := 10, ground := Go.Ground.phase }, { on := 11, ground := Go.Ground.phase }, { on := 12, ground := Go.Ground.phase }, { on := 13, ground := Go.Ground.phase }, { on := 14, ground := Go.Ground.phase }, { on := 15, ground := Go.Ground.phase }, { on := 16, ground := Go.Ground.phase }, { on := 17, ground := Go.Ground.phase }, { on := 18, ground := Go.Ground.phase }, { on := 19, ground := Go.Ground.phase }, { on := 20, ground := Go.Ground.phase }, { on := 21, ground := Go.Ground.phase }], guard := none } : Oper)) (v := ?_) rfl (by kernel_rfl) (by kernel_rfl) (by kernel_rfl) (fun _ _ _ h => h) (Or.inl ⟨by rfl, ?_⟩) (by assumption) ?_
  rotate_left
  · intro W' hSw
    try dsimp only at hSw
    go_simp
    try with_reducible rfl
  try simp only [Act.put, List.setIfInBounds_toArray, List.set_cons_zero, List.set_cons_succ]
  refine wpAnyH_done (by kernel_rfl) ?_ _
  go_wp2
  go_ret
  exact ⟨rfl, HBW.out.trans ((HB6.out.trans (HC8.out.mono z6)).mono (by omega))⟩

end Go.Proofs.YtdoefjhdipkkeaaDoor

namespace Go.Proofs.YtdoefjhdipkkeaaDoor
open Go.ChangeShapes Go.WideShapes Go.ChangeAt Go.RowKit
set_option linter.unusedVariables false


theorem asks_walk (m0 m1 m2 m3 m4 m5 a0 a1 a2 a3 a4 a5 : Int) (f t : ByteArray) (w : World) (hG : Glob w) (hm : Byt [m0, m1, m2, m3, m4, m5]) (ha : Byt [a0, a1, a2, a3, a4, a5]) (hf : f.size ≤ 140737488351232) (ht : t.size ≤ 140737488351232) :
    Calls Tryd.prog 3 #[.agg #[.int .u8 m0, .int .u8 m1, .int .u8 m2, .int .u8 m3, .int .u8 m4, .int .u8 m5], .agg #[.int .u8 a0, .int .u8 a1, .int .u8 a2, .int .u8 a3, .int .u8 a4, .int .u8 a5], .agg #[.string f, .string t]] w fun e w' => e = .returned (.bool true) ∧ Below w.heap.size w w' := by
  have C : (∃ b r, (∀ W, Glob W → Calls Tryd.prog 13 #[.agg #[.int .u8 m0, .int .u8 m1, .int .u8 m2, .int .u8 m3, .int .u8 m4, .int .u8 m5], .string f] W (Ans b r W)) ∧ ∀ W, Calls Tryd.prog 14 #[.agg #[.int .u8 m0, .int .u8 m1, .int .u8 m2, .int .u8 m3, .int .u8 m4, .int .u8 m5], .string f] W (Ans b r W)) := by
    rcases h : rightB f with _ | _
    · exact ⟨[], 1, fun W _ => (claim_no m0 m1 m2 m3 m4 m5 f W h hf).mono fun _ _ h => Ans.no h, fun W => (rclaim_no m0 m1 m2 m3 m4 m5 f W hf (by simp [alikeB, h])).mono fun _ _ h => Ans.no h⟩
    · have h' : f.size = 4 ∨ f.size = 16 := by simpa [rightB] using h
      rcases h' with h1 | h1
      · exact ⟨_, 0, fun W _ => (claim_four m0 m1 m2 m3 m4 m5 f W hm h1).mono fun _ _ h => Ans.sent h (byt_of rfl) hm (by omega) (by omega), fun W => (rclaim_four m0 m1 m2 m3 m4 m5 f W hm h1).mono fun _ _ h => Ans.ref h⟩
      · exact ⟨_, 0, fun W hW => (claim_six m0 m1 m2 m3 m4 m5 f W hW hm h1).mono fun _ _ h => Ans.sent h (byt_of rfl) hm (by omega) (by omega), fun W => (rclaim_six m0 m1 m2 m3 m4 m5 f W hm h1).mono fun _ _ h => Ans.ref h⟩
  obtain ⟨b3, r3, C1, C2⟩ := C
  by_cases h : alikeB f t = true
  · obtain ⟨h1 | h1, h2⟩ := alike_sizes h
    · have h3 : t.size = 4 := by omega
      exact asks_go m0 m1 m2 m3 m4 m5 a0 a1 a2 a3 a4 a5 f t w hG hf _ _ b3 0 0 r3
        (fun W _ => (ask_four m0 m1 m2 m3 m4 m5 f t W hm h1 h3).mono fun _ _ h => Ans.sent h (byt_of rfl) hm (by omega) (by omega)) (fun W => (rask_four m0 m1 m2 m3 m4 m5 f t W hm h1 h3).mono fun _ _ h => Ans.ref h)
        (fun W _ => (tell_four m0 m1 m2 m3 m4 m5 f a0 a1 a2 a3 a4 a5 t W hm ha h1 h3).mono fun _ _ h => Ans.sent h ha hm (by omega) (by omega)) (fun W => (rtell_four m0 m1 m2 m3 m4 m5 f a0 a1 a2 a3 a4 a5 t W hm ha h1 h3).mono fun _ _ h => Ans.ref h) C1 C2
    · have h3 : t.size = 16 := by omega
      exact asks_go m0 m1 m2 m3 m4 m5 a0 a1 a2 a3 a4 a5 f t w hG hf _ _ b3 0 0 r3
        (fun W hW => (ask_six m0 m1 m2 m3 m4 m5 f t W hW hm h1 h3).mono fun _ _ h => Ans.sent h (byt_near t) hm (by omega) (by omega)) (fun W => (rask_six m0 m1 m2 m3 m4 m5 f t W hm h1 h3).mono fun _ _ h => Ans.ref h)
        (fun W hW => (tell_six m0 m1 m2 m3 m4 m5 f a0 a1 a2 a3 a4 a5 t W hW hm ha h1 h3).mono fun _ _ h => Ans.sent h ha hm (by omega) (by omega)) (fun W => (rtell_six m0 m1 m2 m3 m4 m5 f a0 a1 a2 a3 a4 a5 t W hm ha h1 h3).mono fun _ _ h => Ans.ref h) C1 C2
  · have h' : alikeB f t = false := by simpa using h
    exact asks_go m0 m1 m2 m3 m4 m5 a0 a1 a2 a3 a4 a5 f t w hG hf [] [] b3 1 1 r3
      (fun W _ => (ask_no m0 m1 m2 m3 m4 m5 f t W hf ht h').mono fun _ _ h => Ans.no h) (fun W => (rask_no m0 m1 m2 m3 m4 m5 f t W hf ht h').mono fun _ _ h => Ans.no h)
      (fun W _ => (tell_no m0 m1 m2 m3 m4 m5 f a0 a1 a2 a3 a4 a5 t W hf ht h').mono fun _ _ h => Ans.no h) (fun W => (rtell_no m0 m1 m2 m3 m4 m5 f a0 a1 a2 a3 a4 a5 t W hf ht h').mono fun _ _ h => Ans.no h) C1 C2
set_option maxRecDepth 100000 in
theorem neighAsks_lifted (os : Os) (started : os.Started) (H : Type) (enc : TypeId × Value → H) :
    ReturnsInHanded {} Tryd.checked os 3 .any (fun w args => (Rows.neighAsksSpec.pre enc Tryd.prog Tryd.f3 [] false w args ∧ laidMetH Tryd.prog Rows.neighAsksRow.laid w) ∧ sizedMet enc Tryd.prog Tryd.f3 (OpenSpec.ofChange Rows.neighAsksSpec) false w args)
      (Rows.neighAsksSpec.post enc Tryd.prog Tryd.f3 false true false false) := by
  refine returnsInHanded_of_change_and (C := Tryd.checked) (X := fun w _ => laidMetH Tryd.prog Rows.neighAsksRow.laid w) (fun _ _ _ hh h => h.of_heap hh) own started (by kernel_rfl) Tryd.func3
    (ChangeSpec.witness_shaped (enc := enc) (C := Tryd.checked) (os := os) (X := fun w _ => laidMetH Tryd.prog Rows.neighAsksRow.laid w) false (World.doorLaid Tryd.prog 400 os) #[.agg #[.int .u8 0, .int .u8 0, .int .u8 0, .int .u8 0, .int .u8 0, .int .u8 0], .agg #[.int .u8 0, .int .u8 0, .int .u8 0, .int .u8 0, .int .u8 0, .int .u8 0], .agg #[.string ⟨#[]⟩, .string ⟨#[]⟩]] 8 rfl (World.shaped_of_RefB (by kernel_rfl) (by kernel_rfl)) (by kernel_rfl) (by kernel_rfl) (by kernel_rfl) (door_met os _)) ?_
  intro W base args ds gs before hval0 hW hcnd hsz0 hL _
  have hsz : (DataW.weightsEach Tryd.prog (Tryd.f3.params.toList ++ Rows.neighAsksSpec.plain.varTypes Tryd.prog) (ds ++ gs)).all (· ≤ reachBytes) = true := hsz0
  have hG : Glob W := glob_of_laid hL
  have hval : ∀ (j : Nat) t v, Tryd.f3.params[j]? = some t → args[j]? = some v → Value.okWide Tryd.prog W .any base t v := hval0
  have hW' := hW
  obtain ⟨p, q, hA0, hV, rfl, hfz, hnd⟩ := hW
  have hA : DataW.TrodAll enc Tryd.prog W 0 (fun _ => true) true Tryd.f3.params.toList args.toList ds p := hA0
  rw [Tryd.params3] at hA hval hsz
  obtain ⟨v0, vs0, d0, ds0, p0, q0, hargs, rfl, rfl, h0, r0⟩ := trodAll_cons hA
  obtain ⟨v1, vs1, d1, ds1, p1, q1, rfl, rfl, rfl, h1, r1⟩ := trodAll_cons r0
  obtain ⟨v2, vs2, d2, ds2, p2, q2, rfl, rfl, rfl, h2, r2⟩ := trodAll_cons r1
  obtain ⟨rfl, rfl, rfl⟩ := trodAll_nil r2
  obtain rfl : args = #[v0, v1, v2] := by cases args; simp_all
  obtain ⟨rfl, rfl⟩ := trodVars_none hV
  clear hA0 hval0 hL
  have k0 := h0
  have lt0 : ∀ x ∈ p0, x.block < W.heap.size := by obtain ⟨m, hm⟩ := k0; exact DataW.trod_lt m _ _ _ hm
  obtain ⟨x0_0, x0_1, x0_2, x0_3, x0_4, x0_5, rfl, w0_0, w0_1, w0_2, w0_3, w0_4, w0_5⟩ := open_bytes6 Tryd.underlying23 Tryd.underlying5 (by kernel_rfl) (by kernel_rfl) (hval 0 23 v0 rfl rfl) h0
  have k1 := h1
  have lt1 : ∀ x ∈ p1, x.block < W.heap.size := by obtain ⟨m, hm⟩ := k1; exact DataW.trod_lt m _ _ _ hm
  obtain ⟨x1_0, x1_1, x1_2, x1_3, x1_4, x1_5, rfl, w1_0, w1_1, w1_2, w1_3, w1_4, w1_5⟩ := open_bytes6 Tryd.underlying23 Tryd.underlying5 (by kernel_rfl) (by kernel_rfl) (hval 1 23 v1 rfl rfl) h1
  have k2 := h2
  have lt2 : ∀ x ∈ p2, x.block < W.heap.size := by obtain ⟨m, hm⟩ := k2; exact DataW.trod_lt m _ _ _ hm
  obtain ⟨s2, t2, rfl, rfl⟩ := open_two_texts Tryd.underlying25 Tryd.underlying24 (by kernel_rfl) (by kernel_rfl) (hval 2 25 v2 rfl rfl) h2
  obtain ⟨bx2, by2⟩ := two_reach hsz (j := 2) rfl Tryd.underlying25 rfl
  refine (asks_walk x0_0 x0_1 x0_2 x0_3 x0_4 x0_5 x1_0 x1_1 x1_2 x1_3 x1_4 x1_5 s2 t2 W hG (Byt.cons w0_0 (Byt.cons w0_1 (Byt.cons w0_2 (Byt.cons w0_3 (Byt.cons w0_4 (Byt.cons w0_5 Byt.nil)))))) (Byt.cons w1_0 (Byt.cons w1_1 (Byt.cons w1_2 (Byt.cons w1_3 (Byt.cons w1_4 (Byt.cons w1_5 Byt.nil)))))) bx2 by2).mono fun e W' ⟨he, bel⟩ => ?_
  subst he
  exact ⟨_, rfl, _, _, _, [], _, [], hW', trodAll_mk1 (shut_bool Tryd.underlying4 _), (trodAll_cons_mk (Below.trod laidOut (by kernel_rfl) (of_decide_eq_true (by kernel_rfl)) k0 bel lt0) (trodAll_cons_mk (Below.trod laidOut (by kernel_rfl) (of_decide_eq_true (by kernel_rfl)) k1 bel lt1) (trodAll_cons_mk (Below.trod laidOut (by kernel_rfl) (of_decide_eq_true (by kernel_rfl)) k2 bel lt2) trodAll_mk0))), rfl, bel.frame _, fun h => by cases h⟩

theorem neighAsks_row : Rows.NeighAsksSaid :=
  OpenClaim.holds_of_wide 3 Tryd.f3 rfl rfl rfl rfl rfl rfl rfl ⟨rfl, rfl, rfl, rfl, rfl⟩ rfl rfl rfl rfl rfl (by kernel_rfl) Tryd.func3 (by kernel_rfl)
    (of_decide_eq_true (by kernel_rfl)) (by unfold Func.isWrapper; first | (rw [if_pos (by decide +kernel)]; kernel_rfl) | (rw [if_neg (by decide +kernel)]; exact ⟨rfl, rfl⟩))
    (fun os started H enc _ => neighAsks_lifted os started H enc)

/-- The card. -/
theorem neighAsks_holds : Rows.NeighAsksCardSaid :=
  Claim7.holds_tied_plain_at .later [] [.data, .data] true _ false
    neighAsks_row (fun _ h => by cases h) (by kernel_rfl) (fun _ h => by cases h) neighAsks_row_tie rfl ⟨rfl, rfl⟩ (by kernel_rfl) rfl
    (fun f fn hf hfn => by
      obtain rfl : 3 = f := Option.some.inj (Eq.trans (Eq.symm (by kernel_rfl)) hf)
      obtain rfl : fn = Tryd.f3 := (Option.some.inj (Tryd.func3.symm.trans hfn)).symm
      exact ⟨by kernel_rfl, fun j t ht => by
        rw [Tryd.params3] at ht
        have hm : t ∈ [23, 23, 25] := by simpa using Array.mem_of_getElem? ht
        have hall : ([23, 23, 25].all fun u => !Tryd.prog.wantsStandIn u) = true := by kernel_rfl
        exact (show Tryd.prog.wantsStandIn t = false by simpa using List.all_eq_true.1 hall t hm)⟩)
    (by kernel_rfl)
#print axioms neighAsks_holds


end Go.Proofs.YtdoefjhdipkkeaaDoor
