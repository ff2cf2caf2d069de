/-
  What the reference's nd, Ask, Tell and Claim do.
-/
import Derived.Test.YtdoefjhdipkkeaaDoorAskBase
import Derived.Test.YtdoefjhdipkkeaaDoorRpseudo
import Derived.Test.YtdoefjhdipkkeaaDoorRenc6
import Derived.Test.YtdoefjhdipkkeaaDoorERencs
import Derived.Test.YtdoefjhdipkkeaaDoorReadBase
namespace Go.Proofs.YtdoefjhdipkkeaaDoor
open Go.RowKit
set_option linter.unusedVariables false
set_option maxRecDepth 10000


/-- A frame's bytes lie in a slice. -/
def RSent (bs : List Int) (w : World) (e : Ending) (w' : World) : Prop := ∃ A n c, e = .returned (.tuple #[.slice A n c, .int .i64 0]) ∧ Hid (Part w' ⟨A, n, c, bs⟩) ∧ Hid (Below w.heap.size w w')
set_option maxHeartbeats 8000000 in
set_option maxRecDepth 100000 in
/-- outriderref04.nd. -/
theorem rnd_any (m0 m1 m2 m3 m4 m5 a0 a1 a2 a3 a4 a5 : Int) (f t body ps hl body2 : ByteArray) (v : Int) (w : World) (hm : Byt [m0, m1, m2, m3, m4, m5]) (ha : Byt [a0, a1, a2, a3, a4, a5]) (h1 : f.size = 16) (h2 : t.size = 16) (h3 : body.size = 32) (hps : strOfNums (pseu f t 58 32) = ps) (hhl : strOfNums [v / 256, v % 256] = hl)
    (hv : 65535 - fd (tot (pseu f t 58 32 ++ bts body)) = v) (hb2 : body.extract 0 2 ++ hl ++ body.extract 4 32 = body2) (h4 : body2.size = 32) :
    Calls Tryd.prog 33 #[.agg #[.int .u8 m0, .int .u8 m1, .int .u8 m2, .int .u8 m3, .int .u8 m4, .int .u8 m5], .agg #[.int .u8 a0, .int .u8 a1, .int .u8 a2, .int .u8 a3, .int .u8 a4, .int .u8 a5], .agg #[.string f, .string t, .int .i64 0, .int .i64 0, .string ⟨#[]⟩], .string body] w (RSent (E.wire a0 a1 a2 a3 a4 a5 m0 m1 m2 m3 m4 m5 34525 (strOfNums (wire f t 58 255 body2))) w) := by
  have b1 : 0 ≤ v ∧ v ≤ 65535 := by have := fd_bd (tot (pseu f t 58 32 ++ bts body)); omega
  obtain ⟨b1, b2⟩ := b1
  have HW1 := Lib.hid (show IntKind.u8.wrap (IntKind.i64.wrap (v.tdiv 256)) = v / 256 by rw [Int.tdiv_eq_ediv_of_nonneg b1, IntKind.wrap_i64, IntKind.wrap_u8]; omega)
  have HW2 := Lib.hid (show IntKind.u8.wrap (v.tmod 256) = v % 256 by rw [Int.tmod_eq_emod_of_nonneg b1, IntKind.wrap_u8]; omega)
  have lp : ps.size = 40 := by rw [← hps, strOfNums_size, pseu_len f t 58 32 h1 h2]
  have lh : hl.size = 2 := by rw [← hhl, strOfNums_size]; rfl
  have lz : ((ps ++ body).size : Int) = 72 := by rw [ByteArray.size_append, lp, h3]; rfl
  have l1 : (body.extract 0 2).size = 2 := by simp [h3]
  have l2 : (body.extract 4 32).size = 28 := by simp [h3]
  have hb2' : body.extract 0 2 ++ hl ++ body.extract 4 32 = body2 := hb2
  have l12 : (body.extract 0 2 ++ hl).size = 4 := by rw [ByteArray.size_append, l1, lh]
  have HBP := Lib.hid (show bts (ps ++ body) = pseu f t 58 32 ++ bts body by rw [bts_append, ← hps, bts_strOfNums (pseu_byt f t 58 32)])
  have HVV := Lib.hid hv
  have HPS := Lib.hid hps
  have HHL := Lib.hid hhl
  have h3' : (body.size : Int) = 32 := by omega
  have HM := Lib.hid hm
  have HA := Lib.hid ha
  have HOK := Lib.hid (show Okp f t 58 255 body2 by simp [Okp, alikeB, rightB, byteB, headI, h1, h2, h4])
  have HWE := Lib.hid (show wire f t 58 255 body2 = wire6 f t 58 255 body2 by rw [wire, if_pos h1])
  have HRN := Lib.hid (show ∀ W, Calls Tryd.prog 49 #[.agg #[.string f, .string t, .int .i64 58, .int .i64 255, .string body2]] W fun e w' => ∃ g c, e = .returned (.tuple #[.slice (some ⟨g, 0, none⟩) 72 c, .int .i64 0]) ∧ Hid (Own w' W.heap.size g 72 c (wire f t 58 255 body2)) ∧ Hid (Below W.heap.size W w') from fun W => by
    have h := renc_yes6 f t 58 255 body2 W h1 h2 (by omega) (by omega) (by omega)
    rw [h4, ← HWE.out] at h
    exact h)
  have HE := Lib.hid (fun W => E.rencode_yes a0 a1 a2 a3 a4 a5 m0 m1 m2 m3 m4 m5 34525 (strOfNums (wire f t 58 255 body2)) W (ha _ (by simp)) (ha _ (by simp)) (ha _ (by simp)) (ha _ (by simp)) (ha _ (by simp)) (ha _ (by simp)) (hm _ (by simp)) (hm _ (by simp)) (hm _ (by simp)) (hm _ (by simp)) (hm _ (by simp)) (hm _ (by simp)) (by omega) (by omega) (by rw [strOfNums_size, wire_len HOK.out, h4, if_pos h1]; omega))
  have HM6 := Lib.hid (((Box6.new w m0 m1 m2 m3 m4 m5).below ((Below.refl _ _).alloc (Nat.le_refl _) (.cells #[.int .u8 a0, .int .u8 a1, .int .u8 a2, .int .u8 a3, .int .u8 a4, .int .u8 a5] 23)) (by simp)).below ((Below.refl _ _).alloc (Nat.le_refl _) (.cells #[.string f, .string t, .int .i64 0, .int .i64 0, .string ⟨#[]⟩] 72)) (by simp; omega))
  have HA6 := Lib.hid (show Box6 (((w.alloc (.cells #[.int .u8 m0, .int .u8 m1, .int .u8 m2, .int .u8 m3, .int .u8 m4, .int .u8 m5] 23)).alloc (.cells #[.int .u8 a0, .int .u8 a1, .int .u8 a2, .int .u8 a3, .int .u8 a4, .int .u8 a5] 23)).alloc (.cells #[.string f, .string t, .int .i64 0, .int .i64 0, .string ⟨#[]⟩] 72)) (w.heap.size + 1) a0 a1 a2 a3 a4 a5 by have h := (Box6.new (w.alloc (.cells #[.int .u8 m0, .int .u8 m1, .int .u8 m2, .int .u8 m3, .int .u8 m4, .int .u8 m5] 23)) a0 a1 a2 a3 a4 a5).below ((Below.refl _ _).alloc (Nat.le_refl _) (.cells #[.string f, .string t, .int .i64 0, .int .i64 0, .string ⟨#[]⟩] 72)) (by simp); simpa using h)
  have HP6 := Lib.hid (show Boxed (((w.alloc (.cells #[.int .u8 m0, .int .u8 m1, .int .u8 m2, .int .u8 m3, .int .u8 m4, .int .u8 m5] 23)).alloc (.cells #[.int .u8 a0, .int .u8 a1, .int .u8 a2, .int .u8 a3, .int .u8 a4, .int .u8 a5] 23)).alloc (.cells #[.string f, .string t, .int .i64 0, .int .i64 0, .string ⟨#[]⟩] 72)) (w.heap.size + 2) f t 0 0 ⟨#[]⟩ by have h := Boxed.new ((w.alloc (.cells #[.int .u8 m0, .int .u8 m1, .int .u8 m2, .int .u8 m3, .int .u8 m4, .int .u8 m5] 23)).alloc (.cells #[.int .u8 a0, .int .u8 a1, .int .u8 a2, .int .u8 a3, .int .u8 a4, .int .u8 a5] 23)) f t 0 0 ⟨#[]⟩; simpa using h)
  have HB0 := Lib.hid (show Below w.heap.size w (((w.alloc (.cells #[.int .u8 m0, .int .u8 m1, .int .u8 m2, .int .u8 m3, .int .u8 m4, .int .u8 m5] 23)).alloc (.cells #[.int .u8 a0, .int .u8 a1, .int .u8 a2, .int .u8 a3, .int .u8 a4, .int .u8 a5] 23)).alloc (.cells #[.string f, .string t, .int .i64 0, .int .i64 0, .string ⟨#[]⟩] 72)) from (((Below.refl _ _).alloc (Nat.le_refl _) _).alloc (by simp) _).alloc (by simp; omega) _)
  clear hps hhl hv hm ha hb2
  go_enter Tryd.func33, Tryd.ntmps33
  go_wp2_with fail
  refine (rpseudo_six f t 58 32 _ (by omega) (by omega) h1 h2).mono ?_
  rintro e w1 ⟨g1, c1, rfl, ho1, hb1⟩
  have HB1 := Lib.hid (below_then (Below.refl (((w.alloc (.cells #[.int .u8 m0, .int .u8 m1, .int .u8 m2, .int .u8 m3, .int .u8 m4, .int .u8 m5] 23)).alloc (.cells #[.int .u8 a0, .int .u8 a1, .int .u8 a2, .int .u8 a3, .int .u8 a4, .int .u8 a5] 23)).alloc (.cells #[.string f, .string t, .int .i64 0, .int .i64 0, .string ⟨#[]⟩] 72)).heap.size (((w.alloc (.cells #[.int .u8 m0, .int .u8 m1, .int .u8 m2, .int .u8 m3, .int .u8 m4, .int .u8 m5] 23)).alloc (.cells #[.int .u8 a0, .int .u8 a1, .int .u8 a2, .int .u8 a3, .int .u8 a4, .int .u8 a5] 23)).alloc (.cells #[.string f, .string t, .int .i64 0, .int .i64 0, .string ⟨#[]⟩] 72))) (Nat.le_refl _) hb1.out)
  have z1 : w.heap.size + 3 ≤ w1.heap.size := by have := HB1.out.size; simpa using this
  have hcv1 : (convert 26 9 (.slice (some ⟨g1, 0, none⟩) 40 c1)).run Tryd.prog w1 = .ok (.string ps) w1 := by rw [← HPS.out]; exact convert_part (ho1.out.part (pseu_byt f t 58 32)) 9 Tryd.underlying9
  obtain ⟨c5, w5, hr5, ho5, hb5, hz5, -⟩ := conv_bytes w1 w1.heap.size (ps ++ body) 9 Tryd.underlying9 (Nat.le_refl _) (by rw [ByteArray.size_append]; omega) w1.heap.size rfl 72 (by rw [ByteArray.size_append]; omega)
  rw [HBP.out] at ho5
  have HB5 := Lib.hid (below_then HB1.out (by simpa using z1) hb5)
  have z5 : w.heap.size + 3 ≤ w5.heap.size := by omega
  have z5' : w.heap.size + 2 < w5.heap.size := z5
  obtain ⟨q0, q1, q2, q3, q4⟩ := HP6.out.below HB5.out (by simp)
  have hfz : ∀ o, o < 5 → w5.frozen? ⟨w.heap.size + 2, o, none⟩ = false := fun o ho => (HB5.out.frozen (p := ⟨w.heap.size + 2, o, none⟩) (by simp)).trans (by simp [go_sem])
  have f2 := hfz 2 (by omega)
  have f3 := hfz 3 (by omega)
  have f4 := hfz 4 (by omega)
  have HPP := Lib.hid (ho5.part ((pseu_byt f t 58 32).append (bts_byt body)))
  clear hb1 ho1 hz5 ho5 hb5 hfz
  go_wp2_with fail
  refine (rput_any (some ⟨w1.heap.size, 0, none⟩) 72 c5 _ (65535 - v) w5 HPP.out (by omega) (by have := HVV.out; omega)).mono ?_
  rintro e w6 ⟨rfl, rfl⟩
  rw [show (65535 - (65535 - v) : Int) = v by omega]
  have HCV := Lib.hid (show (convert 26 9 (.slice (some ⟨w5.heap.size, 0, none⟩) 2 2)).run Tryd.prog (((w5.setCell ⟨w.heap.size + 2, 2, none⟩ (.int .i64 58)).setCell ⟨w.heap.size + 2, 3, none⟩ (.int .i64 255)).alloc (.cells #[.int .u8 (IntKind.u8.wrap (IntKind.i64.wrap (v.tdiv 256))), .int .u8 (IntKind.u8.wrap (v.tmod 256))] 5)).drew = .ok (.string hl) (((w5.setCell ⟨w.heap.size + 2, 2, none⟩ (.int .i64 58)).setCell ⟨w.heap.size + 2, 3, none⟩ (.int .i64 255)).alloc (.cells #[.int .u8 (IntKind.u8.wrap (IntKind.i64.wrap (v.tdiv 256))), .int .u8 (IntKind.u8.wrap (v.tmod 256))] 5)).drew by
    rw [← HHL.out, HW1.out, HW2.out]
    exact convert_part (w := (((w5.setCell ⟨w.heap.size + 2, 2, none⟩ (.int .i64 58)).setCell ⟨w.heap.size + 2, 3, none⟩ (.int .i64 255)).alloc (.cells #[.int .u8 (v / 256), .int .u8 (v % 256)] 5)).drew) (part_at (w := ((w5.setCell ⟨w.heap.size + 2, 2, none⟩ (.int .i64 58)).setCell ⟨w.heap.size + 2, 3, none⟩ (.int .i64 255))) (t := 5) (zs := [v / 256, v % 256]) (Byt.cons (by omega) (Byt.cons (by omega) Byt.nil)) (N := w5.heap.size) (by simp)) 9 Tryd.underlying9)
  have HCV2 := Lib.hid (show (convert 26 9 (.slice (some ⟨w5.heap.size, 0, none⟩) 2 2)).run Tryd.prog ((((w5.setCell ⟨w.heap.size + 2, 2, none⟩ (.int .i64 58)).setCell ⟨w.heap.size + 2, 3, none⟩ (.int .i64 255)).setCell ⟨w.heap.size + 2, 4, none⟩ (.string body2)).alloc (.cells #[.int .u8 (IntKind.u8.wrap (IntKind.i64.wrap (v.tdiv 256))), .int .u8 (IntKind.u8.wrap (v.tmod 256))] 5)).drew = .ok (.string hl) ((((w5.setCell ⟨w.heap.size + 2, 2, none⟩ (.int .i64 58)).setCell ⟨w.heap.size + 2, 3, none⟩ (.int .i64 255)).setCell ⟨w.heap.size + 2, 4, none⟩ (.string body2)).alloc (.cells #[.int .u8 (IntKind.u8.wrap (IntKind.i64.wrap (v.tdiv 256))), .int .u8 (IntKind.u8.wrap (v.tmod 256))] 5)).drew by
    rw [← HHL.out, HW1.out, HW2.out]
    exact convert_part (w := ((((w5.setCell ⟨w.heap.size + 2, 2, none⟩ (.int .i64 58)).setCell ⟨w.heap.size + 2, 3, none⟩ (.int .i64 255)).setCell ⟨w.heap.size + 2, 4, none⟩ (.string body2)).alloc (.cells #[.int .u8 (v / 256), .int .u8 (v % 256)] 5)).drew) (part_at (w := ((w5.setCell ⟨w.heap.size + 2, 2, none⟩ (.int .i64 58)).setCell ⟨w.heap.size + 2, 3, none⟩ (.int .i64 255)).setCell ⟨w.heap.size + 2, 4, none⟩ (.string body2)) (t := 5) (zs := [v / 256, v % 256]) (Byt.cons (by omega) (Byt.cons (by omega) Byt.nil)) (N := w5.heap.size) (by simp)) 9 Tryd.underlying9)
  have HB7 := Lib.hid (show Below (w.heap.size + 2) (((w.alloc (.cells #[.int .u8 m0, .int .u8 m1, .int .u8 m2, .int .u8 m3, .int .u8 m4, .int .u8 m5] 23)).alloc (.cells #[.int .u8 a0, .int .u8 a1, .int .u8 a2, .int .u8 a3, .int .u8 a4, .int .u8 a5] 23)).alloc (.cells #[.string f, .string t, .int .i64 0, .int .i64 0, .string ⟨#[]⟩] 72)) ((((w5.setCell ⟨w.heap.size + 2, 2, none⟩ (.int .i64 58)).setCell ⟨w.heap.size + 2, 3, none⟩ (.int .i64 255)).setCell ⟨w.heap.size + 2, 4, none⟩ (.string body2)).alloc (.cells #[.int .u8 (IntKind.u8.wrap (IntKind.i64.wrap (v.tdiv 256))), .int .u8 (IntKind.u8.wrap (v.tmod 256))] 5)).drew from below_drew (((((HB5.out.mono (by simp)).setCell (p := ⟨w.heap.size + 2, 2, none⟩) (Nat.le_refl _) _).setCell (p := ⟨w.heap.size + 2, 3, none⟩) (Nat.le_refl _) _).setCell (p := ⟨w.heap.size + 2, 4, none⟩) (Nat.le_refl _) _).alloc (by simp; omega) _))
  go_wp2_with fail
  refine wp_region_held_drew (S := fun W => True) (by kernel_rfl) trivial (fun hHeld => ?_)
  refine wpAnyH_take (i := 0) (oi := ({ dst := some 25, op := Go.Op.move (Go.Operand.tmp 3), type := 9, pos := _, after := #[], guard := none } : Oper)) (v := ?_) rfl (by kernel_rfl) (by kernel_rfl) (by kernel_rfl) (fun _ _ _ h => h) (Or.inl ⟨by rfl, ?_⟩) (by assumption) ?_
  rotate_left
  · intro W' hSw
    try dsimp only at hSw
    go_simp
    try with_reducible rfl
  try simp only [Act.put, List.setIfInBounds_toArray, List.set_cons_zero, List.set_cons_succ]
  refine wpAnyH_take (i := 1) (oi := ({ dst := some 26, op := Go.Op.slice 9 (Go.Operand.tmp 25) none (some (Go.Operand.const (Go.Value.int Go.IntKind.i64 2))) none, type := 9, pos := _, after := #[{ on := 0, ground := Go.Ground.data }], guard := none } : Oper)) (v := ?_) rfl (by kernel_rfl) (by kernel_rfl) (by kernel_rfl) (fun _ _ _ h => h) (Or.inl ⟨by rfl, ?_⟩) (by assumption) ?_
  rotate_left
  · intro W' hSw
    try dsimp only at hSw
    go_simp
    try with_reducible rfl
  try simp only [Act.put, List.setIfInBounds_toArray, List.set_cons_zero, List.set_cons_succ]
  refine wpAnyH_take (i := 2) (oi := ({ dst := some 27, op := Go.Op.move (Go.Operand.tmp 10), type := 3, pos := _, after := #[], guard := none } : Oper)) (v := ?_) rfl (by kernel_rfl) (by kernel_rfl) (by kernel_rfl) (fun _ _ _ h => h) (Or.inl ⟨by rfl, ?_⟩) (by assumption) ?_
  rotate_left
  · intro W' hSw
    try dsimp only at hSw
    go_simp
    try with_reducible rfl
  try simp only [Act.put, List.setIfInBounds_toArray, List.set_cons_zero, List.set_cons_succ]
  refine wpAnyH_take (i := 3) (oi := ({ dst := some 28, op := Go.Op.binOp Go.BinOp.quo 3 (Go.Operand.tmp 27) (Go.Operand.const (Go.Value.int Go.IntKind.i64 256)) 3, type := 3, pos := _, after := #[{ on := 2, ground := Go.Ground.data }], guard := none } : Oper)) (v := ?_) rfl (by kernel_rfl) (by kernel_rfl) (by kernel_rfl) (fun _ _ _ h => h) (Or.inl ⟨by rfl, ?_⟩) (by assumption) ?_
  rotate_left
  · intro W' hSw
    try dsimp only at hSw
    go_simp
    try with_reducible rfl
  try simp only [Act.put, List.setIfInBounds_toArray, List.set_cons_zero, List.set_cons_succ]
  refine wpAnyH_take (i := 4) (oi := ({ dst := some 29, op := Go.Op.convert 3 5 (Go.Operand.tmp 28), type := 5, pos := _, after := #[{ on := 3, ground := Go.Ground.data }], guard := none } : Oper)) (v := ?_) rfl (by kernel_rfl) (by kernel_rfl) (by kernel_rfl) (fun _ _ _ h => h) (Or.inl ⟨by rfl, ?_⟩) (by assumption) ?_
  rotate_left
  · intro W' hSw
    try dsimp only at hSw
    go_simp
    try with_reducible rfl
  try simp only [Act.put, List.setIfInBounds_toArray, List.set_cons_zero, List.set_cons_succ]
  refine wpAnyH_take (i := 5) (oi := ({ dst := some 30, op := Go.Op.move (Go.Operand.tmp 10), type := 3, pos := _, after := #[], guard := none } : Oper)) (v := ?_) rfl (by kernel_rfl) (by kernel_rfl) (by kernel_rfl) (fun _ _ _ h => h) (Or.inl ⟨by rfl, ?_⟩) (by assumption) ?_
  rotate_left
  · intro W' hSw
    try dsimp only at hSw
    go_simp
    try with_reducible rfl
  try simp only [Act.put, List.setIfInBounds_toArray, List.set_cons_zero, List.set_cons_succ]
  refine wpAnyH_take (i := 6) (oi := ({ dst := some 31, op := Go.Op.binOp Go.BinOp.rem 3 (Go.Operand.tmp 30) (Go.Operand.const (Go.Value.int Go.IntKind.i64 256)) 3, type := 3, pos := _, after := #[{ on := 5, ground := Go.Ground.data }], guard := none } : Oper)) (v := ?_) rfl (by kernel_rfl) (by kernel_rfl) (by kernel_rfl) (fun _ _ _ h => h) (Or.inl ⟨by rfl, ?_⟩) (by assumption) ?_
  rotate_left
  · intro W' hSw
    try dsimp only at hSw
    go_simp
    try with_reducible rfl
  try simp only [Act.put, List.setIfInBounds_toArray, List.set_cons_zero, List.set_cons_succ]
  refine wpAnyH_take (i := 7) (oi := ({ dst := some 32, op := Go.Op.convert 3 5 (Go.Operand.tmp 31), type := 5, pos := _, after := #[{ on := 6, ground := Go.Ground.data }], guard := none } : Oper)) (v := ?_) rfl (by kernel_rfl) (by kernel_rfl) (by kernel_rfl) (fun _ _ _ h => h) (Or.inl ⟨by rfl, ?_⟩) (by assumption) ?_
  rotate_left
  · intro W' hSw
    try dsimp only at hSw
    go_simp
    try with_reducible rfl
  try simp only [Act.put, List.setIfInBounds_toArray, List.set_cons_zero, List.set_cons_succ]
  refine wpAnyH_take (i := 11) (oi := ({ dst := some 36, op := Go.Op.move (Go.Operand.tmp 3), type := 9, pos := _, after := #[], guard := none } : Oper)) (v := ?_) rfl (by kernel_rfl) (by kernel_rfl) (by kernel_rfl) (fun _ _ _ h => h) (Or.inl ⟨by rfl, ?_⟩) (by assumption) ?_
  rotate_left
  · intro W' hSw
    try dsimp only at hSw
    go_simp
    try with_reducible rfl
  try simp only [Act.put, List.setIfInBounds_toArray, List.set_cons_zero, List.set_cons_succ]
  refine wpAnyH_take (i := 12) (oi := ({ dst := some 37, op := Go.Op.slice 9 (Go.Operand.tmp 36) (some (Go.Operand.const (Go.Value.int Go.IntKind.i64 4))) none none, type := 9, pos := _, after := #[{ on := 11, ground := Go.Ground.data }], guard := none } : Oper)) (v := ?_) rfl (by kernel_rfl) (by kernel_rfl) (by kernel_rfl) (fun _ _ _ h => h) (Or.inl ⟨by rfl, ?_⟩) (by assumption) ?_
  rotate_left
  · intro W' hSw
    try dsimp only at hSw
    go_simp
    try with_reducible rfl
  try simp only [Act.put, List.setIfInBounds_toArray, List.set_cons_zero, List.set_cons_succ]
  refine wpAnyH_ready (rs := [8]) (by kernel_rfl) (by simp) ?_
  refine AllReadyH.cons (o := ({ dst := some 33, op := Go.Op.buildSlice 26 2 #[(0, Go.Operand.tmp 29), (1, Go.Operand.tmp 32)], type := 26, pos := _, after := #[{ on := 4, ground := Go.Ground.data }, { on := 7, ground := Go.Ground.data }], guard := none } : Oper)) rfl (fun K hK => ?_) AllReadyH.nil
  go_simp
  refine hK.out _ _ ?_ (fun hHeld => ?_)
  · exact trivial
  clear hK K
  try simp only [Act.put, List.setIfInBounds_toArray, List.set_cons_zero, List.set_cons_succ]
  refine wpAnyH_more (S' := fun W => True ∧ (convert 26 9 (.slice (some ⟨w5.heap.size, 0, none⟩) 2 2)).run Tryd.prog W = .ok (.string hl) W) (fun _ h => h.1) _ _ _ _ ?_
  have hHeld2 : (fun W => True ∧ (convert 26 9 (.slice (some ⟨w5.heap.size, 0, none⟩) 2 2)).run Tryd.prog W = .ok (.string hl) W) (((w5.setCell ⟨w.heap.size + 2, 2, none⟩ (.int .i64 58)).setCell ⟨w.heap.size + 2, 3, none⟩ (.int .i64 255)).alloc (.cells #[.int .u8 (IntKind.u8.wrap (IntKind.i64.wrap (v.tdiv 256))), .int .u8 (IntKind.u8.wrap (v.tmod 256))] 5)).drew := ⟨trivial, HCV.out⟩
  clear hHeld
  refine wpAnyH_take (i := 9) (oi := ({ dst := some 34, op := Go.Op.convert 26 9 (Go.Operand.tmp 33), type := 9, pos := _, after := #[{ on := 8, ground := Go.Ground.data }], guard := none } : Oper)) (v := ?_) rfl (by kernel_rfl) (by kernel_rfl) (by kernel_rfl) (fun _ _ _ h => h) (Or.inl ⟨by rfl, ?_⟩) (by assumption) ?_
  rotate_left
  · intro W' hSw
    try dsimp only at hSw
    go_simp
    try with_reducible rfl
  try simp only [Act.put, List.setIfInBounds_toArray, List.set_cons_zero, List.set_cons_succ]
  refine wpAnyH_take (i := 10) (oi := ({ dst := some 35, op := Go.Op.binOp Go.BinOp.add 9 (Go.Operand.tmp 26) (Go.Operand.tmp 34) 9, type := 9, pos := _, after := #[{ on := 1, ground := Go.Ground.data }, { on := 9, ground := Go.Ground.data }], guard := none } : Oper)) (v := ?_) rfl (by kernel_rfl) (by kernel_rfl) (by kernel_rfl) (fun _ _ _ h => h) (Or.inl ⟨by rfl, ?_⟩) (by assumption) ?_
  rotate_left
  · intro W' hSw
    try dsimp only at hSw
    go_simp
    try with_reducible rfl
  try simp only [Act.put, List.setIfInBounds_toArray, List.set_cons_zero, List.set_cons_succ]
  refine wpAnyH_take (i := 13) (oi := ({ dst := some 38, op := Go.Op.binOp Go.BinOp.add 9 (Go.Operand.tmp 35) (Go.Operand.tmp 37) 9, type := 9, pos := _, after := #[{ on := 10, ground := Go.Ground.data }, { on := 12, ground := Go.Ground.data }], guard := none } : Oper)) (v := ?_) rfl (by kernel_rfl) (by kernel_rfl) (by kernel_rfl) (fun _ _ _ h => h) (Or.inl ⟨by rfl, ?_⟩) (by assumption) ?_
  rotate_left
  · intro W' hSw
    try dsimp only at hSw
    go_simp
    try with_reducible rfl
  try simp only [Act.put, List.setIfInBounds_toArray, List.set_cons_zero, List.set_cons_succ]
  refine wpAnyH_take (i := 14) (oi := ({ dst := some 39, op := Go.Op.fieldAddr 72 (Go.Operand.tmp 6) 4, type := 0, pos := _, after := #[{ on := 0, ground := Go.Ground.phase }, { on := 1, ground := Go.Ground.phase }, { on := 2, ground := Go.Ground.phase }, { on := 3, ground := Go.Ground.phase }, { on := 4, ground := Go.Ground.phase }, { on := 5, ground := Go.Ground.phase }, { on := 6, ground := Go.Ground.phase }, { on := 7, ground := Go.Ground.phase }, { on := 8, ground := Go.Ground.phase }, { on := 9, ground := Go.Ground.phase }, { on := 10, ground := Go.Ground.phase }, { on := 11, ground := Go.Ground.phase }, { on := 12, ground := Go.Ground.phase }, { on := 13, ground := Go.Ground.phase }], guard := none } : Oper)) (v := ?_) rfl (by kernel_rfl) (by kernel_rfl) (by kernel_rfl) (fun _ _ _ h => h) (Or.inl ⟨by rfl, ?_⟩) (by assumption) ?_
  rotate_left
  · intro W' hSw
    try dsimp only at hSw
    go_simp
    try with_reducible rfl
  try simp only [Act.put, List.setIfInBounds_toArray, List.set_cons_zero, List.set_cons_succ]
  refine wpAnyH_ready (rs := [15]) (by kernel_rfl) (by simp) ?_
  refine AllReadyH.cons (o := ({ dst := none, op := Go.Op.store 9 (Go.Operand.tmp 39) (Go.Operand.tmp 38), type := 0, pos := _, after := #[{ on := 14, ground := Go.Ground.data }, { on := 13, ground := Go.Ground.data }, { on := 0, ground := Go.Ground.phase }, { on := 1, ground := Go.Ground.phase }, { on := 2, ground := Go.Ground.phase }, { on := 3, ground := Go.Ground.phase }, { on := 4, ground := Go.Ground.phase }, { on := 5, ground := Go.Ground.phase }, { on := 6, ground := Go.Ground.phase }, { on := 7, ground := Go.Ground.phase }, { on := 8, ground := Go.Ground.phase }, { on := 9, ground := Go.Ground.phase }, { on := 10, ground := Go.Ground.phase }, { on := 11, ground := Go.Ground.phase }, { on := 12, ground := Go.Ground.phase }, { on := 13, ground := Go.Ground.phase }], guard := none } : Oper)) rfl (fun K hK => ?_) AllReadyH.nil
  go_simp
  refine hK.out _ _ ?_ (fun hHeld => ?_)
  · exact ⟨trivial, HCV2.out⟩
  clear hK K
  try simp only [Act.put, List.setIfInBounds_toArray, List.set_cons_zero, List.set_cons_succ]
  refine wpAnyH_done (by kernel_rfl) ?_ _
  go_wp2_with fail
  refine (HRN.out _).mono ?_
  rintro e w8 ⟨g8, c8, rfl, ho8, hb8⟩
  have HB7s := HB7.out
  rw [HW1.out, HW2.out] at HB7s
  have HB8 := Lib.hid (below_then HB7s (by simp; omega) hb8.out)
  clear HB7s
  have z8 : w.heap.size + 3 ≤ w8.heap.size := by have := hb8.out.size; simp at this; omega
  obtain ⟨x0, x1, x2, x3, x4, x5⟩ := HM6.out.below HB8.out (by omega)
  obtain ⟨y0, y1, y2, y3, y4, y5⟩ := HA6.out.below HB8.out (by omega)
  have hcv8 : (convert 26 9 (.slice (some ⟨g8, 0, none⟩) 72 c8)).run Tryd.prog w8 = .ok (.string (strOfNums (wire f t 58 255 body2))) w8 := convert_part (ho8.out.part (wire_byt HOK.out)) 9 Tryd.underlying9
  clear hb8 ho8
  go_wp2_with fail
  refine (HE.out _).mono ?_
  rintro e w9 ⟨A9, c9, rfl, hp9, hb9⟩
  have HP9 := Lib.hid hp9
  have HB9 := Lib.hid ((HB0.out.trans (HB8.out.mono (by omega))).trans (hb9.mono (by omega)))
  clear hb9 hp9
  go_wp2
  go_ret2
  exact ⟨_, _, _, rfl, HP9, HB9⟩

end Go.Proofs.YtdoefjhdipkkeaaDoor

namespace Go.Proofs.YtdoefjhdipkkeaaDoor
open Go.RowKit
set_option linter.unusedVariables false
set_option maxRecDepth 10000


theorem text_at (m0 m1 m2 m3 m4 m5 : Int) (tm : ByteArray) (w : World) (hm : Byt [m0, m1, m2, m3, m4, m5]) (h : strOfNums [m0, m1, m2, m3, m4, m5] = tm) :
    Calls Tryd.prog 32 #[.agg #[.int .u8 m0, .int .u8 m1, .int .u8 m2, .int .u8 m3, .int .u8 m4, .int .u8 m5]] w fun e w' => e = .returned (.string tm) ∧ Below w.heap.size w w' := by subst h; exact text_any m0 m1 m2 m3 m4 m5 w hm
theorem arp_at (k : Int) (s t r : ByteArray) (w : World) (hk : 0 ≤ k ∧ k ≤ 255) (hs : s.size ≤ 1000) (ht : t.size ≤ 1000) (h : strOfNums ([0, 1, 8, 0, 6, 4, 0, k] ++ bts s ++ bts t) = r) :
    Calls Tryd.prog 31 #[.int .u8 k, .string s, .string t] w fun e w' => e = .returned (.string r) ∧ Below w.heap.size w w' := by subst h; exact arp_any k s t w hk hs ht
theorem rnd_at (m0 m1 m2 m3 m4 m5 a0 a1 a2 a3 a4 a5 f0 f1 f2 f3 fl : Int) (f t g body : ByteArray) (w : World) (hm : Byt [m0, m1, m2, m3, m4, m5]) (ha : Byt [a0, a1, a2, a3, a4, a5]) (h0 : Byt [f0, f1, f2, f3]) (hl : 0 ≤ fl ∧ fl ≤ 255) (h1 : f.size = 16) (h2 : t.size = 16) (h3 : g.size = 16) (hb : bts body = (ndB f0 f1 0 0 fl g f2 f3 [m0, m1, m2, m3, m4, m5])) :
    Calls Tryd.prog 33 #[.agg #[.int .u8 m0, .int .u8 m1, .int .u8 m2, .int .u8 m3, .int .u8 m4, .int .u8 m5], .agg #[.int .u8 a0, .int .u8 a1, .int .u8 a2, .int .u8 a3, .int .u8 a4, .int .u8 a5], .agg #[.string f, .string t, .int .i64 0, .int .i64 0, .string ⟨#[]⟩], .string body] w (RSent (E.wire a0 a1 a2 a3 a4 a5 m0 m1 m2 m3 m4 m5 34525 (strOfNums (wire f t 58 255 (strOfNums (ndS f t f0 f1 fl g f2 f3 [m0, m1, m2, m3, m4, m5]))))) w) := by
  have hz : body.size = 32 := by rw [← bts_len, hb, ndB_len, h3]; rfl
  obtain ⟨b1, b2⟩ := ndV_bd f t f0 f1 fl g f2 f3 [m0, m1, m2, m3, m4, m5]
  have bR : Byt (ndR fl g f2 f3 [m0, m1, m2, m3, m4, m5]) := ndR_byt hl (Byt.cons (h0 _ (by simp)) (Byt.cons (h0 _ (by simp)) Byt.nil)) hm
  refine rnd_any m0 m1 m2 m3 m4 m5 a0 a1 a2 a3 a4 a5 f t body _ _ (strOfNums (ndS f t f0 f1 fl g f2 f3 [m0, m1, m2, m3, m4, m5])) (ndV f t f0 f1 fl g f2 f3 [m0, m1, m2, m3, m4, m5]) w hm ha h1 h2 hz rfl rfl (by rw [hb]; rfl) ?_ (by rw [strOfNums_size, ndS, ndB_len, h3]; rfl)
  apply bts_inj
  have bS : Byt (ndS f t f0 f1 fl g f2 f3 [m0, m1, m2, m3, m4, m5]) := ndB_byt (Byt.cons (h0 _ (by simp)) (Byt.cons (h0 _ (by simp)) (Byt.cons (by omega) (Byt.cons (by omega) Byt.nil)))) hl (Byt.cons (h0 _ (by simp)) (Byt.cons (h0 _ (by simp)) Byt.nil)) hm
  rw [bts_append, bts_append, bts_extract, bts_extract, bts_strOfNums (show Byt [ndV f t f0 f1 fl g f2 f3 [m0, m1, m2, m3, m4, m5] / 256, ndV f t f0 f1 fl g f2 f3 [m0, m1, m2, m3, m4, m5] % 256] from Byt.cons (by omega) (Byt.cons (by omega) Byt.nil)), bts_strOfNums bS, hb]
  have lR : (ndR fl g f2 f3 [m0, m1, m2, m3, m4, m5]).length = 28 := by rw [ndR_len, h3]; rfl
  rw [show List.take (32 - 4) (List.drop 4 (ndB f0 f1 0 0 fl g f2 f3 [m0, m1, m2, m3, m4, m5])) = ndR fl g f2 f3 [m0, m1, m2, m3, m4, m5] from List.take_of_length_le (by show (ndR fl g f2 f3 [m0, m1, m2, m3, m4, m5]).length ≤ 28; omega)]
  rfl
theorem body_nd (f0 f1 fl f2 f3 : UInt8) (g tm : ByteArray) (m0 m1 m2 m3 m4 m5 : Int) (hm : Byt [m0, m1, m2, m3, m4, m5]) (h : strOfNums [m0, m1, m2, m3, m4, m5] = tm) : bts (ByteArray.mk #[f0, f1, 0, 0, fl, 0, 0, 0] ++ g ++ ByteArray.mk #[f2, f3] ++ tm) = ndB f0.toNat f1.toNat 0 0 fl.toNat g f2.toNat f3.toNat [m0, m1, m2, m3, m4, m5] := by
  rw [bts_append, bts_append, bts_append, ← h, bts_strOfNums hm]
  rfl
theorem body_arp (k : Int) (s t tm to : ByteArray) (m0 m1 m2 m3 m4 m5 o0 o1 o2 o3 o4 o5 : Int) (hm : Byt [m0, m1, m2, m3, m4, m5]) (ho : Byt [o0, o1, o2, o3, o4, o5]) (h : strOfNums [m0, m1, m2, m3, m4, m5] = tm) (h' : strOfNums [o0, o1, o2, o3, o4, o5] = to) : strOfNums ([0, 1, 8, 0, 6, 4, 0, k] ++ bts (tm ++ s) ++ bts (to ++ t)) = strOfNums (arpB k [m0, m1, m2, m3, m4, m5] s [o0, o1, o2, o3, o4, o5] t) := by
  rw [bts_append, bts_append, ← h, ← h', bts_strOfNums hm, bts_strOfNums ho, arpB]
  simp only [List.append_assoc]

end Go.Proofs.YtdoefjhdipkkeaaDoor

namespace Go.Proofs.YtdoefjhdipkkeaaDoor
open Go.RowKit
set_option linter.unusedVariables false
set_option maxRecDepth 10000

set_option maxHeartbeats 1000000 in
theorem rask_no (m0 m1 m2 m3 m4 m5 : Int) (f t : ByteArray) (w : World) (hf : f.size ≤ 140737488351232) (ht : t.size ≤ 140737488351232) (h : alikeB f t = false) :
    Calls Tryd.prog 10 #[.agg #[.int .u8 m0, .int .u8 m1, .int .u8 m2, .int .u8 m3, .int .u8 m4, .int .u8 m5], .string f, .string t] w (Refused w) := by
  have HK := Lib.hid (show kindI f t = 0 by rw [kindI, h]; rfl)
  clear h
  go_enter Tryd.func10, Tryd.ntmps10
  go_wp2_with fail
  refine (kind_any f t _ (by omega) (by omega)).mono ?_
  rintro e w' ⟨rfl, rfl⟩
  rw [HK.out]
  go_wp2
  go_ret2
  exact ⟨rfl, (Below.refl _ _).alloc (Nat.le_refl _) _⟩
set_option maxHeartbeats 1000000 in
theorem rtell_no (m0 m1 m2 m3 m4 m5 : Int) (f : ByteArray) (a0 a1 a2 a3 a4 a5 : Int) (t : ByteArray) (w : World) (hf : f.size ≤ 140737488351232) (ht : t.size ≤ 140737488351232) (h : alikeB f t = false) :
    Calls Tryd.prog 12 #[.agg #[.int .u8 m0, .int .u8 m1, .int .u8 m2, .int .u8 m3, .int .u8 m4, .int .u8 m5], .string f, .agg #[.int .u8 a0, .int .u8 a1, .int .u8 a2, .int .u8 a3, .int .u8 a4, .int .u8 a5], .string t] w (Refused w) := by
  have HK := Lib.hid (show kindI f t = 0 by rw [kindI, h]; rfl)
  clear h
  go_enter Tryd.func12, Tryd.ntmps12
  go_wp2_with fail
  refine (kind_any f t _ (by omega) (by omega)).mono ?_
  rintro e w' ⟨rfl, rfl⟩
  rw [HK.out]
  go_wp2
  go_ret2
  exact ⟨rfl, ((Below.refl _ _).alloc (Nat.le_refl _) _).alloc (by simp) _⟩
set_option maxHeartbeats 1000000 in
theorem rclaim_no (m0 m1 m2 m3 m4 m5 : Int) (f : ByteArray) (w : World) (hf : f.size ≤ 140737488351232) (h : alikeB f f = false) :
    Calls Tryd.prog 14 #[.agg #[.int .u8 m0, .int .u8 m1, .int .u8 m2, .int .u8 m3, .int .u8 m4, .int .u8 m5], .string f] w (Refused w) := by
  have HK := Lib.hid (show kindI f f = 0 by rw [kindI, h]; rfl)
  clear h
  go_enter Tryd.func14, Tryd.ntmps14
  go_wp2_with fail
  refine (kind_any f f _ (by omega) (by omega)).mono ?_
  rintro e w' ⟨rfl, rfl⟩
  rw [HK.out]
  go_wp2
  go_ret2
  exact ⟨rfl, (Below.refl _ _).alloc (Nat.le_refl _) _⟩
set_option maxHeartbeats 4000000 in
set_option maxRecDepth 100000 in
theorem rask_four (m0 m1 m2 m3 m4 m5 : Int) (f t : ByteArray) (w : World) (hm : Byt [m0, m1, m2, m3, m4, m5]) (h1 : f.size = 4) (h2 : t.size = 4) :
    Calls Tryd.prog 10 #[.agg #[.int .u8 m0, .int .u8 m1, .int .u8 m2, .int .u8 m3, .int .u8 m4, .int .u8 m5], .string f, .string t] w (RSent (E.wire 255 255 255 255 255 255 m0 m1 m2 m3 m4 m5 2054 (strOfNums (arpB 1 [m0, m1, m2, m3, m4, m5] f [0, 0, 0, 0, 0, 0] t))) w) := by
  have HK := Lib.hid (show kindI f t = 4 by simp [kindI, alikeB, rightB, h1, h2])
  have HM := Lib.hid hm
  obtain ⟨tm, htm⟩ : ∃ tm, strOfNums [m0, m1, m2, m3, m4, m5] = tm := ⟨_, rfl⟩
  have lm : tm.size = 6 := by rw [← htm, strOfNums_size]; rfl
  have HTM := Lib.hid htm
  obtain ⟨zz, hzz⟩ : ∃ z : ByteArray, strOfNums [0, 0, 0, 0, 0, 0] = z := ⟨_, rfl⟩
  have hz' : (⟨#[0, 0, 0, 0, 0, 0]⟩ : ByteArray) = zz := hzz
  have lz : zz.size = 6 := by rw [← hzz]; rfl
  obtain ⟨r, hr⟩ : ∃ r, strOfNums (arpB 1 [m0, m1, m2, m3, m4, m5] f [0, 0, 0, 0, 0, 0] t) = r := ⟨_, rfl⟩
  have lr : r.size = 28 := by rw [← hr, strOfNums_size, arpB_len, h1, h2]; rfl
  have HRR := Lib.hid ((body_arp 1 f t tm zz m0 m1 m2 m3 m4 m5 0 0 0 0 0 0 hm (byt_of rfl) htm hzz).trans hr)
  rw [hr]
  have HE := Lib.hid (show ∀ W, Calls Tryd.prog 29 #[.agg #[.int .u8 255, .int .u8 255, .int .u8 255, .int .u8 255, .int .u8 255, .int .u8 255, .int .u8 m0, .int .u8 m1, .int .u8 m2, .int .u8 m3, .int .u8 m4, .int .u8 m5, .int .i64 2054, .string r]] W (E.EncIs 42 (E.wire 255 255 255 255 255 255 m0 m1 m2 m3 m4 m5 2054 r) W) from fun W => by
    have h := E.rencode_yes 255 255 255 255 255 255 m0 m1 m2 m3 m4 m5 2054 r W (by omega) (by omega) (by omega) (by omega) (by omega) (by omega) (hm _ (by simp)) (hm _ (by simp)) (hm _ (by simp)) (hm _ (by simp)) (hm _ (by simp)) (hm _ (by simp)) (by omega) (by omega) (by omega)
    rw [lr] at h
    exact h)
  have HX := Lib.hid (Box6.new w m0 m1 m2 m3 m4 m5)
  have HB0 := Lib.hid (show Below (w.heap.size + 1) (w.alloc (.cells #[.int .u8 m0, .int .u8 m1, .int .u8 m2, .int .u8 m3, .int .u8 m4, .int .u8 m5] 23)) (w.alloc (.cells #[.int .u8 m0, .int .u8 m1, .int .u8 m2, .int .u8 m3, .int .u8 m4, .int .u8 m5] 23)).drew from below_drew (Below.refl _ _))
  clear hm htm hr hzz
  go_enter Tryd.func10, Tryd.ntmps10
  go_wp2_with fail
  refine (kind_any f t _ (by omega) (by omega)).mono ?_
  rintro e w' ⟨rfl, rfl⟩
  rw [HK.out]
  go_wp2_with fail
  refine wp_region_held_drew (S := fun W => W.cell? ⟨w.heap.size, 0, none⟩ = some (.int .u8 m0) ∧ W.cell? ⟨w.heap.size, 1, none⟩ = some (.int .u8 m1) ∧ W.cell? ⟨w.heap.size, 2, none⟩ = some (.int .u8 m2) ∧ W.cell? ⟨w.heap.size, 3, none⟩ = some (.int .u8 m3) ∧ W.cell? ⟨w.heap.size, 4, none⟩ = some (.int .u8 m4) ∧ W.cell? ⟨w.heap.size, 5, none⟩ = some (.int .u8 m5)) (by kernel_rfl) (HX.out.below HB0.out (by omega)) (fun hHeld => ?_)
  refine wpAnyH_take (i := 1) (oi := ({ dst := some 17, op := Go.Op.load 23 (Go.Operand.tmp 3), type := 23, pos := _, after := #[], guard := none } : Oper)) (v := ?_) rfl (by kernel_rfl) (by kernel_rfl) (by kernel_rfl) (fun _ _ _ h => h) (Or.inl ⟨by rfl, ?_⟩) (by assumption) ?_
  rotate_left
  · intro W' hSw
    try dsimp only at hSw
    go_simp
    try with_reducible rfl
  try simp only [Act.put, List.setIfInBounds_toArray, List.set_cons_zero, List.set_cons_succ]
  refine wpAnyH_take (i := 2) (oi := ({ dst := some 18, op := Go.Op.load 23 (Go.Operand.tmp 3), type := 23, pos := _, after := #[], guard := none } : Oper)) (v := ?_) rfl (by kernel_rfl) (by kernel_rfl) (by kernel_rfl) (fun _ _ _ h => h) (Or.inl ⟨by rfl, ?_⟩) (by assumption) ?_
  rotate_left
  · intro W' hSw
    try dsimp only at hSw
    go_simp
    try with_reducible rfl
  try simp only [Act.put, List.setIfInBounds_toArray, List.set_cons_zero, List.set_cons_succ]
  refine wpAnyH_take (i := 4) (oi := ({ dst := some 20, op := Go.Op.move (Go.Operand.tmp 1), type := 24, pos := _, after := #[], guard := none } : Oper)) (v := ?_) rfl (by kernel_rfl) (by kernel_rfl) (by kernel_rfl) (fun _ _ _ h => h) (Or.inl ⟨by rfl, ?_⟩) (by assumption) ?_
  rotate_left
  · intro W' hSw
    try dsimp only at hSw
    go_simp
    try with_reducible rfl
  try simp only [Act.put, List.setIfInBounds_toArray, List.set_cons_zero, List.set_cons_succ]
  refine wpAnyH_take (i := 6) (oi := ({ dst := some 22, op := Go.Op.move (Go.Operand.tmp 2), type := 24, pos := _, after := #[], guard := none } : Oper)) (v := ?_) rfl (by kernel_rfl) (by kernel_rfl) (by kernel_rfl) (fun _ _ _ h => h) (Or.inl ⟨by rfl, ?_⟩) (by assumption) ?_
  rotate_left
  · intro W' hSw
    try dsimp only at hSw
    go_simp
    try with_reducible rfl
  try simp only [Act.put, List.setIfInBounds_toArray, List.set_cons_zero, List.set_cons_succ]
  refine wpAnyH_take (i := 7) (oi := ({ dst := some 23, op := Go.Op.binOp Go.BinOp.add 9 (Go.Operand.const (Go.Value.string { data := #[0, 0, 0, 0, 0, 0] })) (Go.Operand.tmp 22) 9, type := 9, pos := _, after := #[{ on := 6, ground := Go.Ground.data }], guard := none } : Oper)) (v := ?_) rfl (by kernel_rfl) (by kernel_rfl) (by kernel_rfl) (fun _ _ _ h => h) (Or.inl ⟨by rfl, ?_⟩) (by assumption) ?_
  rotate_left
  · intro W' hSw
    try dsimp only at hSw
    go_simp
    try with_reducible rfl
  try simp only [Act.put, List.setIfInBounds_toArray, List.set_cons_zero, List.set_cons_succ]
  refine wpAnyH_ready (rs := [0]) (by kernel_rfl) (by simp) ?_
  refine AllReadyH.cons (o := ({ dst := some 16, op := Go.Op.call { callee := Go.Callee.value (Go.Operand.func 30), args := #[], argTypes := #[] }, type := 23, pos := _, after := #[], guard := none } : Oper)) rfl (fun K hK => ?_) AllReadyH.nil
  go_simp
  refine (rall_any _).mono ?_
  rintro e w1 ⟨rfl, hb1⟩
  have HB1 := Lib.hid (below_then HB0.out (by simp) hb1)
  have z1 : w.heap.size + 1 ≤ w1.heap.size := by have := HB1.out.size; simpa using this
  clear hb1
  go_wp2_with fail
  refine hK.out _ _ ?_ (fun hHeld => ?_)
  · exact HX.out.below HB1.out (by omega)
  clear hK K
  try simp only [Act.put, List.setIfInBounds_toArray, List.set_cons_zero, List.set_cons_succ]
  refine wpAnyH_ready (rs := [3]) (by kernel_rfl) (by simp) ?_
  refine AllReadyH.cons (o := ({ dst := some 19, op := Go.Op.call { callee := Go.Callee.value (Go.Operand.func 32), args := #[Go.Operand.tmp 18], argTypes := #[23] }, type := 9, pos := _, after := #[{ on := 2, ground := Go.Ground.data }, { on := 0, ground := Go.Ground.chain }], guard := none } : Oper)) rfl (fun K hK => ?_) AllReadyH.nil
  go_simp
  refine (text_at m0 m1 m2 m3 m4 m5 tm _ HM.out HTM.out).mono ?_
  rintro e w2 ⟨rfl, hb2⟩
  have HB2 := Lib.hid (below_then HB1.out (z1) hb2)
  have z2 : w.heap.size + 1 ≤ w2.heap.size := by have := HB2.out.size; simpa using this
  clear hb2
  go_wp2_with fail
  refine hK.out _ _ ?_ (fun hHeld => ?_)
  · exact HX.out.below HB2.out (by omega)
  clear hK K
  try simp only [Act.put, List.setIfInBounds_toArray, List.set_cons_zero, List.set_cons_succ]
  refine wpAnyH_take (i := 5) (oi := ({ dst := some 21, op := Go.Op.binOp Go.BinOp.add 9 (Go.Operand.tmp 19) (Go.Operand.tmp 20) 9, type := 9, pos := _, after := #[{ on := 3, ground := Go.Ground.data }, { on := 4, ground := Go.Ground.data }], guard := none } : Oper)) (v := ?_) rfl (by kernel_rfl) (by kernel_rfl) (by kernel_rfl) (fun _ _ _ h => h) (Or.inl ⟨by rfl, ?_⟩) (by assumption) ?_
  rotate_left
  · intro W' hSw
    try dsimp only at hSw
    go_simp
    try with_reducible rfl
  try simp only [Act.put, List.setIfInBounds_toArray, List.set_cons_zero, List.set_cons_succ]
  refine wpAnyH_ready (rs := [8]) (by kernel_rfl) (by simp) ?_
  refine AllReadyH.cons (o := ({ dst := some 24, op := Go.Op.call { callee := Go.Callee.value (Go.Operand.func 31), args := #[Go.Operand.const (Go.Value.int Go.IntKind.u8 1), Go.Operand.tmp 21, Go.Operand.tmp 23], argTypes := #[5, 9, 9] }, type := 9, pos := _, after := #[{ on := 5, ground := Go.Ground.data }, { on := 7, ground := Go.Ground.data }, { on := 3, ground := Go.Ground.chain }], guard := none } : Oper)) rfl (fun K hK => ?_) AllReadyH.nil
  go_simp
  refine (arp_at 1 (tm ++ f) (zz ++ t) r _ (by omega) (by rw [ByteArray.size_append]; omega) (by rw [ByteArray.size_append]; omega) HRR.out).mono ?_
  rintro e w3 ⟨rfl, hb3⟩
  have HB3 := Lib.hid (below_then HB2.out (z2) hb3)
  have z3 : w.heap.size + 1 ≤ w3.heap.size := by have := HB3.out.size; simpa using this
  clear hb3
  go_wp2_with fail
  refine hK.out _ _ ?_ (fun hHeld => ?_)
  · exact HX.out.below HB3.out (by omega)
  clear hK K
  try simp only [Act.put, List.setIfInBounds_toArray, List.set_cons_zero, List.set_cons_succ]
  refine wpAnyH_take (i := 9) (oi := ({ dst := some 25, op := Go.Op.build 36 #[(0, Go.Operand.tmp 16), (1, Go.Operand.tmp 17), (2, Go.Operand.const (Go.Value.int Go.IntKind.i64 2054)), (3, Go.Operand.tmp 24)], type := 36, pos := _, after := #[{ on := 0, ground := Go.Ground.data }, { on := 1, ground := Go.Ground.data }, { on := 8, ground := Go.Ground.data }], guard := none } : Oper)) (v := ?_) rfl (by kernel_rfl) (by kernel_rfl) (by kernel_rfl) (fun _ _ _ h => h) (Or.inl ⟨by rfl, ?_⟩) (by assumption) ?_
  rotate_left
  · intro W' hSw
    try dsimp only at hSw
    go_simp
    try with_reducible rfl
  try simp only [Act.put, List.setIfInBounds_toArray, List.set_cons_zero, List.set_cons_succ]
  refine wpAnyH_ready (rs := [10]) (by kernel_rfl) (by simp) ?_
  refine AllReadyH.cons (o := ({ dst := some 26, op := Go.Op.call { callee := Go.Callee.value (Go.Operand.func 29), args := #[Go.Operand.tmp 25], argTypes := #[36] }, type := 28, pos := _, after := #[{ on := 9, ground := Go.Ground.data }, { on := 8, ground := Go.Ground.chain }], guard := none } : Oper)) rfl (fun K hK => ?_) AllReadyH.nil
  go_simp
  refine (HE.out w3).mono ?_
  rintro e w4 ⟨A, c, rfl, hp, hb⟩
  have HP4 := Lib.hid hp
  have HB4 := Lib.hid (below_then HB3.out z3 hb)
  clear hb hp
  go_wp2_with fail
  refine hK.out _ _ ?_ (fun hHeld => ?_)
  · exact HX.out.below HB4.out (by omega)
  clear hK K
  try simp only [Act.put, List.setIfInBounds_toArray, List.set_cons_zero, List.set_cons_succ]
  refine wpAnyH_take (i := 11) (oi := ({ dst := some 27, op := Go.Op.extract (Go.Operand.tmp 26) 0, type := 26, pos := _, after := #[{ on := 10, ground := Go.Ground.data }], guard := none } : Oper)) (v := ?_) rfl (by kernel_rfl) (by kernel_rfl) (by kernel_rfl) (fun _ _ _ h => h) (Or.inl ⟨by rfl, ?_⟩) (by assumption) ?_
  rotate_left
  · intro W' hSw
    try dsimp only at hSw
    go_simp
    try with_reducible rfl
  try simp only [Act.put, List.setIfInBounds_toArray, List.set_cons_zero, List.set_cons_succ]
  refine wpAnyH_take (i := 12) (oi := ({ dst := some 28, op := Go.Op.extract (Go.Operand.tmp 26) 1, type := 27, pos := _, after := #[{ on := 10, ground := Go.Ground.data }], guard := none } : Oper)) (v := ?_) rfl (by kernel_rfl) (by kernel_rfl) (by kernel_rfl) (fun _ _ _ h => h) (Or.inl ⟨by rfl, ?_⟩) (by assumption) ?_
  rotate_left
  · intro W' hSw
    try dsimp only at hSw
    go_simp
    try with_reducible rfl
  try simp only [Act.put, List.setIfInBounds_toArray, List.set_cons_zero, List.set_cons_succ]
  refine wpAnyH_take (i := 13) (oi := ({ dst := some 6, op := Go.Op.assign (Go.Operand.tmp 27), type := 26, pos := _, after := #[{ on := 11, ground := Go.Ground.data }, { on := 10, ground := Go.Ground.chain }, { on := 0, ground := Go.Ground.phase }, { on := 1, ground := Go.Ground.phase }, { on := 2, ground := Go.Ground.phase }, { on := 3, ground := Go.Ground.phase }, { on := 4, ground := Go.Ground.phase }, { on := 5, ground := Go.Ground.phase }, { on := 6, ground := Go.Ground.phase }, { on := 7, ground := Go.Ground.phase }, { on := 8, ground := Go.Ground.phase }, { on := 9, ground := Go.Ground.phase }, { on := 10, ground := Go.Ground.phase }, { on := 11, ground := Go.Ground.phase }, { on := 12, ground := Go.Ground.phase }], guard := none } : Oper)) (v := ?_) rfl (by kernel_rfl) (by kernel_rfl) (by kernel_rfl) (fun _ _ _ h => h) (Or.inl ⟨by rfl, ?_⟩) (by assumption) ?_
  rotate_left
  · intro W' hSw
    try dsimp only at hSw
    go_simp
    try with_reducible rfl
  try simp only [Act.put, List.setIfInBounds_toArray, List.set_cons_zero, List.set_cons_succ]
  refine wpAnyH_take (i := 14) (oi := ({ dst := some 7, op := Go.Op.assign (Go.Operand.tmp 28), type := 27, pos := _, after := #[{ on := 12, ground := Go.Ground.data }, { on := 13, ground := Go.Ground.chain }, { on := 0, ground := Go.Ground.phase }, { on := 1, ground := Go.Ground.phase }, { on := 2, ground := Go.Ground.phase }, { on := 3, ground := Go.Ground.phase }, { on := 4, ground := Go.Ground.phase }, { on := 5, ground := Go.Ground.phase }, { on := 6, ground := Go.Ground.phase }, { on := 7, ground := Go.Ground.phase }, { on := 8, ground := Go.Ground.phase }, { on := 9, ground := Go.Ground.phase }, { on := 10, ground := Go.Ground.phase }, { on := 11, ground := Go.Ground.phase }, { on := 12, ground := Go.Ground.phase }, { on := 13, ground := Go.Ground.phase }], guard := none } : Oper)) (v := ?_) rfl (by kernel_rfl) (by kernel_rfl) (by kernel_rfl) (fun _ _ _ h => h) (Or.inl ⟨by rfl, ?_⟩) (by assumption) ?_
  rotate_left
  · intro W' hSw
    try dsimp only at hSw
    go_simp
    try with_reducible rfl
  try simp only [Act.put, List.setIfInBounds_toArray, List.set_cons_zero, List.set_cons_succ]
  refine wpAnyH_done (by kernel_rfl) ?_ _
  go_wp2
  go_ret2
  exact ⟨_, _, _, rfl, HP4, Lib.hid (((Below.refl _ _).alloc (Nat.le_refl _) _).trans (HB4.out.mono (by omega)))⟩
set_option maxHeartbeats 4000000 in
set_option maxRecDepth 100000 in
theorem rtell_four (m0 m1 m2 m3 m4 m5 : Int) (f : ByteArray) (a0 a1 a2 a3 a4 a5 : Int) (t : ByteArray) (w : World) (hm : Byt [m0, m1, m2, m3, m4, m5]) (ha : Byt [a0, a1, a2, a3, a4, a5]) (h1 : f.size = 4) (h2 : t.size = 4) :
    Calls Tryd.prog 12 #[.agg #[.int .u8 m0, .int .u8 m1, .int .u8 m2, .int .u8 m3, .int .u8 m4, .int .u8 m5], .string f, .agg #[.int .u8 a0, .int .u8 a1, .int .u8 a2, .int .u8 a3, .int .u8 a4, .int .u8 a5], .string t] w (RSent (E.wire a0 a1 a2 a3 a4 a5 m0 m1 m2 m3 m4 m5 2054 (strOfNums (arpB 2 [m0, m1, m2, m3, m4, m5] f [a0, a1, a2, a3, a4, a5] t))) w) := by
  have HK := Lib.hid (show kindI f t = 4 by simp [kindI, alikeB, rightB, h1, h2])
  have HM := Lib.hid hm
  obtain ⟨tm, htm⟩ : ∃ tm, strOfNums [m0, m1, m2, m3, m4, m5] = tm := ⟨_, rfl⟩
  have lm : tm.size = 6 := by rw [← htm, strOfNums_size]; rfl
  have HTM := Lib.hid htm
  obtain ⟨ta, hta⟩ : ∃ tm, strOfNums [a0, a1, a2, a3, a4, a5] = tm := ⟨_, rfl⟩
  have la : ta.size = 6 := by rw [← hta, strOfNums_size]; rfl
  have HTA := Lib.hid hta
  have HA := Lib.hid ha
  obtain ⟨r, hr⟩ : ∃ r, strOfNums (arpB 2 [m0, m1, m2, m3, m4, m5] f [a0, a1, a2, a3, a4, a5] t) = r := ⟨_, rfl⟩
  have lr : r.size = 28 := by rw [← hr, strOfNums_size, arpB_len, h1, h2]; rfl
  have HRR := Lib.hid ((body_arp 2 f t tm ta m0 m1 m2 m3 m4 m5 a0 a1 a2 a3 a4 a5 hm ha htm hta).trans hr)
  rw [hr]
  have HE := Lib.hid (show ∀ W, Calls Tryd.prog 29 #[.agg #[.int .u8 a0, .int .u8 a1, .int .u8 a2, .int .u8 a3, .int .u8 a4, .int .u8 a5, .int .u8 m0, .int .u8 m1, .int .u8 m2, .int .u8 m3, .int .u8 m4, .int .u8 m5, .int .i64 2054, .string r]] W (E.EncIs 42 (E.wire a0 a1 a2 a3 a4 a5 m0 m1 m2 m3 m4 m5 2054 r) W) from fun W => by
    have h := E.rencode_yes a0 a1 a2 a3 a4 a5 m0 m1 m2 m3 m4 m5 2054 r W (ha _ (by simp)) (ha _ (by simp)) (ha _ (by simp)) (ha _ (by simp)) (ha _ (by simp)) (ha _ (by simp)) (hm _ (by simp)) (hm _ (by simp)) (hm _ (by simp)) (hm _ (by simp)) (hm _ (by simp)) (hm _ (by simp)) (by omega) (by omega) (by omega)
    rw [lr] at h
    exact h)
  have HX := Lib.hid ((Box6.new w m0 m1 m2 m3 m4 m5).below ((Below.refl _ _).alloc (Nat.le_refl _) (.cells #[.int .u8 a0, .int .u8 a1, .int .u8 a2, .int .u8 a3, .int .u8 a4, .int .u8 a5] 23)) (by simp))
  have HXA := Lib.hid (show Box6 ((w.alloc (.cells #[.int .u8 m0, .int .u8 m1, .int .u8 m2, .int .u8 m3, .int .u8 m4, .int .u8 m5] 23)).alloc (.cells #[.int .u8 a0, .int .u8 a1, .int .u8 a2, .int .u8 a3, .int .u8 a4, .int .u8 a5] 23)) (w.heap.size + 1) a0 a1 a2 a3 a4 a5 by have h := Box6.new (w.alloc (.cells #[.int .u8 m0, .int .u8 m1, .int .u8 m2, .int .u8 m3, .int .u8 m4, .int .u8 m5] 23)) a0 a1 a2 a3 a4 a5; simpa using h)
  have HB0 := Lib.hid (show Below (w.heap.size + 2) ((w.alloc (.cells #[.int .u8 m0, .int .u8 m1, .int .u8 m2, .int .u8 m3, .int .u8 m4, .int .u8 m5] 23)).alloc (.cells #[.int .u8 a0, .int .u8 a1, .int .u8 a2, .int .u8 a3, .int .u8 a4, .int .u8 a5] 23)) ((w.alloc (.cells #[.int .u8 m0, .int .u8 m1, .int .u8 m2, .int .u8 m3, .int .u8 m4, .int .u8 m5] 23)).alloc (.cells #[.int .u8 a0, .int .u8 a1, .int .u8 a2, .int .u8 a3, .int .u8 a4, .int .u8 a5] 23)).drew from below_drew (Below.refl _ _))
  clear hm htm hr hta ha
  go_enter Tryd.func12, Tryd.ntmps12
  go_wp2_with fail
  refine (kind_any f t _ (by omega) (by omega)).mono ?_
  rintro e w' ⟨rfl, rfl⟩
  rw [HK.out]
  go_wp2_with fail
  refine wp_region_held_drew (S := fun W => (W.cell? ⟨w.heap.size, 0, none⟩ = some (.int .u8 m0) ∧ W.cell? ⟨w.heap.size, 1, none⟩ = some (.int .u8 m1) ∧ W.cell? ⟨w.heap.size, 2, none⟩ = some (.int .u8 m2) ∧ W.cell? ⟨w.heap.size, 3, none⟩ = some (.int .u8 m3) ∧ W.cell? ⟨w.heap.size, 4, none⟩ = some (.int .u8 m4) ∧ W.cell? ⟨w.heap.size, 5, none⟩ = some (.int .u8 m5)) ∧ (W.cell? ⟨w.heap.size + 1, 0, none⟩ = some (.int .u8 a0) ∧ W.cell? ⟨w.heap.size + 1, 1, none⟩ = some (.int .u8 a1) ∧ W.cell? ⟨w.heap.size + 1, 2, none⟩ = some (.int .u8 a2) ∧ W.cell? ⟨w.heap.size + 1, 3, none⟩ = some (.int .u8 a3) ∧ W.cell? ⟨w.heap.size + 1, 4, none⟩ = some (.int .u8 a4) ∧ W.cell? ⟨w.heap.size + 1, 5, none⟩ = some (.int .u8 a5))) (by kernel_rfl) (⟨HX.out.below HB0.out (by omega), HXA.out.below HB0.out (by omega)⟩) (fun hHeld => ?_)
  refine wpAnyH_take (i := 0) (oi := ({ dst := some 17, op := Go.Op.load 23 (Go.Operand.tmp 6), type := 23, pos := _, after := #[], guard := none } : Oper)) (v := ?_) rfl (by kernel_rfl) (by kernel_rfl) (by kernel_rfl) (fun _ _ _ h => h) (Or.inl ⟨by rfl, ?_⟩) (by assumption) ?_
  rotate_left
  · intro W' hSw
    try dsimp only at hSw
    go_simp
    try with_reducible rfl
  try simp only [Act.put, List.setIfInBounds_toArray, List.set_cons_zero, List.set_cons_succ]
  refine wpAnyH_take (i := 1) (oi := ({ dst := some 18, op := Go.Op.load 23 (Go.Operand.tmp 4), type := 23, pos := _, after := #[], guard := none } : Oper)) (v := ?_) rfl (by kernel_rfl) (by kernel_rfl) (by kernel_rfl) (fun _ _ _ h => h) (Or.inl ⟨by rfl, ?_⟩) (by assumption) ?_
  rotate_left
  · intro W' hSw
    try dsimp only at hSw
    go_simp
    try with_reducible rfl
  try simp only [Act.put, List.setIfInBounds_toArray, List.set_cons_zero, List.set_cons_succ]
  refine wpAnyH_take (i := 2) (oi := ({ dst := some 19, op := Go.Op.load 23 (Go.Operand.tmp 4), type := 23, pos := _, after := #[], guard := none } : Oper)) (v := ?_) rfl (by kernel_rfl) (by kernel_rfl) (by kernel_rfl) (fun _ _ _ h => h) (Or.inl ⟨by rfl, ?_⟩) (by assumption) ?_
  rotate_left
  · intro W' hSw
    try dsimp only at hSw
    go_simp
    try with_reducible rfl
  try simp only [Act.put, List.setIfInBounds_toArray, List.set_cons_zero, List.set_cons_succ]
  refine wpAnyH_take (i := 4) (oi := ({ dst := some 21, op := Go.Op.move (Go.Operand.tmp 1), type := 24, pos := _, after := #[], guard := none } : Oper)) (v := ?_) rfl (by kernel_rfl) (by kernel_rfl) (by kernel_rfl) (fun _ _ _ h => h) (Or.inl ⟨by rfl, ?_⟩) (by assumption) ?_
  rotate_left
  · intro W' hSw
    try dsimp only at hSw
    go_simp
    try with_reducible rfl
  try simp only [Act.put, List.setIfInBounds_toArray, List.set_cons_zero, List.set_cons_succ]
  refine wpAnyH_take (i := 6) (oi := ({ dst := some 23, op := Go.Op.load 23 (Go.Operand.tmp 6), type := 23, pos := _, after := #[], guard := none } : Oper)) (v := ?_) rfl (by kernel_rfl) (by kernel_rfl) (by kernel_rfl) (fun _ _ _ h => h) (Or.inl ⟨by rfl, ?_⟩) (by assumption) ?_
  rotate_left
  · intro W' hSw
    try dsimp only at hSw
    go_simp
    try with_reducible rfl
  try simp only [Act.put, List.setIfInBounds_toArray, List.set_cons_zero, List.set_cons_succ]
  refine wpAnyH_take (i := 8) (oi := ({ dst := some 25, op := Go.Op.move (Go.Operand.tmp 3), type := 24, pos := _, after := #[], guard := none } : Oper)) (v := ?_) rfl (by kernel_rfl) (by kernel_rfl) (by kernel_rfl) (fun _ _ _ h => h) (Or.inl ⟨by rfl, ?_⟩) (by assumption) ?_
  rotate_left
  · intro W' hSw
    try dsimp only at hSw
    go_simp
    try with_reducible rfl
  try simp only [Act.put, List.setIfInBounds_toArray, List.set_cons_zero, List.set_cons_succ]
  refine wpAnyH_ready (rs := [3]) (by kernel_rfl) (by simp) ?_
  refine AllReadyH.cons (o := ({ dst := some 20, op := Go.Op.call { callee := Go.Callee.value (Go.Operand.func 32), args := #[Go.Operand.tmp 19], argTypes := #[23] }, type := 9, pos := _, after := #[{ on := 2, ground := Go.Ground.data }], guard := none } : Oper)) rfl (fun K hK => ?_) AllReadyH.nil
  go_simp
  refine (text_at m0 m1 m2 m3 m4 m5 tm _ HM.out HTM.out).mono ?_
  rintro e w1 ⟨rfl, hb1⟩
  have HB1 := Lib.hid (below_then HB0.out (by simp) hb1)
  have z1 : w.heap.size + 2 ≤ w1.heap.size := by have := HB1.out.size; simpa using this
  clear hb1
  go_wp2_with fail
  refine hK.out _ _ ?_ (fun hHeld => ?_)
  · exact ⟨HX.out.below HB1.out (by omega), HXA.out.below HB1.out (by omega)⟩
  clear hK K
  try simp only [Act.put, List.setIfInBounds_toArray, List.set_cons_zero, List.set_cons_succ]
  refine wpAnyH_take (i := 5) (oi := ({ dst := some 22, op := Go.Op.binOp Go.BinOp.add 9 (Go.Operand.tmp 20) (Go.Operand.tmp 21) 9, type := 9, pos := _, after := #[{ on := 3, ground := Go.Ground.data }, { on := 4, ground := Go.Ground.data }], guard := none } : Oper)) (v := ?_) rfl (by kernel_rfl) (by kernel_rfl) (by kernel_rfl) (fun _ _ _ h => h) (Or.inl ⟨by rfl, ?_⟩) (by assumption) ?_
  rotate_left
  · intro W' hSw
    try dsimp only at hSw
    go_simp
    try with_reducible rfl
  try simp only [Act.put, List.setIfInBounds_toArray, List.set_cons_zero, List.set_cons_succ]
  refine wpAnyH_ready (rs := [7]) (by kernel_rfl) (by simp) ?_
  refine AllReadyH.cons (o := ({ dst := some 24, op := Go.Op.call { callee := Go.Callee.value (Go.Operand.func 32), args := #[Go.Operand.tmp 23], argTypes := #[23] }, type := 9, pos := _, after := #[{ on := 6, ground := Go.Ground.data }, { on := 3, ground := Go.Ground.chain }], guard := none } : Oper)) rfl (fun K hK => ?_) AllReadyH.nil
  go_simp
  refine (text_at a0 a1 a2 a3 a4 a5 ta _ HA.out HTA.out).mono ?_
  rintro e w2 ⟨rfl, hb2⟩
  have HB2 := Lib.hid (below_then HB1.out (z1) hb2)
  have z2 : w.heap.size + 2 ≤ w2.heap.size := by have := HB2.out.size; simpa using this
  clear hb2
  go_wp2_with fail
  refine hK.out _ _ ?_ (fun hHeld => ?_)
  · exact ⟨HX.out.below HB2.out (by omega), HXA.out.below HB2.out (by omega)⟩
  clear hK K
  try simp only [Act.put, List.setIfInBounds_toArray, List.set_cons_zero, List.set_cons_succ]
  refine wpAnyH_take (i := 9) (oi := ({ dst := some 26, op := Go.Op.binOp Go.BinOp.add 9 (Go.Operand.tmp 24) (Go.Operand.tmp 25) 9, type := 9, pos := _, after := #[{ on := 7, ground := Go.Ground.data }, { on := 8, ground := Go.Ground.data }], guard := none } : Oper)) (v := ?_) rfl (by kernel_rfl) (by kernel_rfl) (by kernel_rfl) (fun _ _ _ h => h) (Or.inl ⟨by rfl, ?_⟩) (by assumption) ?_
  rotate_left
  · intro W' hSw
    try dsimp only at hSw
    go_simp
    try with_reducible rfl
  try simp only [Act.put, List.setIfInBounds_toArray, List.set_cons_zero, List.set_cons_succ]
  refine wpAnyH_ready (rs := [10]) (by kernel_rfl) (by simp) ?_
  refine AllReadyH.cons (o := ({ dst := some 27, op := Go.Op.call { callee := Go.Callee.value (Go.Operand.func 31), args := #[Go.Operand.const (Go.Value.int Go.IntKind.u8 2), Go.Operand.tmp 22, Go.Operand.tmp 26], argTypes := #[5, 9, 9] }, type := 9, pos := _, after := #[{ on := 5, ground := Go.Ground.data }, { on := 9, ground := Go.Ground.data }, { on := 7, ground := Go.Ground.chain }], guard := none } : Oper)) rfl (fun K hK => ?_) AllReadyH.nil
  go_simp
  refine (arp_at 2 (tm ++ f) (ta ++ t) r _ (by omega) (by rw [ByteArray.size_append]; omega) (by rw [ByteArray.size_append]; omega) HRR.out).mono ?_
  rintro e w3 ⟨rfl, hb3⟩
  have HB3 := Lib.hid (below_then HB2.out (z2) hb3)
  have z3 : w.heap.size + 2 ≤ w3.heap.size := by have := HB3.out.size; simpa using this
  clear hb3
  go_wp2_with fail
  refine hK.out _ _ ?_ (fun hHeld => ?_)
  · exact ⟨HX.out.below HB3.out (by omega), HXA.out.below HB3.out (by omega)⟩
  clear hK K
  try simp only [Act.put, List.setIfInBounds_toArray, List.set_cons_zero, List.set_cons_succ]
  refine wpAnyH_take (i := 11) (oi := ({ dst := some 28, op := Go.Op.build 36 #[(0, Go.Operand.tmp 17), (1, Go.Operand.tmp 18), (2, Go.Operand.const (Go.Value.int Go.IntKind.i64 2054)), (3, Go.Operand.tmp 27)], type := 36, pos := _, after := #[{ on := 0, ground := Go.Ground.data }, { on := 1, ground := Go.Ground.data }, { on := 10, ground := Go.Ground.data }], guard := none } : Oper)) (v := ?_) rfl (by kernel_rfl) (by kernel_rfl) (by kernel_rfl) (fun _ _ _ h => h) (Or.inl ⟨by rfl, ?_⟩) (by assumption) ?_
  rotate_left
  · intro W' hSw
    try dsimp only at hSw
    go_simp
    try with_reducible rfl
  try simp only [Act.put, List.setIfInBounds_toArray, List.set_cons_zero, List.set_cons_succ]
  refine wpAnyH_ready (rs := [12]) (by kernel_rfl) (by simp) ?_
  refine AllReadyH.cons (o := ({ dst := some 29, op := Go.Op.call { callee := Go.Callee.value (Go.Operand.func 29), args := #[Go.Operand.tmp 28], argTypes := #[36] }, type := 28, pos := _, after := #[{ on := 11, ground := Go.Ground.data }, { on := 10, ground := Go.Ground.chain }], guard := none } : Oper)) rfl (fun K hK => ?_) AllReadyH.nil
  go_simp
  refine (HE.out w3).mono ?_
  rintro e w4 ⟨A, c, rfl, hp, hb⟩
  have HP4 := Lib.hid hp
  have HB4 := Lib.hid (below_then HB3.out z3 hb)
  clear hb hp
  go_wp2_with fail
  refine hK.out _ _ ?_ (fun hHeld => ?_)
  · exact ⟨HX.out.below HB4.out (by omega), HXA.out.below HB4.out (by omega)⟩
  clear hK K
  try simp only [Act.put, List.setIfInBounds_toArray, List.set_cons_zero, List.set_cons_succ]
  refine wpAnyH_take (i := 13) (oi := ({ dst := some 30, op := Go.Op.extract (Go.Operand.tmp 29) 0, type := 26, pos := _, after := #[{ on := 12, ground := Go.Ground.data }], guard := none } : Oper)) (v := ?_) rfl (by kernel_rfl) (by kernel_rfl) (by kernel_rfl) (fun _ _ _ h => h) (Or.inl ⟨by rfl, ?_⟩) (by assumption) ?_
  rotate_left
  · intro W' hSw
    try dsimp only at hSw
    go_simp
    try with_reducible rfl
  try simp only [Act.put, List.setIfInBounds_toArray, List.set_cons_zero, List.set_cons_succ]
  refine wpAnyH_take (i := 14) (oi := ({ dst := some 31, op := Go.Op.extract (Go.Operand.tmp 29) 1, type := 27, pos := _, after := #[{ on := 12, ground := Go.Ground.data }], guard := none } : Oper)) (v := ?_) rfl (by kernel_rfl) (by kernel_rfl) (by kernel_rfl) (fun _ _ _ h => h) (Or.inl ⟨by rfl, ?_⟩) (by assumption) ?_
  rotate_left
  · intro W' hSw
    try dsimp only at hSw
    go_simp
    try with_reducible rfl
  try simp only [Act.put, List.setIfInBounds_toArray, List.set_cons_zero, List.set_cons_succ]
  refine wpAnyH_take (i := 15) (oi := ({ dst := some 8, op := Go.Op.assign (Go.Operand.tmp 30), type := 26, pos := _, after := #[{ on := 13, ground := Go.Ground.data }, { on := 12, ground := Go.Ground.chain }, { on := 0, ground := Go.Ground.phase }, { on := 1, ground := Go.Ground.phase }, { on := 2, ground := Go.Ground.phase }, { on := 3, ground := Go.Ground.phase }, { on := 4, ground := Go.Ground.phase }, { on := 5, ground := Go.Ground.phase }, { on := 6, ground := Go.Ground.phase }, { on := 7, ground := Go.Ground.phase }, { on := 8, ground := Go.Ground.phase }, { on := 9, ground := Go.Ground.phase }, { on := 10, ground := Go.Ground.phase }, { on := 11, ground := Go.Ground.phase }, { on := 12, ground := Go.Ground.phase }, { on := 13, ground := Go.Ground.phase }, { on := 14, ground := Go.Ground.phase }], guard := none } : Oper)) (v := ?_) rfl (by kernel_rfl) (by kernel_rfl) (by kernel_rfl) (fun _ _ _ h => h) (Or.inl ⟨by rfl, ?_⟩) (by assumption) ?_
  rotate_left
  · intro W' hSw
    try dsimp only at hSw
    go_simp
    try with_reducible rfl
  try simp only [Act.put, List.setIfInBounds_toArray, List.set_cons_zero, List.set_cons_succ]
  refine wpAnyH_take (i := 16) (oi := ({ dst := some 9, op := Go.Op.assign (Go.Operand.tmp 31), type := 27, pos := _, after := #[{ on := 14, ground := Go.Ground.data }, { on := 15, ground := Go.Ground.chain }, { on := 0, ground := Go.Ground.phase }, { on := 1, ground := Go.Ground.phase }, { on := 2, ground := Go.Ground.phase }, { on := 3, ground := Go.Ground.phase }, { on := 4, ground := Go.Ground.phase }, { on := 5, ground := Go.Ground.phase }, { on := 6, ground := Go.Ground.phase }, { on := 7, ground := Go.Ground.phase }, { on := 8, ground := Go.Ground.phase }, { on := 9, ground := Go.Ground.phase }, { on := 10, ground := Go.Ground.phase }, { on := 11, ground := Go.Ground.phase }, { on := 12, ground := Go.Ground.phase }, { on := 13, ground := Go.Ground.phase }, { on := 14, ground := Go.Ground.phase }, { on := 15, ground := Go.Ground.phase }], guard := none } : Oper)) (v := ?_) rfl (by kernel_rfl) (by kernel_rfl) (by kernel_rfl) (fun _ _ _ h => h) (Or.inl ⟨by rfl, ?_⟩) (by assumption) ?_
  rotate_left
  · intro W' hSw
    try dsimp only at hSw
    go_simp
    try with_reducible rfl
  try simp only [Act.put, List.setIfInBounds_toArray, List.set_cons_zero, List.set_cons_succ]
  refine wpAnyH_done (by kernel_rfl) ?_ _
  go_wp2
  go_ret2
  exact ⟨_, _, _, rfl, HP4, Lib.hid ((((Below.refl _ _).alloc (Nat.le_refl _) _).alloc (by simp) _).trans (HB4.out.mono (by omega)))⟩
set_option maxHeartbeats 4000000 in
set_option maxRecDepth 100000 in
theorem rclaim_four (m0 m1 m2 m3 m4 m5 : Int) (f : ByteArray) (w : World) (hm : Byt [m0, m1, m2, m3, m4, m5]) (h1 : f.size = 4)  :
    Calls Tryd.prog 14 #[.agg #[.int .u8 m0, .int .u8 m1, .int .u8 m2, .int .u8 m3, .int .u8 m4, .int .u8 m5], .string f] w (RSent (E.wire 255 255 255 255 255 255 m0 m1 m2 m3 m4 m5 2054 (strOfNums (arpB 1 [m0, m1, m2, m3, m4, m5] f [0, 0, 0, 0, 0, 0] f))) w) := by
  have h2 := h1
  have HK := Lib.hid (show kindI f f = 4 by simp [kindI, alikeB, rightB, h1])
  have HM := Lib.hid hm
  obtain ⟨tm, htm⟩ : ∃ tm, strOfNums [m0, m1, m2, m3, m4, m5] = tm := ⟨_, rfl⟩
  have lm : tm.size = 6 := by rw [← htm, strOfNums_size]; rfl
  have HTM := Lib.hid htm
  obtain ⟨zz, hzz⟩ : ∃ z : ByteArray, strOfNums [0, 0, 0, 0, 0, 0] = z := ⟨_, rfl⟩
  have hz' : (⟨#[0, 0, 0, 0, 0, 0]⟩ : ByteArray) = zz := hzz
  have lz : zz.size = 6 := by rw [← hzz]; rfl
  obtain ⟨r, hr⟩ : ∃ r, strOfNums (arpB 1 [m0, m1, m2, m3, m4, m5] f [0, 0, 0, 0, 0, 0] f) = r := ⟨_, rfl⟩
  have lr : r.size = 28 := by rw [← hr, strOfNums_size, arpB_len, h1]; rfl
  have HRR := Lib.hid ((body_arp 1 f f tm zz m0 m1 m2 m3 m4 m5 0 0 0 0 0 0 hm (byt_of rfl) htm hzz).trans hr)
  rw [hr]
  have HE := Lib.hid (show ∀ W, Calls Tryd.prog 29 #[.agg #[.int .u8 255, .int .u8 255, .int .u8 255, .int .u8 255, .int .u8 255, .int .u8 255, .int .u8 m0, .int .u8 m1, .int .u8 m2, .int .u8 m3, .int .u8 m4, .int .u8 m5, .int .i64 2054, .string r]] W (E.EncIs 42 (E.wire 255 255 255 255 255 255 m0 m1 m2 m3 m4 m5 2054 r) W) from fun W => by
    have h := E.rencode_yes 255 255 255 255 255 255 m0 m1 m2 m3 m4 m5 2054 r W (by omega) (by omega) (by omega) (by omega) (by omega) (by omega) (hm _ (by simp)) (hm _ (by simp)) (hm _ (by simp)) (hm _ (by simp)) (hm _ (by simp)) (hm _ (by simp)) (by omega) (by omega) (by omega)
    rw [lr] at h
    exact h)
  have HX := Lib.hid (Box6.new w m0 m1 m2 m3 m4 m5)
  have HB0 := Lib.hid (show Below (w.heap.size + 1) (w.alloc (.cells #[.int .u8 m0, .int .u8 m1, .int .u8 m2, .int .u8 m3, .int .u8 m4, .int .u8 m5] 23)) (w.alloc (.cells #[.int .u8 m0, .int .u8 m1, .int .u8 m2, .int .u8 m3, .int .u8 m4, .int .u8 m5] 23)).drew from below_drew (Below.refl _ _))
  clear hm htm hr hzz
  go_enter Tryd.func14, Tryd.ntmps14
  go_wp2_with fail
  refine (kind_any f f _ (by omega) (by omega)).mono ?_
  rintro e w' ⟨rfl, rfl⟩
  rw [HK.out]
  go_wp2_with fail
  refine wp_region_held_drew (S := fun W => W.cell? ⟨w.heap.size, 0, none⟩ = some (.int .u8 m0) ∧ W.cell? ⟨w.heap.size, 1, none⟩ = some (.int .u8 m1) ∧ W.cell? ⟨w.heap.size, 2, none⟩ = some (.int .u8 m2) ∧ W.cell? ⟨w.heap.size, 3, none⟩ = some (.int .u8 m3) ∧ W.cell? ⟨w.heap.size, 4, none⟩ = some (.int .u8 m4) ∧ W.cell? ⟨w.heap.size, 5, none⟩ = some (.int .u8 m5)) (by kernel_rfl) (HX.out.below HB0.out (by omega)) (fun hHeld => ?_)
  refine wpAnyH_take (i := 1) (oi := ({ dst := some 14, op := Go.Op.load 23 (Go.Operand.tmp 2), type := 23, pos := _, after := #[], guard := none } : Oper)) (v := ?_) rfl (by kernel_rfl) (by kernel_rfl) (by kernel_rfl) (fun _ _ _ h => h) (Or.inl ⟨by rfl, ?_⟩) (by assumption) ?_
  rotate_left
  · intro W' hSw
    try dsimp only at hSw
    go_simp
    try with_reducible rfl
  try simp only [Act.put, List.setIfInBounds_toArray, List.set_cons_zero, List.set_cons_succ]
  refine wpAnyH_take (i := 2) (oi := ({ dst := some 15, op := Go.Op.load 23 (Go.Operand.tmp 2), type := 23, pos := _, after := #[], guard := none } : Oper)) (v := ?_) rfl (by kernel_rfl) (by kernel_rfl) (by kernel_rfl) (fun _ _ _ h => h) (Or.inl ⟨by rfl, ?_⟩) (by assumption) ?_
  rotate_left
  · intro W' hSw
    try dsimp only at hSw
    go_simp
    try with_reducible rfl
  try simp only [Act.put, List.setIfInBounds_toArray, List.set_cons_zero, List.set_cons_succ]
  refine wpAnyH_take (i := 4) (oi := ({ dst := some 17, op := Go.Op.move (Go.Operand.tmp 1), type := 24, pos := _, after := #[], guard := none } : Oper)) (v := ?_) rfl (by kernel_rfl) (by kernel_rfl) (by kernel_rfl) (fun _ _ _ h => h) (Or.inl ⟨by rfl, ?_⟩) (by assumption) ?_
  rotate_left
  · intro W' hSw
    try dsimp only at hSw
    go_simp
    try with_reducible rfl
  try simp only [Act.put, List.setIfInBounds_toArray, List.set_cons_zero, List.set_cons_succ]
  refine wpAnyH_take (i := 6) (oi := ({ dst := some 19, op := Go.Op.move (Go.Operand.tmp 1), type := 24, pos := _, after := #[], guard := none } : Oper)) (v := ?_) rfl (by kernel_rfl) (by kernel_rfl) (by kernel_rfl) (fun _ _ _ h => h) (Or.inl ⟨by rfl, ?_⟩) (by assumption) ?_
  rotate_left
  · intro W' hSw
    try dsimp only at hSw
    go_simp
    try with_reducible rfl
  try simp only [Act.put, List.setIfInBounds_toArray, List.set_cons_zero, List.set_cons_succ]
  refine wpAnyH_take (i := 7) (oi := ({ dst := some 20, op := Go.Op.binOp Go.BinOp.add 9 (Go.Operand.const (Go.Value.string { data := #[0, 0, 0, 0, 0, 0] })) (Go.Operand.tmp 19) 9, type := 9, pos := _, after := #[{ on := 6, ground := Go.Ground.data }], guard := none } : Oper)) (v := ?_) rfl (by kernel_rfl) (by kernel_rfl) (by kernel_rfl) (fun _ _ _ h => h) (Or.inl ⟨by rfl, ?_⟩) (by assumption) ?_
  rotate_left
  · intro W' hSw
    try dsimp only at hSw
    go_simp
    try with_reducible rfl
  try simp only [Act.put, List.setIfInBounds_toArray, List.set_cons_zero, List.set_cons_succ]
  refine wpAnyH_ready (rs := [0]) (by kernel_rfl) (by simp) ?_
  refine AllReadyH.cons (o := ({ dst := some 13, op := Go.Op.call { callee := Go.Callee.value (Go.Operand.func 30), args := #[], argTypes := #[] }, type := 23, pos := _, after := #[], guard := none } : Oper)) rfl (fun K hK => ?_) AllReadyH.nil
  go_simp
  refine (rall_any _).mono ?_
  rintro e w1 ⟨rfl, hb1⟩
  have HB1 := Lib.hid (below_then HB0.out (by simp) hb1)
  have z1 : w.heap.size + 1 ≤ w1.heap.size := by have := HB1.out.size; simpa using this
  clear hb1
  go_wp2_with fail
  refine hK.out _ _ ?_ (fun hHeld => ?_)
  · exact HX.out.below HB1.out (by omega)
  clear hK K
  try simp only [Act.put, List.setIfInBounds_toArray, List.set_cons_zero, List.set_cons_succ]
  refine wpAnyH_ready (rs := [3]) (by kernel_rfl) (by simp) ?_
  refine AllReadyH.cons (o := ({ dst := some 16, op := Go.Op.call { callee := Go.Callee.value (Go.Operand.func 32), args := #[Go.Operand.tmp 15], argTypes := #[23] }, type := 9, pos := _, after := #[{ on := 2, ground := Go.Ground.data }, { on := 0, ground := Go.Ground.chain }], guard := none } : Oper)) rfl (fun K hK => ?_) AllReadyH.nil
  go_simp
  refine (text_at m0 m1 m2 m3 m4 m5 tm _ HM.out HTM.out).mono ?_
  rintro e w2 ⟨rfl, hb2⟩
  have HB2 := Lib.hid (below_then HB1.out (z1) hb2)
  have z2 : w.heap.size + 1 ≤ w2.heap.size := by have := HB2.out.size; simpa using this
  clear hb2
  go_wp2_with fail
  refine hK.out _ _ ?_ (fun hHeld => ?_)
  · exact HX.out.below HB2.out (by omega)
  clear hK K
  try simp only [Act.put, List.setIfInBounds_toArray, List.set_cons_zero, List.set_cons_succ]
  refine wpAnyH_take (i := 5) (oi := ({ dst := some 18, op := Go.Op.binOp Go.BinOp.add 9 (Go.Operand.tmp 16) (Go.Operand.tmp 17) 9, type := 9, pos := _, after := #[{ on := 3, ground := Go.Ground.data }, { on := 4, ground := Go.Ground.data }], guard := none } : Oper)) (v := ?_) rfl (by kernel_rfl) (by kernel_rfl) (by kernel_rfl) (fun _ _ _ h => h) (Or.inl ⟨by rfl, ?_⟩) (by assumption) ?_
  rotate_left
  · intro W' hSw
    try dsimp only at hSw
    go_simp
    try with_reducible rfl
  try simp only [Act.put, List.setIfInBounds_toArray, List.set_cons_zero, List.set_cons_succ]
  refine wpAnyH_ready (rs := [8]) (by kernel_rfl) (by simp) ?_
  refine AllReadyH.cons (o := ({ dst := some 21, op := Go.Op.call { callee := Go.Callee.value (Go.Operand.func 31), args := #[Go.Operand.const (Go.Value.int Go.IntKind.u8 1), Go.Operand.tmp 18, Go.Operand.tmp 20], argTypes := #[5, 9, 9] }, type := 9, pos := _, after := #[{ on := 5, ground := Go.Ground.data }, { on := 7, ground := Go.Ground.data }, { on := 3, ground := Go.Ground.chain }], guard := none } : Oper)) rfl (fun K hK => ?_) AllReadyH.nil
  go_simp
  refine (arp_at 1 (tm ++ f) (zz ++ f) r _ (by omega) (by rw [ByteArray.size_append]; omega) (by rw [ByteArray.size_append]; omega) HRR.out).mono ?_
  rintro e w3 ⟨rfl, hb3⟩
  have HB3 := Lib.hid (below_then HB2.out (z2) hb3)
  have z3 : w.heap.size + 1 ≤ w3.heap.size := by have := HB3.out.size; simpa using this
  clear hb3
  go_wp2_with fail
  refine hK.out _ _ ?_ (fun hHeld => ?_)
  · exact HX.out.below HB3.out (by omega)
  clear hK K
  try simp only [Act.put, List.setIfInBounds_toArray, List.set_cons_zero, List.set_cons_succ]
  refine wpAnyH_take (i := 9) (oi := ({ dst := some 22, op := Go.Op.build 36 #[(0, Go.Operand.tmp 13), (1, Go.Operand.tmp 14), (2, Go.Operand.const (Go.Value.int Go.IntKind.i64 2054)), (3, Go.Operand.tmp 21)], type := 36, pos := _, after := #[{ on := 0, ground := Go.Ground.data }, { on := 1, ground := Go.Ground.data }, { on := 8, ground := Go.Ground.data }], guard := none } : Oper)) (v := ?_) rfl (by kernel_rfl) (by kernel_rfl) (by kernel_rfl) (fun _ _ _ h => h) (Or.inl ⟨by rfl, ?_⟩) (by assumption) ?_
  rotate_left
  · intro W' hSw
    try dsimp only at hSw
    go_simp
    try with_reducible rfl
  try simp only [Act.put, List.setIfInBounds_toArray, List.set_cons_zero, List.set_cons_succ]
  refine wpAnyH_ready (rs := [10]) (by kernel_rfl) (by simp) ?_
  refine AllReadyH.cons (o := ({ dst := some 23, op := Go.Op.call { callee := Go.Callee.value (Go.Operand.func 29), args := #[Go.Operand.tmp 22], argTypes := #[36] }, type := 28, pos := _, after := #[{ on := 9, ground := Go.Ground.data }, { on := 8, ground := Go.Ground.chain }], guard := none } : Oper)) rfl (fun K hK => ?_) AllReadyH.nil
  go_simp
  refine (HE.out w3).mono ?_
  rintro e w4 ⟨A, c, rfl, hp, hb⟩
  have HP4 := Lib.hid hp
  have HB4 := Lib.hid (below_then HB3.out z3 hb)
  clear hb hp
  go_wp2_with fail
  refine hK.out _ _ ?_ (fun hHeld => ?_)
  · exact HX.out.below HB4.out (by omega)
  clear hK K
  try simp only [Act.put, List.setIfInBounds_toArray, List.set_cons_zero, List.set_cons_succ]
  refine wpAnyH_take (i := 11) (oi := ({ dst := some 24, op := Go.Op.extract (Go.Operand.tmp 23) 0, type := 26, pos := _, after := #[{ on := 10, ground := Go.Ground.data }], guard := none } : Oper)) (v := ?_) rfl (by kernel_rfl) (by kernel_rfl) (by kernel_rfl) (fun _ _ _ h => h) (Or.inl ⟨by rfl, ?_⟩) (by assumption) ?_
  rotate_left
  · intro W' hSw
    try dsimp only at hSw
    go_simp
    try with_reducible rfl
  try simp only [Act.put, List.setIfInBounds_toArray, List.set_cons_zero, List.set_cons_succ]
  refine wpAnyH_take (i := 12) (oi := ({ dst := some 25, op := Go.Op.extract (Go.Operand.tmp 23) 1, type := 27, pos := _, after := #[{ on := 10, ground := Go.Ground.data }], guard := none } : Oper)) (v := ?_) rfl (by kernel_rfl) (by kernel_rfl) (by kernel_rfl) (fun _ _ _ h => h) (Or.inl ⟨by rfl, ?_⟩) (by assumption) ?_
  rotate_left
  · intro W' hSw
    try dsimp only at hSw
    go_simp
    try with_reducible rfl
  try simp only [Act.put, List.setIfInBounds_toArray, List.set_cons_zero, List.set_cons_succ]
  refine wpAnyH_take (i := 13) (oi := ({ dst := some 4, op := Go.Op.assign (Go.Operand.tmp 24), type := 26, pos := _, after := #[{ on := 11, ground := Go.Ground.data }, { on := 10, ground := Go.Ground.chain }, { on := 0, ground := Go.Ground.phase }, { on := 1, ground := Go.Ground.phase }, { on := 2, ground := Go.Ground.phase }, { on := 3, ground := Go.Ground.phase }, { on := 4, ground := Go.Ground.phase }, { on := 5, ground := Go.Ground.phase }, { on := 6, ground := Go.Ground.phase }, { on := 7, ground := Go.Ground.phase }, { on := 8, ground := Go.Ground.phase }, { on := 9, ground := Go.Ground.phase }, { on := 10, ground := Go.Ground.phase }, { on := 11, ground := Go.Ground.phase }, { on := 12, ground := Go.Ground.phase }], guard := none } : Oper)) (v := ?_) rfl (by kernel_rfl) (by kernel_rfl) (by kernel_rfl) (fun _ _ _ h => h) (Or.inl ⟨by rfl, ?_⟩) (by assumption) ?_
  rotate_left
  · intro W' hSw
    try dsimp only at hSw
    go_simp
    try with_reducible rfl
  try simp only [Act.put, List.setIfInBounds_toArray, List.set_cons_zero, List.set_cons_succ]
  refine wpAnyH_take (i := 14) (oi := ({ dst := some 5, op := Go.Op.assign (Go.Operand.tmp 25), type := 27, pos := _, after := #[{ on := 12, ground := Go.Ground.data }, { on := 13, ground := Go.Ground.chain }, { on := 0, ground := Go.Ground.phase }, { on := 1, ground := Go.Ground.phase }, { on := 2, ground := Go.Ground.phase }, { on := 3, ground := Go.Ground.phase }, { on := 4, ground := Go.Ground.phase }, { on := 5, ground := Go.Ground.phase }, { on := 6, ground := Go.Ground.phase }, { on := 7, ground := Go.Ground.phase }, { on := 8, ground := Go.Ground.phase }, { on := 9, ground := Go.Ground.phase }, { on := 10, ground := Go.Ground.phase }, { on := 11, ground := Go.Ground.phase }, { on := 12, ground := Go.Ground.phase }, { on := 13, ground := Go.Ground.phase }], guard := none } : Oper)) (v := ?_) rfl (by kernel_rfl) (by kernel_rfl) (by kernel_rfl) (fun _ _ _ h => h) (Or.inl ⟨by rfl, ?_⟩) (by assumption) ?_
  rotate_left
  · intro W' hSw
    try dsimp only at hSw
    go_simp
    try with_reducible rfl
  try simp only [Act.put, List.setIfInBounds_toArray, List.set_cons_zero, List.set_cons_succ]
  refine wpAnyH_done (by kernel_rfl) ?_ _
  go_wp2
  go_ret2
  exact ⟨_, _, _, rfl, HP4, Lib.hid (((Below.refl _ _).alloc (Nat.le_refl _) _).trans (HB4.out.mono (by omega)))⟩

end Go.Proofs.YtdoefjhdipkkeaaDoor

namespace Go.Proofs.YtdoefjhdipkkeaaDoor
open Go.RowKit
set_option linter.unusedVariables false
set_option maxRecDepth 10000

set_option maxHeartbeats 4000000 in
set_option maxRecDepth 100000 in
theorem rask_six (m0 m1 m2 m3 m4 m5 : Int) (f t : ByteArray) (w : World) (hm : Byt [m0, m1, m2, m3, m4, m5]) (h1 : f.size = 16) (h2 : t.size = 16) :
    Calls Tryd.prog 10 #[.agg #[.int .u8 m0, .int .u8 m1, .int .u8 m2, .int .u8 m3, .int .u8 m4, .int .u8 m5], .string f, .string t] w (RSent (E.wire 51 51 255 (byteAt (bts t) 13) (byteAt (bts t) 14) (byteAt (bts t) 15) m0 m1 m2 m3 m4 m5 34525 (strOfNums (wire f (near t) 58 255 (strOfNums (ndS f (near t) 135 0 0 t 1 1 [m0, m1, m2, m3, m4, m5]))))) w) := by
  have HK := Lib.hid (show kindI f t = 16 by simp [kindI, alikeB, rightB, h1, h2])
  obtain ⟨c0, c1, c2, c3, c4, c5, c6, c7, c8, c9, c10, c11, c12, c13, c14, c15, hlit⟩ := E.text16 t h2
  have h2' : (t.size : Int) = 16 := by omega
  obtain ⟨p3, hp3⟩ : ∃ p, byteAt (bts t) 13 = p := ⟨_, rfl⟩
  obtain ⟨p4, hp4⟩ : ∃ p, byteAt (bts t) 14 = p := ⟨_, rfl⟩
  obtain ⟨p5, hp5⟩ : ∃ p, byteAt (bts t) 15 = p := ⟨_, rfl⟩
  have i13 : ((t[13]'(by omega)).toNat : Int) = p3 := by rw [← hp3]; subst hlit; rfl
  have i14 : ((t[14]'(by omega)).toNat : Int) = p4 := by rw [← hp4]; subst hlit; rfl
  have i15 : ((t[15]'(by omega)).toNat : Int) = p5 := by rw [← hp5]; subst hlit; rfl
  have HD := Lib.hid (show Byt [51, 51, 255, p3, p4, p5] by rw [← hp3, ← hp4, ← hp5]; exact byt_near t)
  rw [hp3, hp4, hp5]
  have HT2 := Lib.hid (near_size t h2)
  have HG2 := Lib.hid h2
  clear hp3 hp4 hp5 hlit
  have HM := Lib.hid hm
  obtain ⟨tm, htm⟩ : ∃ tm, strOfNums [m0, m1, m2, m3, m4, m5] = tm := ⟨_, rfl⟩
  have lm : tm.size = 6 := by rw [← htm, strOfNums_size]; rfl
  have HTM := Lib.hid htm
  obtain ⟨body, hbd⟩ : ∃ b, (⟨#[135, 0, 0, 0, 0, 0, 0, 0]⟩ : ByteArray) ++ t ++ ⟨#[1, 1]⟩ ++ tm = b := ⟨_, rfl⟩
  have l8 : ((⟨#[135, 0, 0, 0, 0, 0, 0, 0]⟩ : ByteArray) ++ t).size = 24 := by rw [ByteArray.size_append, HG2.out]; rfl
  have l9 : ((⟨#[135, 0, 0, 0, 0, 0, 0, 0]⟩ : ByteArray) ++ t ++ ⟨#[1, 1]⟩).size = 26 := by rw [ByteArray.size_append, l8]; rfl
  have HBD := Lib.hid (show bts body = ndB 135 0 0 0 0 t 1 1 [m0, m1, m2, m3, m4, m5] by rw [← hbd]; exact body_nd 135 0 0 1 1 t tm m0 m1 m2 m3 m4 m5 hm htm)
  have HX := Lib.hid ((Box6.new w m0 m1 m2 m3 m4 m5).below ((Below.refl _ _).alloc (Nat.le_refl _) (.cells #[.int .u8 51, .int .u8 51, .int .u8 255, .int .u8 p3, .int .u8 p4, .int .u8 p5] 23)) (by simp))
  have HXA := Lib.hid (show Box6 ((w.alloc (.cells #[.int .u8 m0, .int .u8 m1, .int .u8 m2, .int .u8 m3, .int .u8 m4, .int .u8 m5] 23)).alloc (.cells #[.int .u8 51, .int .u8 51, .int .u8 255, .int .u8 p3, .int .u8 p4, .int .u8 p5] 23)) (w.heap.size + 1) 51 51 255 p3 p4 p5 by have h := Box6.new (w.alloc (.cells #[.int .u8 m0, .int .u8 m1, .int .u8 m2, .int .u8 m3, .int .u8 m4, .int .u8 m5] 23)) 51 51 255 p3 p4 p5; simpa using h)
  have HB0 := Lib.hid (show Below (w.heap.size + 2) ((w.alloc (.cells #[.int .u8 m0, .int .u8 m1, .int .u8 m2, .int .u8 m3, .int .u8 m4, .int .u8 m5] 23)).alloc (.cells #[.int .u8 51, .int .u8 51, .int .u8 255, .int .u8 p3, .int .u8 p4, .int .u8 p5] 23)) ((w.alloc (.cells #[.int .u8 m0, .int .u8 m1, .int .u8 m2, .int .u8 m3, .int .u8 m4, .int .u8 m5] 23)).alloc (.cells #[.int .u8 51, .int .u8 51, .int .u8 255, .int .u8 p3, .int .u8 p4, .int .u8 p5] 23)).drew.drew from below_drew (below_drew (Below.refl _ _)))
  clear hm htm
  go_enter Tryd.func10, Tryd.ntmps10
  go_wp2_with fail
  refine (kind_any f t _ (by omega) (by omega)).mono ?_
  rintro e w' ⟨rfl, rfl⟩
  rw [HK.out]
  go_wp2_with fail
  go_region
  go_wp2_with fail
  refine wp_region_held_drew (S := fun W => (W.cell? ⟨w.heap.size, 0, none⟩ = some (.int .u8 m0) ∧ W.cell? ⟨w.heap.size, 1, none⟩ = some (.int .u8 m1) ∧ W.cell? ⟨w.heap.size, 2, none⟩ = some (.int .u8 m2) ∧ W.cell? ⟨w.heap.size, 3, none⟩ = some (.int .u8 m3) ∧ W.cell? ⟨w.heap.size, 4, none⟩ = some (.int .u8 m4) ∧ W.cell? ⟨w.heap.size, 5, none⟩ = some (.int .u8 m5)) ∧ (W.cell? ⟨w.heap.size + 1, 0, none⟩ = some (.int .u8 51) ∧ W.cell? ⟨w.heap.size + 1, 1, none⟩ = some (.int .u8 51) ∧ W.cell? ⟨w.heap.size + 1, 2, none⟩ = some (.int .u8 255) ∧ W.cell? ⟨w.heap.size + 1, 3, none⟩ = some (.int .u8 p3) ∧ W.cell? ⟨w.heap.size + 1, 4, none⟩ = some (.int .u8 p4) ∧ W.cell? ⟨w.heap.size + 1, 5, none⟩ = some (.int .u8 p5))) (by kernel_rfl) (⟨HX.out.below HB0.out (by omega), HXA.out.below HB0.out (by omega)⟩) (fun hHeld => ?_)
  refine wpAnyH_take (i := 0) (oi := ({ dst := some 36, op := Go.Op.load 23 (Go.Operand.tmp 3), type := 23, pos := _, after := #[], guard := none } : Oper)) (v := ?_) rfl (by kernel_rfl) (by kernel_rfl) (by kernel_rfl) (fun _ _ _ h => h) (Or.inl ⟨by rfl, ?_⟩) (by assumption) ?_
  rotate_left
  · intro W' hSw
    try dsimp only at hSw
    go_simp
    try with_reducible rfl
  try simp only [Act.put, List.setIfInBounds_toArray, List.set_cons_zero, List.set_cons_succ]
  refine wpAnyH_take (i := 1) (oi := ({ dst := some 37, op := Go.Op.load 23 (Go.Operand.tmp 8), type := 23, pos := _, after := #[], guard := none } : Oper)) (v := ?_) rfl (by kernel_rfl) (by kernel_rfl) (by kernel_rfl) (fun _ _ _ h => h) (Or.inl ⟨by rfl, ?_⟩) (by assumption) ?_
  rotate_left
  · intro W' hSw
    try dsimp only at hSw
    go_simp
    try with_reducible rfl
  try simp only [Act.put, List.setIfInBounds_toArray, List.set_cons_zero, List.set_cons_succ]
  refine wpAnyH_take (i := 2) (oi := ({ dst := some 38, op := Go.Op.move (Go.Operand.tmp 1), type := 24, pos := _, after := #[], guard := none } : Oper)) (v := ?_) rfl (by kernel_rfl) (by kernel_rfl) (by kernel_rfl) (fun _ _ _ h => h) (Or.inl ⟨by rfl, ?_⟩) (by assumption) ?_
  rotate_left
  · intro W' hSw
    try dsimp only at hSw
    go_simp
    try with_reducible rfl
  try simp only [Act.put, List.setIfInBounds_toArray, List.set_cons_zero, List.set_cons_succ]
  refine wpAnyH_take (i := 3) (oi := ({ dst := some 39, op := Go.Op.move (Go.Operand.tmp 2), type := 24, pos := _, after := #[], guard := none } : Oper)) (v := ?_) rfl (by kernel_rfl) (by kernel_rfl) (by kernel_rfl) (fun _ _ _ h => h) (Or.inl ⟨by rfl, ?_⟩) (by assumption) ?_
  rotate_left
  · intro W' hSw
    try dsimp only at hSw
    go_simp
    try with_reducible rfl
  try simp only [Act.put, List.setIfInBounds_toArray, List.set_cons_zero, List.set_cons_succ]
  refine wpAnyH_take (i := 6) (oi := ({ dst := some 42, op := Go.Op.move (Go.Operand.tmp 2), type := 24, pos := _, after := #[], guard := none } : Oper)) (v := ?_) rfl (by kernel_rfl) (by kernel_rfl) (by kernel_rfl) (fun _ _ _ h => h) (Or.inl ⟨by rfl, ?_⟩) (by assumption) ?_
  rotate_left
  · intro W' hSw
    try dsimp only at hSw
    go_simp
    try with_reducible rfl
  try simp only [Act.put, List.setIfInBounds_toArray, List.set_cons_zero, List.set_cons_succ]
  refine wpAnyH_take (i := 7) (oi := ({ dst := some 43, op := Go.Op.binOp Go.BinOp.add 9 (Go.Operand.const (Go.Value.string { data := #[135, 0, 0, 0, 0, 0, 0, 0] })) (Go.Operand.tmp 42) 9, type := 9, pos := _, after := #[{ on := 6, ground := Go.Ground.data }], guard := none } : Oper)) (v := ?_) rfl (by kernel_rfl) (by kernel_rfl) (by kernel_rfl) (fun _ _ _ h => h) (Or.inl ⟨by rfl, ?_⟩) (by assumption) ?_
  rotate_left
  · intro W' hSw
    try dsimp only at hSw
    go_simp
    try with_reducible rfl
  try simp only [Act.put, List.setIfInBounds_toArray, List.set_cons_zero, List.set_cons_succ]
  refine wpAnyH_take (i := 8) (oi := ({ dst := some 44, op := Go.Op.binOp Go.BinOp.add 9 (Go.Operand.tmp 43) (Go.Operand.const (Go.Value.string { data := #[1, 1] })) 9, type := 9, pos := _, after := #[{ on := 7, ground := Go.Ground.data }], guard := none } : Oper)) (v := ?_) rfl (by kernel_rfl) (by kernel_rfl) (by kernel_rfl) (fun _ _ _ h => h) (Or.inl ⟨by rfl, ?_⟩) (by assumption) ?_
  rotate_left
  · intro W' hSw
    try dsimp only at hSw
    go_simp
    try with_reducible rfl
  try simp only [Act.put, List.setIfInBounds_toArray, List.set_cons_zero, List.set_cons_succ]
  refine wpAnyH_take (i := 9) (oi := ({ dst := some 45, op := Go.Op.load 23 (Go.Operand.tmp 3), type := 23, pos := _, after := #[], guard := none } : Oper)) (v := ?_) rfl (by kernel_rfl) (by kernel_rfl) (by kernel_rfl) (fun _ _ _ h => h) (Or.inl ⟨by rfl, ?_⟩) (by assumption) ?_
  rotate_left
  · intro W' hSw
    try dsimp only at hSw
    go_simp
    try with_reducible rfl
  try simp only [Act.put, List.setIfInBounds_toArray, List.set_cons_zero, List.set_cons_succ]
  refine wpAnyH_ready (rs := [4]) (by kernel_rfl) (by simp) ?_
  refine AllReadyH.cons (o := ({ dst := some 40, op := Go.Op.call { callee := Go.Callee.value (Go.Operand.func 17), args := #[Go.Operand.tmp 39], argTypes := #[24] }, type := 24, pos := _, after := #[{ on := 3, ground := Go.Ground.data }], guard := none } : Oper)) rfl (fun K hK => ?_) AllReadyH.nil
  go_simp
  refine (rnear_any t _ (by omega)).mono ?_
  rintro e w1 ⟨rfl, hb1⟩
  have HB1 := Lib.hid (below_then HB0.out (by simp) hb1)
  have z1 : w.heap.size + 2 ≤ w1.heap.size := by have := HB1.out.size; simpa using this
  clear hb1
  go_wp2_with fail
  refine hK.out _ _ ?_ (fun hHeld => ?_)
  · exact ⟨HX.out.below HB1.out (by omega), HXA.out.below HB1.out (by omega)⟩
  clear hK K
  try simp only [Act.put, List.setIfInBounds_toArray, List.set_cons_zero, List.set_cons_succ]
  refine wpAnyH_take (i := 5) (oi := ({ dst := some 41, op := Go.Op.build 72 #[(0, Go.Operand.tmp 38), (1, Go.Operand.tmp 40)], type := 72, pos := _, after := #[{ on := 2, ground := Go.Ground.data }, { on := 4, ground := Go.Ground.data }], guard := none } : Oper)) (v := ?_) rfl (by kernel_rfl) (by kernel_rfl) (by kernel_rfl) (fun _ _ _ h => h) (Or.inl ⟨by rfl, ?_⟩) (by assumption) ?_
  rotate_left
  · intro W' hSw
    try dsimp only at hSw
    go_simp
    try with_reducible rfl
  try simp only [Act.put, List.setIfInBounds_toArray, List.set_cons_zero, List.set_cons_succ]
  refine wpAnyH_ready (rs := [10]) (by kernel_rfl) (by simp) ?_
  refine AllReadyH.cons (o := ({ dst := some 46, op := Go.Op.call { callee := Go.Callee.value (Go.Operand.func 32), args := #[Go.Operand.tmp 45], argTypes := #[23] }, type := 9, pos := _, after := #[{ on := 9, ground := Go.Ground.data }, { on := 4, ground := Go.Ground.chain }], guard := none } : Oper)) rfl (fun K hK => ?_) AllReadyH.nil
  go_simp
  refine (text_at m0 m1 m2 m3 m4 m5 tm _ HM.out HTM.out).mono ?_
  rintro e w2 ⟨rfl, hb2⟩
  have HB2 := Lib.hid (below_then HB1.out (z1) hb2)
  have z2 : w.heap.size + 2 ≤ w2.heap.size := by have := HB2.out.size; simpa using this
  clear hb2
  go_wp2_with fail
  refine hK.out _ _ ?_ (fun hHeld => ?_)
  · exact ⟨HX.out.below HB2.out (by omega), HXA.out.below HB2.out (by omega)⟩
  clear hK K
  try simp only [Act.put, List.setIfInBounds_toArray, List.set_cons_zero, List.set_cons_succ]
  refine wpAnyH_take (i := 11) (oi := ({ dst := some 47, op := Go.Op.binOp Go.BinOp.add 9 (Go.Operand.tmp 44) (Go.Operand.tmp 46) 9, type := 9, pos := _, after := #[{ on := 8, ground := Go.Ground.data }, { on := 10, ground := Go.Ground.data }], guard := none } : Oper)) (v := ?_) rfl (by kernel_rfl) (by kernel_rfl) (by kernel_rfl) (fun _ _ _ h => h) (Or.inl ⟨by rfl, ?_⟩) (by assumption) ?_
  rotate_left
  · intro W' hSw
    try dsimp only at hSw
    go_simp
    try with_reducible rfl
  try simp only [Act.put, List.setIfInBounds_toArray, List.set_cons_zero, List.set_cons_succ]
  refine wpAnyH_ready (rs := [12]) (by kernel_rfl) (by simp) ?_
  refine AllReadyH.cons (o := ({ dst := some 48, op := Go.Op.call { callee := Go.Callee.value (Go.Operand.func 33), args := #[Go.Operand.tmp 36, Go.Operand.tmp 37, Go.Operand.tmp 41, Go.Operand.tmp 47], argTypes := #[23, 23, 72, 9] }, type := 28, pos := _, after := #[{ on := 0, ground := Go.Ground.data }, { on := 1, ground := Go.Ground.data }, { on := 5, ground := Go.Ground.data }, { on := 11, ground := Go.Ground.data }, { on := 10, ground := Go.Ground.chain }], guard := none } : Oper)) rfl (fun K hK => ?_) AllReadyH.nil
  go_simp
  refine (rnd_at m0 m1 m2 m3 m4 m5 51 51 255 p3 p4 p5 135 0 1 1 0 f (near t) t body w2 HM.out HD.out (byt_of rfl) (by omega) h1 HT2.out HG2.out HBD.out).mono ?_
  rintro e w3 ⟨A, n, c, rfl, hp, hb⟩
  have HP3 := hp
  have HB3 := Lib.hid (below_then HB2.out z2 hb.out)
  clear hb hp
  go_wp2_with fail
  refine hK.out _ _ ?_ (fun hHeld => ?_)
  · exact ⟨HX.out.below HB3.out (by omega), HXA.out.below HB3.out (by omega)⟩
  clear hK K
  try simp only [Act.put, List.setIfInBounds_toArray, List.set_cons_zero, List.set_cons_succ]
  refine wpAnyH_take (i := 13) (oi := ({ dst := some 49, op := Go.Op.extract (Go.Operand.tmp 48) 0, type := 26, pos := _, after := #[{ on := 12, ground := Go.Ground.data }], guard := none } : Oper)) (v := ?_) rfl (by kernel_rfl) (by kernel_rfl) (by kernel_rfl) (fun _ _ _ h => h) (Or.inl ⟨by rfl, ?_⟩) (by assumption) ?_
  rotate_left
  · intro W' hSw
    try dsimp only at hSw
    go_simp
    try with_reducible rfl
  try simp only [Act.put, List.setIfInBounds_toArray, List.set_cons_zero, List.set_cons_succ]
  refine wpAnyH_take (i := 14) (oi := ({ dst := some 50, op := Go.Op.extract (Go.Operand.tmp 48) 1, type := 27, pos := _, after := #[{ on := 12, ground := Go.Ground.data }], guard := none } : Oper)) (v := ?_) rfl (by kernel_rfl) (by kernel_rfl) (by kernel_rfl) (fun _ _ _ h => h) (Or.inl ⟨by rfl, ?_⟩) (by assumption) ?_
  rotate_left
  · intro W' hSw
    try dsimp only at hSw
    go_simp
    try with_reducible rfl
  try simp only [Act.put, List.setIfInBounds_toArray, List.set_cons_zero, List.set_cons_succ]
  refine wpAnyH_take (i := 15) (oi := ({ dst := some 6, op := Go.Op.assign (Go.Operand.tmp 49), type := 26, pos := _, after := #[{ on := 13, ground := Go.Ground.data }, { on := 12, ground := Go.Ground.chain }, { on := 0, ground := Go.Ground.phase }, { on := 1, ground := Go.Ground.phase }, { on := 2, ground := Go.Ground.phase }, { on := 3, ground := Go.Ground.phase }, { on := 4, ground := Go.Ground.phase }, { on := 5, ground := Go.Ground.phase }, { on := 6, ground := Go.Ground.phase }, { on := 7, ground := Go.Ground.phase }, { on := 8, ground := Go.Ground.phase }, { on := 9, ground := Go.Ground.phase }, { on := 10, ground := Go.Ground.phase }, { on := 11, ground := Go.Ground.phase }, { on := 12, ground := Go.Ground.phase }, { on := 13, ground := Go.Ground.phase }, { on := 14, ground := Go.Ground.phase }], guard := none } : Oper)) (v := ?_) rfl (by kernel_rfl) (by kernel_rfl) (by kernel_rfl) (fun _ _ _ h => h) (Or.inl ⟨by rfl, ?_⟩) (by assumption) ?_
  rotate_left
  · intro W' hSw
    try dsimp only at hSw
    go_simp
    try with_reducible rfl
  try simp only [Act.put, List.setIfInBounds_toArray, List.set_cons_zero, List.set_cons_succ]
  refine wpAnyH_take (i := 16) (oi := ({ dst := some 7, op := Go.Op.assign (Go.Operand.tmp 50), type := 27, pos := _, after := #[{ on := 14, ground := Go.Ground.data }, { on := 15, ground := Go.Ground.chain }, { on := 0, ground := Go.Ground.phase }, { on := 1, ground := Go.Ground.phase }, { on := 2, ground := Go.Ground.phase }, { on := 3, ground := Go.Ground.phase }, { on := 4, ground := Go.Ground.phase }, { on := 5, ground := Go.Ground.phase }, { on := 6, ground := Go.Ground.phase }, { on := 7, ground := Go.Ground.phase }, { on := 8, ground := Go.Ground.phase }, { on := 9, ground := Go.Ground.phase }, { on := 10, ground := Go.Ground.phase }, { on := 11, ground := Go.Ground.phase }, { on := 12, ground := Go.Ground.phase }, { on := 13, ground := Go.Ground.phase }, { on := 14, ground := Go.Ground.phase }, { on := 15, ground := Go.Ground.phase }], guard := none } : Oper)) (v := ?_) rfl (by kernel_rfl) (by kernel_rfl) (by kernel_rfl) (fun _ _ _ h => h) (Or.inl ⟨by rfl, ?_⟩) (by assumption) ?_
  rotate_left
  · intro W' hSw
    try dsimp only at hSw
    go_simp
    try with_reducible rfl
  try simp only [Act.put, List.setIfInBounds_toArray, List.set_cons_zero, List.set_cons_succ]
  refine wpAnyH_done (by kernel_rfl) ?_ _
  go_wp2
  go_ret2
  exact ⟨_, _, _, rfl, HP3, Lib.hid ((((Below.refl _ _).alloc (Nat.le_refl _) _).alloc (by simp) _).trans (HB3.out.mono (by omega)))⟩
set_option maxHeartbeats 4000000 in
set_option maxRecDepth 100000 in
theorem rtell_six (m0 m1 m2 m3 m4 m5 : Int) (f : ByteArray) (a0 a1 a2 a3 a4 a5 : Int) (t : ByteArray) (w : World) (hm : Byt [m0, m1, m2, m3, m4, m5]) (ha : Byt [a0, a1, a2, a3, a4, a5]) (h1 : f.size = 16) (h2 : t.size = 16) :
    Calls Tryd.prog 12 #[.agg #[.int .u8 m0, .int .u8 m1, .int .u8 m2, .int .u8 m3, .int .u8 m4, .int .u8 m5], .string f, .agg #[.int .u8 a0, .int .u8 a1, .int .u8 a2, .int .u8 a3, .int .u8 a4, .int .u8 a5], .string t] w (RSent (E.wire a0 a1 a2 a3 a4 a5 m0 m1 m2 m3 m4 m5 34525 (strOfNums (wire f t 58 255 (strOfNums (ndS f t 136 0 96 f 2 1 [m0, m1, m2, m3, m4, m5]))))) w) := by
  have HK := Lib.hid (show kindI f t = 16 by simp [kindI, alikeB, rightB, h1, h2])
  have HD := Lib.hid ha
  have HT2 := Lib.hid h2
  have HG2 := Lib.hid h1
  clear ha
  have HM := Lib.hid hm
  obtain ⟨tm, htm⟩ : ∃ tm, strOfNums [m0, m1, m2, m3, m4, m5] = tm := ⟨_, rfl⟩
  have lm : tm.size = 6 := by rw [← htm, strOfNums_size]; rfl
  have HTM := Lib.hid htm
  obtain ⟨body, hbd⟩ : ∃ b, (⟨#[136, 0, 0, 0, 96, 0, 0, 0]⟩ : ByteArray) ++ f ++ ⟨#[2, 1]⟩ ++ tm = b := ⟨_, rfl⟩
  have l8 : ((⟨#[136, 0, 0, 0, 96, 0, 0, 0]⟩ : ByteArray) ++ f).size = 24 := by rw [ByteArray.size_append, HG2.out]; rfl
  have l9 : ((⟨#[136, 0, 0, 0, 96, 0, 0, 0]⟩ : ByteArray) ++ f ++ ⟨#[2, 1]⟩).size = 26 := by rw [ByteArray.size_append, l8]; rfl
  have HBD := Lib.hid (show bts body = ndB 136 0 0 0 96 f 2 1 [m0, m1, m2, m3, m4, m5] by rw [← hbd]; exact body_nd 136 0 96 2 1 f tm m0 m1 m2 m3 m4 m5 hm htm)
  have HX := Lib.hid ((Box6.new w m0 m1 m2 m3 m4 m5).below ((Below.refl _ _).alloc (Nat.le_refl _) (.cells #[.int .u8 a0, .int .u8 a1, .int .u8 a2, .int .u8 a3, .int .u8 a4, .int .u8 a5] 23)) (by simp))
  have HXA := Lib.hid (show Box6 ((w.alloc (.cells #[.int .u8 m0, .int .u8 m1, .int .u8 m2, .int .u8 m3, .int .u8 m4, .int .u8 m5] 23)).alloc (.cells #[.int .u8 a0, .int .u8 a1, .int .u8 a2, .int .u8 a3, .int .u8 a4, .int .u8 a5] 23)) (w.heap.size + 1) a0 a1 a2 a3 a4 a5 by have h := Box6.new (w.alloc (.cells #[.int .u8 m0, .int .u8 m1, .int .u8 m2, .int .u8 m3, .int .u8 m4, .int .u8 m5] 23)) a0 a1 a2 a3 a4 a5; simpa using h)
  have HB0 := Lib.hid (show Below (w.heap.size + 2) ((w.alloc (.cells #[.int .u8 m0, .int .u8 m1, .int .u8 m2, .int .u8 m3, .int .u8 m4, .int .u8 m5] 23)).alloc (.cells #[.int .u8 a0, .int .u8 a1, .int .u8 a2, .int .u8 a3, .int .u8 a4, .int .u8 a5] 23)) ((w.alloc (.cells #[.int .u8 m0, .int .u8 m1, .int .u8 m2, .int .u8 m3, .int .u8 m4, .int .u8 m5] 23)).alloc (.cells #[.int .u8 a0, .int .u8 a1, .int .u8 a2, .int .u8 a3, .int .u8 a4, .int .u8 a5] 23)).drew from below_drew (Below.refl _ _))
  clear hm htm
  go_enter Tryd.func12, Tryd.ntmps12
  go_wp2_with fail
  refine (kind_any f t _ (by omega) (by omega)).mono ?_
  rintro e w' ⟨rfl, rfl⟩
  rw [HK.out]
  go_wp2_with fail
  refine wp_region_held_drew (S := fun W => (W.cell? ⟨w.heap.size, 0, none⟩ = some (.int .u8 m0) ∧ W.cell? ⟨w.heap.size, 1, none⟩ = some (.int .u8 m1) ∧ W.cell? ⟨w.heap.size, 2, none⟩ = some (.int .u8 m2) ∧ W.cell? ⟨w.heap.size, 3, none⟩ = some (.int .u8 m3) ∧ W.cell? ⟨w.heap.size, 4, none⟩ = some (.int .u8 m4) ∧ W.cell? ⟨w.heap.size, 5, none⟩ = some (.int .u8 m5)) ∧ (W.cell? ⟨w.heap.size + 1, 0, none⟩ = some (.int .u8 a0) ∧ W.cell? ⟨w.heap.size + 1, 1, none⟩ = some (.int .u8 a1) ∧ W.cell? ⟨w.heap.size + 1, 2, none⟩ = some (.int .u8 a2) ∧ W.cell? ⟨w.heap.size + 1, 3, none⟩ = some (.int .u8 a3) ∧ W.cell? ⟨w.heap.size + 1, 4, none⟩ = some (.int .u8 a4) ∧ W.cell? ⟨w.heap.size + 1, 5, none⟩ = some (.int .u8 a5))) (by kernel_rfl) (⟨HX.out.below HB0.out (by omega), HXA.out.below HB0.out (by omega)⟩) (fun hHeld => ?_)
  refine wpAnyH_take (i := 0) (oi := ({ dst := some 32, op := Go.Op.load 23 (Go.Operand.tmp 4), type := 23, pos := _, after := #[], guard := none } : Oper)) (v := ?_) rfl (by kernel_rfl) (by kernel_rfl) (by kernel_rfl) (fun _ _ _ h => h) (Or.inl ⟨by rfl, ?_⟩) (by assumption) ?_
  rotate_left
  · intro W' hSw
    try dsimp only at hSw
    go_simp
    try with_reducible rfl
  try simp only [Act.put, List.setIfInBounds_toArray, List.set_cons_zero, List.set_cons_succ]
  refine wpAnyH_take (i := 1) (oi := ({ dst := some 33, op := Go.Op.load 23 (Go.Operand.tmp 6), type := 23, pos := _, after := #[], guard := none } : Oper)) (v := ?_) rfl (by kernel_rfl) (by kernel_rfl) (by kernel_rfl) (fun _ _ _ h => h) (Or.inl ⟨by rfl, ?_⟩) (by assumption) ?_
  rotate_left
  · intro W' hSw
    try dsimp only at hSw
    go_simp
    try with_reducible rfl
  try simp only [Act.put, List.setIfInBounds_toArray, List.set_cons_zero, List.set_cons_succ]
  refine wpAnyH_take (i := 2) (oi := ({ dst := some 34, op := Go.Op.move (Go.Operand.tmp 1), type := 24, pos := _, after := #[], guard := none } : Oper)) (v := ?_) rfl (by kernel_rfl) (by kernel_rfl) (by kernel_rfl) (fun _ _ _ h => h) (Or.inl ⟨by rfl, ?_⟩) (by assumption) ?_
  rotate_left
  · intro W' hSw
    try dsimp only at hSw
    go_simp
    try with_reducible rfl
  try simp only [Act.put, List.setIfInBounds_toArray, List.set_cons_zero, List.set_cons_succ]
  refine wpAnyH_take (i := 3) (oi := ({ dst := some 35, op := Go.Op.move (Go.Operand.tmp 3), type := 24, pos := _, after := #[], guard := none } : Oper)) (v := ?_) rfl (by kernel_rfl) (by kernel_rfl) (by kernel_rfl) (fun _ _ _ h => h) (Or.inl ⟨by rfl, ?_⟩) (by assumption) ?_
  rotate_left
  · intro W' hSw
    try dsimp only at hSw
    go_simp
    try with_reducible rfl
  try simp only [Act.put, List.setIfInBounds_toArray, List.set_cons_zero, List.set_cons_succ]
  refine wpAnyH_take (i := 4) (oi := ({ dst := some 36, op := Go.Op.build 72 #[(0, Go.Operand.tmp 34), (1, Go.Operand.tmp 35)], type := 72, pos := _, after := #[{ on := 2, ground := Go.Ground.data }, { on := 3, ground := Go.Ground.data }], guard := none } : Oper)) (v := ?_) rfl (by kernel_rfl) (by kernel_rfl) (by kernel_rfl) (fun _ _ _ h => h) (Or.inl ⟨by rfl, ?_⟩) (by assumption) ?_
  rotate_left
  · intro W' hSw
    try dsimp only at hSw
    go_simp
    try with_reducible rfl
  try simp only [Act.put, List.setIfInBounds_toArray, List.set_cons_zero, List.set_cons_succ]
  refine wpAnyH_take (i := 5) (oi := ({ dst := some 37, op := Go.Op.move (Go.Operand.tmp 1), type := 24, pos := _, after := #[], guard := none } : Oper)) (v := ?_) rfl (by kernel_rfl) (by kernel_rfl) (by kernel_rfl) (fun _ _ _ h => h) (Or.inl ⟨by rfl, ?_⟩) (by assumption) ?_
  rotate_left
  · intro W' hSw
    try dsimp only at hSw
    go_simp
    try with_reducible rfl
  try simp only [Act.put, List.setIfInBounds_toArray, List.set_cons_zero, List.set_cons_succ]
  refine wpAnyH_take (i := 6) (oi := ({ dst := some 38, op := Go.Op.binOp Go.BinOp.add 9 (Go.Operand.const (Go.Value.string { data := #[136, 0, 0, 0, 96, 0, 0, 0] })) (Go.Operand.tmp 37) 9, type := 9, pos := _, after := #[{ on := 5, ground := Go.Ground.data }], guard := none } : Oper)) (v := ?_) rfl (by kernel_rfl) (by kernel_rfl) (by kernel_rfl) (fun _ _ _ h => h) (Or.inl ⟨by rfl, ?_⟩) (by assumption) ?_
  rotate_left
  · intro W' hSw
    try dsimp only at hSw
    go_simp
    try with_reducible rfl
  try simp only [Act.put, List.setIfInBounds_toArray, List.set_cons_zero, List.set_cons_succ]
  refine wpAnyH_take (i := 7) (oi := ({ dst := some 39, op := Go.Op.binOp Go.BinOp.add 9 (Go.Operand.tmp 38) (Go.Operand.const (Go.Value.string { data := #[2, 1] })) 9, type := 9, pos := _, after := #[{ on := 6, ground := Go.Ground.data }], guard := none } : Oper)) (v := ?_) rfl (by kernel_rfl) (by kernel_rfl) (by kernel_rfl) (fun _ _ _ h => h) (Or.inl ⟨by rfl, ?_⟩) (by assumption) ?_
  rotate_left
  · intro W' hSw
    try dsimp only at hSw
    go_simp
    try with_reducible rfl
  try simp only [Act.put, List.setIfInBounds_toArray, List.set_cons_zero, List.set_cons_succ]
  refine wpAnyH_take (i := 8) (oi := ({ dst := some 40, op := Go.Op.load 23 (Go.Operand.tmp 4), type := 23, pos := _, after := #[], guard := none } : Oper)) (v := ?_) rfl (by kernel_rfl) (by kernel_rfl) (by kernel_rfl) (fun _ _ _ h => h) (Or.inl ⟨by rfl, ?_⟩) (by assumption) ?_
  rotate_left
  · intro W' hSw
    try dsimp only at hSw
    go_simp
    try with_reducible rfl
  try simp only [Act.put, List.setIfInBounds_toArray, List.set_cons_zero, List.set_cons_succ]
  refine wpAnyH_ready (rs := [9]) (by kernel_rfl) (by simp) ?_
  refine AllReadyH.cons (o := ({ dst := some 41, op := Go.Op.call { callee := Go.Callee.value (Go.Operand.func 32), args := #[Go.Operand.tmp 40], argTypes := #[23] }, type := 9, pos := _, after := #[{ on := 8, ground := Go.Ground.data }], guard := none } : Oper)) rfl (fun K hK => ?_) AllReadyH.nil
  go_simp
  refine (text_at m0 m1 m2 m3 m4 m5 tm _ HM.out HTM.out).mono ?_
  rintro e w1 ⟨rfl, hb1⟩
  have HB1 := Lib.hid (below_then HB0.out (by simp) hb1)
  have z1 : w.heap.size + 2 ≤ w1.heap.size := by have := HB1.out.size; simpa using this
  clear hb1
  go_wp2_with fail
  refine hK.out _ _ ?_ (fun hHeld => ?_)
  · exact ⟨HX.out.below HB1.out (by omega), HXA.out.below HB1.out (by omega)⟩
  clear hK K
  try simp only [Act.put, List.setIfInBounds_toArray, List.set_cons_zero, List.set_cons_succ]
  refine wpAnyH_take (i := 10) (oi := ({ dst := some 42, op := Go.Op.binOp Go.BinOp.add 9 (Go.Operand.tmp 39) (Go.Operand.tmp 41) 9, type := 9, pos := _, after := #[{ on := 7, ground := Go.Ground.data }, { on := 9, ground := Go.Ground.data }], guard := none } : Oper)) (v := ?_) rfl (by kernel_rfl) (by kernel_rfl) (by kernel_rfl) (fun _ _ _ h => h) (Or.inl ⟨by rfl, ?_⟩) (by assumption) ?_
  rotate_left
  · intro W' hSw
    try dsimp only at hSw
    go_simp
    try with_reducible rfl
  try simp only [Act.put, List.setIfInBounds_toArray, List.set_cons_zero, List.set_cons_succ]
  refine wpAnyH_ready (rs := [11]) (by kernel_rfl) (by simp) ?_
  refine AllReadyH.cons (o := ({ dst := some 43, op := Go.Op.call { callee := Go.Callee.value (Go.Operand.func 33), args := #[Go.Operand.tmp 32, Go.Operand.tmp 33, Go.Operand.tmp 36, Go.Operand.tmp 42], argTypes := #[23, 23, 72, 9] }, type := 28, pos := _, after := #[{ on := 0, ground := Go.Ground.data }, { on := 1, ground := Go.Ground.data }, { on := 4, ground := Go.Ground.data }, { on := 10, ground := Go.Ground.data }, { on := 9, ground := Go.Ground.chain }], guard := none } : Oper)) rfl (fun K hK => ?_) AllReadyH.nil
  go_simp
  refine (rnd_at m0 m1 m2 m3 m4 m5 a0 a1 a2 a3 a4 a5 136 0 2 1 96 f t f body w1 HM.out HD.out (byt_of rfl) (by omega) h1 HT2.out HG2.out HBD.out).mono ?_
  rintro e w2 ⟨A, n, c, rfl, hp, hb⟩
  have HP2 := hp
  have HB2 := Lib.hid (below_then HB1.out z1 hb.out)
  clear hb hp
  go_wp2_with fail
  refine hK.out _ _ ?_ (fun hHeld => ?_)
  · exact ⟨HX.out.below HB2.out (by omega), HXA.out.below HB2.out (by omega)⟩
  clear hK K
  try simp only [Act.put, List.setIfInBounds_toArray, List.set_cons_zero, List.set_cons_succ]
  refine wpAnyH_take (i := 12) (oi := ({ dst := some 44, op := Go.Op.extract (Go.Operand.tmp 43) 0, type := 26, pos := _, after := #[{ on := 11, ground := Go.Ground.data }], guard := none } : Oper)) (v := ?_) rfl (by kernel_rfl) (by kernel_rfl) (by kernel_rfl) (fun _ _ _ h => h) (Or.inl ⟨by rfl, ?_⟩) (by assumption) ?_
  rotate_left
  · intro W' hSw
    try dsimp only at hSw
    go_simp
    try with_reducible rfl
  try simp only [Act.put, List.setIfInBounds_toArray, List.set_cons_zero, List.set_cons_succ]
  refine wpAnyH_take (i := 13) (oi := ({ dst := some 45, op := Go.Op.extract (Go.Operand.tmp 43) 1, type := 27, pos := _, after := #[{ on := 11, ground := Go.Ground.data }], guard := none } : Oper)) (v := ?_) rfl (by kernel_rfl) (by kernel_rfl) (by kernel_rfl) (fun _ _ _ h => h) (Or.inl ⟨by rfl, ?_⟩) (by assumption) ?_
  rotate_left
  · intro W' hSw
    try dsimp only at hSw
    go_simp
    try with_reducible rfl
  try simp only [Act.put, List.setIfInBounds_toArray, List.set_cons_zero, List.set_cons_succ]
  refine wpAnyH_take (i := 14) (oi := ({ dst := some 8, op := Go.Op.assign (Go.Operand.tmp 44), type := 26, pos := _, after := #[{ on := 12, ground := Go.Ground.data }, { on := 11, ground := Go.Ground.chain }, { on := 0, ground := Go.Ground.phase }, { on := 1, ground := Go.Ground.phase }, { on := 2, ground := Go.Ground.phase }, { on := 3, ground := Go.Ground.phase }, { on := 4, ground := Go.Ground.phase }, { on := 5, ground := Go.Ground.phase }, { on := 6, ground := Go.Ground.phase }, { on := 7, ground := Go.Ground.phase }, { on := 8, ground := Go.Ground.phase }, { on := 9, ground := Go.Ground.phase }, { on := 10, ground := Go.Ground.phase }, { on := 11, ground := Go.Ground.phase }, { on := 12, ground := Go.Ground.phase }, { on := 13, ground := Go.Ground.phase }], guard := none } : Oper)) (v := ?_) rfl (by kernel_rfl) (by kernel_rfl) (by kernel_rfl) (fun _ _ _ h => h) (Or.inl ⟨by rfl, ?_⟩) (by assumption) ?_
  rotate_left
  · intro W' hSw
    try dsimp only at hSw
    go_simp
    try with_reducible rfl
  try simp only [Act.put, List.setIfInBounds_toArray, List.set_cons_zero, List.set_cons_succ]
  refine wpAnyH_take (i := 15) (oi := ({ dst := some 9, op := Go.Op.assign (Go.Operand.tmp 45), type := 27, pos := _, after := #[{ on := 13, ground := Go.Ground.data }, { on := 14, ground := Go.Ground.chain }, { on := 0, ground := Go.Ground.phase }, { on := 1, ground := Go.Ground.phase }, { on := 2, ground := Go.Ground.phase }, { on := 3, ground := Go.Ground.phase }, { on := 4, ground := Go.Ground.phase }, { on := 5, ground := Go.Ground.phase }, { on := 6, ground := Go.Ground.phase }, { on := 7, ground := Go.Ground.phase }, { on := 8, ground := Go.Ground.phase }, { on := 9, ground := Go.Ground.phase }, { on := 10, ground := Go.Ground.phase }, { on := 11, ground := Go.Ground.phase }, { on := 12, ground := Go.Ground.phase }, { on := 13, ground := Go.Ground.phase }, { on := 14, ground := Go.Ground.phase }], guard := none } : Oper)) (v := ?_) rfl (by kernel_rfl) (by kernel_rfl) (by kernel_rfl) (fun _ _ _ h => h) (Or.inl ⟨by rfl, ?_⟩) (by assumption) ?_
  rotate_left
  · intro W' hSw
    try dsimp only at hSw
    go_simp
    try with_reducible rfl
  try simp only [Act.put, List.setIfInBounds_toArray, List.set_cons_zero, List.set_cons_succ]
  refine wpAnyH_done (by kernel_rfl) ?_ _
  go_wp2
  go_ret2
  exact ⟨_, _, _, rfl, HP2, Lib.hid ((((Below.refl _ _).alloc (Nat.le_refl _) _).alloc (by simp) _).trans (HB2.out.mono (by omega)))⟩
set_option maxHeartbeats 4000000 in
set_option maxRecDepth 100000 in
theorem rclaim_six (m0 m1 m2 m3 m4 m5 : Int) (f : ByteArray) (w : World) (hm : Byt [m0, m1, m2, m3, m4, m5]) (h1 : f.size = 16)  :
    Calls Tryd.prog 14 #[.agg #[.int .u8 m0, .int .u8 m1, .int .u8 m2, .int .u8 m3, .int .u8 m4, .int .u8 m5], .string f] w (RSent (E.wire 51 51 0 0 0 1 m0 m1 m2 m3 m4 m5 34525 (strOfNums (wire f everyS 58 255 (strOfNums (ndS f everyS 136 0 32 f 2 1 [m0, m1, m2, m3, m4, m5]))))) w) := by
  have HK := Lib.hid (show kindI f f = 16 by simp [kindI, alikeB, rightB, h1])
  have HD := Lib.hid (byt_of rfl : Byt [51, 51, 0, 0, 0, 1])
  have HT2 := Lib.hid (show everyS.size = 16 from rfl)
  have HG2 := Lib.hid h1
  have HM := Lib.hid hm
  obtain ⟨tm, htm⟩ : ∃ tm, strOfNums [m0, m1, m2, m3, m4, m5] = tm := ⟨_, rfl⟩
  have lm : tm.size = 6 := by rw [← htm, strOfNums_size]; rfl
  have HTM := Lib.hid htm
  obtain ⟨body, hbd⟩ : ∃ b, (⟨#[136, 0, 0, 0, 32, 0, 0, 0]⟩ : ByteArray) ++ f ++ ⟨#[2, 1]⟩ ++ tm = b := ⟨_, rfl⟩
  have l8 : ((⟨#[136, 0, 0, 0, 32, 0, 0, 0]⟩ : ByteArray) ++ f).size = 24 := by rw [ByteArray.size_append, HG2.out]; rfl
  have l9 : ((⟨#[136, 0, 0, 0, 32, 0, 0, 0]⟩ : ByteArray) ++ f ++ ⟨#[2, 1]⟩).size = 26 := by rw [ByteArray.size_append, l8]; rfl
  have HBD := Lib.hid (show bts body = ndB 136 0 0 0 32 f 2 1 [m0, m1, m2, m3, m4, m5] by rw [← hbd]; exact body_nd 136 0 32 2 1 f tm m0 m1 m2 m3 m4 m5 hm htm)
  have HX := Lib.hid (Box6.new w m0 m1 m2 m3 m4 m5)
  have HB0 := Lib.hid (show Below (w.heap.size + 1) (w.alloc (.cells #[.int .u8 m0, .int .u8 m1, .int .u8 m2, .int .u8 m3, .int .u8 m4, .int .u8 m5] 23)) (w.alloc (.cells #[.int .u8 m0, .int .u8 m1, .int .u8 m2, .int .u8 m3, .int .u8 m4, .int .u8 m5] 23)).drew from below_drew (Below.refl _ _))
  clear hm htm
  go_enter Tryd.func14, Tryd.ntmps14
  go_wp2_with fail
  refine (kind_any f f _ (by omega) (by omega)).mono ?_
  rintro e w' ⟨rfl, rfl⟩
  rw [HK.out]
  go_wp2_with fail
  refine wp_region_held_drew (S := fun W => W.cell? ⟨w.heap.size, 0, none⟩ = some (.int .u8 m0) ∧ W.cell? ⟨w.heap.size, 1, none⟩ = some (.int .u8 m1) ∧ W.cell? ⟨w.heap.size, 2, none⟩ = some (.int .u8 m2) ∧ W.cell? ⟨w.heap.size, 3, none⟩ = some (.int .u8 m3) ∧ W.cell? ⟨w.heap.size, 4, none⟩ = some (.int .u8 m4) ∧ W.cell? ⟨w.heap.size, 5, none⟩ = some (.int .u8 m5)) (by kernel_rfl) (HX.out.below HB0.out (by omega)) (fun hHeld => ?_)
  refine wpAnyH_take (i := 0) (oi := ({ dst := some 26, op := Go.Op.load 23 (Go.Operand.tmp 2), type := 23, pos := _, after := #[], guard := none } : Oper)) (v := ?_) rfl (by kernel_rfl) (by kernel_rfl) (by kernel_rfl) (fun _ _ _ h => h) (Or.inl ⟨by rfl, ?_⟩) (by assumption) ?_
  rotate_left
  · intro W' hSw
    try dsimp only at hSw
    go_simp
    try with_reducible rfl
  try simp only [Act.put, List.setIfInBounds_toArray, List.set_cons_zero, List.set_cons_succ]
  refine wpAnyH_take (i := 1) (oi := ({ dst := some 27, op := Go.Op.build 23 #[(0, Go.Operand.const (Go.Value.int Go.IntKind.u8 51)), (1, Go.Operand.const (Go.Value.int Go.IntKind.u8 51)), (2, Go.Operand.const (Go.Value.int Go.IntKind.u8 0)), (3, Go.Operand.const (Go.Value.int Go.IntKind.u8 0)), (4, Go.Operand.const (Go.Value.int Go.IntKind.u8 0)), (5, Go.Operand.const (Go.Value.int Go.IntKind.u8 1))], type := 23, pos := _, after := #[], guard := none } : Oper)) (v := ?_) rfl (by kernel_rfl) (by kernel_rfl) (by kernel_rfl) (fun _ _ _ h => h) (Or.inl ⟨by rfl, ?_⟩) (by assumption) ?_
  rotate_left
  · intro W' hSw
    try dsimp only at hSw
    go_simp
    try with_reducible rfl
  try simp only [Act.put, List.setIfInBounds_toArray, List.set_cons_zero, List.set_cons_succ]
  refine wpAnyH_take (i := 2) (oi := ({ dst := some 28, op := Go.Op.move (Go.Operand.tmp 1), type := 24, pos := _, after := #[], guard := none } : Oper)) (v := ?_) rfl (by kernel_rfl) (by kernel_rfl) (by kernel_rfl) (fun _ _ _ h => h) (Or.inl ⟨by rfl, ?_⟩) (by assumption) ?_
  rotate_left
  · intro W' hSw
    try dsimp only at hSw
    go_simp
    try with_reducible rfl
  try simp only [Act.put, List.setIfInBounds_toArray, List.set_cons_zero, List.set_cons_succ]
  refine wpAnyH_take (i := 5) (oi := ({ dst := some 31, op := Go.Op.move (Go.Operand.tmp 1), type := 24, pos := _, after := #[], guard := none } : Oper)) (v := ?_) rfl (by kernel_rfl) (by kernel_rfl) (by kernel_rfl) (fun _ _ _ h => h) (Or.inl ⟨by rfl, ?_⟩) (by assumption) ?_
  rotate_left
  · intro W' hSw
    try dsimp only at hSw
    go_simp
    try with_reducible rfl
  try simp only [Act.put, List.setIfInBounds_toArray, List.set_cons_zero, List.set_cons_succ]
  refine wpAnyH_take (i := 6) (oi := ({ dst := some 32, op := Go.Op.binOp Go.BinOp.add 9 (Go.Operand.const (Go.Value.string { data := #[136, 0, 0, 0, 32, 0, 0, 0] })) (Go.Operand.tmp 31) 9, type := 9, pos := _, after := #[{ on := 5, ground := Go.Ground.data }], guard := none } : Oper)) (v := ?_) rfl (by kernel_rfl) (by kernel_rfl) (by kernel_rfl) (fun _ _ _ h => h) (Or.inl ⟨by rfl, ?_⟩) (by assumption) ?_
  rotate_left
  · intro W' hSw
    try dsimp only at hSw
    go_simp
    try with_reducible rfl
  try simp only [Act.put, List.setIfInBounds_toArray, List.set_cons_zero, List.set_cons_succ]
  refine wpAnyH_take (i := 7) (oi := ({ dst := some 33, op := Go.Op.binOp Go.BinOp.add 9 (Go.Operand.tmp 32) (Go.Operand.const (Go.Value.string { data := #[2, 1] })) 9, type := 9, pos := _, after := #[{ on := 6, ground := Go.Ground.data }], guard := none } : Oper)) (v := ?_) rfl (by kernel_rfl) (by kernel_rfl) (by kernel_rfl) (fun _ _ _ h => h) (Or.inl ⟨by rfl, ?_⟩) (by assumption) ?_
  rotate_left
  · intro W' hSw
    try dsimp only at hSw
    go_simp
    try with_reducible rfl
  try simp only [Act.put, List.setIfInBounds_toArray, List.set_cons_zero, List.set_cons_succ]
  refine wpAnyH_take (i := 8) (oi := ({ dst := some 34, op := Go.Op.load 23 (Go.Operand.tmp 2), type := 23, pos := _, after := #[], guard := none } : Oper)) (v := ?_) rfl (by kernel_rfl) (by kernel_rfl) (by kernel_rfl) (fun _ _ _ h => h) (Or.inl ⟨by rfl, ?_⟩) (by assumption) ?_
  rotate_left
  · intro W' hSw
    try dsimp only at hSw
    go_simp
    try with_reducible rfl
  try simp only [Act.put, List.setIfInBounds_toArray, List.set_cons_zero, List.set_cons_succ]
  refine wpAnyH_ready (rs := [3]) (by kernel_rfl) (by simp) ?_
  refine AllReadyH.cons (o := ({ dst := some 29, op := Go.Op.call { callee := Go.Callee.value (Go.Operand.func 35), args := #[], argTypes := #[] }, type := 24, pos := _, after := #[], guard := none } : Oper)) rfl (fun K hK => ?_) AllReadyH.nil
  go_simp
  refine (every_any _).mono ?_
  rintro e w1 ⟨rfl, hb1⟩
  have HB1 := Lib.hid (below_then HB0.out (by simp) hb1)
  have z1 : w.heap.size + 1 ≤ w1.heap.size := by have := HB1.out.size; simpa using this
  clear hb1
  go_wp2_with fail
  refine hK.out _ _ ?_ (fun hHeld => ?_)
  · exact HX.out.below HB1.out (by omega)
  clear hK K
  try simp only [Act.put, List.setIfInBounds_toArray, List.set_cons_zero, List.set_cons_succ]
  refine wpAnyH_take (i := 4) (oi := ({ dst := some 30, op := Go.Op.build 72 #[(0, Go.Operand.tmp 28), (1, Go.Operand.tmp 29)], type := 72, pos := _, after := #[{ on := 2, ground := Go.Ground.data }, { on := 3, ground := Go.Ground.data }], guard := none } : Oper)) (v := ?_) rfl (by kernel_rfl) (by kernel_rfl) (by kernel_rfl) (fun _ _ _ h => h) (Or.inl ⟨by rfl, ?_⟩) (by assumption) ?_
  rotate_left
  · intro W' hSw
    try dsimp only at hSw
    go_simp
    try with_reducible rfl
  try simp only [Act.put, List.setIfInBounds_toArray, List.set_cons_zero, List.set_cons_succ]
  refine wpAnyH_ready (rs := [9]) (by kernel_rfl) (by simp) ?_
  refine AllReadyH.cons (o := ({ dst := some 35, op := Go.Op.call { callee := Go.Callee.value (Go.Operand.func 32), args := #[Go.Operand.tmp 34], argTypes := #[23] }, type := 9, pos := _, after := #[{ on := 8, ground := Go.Ground.data }, { on := 3, ground := Go.Ground.chain }], guard := none } : Oper)) rfl (fun K hK => ?_) AllReadyH.nil
  go_simp
  refine (text_at m0 m1 m2 m3 m4 m5 tm _ HM.out HTM.out).mono ?_
  rintro e w2 ⟨rfl, hb2⟩
  have HB2 := Lib.hid (below_then HB1.out (z1) hb2)
  have z2 : w.heap.size + 1 ≤ w2.heap.size := by have := HB2.out.size; simpa using this
  clear hb2
  go_wp2_with fail
  refine hK.out _ _ ?_ (fun hHeld => ?_)
  · exact HX.out.below HB2.out (by omega)
  clear hK K
  try simp only [Act.put, List.setIfInBounds_toArray, List.set_cons_zero, List.set_cons_succ]
  refine wpAnyH_take (i := 10) (oi := ({ dst := some 36, op := Go.Op.binOp Go.BinOp.add 9 (Go.Operand.tmp 33) (Go.Operand.tmp 35) 9, type := 9, pos := _, after := #[{ on := 7, ground := Go.Ground.data }, { on := 9, ground := Go.Ground.data }], guard := none } : Oper)) (v := ?_) rfl (by kernel_rfl) (by kernel_rfl) (by kernel_rfl) (fun _ _ _ h => h) (Or.inl ⟨by rfl, ?_⟩) (by assumption) ?_
  rotate_left
  · intro W' hSw
    try dsimp only at hSw
    go_simp
    try with_reducible rfl
  try simp only [Act.put, List.setIfInBounds_toArray, List.set_cons_zero, List.set_cons_succ]
  refine wpAnyH_ready (rs := [11]) (by kernel_rfl) (by simp) ?_
  refine AllReadyH.cons (o := ({ dst := some 37, op := Go.Op.call { callee := Go.Callee.value (Go.Operand.func 33), args := #[Go.Operand.tmp 26, Go.Operand.tmp 27, Go.Operand.tmp 30, Go.Operand.tmp 36], argTypes := #[23, 23, 72, 9] }, type := 28, pos := _, after := #[{ on := 0, ground := Go.Ground.data }, { on := 1, ground := Go.Ground.data }, { on := 4, ground := Go.Ground.data }, { on := 10, ground := Go.Ground.data }, { on := 9, ground := Go.Ground.chain }], guard := none } : Oper)) rfl (fun K hK => ?_) AllReadyH.nil
  go_simp
  refine (rnd_at m0 m1 m2 m3 m4 m5 51 51 0 0 0 1 136 0 2 1 32 f everyS f body w2 HM.out HD.out (byt_of rfl) (by omega) h1 HT2.out HG2.out HBD.out).mono ?_
  rintro e w3 ⟨A, n, c, rfl, hp, hb⟩
  have HP3 := hp
  have HB3 := Lib.hid (below_then HB2.out z2 hb.out)
  clear hb hp
  go_wp2_with fail
  refine hK.out _ _ ?_ (fun hHeld => ?_)
  · exact HX.out.below HB3.out (by omega)
  clear hK K
  try simp only [Act.put, List.setIfInBounds_toArray, List.set_cons_zero, List.set_cons_succ]
  refine wpAnyH_take (i := 12) (oi := ({ dst := some 38, op := Go.Op.extract (Go.Operand.tmp 37) 0, type := 26, pos := _, after := #[{ on := 11, ground := Go.Ground.data }], guard := none } : Oper)) (v := ?_) rfl (by kernel_rfl) (by kernel_rfl) (by kernel_rfl) (fun _ _ _ h => h) (Or.inl ⟨by rfl, ?_⟩) (by assumption) ?_
  rotate_left
  · intro W' hSw
    try dsimp only at hSw
    go_simp
    try with_reducible rfl
  try simp only [Act.put, List.setIfInBounds_toArray, List.set_cons_zero, List.set_cons_succ]
  refine wpAnyH_take (i := 13) (oi := ({ dst := some 39, op := Go.Op.extract (Go.Operand.tmp 37) 1, type := 27, pos := _, after := #[{ on := 11, ground := Go.Ground.data }], guard := none } : Oper)) (v := ?_) rfl (by kernel_rfl) (by kernel_rfl) (by kernel_rfl) (fun _ _ _ h => h) (Or.inl ⟨by rfl, ?_⟩) (by assumption) ?_
  rotate_left
  · intro W' hSw
    try dsimp only at hSw
    go_simp
    try with_reducible rfl
  try simp only [Act.put, List.setIfInBounds_toArray, List.set_cons_zero, List.set_cons_succ]
  refine wpAnyH_take (i := 14) (oi := ({ dst := some 4, op := Go.Op.assign (Go.Operand.tmp 38), type := 26, pos := _, after := #[{ on := 12, ground := Go.Ground.data }, { on := 11, ground := Go.Ground.chain }, { on := 0, ground := Go.Ground.phase }, { on := 1, ground := Go.Ground.phase }, { on := 2, ground := Go.Ground.phase }, { on := 3, ground := Go.Ground.phase }, { on := 4, ground := Go.Ground.phase }, { on := 5, ground := Go.Ground.phase }, { on := 6, ground := Go.Ground.phase }, { on := 7, ground := Go.Ground.phase }, { on := 8, ground := Go.Ground.phase }, { on := 9, ground := Go.Ground.phase }, { on := 10, ground := Go.Ground.phase }, { on := 11, ground := Go.Ground.phase }, { on := 12, ground := Go.Ground.phase }, { on := 13, ground := Go.Ground.phase }], guard := none } : Oper)) (v := ?_) rfl (by kernel_rfl) (by kernel_rfl) (by kernel_rfl) (fun _ _ _ h => h) (Or.inl ⟨by rfl, ?_⟩) (by assumption) ?_
  rotate_left
  · intro W' hSw
    try dsimp only at hSw
    go_simp
    try with_reducible rfl
  try simp only [Act.put, List.setIfInBounds_toArray, List.set_cons_zero, List.set_cons_succ]
  refine wpAnyH_take (i := 15) (oi := ({ dst := some 5, op := Go.Op.assign (Go.Operand.tmp 39), type := 27, pos := _, after := #[{ on := 13, ground := Go.Ground.data }, { on := 14, ground := Go.Ground.chain }, { on := 0, ground := Go.Ground.phase }, { on := 1, ground := Go.Ground.phase }, { on := 2, ground := Go.Ground.phase }, { on := 3, ground := Go.Ground.phase }, { on := 4, ground := Go.Ground.phase }, { on := 5, ground := Go.Ground.phase }, { on := 6, ground := Go.Ground.phase }, { on := 7, ground := Go.Ground.phase }, { on := 8, ground := Go.Ground.phase }, { on := 9, ground := Go.Ground.phase }, { on := 10, ground := Go.Ground.phase }, { on := 11, ground := Go.Ground.phase }, { on := 12, ground := Go.Ground.phase }, { on := 13, ground := Go.Ground.phase }, { on := 14, ground := Go.Ground.phase }], guard := none } : Oper)) (v := ?_) rfl (by kernel_rfl) (by kernel_rfl) (by kernel_rfl) (fun _ _ _ h => h) (Or.inl ⟨by rfl, ?_⟩) (by assumption) ?_
  rotate_left
  · intro W' hSw
    try dsimp only at hSw
    go_simp
    try with_reducible rfl
  try simp only [Act.put, List.setIfInBounds_toArray, List.set_cons_zero, List.set_cons_succ]
  refine wpAnyH_done (by kernel_rfl) ?_ _
  go_wp2
  go_ret2
  exact ⟨_, _, _, rfl, HP3, Lib.hid (((Below.refl _ _).alloc (Nat.le_refl _) _).trans (HB3.out.mono (by omega)))⟩

end Go.Proofs.YtdoefjhdipkkeaaDoor
