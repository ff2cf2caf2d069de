/-
  What neigh.readNd does where an ND tells.
-/
import Derived.Test.YtdoefjhdipkkeaaDoorNdSizes
import Derived.Test.YtdoefjhdipkkeaaDoorLayNd
import Derived.Test.YtdoefjhdipkkeaaDoorPseudo
import Derived.Laws.Cover3
namespace Go.Proofs.YtdoefjhdipkkeaaDoor
open Go.RowKit
set_option linter.unusedVariables false
set_option maxRecDepth 10000


set_option linter.unusedSectionVars false
attribute [local go_sem ↓] form_eq

section
variable (s : ByteArray) (f t : ByteArray) (bd : ByteArray) (w : World) (hs : s.size ≤ 140737488351232) (hd : dec (bts s) = (⟨f, t, 58, 255, bd⟩, 0)) (hf16 : f.size ≤ 16) (h6 : f.size = 16) (ht6 : t.size = 16) (hb : bd.size = 32) (hG : Glob w) (hx : byteAt (bts bd) 0 = 136 ∧ byteAt (bts bd) 1 = 0 ∧ byteAt (bts bd) 24 = 2 ∧ byteAt (bts bd) 25 = 1)
include hs hd hf16 h6 ht6 hb hG hx
set_option maxHeartbeats 4000000 in
set_option maxRecDepth 100000 in
theorem readNd_tell (S : Int) (hS : fd (tot (pseu f t 58 32 ++ bts bd)) = S) (hg : S = 65535) (m0 m1 m2 m3 m4 m5 : Int) (hm : byteAt (bts bd) 26 = m0 ∧ byteAt (bts bd) 27 = m1 ∧ byteAt (bts bd) 28 = m2 ∧ byteAt (bts bd) 29 = m3 ∧ byteAt (bts bd) 30 = m4 ∧ byteAt (bts bd) 31 = m5) (u : ByteArray) (hu : seg (bts bd) 8 16 = u) (x4 : Int) (h4 : byteAt (bts bd) 4 = x4) (q : Bool) (hq : decide (x4 / 64 % 2 = 1) = q) : Calls Tryd.prog 37 #[.string s] w (Told (⟨2, m0, m1, m2, m3, m4, m5, u, t, q⟩, 0) w) := by
  have HSS := Lib.hid hS
  have HGD := Lib.hid (show (S == 65535) = true by simp [hg])
  have HMM := Lib.hid hm
  have HU := Lib.hid hu
  have b4 : 0 ≤ x4 ∧ x4 ≤ 255 := by rw [← h4]; exact byteAt_bd (bts_byt bd) 4
  have HQ4 := Lib.hid (show (bits BinOp.and IntKind.u8 x4 64 != 0) = q by rw [and_64 x4 b4]; exact hq)
  have HX4' := Lib.hid h4
  clear h4 hq
  clear hS hg hm hu
  have H6 := Lib.hid (show decide (f.size = 16) = true by simp [h6])
  have n4 : ((bd.size : Int) != 32) = false := by simp [hb]
  have HG := Lib.hid hG
  obtain ⟨e0, e1, e24, e25⟩ := hx
  obtain ⟨c1, w1, hr1, ho1, hb1, hz1, -⟩ := conv_bytes (w.alloc (.cells #[.int .i64 0, .int .u8 0, .int .u8 0, .int .u8 0, .int .u8 0, .int .u8 0, .int .u8 0, .string ⟨#[]⟩, .string ⟨#[]⟩, .bool false] 38)) (w.alloc (.cells #[.int .i64 0, .int .u8 0, .int .u8 0, .int .u8 0, .int .u8 0, .int .u8 0, .int .u8 0, .string ⟨#[]⟩, .string ⟨#[]⟩, .bool false] 38)).heap.size s 9 Tryd.underlying9 (Nat.le_refl _) (by omega) (w.heap.size + 1) (by simp) s.size rfl
  have HD := Lib.hid (decode_any (some ⟨w.heap.size + 1, 0, none⟩) s.size c1 (bts s) w1 (ho1.part (bts_byt s)) (by omega) f t 58 255 bd 0 hd)
  have HB1 := Lib.hid hb1
  have z1 : w.heap.size + 1 ≤ w1.heap.size := by have := hb1.size; simpa using this
  clear hb1 hz1 ho1 hd
  go_enter Tryd.func37, Tryd.ntmps37
  go_wp2_with fail
  refine HD.out.mono ?_
  rintro e w2 ⟨rfl, hb2⟩
  have HB2 := Lib.hid (below_then HB1.out (by simpa using z1) hb2)
  obtain ⟨hc1, hf1⟩ : (∀ b o, b < w.heap.size + 1 → w2.cell? ⟨b, o, none⟩ = (w.alloc (.cells #[.int .i64 0, .int .u8 0, .int .u8 0, .int .u8 0, .int .u8 0, .int .u8 0, .int .u8 0, .string ⟨#[]⟩, .string ⟨#[]⟩, .bool false] 38)).cell? ⟨b, o, none⟩) ∧ (∀ b o, b < w.heap.size + 1 → w2.frozen? ⟨b, o, none⟩ = (w.alloc (.cells #[.int .i64 0, .int .u8 0, .int .u8 0, .int .u8 0, .int .u8 0, .int .u8 0, .int .u8 0, .string ⟨#[]⟩, .string ⟨#[]⟩, .bool false] 38)).frozen? ⟨b, o, none⟩) :=
    ⟨fun b o h => HB2.out.cell (p := ⟨b, o, none⟩) (by simpa using h), fun b o h => HB2.out.frozen (p := ⟨b, o, none⟩) (by simpa using h)⟩
  have z2 : w.heap.size + 1 ≤ w2.heap.size := by have := HB2.out.size; simpa using this
  have z3 : w.heap.size < w2.heap.size := z2
  clear hb2 HD
  go_wp2_with fail
  refine (six_any f _ (by omega)).mono ?_
  rintro e w3 ⟨rfl, rfl⟩
  rw [H6.out]
  have HGW := Lib.hid (HG.out.below ((Below.refl _ _).alloc (Nat.le_refl _) (.cells #[.int .i64 0, .int .u8 0, .int .u8 0, .int .u8 0, .int .u8 0, .int .u8 0, .int .u8 0, .string ⟨#[]⟩, .string ⟨#[]⟩, .bool false] 38)) HG.out.size |>.below HB2.out (by have := HG.out.size; simp; omega))
  obtain ⟨c4, w4, hr4, ho4, hb4, hz4, -⟩ := conv_bytes (w2.alloc (.cells #[.string f, .string t, .int .i64 58, .int .i64 255, .string bd] 72)) (w2.alloc (.cells #[.string f, .string t, .int .i64 58, .int .i64 255, .string bd] 72)).heap.size bd 9 Tryd.underlying9 (Nat.le_refl _) (by omega) (w2.heap.size + 1) (by simp) 32 hb
  have HB4 := Lib.hid (below_then (HB2.out.alloc (by simpa using z2) (.cells #[.string f, .string t, .int .i64 58, .int .i64 255, .string bd] 72)) (by simp; omega) hb4)
  have HG4 := Lib.hid (HGW.out.alloc (.cells #[.string f, .string t, .int .i64 58, .int .i64 255, .string bd] 72) |>.below hb4 (HGW.out.alloc (.cells #[.string f, .string t, .int .i64 58, .int .i64 255, .string bd] 72)).size)
  have HX4 := Lib.hid ((Boxed.new w2 f t 58 255 bd).below hb4 (by simp))
  have HO4 := Lib.hid ho4
  have z4 : w2.heap.size + 1 < w4.heap.size := by have := ho4.lt; exact this
  have z5 : w2.heap.size < w4.heap.size := by omega
  have z6 : w.heap.size < w4.heap.size := by omega
  have hc32 : 32 ≤ c4 := ho4.2.2.1
  have at_ : ∀ j, j < 32 → w4.cell? ⟨w2.heap.size + 1, j, none⟩ = some (.int .u8 (byteAt (bts bd) j)) := fun j hj => by rw [HO4.out.cell j hj]; rfl
  have x_0 := at_ 0 (by omega)
  have x_1 := at_ 1 (by omega)
  have x_24 := at_ 24 (by omega)
  have x_25 := at_ 25 (by omega)
  rw [e0] at x_0
  rw [e1] at x_1
  rw [e24] at x_24
  rw [e25] at x_25
  have HAT := Lib.hid at_
  obtain ⟨hc4, hf4⟩ : (∀ b o, b < w.heap.size + 1 → w4.cell? ⟨b, o, none⟩ = (w.alloc (.cells #[.int .i64 0, .int .u8 0, .int .u8 0, .int .u8 0, .int .u8 0, .int .u8 0, .int .u8 0, .string ⟨#[]⟩, .string ⟨#[]⟩, .bool false] 38)).cell? ⟨b, o, none⟩) ∧ (∀ b o, b < w.heap.size + 1 → w4.frozen? ⟨b, o, none⟩ = (w.alloc (.cells #[.int .i64 0, .int .u8 0, .int .u8 0, .int .u8 0, .int .u8 0, .int .u8 0, .int .u8 0, .string ⟨#[]⟩, .string ⟨#[]⟩, .bool false] 38)).frozen? ⟨b, o, none⟩) :=
    ⟨fun b o h => HB4.out.cell (p := ⟨b, o, none⟩) (by simpa using h), fun b o h => HB4.out.frozen (p := ⟨b, o, none⟩) (by simpa using h)⟩
  clear at_ hb4 ho4 hz4
  obtain ⟨gg0, gg1, gg2, gg3, gg4, gg5, gg6, gg7⟩ := HG4.out.alloc (.cells #[.int .u8 136, .int .u8 0, .int .u8 2, .int .u8 1] 63)
  obtain ⟨p0, p1, -, -, -⟩ := HX4.out
  go_wp2_with fail
  go_region
  go_wp2_with fail
  refine (npseudo_any f t _ h6 ht6).mono ?_
  rintro e w6 ⟨g6, c6, rfl, ho6, hb6'⟩
  have hb6 := Lib.hid (show Below (w4.alloc (.cells #[.int .u8 136, .int .u8 0, .int .u8 2, .int .u8 1] 63)).heap.size (w4.alloc (.cells #[.int .u8 136, .int .u8 0, .int .u8 2, .int .u8 1] 63)) w6 from below_left hb6'.out)
  clear hb6'
  have HB6 := Lib.hid (below_then (HB4.out.alloc (by simp; omega) (.cells #[.int .u8 136, .int .u8 0, .int .u8 2, .int .u8 1] 63)) (by simp; omega) hb6.out)
  have HP4 := Lib.hid (((HO4.out.part (bts_byt bd)).alloc (.cells #[.int .u8 136, .int .u8 0, .int .u8 2, .int .u8 1] 63)).below hb6.out)
  have HP6 := Lib.hid (ho6.out.part (pseu_byt f t 58 32))
  have HG6 := Lib.hid ((HG4.out.alloc (.cells #[.int .u8 136, .int .u8 0, .int .u8 2, .int .u8 1] 63)).below hb6.out (HG4.out.alloc (.cells #[.int .u8 136, .int .u8 0, .int .u8 2, .int .u8 1] 63)).size)
  have HX6 := Lib.hid (HX4.out.below (((Below.refl _ _).alloc (Nat.le_refl _) (.cells #[.int .u8 136, .int .u8 0, .int .u8 2, .int .u8 1] 63)).trans (hb6.out.mono (by simp))) z5)
  have HQ := Lib.hid (show w6.cell? ⟨w4.heap.size, 0, none⟩ = some (.int .u8 136) ∧ w6.cell? ⟨w4.heap.size, 1, none⟩ = some (.int .u8 0) ∧ w6.cell? ⟨w4.heap.size, 2, none⟩ = some (.int .u8 2) ∧ w6.cell? ⟨w4.heap.size, 3, none⟩ = some (.int .u8 1) from ⟨(hb6.out.cell (by simp)).trans (by simp [go_sem]), (hb6.out.cell (by simp)).trans (by simp [go_sem]), (hb6.out.cell (by simp)).trans (by simp [go_sem]), (hb6.out.cell (by simp)).trans (by simp [go_sem])⟩)
  have zz : w4.heap.size < w6.heap.size := by have := hb6.out.size; simp at this; omega
  have z7 : w2.heap.size + 1 < w6.heap.size := by omega
  have z8 : w2.heap.size < w6.heap.size := by omega
  have z9 : w.heap.size < w6.heap.size := by omega
  obtain ⟨hc6, hf6⟩ : (∀ b o, b < w.heap.size + 1 → w6.cell? ⟨b, o, none⟩ = (w.alloc (.cells #[.int .i64 0, .int .u8 0, .int .u8 0, .int .u8 0, .int .u8 0, .int .u8 0, .int .u8 0, .string ⟨#[]⟩, .string ⟨#[]⟩, .bool false] 38)).cell? ⟨b, o, none⟩) ∧ (∀ b o, b < w.heap.size + 1 → w6.frozen? ⟨b, o, none⟩ = (w.alloc (.cells #[.int .i64 0, .int .u8 0, .int .u8 0, .int .u8 0, .int .u8 0, .int .u8 0, .int .u8 0, .string ⟨#[]⟩, .string ⟨#[]⟩, .bool false] 38)).frozen? ⟨b, o, none⟩) :=
    ⟨fun b o h => HB6.out.cell (p := ⟨b, o, none⟩) (by simpa using h), fun b o h => HB6.out.frozen (p := ⟨b, o, none⟩) (by simpa using h)⟩
  have HF := Lib.hid (below_then ((Below.refl w.heap.size w).alloc (Nat.le_refl _) (.cells #[.int .i64 0, .int .u8 0, .int .u8 0, .int .u8 0, .int .u8 0, .int .u8 0, .int .u8 0, .string ⟨#[]⟩, .string ⟨#[]⟩, .bool false] 38)) (by simp) HB6.out)
  clear hb6 ho6 hc4 hf4 hc1 hf1 x_0 x_1 x_24 x_25 gg0 gg1 gg2 gg3 gg4 gg5 gg6 gg7 p0 p1 z4 z5 z6
  go_wp2_with fail
  refine (good_at (ps := [⟨some ⟨g6, 0, none⟩, 40, c6, pseu f t 58 32⟩, ⟨some ⟨w2.heap.size + 1, 0, none⟩, 32, c4, bts bd⟩]) (Parts.two (by simp [go_sem, PartV.val]) (by simp [go_sem, PartV.val]) (HP6.out.alloc _) (HP4.out.alloc _) (by simp) (by simp)) (m := 2) rfl (s := S) (by rw [← HSS.out]; simp [flat])).mono ?_
  rintro e w7 ⟨rfl, k7, rfl⟩
  rw [HGD.out]
  have HS := Lib.hid (show ∀ W, Below w6.heap.size w6 W → ((W.cell? ⟨w2.heap.size + 1, 26, none⟩ = some (.int .u8 m0) ∧ W.cell? ⟨w2.heap.size + 1, 27, none⟩ = some (.int .u8 m1) ∧ W.cell? ⟨w2.heap.size + 1, 28, none⟩ = some (.int .u8 m2) ∧ W.cell? ⟨w2.heap.size + 1, 29, none⟩ = some (.int .u8 m3) ∧ W.cell? ⟨w2.heap.size + 1, 30, none⟩ = some (.int .u8 m4) ∧ W.cell? ⟨w2.heap.size + 1, 31, none⟩ = some (.int .u8 m5)) ∧ (convert 26 24 (.slice (some ⟨w2.heap.size + 1, 8, none⟩) 16 (c4 - 8))).run Tryd.prog W = .ok (.string u) W ∧ (Instr.arrayAt 23 (.slice (some ⟨w2.heap.size + 1, 26, none⟩) 6 (c4 - 26))).run Tryd.prog W = .ok (.pointer (some ⟨w2.heap.size + 1, 26, none⟩)) W) from fun W hb => by
    have hp := HP4.out.below hb
    have at_ : ∀ j, j < 32 → W.cell? ⟨w2.heap.size + 1, j, none⟩ = some (.int .u8 (byteAt (bts bd) j)) := fun j hj => by
      have := hp.at (by omega) j hj
      rwa [Nat.zero_add] at this
    obtain ⟨r0, r1, r2, r3, r4, r5⟩ := HMM.out
    refine ⟨⟨r0 ▸ at_ 26 (by omega), r1 ▸ at_ 27 (by omega), r2 ▸ at_ 28 (by omega), r3 ▸ at_ 29 (by omega), r4 ▸ at_ 30 (by omega), r5 ▸ at_ 31 (by omega)⟩, ?_, ?_⟩
    · have h := convert_part (hp.cut3 8 16 (c4 - 8) (by omega) (by omega)) 24 Tryd.underlying24
      rw [Nat.zero_add] at h
      rw [← HU.out]; exact h
    · exact run_arrayAt (w := W) (P := Tryd.prog) 23 5 6 _ 6 (c4 - 26) Tryd.underlying23 (by omega))
  have i26 : (26 : Int) ≤ (c4 : Int) := by omega
  have i24 : (24 : Int) ≤ (c4 : Int) := by omega
  have n8 : ¬ (c4 = 8) := by omega
  have n26 : ¬ (c4 = 26) := by omega
  go_wp2_with fail
  refine wp_region_held_drew (S := fun W => (W.cell? ⟨w2.heap.size + 1, 26, none⟩ = some (.int .u8 m0) ∧ W.cell? ⟨w2.heap.size + 1, 27, none⟩ = some (.int .u8 m1) ∧ W.cell? ⟨w2.heap.size + 1, 28, none⟩ = some (.int .u8 m2) ∧ W.cell? ⟨w2.heap.size + 1, 29, none⟩ = some (.int .u8 m3) ∧ W.cell? ⟨w2.heap.size + 1, 30, none⟩ = some (.int .u8 m4) ∧ W.cell? ⟨w2.heap.size + 1, 31, none⟩ = some (.int .u8 m5)) ∧ (convert 26 24 (.slice (some ⟨w2.heap.size + 1, 8, none⟩) 16 (c4 - 8))).run Tryd.prog W = .ok (.string u) W ∧ (Instr.arrayAt 23 (.slice (some ⟨w2.heap.size + 1, 26, none⟩) 6 (c4 - 26))).run Tryd.prog W = .ok (.pointer (some ⟨w2.heap.size + 1, 26, none⟩)) W) (by kernel_rfl) (HS.out _ (by repeat (first | with_reducible exact Below.refl _ _ | with_reducible apply below_drew | with_reducible apply below_drewN | with_reducible apply below_alloc))) (fun hHeld => ?_)
  refine wpAnyH_take (i := 0) (oi := ({ dst := some 77, op := Go.Op.move (Go.Operand.tmp 6), type := 26, pos := _, after := #[], guard := none } : Oper)) (v := ?_) rfl (by kernel_rfl) (by kernel_rfl) (by kernel_rfl) (fun _ _ _ h => h) (Or.inl ⟨by rfl, ?_⟩) (by assumption) ?_
  rotate_left
  · intro W' hSw
    try dsimp only at hSw
    go_simp
    try with_reducible rfl
  try simp only [Act.put, List.setIfInBounds_toArray, List.set_cons_zero, List.set_cons_succ]
  refine wpAnyH_take (i := 1) (oi := ({ dst := some 78, op := Go.Op.slice 26 (Go.Operand.tmp 77) (some (Go.Operand.const (Go.Value.int Go.IntKind.i64 26))) none none, type := 26, pos := _, after := #[{ on := 0, ground := Go.Ground.data }], guard := none } : Oper)) (v := ?_) rfl (by kernel_rfl) (by kernel_rfl) (by kernel_rfl) (fun _ _ _ h => h) (Or.inl ⟨by rfl, ?_⟩) (by assumption) ?_
  rotate_left
  · intro W' hSw
    try dsimp only at hSw
    go_simp
    try with_reducible rfl
  try simp only [Act.put, List.setIfInBounds_toArray, List.set_cons_zero, List.set_cons_succ]
  refine wpAnyH_take (i := 2) (oi := ({ dst := some 79, op := Go.Op.sliceToArrayPointer 23 (Go.Operand.tmp 78), type := 0, pos := _, after := #[{ on := 1, ground := Go.Ground.data }], guard := none } : Oper)) (v := ?_) rfl (by kernel_rfl) (by kernel_rfl) (by kernel_rfl) (fun _ _ _ h => h) (Or.inl ⟨by rfl, ?_⟩) (by assumption) ?_
  rotate_left
  · intro W' hSw
    try dsimp only at hSw
    go_simp
    try with_reducible rfl
  try simp only [Act.put, List.setIfInBounds_toArray, List.set_cons_zero, List.set_cons_succ]
  refine wpAnyH_take (i := 3) (oi := ({ dst := some 80, op := Go.Op.load 23 (Go.Operand.tmp 79), type := 23, pos := _, after := #[{ on := 2, ground := Go.Ground.data }], guard := none } : Oper)) (v := ?_) rfl (by kernel_rfl) (by kernel_rfl) (by kernel_rfl) (fun _ _ _ h => h) (Or.inl ⟨by rfl, ?_⟩) (by assumption) ?_
  rotate_left
  · intro W' hSw
    try dsimp only at hSw
    go_simp
    try with_reducible rfl
  try simp only [Act.put, List.setIfInBounds_toArray, List.set_cons_zero, List.set_cons_succ]
  refine wpAnyH_take (i := 4) (oi := ({ dst := some 81, op := Go.Op.move (Go.Operand.tmp 6), type := 26, pos := _, after := #[], guard := none } : Oper)) (v := ?_) rfl (by kernel_rfl) (by kernel_rfl) (by kernel_rfl) (fun _ _ _ h => h) (Or.inl ⟨by rfl, ?_⟩) (by assumption) ?_
  rotate_left
  · intro W' hSw
    try dsimp only at hSw
    go_simp
    try with_reducible rfl
  try simp only [Act.put, List.setIfInBounds_toArray, List.set_cons_zero, List.set_cons_succ]
  refine wpAnyH_take (i := 5) (oi := ({ dst := some 82, op := Go.Op.slice 26 (Go.Operand.tmp 81) (some (Go.Operand.const (Go.Value.int Go.IntKind.i64 8))) (some (Go.Operand.const (Go.Value.int Go.IntKind.i64 24))) none, type := 26, pos := _, after := #[{ on := 4, ground := Go.Ground.data }], guard := none } : Oper)) (v := ?_) rfl (by kernel_rfl) (by kernel_rfl) (by kernel_rfl) (fun _ _ _ h => h) (Or.inl ⟨by rfl, ?_⟩) (by assumption) ?_
  rotate_left
  · intro W' hSw
    try dsimp only at hSw
    go_simp
    try with_reducible rfl
  try simp only [Act.put, List.setIfInBounds_toArray, List.set_cons_zero, List.set_cons_succ]
  refine wpAnyH_take (i := 6) (oi := ({ dst := some 83, op := Go.Op.convert 26 24 (Go.Operand.tmp 82), type := 24, pos := _, after := #[{ on := 5, ground := Go.Ground.data }, { on := 8, ground := Go.Ground.gcOnly Go.Departure.lateStores }], guard := none } : Oper)) (v := ?_) rfl (by kernel_rfl) (by kernel_rfl) (by kernel_rfl) (fun _ _ _ h => h) (Or.inl ⟨by rfl, ?_⟩) (by assumption) ?_
  rotate_left
  · intro W' hSw
    try dsimp only at hSw
    go_simp
    try with_reducible rfl
  try simp only [Act.put, List.setIfInBounds_toArray, List.set_cons_zero, List.set_cons_succ]
  refine wpAnyH_ready (rs := [7]) (by kernel_rfl) (by simp) ?_
  refine AllReadyH.cons (o := ({ dst := some 8, op := Go.Op.alloc 23, type := 0, pos := _, after := #[], guard := none } : Oper)) rfl (fun K hK => ?_) AllReadyH.nil
  go_simp
  refine hK.out _ _ ?_ (fun hHeld => ?_)
  · exact HS.out _ (by repeat (first | with_reducible exact Below.refl _ _ | with_reducible apply below_drew | with_reducible apply below_drewN | with_reducible apply below_alloc))
  clear hK K
  try simp only [Act.put, List.setIfInBounds_toArray, List.set_cons_zero, List.set_cons_succ]
  refine wpAnyH_ready (rs := [8]) (by kernel_rfl) (by simp) ?_
  refine AllReadyH.cons (o := ({ dst := none, op := Go.Op.store 23 (Go.Operand.tmp 8) (Go.Operand.tmp 80), type := 0, pos := _, after := #[{ on := 7, ground := Go.Ground.data }, { on := 3, ground := Go.Ground.data }, { on := 0, ground := Go.Ground.phase }, { on := 1, ground := Go.Ground.phase }, { on := 2, ground := Go.Ground.phase }, { on := 3, ground := Go.Ground.phase }, { on := 4, ground := Go.Ground.textOnly Go.Departure.lateStores }, { on := 5, ground := Go.Ground.textOnly Go.Departure.lateStoresUnsure }, { on := 6, ground := Go.Ground.textOnly Go.Departure.lateStores }, { on := 7, ground := Go.Ground.phase }], guard := none } : Oper)) rfl (fun K hK => ?_) AllReadyH.nil
  go_simp
  refine hK.out _ _ ?_ (fun hHeld => ?_)
  · exact HS.out _ (by repeat (first | with_reducible exact Below.refl _ _ | with_reducible apply below_drew | with_reducible apply below_drewN | with_reducible apply below_alloc))
  clear hK K
  try simp only [Act.put, List.setIfInBounds_toArray, List.set_cons_zero, List.set_cons_succ]
  refine wpAnyH_take (i := 9) (oi := ({ dst := some 9, op := Go.Op.assign (Go.Operand.tmp 83), type := 24, pos := _, after := #[{ on := 6, ground := Go.Ground.data }, { on := 8, ground := Go.Ground.chain }, { on := 0, ground := Go.Ground.phase }, { on := 1, ground := Go.Ground.phase }, { on := 2, ground := Go.Ground.phase }, { on := 3, ground := Go.Ground.phase }, { on := 4, ground := Go.Ground.phase }, { on := 5, ground := Go.Ground.phase }, { on := 6, ground := Go.Ground.phase }, { on := 7, ground := Go.Ground.phase }, { on := 8, ground := Go.Ground.phase }], guard := none } : Oper)) (v := ?_) rfl (by kernel_rfl) (by kernel_rfl) (by kernel_rfl) (fun _ _ _ h => h) (Or.inl ⟨by rfl, ?_⟩) (by assumption) ?_
  rotate_left
  · intro W' hSw
    try dsimp only at hSw
    go_simp
    try with_reducible rfl
  try simp only [Act.put, List.setIfInBounds_toArray, List.set_cons_zero, List.set_cons_succ]
  refine wpAnyH_done (by kernel_rfl) ?_ _

  obtain ⟨g0, g1, g2, g3, -⟩ := ((HG6.out.alloc (.cells #[.slice (some ⟨g6, 0, none⟩) 40 c6, .slice (some ⟨w2.heap.size + 1, 0, none⟩) 32 c4] 26)).below (below_drewN (Below.refl _ _) (k7 + 1)) (HG6.out.alloc (.cells #[.slice (some ⟨g6, 0, none⟩) 40 c6, .slice (some ⟨w2.heap.size + 1, 0, none⟩) 32 c4] 26)).size).alloc (.cells #[.int .u8 m0, .int .u8 m1, .int .u8 m2, .int .u8 m3, .int .u8 m4, .int .u8 m5] 23)
  obtain ⟨q0, q1, q2, q3⟩ := HQ.out
  obtain ⟨p0, p1, -, -, -⟩ := HX6.out
  have y4 := HP4.out.at (by omega) 4 (by omega)
  rw [HX4'.out, Nat.zero_add] at y4
  have hq4 := HQ4.out
  go_wp2
  exact bodyPost_ret (v := .tuple #[.agg #[.int .i64 2, .int .u8 m0, .int .u8 m1, .int .u8 m2, .int .u8 m3, .int .u8 m4, .int .u8 m5, .string u, .string t, .bool q], .int .i64 0]) (by simp [results, Tryd.results37, go_sem, hc6, World.cell?_alloc_lt, z9]) rfl ⟨rfl, below_alloc (below10 (below_drewN (below_alloc HF.out _) (k7 + 1))) _⟩
end

end Go.Proofs.YtdoefjhdipkkeaaDoor
