/-
  A part of the walk of EtherNames.
-/
import Derived.Test.YtmjjdgcgngnjhaaNamesPre
namespace Go.Proofs.Ytmjjdgcgngnjhaa
open Go.ChangeShapes Go.WideShapes Go.ChangeAt Go.RowKit
set_option linter.unusedVariables false

attribute [local go_sem] mac_eq

set_option maxHeartbeats 4000000 in
theorem names_no_false (x0 x1 x2 x3 x4 x5 n : Int) (s : ByteArray) (m0 m1 m2 m3 m4 m5 : Int) (w : World) (hx : 0 ≤ x0 ∧ x0 ≤ 255) (hs : s.size ≤ 140737488351232) (hn : n < 1 ∨ 255 < n) (hm : ManyIs s m0 m1 m2 m3 m4 m5 false)  :
    Calls Try.prog 6 #[.agg #[.int .u8 x0, .int .u8 x1, .int .u8 x2, .int .u8 x3, .int .u8 x4, .int .u8 x5], .int .i64 n, .string s] w fun e w' => e = .returned (.bool true) ∧ Below w.heap.size w w' := by
  have hm0 := hm.2.2.1
  have HM := Lib.hid hm
  clear hm
  have A0 : Below w.heap.size w ((w.alloc (.cells #[.int .u8 x0, .int .u8 x1, .int .u8 x2, .int .u8 x3, .int .u8 x4, .int .u8 x5] 23)).alloc (.cells #[.bool false, .bool true] 4)) := below_alloc ((Below.refl _ _).alloc (Nat.le_refl _) _) _
  go_enter Try.func6, Try.ntmps6
  go_wp2_with fail
  go_loopg [19] 2 (fun gg i wr => NmRel ((w.alloc (.cells #[.int .u8 x0, .int .u8 x1, .int .u8 x2, .int .u8 x3, .int .u8 x4, .int .u8 x5] 23)).alloc (.cells #[.bool false, .bool true] 4)) gg i wr)
  case atStart => exact ⟨0, rfl, rfl, Below.refl _ _⟩
  case round =>
    obtain ⟨k, hk, rfl, hbel⟩ := hrel
    have HB := Lib.hid hbel
    clear hbel
    match k, hk with
    | 0, hk =>
      rw [show ((0 : Nat) : Int) = 0 from rfl]
      have ck : wr.cell? ⟨w.heap.size + 1, 0, none⟩ = some (.bool false) := (HB.out.cell (p := ⟨w.heap.size + 1, 0, none⟩) (by simp)).trans (by simp [go_sem])
      go_wp2_with fail
      refine (Virtual_no n false _ hn).mono ?_
      rintro e w2 ⟨rfl, hb2⟩
      have A2 := (below_then HB.out HB.out.size hb2).alloc (below_then HB.out HB.out.size hb2).size (.cells #[.int .u8 0, .int .u8 0, .int .u8 0, .int .u8 0, .int .u8 0, .int .u8 0] 23)
      go_wp2_with fail
      refine (rVirtual_no n false _ hn).mono ?_
      rintro e w3 ⟨rfl, hb3⟩
      obtain ⟨hc3, hf3⟩ := bcell hb3
      have z3 := hb3.size
      simp at z3
      have y3 : w2.heap.size < w3.heap.size := by omega
      have A3 := (below_then A2 A2.size hb3).alloc (below_then A2 A2.size hb3).size (.cells #[.int .u8 0, .int .u8 0, .int .u8 0, .int .u8 0, .int .u8 0, .int .u8 0] 23)
      have HR := Lib.hid (show NmRel ((w.alloc (.cells #[.int .u8 x0, .int .u8 x1, .int .u8 x2, .int .u8 x3, .int .u8 x4, .int .u8 x5] 23)).alloc (.cells #[.bool false, .bool true] 4)) 1 (.int .i64 1) (w3.alloc (.cells #[.int .u8 0, .int .u8 0, .int .u8 0, .int .u8 0, .int .u8 0, .int .u8 0] 23)) from ⟨1, rfl, rfl, A3⟩)
      go_wp2
      go_roundg 1
      case measure => omega
      case rel => exact HR.out
    | 1, hk =>
      rw [show ((1 : Nat) : Int) = 1 from rfl]
      have ck : wr.cell? ⟨w.heap.size + 1, 1, none⟩ = some (.bool true) := (HB.out.cell (p := ⟨w.heap.size + 1, 1, none⟩) (by simp)).trans (by simp [go_sem])
      go_wp2_with fail
      refine (Virtual_no n true _ hn).mono ?_
      rintro e w2 ⟨rfl, hb2⟩
      have A2 := (below_then HB.out HB.out.size hb2).alloc (below_then HB.out HB.out.size hb2).size (.cells #[.int .u8 0, .int .u8 0, .int .u8 0, .int .u8 0, .int .u8 0, .int .u8 0] 23)
      go_wp2_with fail
      refine (rVirtual_no n true _ hn).mono ?_
      rintro e w3 ⟨rfl, hb3⟩
      obtain ⟨hc3, hf3⟩ := bcell hb3
      have z3 := hb3.size
      simp at z3
      have y3 : w2.heap.size < w3.heap.size := by omega
      have A3 := (below_then A2 A2.size hb3).alloc (below_then A2 A2.size hb3).size (.cells #[.int .u8 0, .int .u8 0, .int .u8 0, .int .u8 0, .int .u8 0, .int .u8 0] 23)
      have HR := Lib.hid (show NmRel ((w.alloc (.cells #[.int .u8 x0, .int .u8 x1, .int .u8 x2, .int .u8 x3, .int .u8 x4, .int .u8 x5] 23)).alloc (.cells #[.bool false, .bool true] 4)) 0 (.int .i64 2) (w3.alloc (.cells #[.int .u8 0, .int .u8 0, .int .u8 0, .int .u8 0, .int .u8 0, .int .u8 0] 23)) from ⟨2, rfl, rfl, A3⟩)
      go_wp2
      go_roundg 0
      case measure => omega
      case rel => exact HR.out
    | 2, hk =>
      rw [show ((2 : Nat) : Int) = 2 from rfl]
      go_wp2_with fail
      refine (HM.out.1 _).mono ?_
      rintro e w2 ⟨rfl, hb2⟩
      have A2 := (below_then HB.out HB.out.size hb2).alloc (below_then HB.out HB.out.size hb2).size (.cells #[.int .u8 m0, .int .u8 m1, .int .u8 m2, .int .u8 m3, .int .u8 m4, .int .u8 m5] 23)
      go_wp2_with fail
      refine (HM.out.2.1 _).mono ?_
      rintro e w3 ⟨rfl, hb3⟩
      have A3 := (below_then A2 A2.size hb3).alloc (below_then A2 A2.size hb3).size (.cells #[.int .u8 m0, .int .u8 m1, .int .u8 m2, .int .u8 m3, .int .u8 m4, .int .u8 m5] 23)
      obtain ⟨hc3, hf3⟩ := bcell hb3
      have z2 := A2.size
      have z3 := hb3.size
      simp at z2 z3
      have y2 : w2.heap.size < w3.heap.size := by omega
      have y1 : w.heap.size < w2.heap.size := by omega
      have y3 : w.heap.size < w3.heap.size := by omega
      have cx0 : (w3.alloc (.cells #[.int .u8 m0, .int .u8 m1, .int .u8 m2, .int .u8 m3, .int .u8 m4, .int .u8 m5] 23)).cell? ⟨w.heap.size, 0, none⟩ = some (.int .u8 x0) := (A3.cell (p := ⟨w.heap.size, 0, none⟩) (by simp; omega)).trans (by simp [go_sem])
      have cm0 : (w3.alloc (.cells #[.int .u8 m0, .int .u8 m1, .int .u8 m2, .int .u8 m3, .int .u8 m4, .int .u8 m5] 23)).cell? ⟨w2.heap.size, 0, none⟩ = some (.int .u8 m0) := by simp [go_sem, hc3, y2]
      have cy0 : (w3.alloc (.cells #[.int .u8 m0, .int .u8 m1, .int .u8 m2, .int .u8 m3, .int .u8 m4, .int .u8 m5] 23)).cell? ⟨w3.heap.size, 0, none⟩ = some (.int .u8 m0) := by simp [go_sem]
      have cx1 : (w3.alloc (.cells #[.int .u8 m0, .int .u8 m1, .int .u8 m2, .int .u8 m3, .int .u8 m4, .int .u8 m5] 23)).cell? ⟨w.heap.size, 1, none⟩ = some (.int .u8 x1) := (A3.cell (p := ⟨w.heap.size, 1, none⟩) (by simp; omega)).trans (by simp [go_sem])
      have cm1 : (w3.alloc (.cells #[.int .u8 m0, .int .u8 m1, .int .u8 m2, .int .u8 m3, .int .u8 m4, .int .u8 m5] 23)).cell? ⟨w2.heap.size, 1, none⟩ = some (.int .u8 m1) := by simp [go_sem, hc3, y2]
      have cy1 : (w3.alloc (.cells #[.int .u8 m0, .int .u8 m1, .int .u8 m2, .int .u8 m3, .int .u8 m4, .int .u8 m5] 23)).cell? ⟨w3.heap.size, 1, none⟩ = some (.int .u8 m1) := by simp [go_sem]
      have cx2 : (w3.alloc (.cells #[.int .u8 m0, .int .u8 m1, .int .u8 m2, .int .u8 m3, .int .u8 m4, .int .u8 m5] 23)).cell? ⟨w.heap.size, 2, none⟩ = some (.int .u8 x2) := (A3.cell (p := ⟨w.heap.size, 2, none⟩) (by simp; omega)).trans (by simp [go_sem])
      have cm2 : (w3.alloc (.cells #[.int .u8 m0, .int .u8 m1, .int .u8 m2, .int .u8 m3, .int .u8 m4, .int .u8 m5] 23)).cell? ⟨w2.heap.size, 2, none⟩ = some (.int .u8 m2) := by simp [go_sem, hc3, y2]
      have cy2 : (w3.alloc (.cells #[.int .u8 m0, .int .u8 m1, .int .u8 m2, .int .u8 m3, .int .u8 m4, .int .u8 m5] 23)).cell? ⟨w3.heap.size, 2, none⟩ = some (.int .u8 m2) := by simp [go_sem]
      have cx3 : (w3.alloc (.cells #[.int .u8 m0, .int .u8 m1, .int .u8 m2, .int .u8 m3, .int .u8 m4, .int .u8 m5] 23)).cell? ⟨w.heap.size, 3, none⟩ = some (.int .u8 x3) := (A3.cell (p := ⟨w.heap.size, 3, none⟩) (by simp; omega)).trans (by simp [go_sem])
      have cm3 : (w3.alloc (.cells #[.int .u8 m0, .int .u8 m1, .int .u8 m2, .int .u8 m3, .int .u8 m4, .int .u8 m5] 23)).cell? ⟨w2.heap.size, 3, none⟩ = some (.int .u8 m3) := by simp [go_sem, hc3, y2]
      have cy3 : (w3.alloc (.cells #[.int .u8 m0, .int .u8 m1, .int .u8 m2, .int .u8 m3, .int .u8 m4, .int .u8 m5] 23)).cell? ⟨w3.heap.size, 3, none⟩ = some (.int .u8 m3) := by simp [go_sem]
      have cx4 : (w3.alloc (.cells #[.int .u8 m0, .int .u8 m1, .int .u8 m2, .int .u8 m3, .int .u8 m4, .int .u8 m5] 23)).cell? ⟨w.heap.size, 4, none⟩ = some (.int .u8 x4) := (A3.cell (p := ⟨w.heap.size, 4, none⟩) (by simp; omega)).trans (by simp [go_sem])
      have cm4 : (w3.alloc (.cells #[.int .u8 m0, .int .u8 m1, .int .u8 m2, .int .u8 m3, .int .u8 m4, .int .u8 m5] 23)).cell? ⟨w2.heap.size, 4, none⟩ = some (.int .u8 m4) := by simp [go_sem, hc3, y2]
      have cy4 : (w3.alloc (.cells #[.int .u8 m0, .int .u8 m1, .int .u8 m2, .int .u8 m3, .int .u8 m4, .int .u8 m5] 23)).cell? ⟨w3.heap.size, 4, none⟩ = some (.int .u8 m4) := by simp [go_sem]
      have cx5 : (w3.alloc (.cells #[.int .u8 m0, .int .u8 m1, .int .u8 m2, .int .u8 m3, .int .u8 m4, .int .u8 m5] 23)).cell? ⟨w.heap.size, 5, none⟩ = some (.int .u8 x5) := (A3.cell (p := ⟨w.heap.size, 5, none⟩) (by simp; omega)).trans (by simp [go_sem])
      have cm5 : (w3.alloc (.cells #[.int .u8 m0, .int .u8 m1, .int .u8 m2, .int .u8 m3, .int .u8 m4, .int .u8 m5] 23)).cell? ⟨w2.heap.size, 5, none⟩ = some (.int .u8 m5) := by simp [go_sem, hc3, y2]
      have cy5 : (w3.alloc (.cells #[.int .u8 m0, .int .u8 m1, .int .u8 m2, .int .u8 m3, .int .u8 m4, .int .u8 m5] 23)).cell? ⟨w3.heap.size, 5, none⟩ = some (.int .u8 m5) := by simp [go_sem]
      have l1 : w.heap.size < (w3.alloc (.cells #[.int .u8 m0, .int .u8 m1, .int .u8 m2, .int .u8 m3, .int .u8 m4, .int .u8 m5] 23)).heap.size := by simp; omega
      have l2 : w2.heap.size < (w3.alloc (.cells #[.int .u8 m0, .int .u8 m1, .int .u8 m2, .int .u8 m3, .int .u8 m4, .int .u8 m5] 23)).heap.size := by simp; omega
      have l3 : w3.heap.size < (w3.alloc (.cells #[.int .u8 m0, .int .u8 m1, .int .u8 m2, .int .u8 m3, .int .u8 m4, .int .u8 m5] 23)).heap.size := by simp
      have AA := below_then A0 A0.size A3
      clear hc3 hf3 z2 z3 y1 y2 y3 A2 A3 hb2 hb3 A0
      go_wp2_with fail
      generalize w3.alloc (.cells #[.int .u8 m0, .int .u8 m1, .int .u8 m2, .int .u8 m3, .int .u8 m4, .int .u8 m5] 23) = W0 at *
      generalize w2.heap.size = B2 at *
      generalize w3.heap.size = B3 at *
      have HS := Lib.hid (held_mk cx0 cx1 cx2 cx3 cx4 cx5 cm0 cm1 cm2 cm3 cm4 cm5 cy0 cy1 cy2 cy3 cy4 cy5)
      have HL := Lib.hid (And.intro l1 (And.intro l2 l3))
      have HA := Lib.hid AA
      clear cx0 cm0 cy0 cx1 cm1 cy1 cx2 cm2 cy2 cx3 cm3 cy3 cx4 cm4 cy4 cx5 cm5 cy5 l1 l2 l3 AA HM HB
      have hb0 : Below W0.heap.size W0 W0.drew := below_drew (Below.refl _ _)
      refine wp_region_held_drew (S := fun W => W.cell? ⟨w.heap.size, 0, none⟩ = some (.int .u8 x0) ∧ W.cell? ⟨w.heap.size, 1, none⟩ = some (.int .u8 x1) ∧ W.cell? ⟨w.heap.size, 2, none⟩ = some (.int .u8 x2) ∧ W.cell? ⟨w.heap.size, 3, none⟩ = some (.int .u8 x3) ∧ W.cell? ⟨w.heap.size, 4, none⟩ = some (.int .u8 x4) ∧ W.cell? ⟨w.heap.size, 5, none⟩ = some (.int .u8 x5) ∧ W.cell? ⟨B2, 0, none⟩ = some (.int .u8 m0) ∧ W.cell? ⟨B2, 1, none⟩ = some (.int .u8 m1) ∧ W.cell? ⟨B2, 2, none⟩ = some (.int .u8 m2) ∧ W.cell? ⟨B2, 3, none⟩ = some (.int .u8 m3) ∧ W.cell? ⟨B2, 4, none⟩ = some (.int .u8 m4) ∧ W.cell? ⟨B2, 5, none⟩ = some (.int .u8 m5) ∧ W.cell? ⟨B3, 0, none⟩ = some (.int .u8 m0) ∧ W.cell? ⟨B3, 1, none⟩ = some (.int .u8 m1) ∧ W.cell? ⟨B3, 2, none⟩ = some (.int .u8 m2) ∧ W.cell? ⟨B3, 3, none⟩ = some (.int .u8 m3) ∧ W.cell? ⟨B3, 4, none⟩ = some (.int .u8 m4) ∧ W.cell? ⟨B3, 5, none⟩ = some (.int .u8 m5)) (by kernel_rfl) HS.out (fun hHeld => ?_)
      refine wpAnyH_ready (rs := [0]) (by kernel_rfl) (by simp) ?_
      refine AllReadyH.cons (o := ({ dst := some 61, op := Go.Op.call { callee := Go.Callee.value (Go.Operand.func 12), args := #[], argTypes := #[] }, type := 4, pos := _, after := #[], guard := none } : Oper)) rfl (fun K hK => ?_) AllReadyH.nil
      go_simp
      refine (alive_from (W0 := W0) hb0).mono ?_
      rintro e w4 ⟨rfl, hb4⟩
      clear hb0
      have hb0 := hb4
      clear hb4
      go_wp2_with fail
      refine hK.out _ _ ?_ (fun hHeld => ?_)
      · exact held_from hb0 HL.out HS.out
      clear hK K
      try simp only [Act.put, List.setIfInBounds_toArray, List.set_cons_zero, List.set_cons_succ]
      refine wpAnyH_take (i := 1) (oi := ({ dst := some 62, op := Go.Op.move (Go.Operand.tmp 61), type := 4, pos := _, after := #[{ on := 0, ground := Go.Ground.data }, { on := 0, ground := Go.Ground.chain }], guard := none } : Oper)) (v := ?_) rfl (by kernel_rfl) (by kernel_rfl) (by kernel_rfl) (fun _ _ _ h => h) (Or.inl ⟨by rfl, ?_⟩) (by assumption) ?_
      rotate_left
      · intro W' hSw
        try dsimp only at hSw
        go_simp
        try with_reducible rfl
      try simp only [Act.put, List.setIfInBounds_toArray, List.set_cons_zero, List.set_cons_succ]
      refine wpAnyH_take (i := 2) (oi := ({ dst := some 63, op := Go.Op.load 23 (Go.Operand.tmp 3), type := 23, pos := _, after := #[{ on := 1, ground := Go.Ground.guard }], guard := some (1, true) } : Oper)) (v := ?_) rfl (by kernel_rfl) (by kernel_rfl) (by kernel_rfl) (fun _ _ _ h => h) (Or.inl ⟨by rfl, ?_⟩) (by assumption) ?_
      rotate_left
      · intro W' hSw
        try dsimp only at hSw
        go_simp
        try with_reducible rfl
      try simp only [Act.put, List.setIfInBounds_toArray, List.set_cons_zero, List.set_cons_succ]
      refine wpAnyH_take (i := 4) (oi := ({ dst := some 65, op := Go.Op.load 23 (Go.Operand.tmp 3), type := 23, pos := _, after := #[{ on := 1, ground := Go.Ground.guard }], guard := some (1, true) } : Oper)) (v := ?_) rfl (by kernel_rfl) (by kernel_rfl) (by kernel_rfl) (fun _ _ _ h => h) (Or.inl ⟨by rfl, ?_⟩) (by assumption) ?_
      rotate_left
      · intro W' hSw
        try dsimp only at hSw
        go_simp
        try with_reducible rfl
      try simp only [Act.put, List.setIfInBounds_toArray, List.set_cons_zero, List.set_cons_succ]
      refine wpAnyH_ready (rs := [3]) (by kernel_rfl) (by simp) ?_
      refine AllReadyH.cons (o := ({ dst := some 64, op := Go.Op.call { callee := Go.Callee.value (Go.Operand.func 17), args := #[Go.Operand.tmp 63], argTypes := #[23] }, type := 4, pos := _, after := #[{ on := 2, ground := Go.Ground.data }, { on := 1, ground := Go.Ground.chain }, { on := 1, ground := Go.Ground.guard }], guard := some (1, true) } : Oper)) rfl (fun K hK => ?_) AllReadyH.nil
      go_simp
      refine (group_from (W0 := W0) hb0 (by omega)).mono ?_
      rintro e w4 ⟨rfl, hb4⟩
      clear hb0
      have hb0 := hb4
      clear hb4
      go_wp2_with fail
      refine hK.out _ _ ?_ (fun hHeld => ?_)
      · exact held_from hb0 HL.out HS.out
      clear hK K
      try simp only [Act.put, List.setIfInBounds_toArray, List.set_cons_zero, List.set_cons_succ]
      refine wpAnyH_ready (rs := [5]) (by kernel_rfl) (by simp) ?_
      refine AllReadyH.cons (o := ({ dst := some 66, op := Go.Op.call { callee := Go.Callee.value (Go.Operand.func 20), args := #[Go.Operand.tmp 65], argTypes := #[23] }, type := 4, pos := _, after := #[{ on := 4, ground := Go.Ground.data }, { on := 3, ground := Go.Ground.chain }, { on := 1, ground := Go.Ground.guard }], guard := some (1, true) } : Oper)) rfl (fun K hK => ?_) AllReadyH.nil
      go_simp
      refine (rgroup_from (W0 := W0) hb0 (by omega)).mono ?_
      rintro e w4 ⟨rfl, hb4⟩
      clear hb0
      have hb0 := hb4
      clear hb4
      go_wp2_with fail
      refine hK.out _ _ ?_ (fun hHeld => ?_)
      · exact held_from hb0 HL.out HS.out
      clear hK K
      try simp only [Act.put, List.setIfInBounds_toArray, List.set_cons_zero, List.set_cons_succ]
      refine wpAnyH_take (i := 6) (oi := ({ dst := some 67, op := Go.Op.binOp Go.BinOp.eql 4 (Go.Operand.tmp 64) (Go.Operand.tmp 66) 4, type := 4, pos := _, after := #[{ on := 3, ground := Go.Ground.data }, { on := 5, ground := Go.Ground.data }, { on := 1, ground := Go.Ground.guard }], guard := some (1, true) } : Oper)) (v := ?_) rfl (by kernel_rfl) (by kernel_rfl) (by kernel_rfl) (fun _ _ _ h => h) (Or.inl ⟨by rfl, ?_⟩) (by assumption) ?_
      rotate_left
      · intro W' hSw
        try dsimp only at hSw
        go_simp
        try with_reducible rfl
      try simp only [Act.put, List.setIfInBounds_toArray, List.set_cons_zero, List.set_cons_succ]
      refine wpAnyH_take (i := 7) (oi := ({ dst := some 68, op := Go.Op.pick (Go.Operand.tmp 62) (Go.Operand.tmp 67) (Go.Operand.const (Go.Value.bool false)), type := 4, pos := _, after := #[{ on := 1, ground := Go.Ground.data }, { on := 6, ground := Go.Ground.data }], guard := none } : Oper)) (v := ?_) rfl (by kernel_rfl) (by kernel_rfl) (by kernel_rfl) (fun _ _ _ h => h) (Or.inl ⟨by rfl, ?_⟩) (by assumption) ?_
      rotate_left
      · intro W' hSw
        try dsimp only at hSw
        go_simp
        try with_reducible rfl
      try simp only [Act.put, List.setIfInBounds_toArray, List.set_cons_zero, List.set_cons_succ]
      refine wpAnyH_take (i := 8) (oi := ({ dst := some 69, op := Go.Op.move (Go.Operand.tmp 68), type := 4, pos := _, after := #[{ on := 7, ground := Go.Ground.data }, { on := 5, ground := Go.Ground.chain }], guard := none } : Oper)) (v := ?_) rfl (by kernel_rfl) (by kernel_rfl) (by kernel_rfl) (fun _ _ _ h => h) (Or.inl ⟨by rfl, ?_⟩) (by assumption) ?_
      rotate_left
      · intro W' hSw
        try dsimp only at hSw
        go_simp
        try with_reducible rfl
      try simp only [Act.put, List.setIfInBounds_toArray, List.set_cons_zero, List.set_cons_succ]
      refine wpAnyH_take (i := 9) (oi := ({ dst := some 70, op := Go.Op.load 23 (Go.Operand.tmp 13), type := 23, pos := _, after := #[{ on := 8, ground := Go.Ground.guard }], guard := some (8, true) } : Oper)) (v := ?_) rfl (by kernel_rfl) (by kernel_rfl) (by kernel_rfl) (fun _ _ _ h => h) (Or.inl ⟨by rfl, ?_⟩) (by assumption) ?_
      rotate_left
      · intro W' hSw
        try dsimp only at hSw
        go_simp
        try with_reducible rfl
      try simp only [Act.put, List.setIfInBounds_toArray, List.set_cons_zero, List.set_cons_succ]
      refine wpAnyH_take (i := 10) (oi := ({ dst := some 71, op := Go.Op.load 23 (Go.Operand.tmp 15), type := 23, pos := _, after := #[{ on := 8, ground := Go.Ground.guard }], guard := some (8, true) } : Oper)) (v := ?_) rfl (by kernel_rfl) (by kernel_rfl) (by kernel_rfl) (fun _ _ _ h => h) (Or.inl ⟨by rfl, ?_⟩) (by assumption) ?_
      rotate_left
      · intro W' hSw
        try dsimp only at hSw
        go_simp
        try with_reducible rfl
      try simp only [Act.put, List.setIfInBounds_toArray, List.set_cons_zero, List.set_cons_succ]
      refine wpAnyH_take (i := 11) (oi := ({ dst := some 72, op := Go.Op.binOp Go.BinOp.eql 23 (Go.Operand.tmp 70) (Go.Operand.tmp 71) 23, type := 4, pos := _, after := #[{ on := 9, ground := Go.Ground.data }, { on := 10, ground := Go.Ground.data }, { on := 8, ground := Go.Ground.guard }], guard := some (8, true) } : Oper)) (v := ?_) rfl (by kernel_rfl) (by kernel_rfl) (by kernel_rfl) (fun _ _ _ h => h) (Or.inl ⟨by rfl, ?_⟩) (by assumption) ?_
      rotate_left
      · intro W' hSw
        try dsimp only at hSw
        go_simp
        try with_reducible rfl
      try simp only [Act.put, List.setIfInBounds_toArray, List.set_cons_zero, List.set_cons_succ]
      refine wpAnyH_take (i := 12) (oi := ({ dst := some 73, op := Go.Op.pick (Go.Operand.tmp 69) (Go.Operand.tmp 72) (Go.Operand.const (Go.Value.bool false)), type := 4, pos := _, after := #[{ on := 8, ground := Go.Ground.data }, { on := 11, ground := Go.Ground.data }], guard := none } : Oper)) (v := ?_) rfl (by kernel_rfl) (by kernel_rfl) (by kernel_rfl) (fun _ _ _ h => h) (Or.inl ⟨by rfl, ?_⟩) (by assumption) ?_
      rotate_left
      · intro W' hSw
        try dsimp only at hSw
        go_simp
        try with_reducible rfl
      try simp only [Act.put, List.setIfInBounds_toArray, List.set_cons_zero, List.set_cons_succ]
      refine wpAnyH_take (i := 13) (oi := ({ dst := some 74, op := Go.Op.move (Go.Operand.tmp 73), type := 4, pos := _, after := #[{ on := 12, ground := Go.Ground.data }, { on := 8, ground := Go.Ground.chain }], guard := none } : Oper)) (v := ?_) rfl (by kernel_rfl) (by kernel_rfl) (by kernel_rfl) (fun _ _ _ h => h) (Or.inl ⟨by rfl, ?_⟩) (by assumption) ?_
      rotate_left
      · intro W' hSw
        try dsimp only at hSw
        go_simp
        try with_reducible rfl
      try simp only [Act.put, List.setIfInBounds_toArray, List.set_cons_zero, List.set_cons_succ]
      refine wpAnyH_take (i := 14) (oi := ({ dst := some 75, op := Go.Op.move (Go.Operand.tmp 14), type := 4, pos := _, after := #[{ on := 13, ground := Go.Ground.guard }], guard := some (13, true) } : Oper)) (v := ?_) rfl (by kernel_rfl) (by kernel_rfl) (by kernel_rfl) (fun _ _ _ h => h) (Or.inl ⟨by rfl, ?_⟩) (by assumption) ?_
      rotate_left
      · intro W' hSw
        try dsimp only at hSw
        go_simp
        try with_reducible rfl
      try simp only [Act.put, List.setIfInBounds_toArray, List.set_cons_zero, List.set_cons_succ]
      refine wpAnyH_take (i := 15) (oi := ({ dst := some 76, op := Go.Op.move (Go.Operand.tmp 16), type := 4, pos := _, after := #[{ on := 13, ground := Go.Ground.guard }], guard := some (13, true) } : Oper)) (v := ?_) rfl (by kernel_rfl) (by kernel_rfl) (by kernel_rfl) (fun _ _ _ h => h) (Or.inl ⟨by rfl, ?_⟩) (by assumption) ?_
      rotate_left
      · intro W' hSw
        try dsimp only at hSw
        go_simp
        try with_reducible rfl
      try simp only [Act.put, List.setIfInBounds_toArray, List.set_cons_zero, List.set_cons_succ]
      refine wpAnyH_take (i := 16) (oi := ({ dst := some 77, op := Go.Op.binOp Go.BinOp.eql 4 (Go.Operand.tmp 75) (Go.Operand.tmp 76) 4, type := 4, pos := _, after := #[{ on := 14, ground := Go.Ground.data }, { on := 15, ground := Go.Ground.data }, { on := 13, ground := Go.Ground.guard }], guard := some (13, true) } : Oper)) (v := ?_) rfl (by kernel_rfl) (by kernel_rfl) (by kernel_rfl) (fun _ _ _ h => h) (Or.inl ⟨by rfl, ?_⟩) (by assumption) ?_
      rotate_left
      · intro W' hSw
        try dsimp only at hSw
        go_simp
        try with_reducible rfl
      try simp only [Act.put, List.setIfInBounds_toArray, List.set_cons_zero, List.set_cons_succ]
      refine wpAnyH_take (i := 17) (oi := ({ dst := some 78, op := Go.Op.pick (Go.Operand.tmp 74) (Go.Operand.tmp 77) (Go.Operand.const (Go.Value.bool false)), type := 4, pos := _, after := #[{ on := 13, ground := Go.Ground.data }, { on := 16, ground := Go.Ground.data }], guard := none } : Oper)) (v := ?_) rfl (by kernel_rfl) (by kernel_rfl) (by kernel_rfl) (fun _ _ _ h => h) (Or.inl ⟨by rfl, ?_⟩) (by assumption) ?_
      rotate_left
      · intro W' hSw
        try dsimp only at hSw
        go_simp
        try with_reducible rfl
      try simp only [Act.put, List.setIfInBounds_toArray, List.set_cons_zero, List.set_cons_succ]
      refine wpAnyH_take (i := 18) (oi := ({ dst := some 79, op := Go.Op.move (Go.Operand.tmp 78), type := 4, pos := _, after := #[{ on := 17, ground := Go.Ground.data }, { on := 13, ground := Go.Ground.chain }], guard := none } : Oper)) (v := ?_) rfl (by kernel_rfl) (by kernel_rfl) (by kernel_rfl) (fun _ _ _ h => h) (Or.inl ⟨by rfl, ?_⟩) (by assumption) ?_
      rotate_left
      · intro W' hSw
        try dsimp only at hSw
        go_simp
        try with_reducible rfl
      try simp only [Act.put, List.setIfInBounds_toArray, List.set_cons_zero, List.set_cons_succ]
      refine wpAnyH_take (i := 19) (oi := ({ dst := some 80, op := Go.Op.move (Go.Operand.tmp 14), type := 4, pos := _, after := #[{ on := 18, ground := Go.Ground.guard }], guard := some (18, true) } : Oper)) (v := ?_) rfl (by kernel_rfl) (by kernel_rfl) (by kernel_rfl) (fun _ _ _ h => h) (Or.inl ⟨by rfl, ?_⟩) (by assumption) ?_
      rotate_left
      · intro W' hSw
        try dsimp only at hSw
        go_simp
        try with_reducible rfl
      try simp only [Act.put, List.setIfInBounds_toArray, List.set_cons_zero, List.set_cons_succ]
      refine wpAnyH_take (i := 20) (oi := ({ dst := some 81, op := Go.Op.unOp Go.UnOp.not 4 (Go.Operand.tmp 80), type := 4, pos := _, after := #[{ on := 19, ground := Go.Ground.data }, { on := 18, ground := Go.Ground.guard }], guard := some (18, true) } : Oper)) (v := ?_) rfl (by kernel_rfl) (by kernel_rfl) (by kernel_rfl) (fun _ _ _ h => h) (Or.inl ⟨by rfl, ?_⟩) (by assumption) ?_
      rotate_left
      · intro W' hSw
        try dsimp only at hSw
        go_simp
        try with_reducible rfl
      try simp only [Act.put, List.setIfInBounds_toArray, List.set_cons_zero, List.set_cons_succ]
      refine wpAnyH_take (i := 21) (oi := ({ dst := some 82, op := Go.Op.move (Go.Operand.tmp 81), type := 4, pos := _, after := #[{ on := 20, ground := Go.Ground.data }, { on := 18, ground := Go.Ground.chain }, { on := 18, ground := Go.Ground.guard }], guard := some (18, true) } : Oper)) (v := ?_) rfl (by kernel_rfl) (by kernel_rfl) (by kernel_rfl) (fun _ _ _ h => h) (Or.inl ⟨by rfl, ?_⟩) (by assumption) ?_
      rotate_left
      · intro W' hSw
        try dsimp only at hSw
        go_simp
        try with_reducible rfl
      try simp only [Act.put, List.setIfInBounds_toArray, List.set_cons_zero, List.set_cons_succ]
      refine wpAnyH_ready (rs := [22]) (by kernel_rfl) (by simp) ?_
      refine AllReadyH.cons (o := ({ dst := some 83, op := Go.Op.load 23 (Go.Operand.tmp 13), type := 23, pos := _, after := #[{ on := 21, ground := Go.Ground.guard }], guard := some (21, false) } : Oper)) rfl (fun K hK => ?_) AllReadyH.nil
      go_simp
      refine hK.out _ _ ?_ (fun hHeld => ?_)
      · exact held_from hb0 HL.out HS.out
      clear hK K
      try simp only [Act.put, List.setIfInBounds_toArray, List.set_cons_zero, List.set_cons_succ]
      refine wpAnyH_ready (rs := [23]) (by kernel_rfl) (by simp) ?_
      refine AllReadyH.cons (o := ({ dst := some 84, op := Go.Op.call { callee := Go.Callee.value (Go.Operand.func 17), args := #[Go.Operand.tmp 83], argTypes := #[23] }, type := 4, pos := _, after := #[{ on := 22, ground := Go.Ground.data }, { on := 21, ground := Go.Ground.chain }, { on := 21, ground := Go.Ground.guard }], guard := some (21, false) } : Oper)) rfl (fun K hK => ?_) AllReadyH.nil
      go_simp
      refine hK.out _ _ ?_ (fun hHeld => ?_)
      · exact held_from hb0 HL.out HS.out
      clear hK K
      try simp only [Act.put, List.setIfInBounds_toArray, List.set_cons_zero, List.set_cons_succ]
      refine wpAnyH_take (i := 24) (oi := ({ dst := some 85, op := Go.Op.pick (Go.Operand.tmp 82) (Go.Operand.const (Go.Value.bool true)) (Go.Operand.tmp 84), type := 4, pos := _, after := #[{ on := 21, ground := Go.Ground.data }, { on := 23, ground := Go.Ground.data }, { on := 18, ground := Go.Ground.guard }], guard := some (18, true) } : Oper)) (v := ?_) rfl (by kernel_rfl) (by kernel_rfl) (by kernel_rfl) (fun _ _ _ h => h) (Or.inl ⟨by rfl, ?_⟩) (by assumption) ?_
      rotate_left
      · intro W' hSw
        try dsimp only at hSw
        go_simp
        try with_reducible rfl
      try simp only [Act.put, List.setIfInBounds_toArray, List.set_cons_zero, List.set_cons_succ]
      refine wpAnyH_take (i := 25) (oi := ({ dst := some 86, op := Go.Op.pick (Go.Operand.tmp 79) (Go.Operand.tmp 85) (Go.Operand.const (Go.Value.bool false)), type := 4, pos := _, after := #[{ on := 18, ground := Go.Ground.data }, { on := 24, ground := Go.Ground.data }], guard := none } : Oper)) (v := ?_) rfl (by kernel_rfl) (by kernel_rfl) (by kernel_rfl) (fun _ _ _ h => h) (Or.inl ⟨by rfl, ?_⟩) (by assumption) ?_
      rotate_left
      · intro W' hSw
        try dsimp only at hSw
        go_simp
        try with_reducible rfl
      try simp only [Act.put, List.setIfInBounds_toArray, List.set_cons_zero, List.set_cons_succ]
      refine wpAnyH_take (i := 26) (oi := ({ dst := some 87, op := Go.Op.move (Go.Operand.tmp 86), type := 4, pos := _, after := #[{ on := 25, ground := Go.Ground.data }, { on := 23, ground := Go.Ground.chain }], guard := none } : Oper)) (v := ?_) rfl (by kernel_rfl) (by kernel_rfl) (by kernel_rfl) (fun _ _ _ h => h) (Or.inl ⟨by rfl, ?_⟩) (by assumption) ?_
      rotate_left
      · intro W' hSw
        try dsimp only at hSw
        go_simp
        try with_reducible rfl
      try simp only [Act.put, List.setIfInBounds_toArray, List.set_cons_zero, List.set_cons_succ]
      refine wpAnyH_ready (rs := [27]) (by kernel_rfl) (by simp) ?_
      refine AllReadyH.cons (o := ({ dst := some 88, op := Go.Op.call { callee := Go.Callee.value (Go.Operand.func 21), args := #[], argTypes := #[] }, type := 23, pos := _, after := #[{ on := 26, ground := Go.Ground.chain }, { on := 26, ground := Go.Ground.guard }], guard := some (26, true) } : Oper)) rfl (fun K hK => ?_) AllReadyH.nil
      go_simp
      refine (all_from (W0 := W0) hb0).mono ?_
      rintro e w4 ⟨rfl, hb4⟩
      clear hb0
      have hb0 := hb4
      clear hb4
      go_wp2_with fail
      refine hK.out _ _ ?_ (fun hHeld => ?_)
      · exact held_from hb0 HL.out HS.out
      clear hK K
      try simp only [Act.put, List.setIfInBounds_toArray, List.set_cons_zero, List.set_cons_succ]
      refine wpAnyH_ready (rs := [28]) (by kernel_rfl) (by simp) ?_
      refine AllReadyH.cons (o := ({ dst := some 89, op := Go.Op.call { callee := Go.Callee.value (Go.Operand.func 17), args := #[Go.Operand.tmp 88], argTypes := #[23] }, type := 4, pos := _, after := #[{ on := 27, ground := Go.Ground.data }, { on := 27, ground := Go.Ground.chain }, { on := 26, ground := Go.Ground.guard }], guard := some (26, true) } : Oper)) rfl (fun K hK => ?_) AllReadyH.nil
      go_simp
      refine (group_from (W0 := W0) hb0 (by omega)).mono ?_
      rintro e w4 ⟨rfl, hb4⟩
      clear hb0
      have hb0 := hb4
      clear hb4
      go_wp2_with fail
      refine hK.out _ _ ?_ (fun hHeld => ?_)
      · exact held_from hb0 HL.out HS.out
      clear hK K
      try simp only [Act.put, List.setIfInBounds_toArray, List.set_cons_zero, List.set_cons_succ]
      refine wpAnyH_take (i := 29) (oi := ({ dst := some 90, op := Go.Op.pick (Go.Operand.tmp 87) (Go.Operand.tmp 89) (Go.Operand.const (Go.Value.bool false)), type := 4, pos := _, after := #[{ on := 26, ground := Go.Ground.data }, { on := 28, ground := Go.Ground.data }], guard := none } : Oper)) (v := ?_) rfl (by kernel_rfl) (by kernel_rfl) (by kernel_rfl) (fun _ _ _ h => h) (Or.inl ⟨by rfl, ?_⟩) (by assumption) ?_
      rotate_left
      · intro W' hSw
        try dsimp only at hSw
        go_simp
        try with_reducible rfl
      try simp only [Act.put, List.setIfInBounds_toArray, List.set_cons_zero, List.set_cons_succ]
      refine wpAnyH_take (i := 30) (oi := ({ dst := some 6, op := Go.Op.assign (Go.Operand.tmp 90), type := 4, pos := _, after := #[{ on := 29, ground := Go.Ground.data }, { on := 28, ground := Go.Ground.chain }, { on := 0, ground := Go.Ground.phase }, { on := 1, ground := Go.Ground.phase }, { on := 2, ground := Go.Ground.phase }, { on := 3, ground := Go.Ground.phase }, { on := 4, ground := Go.Ground.phase }, { on := 5, ground := Go.Ground.phase }, { on := 6, ground := Go.Ground.phase }, { on := 7, ground := Go.Ground.phase }, { on := 8, ground := Go.Ground.phase }, { on := 9, ground := Go.Ground.phase }, { on := 10, ground := Go.Ground.phase }, { on := 11, ground := Go.Ground.phase }, { on := 12, ground := Go.Ground.phase }, { on := 13, ground := Go.Ground.phase }, { on := 14, ground := Go.Ground.phase }, { on := 15, ground := Go.Ground.phase }, { on := 16, ground := Go.Ground.phase }, { on := 17, ground := Go.Ground.phase }, { on := 18, ground := Go.Ground.phase }, { on := 19, ground := Go.Ground.phase }, { on := 20, ground := Go.Ground.phase }, { on := 21, ground := Go.Ground.phase }, { on := 22, ground := Go.Ground.phase }, { on := 23, ground := Go.Ground.phase }, { on := 24, ground := Go.Ground.phase }, { on := 25, ground := Go.Ground.phase }, { on := 26, ground := Go.Ground.phase }, { on := 27, ground := Go.Ground.phase }, { on := 28, ground := Go.Ground.phase }, { on := 29, ground := Go.Ground.phase }], guard := none } : Oper)) (v := ?_) rfl (by kernel_rfl) (by kernel_rfl) (by kernel_rfl) (fun _ _ _ h => h) (Or.inl ⟨by rfl, ?_⟩) (by assumption) ?_
      rotate_left
      · intro W' hSw
        try dsimp only at hSw
        go_simp
        try with_reducible rfl
      try simp only [Act.put, List.setIfInBounds_toArray, List.set_cons_zero, List.set_cons_succ]
      refine wpAnyH_done (by kernel_rfl) ?_ _
      go_wp2
      go_ret
      exact ⟨by first | rfl | simp, below_then HA.out HA.out.size hb0⟩
    | k + 3, hk => omega

end Go.Proofs.Ytmjjdgcgngnjhaa
