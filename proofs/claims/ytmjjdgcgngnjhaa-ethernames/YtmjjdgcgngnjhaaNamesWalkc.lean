/-
  A part of the walk of EtherNames.
-/
import Derived.Test.YtmjjdgcgngnjhaaNamesPre
namespace Go.Proofs.Ytmjjdgcgngnjhaa
open Go.ChangeShapes Go.WideShapes Go.ChangeAt Go.RowKit
set_option linter.unusedVariables false

attribute [local go_sem] mac_eq

set_option maxHeartbeats 2000000 in
theorem names_no_true (x0 x1 x2 x3 x4 x5 n : Int) (s : ByteArray) (m0 m1 m2 m3 m4 m5 : Int) (w : World) (hx : 0 ≤ x0 ∧ x0 ≤ 255) (hs : s.size ≤ 140737488351232) (hn : n < 1 ∨ 255 < n) (hm : ManyIs s m0 m1 m2 m3 m4 m5 true) (hg : (m0 % 2 == 1) = true) :
    Calls Try.prog 6 #[.agg #[.int .u8 x0, .int .u8 x1, .int .u8 x2, .int .u8 x3, .int .u8 x4, .int .u8 x5], .int .i64 n, .string s] w fun e w' => e = .returned (.bool true) ∧ Below w.heap.size w w' := by
  have hm0 := hm.2.2.1
  have HM := Lib.hid hm
  clear hm
  have A0 : Below w.heap.size w ((w.alloc (.cells #[.int .u8 x0, .int .u8 x1, .int .u8 x2, .int .u8 x3, .int .u8 x4, .int .u8 x5] 23)).alloc (.cells #[.bool false, .bool true] 4)) := below_alloc ((Below.refl _ _).alloc (Nat.le_refl _) _) _
  go_enter Try.func6, Try.ntmps6
  go_wp2_with fail
  go_loopg [19] 2 (fun gg i wr => NmRel ((w.alloc (.cells #[.int .u8 x0, .int .u8 x1, .int .u8 x2, .int .u8 x3, .int .u8 x4, .int .u8 x5] 23)).alloc (.cells #[.bool false, .bool true] 4)) gg i wr)
  case atStart => exact ⟨0, rfl, rfl, Below.refl _ _⟩
  case round =>
    obtain ⟨k, hk, rfl, hbel⟩ := hrel
    have HB := Lib.hid hbel
    clear hbel
    match k, hk with
    | 0, hk =>
      rw [show ((0 : Nat) : Int) = 0 from rfl]
      have ck : wr.cell? ⟨w.heap.size + 1, 0, none⟩ = some (.bool false) := (HB.out.cell (p := ⟨w.heap.size + 1, 0, none⟩) (by simp)).trans (by simp [go_sem])
      go_wp2_with fail
      refine (Virtual_no n false _ hn).mono ?_
      rintro e w2 ⟨rfl, hb2⟩
      have A2 := (below_then HB.out HB.out.size hb2).alloc (below_then HB.out HB.out.size hb2).size (.cells #[.int .u8 0, .int .u8 0, .int .u8 0, .int .u8 0, .int .u8 0, .int .u8 0] 23)
      go_wp2_with fail
      refine (rVirtual_no n false _ hn).mono ?_
      rintro e w3 ⟨rfl, hb3⟩
      obtain ⟨hc3, hf3⟩ := bcell hb3
      have z3 := hb3.size
      simp at z3
      have y3 : w2.heap.size < w3.heap.size := by omega
      have A3 := (below_then A2 A2.size hb3).alloc (below_then A2 A2.size hb3).size (.cells #[.int .u8 0, .int .u8 0, .int .u8 0, .int .u8 0, .int .u8 0, .int .u8 0] 23)
      have HR := Lib.hid (show NmRel ((w.alloc (.cells #[.int .u8 x0, .int .u8 x1, .int .u8 x2, .int .u8 x3, .int .u8 x4, .int .u8 x5] 23)).alloc (.cells #[.bool false, .bool true] 4)) 1 (.int .i64 1) (w3.alloc (.cells #[.int .u8 0, .int .u8 0, .int .u8 0, .int .u8 0, .int .u8 0, .int .u8 0] 23)) from ⟨1, rfl, rfl, A3⟩)
      go_wp2
      go_roundg 1
      case measure => omega
      case rel => exact HR.out
    | 1, hk =>
      rw [show ((1 : Nat) : Int) = 1 from rfl]
      have ck : wr.cell? ⟨w.heap.size + 1, 1, none⟩ = some (.bool true) := (HB.out.cell (p := ⟨w.heap.size + 1, 1, none⟩) (by simp)).trans (by simp [go_sem])
      go_wp2_with fail
      refine (Virtual_no n true _ hn).mono ?_
      rintro e w2 ⟨rfl, hb2⟩
      have A2 := (below_then HB.out HB.out.size hb2).alloc (below_then HB.out HB.out.size hb2).size (.cells #[.int .u8 0, .int .u8 0, .int .u8 0, .int .u8 0, .int .u8 0, .int .u8 0] 23)
      go_wp2_with fail
      refine (rVirtual_no n true _ hn).mono ?_
      rintro e w3 ⟨rfl, hb3⟩
      obtain ⟨hc3, hf3⟩ := bcell hb3
      have z3 := hb3.size
      simp at z3
      have y3 : w2.heap.size < w3.heap.size := by omega
      have A3 := (below_then A2 A2.size hb3).alloc (below_then A2 A2.size hb3).size (.cells #[.int .u8 0, .int .u8 0, .int .u8 0, .int .u8 0, .int .u8 0, .int .u8 0] 23)
      have HR := Lib.hid (show NmRel ((w.alloc (.cells #[.int .u8 x0, .int .u8 x1, .int .u8 x2, .int .u8 x3, .int .u8 x4, .int .u8 x5] 23)).alloc (.cells #[.bool false, .bool true] 4)) 0 (.int .i64 2) (w3.alloc (.cells #[.int .u8 0, .int .u8 0, .int .u8 0, .int .u8 0, .int .u8 0, .int .u8 0] 23)) from ⟨2, rfl, rfl, A3⟩)
      go_wp2
      go_roundg 0
      case measure => omega
      case rel => exact HR.out
    | 2, hk =>
      rw [show ((2 : Nat) : Int) = 2 from rfl]
      go_wp2_with fail
      refine (HM.out.1 _).mono ?_
      rintro e w2 ⟨rfl, hb2⟩
      have A2 := (below_then HB.out HB.out.size hb2).alloc (below_then HB.out HB.out.size hb2).size (.cells #[.int .u8 m0, .int .u8 m1, .int .u8 m2, .int .u8 m3, .int .u8 m4, .int .u8 m5] 23)
      go_wp2_with fail
      refine (HM.out.2.1 _).mono ?_
      rintro e w3 ⟨rfl, hb3⟩
      have A3 := (below_then A2 A2.size hb3).alloc (below_then A2 A2.size hb3).size (.cells #[.int .u8 m0, .int .u8 m1, .int .u8 m2, .int .u8 m3, .int .u8 m4, .int .u8 m5] 23)
      obtain ⟨hc3, hf3⟩ := bcell hb3
      have z2 := A2.size
      have z3 := hb3.size
      simp at z2 z3
      have y2 : w2.heap.size < w3.heap.size := by omega
      have y1 : w.heap.size < w2.heap.size := by omega
      have y3 : w.heap.size < w3.heap.size := by omega
      have cx0 : (w3.alloc (.cells #[.int .u8 m0, .int .u8 m1, .int .u8 m2, .int .u8 m3, .int .u8 m4, .int .u8 m5] 23)).cell? ⟨w.heap.size, 0, none⟩ = some (.int .u8 x0) := (A3.cell (p := ⟨w.heap.size, 0, none⟩) (by simp; omega)).trans (by simp [go_sem])
      have cm0 : (w3.alloc (.cells #[.int .u8 m0, .int .u8 m1, .int .u8 m2, .int .u8 m3, .int .u8 m4, .int .u8 m5] 23)).cell? ⟨w2.heap.size, 0, none⟩ = some (.int .u8 m0) := by simp [go_sem, hc3, y2]
      have cy0 : (w3.alloc (.cells #[.int .u8 m0, .int .u8 m1, .int .u8 m2, .int .u8 m3, .int .u8 m4, .int .u8 m5] 23)).cell? ⟨w3.heap.size, 0, none⟩ = some (.int .u8 m0) := by simp [go_sem]
      have cx1 : (w3.alloc (.cells #[.int .u8 m0, .int .u8 m1, .int .u8 m2, .int .u8 m3, .int .u8 m4, .int .u8 m5] 23)).cell? ⟨w.heap.size, 1, none⟩ = some (.int .u8 x1) := (A3.cell (p := ⟨w.heap.size, 1, none⟩) (by simp; omega)).trans (by simp [go_sem])
      have cm1 : (w3.alloc (.cells #[.int .u8 m0, .int .u8 m1, .int .u8 m2, .int .u8 m3, .int .u8 m4, .int .u8 m5] 23)).cell? ⟨w2.heap.size, 1, none⟩ = some (.int .u8 m1) := by simp [go_sem, hc3, y2]
      have cy1 : (w3.alloc (.cells #[.int .u8 m0, .int .u8 m1, .int .u8 m2, .int .u8 m3, .int .u8 m4, .int .u8 m5] 23)).cell? ⟨w3.heap.size, 1, none⟩ = some (.int .u8 m1) := by simp [go_sem]
      have cx2 : (w3.alloc (.cells #[.int .u8 m0, .int .u8 m1, .int .u8 m2, .int .u8 m3, .int .u8 m4, .int .u8 m5] 23)).cell? ⟨w.heap.size, 2, none⟩ = some (.int .u8 x2) := (A3.cell (p := ⟨w.heap.size, 2, none⟩) (by simp; omega)).trans (by simp [go_sem])
      have cm2 : (w3.alloc (.cells #[.int .u8 m0, .int .u8 m1, .int .u8 m2, .int .u8 m3, .int .u8 m4, .int .u8 m5] 23)).cell? ⟨w2.heap.size, 2, none⟩ = some (.int .u8 m2) := by simp [go_sem, hc3, y2]
      have cy2 : (w3.alloc (.cells #[.int .u8 m0, .int .u8 m1, .int .u8 m2, .int .u8 m3, .int .u8 m4, .int .u8 m5] 23)).cell? ⟨w3.heap.size, 2, none⟩ = some (.int .u8 m2) := by simp [go_sem]
      have cx3 : (w3.alloc (.cells #[.int .u8 m0, .int .u8 m1, .int .u8 m2, .int .u8 m3, .int .u8 m4, .int .u8 m5] 23)).cell? ⟨w.heap.size, 3, none⟩ = some (.int .u8 x3) := (A3.cell (p := ⟨w.heap.size, 3, none⟩) (by simp; omega)).trans (by simp [go_sem])
      have cm3 : (w3.alloc (.cells #[.int .u8 m0, .int .u8 m1, .int .u8 m2, .int .u8 m3, .int .u8 m4, .int .u8 m5] 23)).cell? ⟨w2.heap.size, 3, none⟩ = some (.int .u8 m3) := by simp [go_sem, hc3, y2]
      have cy3 : (w3.alloc (.cells #[.int .u8 m0, .int .u8 m1, .int .u8 m2, .int .u8 m3, .int .u8 m4, .int .u8 m5] 23)).cell? ⟨w3.heap.size, 3, none⟩ = some (.int .u8 m3) := by simp [go_sem]
      have cx4 : (w3.alloc (.cells #[.int .u8 m0, .int .u8 m1, .int .u8 m2, .int .u8 m3, .int .u8 m4, .int .u8 m5] 23)).cell? ⟨w.heap.size, 4, none⟩ = some (.int .u8 x4) := (A3.cell (p := ⟨w.heap.size, 4, none⟩) (by simp; omega)).trans (by simp [go_sem])
      have cm4 : (w3.alloc (.cells #[.int .u8 m0, .int .u8 m1, .int .u8 m2, .int .u8 m3, .int .u8 m4, .int .u8 m5] 23)).cell? ⟨w2.heap.size, 4, none⟩ = some (.int .u8 m4) := by simp [go_sem, hc3, y2]
      have cy4 : (w3.alloc (.cells #[.int .u8 m0, .int .u8 m1, .int .u8 m2, .int .u8 m3, .int .u8 m4, .int .u8 m5] 23)).cell? ⟨w3.heap.size, 4, none⟩ = some (.int .u8 m4) := by simp [go_sem]
      have cx5 : (w3.alloc (.cells #[.int .u8 m0, .int .u8 m1, .int .u8 m2, .int .u8 m3, .int .u8 m4, .int .u8 m5] 23)).cell? ⟨w.heap.size, 5, none⟩ = some (.int .u8 x5) := (A3.cell (p := ⟨w.heap.size, 5, none⟩) (by simp; omega)).trans (by simp [go_sem])
      have cm5 : (w3.alloc (.cells #[.int .u8 m0, .int .u8 m1, .int .u8 m2, .int .u8 m3, .int .u8 m4, .int .u8 m5] 23)).cell? ⟨w2.heap.size, 5, none⟩ = some (.int .u8 m5) := by simp [go_sem, hc3, y2]
      have cy5 : (w3.alloc (.cells #[.int .u8 m0, .int .u8 m1, .int .u8 m2, .int .u8 m3, .int .u8 m4, .int .u8 m5] 23)).cell? ⟨w3.heap.size, 5, none⟩ = some (.int .u8 m5) := by simp [go_sem]
      have l1 : w.heap.size < (w3.alloc (.cells #[.int .u8 m0, .int .u8 m1, .int .u8 m2, .int .u8 m3, .int .u8 m4, .int .u8 m5] 23)).heap.size := by simp; omega
      have l2 : w2.heap.size < (w3.alloc (.cells #[.int .u8 m0, .int .u8 m1, .int .u8 m2, .int .u8 m3, .int .u8 m4, .int .u8 m5] 23)).heap.size := by simp; omega
      have l3 : w3.heap.size < (w3.alloc (.cells #[.int .u8 m0, .int .u8 m1, .int .u8 m2, .int .u8 m3, .int .u8 m4, .int .u8 m5] 23)).heap.size := by simp
      have AA := below_then A0 A0.size A3
      clear hc3 hf3 z2 z3 y1 y2 y3 A2 A3 hb2 hb3 A0
      go_wp2_with fail
      generalize w3.alloc (.cells #[.int .u8 m0, .int .u8 m1, .int .u8 m2, .int .u8 m3, .int .u8 m4, .int .u8 m5] 23) = W0 at *
      generalize w2.heap.size = B2 at *
      generalize w3.heap.size = B3 at *
      have HS := Lib.hid (held_mk cx0 cx1 cx2 cx3 cx4 cx5 cm0 cm1 cm2 cm3 cm4 cm5 cy0 cy1 cy2 cy3 cy4 cy5)
      have HL := Lib.hid (And.intro l1 (And.intro l2 l3))
      have HA := Lib.hid AA
      clear cx0 cm0 cy0 cx1 cm1 cy1 cx2 cm2 cy2 cx3 cm3 cy3 cx4 cm4 cy4 cx5 cm5 cy5 l1 l2 l3 AA HM HB
      have hb0 : Below W0.heap.size W0 W0.drew := below_drew (Below.refl _ _)
      go_region_held3 (fun W => W.cell? ⟨w.heap.size, 0, none⟩ = some (.int .u8 x0) ∧ W.cell? ⟨w.heap.size, 1, none⟩ = some (.int .u8 x1) ∧ W.cell? ⟨w.heap.size, 2, none⟩ = some (.int .u8 x2) ∧ W.cell? ⟨w.heap.size, 3, none⟩ = some (.int .u8 x3) ∧ W.cell? ⟨w.heap.size, 4, none⟩ = some (.int .u8 x4) ∧ W.cell? ⟨w.heap.size, 5, none⟩ = some (.int .u8 x5) ∧ W.cell? ⟨B2, 0, none⟩ = some (.int .u8 m0) ∧ W.cell? ⟨B2, 1, none⟩ = some (.int .u8 m1) ∧ W.cell? ⟨B2, 2, none⟩ = some (.int .u8 m2) ∧ W.cell? ⟨B2, 3, none⟩ = some (.int .u8 m3) ∧ W.cell? ⟨B2, 4, none⟩ = some (.int .u8 m4) ∧ W.cell? ⟨B2, 5, none⟩ = some (.int .u8 m5) ∧ W.cell? ⟨B3, 0, none⟩ = some (.int .u8 m0) ∧ W.cell? ⟨B3, 1, none⟩ = some (.int .u8 m1) ∧ W.cell? ⟨B3, 2, none⟩ = some (.int .u8 m2) ∧ W.cell? ⟨B3, 3, none⟩ = some (.int .u8 m3) ∧ W.cell? ⟨B3, 4, none⟩ = some (.int .u8 m4) ∧ W.cell? ⟨B3, 5, none⟩ = some (.int .u8 m5))
        (first | exact held_from hb4 HL.out HS.out | exact HS.out)
        (first
        | (go_at_call 12; refine (alive_from (W0 := W0) (by assumption)).mono ?_; rintro e w4 ⟨rfl, hb4⟩; clear hb0; have hb0 := hb4)
        | (go_at_call 17; refine (group_from (W0 := W0) (by assumption) (by omega)).mono ?_; rintro e w4 ⟨rfl, hb4⟩; clear hb0; have hb0 := hb4)
        | (go_at_call 20; refine (rgroup_from (W0 := W0) (by assumption) (by omega)).mono ?_; rintro e w4 ⟨rfl, hb4⟩; clear hb0; have hb0 := hb4)
        | (go_at_call 21; refine (all_from (W0 := W0) (by assumption)).mono ?_; rintro e w4 ⟨rfl, hb4⟩; clear hb0; have hb0 := hb4))
      go_wp2
      go_ret
      exact ⟨by first | rfl | simp, below_then HA.out HA.out.size hb0⟩
    | k + 3, hk => omega

end Go.Proofs.Ytmjjdgcgngnjhaa
