/-
  The walk of CksumSums.
-/
import Derived.Test.YtadpoklopahoeaaApp
namespace Go.Proofs.Ytadpoklopahoeaa
open Go.ChangeShapes Go.WideShapes Go.ChangeAt Go.RowKit
set_option linter.unusedVariables false

theorem below_then {w W w1 : World} {B : Nat} (h : Below B w W) (hB : B ≤ W.heap.size) (hb : Below W.heap.size W w1) : Below B w w1 := h.trans (hb.mono hB)
theorem three_new {W : World} {N n1 c1 n2 c2 n3 c3 : Nat} {a1 a2 a3 : Option Addr} {b1 b2 b3 : List Int} (hN : N = W.heap.size) (h1 : Part W ⟨a1, n1, c1, b1⟩) (h2 : Part W ⟨a2, n2, c2, b2⟩) (h3 : Part W ⟨a3, n3, c3, b3⟩) :
    Three (W.alloc (.cells #[.slice a1 n1 c1, .slice a2 n2 c2, .slice a3 n3 c3] 22)) N n1 n2 n3 b1 b2 b3 :=
  ⟨a1, c1, a2, c2, a3, c3, (World.cell?_alloc_at _ _ _ _ hN).trans rfl, (World.cell?_alloc_at _ _ _ _ hN).trans rfl, (World.cell?_alloc_at _ _ _ _ hN).trans rfl, h1.alloc _, h2.alloc _, h3.alloc _⟩
theorem own_part {w : World} {B : Nat} {v : Value} {zs : List Int} (h : Own w B v zs) (hz : Byt zs) : ∃ A c N, v = .slice A N c ∧ Part w ⟨A, N, c, zs⟩ := by
  obtain ⟨A, c, e, hp⟩ := h.part hz
  exact ⟨A, c, zs.length, e, hp⟩
theorem own_empty (w : World) : Own (w.alloc (.cells #[] 5)) w.heap.size (.slice (some ⟨w.heap.size, 0, none⟩) 0 0) [] :=
  World.ownsRow_made w #[] 0 (Nat.le_refl _) (by simp [maxLen]) rfl

set_option maxHeartbeats 1000000 in
theorem sums_walk (a : Option Addr) (n cn : Nat) (A : List Int) (b : Option Addr) (m cm : Nat) (B : List Int) (c : Option Addr) (p cp : Nat) (C : List Int) (w : World)
    (ha : Part w ⟨a, n, cn, A⟩) (hb : Part w ⟨b, m, cm, B⟩) (hc : Part w ⟨c, p, cp, C⟩) (hl : cn + cm + cp ≤ 1048576) :
    Calls Try.prog 3 #[.slice a n cn, .slice b m cm, .slice c p cp] w fun e w' => e = .returned (.bool true) ∧ Below w.heap.size w w' := by
  have k1 : n ≤ cn := ha.2.1
  have k2 : m ≤ cm := hb.2.1
  have k3 : p ≤ cp := hc.2.1
  have HL := Lib.hid (show n ≤ 140737488355328 ∧ m ≤ 140737488355328 ∧ p ≤ 140737488355328 by omega)
  have e1 : A.length = n := ha.1
  have e2 : B.length = m := hb.1
  have e3 : C.length = p := hc.1
  have hbyt : Byt (([] ++ A ++ B) ++ C) := ((Byt.nil.append ha.2.2.1).append hb.2.2.1).append hc.2.2.1
  obtain ⟨s, hs⟩ : ∃ s, fd (tot (A ++ (B ++ C))) = s := ⟨_, rfl⟩
  have hsb : 0 ≤ s ∧ s ≤ 65535 := by rw [← hs]; exact fd_bd _
  have HS := Lib.hid hs
  have HS2 := Lib.hid (show fd (tot (([] ++ A ++ B) ++ C)) = s by rw [List.nil_append, List.append_assoc]; exact hs)
  have HA := Lib.hid ha
  have HBp := Lib.hid hb
  have HC := Lib.hid hc
  have HY := Lib.hid hbyt
  have q1 : ([] : List Int).length + n ≤ 140737488355328 := by simp; omega
  have q2 : ([] ++ A).length + m ≤ 140737488355328 := by simp; omega
  have q3 : ([] ++ A ++ B).length + p ≤ 140737488355328 := by simp; omega
  have Q := Lib.hid (And.intro q1 (And.intro q2 q3))
  have HLen := Lib.hid (show (([] ++ A ++ B) ++ C).length ≤ 140737488355328 by simp; omega)
  clear ha hb hc hs e1 e2 e3 hbyt q1 q2 q3
  go_enter Try.func3, Try.ntmps3
  go_wp2_with (first
    | (at_builtin
       (with_reducible refine wpList_append_part ?_ (.tmp 9) (.tmp 10) ?_ ?_ ?_ (own_empty w) (HA.out.alloc _) ?_ Q.out.1 ?_)
       focus rfl
       focus rfl
       focus rfl
       focus rfl
       focus (simp; done)
       intro v1 w1 ho1 hb1
       have HB1 := Lib.hid ((below_alloc (Below.refl _ _) _).trans hb1)
       have HO1 := Lib.hid ho1
       clear ho1 hb1)
    | (at_builtin
       (with_reducible refine wpList_append_part ?_ (.tmp 11) (.tmp 12) ?_ ?_ ?_ HO1.out (HBp.out.below HB1.out) HB1.out.size Q.out.2.1 ?_)
       focus rfl
       focus rfl
       focus rfl
       focus rfl
       intro v2 w2 ho2 hb2
       have HB2 := Lib.hid (HB1.out.trans hb2)
       have HO2 := Lib.hid ho2
       clear ho2 hb2)
    | (at_builtin
       (with_reducible refine wpList_append_part ?_ (.tmp 13) (.tmp 14) ?_ ?_ ?_ HO2.out (HC.out.below HB2.out) HB2.out.size Q.out.2.2 ?_)
       focus rfl
       focus rfl
       focus rfl
       focus rfl
       intro v3 w3 ho3 hb3
       obtain ⟨A3, c3, N3, rfl, hp3⟩ := own_part ho3 HY.out
       have HB3 := Lib.hid (HB2.out.trans hb3)
       have HP3 := Lib.hid hp3
       clear ho3 hb3 hp3))
  refine (rsum_any A3 N3 c3 _ _ HP3.out (by have h := HP3.out.1; have h2 := HLen.out; simp only at h; omega)).mono ?_
  rw [HS2.out]
  rintro e w4 ⟨rfl, rfl⟩
  go_wp2_with fail
  refine (alive_any _).mono ?_
  rintro e w4 ⟨rfl, hbel⟩
  have HB4 := Lib.hid (below_then HB3.out HB3.out.size hbel)
  have HA4 := Lib.hid (HA.out.below HB4.out)
  have HBq := Lib.hid (HBp.out.below HB4.out)
  have HC4 := Lib.hid (HC.out.below HB4.out)
  clear hbel HB3 HP3 HB2 HO2 HB1 HO1
  go_wp2_with fail
  refine (sum_three (s := s) (three_new rfl HA4.out HBq.out HC4.out) HL.out HS.out).mono ?_
  rintro e w5 ⟨rfl, j1, rfl⟩
  go_wp2_with fail
  refine (put_three (s := s) (three_new (by simp) ((HA4.out.alloc _).drewN _) ((HBq.out.alloc _).drewN _) ((HC4.out.alloc _).drewN _)) HL.out HS.out).mono ?_
  rintro e w5 ⟨rfl, j2, rfl⟩
  go_wp2_with fail
  refine (good_three (s := s) (three_new (by simp) ((((HA4.out.alloc _).drewN _).alloc _).drewN _) ((((HBq.out.alloc _).drewN _).alloc _).drewN _) ((((HC4.out.alloc _).drewN _).alloc _).drewN _)) HL.out HS.out).mono ?_
  rintro e w5 ⟨rfl, j3, rfl⟩
  go_wp2
  go_ret
  refine ⟨?_, ?_⟩
  · first | rfl | simp
  · repeat (first | exact HB4.out | refine below_alloc ?_ _ | refine below_drewN ?_ _)


end Go.Proofs.Ytadpoklopahoeaa
