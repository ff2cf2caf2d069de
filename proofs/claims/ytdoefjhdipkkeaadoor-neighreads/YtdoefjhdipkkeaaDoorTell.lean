/-
  What neigh.Tell and neigh.Claim do.
-/
import Derived.Test.YtdoefjhdipkkeaaDoorAsk
namespace Go.Proofs.YtdoefjhdipkkeaaDoor
open Go.RowKit
set_option linter.unusedVariables false
set_option maxRecDepth 10000


section
variable (m0 m1 m2 m3 m4 m5 : Int) (f : ByteArray) (a0 a1 a2 a3 a4 a5 : Int) (t : ByteArray) (w : World)
set_option maxHeartbeats 1000000 in
theorem tell_no (hf : f.size ≤ 140737488351232) (ht : t.size ≤ 140737488351232) (h : alikeB f t = false) :
    Calls Tryd.prog 11 #[.agg #[.int .u8 m0, .int .u8 m1, .int .u8 m2, .int .u8 m3, .int .u8 m4, .int .u8 m5], .string f, .agg #[.int .u8 a0, .int .u8 a1, .int .u8 a2, .int .u8 a3, .int .u8 a4, .int .u8 a5], .string t] w (Refused w) := by
  have HH := Lib.hid h
  clear h
  go_enter Tryd.func11, Tryd.ntmps11
  go_wp2_with fail
  refine (nalike_any f t _ hf ht).mono ?_
  rintro e w1 ⟨rfl, rfl⟩
  rw [HH.out]
  go_wp2
  go_ret2
  exact ⟨rfl, ((Below.refl _ _).alloc (Nat.le_refl _) _).alloc (by simp) _⟩

set_option maxHeartbeats 4000000 in
set_option maxRecDepth 100000 in
theorem tell_four (hm : Byt [m0, m1, m2, m3, m4, m5]) (ha : Byt [a0, a1, a2, a3, a4, a5]) (h1 : f.size = 4) (h2 : t.size = 4) :
    Calls Tryd.prog 11 #[.agg #[.int .u8 m0, .int .u8 m1, .int .u8 m2, .int .u8 m3, .int .u8 m4, .int .u8 m5], .string f, .agg #[.int .u8 a0, .int .u8 a1, .int .u8 a2, .int .u8 a3, .int .u8 a4, .int .u8 a5], .string t] w (Sent (E.wire a0 a1 a2 a3 a4 a5 m0 m1 m2 m3 m4 m5 2054 (strOfNums (arpB 2 [m0, m1, m2, m3, m4, m5] f [a0, a1, a2, a3, a4, a5] t))) w) := by
  have HA := Lib.hid (show alikeB f t = true by simp [alikeB, rightB, h1, h2])
  have H6 := Lib.hid (show decide (f.size = 16) = false by simp [h1])
  go_enter Tryd.func11, Tryd.ntmps11
  go_wp2_with fail
  refine (nalike_any f t _ (by omega) (by omega)).mono ?_
  rintro e w1 ⟨rfl, rfl⟩
  rw [HA.out]
  go_wp2_with fail
  refine (six_any f _ (by omega)).mono ?_
  rintro e w1 ⟨rfl, rfl⟩
  rw [H6.out]
  go_wp2_with fail
  refine (sendArp_any a0 a1 a2 a3 a4 a5 2 m0 m1 m2 m3 m4 m5 f a0 a1 a2 a3 a4 a5 t _ ha (by omega) hm ha (by omega) (by omega)).mono ?_
  rintro e w2 ⟨g2, n2, c2, rfl, ho2, hb2⟩
  have HB2 := Lib.hid (below_then (((Below.refl w.heap.size w).alloc (Nat.le_refl _) _).alloc (by simp) _) (by simp; omega) hb2.out)
  have HO2 := Lib.hid (ho2.out.mono (show w.heap.size ≤ _ by simp; omega))
  clear hb2 ho2
  go_wp2
  go_ret2
  exact ⟨_, _, _, rfl, HO2, HB2⟩

set_option maxHeartbeats 4000000 in
set_option maxRecDepth 100000 in
theorem tell_six (hG : Glob w) (hm : Byt [m0, m1, m2, m3, m4, m5]) (ha : Byt [a0, a1, a2, a3, a4, a5]) (h1 : f.size = 16) (h2 : t.size = 16) :
    Calls Tryd.prog 11 #[.agg #[.int .u8 m0, .int .u8 m1, .int .u8 m2, .int .u8 m3, .int .u8 m4, .int .u8 m5], .string f, .agg #[.int .u8 a0, .int .u8 a1, .int .u8 a2, .int .u8 a3, .int .u8 a4, .int .u8 a5], .string t] w (Sent (E.wire a0 a1 a2 a3 a4 a5 m0 m1 m2 m3 m4 m5 34525 (strOfNums (wire f t 58 255 (strOfNums (ndS f t 136 0 96 f 2 1 [m0, m1, m2, m3, m4, m5]))))) w) := by
  have HA := Lib.hid (show alikeB f t = true by simp [alikeB, rightB, h1, h2])
  have H6 := Lib.hid (show decide (f.size = 16) = true by simp [h1])
  have HM := Lib.hid hm
  have HAA := Lib.hid ha
  obtain ⟨-, -, -, -, g4, g5, g6, g7⟩ := (hG.alloc (.cells #[.int .u8 m0, .int .u8 m1, .int .u8 m2, .int .u8 m3, .int .u8 m4, .int .u8 m5] 23)).alloc (.cells #[.int .u8 a0, .int .u8 a1, .int .u8 a2, .int .u8 a3, .int .u8 a4, .int .u8 a5] 23)
  clear hm ha hG
  go_enter Tryd.func11, Tryd.ntmps11
  go_wp2_with fail
  refine (nalike_any f t _ (by omega) (by omega)).mono ?_
  rintro e w1 ⟨rfl, rfl⟩
  rw [HA.out]
  go_wp2_with fail
  refine (six_any f _ (by omega)).mono ?_
  rintro e w1 ⟨rfl, rfl⟩
  rw [H6.out]
  go_wp2_with fail
  refine (sendNd_any a0 a1 a2 a3 a4 a5 136 0 2 1 96 f t f m0 m1 m2 m3 m4 m5 _ HAA.out (byt_of rfl) (by omega) HM.out h1 h2 h1).mono ?_
  rintro e w2 ⟨g2, n2, c2, rfl, ho2, hb2⟩
  have HB2 := Lib.hid (below_then (((Below.refl w.heap.size w).alloc (Nat.le_refl _) _).alloc (by simp) _) (by simp; omega) hb2.out)
  have HO2 := Lib.hid (ho2.out.mono (show w.heap.size ≤ _ by simp; omega))
  clear hb2 ho2
  go_wp2
  go_ret2
  exact ⟨_, _, _, rfl, HO2, HB2⟩
end

section
variable (m0 m1 m2 m3 m4 m5 : Int) (f : ByteArray) (w : World)
set_option maxHeartbeats 1000000 in
theorem claim_ask (h1 : f.size ≠ 16) (hf : f.size ≤ 140737488351232) (Q : List Int → Prop) (bs : List Int)
    (H : ∀ W, Calls Tryd.prog 9 #[.agg #[.int .u8 m0, .int .u8 m1, .int .u8 m2, .int .u8 m3, .int .u8 m4, .int .u8 m5], .string f, .string f] W (Sent bs W)) :
    Calls Tryd.prog 13 #[.agg #[.int .u8 m0, .int .u8 m1, .int .u8 m2, .int .u8 m3, .int .u8 m4, .int .u8 m5], .string f] w (Sent bs w) := by
  have H6 := Lib.hid (show decide (f.size = 16) = false by simp [h1])
  have HH := Lib.hid H
  clear H h1
  go_enter Tryd.func13, Tryd.ntmps13
  go_wp2_with fail
  refine (six_any f _ (by omega)).mono ?_
  rintro e w1 ⟨rfl, rfl⟩
  rw [H6.out]
  go_wp2_with fail
  refine (HH.out _).mono ?_
  rintro e w2 ⟨g2, n2, c2, rfl, ho2, hb2⟩
  have HB2 := Lib.hid (below_then ((Below.refl w.heap.size w).alloc (Nat.le_refl _) _) (by simp) hb2.out)
  have HO2 := Lib.hid (ho2.out.mono (show w.heap.size ≤ _ by simp))
  clear hb2 ho2
  go_wp2
  go_ret2
  exact ⟨_, _, _, rfl, HO2, HB2⟩
set_option maxHeartbeats 1000000 in
theorem claim_no (h1 : rightB f = false) (hf : f.size ≤ 140737488351232) :
    Calls Tryd.prog 13 #[.agg #[.int .u8 m0, .int .u8 m1, .int .u8 m2, .int .u8 m3, .int .u8 m4, .int .u8 m5], .string f] w (Refused w) := by
  have h16 : f.size ≠ 16 := by intro h; simp [rightB, h] at h1
  have H6 := Lib.hid (show decide (f.size = 16) = false by simp [h16])
  have HN := Lib.hid (show alikeB f f = false by simp [alikeB, h1])
  clear h1 h16
  go_enter Tryd.func13, Tryd.ntmps13
  go_wp2_with fail
  refine (six_any f _ (by omega)).mono ?_
  rintro e w1 ⟨rfl, rfl⟩
  rw [H6.out]
  go_wp2_with fail
  refine (ask_no m0 m1 m2 m3 m4 m5 f f _ hf hf HN.out).mono ?_
  rintro e w2 ⟨rfl, hb2⟩
  have HB2 := Lib.hid (below_then ((Below.refl w.heap.size w).alloc (Nat.le_refl _) _) (by simp) hb2)
  clear hb2
  go_wp2
  go_ret2
  exact ⟨rfl, HB2.out⟩
theorem claim_four (hm : Byt [m0, m1, m2, m3, m4, m5]) (h1 : f.size = 4) :
    Calls Tryd.prog 13 #[.agg #[.int .u8 m0, .int .u8 m1, .int .u8 m2, .int .u8 m3, .int .u8 m4, .int .u8 m5], .string f] w (Sent (E.wire 255 255 255 255 255 255 m0 m1 m2 m3 m4 m5 2054 (strOfNums (arpB 1 [m0, m1, m2, m3, m4, m5] f [0, 0, 0, 0, 0, 0] f))) w) :=
  claim_ask m0 m1 m2 m3 m4 m5 f w (by omega) (by omega) (fun _ => True) _ (fun W => ask_four m0 m1 m2 m3 m4 m5 f f W hm h1 h1)

set_option maxHeartbeats 4000000 in
set_option maxRecDepth 100000 in
theorem claim_six (hG : Glob w) (hm : Byt [m0, m1, m2, m3, m4, m5]) (h1 : f.size = 16) :
    Calls Tryd.prog 13 #[.agg #[.int .u8 m0, .int .u8 m1, .int .u8 m2, .int .u8 m3, .int .u8 m4, .int .u8 m5], .string f] w (Sent (E.wire 51 51 0 0 0 1 m0 m1 m2 m3 m4 m5 34525 (strOfNums (wire f everyS 58 255 (strOfNums (ndS f everyS 136 0 32 f 2 1 [m0, m1, m2, m3, m4, m5]))))) w) := by
  have H6 := Lib.hid (show decide (f.size = 16) = true by simp [h1])
  have HM := Lib.hid hm
  obtain ⟨-, -, -, -, g4, g5, g6, g7⟩ := hG.alloc (.cells #[.int .u8 m0, .int .u8 m1, .int .u8 m2, .int .u8 m3, .int .u8 m4, .int .u8 m5] 23)
  clear hm hG
  go_enter Tryd.func13, Tryd.ntmps13
  go_wp2_with fail
  refine (six_any f _ (by omega)).mono ?_
  rintro e w1 ⟨rfl, rfl⟩
  rw [H6.out]
  go_wp2_with fail
  refine (sendGroup_any 51 51 0 0 0 1 136 0 2 1 32 f everyS f m0 m1 m2 m3 m4 m5 _ (byt_of rfl) (byt_of rfl) (by omega) HM.out h1 rfl h1 many_every).mono ?_
  rintro e w2 ⟨g2, n2, c2, rfl, ho2, hb2⟩
  have HB2 := Lib.hid (below_then ((Below.refl w.heap.size w).alloc (Nat.le_refl _) _) (by simp) hb2.out)
  have HO2 := Lib.hid (ho2.out.mono (show w.heap.size ≤ _ by simp))
  clear hb2 ho2
  go_wp2
  go_ret2
  exact ⟨_, _, _, rfl, HO2, HB2⟩
end

end Go.Proofs.YtdoefjhdipkkeaaDoor
