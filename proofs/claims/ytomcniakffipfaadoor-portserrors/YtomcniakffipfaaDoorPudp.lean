/-
  What ports.layUdp does.
-/
import Derived.Test.YtomcniakffipfaaDoorPtcp
namespace Go.Proofs.YtomcniakffipfaaDoor
open Go.RowKit
set_option linter.unusedVariables false
set_option maxRecDepth 10000

/-- The bytes of a Udp. -/
def udpB (a b hi lo : Int) (s : ByteArray) : List Int := [a / 256, a % 256, b / 256, b % 256, (8 + (s.size : Int)) / 256 % 256, (8 + (s.size : Int)) % 256, hi, lo] ++ bts s
theorem udpB_len (a b hi lo : Int) (s : ByteArray) : (udpB a b hi lo s).length = 8 + s.size := by simp [udpB, bts_len]; omega
theorem udpB_byt {a b hi lo : Int} {s : ByteArray} (ha : 0 ≤ a ∧ a ≤ 65535) (hb : 0 ≤ b ∧ b ≤ 65535) (h1 : 0 ≤ hi ∧ hi ≤ 255) (h2 : 0 ≤ lo ∧ lo ≤ 255) : Byt (udpB a b hi lo s) := by
  refine Byt.append ?_ (bts_byt s)
  intro x hx
  simp at hx
  omega
/-- A sum of 0 is written as ffff. -/
def noZero (v : Int) : Int := if v = 0 then 65535 else v
theorem noZero_bd {v : Int} (h : 0 ≤ v ∧ v ≤ 65535) : 0 < noZero v ∧ noZero v ≤ 65535 := by unfold noZero; split <;> omega
def udpV (f t : ByteArray) (a b : Int) (s : ByteArray) : Int := noZero (bodyV f t 17 (udpB a b 0 0 s))
/-- The bytes of a Udp with its sum. -/
def udpW (f t : ByteArray) (a b : Int) (s : ByteArray) : List Int := udpB a b (udpV f t a b s / 256) (udpV f t a b s % 256) s

theorem udp_list (a b : Int) (s : ByteArray) (ha : 0 ≤ a ∧ a ≤ 65535) (hb : 0 ≤ b ∧ b ≤ 65535) : ((startB 8 a b s).set 4 ((8 + (s.size : Int)) / 256 % 256)).set (4 + 1) ((8 + (s.size : Int)) % 256) = udpB a b 0 0 s := by
  rw [startB, show a / 256 % 256 = a / 256 by omega, show b / 256 % 256 = b / 256 by omega, show (8 - 4 : Nat) = 4 from rfl, show List.replicate 4 (0 : Int) = [0, 0, 0, 0] from rfl]
  simp [udpB]
theorem udp_sum (a b hi lo : Int) (s : ByteArray) : ((udpB a b 0 0 s).set 6 hi).set (6 + 1) lo = udpB a b hi lo s := by simp [udpB]

set_option maxHeartbeats 1000000 in
/-- ports.layUdp. -/
theorem layUdp_any {w : World} {bp bh : Nat} {f t : ByteArray} {p0 l0 : Int} {s0 : ByteArray} {a b l k : Int} (s : ByteArray) (hB : Boxed w bp f t p0 l0 s0) (hH : BoxH w bh 17 a b l k) (hbp : bp < w.heap.size) (hbh : bh < w.heap.size)
    (hf : f.size ≤ 140737488351232) (ht : t.size ≤ 140737488351232) (ha : 0 ≤ a ∧ a ≤ 65535) (hb : 0 ≤ b ∧ b ≤ 65535) (hs : s.size ≤ 3000) :
    Calls Tryd.prog 30 #[.agg #[.int .i64 17, .int .i64 a, .int .i64 b, .int .i64 l, .int .i64 k], .string s, sumV bp bh] w fun e w' => e = .returned (.string (strOfNums (udpW f t a b s))) ∧ Hid (Below w.heap.size w w') := by
  have HBx := Lib.hid hB
  have HHx := Lib.hid hH
  obtain ⟨u, hu⟩ : ∃ u, bodyV f t 17 (udpB a b 0 0 s) = u := ⟨_, rfl⟩
  obtain ⟨v, hv⟩ : ∃ v, noZero u = v := ⟨_, rfl⟩
  have hub := bodyV_bd f t 17 (udpB a b 0 0 s)
  rw [hu] at hub
  have hvb := noZero_bd hub
  rw [hv] at hvb
  have HU := Lib.hid hu
  have HW := Lib.hid (show udpW f t a b s = udpB a b (v / 256) (v % 256) s by rw [udpW, udpV, hu, hv])
  have HT := Lib.hid (udpB_byt (s := s) ha hb (show (0 : Int) ≤ 0 ∧ (0 : Int) ≤ 255 by omega) (show (0 : Int) ≤ 0 ∧ (0 : Int) ≤ 255 by omega))
  have HT2 := Lib.hid (udpB_byt (s := s) ha hb (show 0 ≤ v / 256 ∧ v / 256 ≤ 255 by omega) (show 0 ≤ v % 256 ∧ v % 256 ≤ 255 by omega))
  have HVV := Lib.hid hv
  clear hB hH hv hu
  unfold sumV
  go_enter Tryd.func30, Tryd.ntmps30
  go_wp2_with fail
  refine (start_any 17 a b l k 8 s _ ha hb (by omega) hs).mono ?_
  rintro e w1 ⟨g, rfl, ho1, hb1⟩
  have HB1 := Lib.hid (below_box (by simpa using hb1.out))
  have HO1 := ho1.out
  rw [show (w.alloc (.cells #[.int .i64 17, .int .i64 a, .int .i64 b, .int .i64 l, .int .i64 k] 36)).heap.size = w.heap.size + 1 by simp] at HO1
  have HO := Lib.hid HO1
  clear HO1 ho1 hb1
  go_wp2_with fail
  refine (layInt_any 4 (8 + (s.size : Int)) HO.out (by omega) (by omega) (by omega)).mono ?_
  rintro e w2 ⟨rfl, ho2, hb2⟩
  have HO2 := ho2.out
  rw [udp_list a b s ha hb] at HO2
  have HB2 := Lib.hid (HB1.out.trans (hb2.out.mono (Nat.le_succ _)))
  have HOa := Lib.hid HO2
  have HP2 := Lib.hid (HO2.part HT.out)
  have HX2 := Lib.hid (HBx.out.below HB2.out hbp)
  have HY2 := Lib.hid (HHx.out.below HB2.out hbh)
  clear ho2 hb2 HO2 HO HB1
  go_wp2_with fail
  refine (sumClo_at (v := u) HX2.out HY2.out HP2.out hf ht (by omega) (by omega) HU.out).mono ?_
  rintro e w3 ⟨rfl, hb3⟩
  have HO3 := Lib.hid (HOa.out.below hb3.out)
  have HB3 := Lib.hid (below_then HB2.out HB2.out.size hb3.out)
  clear HX2 HY2 HP2 HOa HB2 hb3
  by_cases h0 : u = 0
  · have hv65 : v = 65535 := by rw [← HVV.out, noZero, if_pos h0]
    subst hv65 h0
    go_wp2_with fail
    refine (layU_any 6 65535 HO3.out (by omega) (by omega) (by omega)).mono ?_
    rintro e w4 ⟨rfl, ho4, hb4⟩
    have HO4 := ho4.out
    rw [udp_sum] at HO4
    have HC : (convert 38 9 (.slice (some ⟨g, 0, none⟩) (8 + s.size) (8 + s.size))).run Tryd.prog w4 = .ok (.string (strOfNums (udpB a b (65535 / 256) (65535 % 256) s))) w4 := convert_part (HO4.part HT2.out) 9 Tryd.underlying9
    have HB4 := Lib.hid (HB3.out.trans (hb4.out.mono (Nat.le_succ _)))
    clear HO4 ho4 hb4 HO3 HB3
    go_wp2
    go_ret
    rw [HW.out]
    exact ⟨rfl, HB4⟩
  · have h1 : (u == 0) = false := by simpa using h0
    have hvu : v = u := by rw [← HVV.out, noZero, if_neg h0]
    subst hvu
    go_wp2_with fail
    refine (layU_any 6 v HO3.out (by omega) (by omega) (by omega)).mono ?_
    rintro e w4 ⟨rfl, ho4, hb4⟩
    have HO4 := ho4.out
    rw [udp_sum] at HO4
    have HC : (convert 38 9 (.slice (some ⟨g, 0, none⟩) (8 + s.size) (8 + s.size))).run Tryd.prog w4 = .ok (.string (strOfNums (udpB a b (v / 256) (v % 256) s))) w4 := convert_part (HO4.part HT2.out) 9 Tryd.underlying9
    have HB4 := Lib.hid (HB3.out.trans (hb4.out.mono (Nat.le_succ _)))
    clear HO4 ho4 hb4 HO3 HB3
    go_wp2
    go_ret
    rw [HW.out]
    exact ⟨rfl, HB4⟩

end Go.Proofs.YtomcniakffipfaaDoor
