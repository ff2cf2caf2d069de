/-
  The sum that a closure asks of a body, and what ports.layTcp does.
-/
import Derived.Test.YtomcniakffipfaaDoorPlay
namespace Go.Proofs.YtomcniakffipfaaDoor
open Go.RowKit
set_option linter.unusedVariables false
set_option maxRecDepth 10000

/-- The sum of a body with what goes ahead of it. -/
def bodyV (f t : ByteArray) (p : Int) (zs : List Int) : Int := 65535 - fd (tot (psx f t p (zs.length : Int) ++ zs))
theorem bodyV_bd (f t : ByteArray) (p : Int) (zs : List Int) : 0 ≤ bodyV f t p zs ∧ bodyV f t p zs ≤ 65535 := by
  have := fd_bd (tot (psx f t p (zs.length : Int) ++ zs))
  unfold bodyV
  omega

/-- The closure of Write. -/
def sumV (bp bh : Nat) : Value := .func (Fn.func 27) #[] #[.pointer (some ⟨bp, 0, none⟩), .pointer (some ⟨bh, 0, none⟩)]

set_option maxHeartbeats 1000000 in
/-- ports.Write$1. -/
theorem sumClo_at {W : World} {bp bh n c : Nat} {A : Option Addr} {f t : ByteArray} {p0 l0 : Int} {s0 : ByteArray} {p a b l k : Int} {zs : List Int} {v : Int} (hB : Boxed W bp f t p0 l0 s0) (hH : BoxH W bh p a b l k)
    (hp : Part W ⟨A, n, c, zs⟩) (hf : f.size ≤ 140737488351232) (ht : t.size ≤ 140737488351232) (hn : n ≤ 100000) (hpp : -9223372036854775808 ≤ p ∧ p ≤ 9223372036854775807) (hv : bodyV f t p zs = v) :
    Calls Tryd.prog 27 #[.slice A n c, .pointer (some ⟨bp, 0, none⟩), .pointer (some ⟨bh, 0, none⟩)] W fun e w' => e = .returned (.int .u16 v) ∧ Hid (Below W.heap.size W w') := by
  obtain ⟨x0, x1, x2, x3, x4⟩ := hB
  obtain ⟨y0, y1, y2, y3, y4⟩ := hH
  have hl : zs.length = n := hp.1
  have HP := Lib.hid hp
  have HV : Hid (65535 - fd (tot (psx f t p (n : Int) ++ zs)) = v) := Lib.hid (by rw [← hv, bodyV, hl])
  clear hp hv hl
  go_enter Tryd.func27, Tryd.ntmps27
  go_wp2_with fail
  refine (pseudo_part f t p (n : Int) _ hf ht hpp (by omega)).mono ?_
  rintro e w1 ⟨A1, n1, c1, rfl, hn1, hp1, hb1⟩
  have HP1 := Lib.hid (HP.out.below hb1.out)
  go_wp2_with fail
  refine (put_v (ps := [⟨A1, n1, c1, psx f t p (n : Int)⟩, ⟨A, n, c, zs⟩]) (Parts.two (by simp [go_sem, PartV.val]) (by simp [go_sem, PartV.val]) (hp1.out.alloc _) (HP1.out.alloc _) (by simp; omega) (by simp; omega)) (m := 2) rfl (v := v) (by rw [← HV.out]; simp [flat])).mono ?_
  rintro e w2 ⟨rfl, q, rfl⟩
  go_wp2
  go_ret
  exact ⟨rfl, Lib.hid (below_drewN (hb1.out.alloc hb1.out.size _) q)⟩

/-- The bytes of a Tcp. -/
def tcpB (a b l hi lo : Int) (s : ByteArray) : List Int := [a / 256, a % 256, b / 256, b % 256, 0, 0, 0, 0, 0, 0, 0, 0, 80, l, 255, 255, hi, lo, 0, 0] ++ bts s
theorem tcpB_len (a b l hi lo : Int) (s : ByteArray) : (tcpB a b l hi lo s).length = 20 + s.size := by simp [tcpB, bts_len]; omega
theorem tcpB_byt {a b l hi lo : Int} {s : ByteArray} (ha : 0 ≤ a ∧ a ≤ 65535) (hb : 0 ≤ b ∧ b ≤ 65535) (hl : 0 ≤ l ∧ l ≤ 255) (h1 : 0 ≤ hi ∧ hi ≤ 255) (h2 : 0 ≤ lo ∧ lo ≤ 255) : Byt (tcpB a b l hi lo s) := by
  refine Byt.append ?_ (bts_byt s)
  intro x hx
  simp at hx
  omega
def tcpV (f t : ByteArray) (a b l : Int) (s : ByteArray) : Int := bodyV f t 6 (tcpB a b l 0 0 s)
/-- The bytes of a Tcp with its sum. -/
def tcpW (f t : ByteArray) (a b l : Int) (s : ByteArray) : List Int := tcpB a b l (tcpV f t a b l s / 256) (tcpV f t a b l s % 256) s

theorem tcp_list (a b l : Int) (s : ByteArray) (ha : 0 ≤ a ∧ a ≤ 65535) (hb : 0 ≤ b ∧ b ≤ 65535) : ((((startB 20 a b s).set 12 80).set 13 l).set 14 255).set 15 255 = tcpB a b l 0 0 s := by
  rw [startB, show a / 256 % 256 = a / 256 by omega, show b / 256 % 256 = b / 256 by omega, show (20 - 4 : Nat) = 16 from rfl, show List.replicate 16 (0 : Int) = [0, 0, 0, 0, 0, 0, 0, 0, 0, 0, 0, 0, 0, 0, 0, 0] from rfl]
  simp [tcpB]
theorem tcp_sum (a b l hi lo : Int) (s : ByteArray) : ((tcpB a b l 0 0 s).set 16 hi).set 17 lo = tcpB a b l hi lo s := by simp [tcpB]

set_option maxHeartbeats 1000000 in
/-- ports.layTcp. -/
theorem layTcp_any {w : World} {bp bh : Nat} {f t : ByteArray} {p0 l0 : Int} {s0 : ByteArray} {a b l k : Int} (s : ByteArray) (hB : Boxed w bp f t p0 l0 s0) (hH : BoxH w bh 6 a b l k) (hbp : bp < w.heap.size) (hbh : bh < w.heap.size)
    (hf : f.size ≤ 140737488351232) (ht : t.size ≤ 140737488351232) (ha : 0 ≤ a ∧ a ≤ 65535) (hb : 0 ≤ b ∧ b ≤ 65535) (hl : 0 ≤ l ∧ l ≤ 63) (hs : s.size ≤ 3000) :
    Calls Tryd.prog 29 #[.agg #[.int .i64 6, .int .i64 a, .int .i64 b, .int .i64 l, .int .i64 k], .string s, sumV bp bh] w fun e w' => e = .returned (.string (strOfNums (tcpW f t a b l s))) ∧ Hid (Below w.heap.size w w') := by
  have HBx := Lib.hid hB
  have HHx := Lib.hid hH
  obtain ⟨v, hv⟩ : ∃ v, tcpV f t a b l s = v := ⟨_, rfl⟩
  have hvb := bodyV_bd f t 6 (tcpB a b l 0 0 s)
  rw [show bodyV f t 6 (tcpB a b l 0 0 s) = v from hv] at hvb
  have HV := Lib.hid hv
  have HW := Lib.hid (show tcpW f t a b l s = tcpB a b l (v / 256) (v % 256) s by rw [tcpW, hv])
  have HT := Lib.hid (tcpB_byt (l := l) (s := s) ha hb (show 0 ≤ l ∧ l ≤ 255 by omega) (show (0 : Int) ≤ 0 ∧ (0 : Int) ≤ 255 by omega) (show (0 : Int) ≤ 0 ∧ (0 : Int) ≤ 255 by omega))
  have HT2 := Lib.hid (tcpB_byt (l := l) (s := s) ha hb (show 0 ≤ l ∧ l ≤ 255 by omega) (show 0 ≤ v / 256 ∧ v / 256 ≤ 255 by omega) (show 0 ≤ v % 256 ∧ v % 256 ≤ 255 by omega))
  clear hB hH hv
  unfold sumV
  go_enter Tryd.func29, Tryd.ntmps29
  go_wp2_with fail
  refine (start_any 6 a b l k 20 s _ ha hb (by omega) hs).mono ?_
  rintro e w1 ⟨g, rfl, ho1, hb1⟩
  obtain ⟨x10, x11, x12, x13, x14⟩ := (BoxH.new w 6 a b l k).below hb1.out (by simp)
  have HB1 := Lib.hid (below_box (by simpa using hb1.out))
  have HO1 := ho1.out
  rw [show (w.alloc (.cells #[.int .i64 6, .int .i64 a, .int .i64 b, .int .i64 l, .int .i64 k] 36)).heap.size = w.heap.size + 1 by simp] at HO1
  have hgB : w.heap.size + 1 ≤ g := HO1.2.1
  have hgl : g < w1.heap.size := HO1.lt
  have hne : g ≠ w.heap.size := by omega
  have c0 := HO1.cell 12 (by omega)
  have c1 := HO1.cell 13 (by omega)
  have r0 := HO1.free 12 (by omega)
  have r1 := HO1.free 13 (by omega)
  have HO := Lib.hid HO1
  have hn20 : (12 : Int) < 20 + (s.size : Int) := by omega
  have hn21 : (13 : Int) < 20 + (s.size : Int) := by omega
  clear HO1 ho1 hb1
  go_wp2_with fail
  refine (layInt_any 14 65535 ((HO.out.stored2 12 13 80 l).1) (by omega) (by omega) (by omega)).mono ?_
  rintro e w2 ⟨rfl, ho2, hb2⟩
  have HO2 := ho2.out
  rw [show (65535 / 256 % 256 : Int) = 255 from rfl, show (65535 % 256 : Int) = 255 from rfl, tcp_list a b l s ha hb] at HO2
  have HB2 := Lib.hid (HB1.out.trans (((HO.out.stored2 12 13 80 l).2.trans hb2.out).mono (Nat.le_succ _)))
  have HOa := Lib.hid HO2
  have HP2 := Lib.hid (HO2.part HT.out)
  have HX2 := Lib.hid (HBx.out.below HB2.out hbp)
  have HY2 := Lib.hid (HHx.out.below HB2.out hbh)
  clear ho2 hb2 HO2 x10 x11 x12 x13 x14 c0 c1 r0 r1 HO HB1 hgl
  go_wp2_with fail
  refine (sumClo_at (v := v) HX2.out HY2.out HP2.out hf ht (by omega) (by omega) HV.out).mono ?_
  rintro e w3 ⟨rfl, hb3⟩
  have HO3 := Lib.hid (HOa.out.below hb3.out)
  have HB3 := Lib.hid (below_then HB2.out HB2.out.size hb3.out)
  clear HX2 HY2 HP2 HOa HB2 hb3
  go_wp2_with fail
  refine (layU_any 16 v HO3.out (by omega) (by omega) hvb).mono ?_
  rintro e w4 ⟨rfl, ho4, hb4⟩
  have HO4 := ho4.out
  rw [tcp_sum] at HO4
  have HC : (convert 38 9 (.slice (some ⟨g, 0, none⟩) (20 + s.size) (20 + s.size))).run Tryd.prog w4 = .ok (.string (strOfNums (tcpB a b l (v / 256) (v % 256) s))) w4 := convert_part (HO4.part HT2.out) 9 Tryd.underlying9
  have HB4 := Lib.hid (HB3.out.trans (hb4.out.mono (Nat.le_succ _)))
  clear HO4 ho4 hb4 HO3 HB3
  go_wp2
  go_ret
  rw [HW.out]
  exact ⟨rfl, HB4⟩

end Go.Proofs.YtomcniakffipfaaDoor
