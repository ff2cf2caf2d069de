/-
  What ports.readTcp, readUdp, readHead and sumless do, of the bodies that the laws hand them.
-/
import Derived.Test.YtomcniakffipfaaDoorPwrno
namespace Go.Proofs.YtomcniakffipfaaDoor
open Go.RowKit
set_option linter.unusedVariables false
set_option maxRecDepth 10000

theorem and_63 (x : Int) (h : -9223372036854775808 ≤ x ∧ x ≤ 9223372036854775807) : bits BinOp.and IntKind.i64 x 63 = x % 64 := by
  show IntKind.i64.wrap ((BitVec.ofInt 64 x &&& BitVec.ofInt 64 63).toNat : Int) = _
  have e : (BitVec.ofInt 64 x &&& BitVec.ofInt 64 63).toNat = (x % 18446744073709551616).toNat % 64 := by
    rw [BitVec.toNat_and, BitVec.toNat_ofInt, BitVec.toNat_ofInt]
    have : (63 % ((2 ^ 64 : Nat) : Int)).toNat = 2 ^ 6 - 1 := rfl
    rw [this, Nat.and_two_pow_sub_one_eq_mod]
    rfl
  rw [e, IntKind.wrap_i64]
  omega

/-- Where a Tcp says that its data begin. -/
def tcpAt (bs : List Int) : Int := byteAt bs 12 / 16 * 4

set_option maxHeartbeats 400000 in
/-- ports.readTcp, of another form. -/
theorem readTcp_form (s : ByteArray) (w : World) (h1 : 20 ≤ s.size) (hs : s.size ≤ 3000) (h2 : tcpAt (bts s) < 20 ∨ (s.size : Int) < tcpAt (bts s)) :
    Calls Tryd.prog 52 #[.string s] w fun e w' => e = .returned (.tuple #[.agg #[.int .i64 0, .int .i64 0, .int .i64 0, .int .i64 0, .int .i64 0], .int .i64 53]) ∧ Below w.heap.size w w' := by
  have e12 := byteAt_text s 12 (by omega)
  rw [tcpAt, e12] at h2
  have b12 := byte_le (s[12]'(by omega))
  have i12 : (12 : Int) < (s.size : Int) := by omega
  have d0 : decide ((s.size : Int) < 20) = false := by simp; omega
  have d1 : decide (s.size < 20) = false := by simp; omega
  clear e12
  by_cases h3 : ((s[12]'(by omega)).toNat : Int) / 16 * 4 < 20
  · have d2 : decide (((s[12]'(by omega)).toNat : Int) / 16 * 4 < 20) = true := by simpa using h3
    go_enter Tryd.func52, Tryd.ntmps52
    go_wp2
    exact bodyPost_ret (v := .tuple #[.agg #[.int .i64 0, .int .i64 0, .int .i64 0, .int .i64 0, .int .i64 0], .int .i64 53]) (by simp [results, Tryd.results52, go_sem]) rfl ⟨rfl, (Below.refl _ _).alloc (Nat.le_refl _) _⟩
  · have d2 : decide (((s[12]'(by omega)).toNat : Int) / 16 * 4 < 20) = false := by simpa using h3
    have d3 : decide ((s.size : Int) < ((s[12]'(by omega)).toNat : Int) / 16 * 4) = true := by simp; omega
    go_enter Tryd.func52, Tryd.ntmps52
    go_wp2
    exact bodyPost_ret (v := .tuple #[.agg #[.int .i64 0, .int .i64 0, .int .i64 0, .int .i64 0, .int .i64 0], .int .i64 53]) (by simp [results, Tryd.results52, go_sem]) rfl ⟨rfl, (Below.refl _ _).alloc (Nat.le_refl _) _⟩

set_option maxHeartbeats 400000 in
/-- ports.readTcp. -/
theorem readTcp_yes (s : ByteArray) (a b l k : Int) (w : World) (h1 : 20 ≤ s.size) (hs : s.size ≤ 3000) (h2 : 20 ≤ tcpAt (bts s)) (h3 : tcpAt (bts s) ≤ (s.size : Int)) (ea : twoAt (bts s) 0 = a) (eb : twoAt (bts s) 2 = b) (el : byteAt (bts s) 13 % 64 = l) (ek : tcpAt (bts s) = k) :
    Calls Tryd.prog 52 #[.string s] w fun e w' => e = .returned (.tuple #[.agg #[.int .i64 6, .int .i64 a, .int .i64 b, .int .i64 l, .int .i64 k], .int .i64 0]) ∧ Below w.heap.size w w' := by
  have e12 := byteAt_text s 12 (by omega)
  have e13 := byteAt_text s 13 (by omega)
  rw [tcpAt, e12] at h2 h3 ek
  rw [e13] at el
  have b12 := byte_le (s[12]'(by omega))
  have b13 := byte_le (s[13]'(by omega))
  have ha63 := and_63 ((s[13]'(by omega)).toNat : Int) (by omega)
  have i12 : (12 : Int) < (s.size : Int) := by omega
  have i13 : (13 : Int) < (s.size : Int) := by omega
  have d0 : decide ((s.size : Int) < 20) = false := by simp; omega
  have d1 : decide (s.size < 20) = false := by simp; omega
  have d2 : decide (((s[12]'(by omega)).toNat : Int) / 16 * 4 < 20) = false := by simp; omega
  have d3 : decide ((s.size : Int) < ((s[12]'(by omega)).toNat : Int) / 16 * 4) = false := by simp; omega
  have HA := Lib.hid ea
  have HB := Lib.hid eb
  have HK := Lib.hid ek
  have HL := Lib.hid el
  clear e12 e13 ea eb ek el
  go_enter Tryd.func52, Tryd.ntmps52
  go_wp2_with fail
  refine (two_at (k := 0) (by omega) (by omega) HA.out).mono ?_
  rintro e w1 ⟨rfl, q1, rfl⟩
  go_wp2_with fail
  refine (two_at (k := 2) (by omega) (by omega) HB.out).mono ?_
  rintro e w2 ⟨rfl, q2, rfl⟩
  go_wp2
  refine bodyPost_ret (v := .tuple #[.agg #[.int .i64 6, .int .i64 a, .int .i64 b, .int .i64 l, .int .i64 k], .int .i64 0]) (by simp [results, Tryd.results52, go_sem, HL.out, HK.out]) rfl ⟨rfl, ?_⟩
  exact below5 (below_drewN ((Below.refl _ _).alloc (Nat.le_refl _) _) _) (Nat.le_refl _)

set_option maxHeartbeats 400000 in
/-- ports.readUdp. -/
theorem readUdp_yes (s : ByteArray) (a b : Int) (w : World) (h1 : 8 ≤ s.size) (hs : s.size ≤ 3000) (h2 : twoAt (bts s) 4 = (s.size : Int)) (ea : twoAt (bts s) 0 = a) (eb : twoAt (bts s) 2 = b) :
    Calls Tryd.prog 53 #[.string s] w fun e w' => e = .returned (.tuple #[.agg #[.int .i64 17, .int .i64 a, .int .i64 b, .int .i64 0, .int .i64 8], .int .i64 0]) ∧ Below w.heap.size w w' := by
  have d0 : decide ((s.size : Int) < 8) = false := by simp; omega
  have d1 : decide (s.size < 8) = false := by simp; omega
  have HA := Lib.hid ea
  have HB := Lib.hid eb
  have HC := Lib.hid h2
  clear ea eb h2
  go_enter Tryd.func53, Tryd.ntmps53
  go_wp2_with fail
  refine (two_at (k := 4) (by omega) (by omega) HC.out).mono ?_
  rintro e w1 ⟨rfl, q1, rfl⟩
  go_wp2_with fail
  refine (two_at (k := 0) (by omega) (by omega) HA.out).mono ?_
  rintro e w1 ⟨rfl, q2, rfl⟩
  go_wp2_with fail
  refine (two_at (k := 2) (by omega) (by omega) HB.out).mono ?_
  rintro e w2 ⟨rfl, q3, rfl⟩
  go_wp2
  refine bodyPost_ret (v := .tuple #[.agg #[.int .i64 17, .int .i64 a, .int .i64 b, .int .i64 0, .int .i64 8], .int .i64 0]) (by simp [results, Tryd.results53, go_sem]) rfl ⟨rfl, ?_⟩
  exact below5 (below_drewN ((Below.refl _ _).alloc (Nat.le_refl _) _) _) (Nat.le_refl _)

set_option maxHeartbeats 400000 in
/-- ports.readHead of a Tcp. -/
theorem readHead_tcp (s : ByteArray) (p a b l k r : Int) (w : World) (H : ∀ w : World, Calls Tryd.prog 52 #[.string s] w fun e w' => e = .returned (.tuple #[.agg #[.int .i64 p, .int .i64 a, .int .i64 b, .int .i64 l, .int .i64 k], .int .i64 r]) ∧ Below w.heap.size w w') :
    Calls Tryd.prog 37 #[.int .i64 6, .string s] w fun e w' => e = .returned (.tuple #[.agg #[.int .i64 p, .int .i64 a, .int .i64 b, .int .i64 l, .int .i64 k], .int .i64 r]) ∧ Below w.heap.size w w' := by
  have HH := Lib.hid H
  clear H
  go_enter Tryd.func37, Tryd.ntmps37
  go_wp2_with fail
  refine (HH.out _).mono ?_
  rintro e w1 ⟨rfl, hb1⟩
  obtain ⟨y0, y1, y2, y3, y4⟩ := (BoxH.new w 0 0 0 0 0).below hb1 (by simp)
  have zf : ∀ o, w1.frozen? ⟨w.heap.size, o, none⟩ = false := (Free.new w _ _).below hb1 (by simp)
  have n1 : w.heap.size < w1.heap.size := World.block_lt_of_cell? _ _ y0
  have HB := Lib.hid (((Below.refl w.heap.size _).alloc (Nat.le_refl _) _).trans (hb1.mono (by simp)))
  clear hb1
  go_wp2
  exact bodyPost_ret (v := .tuple #[.agg #[.int .i64 p, .int .i64 a, .int .i64 b, .int .i64 l, .int .i64 k], .int .i64 r]) (by simp [results, Tryd.results37, go_sem, *]) rfl ⟨rfl, below5 HB.out (Nat.le_refl _)⟩

set_option maxHeartbeats 400000 in
/-- ports.readHead of a Udp. -/
theorem readHead_udp (s : ByteArray) (p a b l k r : Int) (w : World) (H : ∀ w : World, Calls Tryd.prog 53 #[.string s] w fun e w' => e = .returned (.tuple #[.agg #[.int .i64 p, .int .i64 a, .int .i64 b, .int .i64 l, .int .i64 k], .int .i64 r]) ∧ Below w.heap.size w w') :
    Calls Tryd.prog 37 #[.int .i64 17, .string s] w fun e w' => e = .returned (.tuple #[.agg #[.int .i64 p, .int .i64 a, .int .i64 b, .int .i64 l, .int .i64 k], .int .i64 r]) ∧ Below w.heap.size w w' := by
  have HH := Lib.hid H
  clear H
  go_enter Tryd.func37, Tryd.ntmps37
  go_wp2_with fail
  refine (HH.out _).mono ?_
  rintro e w1 ⟨rfl, hb1⟩
  obtain ⟨y0, y1, y2, y3, y4⟩ := (BoxH.new w 0 0 0 0 0).below hb1 (by simp)
  have zf : ∀ o, w1.frozen? ⟨w.heap.size, o, none⟩ = false := (Free.new w _ _).below hb1 (by simp)
  have n1 : w.heap.size < w1.heap.size := World.block_lt_of_cell? _ _ y0
  have HB := Lib.hid (((Below.refl w.heap.size _).alloc (Nat.le_refl _) _).trans (hb1.mono (by simp)))
  clear hb1
  go_wp2
  exact bodyPost_ret (v := .tuple #[.agg #[.int .i64 p, .int .i64 a, .int .i64 b, .int .i64 l, .int .i64 k], .int .i64 r]) (by simp [results, Tryd.results37, go_sem, *]) rfl ⟨rfl, below5 HB.out (Nat.le_refl _)⟩

set_option maxHeartbeats 400000 in
/-- ports.sumless of a Tcp. -/
theorem sumless_tcp (f t : ByteArray) (l : Int) (s : ByteArray) (w : World) :
    Calls Tryd.prog 38 #[.agg #[.string f, .string t, .int .i64 6, .int .i64 l, .string s]] w fun e w' => e = .returned (.bool false) ∧ Below w.heap.size w w' := by
  go_enter Tryd.func38, Tryd.ntmps38
  go_wp2
  go_ret
  exact ⟨rfl, (Below.refl _ _).alloc (Nat.le_refl _) _⟩

set_option maxHeartbeats 400000 in
/-- ports.sumless of a Udp with a sum. -/
theorem sumless_udp (f t : ByteArray) (l : Int) (s : ByteArray) (w : World) (hf : f.size ≤ 140737488351232) (ht : t.size ≤ 140737488351232) (h1 : 8 ≤ s.size) (hs : s.size ≤ 3000) (x : Int) (hx : twoAt (bts s) 6 = x) (h0 : x ≠ 0) :
    Calls Tryd.prog 38 #[.agg #[.string f, .string t, .int .i64 17, .int .i64 l, .string s]] w fun e w' => e = .returned (.bool false) ∧ Below w.heap.size w w' := by
  have HX := Lib.hid hx
  have d0 : (x == 0) = false := by simpa using h0
  clear hx
  rcases h : four2 f t with _ | _
  · have H4 := Lib.hid h
    clear h
    go_enter Tryd.func38, Tryd.ntmps38
    go_wp2_with fail
    refine (bothFour_at hf ht H4.out).mono ?_
    rintro e w1 ⟨rfl, hb1⟩
    have HB := Lib.hid (((Below.refl w.heap.size _).alloc (Nat.le_refl _) _).trans (hb1.mono (by simp)))
    clear hb1
    go_wp2
    go_ret
    exact ⟨rfl, HB.out⟩
  · have H4 := Lib.hid h
    clear h
    go_enter Tryd.func38, Tryd.ntmps38
    go_wp2_with fail
    refine (bothFour_at hf ht H4.out).mono ?_
    rintro e w1 ⟨rfl, hb1⟩
    obtain ⟨y0, y1, y2, y3, y4⟩ := (Boxed.new w f t 17 l s).below hb1 (by simp)
    have n1 : w.heap.size < w1.heap.size := World.block_lt_of_cell? _ _ y0
    have HB := Lib.hid (((Below.refl w.heap.size _).alloc (Nat.le_refl _) _).trans (hb1.mono (by simp)))
    clear hb1
    go_wp2_with fail
    refine (two_at (k := 6) (by omega) (by omega) HX.out).mono ?_
    rintro e w2 ⟨rfl, q, rfl⟩
    go_wp2
    go_ret
    exact ⟨rfl, below_drewN HB.out q⟩

end Go.Proofs.YtomcniakffipfaaDoor
