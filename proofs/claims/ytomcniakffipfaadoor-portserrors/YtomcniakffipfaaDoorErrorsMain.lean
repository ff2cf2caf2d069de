/-
  The walk of PortsErrors where a packet is quoted.
-/
import Derived.Test.YtomcniakffipfaaDoorErrorsNo
import Derived.Test.YtomcniakffipfaaDoorRenc6lit
namespace Go.Proofs.YtomcniakffipfaaDoor
open Go.RowKit
set_option linter.unusedVariables false
set_option maxRecDepth 10000

attribute [local go_sem ↓] flow_eq
set_option maxHeartbeats 4000000 in
theorem errors_all (f t : ByteArray) (p0 l0 : Int) (s0 : ByteArray) (p a b l k : Int) (i n : Nat) (w : World) (hG : Glob w) (h : WrOk f t l0 p a b l k ⟨#[100, 97, 116, 97]⟩) (hf4 : f.size = 4) (ht4 : t.size = 4) (hi : i ≤ 20) (hn : n = 20 + (wrBody f t p a b l ⟨#[100, 97, 116, 97]⟩).size) (hn2 : n ≤ 1500) (h24 : 24 ≤ n) (hi2 : n ≤ 24 + i) : Calls Tryd.prog 4 #[.agg #[.string f, .string t, .int .i64 p0, .int .i64 l0, .string s0], .agg #[.int .i64 p, .int .i64 a, .int .i64 b, .int .i64 l, .int .i64 k], .int .i64 (i : Int)] w fun e w' => e = .returned (.bool true) ∧ Below w.heap.size w w' := by
  have hf : f.size ≤ 140737488351232 := by omega
  have ht : t.size ≤ 140737488351232 := by omega
  have hwl := wire_len h.2.2
  rw [if_neg (by omega)] at hwl
  have hmn : n ≤ n := by omega
  have hm24 : 24 ≤ n := by omega
  have dm : decide ((n : Int) ≤ 24 + (i : Int)) = true := decide_eq_true (by omega)
  obtain ⟨B, hB⟩ : ∃ B, B = wrBody f t p a b l ⟨#[100, 97, 116, 97]⟩ := ⟨_, rfl⟩
  have HBB := Lib.hid hB
  have HOK := Lib.hid h
  rw [← hB] at hwl hn
  have HEN := Lib.hid (fun w => encode_yes f t p l0 (wrBody f t p a b l ⟨#[100, 97, 116, 97]⟩) w h.2.2 n (by rw [if_neg (by omega), ← hB]; exact hn))
  rw [← hB] at HEN
  have HWB := Lib.hid (wire_byt h.2.2)
  rw [← hB] at HWB
  obtain ⟨WS, hWS⟩ : ∃ WS, WS = wire f t p l0 B := ⟨_, rfl⟩
  rw [← hWS] at HEN HWB hwl
  obtain ⟨v, hv⟩ : ∃ v, v = errV (WS.take n) := ⟨_, rfl⟩
  have hvb := errV_bd (WS.take n)
  rw [← hv] at hvb
  have hgd := errQ_good (WS.take n) (HWB.out.take n)
  rw [← hv] at hgd
  obtain ⟨E, hE⟩ : ∃ E, E = strOfNums (errQ (v / 256) (v % 256) (WS.take n)) := ⟨_, rfl⟩
  have hsay := err_says f t l0 p a b l k ⟨#[100, 97, 116, 97]⟩ h hf4 n hm24 (by rw [← hB, ← hWS, hwl, ← hn]; exact hmn) (v / 256) (v % 256) (by omega) (by omega) E (by rw [hE, hWS, hB])
  rw [← hB, ← hWS] at hsay
  obtain ⟨hEz, hEb, hE0, hEq, hEf, hEt, hEa, hEc⟩ := hsay
  have HQ := Lib.hid (fun w hG => quoted_pass4 t f 1 9 E w ht hf (by omega) hG (er4_mk ht4 hf4 (by omega) hE0) (by rw [hEb]; exact hgd) _ _ _ _ _ _ (fun w hG => quoted_four_yes E p w hG (by omega) hEq))
  rw [hEf, hEt, hEa, hEc] at HQ
  have HFL := Lib.hid (fun w => flow_written f t l0 p a b l k ⟨#[100, 97, 116, 97]⟩ w hf ht (by decide) h)
  rw [← hB] at HFL
  have H6 := Lib.hid (show decide (f.size = 16) = false by simp [hf4])
  have d1 : decide ((i : Int) < 0) = false := decide_eq_false (by omega)
  have d2 : decide (20 < (i : Int)) = false := decide_eq_false (by omega)
  have d2' : decide (20 < i) = false := decide_eq_false (by omega)
  have d3 : decide ((n : Int) < 24) = false := decide_eq_false (by omega)
  have d3' : decide (n < 24) = false := decide_eq_false (by omega)
  have HV := Lib.hid hv
  have HE := Lib.hid hE
  have HG := Lib.hid hG
  have HWL := Lib.hid (show WS.length = n by rw [hwl, ← hn])
  have hQb0 := Lib.hid (errQ_byt (hi := 0) (lo := 0) (by omega) (by omega) (HWB.out.take n))
  have hQb := Lib.hid (errQ_byt (hi := v / 256) (lo := v % 256) (by omega) (by omega) (HWB.out.take n))
  have hn3 : n ≤ 44 := by rw [hn, hB, wrBody_size]; split <;> (show 20 + (_ + 4) ≤ 44; omega)
  clear h hB hv hE hWS hwl hn hEz hEb hE0 hEq hEf hEt hEa hEc hgd hG
  go_enter Tryd.func4, Tryd.ntmps4
  go_wp2_with fail
  refine (write_yes f t p0 l0 s0 p a b l k ⟨#[100, 97, 116, 97]⟩ _ hf ht (by decide) HOK.out).mono ?_
  rintro e w1 ⟨rfl, hb1'⟩
  rw [← HBB.out]
  have hb1 : Below (w.heap.size + 1 + 1) ((w.alloc (.cells #[.string f, .string t, .int .i64 p0, .int .i64 l0, .string s0] 24)).alloc (.cells #[.int .i64 p, .int .i64 a, .int .i64 b, .int .i64 l, .int .i64 k] 33)) w1 := by simpa using hb1'
  have HB1 := Lib.hid ((((Below.refl w.heap.size _).alloc (Nat.le_refl _) _).alloc (by simp) _).trans (hb1.mono (by omega)))
  have HX1 := Lib.hid (((Boxed.new w f t p0 l0 s0).below ((Below.refl (w.heap.size + 1) _).alloc (by simp) _) (by simp)).below hb1 (by omega))
  obtain ⟨x0, x1, x2, x3, x4⟩ := HX1.out
  have n1 : w.heap.size < w1.heap.size := World.block_lt_of_cell? _ _ x0
  have n0 : w.heap.size ≤ w1.heap.size := by omega
  clear hb1 hb1'
  clear HX1
  go_wp2_with fail
  refine (six_at hf H6.out).mono ?_
  rintro e w' ⟨rfl, rfl⟩
  go_wp2_with fail
  refine (HEN.out _).mono ?_
  rintro e w2 ⟨g2, c2, rfl, ho2, hb2'⟩
  have hb2 : Below (w1.heap.size + 1) (w1.alloc (.cells #[.string f, .string t, .int .i64 p, .int .i64 l0, .string B] 24)) w2 := by simpa using hb2'.out
  have HB2 := Lib.hid ((HB1.out.alloc n0 _).trans (hb2.mono (by omega)))
  have HA2 := Lib.hid ((Boxed.new w1 f t p l0 B).below hb2 (by omega))
  have HX2 := Lib.hid (show Boxed w2 w.heap.size f t p0 l0 s0 from ((show Boxed w1 w.heap.size f t p0 l0 s0 from ⟨x0, x1, x2, x3, x4⟩).below ((Below.refl w1.heap.size _).alloc (Nat.le_refl _) _) n1).below hb2 (by omega))
  have HP2 := Lib.hid (ho2.out.part HWB.out)
  have n2 : w1.heap.size < w2.heap.size := World.block_lt_of_cell? _ _ HA2.out.1
  have hnc : n ≤ c2 := HP2.out.2.1
  clear hb2 hb2' ho2 x0 x1 x2 x3 x4
  obtain ⟨g3, c3, w3, hr3, hg3⟩ := append_part (w2.alloc (.cells #[.int .u8 11, .int .u8 0, .int .u8 0, .int .u8 0, .int .u8 0, .int .u8 0, .int .u8 0, .int .u8 0] 5)) w2.heap.size w2.heap.size 8 8 [11, 0, 0, 0, 0, 0, 0, 0] (some ⟨g2, 0, none⟩) n c2 (WS.take n) (own_lit w2 w2.heap.size w2.heap.size [11, 0, 0, 0, 0, 0, 0, 0] (Nat.le_refl _) rfl (by simp)) ((HP2.out.first n hmn).alloc _) (by simp) (by omega) (8 + n) rfl
  have HA3 := Lib.hid hr3
  have HG3 := Lib.hid (hg3.of_alloc (Nat.le_refl _))
  clear hr3 hg3
  go_wp2_with (at_builtin; (with_reducible refine wpList_append_run ?_ (.tmp 47) (.tmp 54) 38 38 ?_ ?_ ?_ 38 ?_ HA3.out ?_); (focus rfl); (focus rfl); (focus rfl); (focus rfl); (focus rfl))
  refine (put_one (a := some ⟨g3, 0, none⟩) (n := 8 + n) (c := c3) (bs := errQ 0 0 (WS.take n)) (s := 65535 - v) (by simp [go_sem]) ((HG3.out.1.part hQb0.out).alloc _) (by omega) (by rw [HV.out, errV]; omega)).mono ?_
  rintro e wq ⟨rfl, q4, rfl⟩
  rw [show (65535 - (65535 - v) : Int) = v by omega]
  have ho4 := (HG3.out.1.alloc (.cells #[.slice (some ⟨g3, 0, none⟩) (8 + n) c3] 38)).drewN q4
  have c20 := HG3.out.1.cell 2 (by omega)
  have c21 := HG3.out.1.cell 3 (by omega)
  have f20 := HG3.out.1.free 2 (by omega)
  have f21 := HG3.out.1.free 3 (by omega)
  have hgB : w2.heap.size ≤ g3 := HG3.out.1.2.1
  have hgl : g3 < w3.heap.size := HG3.out.1.lt
  have n3 : w2.heap.size ≤ w3.heap.size := HG3.out.2.1.size
  have hst := ((ho4.stored 2 (v / 256)).1.stored 3 (v % 256)).1
  rw [show ([11, 0, 0, 0, 0, 0, 0, 0] ++ WS.take n) = errQ 0 0 (WS.take n) from rfl, errQ_set] at hst
  have hcv : (convert 38 9 (.slice (some ⟨g3, 0, none⟩) (8 + n) c3)).run Tryd.prog ((((w3.alloc (.cells #[.slice (some ⟨g3, 0, none⟩) (8 + n) c3] 38)).drewN q4).setCell ⟨g3, 2, none⟩ (.int .u8 (v / 256))).setCell ⟨g3, 3, none⟩ (.int .u8 (v % 256))) = .ok (.string E) ((((w3.alloc (.cells #[.slice (some ⟨g3, 0, none⟩) (8 + n) c3] 38)).drewN q4).setCell ⟨g3, 2, none⟩ (.int .u8 (v / 256))).setCell ⟨g3, 3, none⟩ (.int .u8 (v % 256))) := by
    rw [HE.out]
    exact convert_part (hst.part hQb.out) 9 Tryd.underlying9
  have HB5 := Lib.hid (show Below w2.heap.size w2 ((((w3.alloc (.cells #[.slice (some ⟨g3, 0, none⟩) (8 + n) c3] 38)).drewN q4).setCell ⟨g3, 2, none⟩ (.int .u8 (v / 256))).setCell ⟨g3, 3, none⟩ (.int .u8 (v % 256))) from HG3.out.2.1.trans (((below_drewN ((Below.refl _ _).alloc n3 _) q4).setCell (p := ⟨g3, 2, none⟩) hgB _).setCell (p := ⟨g3, 3, none⟩) hgB _))
  have HB5w := Lib.hid (HB2.out.trans (HB5.out.mono (by omega)))
  have HX5 := Lib.hid (HX2.out.below HB5.out (by omega))
  have HA5 := Lib.hid (HA2.out.below HB5.out n2)
  have HG5 := Lib.hid (HG.out.below HB5w.out HG.out.size)
  have HX3 := Lib.hid (HX2.out.below HG3.out.2.1 (by omega))
  obtain ⟨x0, x1, x2, x3, x4⟩ := HX3.out
  have n4 : w.heap.size < w3.heap.size := by omega
  have n5 : g3 ≠ w.heap.size := by omega
  have j1 : (2 : Int) < 8 + (n : Int) := by omega
  have j2 : (3 : Int) < 8 + (n : Int) := by omega
  clear ho4 hst
  go_wp2_with fail
  refine (HQ.out _ HG5.out).mono ?_
  rintro e w6 ⟨rfl, hb6'⟩
  have hb6 : Below w3.heap.size ((((w3.alloc (.cells #[.slice (some ⟨g3, 0, none⟩) (8 + n) c3] 38)).drewN q4).setCell ⟨g3, 2, none⟩ (.int .u8 (v / 256))).setCell ⟨g3, 3, none⟩ (.int .u8 (v % 256))) w6 := hb6'.mono (by simp)
  have HB6 := Lib.hid (HB5w.out.trans (hb6.mono (by omega)))
  have HA6 := Lib.hid (HA5.out.below hb6 (by omega))
  obtain ⟨a0, a1, a2, a3, a4⟩ := HA6.out
  have n6 : w1.heap.size < w6.heap.size := World.block_lt_of_cell? _ _ a0
  have n7 : w.heap.size ≤ w6.heap.size := by omega
  clear hb6 hb6' x0 x1 x2 x3 x4 c20 c21 f20 f21 hcv
  go_wp2_with fail
  refine (HFL.out _).mono ?_
  rintro e w7 ⟨rfl, hb7'⟩
  have hb7 : Below (w6.heap.size + 1) (w6.alloc (.cells #[.int .i64 p, .string f, .string t, .int .i64 a, .int .i64 b] 27)) w7 := by simpa using hb7'
  have HB7 := Lib.hid ((HB6.out.alloc n7 _).trans (hb7.mono (by omega)))
  have HF7 := Lib.hid ((BoxF.new w6 f t p a b).below hb7 (by omega))
  have n8 : w6.heap.size < w7.heap.size := World.block_lt_of_cell? _ _ HF7.out.1
  clear hb7 hb7' a0 a1 a2 a3 a4
  go_wp2_with fail
  refine (alive_any _).mono ?_
  rintro e w8 ⟨rfl, hb8⟩
  obtain ⟨u0, u1, u2, u3, u4⟩ := (HF7.out.below ((Below.refl w7.heap.size _).alloc (Nat.le_refl _) (.cells #[.int .i64 p, .string f, .string t, .int .i64 a, .int .i64 b] 27)) n8).below hb8 (by simp; omega)
  obtain ⟨y0, y1, y2, y3, y4⟩ := (BoxF.new w7 f t p a b).below hb8 (by simp)
  have m1 : w6.heap.size < w8.heap.size := World.block_lt_of_cell? _ _ u0
  have m2 : w7.heap.size < w8.heap.size := World.block_lt_of_cell? _ _ y0
  have HB8 := Lib.hid ((HB7.out.alloc (by omega) _).trans (hb8.mono (by simp; omega)))
  clear hb8
  go_wp2
  go_ret
  exact ⟨by first | rfl | simp, HB8.out⟩

end Go.Proofs.YtomcniakffipfaaDoor
