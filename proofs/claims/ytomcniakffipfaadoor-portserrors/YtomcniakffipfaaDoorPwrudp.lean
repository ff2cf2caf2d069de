/-
  What ports.Write does, of a head that is right.
-/
import Derived.Test.YtomcniakffipfaaDoorPwrno
namespace Go.Proofs.YtomcniakffipfaaDoor
open Go.RowKit
set_option linter.unusedVariables false
set_option maxRecDepth 10000

set_option maxHeartbeats 2000000 in
theorem write_udp_no (f t : ByteArray) (p0 l0 : Int) (s0 : ByteArray) (a b : Int) (s : ByteArray) (w : World) (hf : f.size ≤ 140737488351232) (ht : t.size ≤ 140737488351232) (ha : 0 ≤ a ∧ a ≤ 65535) (hb : 0 ≤ b ∧ b ≤ 65535)  (hs : s.size ≤ 3000) (hok : ¬ Okp f t 17 l0 (strOfNums (udpW f t a b s))) : Calls Tryd.prog 8 #[.agg #[.string f, .string t, .int .i64 p0, .int .i64 l0, .string s0], .agg #[.int .i64 17, .int .i64 a, .int .i64 b, .int .i64 0, .int .i64 0], .string s] w fun e w' => e = .returned (.tuple #[.agg #[.string ⟨#[]⟩, .string ⟨#[]⟩, .int .i64 0, .int .i64 0, .string ⟨#[]⟩], .int .i64 1]) ∧ Below w.heap.size w w' := by
  have H1 := Lib.hid (show portsB 17 = true from rfl)
  have H2 := Lib.hid (show portB a = true by simp [portB]; omega)
  have H3 := Lib.hid (show portB b = true by simp [portB]; omega)
  have H4 := Lib.hid (show flagB 17 0 = true by simp [flagB])
  have hmf : ∀ (fn : Fn) (first cap : Array Value) (w : World), (Instr.makeFunc fn first cap).run Tryd.prog w = .ok (.func fn first cap) w := fun _ _ _ _ => rfl
  obtain ⟨B, hB⟩ : ∃ B, B = strOfNums (udpW f t a b s) := ⟨_, rfl⟩
  have HBB := Lib.hid hB
  rw [← hB] at hok
  have HOK := Lib.hid hok
  clear hok hB
  have HX0 := Lib.hid (((Boxed.new w f t p0 l0 s0).below (((Below.refl (w.heap.size + 1) _).alloc (by simp) (.cells #[.int .i64 17, .int .i64 a, .int .i64 b, .int .i64 0, .int .i64 0] 36)).alloc (by simp) (.cells #[.string ⟨#[]⟩, .string ⟨#[]⟩, .int .i64 0, .int .i64 0, .string ⟨#[]⟩] 24)) (by simp)))
  have HY0 : Hid (BoxH (((w.alloc (.cells #[.string f, .string t, .int .i64 p0, .int .i64 l0, .string s0] 24)).alloc (.cells #[.int .i64 17, .int .i64 a, .int .i64 b, .int .i64 0, .int .i64 0] 36)).alloc (.cells #[.string ⟨#[]⟩, .string ⟨#[]⟩, .int .i64 0, .int .i64 0, .string ⟨#[]⟩] 24)) (w.heap.size + 1) 17 a b 0 0) := Lib.hid (by simp [BoxH, go_sem])
  have HZ0 : Hid (Boxed (((w.alloc (.cells #[.string f, .string t, .int .i64 p0, .int .i64 l0, .string s0] 24)).alloc (.cells #[.int .i64 17, .int .i64 a, .int .i64 b, .int .i64 0, .int .i64 0] 36)).alloc (.cells #[.string ⟨#[]⟩, .string ⟨#[]⟩, .int .i64 0, .int .i64 0, .string ⟨#[]⟩] 24)) (w.heap.size + 1 + 1) ⟨#[]⟩ ⟨#[]⟩ 0 0 ⟨#[]⟩) := Lib.hid (by simp [Boxed, go_sem])
  have HF0 : Hid (Free (((w.alloc (.cells #[.string f, .string t, .int .i64 p0, .int .i64 l0, .string s0] 24)).alloc (.cells #[.int .i64 17, .int .i64 a, .int .i64 b, .int .i64 0, .int .i64 0] 36)).alloc (.cells #[.string ⟨#[]⟩, .string ⟨#[]⟩, .int .i64 0, .int .i64 0, .string ⟨#[]⟩] 24)) (w.heap.size + 1 + 1)) := Lib.hid (fun o => by simp [go_sem])
  have HBb : Hid (Below w.heap.size w (((w.alloc (.cells #[.string f, .string t, .int .i64 p0, .int .i64 l0, .string s0] 24)).alloc (.cells #[.int .i64 17, .int .i64 a, .int .i64 b, .int .i64 0, .int .i64 0] 36)).alloc (.cells #[.string ⟨#[]⟩, .string ⟨#[]⟩, .int .i64 0, .int .i64 0, .string ⟨#[]⟩] 24))) := Lib.hid ((((Below.refl _ _).alloc (Nat.le_refl _) _).alloc (by simp) _).alloc (by simp; omega) _)
  go_enter Tryd.func8, Tryd.ntmps8
  go_wp2_with (go_at_call 24; refine (hasPorts_at H1.out).mono ?_; rintro e w' ⟨rfl, rfl⟩)
  refine (isPort_at H2.out).mono ?_
  rintro e w' ⟨rfl, rfl⟩
  go_wp2_with fail
  refine (isPort_at H3.out).mono ?_
  rintro e w' ⟨rfl, rfl⟩
  go_wp2_with fail
  refine (mayFlag_at H4.out).mono ?_
  rintro e w1 ⟨rfl, hb1⟩
  have HB1 := Lib.hid (show Below (w.heap.size + 1 + 1 + 1) (((w.alloc (.cells #[.string f, .string t, .int .i64 p0, .int .i64 l0, .string s0] 24)).alloc (.cells #[.int .i64 17, .int .i64 a, .int .i64 b, .int .i64 0, .int .i64 0] 36)).alloc (.cells #[.string ⟨#[]⟩, .string ⟨#[]⟩, .int .i64 0, .int .i64 0, .string ⟨#[]⟩] 24)) w1 by simpa using hb1)
  obtain ⟨x0, x1, x2, x3, x4⟩ := HX0.out.below HB1.out (by omega)
  obtain ⟨y0, y1, y2, y3, y4⟩ := HY0.out.below HB1.out (by omega)
  obtain ⟨z0, z1, z2, z3, z4⟩ := HZ0.out.below HB1.out (by omega)
  have zf : ∀ o, w1.frozen? ⟨w.heap.size + 1 + 1, o, none⟩ = false := HF0.out.below HB1.out (by omega)
  have n1 : w.heap.size + 1 + 1 < w1.heap.size := by have := HB1.out.size; simp at this; omega
  have n2 : w.heap.size + 1 < w1.heap.size := by omega
  have n3 : w.heap.size < w1.heap.size := by omega
  clear hb1
  go_wp2_with fail
  refine (layUdp_any (p0 := p0) (l0 := l0) (s0 := s0) s (bp := w.heap.size) (bh := w.heap.size + 1) (f := f) (t := t) ((HX0.out.below HB1.out (by omega)).below ((Below.refl _ _).alloc (Nat.le_refl _) _) (by omega)) ((HY0.out.below HB1.out (by omega)).below ((Below.refl _ _).alloc (Nat.le_refl _) _) (by omega)) (by simp; omega) (by simp; omega) hf ht ha hb hs).mono ?_
  rintro e w2 ⟨rfl, hb2⟩
  rw [← HBB.out]
  have HB2 := Lib.hid (show Below (w1.heap.size + 1) (w1.alloc (.cells #[.string f, .string t, .int .i64 17, .int .i64 l0, .string ⟨#[]⟩] 24)) w2 by simpa using hb2.out)
  clear hb2 x0 x1 x2 x3 x4 y0 y1 y2 y3 y4 z0 z1 z2 z3 z4 zf
  have HT2 := Lib.hid ((Boxed.new w1 f t 17 l0 ⟨#[]⟩).below HB2.out (by omega))
  have HZ2 := Lib.hid (((HZ0.out.below HB1.out (by omega)).below ((Below.refl (w1.heap.size) _).alloc (Nat.le_refl _) _) n1).below HB2.out (by omega))
  have HF2 := Lib.hid (((HF0.out.below HB1.out (by omega)).below ((Below.refl (w1.heap.size) _).alloc (Nat.le_refl _) _) n1).below HB2.out (by omega))
  have ff : ∀ o, w2.frozen? ⟨w1.heap.size, o, none⟩ = false := (Free.new w1 _ _).below HB2.out (by omega)
  obtain ⟨v0, v1, v2, v3, v4⟩ := HT2.out
  have m1 : w1.heap.size < w2.heap.size := by have := HB2.out.size; simp at this; omega
  go_wp2_with fail
  refine (encode_no f t 17 l0 B _ hf ht (by rw [HBB.out, strOfNums_size, udpW, udpB_len]; omega) HOK.out).mono ?_
  rintro e w3 ⟨rfl, hb3⟩
  have HB3 := Lib.hid (show Below w2.heap.size (w2.setCell ⟨w1.heap.size, 4, none⟩ (.string B)) w3 by simpa using hb3)
  have HT3 := Lib.hid ((HT2.out.body B).below HB3.out m1)
  have HZ3 := Lib.hid ((HZ2.out.below ((Below.refl w1.heap.size _).setCell (Nat.le_refl _) _) n1).below HB3.out (by omega))
  have HF3 := Lib.hid ((HF2.out.below ((Below.refl w1.heap.size _).setCell (Nat.le_refl _) _) n1).below HB3.out (by omega))
  have HBf := Lib.hid ((HBb.out.trans (HB1.out.mono (by omega))).trans (((((Below.refl w1.heap.size _).alloc (Nat.le_refl _) _).trans (HB2.out.mono (by omega))).trans (((Below.refl w1.heap.size _).setCell (Nat.le_refl _) _).trans (HB3.out.mono (by omega)))).mono (by omega)))
  clear hb3 v0 v1 v2 v3 v4 ff HB1 HB2 HB3 HT2 HZ2 HF2
  obtain ⟨u0, u1, u2, u3, u4⟩ := HT3.out
  obtain ⟨z0, z1, z2, z3, z4⟩ := HZ3.out
  have zf : ∀ o, w3.frozen? ⟨w.heap.size + 1 + 1, o, none⟩ = false := HF3.out
  have q1 : w.heap.size + 1 + 1 < w3.heap.size := World.block_lt_of_cell? _ _ z0
  have q2 : w1.heap.size < w3.heap.size := World.block_lt_of_cell? _ _ u0
  go_wp2
  exact bodyPost_ret (v := .tuple #[.agg #[.string ⟨#[]⟩, .string ⟨#[]⟩, .int .i64 0, .int .i64 0, .string ⟨#[]⟩], .int .i64 1]) (by simp [results, Tryd.results8, go_sem, *]) rfl ⟨rfl, below5 HBf.out (by omega)⟩

set_option maxHeartbeats 2000000 in
theorem write_udp_yes (f t : ByteArray) (p0 l0 : Int) (s0 : ByteArray) (a b : Int) (s : ByteArray) (w : World) (hf : f.size ≤ 140737488351232) (ht : t.size ≤ 140737488351232) (ha : 0 ≤ a ∧ a ≤ 65535) (hb : 0 ≤ b ∧ b ≤ 65535)  (hs : s.size ≤ 3000) (hok : Okp f t 17 l0 (strOfNums (udpW f t a b s))) : Calls Tryd.prog 8 #[.agg #[.string f, .string t, .int .i64 p0, .int .i64 l0, .string s0], .agg #[.int .i64 17, .int .i64 a, .int .i64 b, .int .i64 0, .int .i64 0], .string s] w fun e w' => e = .returned (.tuple #[.agg #[.string f, .string t, .int .i64 17, .int .i64 l0, .string (strOfNums (udpW f t a b s))], .int .i64 0]) ∧ Below w.heap.size w w' := by
  have H1 := Lib.hid (show portsB 17 = true from rfl)
  have H2 := Lib.hid (show portB a = true by simp [portB]; omega)
  have H3 := Lib.hid (show portB b = true by simp [portB]; omega)
  have H4 := Lib.hid (show flagB 17 0 = true by simp [flagB])
  have hmf : ∀ (fn : Fn) (first cap : Array Value) (w : World), (Instr.makeFunc fn first cap).run Tryd.prog w = .ok (.func fn first cap) w := fun _ _ _ _ => rfl
  obtain ⟨B, hB⟩ : ∃ B, B = strOfNums (udpW f t a b s) := ⟨_, rfl⟩
  have HBB := Lib.hid hB
  rw [← hB] at hok
  have HOK := Lib.hid hok
  clear hok hB
  have HX0 := Lib.hid (((Boxed.new w f t p0 l0 s0).below (((Below.refl (w.heap.size + 1) _).alloc (by simp) (.cells #[.int .i64 17, .int .i64 a, .int .i64 b, .int .i64 0, .int .i64 0] 36)).alloc (by simp) (.cells #[.string ⟨#[]⟩, .string ⟨#[]⟩, .int .i64 0, .int .i64 0, .string ⟨#[]⟩] 24)) (by simp)))
  have HY0 : Hid (BoxH (((w.alloc (.cells #[.string f, .string t, .int .i64 p0, .int .i64 l0, .string s0] 24)).alloc (.cells #[.int .i64 17, .int .i64 a, .int .i64 b, .int .i64 0, .int .i64 0] 36)).alloc (.cells #[.string ⟨#[]⟩, .string ⟨#[]⟩, .int .i64 0, .int .i64 0, .string ⟨#[]⟩] 24)) (w.heap.size + 1) 17 a b 0 0) := Lib.hid (by simp [BoxH, go_sem])
  have HZ0 : Hid (Boxed (((w.alloc (.cells #[.string f, .string t, .int .i64 p0, .int .i64 l0, .string s0] 24)).alloc (.cells #[.int .i64 17, .int .i64 a, .int .i64 b, .int .i64 0, .int .i64 0] 36)).alloc (.cells #[.string ⟨#[]⟩, .string ⟨#[]⟩, .int .i64 0, .int .i64 0, .string ⟨#[]⟩] 24)) (w.heap.size + 1 + 1) ⟨#[]⟩ ⟨#[]⟩ 0 0 ⟨#[]⟩) := Lib.hid (by simp [Boxed, go_sem])
  have HF0 : Hid (Free (((w.alloc (.cells #[.string f, .string t, .int .i64 p0, .int .i64 l0, .string s0] 24)).alloc (.cells #[.int .i64 17, .int .i64 a, .int .i64 b, .int .i64 0, .int .i64 0] 36)).alloc (.cells #[.string ⟨#[]⟩, .string ⟨#[]⟩, .int .i64 0, .int .i64 0, .string ⟨#[]⟩] 24)) (w.heap.size + 1 + 1)) := Lib.hid (fun o => by simp [go_sem])
  have HBb : Hid (Below w.heap.size w (((w.alloc (.cells #[.string f, .string t, .int .i64 p0, .int .i64 l0, .string s0] 24)).alloc (.cells #[.int .i64 17, .int .i64 a, .int .i64 b, .int .i64 0, .int .i64 0] 36)).alloc (.cells #[.string ⟨#[]⟩, .string ⟨#[]⟩, .int .i64 0, .int .i64 0, .string ⟨#[]⟩] 24))) := Lib.hid ((((Below.refl _ _).alloc (Nat.le_refl _) _).alloc (by simp) _).alloc (by simp; omega) _)
  go_enter Tryd.func8, Tryd.ntmps8
  go_wp2_with (go_at_call 24; refine (hasPorts_at H1.out).mono ?_; rintro e w' ⟨rfl, rfl⟩)
  refine (isPort_at H2.out).mono ?_
  rintro e w' ⟨rfl, rfl⟩
  go_wp2_with fail
  refine (isPort_at H3.out).mono ?_
  rintro e w' ⟨rfl, rfl⟩
  go_wp2_with fail
  refine (mayFlag_at H4.out).mono ?_
  rintro e w1 ⟨rfl, hb1⟩
  have HB1 := Lib.hid (show Below (w.heap.size + 1 + 1 + 1) (((w.alloc (.cells #[.string f, .string t, .int .i64 p0, .int .i64 l0, .string s0] 24)).alloc (.cells #[.int .i64 17, .int .i64 a, .int .i64 b, .int .i64 0, .int .i64 0] 36)).alloc (.cells #[.string ⟨#[]⟩, .string ⟨#[]⟩, .int .i64 0, .int .i64 0, .string ⟨#[]⟩] 24)) w1 by simpa using hb1)
  obtain ⟨x0, x1, x2, x3, x4⟩ := HX0.out.below HB1.out (by omega)
  obtain ⟨y0, y1, y2, y3, y4⟩ := HY0.out.below HB1.out (by omega)
  obtain ⟨z0, z1, z2, z3, z4⟩ := HZ0.out.below HB1.out (by omega)
  have zf : ∀ o, w1.frozen? ⟨w.heap.size + 1 + 1, o, none⟩ = false := HF0.out.below HB1.out (by omega)
  have n1 : w.heap.size + 1 + 1 < w1.heap.size := by have := HB1.out.size; simp at this; omega
  have n2 : w.heap.size + 1 < w1.heap.size := by omega
  have n3 : w.heap.size < w1.heap.size := by omega
  clear hb1
  go_wp2_with fail
  refine (layUdp_any (p0 := p0) (l0 := l0) (s0 := s0) s (bp := w.heap.size) (bh := w.heap.size + 1) (f := f) (t := t) ((HX0.out.below HB1.out (by omega)).below ((Below.refl _ _).alloc (Nat.le_refl _) _) (by omega)) ((HY0.out.below HB1.out (by omega)).below ((Below.refl _ _).alloc (Nat.le_refl _) _) (by omega)) (by simp; omega) (by simp; omega) hf ht ha hb hs).mono ?_
  rintro e w2 ⟨rfl, hb2⟩
  rw [← HBB.out]
  have HB2 := Lib.hid (show Below (w1.heap.size + 1) (w1.alloc (.cells #[.string f, .string t, .int .i64 17, .int .i64 l0, .string ⟨#[]⟩] 24)) w2 by simpa using hb2.out)
  clear hb2 x0 x1 x2 x3 x4 y0 y1 y2 y3 y4 z0 z1 z2 z3 z4 zf
  have HT2 := Lib.hid ((Boxed.new w1 f t 17 l0 ⟨#[]⟩).below HB2.out (by omega))
  have HZ2 := Lib.hid (((HZ0.out.below HB1.out (by omega)).below ((Below.refl (w1.heap.size) _).alloc (Nat.le_refl _) _) n1).below HB2.out (by omega))
  have HF2 := Lib.hid (((HF0.out.below HB1.out (by omega)).below ((Below.refl (w1.heap.size) _).alloc (Nat.le_refl _) _) n1).below HB2.out (by omega))
  have ff : ∀ o, w2.frozen? ⟨w1.heap.size, o, none⟩ = false := (Free.new w1 _ _).below HB2.out (by omega)
  obtain ⟨v0, v1, v2, v3, v4⟩ := HT2.out
  have m1 : w1.heap.size < w2.heap.size := by have := HB2.out.size; simp at this; omega
  go_wp2_with fail
  obtain ⟨n, hn⟩ : ∃ n, n = (if f.size = 16 then 40 else 20) + B.size := ⟨_, rfl⟩
  refine (encode_yes f t 17 l0 B _ HOK.out n hn).mono ?_
  clear hn
  rintro e w3 ⟨g3, c3, rfl, ho3, hb3'⟩
  have hb3 := hb3'.out
  clear ho3 hb3'
  have HB3 := Lib.hid (show Below w2.heap.size (w2.setCell ⟨w1.heap.size, 4, none⟩ (.string B)) w3 by simpa using hb3)
  have HT3 := Lib.hid ((HT2.out.body B).below HB3.out m1)
  have HZ3 := Lib.hid ((HZ2.out.below ((Below.refl w1.heap.size _).setCell (Nat.le_refl _) _) n1).below HB3.out (by omega))
  have HF3 := Lib.hid ((HF2.out.below ((Below.refl w1.heap.size _).setCell (Nat.le_refl _) _) n1).below HB3.out (by omega))
  have HBf := Lib.hid ((HBb.out.trans (HB1.out.mono (by omega))).trans (((((Below.refl w1.heap.size _).alloc (Nat.le_refl _) _).trans (HB2.out.mono (by omega))).trans (((Below.refl w1.heap.size _).setCell (Nat.le_refl _) _).trans (HB3.out.mono (by omega)))).mono (by omega)))
  clear hb3 v0 v1 v2 v3 v4 ff HB1 HB2 HB3 HT2 HZ2 HF2
  obtain ⟨u0, u1, u2, u3, u4⟩ := HT3.out
  obtain ⟨z0, z1, z2, z3, z4⟩ := HZ3.out
  have zf : ∀ o, w3.frozen? ⟨w.heap.size + 1 + 1, o, none⟩ = false := HF3.out
  have q1 : w.heap.size + 1 + 1 < w3.heap.size := World.block_lt_of_cell? _ _ z0
  have q2 : w1.heap.size < w3.heap.size := World.block_lt_of_cell? _ _ u0
  go_wp2
  rw [← HBB.out]
  exact bodyPost_ret (v := .tuple #[.agg #[.string f, .string t, .int .i64 17, .int .i64 l0, .string B], .int .i64 0]) (by simp [results, Tryd.results8, go_sem, *]) rfl ⟨rfl, below5 HBf.out (by omega)⟩

end Go.Proofs.YtomcniakffipfaaDoor
