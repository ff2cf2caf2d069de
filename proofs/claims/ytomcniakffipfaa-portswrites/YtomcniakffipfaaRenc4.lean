/-
  What the reference's Encode writes, of four bytes' addresses.
-/
import Derived.Test.YtomcniakffipfaaRenc6
namespace Go.Proofs.Ytomcniakffipfaa
open Go.RowKit
set_option linter.unusedVariables false

set_option maxRecDepth 100000 in
set_option maxHeartbeats 2000000 in
theorem renc_yes4 (f t : ByteArray) (p l : Int) (s : ByteArray) (w : World) (hf6 : f.size = 4) (ht6 : t.size = 4) (h4 : 0 ≤ p ∧ p ≤ 255) (h6 : 0 ≤ l ∧ l ≤ 255) (hs : s.size ≤ 1480) :
    Calls Try.prog 24 #[.agg #[.string f, .string t, .int .i64 p, .int .i64 l, .string s]] w fun e w' => ∃ g c, e = .returned (.tuple #[.slice (some ⟨g, 0, none⟩) (20 + s.size) c, .int .i64 0]) ∧ Hid (Own w' w.heap.size g (20 + s.size) c (wire4 f t p l s)) ∧ Hid (Below w.heap.size w w') := by
  have hf : f.size ≤ 140737488351232 := by omega
  have ht : t.size ≤ 140737488351232 := by omega
  have H1 := Lib.hid (show rightB f = true by simp [rightB, hf6])
  have H2 := Lib.hid (show rightB t = true by simp [rightB, ht6])
  have d3 : decide ((f.size : Int) = (t.size : Int)) = true := by simp; omega
  have b3 : ((f.size : Int) != (t.size : Int)) = false := by simp; omega
  have b3' : (f.size != t.size) = false := by simp; omega
  have d4 : decide (p < 0) = false := by simp; omega
  have d5 : decide (255 < p) = false := by simp; omega
  have d6 : decide (l < 0) = false := by simp; omega
  have d7 : decide (255 < l) = false := by simp; omega
  have d8 : decide ((f.size : Int) = 16) = false := by simp; omega
  have d9 : decide (f.size = 16) = false := by simp; omega
  have d10 : decide (1480 < (s.size : Int)) = false := by simp; omega
  have d11 : decide (1480 < s.size) = false := by simp; omega
  have HO1 := Lib.hid (show Own ((w.alloc (.cells #[.string f, .string t, .int .i64 p, .int .i64 l, .string s] 24)).alloc (.cells #[.int .u8 69, .int .u8 0] 5)) (w.heap.size + 1) (w.heap.size + 1) 2 2 [69, 0] from own_lit (w.alloc (.cells #[.string f, .string t, .int .i64 p, .int .i64 l, .string s] 24)) (w.heap.size + 1) (w.heap.size + 1) [69, 0] (by simp) (by simp) (by simp))
  have HB1 := Lib.hid (show Below (w.heap.size + 1) (w.alloc (.cells #[.string f, .string t, .int .i64 p, .int .i64 l, .string s] 24)) ((w.alloc (.cells #[.string f, .string t, .int .i64 p, .int .i64 l, .string s] 24)).alloc (.cells #[.int .u8 69, .int .u8 0] 5)) from (Below.refl _ _).alloc (by simp) _)
  go_enter Try.func24, Try.ntmps24
  go_wp2_with ((first | (go_at_call_of 43 (Value.string f); refine (rright_at hf H1.out).mono ?_; rintro e w' ⟨rfl, rfl⟩) | (go_at_call_of 43 (Value.string t); refine (rright_at ht H2.out).mono ?_; rintro e w' ⟨rfl, rfl⟩)))
  refine (low_2 (20 + (s.size : Int)) _ (by omega)).mono ?_
  rintro e w2 ⟨rfl, hp2, hb2⟩
  simp only [World.size_alloc] at hp2
  have HO2 := Lib.hid (HO1.out.below hb2.out)
  have HB2 := Lib.hid (below_then HB1.out (by simp) hb2.out)
  obtain ⟨x20, x21, x22, x23, x24⟩ := (Boxed.new w f t p l s).below HB2.out (Nat.lt_succ_self _)
  have z2 : w.heap.size + 1 ≤ w2.heap.size := by have := HB2.out.size; simpa using this
  have y2 : w.heap.size < w2.heap.size := z2
  obtain ⟨g3, c3, w3, hr3, hg3⟩ := append_part w2 (w.heap.size + 1) (w.heap.size + 1) 2 2 _ (some ⟨w.heap.size + 1 + 1, 0, none⟩) 2 2 [(20 + (s.size : Int)) / 256 % 256, (20 + (s.size : Int)) % 256] HO2.out hp2.out (by omega) (by omega) 4 (by omega)
  have HA3 := Lib.hid hr3
  have HB3 := Lib.hid (HB2.out.trans hg3.2.1)
  obtain ⟨x30, x31, x32, x33, x34⟩ := (Boxed.new w f t p l s).below HB3.out (Nat.lt_succ_self _)
  have z3 : w.heap.size + 1 ≤ w3.heap.size := by have := HB3.out.size; simpa using this
  have y3 : w.heap.size < w3.heap.size := z3
  obtain ⟨g4, c4, w4, hr4, hg4'⟩ := append_part (w3.alloc (.cells #[.int .u8 0, .int .u8 0, .int .u8 64, .int .u8 0, .int .u8 l, .int .u8 p] 5)) (w.heap.size + 1) g3 4 c3 _ (some ⟨w3.heap.size, 0, none⟩) 6 6 [0, 0, 64, 0, l, p] (hg3.1.alloc _) (part_at (t := 5) (zs := [0, 0, 64, 0, l, p]) (by intro y hy; simp at hy; omega) rfl) (by simp; omega) (by omega) 10 (by omega)
  have hg4 := hg4'.of_alloc z3
  have HA4 := Lib.hid hr4
  have HB4 := Lib.hid (HB3.out.trans hg4.2.1)
  clear hr4 hg4'
  obtain ⟨x40, x41, x42, x43, x44⟩ := (Boxed.new w f t p l s).below HB4.out (Nat.lt_succ_self _)
  have z4 : w.heap.size + 1 ≤ w4.heap.size := by have := HB4.out.size; simpa using this
  have y4 : w.heap.size < w4.heap.size := z4
  have ho4 := hg4.1
  have hz4 : Byt ([69, 0] ++ [(20 + (s.size : Int)) / 256 % 256, (20 + (s.size : Int)) % 256] ++ [0, 0, 64, 0, l, p]) := by intro y hy; simp at hy; omega
  obtain ⟨c5, w5, hr5, ho5, hb5, hz5, hk5⟩ := conv_bytes w4 (w.heap.size + 1) (f ++ t) 9 Try.underlying9 z4 (by simp [hf6, ht6]) w4.heap.size rfl 8 (by simp [hf6, ht6])
  have q5 : w4.heap.size < w5.heap.size := by omega
  clear hz5
  have q4 : g4 < w4.heap.size := ho4.lt
  have ho4' := ho4.of_block (hk5 g4 q4)
  have HB5 := Lib.hid (HB4.out.trans hb5)
  obtain ⟨x50, x51, x52, x53, x54⟩ := (Boxed.new w f t p l s).below HB5.out (Nat.lt_succ_self _)
  have z5 : w.heap.size + 1 ≤ w5.heap.size := by have := HB5.out.size; simpa using this
  have y5 : w.heap.size < w5.heap.size := z5
  have HP5 := Lib.hid (ho5.part (bts_byt _))
  have oe : Own (w5.alloc (.cells #[] 5)) (w.heap.size + 1) w5.heap.size 0 0 [] := own_lit w5 (w.heap.size + 1) w5.heap.size [] z5 rfl (by simp)
  obtain ⟨g6, c6, w6, hr6, hg6'⟩ := append_part (w5.alloc (.cells #[] 5)) (w.heap.size + 1) w5.heap.size 0 0 _ (some ⟨g4, 0, none⟩) 10 c4 _ oe ((ho4'.part hz4).alloc _) (by simp; omega) (by omega) 10 (by omega)
  have HA6 := Lib.hid hr6
  have e6 : g6 = w5.heap.size ∨ w5.heap.size + 1 ≤ g6 := by have := hg6'.2.2.1; simpa using this
  have q6 : w5.heap.size ≤ g6 := by omega
  have o6 : Own w6 (w.heap.size + 1) g4 10 c4 _ := hg6'.own (ho4'.alloc (.cells #[] 5)) (by omega)
  have p6 : Part w6 ⟨some ⟨w4.heap.size, 0, none⟩, 8, c5, bts (f ++ t)⟩ := hg6'.part (HP5.out.alloc (.cells #[] 5)) (by omega) (by simp; omega)
  have hb6 : Below (w.heap.size + 1) w5 w6 := ((Below.refl _ _).alloc z5 (.cells #[] 5)).trans hg6'.2.1
  have s6 : w5.heap.size + 1 ≤ w6.heap.size := by have := hg6'.2.1.size; simpa using this
  have HB6 := Lib.hid (HB5.out.trans hb6)
  obtain ⟨x60, x61, x62, x63, x64⟩ := (Boxed.new w f t p l s).below HB6.out (Nat.lt_succ_self _)
  have z6 : w.heap.size + 1 ≤ w6.heap.size := by have := HB6.out.size; simpa using this
  have y6 : w.heap.size < w6.heap.size := z6
  obtain ⟨g7, c7, w7, hr7, hg7'⟩ := append_part (w6.alloc (.cells #[.int .u8 0, .int .u8 0] 5)) (w.heap.size + 1) g6 10 c6 _ (some ⟨w6.heap.size, 0, none⟩) 2 2 [0, 0] (hg6'.1.alloc _) (part_at (t := 5) (zs := [0, 0]) (by intro y hy; simp at hy; omega) rfl) (by simp; omega) (by omega) 12 (by omega)
  have hg7 := hg7'.of_alloc z6
  have HA7 := Lib.hid hr7
  have HB7 := Lib.hid (HB6.out.trans hg7.2.1)
  clear hr7 hg7'
  obtain ⟨x70, x71, x72, x73, x74⟩ := (Boxed.new w f t p l s).below HB7.out (Nat.lt_succ_self _)
  have z7 : w.heap.size + 1 ≤ w7.heap.size := by have := HB7.out.size; simpa using this
  have y7 : w.heap.size < w7.heap.size := z7
  have o7 := hg7.own o6 (by omega)
  have p7 := hg7.part p6 (by omega) (by omega)
  have e7 := hg7.2.2.1
  have s7 := hg7.2.1.size
  obtain ⟨g8, c8, w8, hr8, hg8⟩ := append_part w7 (w.heap.size + 1) g7 12 c7 _ (some ⟨w4.heap.size, 0, none⟩) 8 c5 _ hg7.1 p7 (by omega) (by omega) 20 (by omega)
  have HA8 := Lib.hid hr8
  have o8 := hg8.own o7 (by omega)
  have p8 := hg8.part p7 (by omega) (by omega)
  have HB8 := Lib.hid (HB7.out.trans hg8.2.1)
  obtain ⟨x80, x81, x82, x83, x84⟩ := (Boxed.new w f t p l s).below HB8.out (Nat.lt_succ_self _)
  have z8 : w.heap.size + 1 ≤ w8.heap.size := by have := HB8.out.size; simpa using this
  have y8 : w.heap.size < w8.heap.size := z8
  have hh : Own w8 (w.heap.size + 1) g8 20 c8 (head4 s.size p l 0 0 f t) := by
    have h := hg8.1
    have e : head4 s.size p l 0 0 f t = [] ++ ([69, 0] ++ [(20 + (s.size : Int)) / 256 % 256, (20 + (s.size : Int)) % 256] ++ [0, 0, 64, 0, l, p]) ++ [0, 0] ++ bts (f ++ t) := by simp [head4, bts_append]
    rw [e]
    exact h
  have HP8 := Lib.hid (hh.part (head4_byt h4 h6 (show (0 : Int) ≤ 0 ∧ (0 : Int) ≤ 255 by omega) (show (0 : Int) ≤ 0 ∧ (0 : Int) ≤ 255 by omega)))
  obtain ⟨m, hm⟩ : ∃ m, m = sum4 s.size p l f t := ⟨_, rfl⟩
  have hm1 : 65535 - fd (tot (head4 s.size p l 0 0 f t)) = m := by rw [hm]; rfl
  have hmb := sum4_bd s.size p l f t
  rw [← hm] at hmb
  have HM := Lib.hid hm
  have HM1 := Lib.hid hm1
  have HO8 := Lib.hid o8
  have HQ8 := Lib.hid p8
  have ge4 : w.heap.size + 1 ≤ g4 := ho4.2.1
  have s8 := hg8.2.1.size
  clear hr3 hg3 hg4 ho5 hb5 hk5 oe hr6 hg6' o6 p6 hb6 hg7 o7 p7 e7 hr8 hg8 o8 p8 hh hm hm1 hp2 hb2 HO1 HO2 ho4 ho4' hz4 HP5
  go_wp2_with (at_builtin; (first | ((with_reducible refine wpList_append_run ?_ (.tmp 86) (.tmp 91) 42 42 ?_ ?_ ?_ 42 ?_ HA3.out ?_); (focus rfl); (focus rfl); (focus rfl); (focus rfl); (focus rfl)) | ((with_reducible refine wpList_append_run ?_ (.tmp 93) (.tmp 100) 42 42 ?_ ?_ ?_ 42 ?_ HA4.out ?_); (focus rfl); (focus rfl); (focus rfl); (focus rfl); (focus rfl)) | ((with_reducible refine wpList_append_run ?_ (.tmp 108) (.tmp 109) 42 42 ?_ ?_ ?_ 42 ?_ HA6.out ?_); (focus rfl); (focus rfl); (focus rfl); (focus rfl); (focus rfl)) | ((with_reducible refine wpList_append_run ?_ (.tmp 111) (.tmp 112) 42 42 ?_ ?_ ?_ 42 ?_ HA7.out ?_); (focus rfl); (focus rfl); (focus rfl); (focus rfl); (focus rfl)) | ((with_reducible refine wpList_append_run ?_ (.tmp 114) (.tmp 115) 42 42 ?_ ?_ ?_ 42 ?_ HA8.out ?_); (focus rfl); (focus rfl); (focus rfl); (focus rfl); (focus rfl))))
  refine (rput_any _ 20 c8 _ _ w8 HP8.out (by omega) rfl).mono ?_
  rintro e w' ⟨rfl, rfl⟩
  rw [HM1.out]
  go_wp2_with fail
  refine (low_2 m w8 (by omega)).mono ?_
  rintro e w9 ⟨rfl, hp9, hb9⟩
  have HB9 := Lib.hid (below_then HB8.out z8 hb9.out)
  obtain ⟨x90, x91, x92, x93, x94⟩ := (Boxed.new w f t p l s).below HB9.out (Nat.lt_succ_self _)
  have z9 : w.heap.size + 1 ≤ w9.heap.size := by have := HB9.out.size; simpa using this
  have y9 : w.heap.size < w9.heap.size := z9
  have s9 := hb9.out.size
  have o9 := HO8.out.below hb9.out
  have p9 := HQ8.out.below hb9.out
  obtain ⟨g10, c10, w10, hr10, hg10⟩ := append_part w9 (w.heap.size + 1) g4 10 c4 _ (some ⟨w8.heap.size, 0, none⟩) 2 2 [m / 256 % 256, m % 256] o9 hp9.out (by omega) (by omega) 12 (by omega)
  have HA10 := Lib.hid hr10
  have HB10 := Lib.hid (HB9.out.trans hg10.2.1)
  obtain ⟨x100, x101, x102, x103, x104⟩ := (Boxed.new w f t p l s).below HB10.out (Nat.lt_succ_self _)
  have z10 : w.heap.size + 1 ≤ w10.heap.size := by have := HB10.out.size; simpa using this
  have y10 : w.heap.size < w10.heap.size := z10
  have p10 := hg10.part p9 (by omega) (by omega)
  obtain ⟨g11, c11, w11, hr11, hg11⟩ := append_part w10 (w.heap.size + 1) g10 12 c10 _ (some ⟨w4.heap.size, 0, none⟩) 8 c5 _ hg10.1 p10 (by omega) (by omega) 20 (by omega)
  have HA11 := Lib.hid hr11
  have HB11 := Lib.hid (HB10.out.trans hg11.2.1)
  obtain ⟨x110, x111, x112, x113, x114⟩ := (Boxed.new w f t p l s).below HB11.out (Nat.lt_succ_self _)
  have z11 : w.heap.size + 1 ≤ w11.heap.size := by have := HB11.out.size; simpa using this
  have y11 : w.heap.size < w11.heap.size := z11
  obtain ⟨g12, c12, w12, hr12, hg12⟩ := append_text w11 (w.heap.size + 1) g11 20 c11 _ s hg11.1 (by omega) (by omega) 9 Try.underlying9 (20 + s.size) rfl
  have HA12 := Lib.hid hr12
  have HG12 := Lib.hid hg12
  have HB12 := Lib.hid (HB11.out.trans hg12.2.1)
  clear hr10 hg10 hr11 hg11 hr12 hg12 o9 p9 p10 hp9 hb9
  go_wp2_with (at_builtin; (first | ((with_reducible refine wpList_append_run ?_ (.tmp 117) (.tmp 120) 42 42 ?_ ?_ ?_ 42 ?_ HA10.out ?_); (focus rfl); (focus rfl); (focus rfl); (focus rfl); (focus rfl)) | ((with_reducible refine wpList_append_run ?_ (.tmp 122) (.tmp 123) 42 42 ?_ ?_ ?_ 42 ?_ HA11.out ?_); (focus rfl); (focus rfl); (focus rfl); (focus rfl); (focus rfl)) | ((with_reducible refine wpList_append_run ?_ (.tmp 125) (.tmp 127) 42 9 ?_ ?_ ?_ 42 ?_ HA12.out ?_); (focus rfl); (focus rfl); (focus rfl); (focus rfl); (focus rfl))))
  go_ret2
  refine ⟨_, _, rfl, Lib.hid ?_, Lib.hid (below_box HB12.out)⟩
  have ho := HG12.out.1
  have e : wire4 f t p l s = [69, 0] ++ [(20 + (s.size : Int)) / 256 % 256, (20 + (s.size : Int)) % 256] ++ [0, 0, 64, 0, l, p] ++ [m / 256 % 256, m % 256] ++ bts (f ++ t) ++ bts s := by
    have em : m / 256 % 256 = m / 256 := by omega
    rw [em]
    simp [wire4, head4, bts_append, ← HM.out]
  rw [e]
  exact ho.mono (Nat.le_succ _)

/-- outriderref03.Encode. -/
theorem renc_yes (f t : ByteArray) (p l : Int) (s : ByteArray) (w : World) (h : Okp f t p l s) (n : Nat) (hn : n = (if f.size = 16 then 40 else 20) + s.size) :
    Calls Try.prog 24 #[.agg #[.string f, .string t, .int .i64 p, .int .i64 l, .string s]] w fun e w' => ∃ g c, e = .returned (.tuple #[.slice (some ⟨g, 0, none⟩) n c, .int .i64 0]) ∧ Hid (Own w' w.heap.size g n c (wire f t p l s)) ∧ Hid (Below w.heap.size w w') := by
  obtain ⟨h1, h2, h3, h4⟩ := h
  simp [alikeB, rightB] at h1
  simp [byteB] at h2 h3
  unfold headI at h4
  unfold wire
  by_cases h6 : f.size = 16
  · rw [if_pos h6] at h4 hn ⊢
    subst hn
    exact renc_yes6 f t p l s w h6 (by omega) h2 h3 (by omega)
  · rw [if_neg h6] at h4 hn ⊢
    subst hn
    exact renc_yes4 f t p l s w (by omega) (by omega) h2 h3 (by omega)

end Go.Proofs.Ytomcniakffipfaa
