/-
  What the reference's Encode writes, of sixteen bytes' addresses.
-/
import Derived.Test.YtomcniakffipfaaRpseudo
namespace Go.Proofs.Ytomcniakffipfaa
open Go.RowKit
set_option linter.unusedVariables false

/-- A row that is made of bytes. -/
theorem own_lit (W : World) (B N : Nat) (zs : List Int) (hB : B ≤ W.heap.size) (hN : N = W.heap.size) (hl : zs.length ≤ 1000) : Own (W.alloc (.cells (zs.map (Value.int .u8)).toArray 5)) B N zs.length zs.length zs := by
  subst hN
  exact ⟨rfl, hB, Nat.le_refl _, by simp only [maxLen]; omega, _, (0, 0), heap_alloc_new W _, .inl rfl, by simp, by simp only [cel]; exact List.take_of_length_le (by simp)⟩

set_option maxRecDepth 100000 in
set_option maxHeartbeats 2000000 in
theorem renc_yes6 (f t : ByteArray) (p l : Int) (s : ByteArray) (w : World) (hf6 : f.size = 16) (ht6 : t.size = 16) (h4 : 0 ≤ p ∧ p ≤ 255) (h6 : 0 ≤ l ∧ l ≤ 255) (hs : s.size ≤ 1460) :
    Calls Try.prog 24 #[.agg #[.string f, .string t, .int .i64 p, .int .i64 l, .string s]] w fun e w' => ∃ g c, e = .returned (.tuple #[.slice (some ⟨g, 0, none⟩) (40 + s.size) c, .int .i64 0]) ∧ Hid (Own w' w.heap.size g (40 + s.size) c (wire6 f t p l s)) ∧ Hid (Below w.heap.size w w') := by
  have hf : f.size ≤ 140737488351232 := by omega
  have ht : t.size ≤ 140737488351232 := by omega
  have H1 := Lib.hid (show rightB f = true by simp [rightB, hf6])
  have H2 := Lib.hid (show rightB t = true by simp [rightB, ht6])
  have d3 : decide ((f.size : Int) = (t.size : Int)) = true := by simp; omega
  have b3 : ((f.size : Int) != (t.size : Int)) = false := by simp; omega
  have b3' : (f.size != t.size) = false := by simp; omega
  have d4 : decide (p < 0) = false := by simp; omega
  have d5 : decide (255 < p) = false := by simp; omega
  have d6 : decide (l < 0) = false := by simp; omega
  have d7 : decide (255 < l) = false := by simp; omega
  have d8 : decide ((f.size : Int) = 16) = true := by simp; omega
  have d9 : decide (f.size = 16) = true := by simp; omega
  have d10 : decide (1460 < (s.size : Int)) = false := by simp; omega
  have d11 : decide (1460 < s.size) = false := by simp; omega
  have HO1 := Lib.hid (show Own ((w.alloc (.cells #[.string f, .string t, .int .i64 p, .int .i64 l, .string s] 24)).alloc (.cells #[.int .u8 96, .int .u8 0, .int .u8 0, .int .u8 0] 5)) (w.heap.size + 1) (w.heap.size + 1) 4 4 [96, 0, 0, 0] from own_lit (w.alloc (.cells #[.string f, .string t, .int .i64 p, .int .i64 l, .string s] 24)) (w.heap.size + 1) (w.heap.size + 1) [96, 0, 0, 0] (by simp) (by simp) (by simp))
  have HB1 := Lib.hid (show Below (w.heap.size + 1) (w.alloc (.cells #[.string f, .string t, .int .i64 p, .int .i64 l, .string s] 24)) ((w.alloc (.cells #[.string f, .string t, .int .i64 p, .int .i64 l, .string s] 24)).alloc (.cells #[.int .u8 96, .int .u8 0, .int .u8 0, .int .u8 0] 5)) from (Below.refl _ _).alloc (by simp) _)
  go_enter Try.func24, Try.ntmps24
  go_wp2_with ((first | (go_at_call_of 43 (Value.string f); refine (rright_at hf H1.out).mono ?_; rintro e w' ⟨rfl, rfl⟩) | (go_at_call_of 43 (Value.string t); refine (rright_at ht H2.out).mono ?_; rintro e w' ⟨rfl, rfl⟩)))
  refine (low_2 (s.size : Int) _ (by omega)).mono ?_
  rintro e w2 ⟨rfl, hp2, hb2⟩
  simp only [World.size_alloc] at hp2
  have HO2 := Lib.hid (HO1.out.below hb2.out)
  have HB2 := Lib.hid (below_then HB1.out (by simp) hb2.out)
  obtain ⟨x20, x21, x22, x23, x24⟩ := (Boxed.new w f t p l s).below HB2.out (Nat.lt_succ_self _)
  have z2 : w.heap.size + 1 ≤ w2.heap.size := by have := HB2.out.size; simpa using this
  have y2 : w.heap.size < w2.heap.size := z2
  obtain ⟨g3, c3, w3, hr3, hg3⟩ := append_part w2 (w.heap.size + 1) (w.heap.size + 1) 4 4 _ (some ⟨w.heap.size + 1 + 1, 0, none⟩) 2 2 [(s.size : Int) / 256 % 256, (s.size : Int) % 256] HO2.out hp2.out (by omega) (by omega) 6 (by omega)
  have HA3 := Lib.hid hr3
  have HB3 := Lib.hid (HB2.out.trans hg3.2.1)
  obtain ⟨x30, x31, x32, x33, x34⟩ := (Boxed.new w f t p l s).below HB3.out (Nat.lt_succ_self _)
  have z3 : w.heap.size + 1 ≤ w3.heap.size := by have := HB3.out.size; simpa using this
  have y3 : w.heap.size < w3.heap.size := z3
  obtain ⟨g4, c4, w4, hr4, hg4'⟩ := append_part (w3.alloc (.cells #[.int .u8 p, .int .u8 l] 5)) (w.heap.size + 1) g3 6 c3 _ (some ⟨w3.heap.size, 0, none⟩) 2 2 [p, l] (hg3.1.alloc _) (part_at (t := 5) (zs := [p, l]) (by intro y hy; simp at hy; omega) rfl) (by simp; omega) (by omega) 8 (by omega)
  have hg4 := hg4'.of_alloc z3
  have HA4 := Lib.hid hr4
  have HB4 := Lib.hid (HB3.out.trans hg4.2.1)
  obtain ⟨x40, x41, x42, x43, x44⟩ := (Boxed.new w f t p l s).below HB4.out (Nat.lt_succ_self _)
  have z4 : w.heap.size + 1 ≤ w4.heap.size := by have := HB4.out.size; simpa using this
  have y4 : w.heap.size < w4.heap.size := z4
  obtain ⟨g5, c5, w5, hr5, hg5⟩ := append_text w4 (w.heap.size + 1) g4 8 c4 _ (f ++ t ++ s) hg4.1 (by omega) (by simp [hf6, ht6]; omega) 9 Try.underlying9 (40 + s.size) (by simp [hf6, ht6]; omega)
  have HA5 := Lib.hid hr5
  have HG5 := Lib.hid hg5
  have HB5 := Lib.hid (HB4.out.trans hg5.2.1)
  clear hr3 hg3 hr4 hg4 hg4' hr5 hg5 hp2 hb2 HO1 HO2
  go_wp2_with (at_builtin; (first | ((with_reducible refine wpList_append_run ?_ (.tmp 56) (.tmp 60) 42 42 ?_ ?_ ?_ 42 ?_ HA3.out ?_); (focus rfl); (focus rfl); (focus rfl); (focus rfl); (focus rfl)) | ((with_reducible refine wpList_append_run ?_ (.tmp 62) (.tmp 69) 42 42 ?_ ?_ ?_ 42 ?_ HA4.out ?_); (focus rfl); (focus rfl); (focus rfl); (focus rfl); (focus rfl)) | ((with_reducible refine wpList_append_run ?_ (.tmp 71) (.tmp 79) 42 9 ?_ ?_ ?_ 42 ?_ HA5.out ?_); (focus rfl); (focus rfl); (focus rfl); (focus rfl); (focus rfl))))
  go_ret2
  refine ⟨_, _, rfl, Lib.hid ?_, Lib.hid (below_box HB5.out)⟩
  have ho := HG5.out.1
  have e : wire6 f t p l s = [96, 0, 0, 0] ++ [(s.size : Int) / 256 % 256, (s.size : Int) % 256] ++ [p, l] ++ bts (f ++ t ++ s) := by
    simp [wire6, bts_append]
  rw [e]
  exact ho.mono (Nat.le_succ _)

end Go.Proofs.Ytomcniakffipfaa
