/-
  What the reference's Pseudo does.
-/
import Derived.Test.YtpcdaidgijkkbaaPseudo
namespace Go.Proofs.Ytpcdaidgijkkbaa
open Go.RowKit
set_option maxRecDepth 40000
set_option linter.unusedVariables false

theorem bts_append (f t : ByteArray) : bts (f ++ t) = bts f ++ bts t := by simp [bts]
section
variable (n : Int) (w : World) (hn : -9223372036854775808 ≤ n ∧ n ≤ 9223372036854775807)
theorem low_1 (hn : -9223372036854775808 ≤ n ∧ n ≤ 9223372036854775807) : Calls Try.prog 75 #[.int .i64 n, .int .i64 1] w fun e w' => e = .returned (.slice (some ⟨w.heap.size, 0, none⟩) 1 1) ∧ Hid (Part w' ⟨some ⟨w.heap.size, 0, none⟩, 1, 1, [n % 256]⟩) ∧ Hid (Below w.heap.size w w') :=
  (low_any n 1 w (by omega) hn).mono fun e w' ⟨h1, h2, h3⟩ => ⟨h1, Lib.hid (h2.out.part (by intro y hy; simp [lowT] at hy; omega)), h3⟩
theorem low_2 (hn : -9223372036854775808 ≤ n ∧ n ≤ 9223372036854775807) : Calls Try.prog 75 #[.int .i64 n, .int .i64 2] w fun e w' => e = .returned (.slice (some ⟨w.heap.size, 0, none⟩) 2 2) ∧ Hid (Part w' ⟨some ⟨w.heap.size, 0, none⟩, 2, 2, [n / 256 % 256, n % 256]⟩) ∧ Hid (Below w.heap.size w w') :=
  (low_any n 2 w (by omega) hn).mono fun e w' ⟨h1, h2, h3⟩ => ⟨h1, Lib.hid (h2.out.part (by intro y hy; simp [lowT] at hy; omega)), h3⟩
theorem low_4 (hn : -9223372036854775808 ≤ n ∧ n ≤ 9223372036854775807) : Calls Try.prog 75 #[.int .i64 n, .int .i64 4] w fun e w' => e = .returned (.slice (some ⟨w.heap.size, 0, none⟩) 4 4) ∧ Hid (Part w' ⟨some ⟨w.heap.size, 0, none⟩, 4, 4, [n / 256 / 256 / 256 % 256, n / 256 / 256 % 256, n / 256 % 256, n % 256]⟩) ∧ Hid (Below w.heap.size w w') :=
  (low_any n 4 w (by omega) hn).mono fun e w' ⟨h1, h2, h3⟩ => ⟨h1, Lib.hid (h2.out.part (by intro y hy; simp [lowT] at hy; omega)), h3⟩
end
theorem rright_at {s : ByteArray} {r : Bool} {w : World} (hs : s.size ≤ 140737488351232) (h : rightB s = r) : Calls Try.prog 58 #[.string s] w fun e w' => e = .returned (.bool r) ∧ w = w' := by subst h; exact rright_any s w hs

set_option maxHeartbeats 400000 in
theorem rpseudo_no1 (f t : ByteArray) (p x : Int) (w : World) (hf : f.size ≤ 140737488351232) (ht : t.size ≤ 140737488351232) (h : rightB f = false) :
    Calls Try.prog 68 #[.string f, .string t, .int .i64 p, .int .i64 x] w fun e w' => e = .returned (.slice none 0 0) ∧ Below w.heap.size w w' := by
  have H1 := Lib.hid h
  clear h
  go_enter Try.func68, Try.ntmps68
  go_wp2_with (go_at_call 58; refine (rright_at hf H1.out).mono ?_; rintro e w' ⟨rfl, rfl⟩)
  go_ret
  exact ⟨rfl, Below.refl _ _⟩
set_option maxHeartbeats 400000 in
theorem rpseudo_no2 (f t : ByteArray) (p x : Int) (w : World) (hf : f.size ≤ 140737488351232) (ht : t.size ≤ 140737488351232) (h : rightB f = true) (h2 : f.size ≠ t.size) :
    Calls Try.prog 68 #[.string f, .string t, .int .i64 p, .int .i64 x] w fun e w' => e = .returned (.slice none 0 0) ∧ Below w.heap.size w w' := by
  have H1 := Lib.hid h
  have d1 : decide ((f.size : Int) = (t.size : Int)) = false := by simp; omega
  have d2 : decide (f.size = t.size) = false := by simpa using h2
  have b2 : ((f.size : Int) != (t.size : Int)) = true := by simp; omega
  clear h
  go_enter Try.func68, Try.ntmps68
  go_wp2_with (go_at_call 58; refine (rright_at hf H1.out).mono ?_; rintro e w' ⟨rfl, rfl⟩)
  go_ret
  exact ⟨rfl, Below.refl _ _⟩

set_option maxHeartbeats 1000000 in
theorem rpseudo_four (f t : ByteArray) (p x : Int) (w : World) (hp : -9223372036854775808 ≤ p ∧ p ≤ 9223372036854775807) (hx : -9223372036854775808 ≤ x ∧ x ≤ 9223372036854775807) (hf : f.size = 4) (ht : t.size = 4) :
    Calls Try.prog 68 #[.string f, .string t, .int .i64 p, .int .i64 x] w fun e w' => ∃ g c, e = .returned (.slice (some ⟨g, 0, none⟩) 12 c) ∧ Hid (Own w' w.heap.size g 12 c (pseu f t p x)) ∧ Hid (Below w.heap.size w w') := by
  have H1 := Lib.hid (show rightB f = true by simp [rightB, hf])
  have hf' : f.size ≤ 140737488351232 := by omega
  obtain ⟨c0, w0, hr0, ho0, hb0, hz0, hk0⟩ := conv_bytes w w.heap.size (f ++ t) 9 Try.underlying9 (Nat.le_refl _) (by simp [hf, ht]) w.heap.size rfl 8 (by simp [hf, ht])
  have HO0 := Lib.hid ho0
  have HB0 := Lib.hid hb0
  have z0 : w.heap.size ≤ w0.heap.size := by omega
  clear ho0 hb0 hk0 hz0
  obtain ⟨g1, c1, w1, hr1, hg1'⟩ := append_part (w0.alloc (.cells #[.int .u8 0] 5)) w.heap.size w.heap.size 8 c0 _ (some ⟨w0.heap.size, 0, none⟩) 1 1 [0] (HO0.out.alloc _) (part_at (t := 5) (zs := [0]) (by intro y hy; simp at hy; omega) rfl) (by simp; omega) (by omega) 9 (by omega)
  have hg1 := Lib.hid (hg1'.of_alloc z0)
  have HA1 := Lib.hid hr1
  clear hg1' hr1
  have HB1 := Lib.hid (HB0.out.trans hg1.out.2.1)
  have z1 : w.heap.size ≤ w1.heap.size := HB1.out.size
  go_enter Try.func68, Try.ntmps68
  go_wp2_with (first | (go_at_call 58; refine (rright_at hf' H1.out).mono ?_; rintro e w' ⟨rfl, rfl⟩) | (at_builtin; ((with_reducible refine wpList_append_run ?_ (.tmp 27) (.tmp 28) 87 87 ?_ ?_ ?_ 87 ?_ HA1.out ?_); (focus rfl); (focus rfl); (focus rfl); (focus rfl); (focus rfl))))
  refine (low_1 p w1 hp).mono ?_
  rintro e w2 ⟨rfl, hp2, hb2⟩
  have z2 := hb2.out.size
  obtain ⟨g3, c3, w3, hr3, hg3'⟩ := append_part w2 w.heap.size g1 9 c1 _ (some ⟨w1.heap.size, 0, none⟩) 1 1 [p % 256] (hg1.out.1.below hb2.out) hp2.out (by omega) (by omega) 10 (by omega)
  have hg3 := Lib.hid hg3'
  have HA3 := Lib.hid hr3
  have HB3 := Lib.hid ((below_then HB1.out z1 hb2.out).trans hg3.out.2.1)
  have z3 : w.heap.size ≤ w3.heap.size := HB3.out.size
  clear hg3' hr3 hp2 hb2
  go_wp2_with (at_builtin; ((with_reducible refine wpList_append_run ?_ (.tmp 30) (.tmp 32) 87 87 ?_ ?_ ?_ 87 ?_ HA3.out ?_); (focus rfl); (focus rfl); (focus rfl); (focus rfl); (focus rfl)))
  refine (low_2 x w3 hx).mono ?_
  rintro e w4 ⟨rfl, hp4, hb4⟩
  have z4 := hb4.out.size
  obtain ⟨g5, c5, w5, hr5, hg5'⟩ := append_part w4 w.heap.size g3 10 c3 _ (some ⟨w3.heap.size, 0, none⟩) 2 2 [x / 256 % 256, x % 256] (hg3.out.1.below hb4.out) hp4.out (by omega) (by omega) 12 (by omega)
  have hg5 := Lib.hid hg5'
  have HA5 := Lib.hid hr5
  have HB5 := Lib.hid ((below_then HB3.out z3 hb4.out).trans hg5.out.2.1)
  clear hg5' hr5 hp4 hb4
  go_wp2_with (at_builtin; ((with_reducible refine wpList_append_run ?_ (.tmp 34) (.tmp 36) 87 87 ?_ ?_ ?_ 87 ?_ HA5.out ?_); (focus rfl); (focus rfl); (focus rfl); (focus rfl); (focus rfl)))
  go_ret
  refine ⟨_, _, rfl, Lib.hid ?_, HB5⟩
  have ho := hg5.out.1
  have e : pseu f t p x = bts (f ++ t) ++ [0] ++ [p % 256] ++ [x / 256 % 256, x % 256] := by
    simp [pseu, hf, bts_append]
  rw [e]
  exact ho

set_option maxHeartbeats 1000000 in
theorem rpseudo_six (f t : ByteArray) (p x : Int) (w : World) (hp : -9223372036854775808 ≤ p ∧ p ≤ 9223372036854775807) (hx : -9223372036854775808 ≤ x ∧ x ≤ 9223372036854775807) (hf : f.size = 16) (ht : t.size = 16) :
    Calls Try.prog 68 #[.string f, .string t, .int .i64 p, .int .i64 x] w fun e w' => ∃ g c, e = .returned (.slice (some ⟨g, 0, none⟩) 40 c) ∧ Hid (Own w' w.heap.size g 40 c (pseu f t p x)) ∧ Hid (Below w.heap.size w w') := by
  have H1 := Lib.hid (show rightB f = true by simp [rightB, hf])
  have hf' : f.size ≤ 140737488351232 := by omega
  obtain ⟨c0, w0, hr0, ho0, hb0, hz0, hk0⟩ := conv_bytes w w.heap.size (f ++ t) 9 Try.underlying9 (Nat.le_refl _) (by simp [hf, ht]) w.heap.size rfl 32 (by simp [hf, ht])
  have HO0 := Lib.hid ho0
  have HB0 := Lib.hid hb0
  have z0 : w.heap.size ≤ w0.heap.size := by omega
  clear ho0 hb0 hk0 hz0
  go_enter Try.func68, Try.ntmps68
  go_wp2_with (first | (go_at_call 58; refine (rright_at hf' H1.out).mono ?_; rintro e w' ⟨rfl, rfl⟩) | (at_builtin; fail))
  refine (low_4 x w0 hx).mono ?_
  rintro e w1 ⟨rfl, hp1, hb1⟩
  have z1 := hb1.out.size
  obtain ⟨g2, c2, w2, hr2, hg2'⟩ := append_part w1 w.heap.size w.heap.size 32 c0 _ (some ⟨w0.heap.size, 0, none⟩) 4 4 [x / 256 / 256 / 256 % 256, x / 256 / 256 % 256, x / 256 % 256, x % 256] (HO0.out.below hb1.out) hp1.out (by omega) (by omega) 36 (by omega)
  have hg2 := Lib.hid hg2'
  have HA2 := Lib.hid hr2
  have HB2 := Lib.hid ((below_then HB0.out z0 hb1.out).trans hg2.out.2.1)
  have z2 : w.heap.size ≤ w2.heap.size := HB2.out.size
  obtain ⟨g3, c3, w3, hr3, hg3'⟩ := append_part (w2.alloc (.cells #[.int .u8 0, .int .u8 0, .int .u8 0] 5)) w.heap.size g2 36 c2 _ (some ⟨w2.heap.size, 0, none⟩) 3 3 [0, 0, 0] (hg2.out.1.alloc _) (part_at (t := 5) (zs := [0, 0, 0]) (by intro y hy; simp at hy; omega) rfl) (by simp; omega) (by omega) 39 (by omega)
  have hg3 := Lib.hid (hg3'.of_alloc z2)
  have HA3 := Lib.hid hr3
  have HB3 := Lib.hid (HB2.out.trans hg3.out.2.1)
  have z3 : w.heap.size ≤ w3.heap.size := HB3.out.size
  clear hg2' hr2 hp1 hb1 hg3' hr3
  go_wp2_with (at_builtin; (first | ((with_reducible refine wpList_append_run ?_ (.tmp 38) (.tmp 40) 87 87 ?_ ?_ ?_ 87 ?_ HA2.out ?_); (focus rfl); (focus rfl); (focus rfl); (focus rfl); (focus rfl)) | ((with_reducible refine wpList_append_run ?_ (.tmp 42) (.tmp 43) 87 87 ?_ ?_ ?_ 87 ?_ HA3.out ?_); (focus rfl); (focus rfl); (focus rfl); (focus rfl); (focus rfl))))
  refine (low_1 p w3 hp).mono ?_
  rintro e w4 ⟨rfl, hp4, hb4⟩
  have z4 := hb4.out.size
  obtain ⟨g5, c5, w5, hr5, hg5'⟩ := append_part w4 w.heap.size g3 39 c3 _ (some ⟨w3.heap.size, 0, none⟩) 1 1 [p % 256] (hg3.out.1.below hb4.out) hp4.out (by omega) (by omega) 40 (by omega)
  have hg5 := Lib.hid hg5'
  have HA5 := Lib.hid hr5
  have HB5 := Lib.hid ((below_then HB3.out z3 hb4.out).trans hg5.out.2.1)
  clear hg5' hr5 hp4 hb4
  go_wp2_with (at_builtin; ((with_reducible refine wpList_append_run ?_ (.tmp 45) (.tmp 47) 87 87 ?_ ?_ ?_ 87 ?_ HA5.out ?_); (focus rfl); (focus rfl); (focus rfl); (focus rfl); (focus rfl)))
  go_ret
  refine ⟨_, _, rfl, Lib.hid ?_, HB5⟩
  have ho := hg5.out.1
  have e : pseu f t p x = bts (f ++ t) ++ [x / 256 / 256 / 256 % 256, x / 256 / 256 % 256, x / 256 % 256, x % 256] ++ [0, 0, 0] ++ [p % 256] := by
    simp [pseu, hf, bts_append]
    omega
  rw [e]
  exact ho

end Go.Proofs.Ytpcdaidgijkkbaa
