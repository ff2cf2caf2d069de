/-
  A text as bytes of the call's own, and what ipv.Pseudo does.
-/
import Derived.Test.YtpcdaidgijkkbaaEncode
import Derived.Test.YtpcdaidgijkkbaaLow
namespace Go.Proofs.Ytpcdaidgijkkbaa
open Go.RowKit
set_option maxRecDepth 40000
set_option linter.unusedVariables false

/-- A text is made into bytes. -/
theorem conv_bytes (W : World) (B : Nat) (s : ByteArray) (sT : TypeId) (hsT : Try.prog.underlying sT = some .string) (hB : B ≤ W.heap.size) (hs : s.size ≤ 100000) (N : Nat) (hN : N = W.heap.size) (n : Nat) (hn : s.size = n) :
    ∃ c W', (convert sT 87 (.string s)).run Try.prog W = .ok (.slice (some ⟨N, 0, none⟩) n c) W' ∧ Own W' B N n c (bts s) ∧ Below B W W' ∧ W'.heap.size = W.heap.size + 1 ∧ ∀ k, k < W.heap.size → W'.heap[k]? = W.heap[k]? := by
  subst hN hn
  have hr := Lib.run_convert_string_bytes (P := Try.prog) W sT 87 5 s hsT Try.underlying87 Try.underlying5
  have hge := grownCap_ge W s.size 0 5
  have hcm := grownCap_le_maxLen W s.size 0 5 (by simp only [maxLen]; omega)
  have hsz := Lib.bytesWorld_size W 5 s
  have hnew := Lib.bytesWorld_at_new W 5 s
  have hcs : (Lib.bytesCells W 5 s).size = grownCap W s.size 0 5 := by
    simp [Lib.bytesCells]
    omega
  refine ⟨_, _, hr, ⟨bts_len s, hB, hge, hcm, _, _, hnew, .inr (by rw [hcs]; exact Nat.le_refl _), hcs, ?_⟩, ⟨rfl, rfl, rfl, by omega, fun k hk => Lib.bytesWorld_at_old W 5 s k (by omega)⟩, hsz, fun k hk => Lib.bytesWorld_at_old W 5 s k hk⟩
  have e : (Lib.bytesCells W 5 s).toList = cel (bts s) ++ List.replicate (grownCap W s.size 0 5 - s.size) (.int .u8 0) := by simp [Lib.bytesCells, cel, bts]
  rw [e, show s.size = (cel (bts s)).length by rw [cel_len, bts_len], List.take_left]
theorem Grew.own {w w1 : World} {B C g g1 n1 c1 k n c : Nat} {z1 zs : List Int} (h : Grew w w1 B g g1 n1 c1 z1) (ho : Own w C k n c zs) (hk : k ≠ g) : Own w1 C k n c zs := ho.of_block (h.2.2.2 k ho.lt hk)

/-- What a sum goes over beside a body. -/
def pseu (f t : ByteArray) (p x : Int) : List Int :=
  if f.size = 16 then bts f ++ (bts t ++ [x / 16777216 % 256, x / 65536 % 256, x / 256 % 256, x % 256, 0, 0, 0, p % 256]) else bts f ++ (bts t ++ [0, p % 256, x / 256 % 256, x % 256])
theorem pseu_byt (f t : ByteArray) (p x : Int) : Byt (pseu f t p x) := by
  unfold pseu
  split
  · refine (bts_byt f).append ((bts_byt t).append ?_)
    intro y hy
    simp at hy
    omega
  · refine (bts_byt f).append ((bts_byt t).append ?_)
    intro y hy
    simp at hy
    omega

set_option maxHeartbeats 400000 in
/-- ipv.Pseudo, of no addresses. -/
theorem pseudo_no (f t : ByteArray) (p x : Int) (w : World) (hf : f.size ≤ 140737488351232) (ht : t.size ≤ 140737488351232) (h : alikeB f t = false) :
    Calls Try.prog 66 #[.string f, .string t, .int .i64 p, .int .i64 x] w fun e w' => e = .returned (.slice none 0 0) ∧ Below w.heap.size w w' := by
  have H1 := Lib.hid h
  clear h
  go_enter Try.func66, Try.ntmps66
  go_wp2_with (go_at_call 72; refine (alike_at hf ht H1.out).mono ?_; rintro e w' ⟨rfl, rfl⟩)
  go_ret
  exact ⟨rfl, Below.refl _ _⟩

set_option maxHeartbeats 1000000 in
theorem pseudo_six (f t : ByteArray) (p x : Int) (w : World) (hp : -9223372036854775808 ≤ p ∧ p ≤ 9223372036854775807) (hx : -9223372036854775808 ≤ x ∧ x ≤ 9223372036854775807) (hf : f.size = 16) (ht : t.size = 16) :
    Calls Try.prog 66 #[.string f, .string t, .int .i64 p, .int .i64 x] w fun e w' => ∃ g c, e = .returned (.slice (some ⟨g, 0, none⟩) 40 c) ∧ Hid (Own w' w.heap.size g 40 c (pseu f t p x)) ∧ Hid (Below w.heap.size w w') := by
  have H1 := Lib.hid (show alikeB f t = true by simp [alikeB, rightB, hf, ht])
  have H6 := Lib.hid (show decide (f.size = 16) = true by simp [hf])
  have hf' : f.size ≤ 140737488351232 := by omega
  have ht' : t.size ≤ 140737488351232 := by omega
  obtain ⟨c0, w0, hr0, ho0, hb0, hz0, hk0⟩ := conv_bytes w w.heap.size f 22 Try.underlying22 (Nat.le_refl _) (by omega) w.heap.size rfl 16 hf
  obtain ⟨g1, c1, w1, hr1, hg1⟩ := append_text w0 w.heap.size w.heap.size 16 c0 _ t ho0 (by omega) (by omega) 22 Try.underlying22 32 (by omega)
  have HA1 := Lib.hid hr1
  have HO1 := Lib.hid hg1.1
  have HB1 := Lib.hid (hb0.trans hg1.2.1)
  have z1 : w.heap.size ≤ w1.heap.size := HB1.out.size
  clear ho0 hb0 hk0 hr1 hg1
  go_enter Try.func66, Try.ntmps66
  go_wp2_with (first | (go_at_call 72; refine (alike_at hf' ht' H1.out).mono ?_; rintro e w' ⟨rfl, rfl⟩) | (go_at_call 54; refine (six_at hf' H6.out).mono ?_; rintro e w' ⟨rfl, rfl⟩) | (at_builtin; ((with_reducible refine wpList_append_run ?_ (.tmp 15) (.tmp 16) 87 22 ?_ ?_ ?_ 87 ?_ HA1.out ?_); (focus rfl); (focus rfl); (focus rfl); (focus rfl); (focus rfl))))
  refine (appendTwo_any _ w.heap.size g1 32 c1 _ (x / 65536) HO1.out z1 (by omega) (by omega)).mono ?_
  rintro e w2 ⟨g2, c2, rfl, hg2⟩
  have HB2 := Lib.hid (HB1.out.trans hg2.out.2.1)
  have z2 : w.heap.size ≤ w2.heap.size := HB2.out.size
  go_wp2_with fail
  refine (appendTwo_any _ w.heap.size g2 34 c2 _ x hg2.out.1 z2 (by omega) hx).mono ?_
  rintro e w3 ⟨g3, c3, rfl, hg3⟩
  have HB3 := Lib.hid (HB2.out.trans hg3.out.2.1)
  have z3 : w.heap.size ≤ w3.heap.size := HB3.out.size
  obtain ⟨g4, c4, w4, hr4, hg4'⟩ := append_part (w3.alloc (.cells #[.int .u8 0, .int .u8 0, .int .u8 0, .int .u8 (p % 256)] 5)) w.heap.size g3 36 c3 _ (some ⟨w3.heap.size, 0, none⟩) 4 4 [0, 0, 0, p % 256] (hg3.out.1.alloc _) (part_at (t := 5) (zs := [0, 0, 0, p % 256]) (by intro y hy; simp at hy; omega) rfl) (by simp; omega) (by omega) 40 (by omega)
  have hg4 := Lib.hid (hg4'.of_alloc z3)
  have HA4 := Lib.hid hr4
  clear hg4' hr4
  go_wp2_with (at_builtin; ((with_reducible refine wpList_append_run ?_ (.tmp 27) (.tmp 30) 87 87 ?_ ?_ ?_ 87 ?_ HA4.out ?_); (focus rfl); (focus rfl); (focus rfl); (focus rfl); (focus rfl)))
  go_ret
  refine ⟨_, _, rfl, Lib.hid ?_, Lib.hid (HB3.out.trans hg4.out.2.1)⟩
  have ho := hg4.out.1
  have e : pseu f t p x = bts f ++ bts t ++ [x / 65536 / 256 % 256, x / 65536 % 256] ++ [x / 256 % 256, x % 256] ++ [0, 0, 0, p % 256] := by
    simp [pseu, hf]
    omega
  rw [e]
  exact ho

set_option maxHeartbeats 1000000 in
theorem pseudo_four (f t : ByteArray) (p x : Int) (w : World) (hp : -9223372036854775808 ≤ p ∧ p ≤ 9223372036854775807) (hx : -9223372036854775808 ≤ x ∧ x ≤ 9223372036854775807) (hf : f.size = 4) (ht : t.size = 4) :
    Calls Try.prog 66 #[.string f, .string t, .int .i64 p, .int .i64 x] w fun e w' => ∃ g c, e = .returned (.slice (some ⟨g, 0, none⟩) 12 c) ∧ Hid (Own w' w.heap.size g 12 c (pseu f t p x)) ∧ Hid (Below w.heap.size w w') := by
  have H1 := Lib.hid (show alikeB f t = true by simp [alikeB, rightB, hf, ht])
  have H6 := Lib.hid (show decide (f.size = 16) = false by simp [hf])
  have hf' : f.size ≤ 140737488351232 := by omega
  have ht' : t.size ≤ 140737488351232 := by omega
  obtain ⟨c0, w0, hr0, ho0, hb0, hz0, hk0⟩ := conv_bytes w w.heap.size f 22 Try.underlying22 (Nat.le_refl _) (by omega) w.heap.size rfl 4 hf
  obtain ⟨g1, c1, w1, hr1, hg1⟩ := append_text w0 w.heap.size w.heap.size 4 c0 _ t ho0 (by omega) (by omega) 22 Try.underlying22 8 (by omega)
  have HA1 := Lib.hid hr1
  have HO1 := Lib.hid hg1.1
  have HB1 := Lib.hid (hb0.trans hg1.2.1)
  have z1 : w.heap.size ≤ w1.heap.size := HB1.out.size
  clear ho0 hb0 hk0 hr1 hg1
  obtain ⟨g2, c2, w2, hr2, hg2'⟩ := append_part (w1.alloc (.cells #[.int .u8 0, .int .u8 (p % 256)] 5)) w.heap.size g1 8 c1 _ (some ⟨w1.heap.size, 0, none⟩) 2 2 [0, p % 256] (HO1.out.alloc _) (part_at (t := 5) (zs := [0, p % 256]) (by intro y hy; simp at hy; omega) rfl) (by simp; omega) (by omega) 10 (by omega)
  have hg2 := Lib.hid (hg2'.of_alloc z1)
  have HA2 := Lib.hid hr2
  clear hg2' hr2
  have HB2 := Lib.hid (HB1.out.trans hg2.out.2.1)
  have z2 : w.heap.size ≤ w2.heap.size := HB2.out.size
  go_enter Try.func66, Try.ntmps66
  go_wp2_with (first | (go_at_call 72; refine (alike_at hf' ht' H1.out).mono ?_; rintro e w' ⟨rfl, rfl⟩) | (go_at_call 54; refine (six_at hf' H6.out).mono ?_; rintro e w' ⟨rfl, rfl⟩) | (at_builtin; (first | ((with_reducible refine wpList_append_run ?_ (.tmp 15) (.tmp 16) 87 22 ?_ ?_ ?_ 87 ?_ HA1.out ?_); (focus rfl); (focus rfl); (focus rfl); (focus rfl); (focus rfl)) | ((with_reducible refine wpList_append_run ?_ (.tmp 32) (.tmp 35) 87 87 ?_ ?_ ?_ 87 ?_ HA2.out ?_); (focus rfl); (focus rfl); (focus rfl); (focus rfl); (focus rfl)))))
  refine (appendTwo_any _ w.heap.size g2 10 c2 _ x hg2.out.1 z2 (by omega) hx).mono ?_
  rintro e w3 ⟨g3, c3, rfl, hg3⟩
  go_wp2
  go_ret
  refine ⟨_, _, rfl, Lib.hid ?_, Lib.hid (HB2.out.trans hg3.out.2.1)⟩
  have ho := hg3.out.1
  have e : pseu f t p x = bts f ++ bts t ++ [0, p % 256] ++ [x / 256 % 256, x % 256] := by
    simp [pseu, hf]
  rw [e]
  exact ho

end Go.Proofs.Ytpcdaidgijkkbaa
