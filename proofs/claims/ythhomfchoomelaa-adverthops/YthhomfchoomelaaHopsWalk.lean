/-
  What AdvertHops does.
-/
import Derived.Test.YthhomfchoomelaaAalive
namespace Go.Proofs.Ythhomfchoomelaa
open Go.RowKit
set_option linter.unusedVariables false
set_option maxRecDepth 10000

theorem amiss_hops (f t s : ByteArray) (p l : Int) (h : l ≠ 255 ∨ p ≠ 112) : amiss f t p l s = 65 := by
  have : am1 p l = true := by simpa [am1] using h
  simp [amiss, this]

set_option maxHeartbeats 1000000 in
theorem hops_walk (i p e : Int) (A : Option Addr) (n c : Nat) (ss : List ByteArray) (f : ByteArray) (x : Int) (w : World) (hS : Strs w A n c ss) (hn : n ≤ 140737488351232) (hf : f.size ≤ 140737488351232) (hx : (Lit.int .i64 x).wf = true) :
    Calls Try.prog 8 #[.agg #[.int .i64 i, .int .i64 p, .int .i64 e, .slice A n c], .string f, .int .i64 x] w fun r w' => r = .returned (.bool true) ∧ Below w.heap.size w w' := by
  have hS1 := hS.alloc (.cells #[.int .i64 i, .int .i64 p, .int .i64 e, .slice A n c] 24)
  have B0 := Lib.hid ((Below.refl w.heap.size w).alloc (Nat.le_refl _) (.cells #[.int .i64 i, .int .i64 p, .int .i64 e, .slice A n c] 24))
  have HA := Lib.hid alive_any
  rcases h : okA f i p e ss with _ | _
  · have HE := Lib.hid (encode_no hS1 hf hn h)
    clear hS hS1 h
    go_enter Try.func8, Try.ntmps8
    go_wp2_with fail
    refine HE.out.mono ?_
    rintro r w1 ⟨rfl, hb1⟩
    have B1 := Lib.hid (B0.out.trans (hb1.mono (by simp)))
    have n1 := B1.out.size
    clear hb1
    go_wp2_with fail
    refine (HA.out _).mono ?_
    rintro r w2 ⟨rfl, hb2⟩
    have B2 := Lib.hid ((B1.out.alloc n1 _).trans (hb2.mono (by simp; omega)))
    clear hb2
    go_wp2
    go_ret
    exact ⟨rfl, B2.out⟩
  · have HE := Lib.hid (encode_yes hS1 h)
    have hq := nq_le h
    have hz := bodyS_size h
    have ht := toA_size h
    obtain ⟨s, hs⟩ : ∃ s, bodyS f i p e ss = s := ⟨_, rfl⟩
    obtain ⟨t, htt⟩ : ∃ t, toA f = t := ⟨_, rfl⟩
    rw [hs, htt] at HE
    rw [hs] at hz
    rw [htt] at ht
    have hs1 : s.size ≤ 140737488351232 := by omega
    have ht1 : t.size ≤ 140737488351232 := by omega
    clear hS hS1 h hs htt hz ht hq
    by_cases hx5 : x = 255
    · have c1 : (x == 255) = true := by simpa using hx5
      clear hx5
      go_enter Try.func8, Try.ntmps8
      go_wp2_with fail
      refine HE.out.mono ?_
      rintro r w1 ⟨rfl, hb1⟩
      have B1 := Lib.hid (B0.out.trans (hb1.mono (by simp)))
      have n1 := B1.out.size
      clear hb1
      go_wp2_with fail
      refine (HA.out _).mono ?_
      rintro r w2 ⟨rfl, hb2⟩
      have B2 := Lib.hid ((B1.out.alloc n1 _).trans (hb2.mono (by simp; omega)))
      clear hb2
      go_wp2
      go_ret
      exact ⟨rfl, B2.out⟩
    · have c1 : (x == 255) = false := by simpa using hx5
      have H1 := Lib.hid (fun w => decode_bad f t 112 x s 65 w hf ht1 hs1 (amiss_hops _ _ _ _ _ (.inl hx5)) (by omega))
      have H2 := Lib.hid (fun w => decode_bad f t 17 255 s 65 w hf ht1 hs1 (amiss_hops _ _ _ _ _ (.inr (by omega))) (by omega))
      clear hx5
      go_enter Try.func8, Try.ntmps8
      go_wp2_with fail
      refine HE.out.mono ?_
      rintro r w1 ⟨rfl, hb1⟩
      have B1 := Lib.hid (B0.out.trans (hb1.mono (by simp)))
      have n1 := B1.out.size
      clear hb1
      go_wp2_with fail
      refine (H1.out _).mono ?_
      rintro r w2 ⟨rfl, hb2⟩
      have B2 := Lib.hid (((B1.out.alloc n1 _).alloc (by simp; omega) _).trans (hb2.mono (by simp; omega)))
      obtain ⟨y0, y1, y2, y3, y4⟩ := (Boxed.new _ f t 17 255 s).below hb2 (by simp)
      have n2 := B2.out.size
      simp only [World.size_alloc] at y0 y1 y2 y3 y4
      have m2 : w1.heap.size + 1 < w2.heap.size := World.block_lt_of_cell? _ _ y0
      clear hb2
      go_wp2_with fail
      refine (H2.out _).mono ?_
      rintro r w3 ⟨rfl, hb3⟩
      have B3 := Lib.hid ((B2.out.alloc n2 _).trans (hb3.mono (by simp; omega)))
      have n3 := B3.out.size
      clear hb3 y0 y1 y2 y3 y4
      go_wp2_with fail
      refine (HA.out _).mono ?_
      rintro r w4 ⟨rfl, hb4⟩
      have B4 := Lib.hid ((B3.out.alloc n3 _).trans (hb4.mono (by simp; omega)))
      clear hb4
      go_wp2
      go_ret
      exact ⟨rfl, B4.out⟩

end Go.Proofs.Ythhomfchoomelaa
