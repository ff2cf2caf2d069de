/-
  What advert.checks and advert.firstAmiss do.
-/
import Derived.Test.YthhomfchoomelaaAclo6
import Derived.Laws.EntriesVeiled
namespace Go.Proofs.Ythhomfchoomelaa
open Go.RowKit
set_option linter.unusedVariables false
set_option maxRecDepth 10000

/-- The checks of a packet, as they lie in memory. -/
def chkCells (bp bb : Nat) : Array Value := #[.int .i64 65, .func (.func 44) #[] #[.pointer (some ⟨bp, 0, none⟩)], .int .i64 60, .func (.func 45) #[] #[.pointer (some ⟨bp, 0, none⟩), .pointer (some ⟨bb, 0, none⟩)], .int .i64 61, .func (.func 46) #[] #[.pointer (some ⟨bb, 0, none⟩)], .int .i64 62, .func (.func 47) #[] #[.pointer (some ⟨bb, 0, none⟩)], .int .i64 63, .func (.func 48) #[] #[.pointer (some ⟨bb, 0, none⟩), .pointer (some ⟨bp, 0, none⟩)], .int .i64 64, .func (.func 49) #[] #[.pointer (some ⟨bp, 0, none⟩), .pointer (some ⟨bb, 0, none⟩)], .int .i64 66, .func (.func 51) #[] #[.pointer (some ⟨bb, 0, none⟩)]]
def Chk (W : World) (g bp bb : Nat) : Prop := ∀ (j : Nat) v, (chkCells bp bb)[j]? = some v → W.cell? ⟨g, j, none⟩ = some v
theorem Chk.below {W W' : World} {g bp bb B : Nat} (h : Chk W g bp bb) (hb : Below B W W') (hg : g < B) : Chk W' g bp bb := fun j v hj => (hb.cell (p := ⟨g, j, none⟩) hg).trans (h j v hj)

set_option maxHeartbeats 1000000 in
/-- advert.checks. -/
theorem checks_any (f t : ByteArray) (p l : Int) (s : ByteArray) (w : World) :
    Calls Try.prog 36 #[.agg #[.string f, .string t, .int .i64 p, .int .i64 l, .string s]] w fun e w' => ∃ g bp bb, e = .returned (.slice (some ⟨g, 0, none⟩) 7 7) ∧ Hid (Boxed w' bp f t p l s) ∧ Hid (BoxS w' bb s) ∧ Hid (Chk w' g bp bb) ∧ Hid (Below w.heap.size w w') := by
  have hmf : ∀ (fn : Fn) (first cap : Array Value) (w : World), (Instr.makeFunc fn first cap).run Try.prog w = .ok (.func fn first cap) w := fun _ _ _ _ => rfl
  go_enter Try.func36, Try.ntmps36
  go_wp2
  go_ret
  refine ⟨w.heap.size + 1 + 1, w.heap.size, w.heap.size + 1, rfl, Lib.hid (by simp [Boxed, go_sem]), Lib.hid (by simp [BoxS, go_sem]), Lib.hid ?_, Lib.hid ((((Below.refl _ _).alloc (Nat.le_refl _) _).alloc (by simp) _).alloc (by simp; omega) _)⟩
  intro j v hj
  rw [World.cell?_alloc_at _ _ _ _ (by simp)]
  exact hj

/-- What has been found not to be amiss ahead of check k. -/
def UpTo (f t : ByteArray) (p l : Int) (s : ByteArray) (k : Nat) : Prop := (0 < k → am1 p l = false) ∧ (1 < k → am2 f t s = false) ∧ (2 < k → am3 s = false) ∧ (3 < k → am4 s = false) ∧ (4 < k → am5 f s = false) ∧ (5 < k → am6 f t s = false) ∧ (6 < k → am7 s = false)
def FRel (f t : ByteArray) (p l : Int) (s : ByteArray) (B : Nat) (W : World) (gg : Nat) (i : Value) (wr : World) : Prop :=
  ∃ k : Nat, k + gg = 7 ∧ i = .int .i64 (k : Int) ∧ UpTo f t p l s k ∧ Below B W wr

set_option maxHeartbeats 400000 in
theorem chk0 {f t : ByteArray} {p l : Int} {s : ByteArray} {W : World} {bp bb : Nat} {r : Bool} (hB : Boxed W bp f t p l s) (hS : BoxS W bb s) (hf : f.size ≤ 140737488351232) (ht : t.size ≤ 140737488351232) (hs : s.size ≤ 140737488351232) (hup : UpTo f t p l s 0) (hr : am1 p l = r) :
    Calls Try.prog 44 #[.pointer (some ⟨bp, 0, none⟩)] W fun e w' => e = .returned (.bool r) ∧ Hid (Below W.heap.size W w') := by
  exact clo1_at hB hr

set_option maxHeartbeats 400000 in
theorem chk1 {f t : ByteArray} {p l : Int} {s : ByteArray} {W : World} {bp bb : Nat} {r : Bool} (hB : Boxed W bp f t p l s) (hS : BoxS W bb s) (hf : f.size ≤ 140737488351232) (ht : t.size ≤ 140737488351232) (hs : s.size ≤ 140737488351232) (hup : UpTo f t p l s 1) (hr : am2 f t s = r) :
    Calls Try.prog 45 #[.pointer (some ⟨bp, 0, none⟩), .pointer (some ⟨bb, 0, none⟩)] W fun e w' => e = .returned (.bool r) ∧ Hid (Below W.heap.size W w') := by
  exact clo2_at hB hS hf ht hs hr

set_option maxHeartbeats 400000 in
theorem chk2 {f t : ByteArray} {p l : Int} {s : ByteArray} {W : World} {bp bb : Nat} {r : Bool} (hB : Boxed W bp f t p l s) (hS : BoxS W bb s) (hf : f.size ≤ 140737488351232) (ht : t.size ≤ 140737488351232) (hs : s.size ≤ 140737488351232) (hup : UpTo f t p l s 2) (hr : am3 s = r) :
    Calls Try.prog 46 #[.pointer (some ⟨bb, 0, none⟩)] W fun e w' => e = .returned (.bool r) ∧ Hid (Below W.heap.size W w') := by
  have h2 := hup.2.1 (by omega)
  have h2' : alikeB f t = true ∧ 8 ≤ s.size := by simpa [am2] using h2
  have h16 : f.size = 4 ∨ f.size = 16 := by have := h2'.1; simp [alikeB, rightB] at this; omega
  exact clo3_at hS (by omega) hr

set_option maxHeartbeats 400000 in
theorem chk3 {f t : ByteArray} {p l : Int} {s : ByteArray} {W : World} {bp bb : Nat} {r : Bool} (hB : Boxed W bp f t p l s) (hS : BoxS W bb s) (hf : f.size ≤ 140737488351232) (ht : t.size ≤ 140737488351232) (hs : s.size ≤ 140737488351232) (hup : UpTo f t p l s 3) (hr : am4 s = r) :
    Calls Try.prog 47 #[.pointer (some ⟨bb, 0, none⟩)] W fun e w' => e = .returned (.bool r) ∧ Hid (Below W.heap.size W w') := by
  have h2 := hup.2.1 (by omega)
  have h2' : alikeB f t = true ∧ 8 ≤ s.size := by simpa [am2] using h2
  have h16 : f.size = 4 ∨ f.size = 16 := by have := h2'.1; simp [alikeB, rightB] at this; omega
  exact clo4_at hS (by omega) hr

set_option maxHeartbeats 400000 in
theorem chk4 {f t : ByteArray} {p l : Int} {s : ByteArray} {W : World} {bp bb : Nat} {r : Bool} (hB : Boxed W bp f t p l s) (hS : BoxS W bb s) (hf : f.size ≤ 140737488351232) (ht : t.size ≤ 140737488351232) (hs : s.size ≤ 140737488351232) (hup : UpTo f t p l s 4) (hr : am5 f s = r) :
    Calls Try.prog 48 #[.pointer (some ⟨bb, 0, none⟩), .pointer (some ⟨bp, 0, none⟩)] W fun e w' => e = .returned (.bool r) ∧ Hid (Below W.heap.size W w') := by
  have h2 := hup.2.1 (by omega)
  have h2' : alikeB f t = true ∧ 8 ≤ s.size := by simpa [am2] using h2
  have h16 : f.size = 4 ∨ f.size = 16 := by have := h2'.1; simp [alikeB, rightB] at this; omega
  exact clo5_at hB hS (by omega) hs (by omega) hr

set_option maxHeartbeats 400000 in
theorem chk5 {f t : ByteArray} {p l : Int} {s : ByteArray} {W : World} {bp bb : Nat} {r : Bool} (hB : Boxed W bp f t p l s) (hS : BoxS W bb s) (hf : f.size ≤ 140737488351232) (ht : t.size ≤ 140737488351232) (hs : s.size ≤ 140737488351232) (hup : UpTo f t p l s 5) (hr : am6 f t s = r) :
    Calls Try.prog 49 #[.pointer (some ⟨bp, 0, none⟩), .pointer (some ⟨bb, 0, none⟩)] W fun e w' => e = .returned (.bool r) ∧ Hid (Below W.heap.size W w') := by
  have h2 := hup.2.1 (by omega)
  have h2' : alikeB f t = true ∧ 8 ≤ s.size := by simpa [am2] using h2
  have h16 : f.size = 4 ∨ f.size = 16 := by have := h2'.1; simp [alikeB, rightB] at this; omega
  have h5 := hup.2.2.2.2.1 (by omega)
  have hsz : s.size ≤ 136 := by
    simp [am5] at h5
    have h1 : byteAt (bts s) 3 * (f.size : Int) ≤ 8 * (f.size : Int) := Int.mul_le_mul_of_nonneg_right h5.1.2 (by omega)
    omega
  exact clo6_at hB hS hf ht (by omega) hr

set_option maxHeartbeats 400000 in
theorem chk6 {f t : ByteArray} {p l : Int} {s : ByteArray} {W : World} {bp bb : Nat} {r : Bool} (hB : Boxed W bp f t p l s) (hS : BoxS W bb s) (hf : f.size ≤ 140737488351232) (ht : t.size ≤ 140737488351232) (hs : s.size ≤ 140737488351232) (hup : UpTo f t p l s 6) (hr : am7 s = r) :
    Calls Try.prog 51 #[.pointer (some ⟨bb, 0, none⟩)] W fun e w' => e = .returned (.bool r) ∧ Hid (Below W.heap.size W w') := by
  have h2 := hup.2.1 (by omega)
  have h2' : alikeB f t = true ∧ 8 ≤ s.size := by simpa [am2] using h2
  have h16 : f.size = 4 ∨ f.size = 16 := by have := h2'.1; simp [alikeB, rightB] at this; omega
  have h5 := hup.2.2.2.2.1 (by omega)
  have hsz : s.size ≤ 136 := by
    simp [am5] at h5
    have h1 : byteAt (bts s) 3 * (f.size : Int) ≤ 8 * (f.size : Int) := Int.mul_le_mul_of_nonneg_right h5.1.2 (by omega)
    omega
  exact clo7_at hS (by omega) hr

set_option maxHeartbeats 4000000 in
/-- advert.firstAmiss. -/
theorem first_any (f t : ByteArray) (p l : Int) (s : ByteArray) (w : World) (hf : f.size ≤ 140737488351232) (ht : t.size ≤ 140737488351232) (hs : s.size ≤ 140737488351232) :
    Calls Try.prog 28 #[.agg #[.string f, .string t, .int .i64 p, .int .i64 l, .string s]] w fun e w' => e = .returned (.int .i64 (amiss f t p l s)) ∧ Hid (Below w.heap.size w w') := by
  go_enter Try.func28, Try.ntmps28
  go_wp2_with fail
  refine (checks_any f t p l s _).mono ?_
  rintro e w1 ⟨g, bp, bb, rfl, hB, hS, hC, hb1⟩
  have HB1 := Lib.hid (((Below.refl _ w).alloc (Nat.le_refl _) _).trans (hb1.out.mono (by simp)))
  have z1 : w.heap.size ≤ w1.heap.size := HB1.out.size
  clear hb1
  have nC : g < w1.heap.size := World.block_lt_of_cell? _ _ (hC.out 0 _ rfl)
  have nB : bp < w1.heap.size := World.block_lt_of_cell? _ _ hB.out.1
  have nS : bb < w1.heap.size := World.block_lt_of_cell? _ _ hS.out
  go_wp2
  go_loopg [8] 7 (fun gg i wr => FRel f t p l s w1.heap.size w1 gg i wr)
  case atStart => exact ⟨0, rfl, rfl, by simp [UpTo], Below.refl _ _⟩
  case round =>
    obtain ⟨k, hk, rfl, hup, hb⟩ := hrel
    have HB := Lib.hid hb
    have HU := Lib.hid hup
    have zr : w1.heap.size ≤ wr.heap.size := hb.size
    clear hup hb
    obtain rfl | rfl | rfl | rfl | rfl | rfl | rfl | rfl : k = 0 ∨ k = 1 ∨ k = 2 ∨ k = 3 ∨ k = 4 ∨ k = 5 ∨ k = 6 ∨ k = 7 := by omega
    · have c0 : wr.cell? ⟨g, 0, none⟩ = some (.int .i64 65) := hC.out.below HB.out nC 0 _ rfl
      have c1 : wr.cell? ⟨g, 1, none⟩ = some (.func (.func 44) #[] #[.pointer (some ⟨bp, 0, none⟩)]) := hC.out.below HB.out nC 1 _ rfl
      rcases hr : am1 p l with _ | _
      · have HR := Lib.hid hr
        clear hr
        go_wp2_with fail
        refine (chk0 (f := f) (t := t) (p := p) (l := l) (s := s) (r := false) ((hB.out.below HB.out nB).below (((Below.refl _ _).alloc (Nat.le_refl _) _)) (by omega)) ((((Below.refl _ _).alloc (Nat.le_refl _) _).cell (p := ⟨bb, 0, none⟩) (show bb < wr.heap.size by omega)).trans ((HB.out.cell (p := ⟨bb, 0, none⟩) nS).trans hS.out)) hf ht hs HU.out HR.out).mono ?_
        rintro e w2 ⟨rfl, hb2⟩
        have HB2 := Lib.hid ((HB.out.alloc zr _).trans (hb2.out.mono (by simp; omega)))
        clear hb2 c0 c1
        go_wp2
        go_roundg 6
        case measure => omega
        case rel => exact ⟨1, rfl, rfl, by have h := HU.out; have h2 := HR.out; simp [UpTo, h2] at h ⊢; try (simp [h]), HB2.out⟩
      · have HR := Lib.hid hr
        clear hr
        go_wp2_with fail
        refine (chk0 (f := f) (t := t) (p := p) (l := l) (s := s) (r := true) ((hB.out.below HB.out nB).below (((Below.refl _ _).alloc (Nat.le_refl _) _)) (by omega)) ((((Below.refl _ _).alloc (Nat.le_refl _) _).cell (p := ⟨bb, 0, none⟩) (show bb < wr.heap.size by omega)).trans ((HB.out.cell (p := ⟨bb, 0, none⟩) nS).trans hS.out)) hf ht hs HU.out HR.out).mono ?_
        rintro e w2 ⟨rfl, hb2⟩
        have HB2 := Lib.hid ((HB.out.alloc zr _).trans (hb2.out.mono (by simp; omega)))
        have d0 : w2.cell? ⟨wr.heap.size, 0, none⟩ = some (.int .i64 65) := by rw [hb2.out.cell (p := ⟨wr.heap.size, 0, none⟩) (by simp)]; simp [go_sem]
        clear hb2 c0 c1
        go_wp2
        go_ret
        refine ⟨ret_int ?_, Lib.hid (HB1.out.trans (HB2.out.mono z1))⟩
        simp [amiss, HR.out]
    · have c0 : wr.cell? ⟨g, 2, none⟩ = some (.int .i64 60) := hC.out.below HB.out nC 2 _ rfl
      have c1 : wr.cell? ⟨g, 3, none⟩ = some (.func (.func 45) #[] #[.pointer (some ⟨bp, 0, none⟩), .pointer (some ⟨bb, 0, none⟩)]) := hC.out.below HB.out nC 3 _ rfl
      rcases hr : am2 f t s with _ | _
      · have HR := Lib.hid hr
        clear hr
        go_wp2_with fail
        refine (chk1 (f := f) (t := t) (p := p) (l := l) (s := s) (r := false) ((hB.out.below HB.out nB).below (((Below.refl _ _).alloc (Nat.le_refl _) _)) (by omega)) ((((Below.refl _ _).alloc (Nat.le_refl _) _).cell (p := ⟨bb, 0, none⟩) (show bb < wr.heap.size by omega)).trans ((HB.out.cell (p := ⟨bb, 0, none⟩) nS).trans hS.out)) hf ht hs HU.out HR.out).mono ?_
        rintro e w2 ⟨rfl, hb2⟩
        have HB2 := Lib.hid ((HB.out.alloc zr _).trans (hb2.out.mono (by simp; omega)))
        clear hb2 c0 c1
        go_wp2
        go_roundg 5
        case measure => omega
        case rel => exact ⟨2, rfl, rfl, by have h := HU.out; have h2 := HR.out; simp [UpTo, h2] at h ⊢; try (simp [h]), HB2.out⟩
      · have HR := Lib.hid hr
        clear hr
        go_wp2_with fail
        refine (chk1 (f := f) (t := t) (p := p) (l := l) (s := s) (r := true) ((hB.out.below HB.out nB).below (((Below.refl _ _).alloc (Nat.le_refl _) _)) (by omega)) ((((Below.refl _ _).alloc (Nat.le_refl _) _).cell (p := ⟨bb, 0, none⟩) (show bb < wr.heap.size by omega)).trans ((HB.out.cell (p := ⟨bb, 0, none⟩) nS).trans hS.out)) hf ht hs HU.out HR.out).mono ?_
        rintro e w2 ⟨rfl, hb2⟩
        have HB2 := Lib.hid ((HB.out.alloc zr _).trans (hb2.out.mono (by simp; omega)))
        have d0 : w2.cell? ⟨wr.heap.size, 0, none⟩ = some (.int .i64 60) := by rw [hb2.out.cell (p := ⟨wr.heap.size, 0, none⟩) (by simp)]; simp [go_sem]
        clear hb2 c0 c1
        go_wp2
        go_ret
        refine ⟨ret_int ?_, Lib.hid (HB1.out.trans (HB2.out.mono z1))⟩
        simp [amiss, HR.out, HU.out.1 (by omega)]
    · have c0 : wr.cell? ⟨g, 4, none⟩ = some (.int .i64 61) := hC.out.below HB.out nC 4 _ rfl
      have c1 : wr.cell? ⟨g, 5, none⟩ = some (.func (.func 46) #[] #[.pointer (some ⟨bb, 0, none⟩)]) := hC.out.below HB.out nC 5 _ rfl
      rcases hr : am3 s with _ | _
      · have HR := Lib.hid hr
        clear hr
        go_wp2_with fail
        refine (chk2 (f := f) (t := t) (p := p) (l := l) (s := s) (r := false) ((hB.out.below HB.out nB).below (((Below.refl _ _).alloc (Nat.le_refl _) _)) (by omega)) ((((Below.refl _ _).alloc (Nat.le_refl _) _).cell (p := ⟨bb, 0, none⟩) (show bb < wr.heap.size by omega)).trans ((HB.out.cell (p := ⟨bb, 0, none⟩) nS).trans hS.out)) hf ht hs HU.out HR.out).mono ?_
        rintro e w2 ⟨rfl, hb2⟩
        have HB2 := Lib.hid ((HB.out.alloc zr _).trans (hb2.out.mono (by simp; omega)))
        clear hb2 c0 c1
        go_wp2
        go_roundg 4
        case measure => omega
        case rel => exact ⟨3, rfl, rfl, by have h := HU.out; have h2 := HR.out; simp [UpTo, h2] at h ⊢; try (simp [h]), HB2.out⟩
      · have HR := Lib.hid hr
        clear hr
        go_wp2_with fail
        refine (chk2 (f := f) (t := t) (p := p) (l := l) (s := s) (r := true) ((hB.out.below HB.out nB).below (((Below.refl _ _).alloc (Nat.le_refl _) _)) (by omega)) ((((Below.refl _ _).alloc (Nat.le_refl _) _).cell (p := ⟨bb, 0, none⟩) (show bb < wr.heap.size by omega)).trans ((HB.out.cell (p := ⟨bb, 0, none⟩) nS).trans hS.out)) hf ht hs HU.out HR.out).mono ?_
        rintro e w2 ⟨rfl, hb2⟩
        have HB2 := Lib.hid ((HB.out.alloc zr _).trans (hb2.out.mono (by simp; omega)))
        have d0 : w2.cell? ⟨wr.heap.size, 0, none⟩ = some (.int .i64 61) := by rw [hb2.out.cell (p := ⟨wr.heap.size, 0, none⟩) (by simp)]; simp [go_sem]
        clear hb2 c0 c1
        go_wp2
        go_ret
        refine ⟨ret_int ?_, Lib.hid (HB1.out.trans (HB2.out.mono z1))⟩
        simp [amiss, HR.out, HU.out.1 (by omega), HU.out.2.1 (by omega)]
    · have c0 : wr.cell? ⟨g, 6, none⟩ = some (.int .i64 62) := hC.out.below HB.out nC 6 _ rfl
      have c1 : wr.cell? ⟨g, 7, none⟩ = some (.func (.func 47) #[] #[.pointer (some ⟨bb, 0, none⟩)]) := hC.out.below HB.out nC 7 _ rfl
      rcases hr : am4 s with _ | _
      · have HR := Lib.hid hr
        clear hr
        go_wp2_with fail
        refine (chk3 (f := f) (t := t) (p := p) (l := l) (s := s) (r := false) ((hB.out.below HB.out nB).below (((Below.refl _ _).alloc (Nat.le_refl _) _)) (by omega)) ((((Below.refl _ _).alloc (Nat.le_refl _) _).cell (p := ⟨bb, 0, none⟩) (show bb < wr.heap.size by omega)).trans ((HB.out.cell (p := ⟨bb, 0, none⟩) nS).trans hS.out)) hf ht hs HU.out HR.out).mono ?_
        rintro e w2 ⟨rfl, hb2⟩
        have HB2 := Lib.hid ((HB.out.alloc zr _).trans (hb2.out.mono (by simp; omega)))
        clear hb2 c0 c1
        go_wp2
        go_roundg 3
        case measure => omega
        case rel => exact ⟨4, rfl, rfl, by have h := HU.out; have h2 := HR.out; simp [UpTo, h2] at h ⊢; try (simp [h]), HB2.out⟩
      · have HR := Lib.hid hr
        clear hr
        go_wp2_with fail
        refine (chk3 (f := f) (t := t) (p := p) (l := l) (s := s) (r := true) ((hB.out.below HB.out nB).below (((Below.refl _ _).alloc (Nat.le_refl _) _)) (by omega)) ((((Below.refl _ _).alloc (Nat.le_refl _) _).cell (p := ⟨bb, 0, none⟩) (show bb < wr.heap.size by omega)).trans ((HB.out.cell (p := ⟨bb, 0, none⟩) nS).trans hS.out)) hf ht hs HU.out HR.out).mono ?_
        rintro e w2 ⟨rfl, hb2⟩
        have HB2 := Lib.hid ((HB.out.alloc zr _).trans (hb2.out.mono (by simp; omega)))
        have d0 : w2.cell? ⟨wr.heap.size, 0, none⟩ = some (.int .i64 62) := by rw [hb2.out.cell (p := ⟨wr.heap.size, 0, none⟩) (by simp)]; simp [go_sem]
        clear hb2 c0 c1
        go_wp2
        go_ret
        refine ⟨ret_int ?_, Lib.hid (HB1.out.trans (HB2.out.mono z1))⟩
        simp [amiss, HR.out, HU.out.1 (by omega), HU.out.2.1 (by omega), HU.out.2.2.1 (by omega)]
    · have c0 : wr.cell? ⟨g, 8, none⟩ = some (.int .i64 63) := hC.out.below HB.out nC 8 _ rfl
      have c1 : wr.cell? ⟨g, 9, none⟩ = some (.func (.func 48) #[] #[.pointer (some ⟨bb, 0, none⟩), .pointer (some ⟨bp, 0, none⟩)]) := hC.out.below HB.out nC 9 _ rfl
      rcases hr : am5 f s with _ | _
      · have HR := Lib.hid hr
        clear hr
        go_wp2_with fail
        refine (chk4 (f := f) (t := t) (p := p) (l := l) (s := s) (r := false) ((hB.out.below HB.out nB).below (((Below.refl _ _).alloc (Nat.le_refl _) _)) (by omega)) ((((Below.refl _ _).alloc (Nat.le_refl _) _).cell (p := ⟨bb, 0, none⟩) (show bb < wr.heap.size by omega)).trans ((HB.out.cell (p := ⟨bb, 0, none⟩) nS).trans hS.out)) hf ht hs HU.out HR.out).mono ?_
        rintro e w2 ⟨rfl, hb2⟩
        have HB2 := Lib.hid ((HB.out.alloc zr _).trans (hb2.out.mono (by simp; omega)))
        clear hb2 c0 c1
        go_wp2
        go_roundg 2
        case measure => omega
        case rel => exact ⟨5, rfl, rfl, by have h := HU.out; have h2 := HR.out; simp [UpTo, h2] at h ⊢; try (simp [h]), HB2.out⟩
      · have HR := Lib.hid hr
        clear hr
        go_wp2_with fail
        refine (chk4 (f := f) (t := t) (p := p) (l := l) (s := s) (r := true) ((hB.out.below HB.out nB).below (((Below.refl _ _).alloc (Nat.le_refl _) _)) (by omega)) ((((Below.refl _ _).alloc (Nat.le_refl _) _).cell (p := ⟨bb, 0, none⟩) (show bb < wr.heap.size by omega)).trans ((HB.out.cell (p := ⟨bb, 0, none⟩) nS).trans hS.out)) hf ht hs HU.out HR.out).mono ?_
        rintro e w2 ⟨rfl, hb2⟩
        have HB2 := Lib.hid ((HB.out.alloc zr _).trans (hb2.out.mono (by simp; omega)))
        have d0 : w2.cell? ⟨wr.heap.size, 0, none⟩ = some (.int .i64 63) := by rw [hb2.out.cell (p := ⟨wr.heap.size, 0, none⟩) (by simp)]; simp [go_sem]
        clear hb2 c0 c1
        go_wp2
        go_ret
        refine ⟨ret_int ?_, Lib.hid (HB1.out.trans (HB2.out.mono z1))⟩
        simp [amiss, HR.out, HU.out.1 (by omega), HU.out.2.1 (by omega), HU.out.2.2.1 (by omega), HU.out.2.2.2.1 (by omega)]
    · have c0 : wr.cell? ⟨g, 10, none⟩ = some (.int .i64 64) := hC.out.below HB.out nC 10 _ rfl
      have c1 : wr.cell? ⟨g, 11, none⟩ = some (.func (.func 49) #[] #[.pointer (some ⟨bp, 0, none⟩), .pointer (some ⟨bb, 0, none⟩)]) := hC.out.below HB.out nC 11 _ rfl
      rcases hr : am6 f t s with _ | _
      · have HR := Lib.hid hr
        clear hr
        go_wp2_with fail
        refine (chk5 (f := f) (t := t) (p := p) (l := l) (s := s) (r := false) ((hB.out.below HB.out nB).below (((Below.refl _ _).alloc (Nat.le_refl _) _)) (by omega)) ((((Below.refl _ _).alloc (Nat.le_refl _) _).cell (p := ⟨bb, 0, none⟩) (show bb < wr.heap.size by omega)).trans ((HB.out.cell (p := ⟨bb, 0, none⟩) nS).trans hS.out)) hf ht hs HU.out HR.out).mono ?_
        rintro e w2 ⟨rfl, hb2⟩
        have HB2 := Lib.hid ((HB.out.alloc zr _).trans (hb2.out.mono (by simp; omega)))
        clear hb2 c0 c1
        go_wp2
        go_roundg 1
        case measure => omega
        case rel => exact ⟨6, rfl, rfl, by have h := HU.out; have h2 := HR.out; simp [UpTo, h2] at h ⊢; try (simp [h]), HB2.out⟩
      · have HR := Lib.hid hr
        clear hr
        go_wp2_with fail
        refine (chk5 (f := f) (t := t) (p := p) (l := l) (s := s) (r := true) ((hB.out.below HB.out nB).below (((Below.refl _ _).alloc (Nat.le_refl _) _)) (by omega)) ((((Below.refl _ _).alloc (Nat.le_refl _) _).cell (p := ⟨bb, 0, none⟩) (show bb < wr.heap.size by omega)).trans ((HB.out.cell (p := ⟨bb, 0, none⟩) nS).trans hS.out)) hf ht hs HU.out HR.out).mono ?_
        rintro e w2 ⟨rfl, hb2⟩
        have HB2 := Lib.hid ((HB.out.alloc zr _).trans (hb2.out.mono (by simp; omega)))
        have d0 : w2.cell? ⟨wr.heap.size, 0, none⟩ = some (.int .i64 64) := by rw [hb2.out.cell (p := ⟨wr.heap.size, 0, none⟩) (by simp)]; simp [go_sem]
        clear hb2 c0 c1
        go_wp2
        go_ret
        refine ⟨ret_int ?_, Lib.hid (HB1.out.trans (HB2.out.mono z1))⟩
        simp [amiss, HR.out, HU.out.1 (by omega), HU.out.2.1 (by omega), HU.out.2.2.1 (by omega), HU.out.2.2.2.1 (by omega), HU.out.2.2.2.2.1 (by omega)]
    · have c0 : wr.cell? ⟨g, 12, none⟩ = some (.int .i64 66) := hC.out.below HB.out nC 12 _ rfl
      have c1 : wr.cell? ⟨g, 13, none⟩ = some (.func (.func 51) #[] #[.pointer (some ⟨bb, 0, none⟩)]) := hC.out.below HB.out nC 13 _ rfl
      rcases hr : am7 s with _ | _
      · have HR := Lib.hid hr
        clear hr
        go_wp2_with fail
        refine (chk6 (f := f) (t := t) (p := p) (l := l) (s := s) (r := false) ((hB.out.below HB.out nB).below (((Below.refl _ _).alloc (Nat.le_refl _) _)) (by omega)) ((((Below.refl _ _).alloc (Nat.le_refl _) _).cell (p := ⟨bb, 0, none⟩) (show bb < wr.heap.size by omega)).trans ((HB.out.cell (p := ⟨bb, 0, none⟩) nS).trans hS.out)) hf ht hs HU.out HR.out).mono ?_
        rintro e w2 ⟨rfl, hb2⟩
        have HB2 := Lib.hid ((HB.out.alloc zr _).trans (hb2.out.mono (by simp; omega)))
        clear hb2 c0 c1
        go_wp2
        go_roundg 0
        case measure => omega
        case rel => exact ⟨7, rfl, rfl, by have h := HU.out; have h2 := HR.out; simp [UpTo, h2] at h ⊢; try (simp [h]), HB2.out⟩
      · have HR := Lib.hid hr
        clear hr
        go_wp2_with fail
        refine (chk6 (f := f) (t := t) (p := p) (l := l) (s := s) (r := true) ((hB.out.below HB.out nB).below (((Below.refl _ _).alloc (Nat.le_refl _) _)) (by omega)) ((((Below.refl _ _).alloc (Nat.le_refl _) _).cell (p := ⟨bb, 0, none⟩) (show bb < wr.heap.size by omega)).trans ((HB.out.cell (p := ⟨bb, 0, none⟩) nS).trans hS.out)) hf ht hs HU.out HR.out).mono ?_
        rintro e w2 ⟨rfl, hb2⟩
        have HB2 := Lib.hid ((HB.out.alloc zr _).trans (hb2.out.mono (by simp; omega)))
        have d0 : w2.cell? ⟨wr.heap.size, 0, none⟩ = some (.int .i64 66) := by rw [hb2.out.cell (p := ⟨wr.heap.size, 0, none⟩) (by simp)]; simp [go_sem]
        clear hb2 c0 c1
        go_wp2
        go_ret
        refine ⟨ret_int ?_, Lib.hid (HB1.out.trans (HB2.out.mono z1))⟩
        simp [amiss, HR.out, HU.out.1 (by omega), HU.out.2.1 (by omega), HU.out.2.2.1 (by omega), HU.out.2.2.2.1 (by omega), HU.out.2.2.2.2.1 (by omega), HU.out.2.2.2.2.2.1 (by omega)]
    · go_wp2
      go_ret
      refine ⟨ret_int ?_, Lib.hid (HB1.out.trans (HB.out.mono z1))⟩
      simp [amiss, HU.out.1 (by omega), HU.out.2.1 (by omega), HU.out.2.2.1 (by omega), HU.out.2.2.2.1 (by omega), HU.out.2.2.2.2.1 (by omega), HU.out.2.2.2.2.2.1 (by omega), HU.out.2.2.2.2.2.2 (by omega)]

end Go.Proofs.Ythhomfchoomelaa
