/-
  What the reference's Decode does: a frame.
-/
import Derived.Test.YtmjjdgcgngnjhaaRdec
namespace Go.Proofs.Ytmjjdgcgngnjhaa
open Go.RowKit
set_option linter.unusedVariables false

set_option maxHeartbeats 1000000 in
/-- outriderref02.Decode. -/
theorem rdecode_ok (b off n c : Nat) (x0 x1 x2 x3 x4 x5 x6 x7 x8 x9 x10 x11 x12 x13 : Int) (r : List Int) (w : World) (hp : Part w ⟨some ⟨b, off, none⟩, n, c, (x0 :: x1 :: x2 :: x3 :: x4 :: x5 :: x6 :: x7 :: x8 :: x9 :: x10 :: x11 :: x12 :: x13 :: r)⟩) (hn : n ≤ 1514) (hcc : 14 < c) (ht : 1536 ≤ x12 * 256 + x13) (q0 : 0 ≤ x0 ∧ x0 ≤ 255) (q1 : 0 ≤ x1 ∧ x1 ≤ 255) (q2 : 0 ≤ x2 ∧ x2 ≤ 255) (q3 : 0 ≤ x3 ∧ x3 ≤ 255) (q4 : 0 ≤ x4 ∧ x4 ≤ 255) (q5 : 0 ≤ x5 ∧ x5 ≤ 255) (q6 : 0 ≤ x6 ∧ x6 ≤ 255) (q7 : 0 ≤ x7 ∧ x7 ≤ 255) (q8 : 0 ≤ x8 ∧ x8 ≤ 255) (q9 : 0 ≤ x9 ∧ x9 ≤ 255) (q10 : 0 ≤ x10 ∧ x10 ≤ 255) (q11 : 0 ≤ x11 ∧ x11 ≤ 255) (q12 : 0 ≤ x12 ∧ x12 ≤ 255) (q13 : 0 ≤ x13 ∧ x13 ≤ 255) :
    Calls Try.prog 14 #[.slice (some ⟨b, off, none⟩) n c] w fun e w' => e = .returned (.tuple #[.agg #[.int .u8 x0, .int .u8 x1, .int .u8 x2, .int .u8 x3, .int .u8 x4, .int .u8 x5, .int .u8 x6, .int .u8 x7, .int .u8 x8, .int .u8 x9, .int .u8 x10, .int .u8 x11, .int .i64 (x12 * 256 + x13), .string (strOfNums r)], .int .i64 0]) ∧ Below w.heap.size w w' := by
  have hlen : 14 + r.length = n := by have : (x0 :: x1 :: x2 :: x3 :: x4 :: x5 :: x6 :: x7 :: x8 :: x9 :: x10 :: x11 :: x12 :: x13 :: r).length = n := hp.1; simp at this; omega
  have hnc : n ≤ c := hp.2.1
  have g1 : decide ((n : Int) < 14) = false := by simp; omega
  have g2 : decide (n < 14) = false := by simp; omega
  have g3 : decide (1514 < (n : Int)) = false := by simp; omega
  have g4 : decide (1514 < n) = false := by simp; omega
  obtain ⟨b', off', e', hc⟩ := hp.2.2.2 (show 0 < n by omega)
  have e1 : some (⟨b, off, none⟩ : Addr) = some ⟨b', off', none⟩ := e'
  simp only [Option.some.injEq, Addr.mk.injEq] at e1
  obtain ⟨rfl, rfl, -⟩ := e1
  have c12 : w.cell? ⟨b, off + 12, none⟩ = some (.int .u8 x12) := hc 12 (show 12 < n by omega)
  have c13 : w.cell? ⟨b, off + 13, none⟩ = some (.int .u8 x13) := hc 13 (show 13 < n by omega)
  have hbl : b < w.heap.size := World.block_lt_of_cell? _ _ c12
  have k0 : w.cell? ⟨b, off, none⟩ = some (.int .u8 x0) := hc 0 (show 0 < n by omega)
  have k1 : w.cell? ⟨b, off + 1, none⟩ = some (.int .u8 x1) := hc 1 (show 1 < n by omega)
  have k2 : w.cell? ⟨b, off + 2, none⟩ = some (.int .u8 x2) := hc 2 (show 2 < n by omega)
  have k3 : w.cell? ⟨b, off + 3, none⟩ = some (.int .u8 x3) := hc 3 (show 3 < n by omega)
  have k4 : w.cell? ⟨b, off + 4, none⟩ = some (.int .u8 x4) := hc 4 (show 4 < n by omega)
  have k5 : w.cell? ⟨b, off + 5, none⟩ = some (.int .u8 x5) := hc 5 (show 5 < n by omega)
  have k6 : w.cell? ⟨b, off + 6, none⟩ = some (.int .u8 x6) := hc 6 (show 6 < n by omega)
  have k7 : w.cell? ⟨b, off + 7, none⟩ = some (.int .u8 x7) := hc 7 (show 7 < n by omega)
  have k8 : w.cell? ⟨b, off + 8, none⟩ = some (.int .u8 x8) := hc 8 (show 8 < n by omega)
  have k9 : w.cell? ⟨b, off + 9, none⟩ = some (.int .u8 x9) := hc 9 (show 9 < n by omega)
  have k10 : w.cell? ⟨b, off + 10, none⟩ = some (.int .u8 x10) := hc 10 (show 10 < n by omega)
  have k11 : w.cell? ⟨b, off + 11, none⟩ = some (.int .u8 x11) := hc 11 (show 11 < n by omega)
  clear hc e'
  have i1 : (12 : Int) < (n : Int) := by omega
  have i2 : (13 : Int) < (n : Int) := by omega
  have i3 : (14 : Int) ≤ (n : Int) := by omega
  have i4 : 14 ≤ n := by omega
  have m0 : (0 : Int) < (n : Int) := by omega
  have m1 : (1 : Int) < (n : Int) := by omega
  have m2 : (2 : Int) < (n : Int) := by omega
  have m3 : (3 : Int) < (n : Int) := by omega
  have m4 : (4 : Int) < (n : Int) := by omega
  have m5 : (5 : Int) < (n : Int) := by omega
  have m6 : (6 : Int) < (n : Int) := by omega
  have m7 : (7 : Int) < (n : Int) := by omega
  have m8 : (8 : Int) < (n : Int) := by omega
  have m9 : (9 : Int) < (n : Int) := by omega
  have m10 : (10 : Int) < (n : Int) := by omega
  have m11 : (11 : Int) < (n : Int) := by omega
  have g6 : decide (x12 * 256 + x13 < 1536) = false := by simp; omega
  have hcv : (convert 26 9 (.slice (some ⟨b, off + 14, none⟩) (n - 14) (c - 14))).run Try.prog (w.alloc (.cells #[.int .u8 0, .int .u8 0, .int .u8 0, .int .u8 0, .int .u8 0, .int .u8 0, .int .u8 0, .int .u8 0, .int .u8 0, .int .u8 0, .int .u8 0, .int .u8 0, .int .i64 0, .string ⟨#[]⟩] 25)).drew = .ok (.string (strOfNums r)) (w.alloc (.cells #[.int .u8 0, .int .u8 0, .int .u8 0, .int .u8 0, .int .u8 0, .int .u8 0, .int .u8 0, .int .u8 0, .int .u8 0, .int .u8 0, .int .u8 0, .int .u8 0, .int .i64 0, .string ⟨#[]⟩] 25)).drew := by
    have h := hp.sub 14 (n - 14) (by omega)
    rw [if_neg (by omega)] at h
    have e1 : Option.map (fun x : Addr => x.add 14) (some ⟨b, off, none⟩) = some ⟨b, off + 14, none⟩ := by simp [Addr.add]
    have e2 : ((x0 :: x1 :: x2 :: x3 :: x4 :: x5 :: x6 :: x7 :: x8 :: x9 :: x10 :: x11 :: x12 :: x13 :: r).drop 14).take (n - 14) = r := List.take_of_length_le (by rw [show (x0 :: x1 :: x2 :: x3 :: x4 :: x5 :: x6 :: x7 :: x8 :: x9 :: x10 :: x11 :: x12 :: x13 :: r).drop 14 = r from rfl]; omega)
    rw [e1, e2] at h
    exact convert_part ((h.alloc _).drewN 1) 9 Try.underlying9
  have hcv2 : (convert 26 9 (.slice (some ⟨b, off + 14, none⟩) (n - 14) (c - 14))).run Try.prog ((w.alloc (.cells #[.int .u8 0, .int .u8 0, .int .u8 0, .int .u8 0, .int .u8 0, .int .u8 0, .int .u8 0, .int .u8 0, .int .u8 0, .int .u8 0, .int .u8 0, .int .u8 0, .int .i64 0, .string ⟨#[]⟩] 25)).alloc (.cells #[.int .u8 0, .int .u8 0, .int .u8 0, .int .u8 0, .int .u8 0, .int .u8 0, .int .u8 0, .int .u8 0, .int .u8 0, .int .u8 0, .int .u8 0, .int .u8 0, .int .i64 0, .string ⟨#[]⟩] 25)).drew = .ok (.string (strOfNums r)) ((w.alloc (.cells #[.int .u8 0, .int .u8 0, .int .u8 0, .int .u8 0, .int .u8 0, .int .u8 0, .int .u8 0, .int .u8 0, .int .u8 0, .int .u8 0, .int .u8 0, .int .u8 0, .int .i64 0, .string ⟨#[]⟩] 25)).alloc (.cells #[.int .u8 0, .int .u8 0, .int .u8 0, .int .u8 0, .int .u8 0, .int .u8 0, .int .u8 0, .int .u8 0, .int .u8 0, .int .u8 0, .int .u8 0, .int .u8 0, .int .i64 0, .string ⟨#[]⟩] 25)).drew := by
    have h := hp.sub 14 (n - 14) (by omega)
    rw [if_neg (by omega)] at h
    have e1 : Option.map (fun x : Addr => x.add 14) (some ⟨b, off, none⟩) = some ⟨b, off + 14, none⟩ := by simp [Addr.add]
    have e2 : ((x0 :: x1 :: x2 :: x3 :: x4 :: x5 :: x6 :: x7 :: x8 :: x9 :: x10 :: x11 :: x12 :: x13 :: r).drop 14).take (n - 14) = r := List.take_of_length_le (by rw [show (x0 :: x1 :: x2 :: x3 :: x4 :: x5 :: x6 :: x7 :: x8 :: x9 :: x10 :: x11 :: x12 :: x13 :: r).drop 14 = r from rfl]; omega)
    rw [e1, e2] at h
    exact convert_part (((h.alloc _).alloc _).drewN 1) 9 Try.underlying9
  clear hp hlen
  go_enter Try.func14, Try.ntmps14
  go_wp2_with fail
  go_region
  go_wp2
  all_goals
    go_loopg [5] 6 (fun gg i wr => RdRel (fun k => ((w.alloc (.cells #[.int .u8 0, .int .u8 0, .int .u8 0, .int .u8 0, .int .u8 0, .int .u8 0, .int .u8 0, .int .u8 0, .int .u8 0, .int .u8 0, .int .u8 0, .int .u8 0, .int .i64 0, .string ⟨#[]⟩] 25)).alloc (.cells (fill k x0 x1 x2 x3 x4 x5 x6 x7 x8 x9 x10 x11 (x12 * 256 + x13) (strOfNums r)) 25)).drew) gg i wr)
    case atStart => exact ⟨0, rfl, rfl, rfl⟩
    case round =>
      obtain ⟨k, hk, rfl, rfl⟩ := hrel
      match k, hk with
      | 0, hk =>
        simp only [fill_0]
        rw [show ((0 : Nat) : Int) = 0 from rfl]
        go_wp2
        go_roundg 5
        case measure => omega
        case rel => exact ⟨1, rfl, rfl, rfl⟩
      | 1, hk =>
        simp only [fill_1]
        rw [show ((1 : Nat) : Int) = 1 from rfl]
        go_wp2
        go_roundg 4
        case measure => omega
        case rel => exact ⟨2, rfl, rfl, rfl⟩
      | 2, hk =>
        simp only [fill_2]
        rw [show ((2 : Nat) : Int) = 2 from rfl]
        go_wp2
        go_roundg 3
        case measure => omega
        case rel => exact ⟨3, rfl, rfl, rfl⟩
      | 3, hk =>
        simp only [fill_3]
        rw [show ((3 : Nat) : Int) = 3 from rfl]
        go_wp2
        go_roundg 2
        case measure => omega
        case rel => exact ⟨4, rfl, rfl, rfl⟩
      | 4, hk =>
        simp only [fill_4]
        rw [show ((4 : Nat) : Int) = 4 from rfl]
        go_wp2
        go_roundg 1
        case measure => omega
        case rel => exact ⟨5, rfl, rfl, rfl⟩
      | 5, hk =>
        simp only [fill_5]
        rw [show ((5 : Nat) : Int) = 5 from rfl]
        go_wp2
        go_roundg 0
        case measure => omega
        case rel => exact ⟨6, rfl, rfl, rfl⟩
      | 6, hk =>
        simp only [fill_6]
        rw [show ((6 : Nat) : Int) = 6 from rfl]
        go_wp2
        exact bodyPost_ret (v := .tuple #[.agg #[.int .u8 x0, .int .u8 x1, .int .u8 x2, .int .u8 x3, .int .u8 x4, .int .u8 x5, .int .u8 x6, .int .u8 x7, .int .u8 x8, .int .u8 x9, .int .u8 x10, .int .u8 x11, .int .i64 (x12 * 256 + x13), .string (strOfNums r)], .int .i64 0]) (by simp [results, Try.results14, go_sem]) rfl ⟨rfl, below_drew (((Below.refl _ _).alloc (Nat.le_refl _) _).alloc (by simp) _)⟩
      | k + 7, hk => omega

end Go.Proofs.Ytmjjdgcgngnjhaa
