/-
  What Decode does.
-/
import Derived.Test.YtdoefjhdipkkeaaDoorEEnc
import Derived.Laws.BitsLemmas
namespace Go.Proofs.YtdoefjhdipkkeaaDoor.E
open Go.RowKit
set_option maxRecDepth 10000
set_option linter.unusedVariables false

/-- The bytes from place k on are there, behind two new blocks. -/
theorem src_of {w : World} {b off n c : Nat} {bs : List Int} (h : Part w ⟨some ⟨b, off, none⟩, n, c, bs⟩) (k m : Nat) (cs : List Int) (hcs : (bs.drop k).take m = cs) (hk : k + m ≤ n) (hm : 0 < m) (o1 o2 : Obj) :
    ∀ j v, (cel cs)[j]? = some v → ((w.alloc o1).alloc o2).cell? ((⟨b, off + k, none⟩ : Addr).add j) = some v := by
  intro j v hv
  subst hcs
  obtain ⟨h1, _, _, h4⟩ := (h.alloc o1).alloc o2
  have h1' : bs.length = n := h1
  obtain ⟨b', off', e, hc⟩ := h4 (show 0 < n by omega)
  have e' : some (⟨b, off, none⟩ : Addr) = some ⟨b', off', none⟩ := e
  simp only [Option.some.injEq, Addr.mk.injEq] at e'
  obtain ⟨rfl, rfl, -⟩ := e'
  have hj : j < m := by
    rcases Nat.lt_or_ge j m with hj | hj
    · exact hj
    · simp [cel, List.getElem?_take, Nat.not_lt.2 hj] at hv
  have hg := hc (k + j) (show k + j < n by omega)
  rw [add_plain, Nat.add_assoc, hg]
  simp [cel, hj] at hv
  obtain ⟨x, hx, rfl⟩ := hv
  have hlt : k + j < bs.length := by omega
  simp [List.getElem?_eq_getElem hlt] at hx ⊢
  exact hx

set_option maxHeartbeats 1000000 in
/-- ether.Decode, too short or too long. -/
theorem decode_short (a : Option Addr) (n c : Nat) (w : World) (hn : n ≤ 140737488351232) (h : n < 14 ∨ 1514 < n) :
    Calls Tryd.prog 22 #[.slice a n c] w fun e w' => e = .returned (.tuple #[.agg #[.int .u8 0, .int .u8 0, .int .u8 0, .int .u8 0, .int .u8 0, .int .u8 0, .int .u8 0, .int .u8 0, .int .u8 0, .int .u8 0, .int .u8 0, .int .u8 0, .int .i64 0, .string ⟨#[]⟩], .int .i64 20]) ∧ Below w.heap.size w w' := by
  by_cases h1 : n < 14
  · have g1 : decide ((n : Int) < 14) = true := by simp; omega
    have g2 : decide (n < 14) = true := by simp; omega
    clear h
    go_enter Tryd.func22, Tryd.ntmps22
    go_wp2
    exact bodyPost_ret (v := .tuple #[.agg #[.int .u8 0, .int .u8 0, .int .u8 0, .int .u8 0, .int .u8 0, .int .u8 0, .int .u8 0, .int .u8 0, .int .u8 0, .int .u8 0, .int .u8 0, .int .u8 0, .int .i64 0, .string ⟨#[]⟩], .int .i64 20]) (by simp [results, Tryd.results22, go_sem]) rfl ⟨rfl, (Below.refl _ _).alloc (Nat.le_refl _) _⟩
  · have g1 : decide ((n : Int) < 14) = false := by simp; omega
    have g2 : decide (n < 14) = false := by simp; omega
    have g3 : decide (1514 < (n : Int)) = true := by simp; omega
    have g4 : decide (1514 < n) = true := by simp; omega
    clear h h1
    go_enter Tryd.func22, Tryd.ntmps22
    go_wp2
    exact bodyPost_ret (v := .tuple #[.agg #[.int .u8 0, .int .u8 0, .int .u8 0, .int .u8 0, .int .u8 0, .int .u8 0, .int .u8 0, .int .u8 0, .int .u8 0, .int .u8 0, .int .u8 0, .int .u8 0, .int .i64 0, .string ⟨#[]⟩], .int .i64 20]) (by simp [results, Tryd.results22, go_sem]) rfl ⟨rfl, (Below.refl _ _).alloc (Nat.le_refl _) _⟩


set_option maxHeartbeats 1000000 in
/-- ether.Decode, no type. -/
theorem decode_low (b off n c : Nat) (x0 x1 x2 x3 x4 x5 x6 x7 x8 x9 x10 x11 x12 x13 : Int) (r : List Int) (w : World) (hp : Part w ⟨some ⟨b, off, none⟩, n, c, (x0 :: x1 :: x2 :: x3 :: x4 :: x5 :: x6 :: x7 :: x8 :: x9 :: x10 :: x11 :: x12 :: x13 :: r)⟩) (hn : n ≤ 1514) (ht : x12 * 256 + x13 < 1536) (q0 : 0 ≤ x0 ∧ x0 ≤ 255) (q1 : 0 ≤ x1 ∧ x1 ≤ 255) (q2 : 0 ≤ x2 ∧ x2 ≤ 255) (q3 : 0 ≤ x3 ∧ x3 ≤ 255) (q4 : 0 ≤ x4 ∧ x4 ≤ 255) (q5 : 0 ≤ x5 ∧ x5 ≤ 255) (q6 : 0 ≤ x6 ∧ x6 ≤ 255) (q7 : 0 ≤ x7 ∧ x7 ≤ 255) (q8 : 0 ≤ x8 ∧ x8 ≤ 255) (q9 : 0 ≤ x9 ∧ x9 ≤ 255) (q10 : 0 ≤ x10 ∧ x10 ≤ 255) (q11 : 0 ≤ x11 ∧ x11 ≤ 255) (q12 : 0 ≤ x12 ∧ x12 ≤ 255) (q13 : 0 ≤ x13 ∧ x13 ≤ 255) :
    Calls Tryd.prog 22 #[.slice (some ⟨b, off, none⟩) n c] w fun e w' => e = .returned (.tuple #[.agg #[.int .u8 0, .int .u8 0, .int .u8 0, .int .u8 0, .int .u8 0, .int .u8 0, .int .u8 0, .int .u8 0, .int .u8 0, .int .u8 0, .int .u8 0, .int .u8 0, .int .i64 0, .string ⟨#[]⟩], .int .i64 1]) ∧ Below w.heap.size w w' := by
  have hlen : 14 + r.length = n := by have : (x0 :: x1 :: x2 :: x3 :: x4 :: x5 :: x6 :: x7 :: x8 :: x9 :: x10 :: x11 :: x12 :: x13 :: r).length = n := hp.1; simp at this; omega
  have hnc : n ≤ c := hp.2.1
  have g1 : decide ((n : Int) < 14) = false := by simp; omega
  have g2 : decide (n < 14) = false := by simp; omega
  have g3 : decide (1514 < (n : Int)) = false := by simp; omega
  have g4 : decide (1514 < n) = false := by simp; omega
  have g5 := or_type x12 x13 q12 q13
  obtain ⟨b', off', e', hc⟩ := hp.2.2.2 (show 0 < n by omega)
  have e1 : some (⟨b, off, none⟩ : Addr) = some ⟨b', off', none⟩ := e'
  simp only [Option.some.injEq, Addr.mk.injEq] at e1
  obtain ⟨rfl, rfl, -⟩ := e1
  have c12 : w.cell? ⟨b, off + 12, none⟩ = some (.int .u8 x12) := hc 12 (show 12 < n by omega)
  have c13 : w.cell? ⟨b, off + 13, none⟩ = some (.int .u8 x13) := hc 13 (show 13 < n by omega)
  have hbl : b < w.heap.size := World.block_lt_of_cell? _ _ c12
  clear hc e'
  have i1 : (12 : Int) < (n : Int) := by omega
  have i2 : (13 : Int) < (n : Int) := by omega
  have i3 : (14 : Int) ≤ (n : Int) := by omega
  have i4 : 14 ≤ n := by omega
  have g6 : decide (x12 * 256 + x13 < 1536) = true := by simp; omega
  clear hp hlen
  go_enter Tryd.func22, Tryd.ntmps22
  go_wp2_with fail
  go_region
  go_wp2
  exact bodyPost_ret (v := .tuple #[.agg #[.int .u8 0, .int .u8 0, .int .u8 0, .int .u8 0, .int .u8 0, .int .u8 0, .int .u8 0, .int .u8 0, .int .u8 0, .int .u8 0, .int .u8 0, .int .u8 0, .int .i64 0, .string ⟨#[]⟩], .int .i64 1]) (by simp [results, Tryd.results22, go_sem]) rfl ⟨rfl, below_drew (((Below.refl _ _).alloc (Nat.le_refl _) _).alloc (by simp) _)⟩

set_option maxHeartbeats 1000000 in
/-- ether.Decode. -/
theorem decode_ok (b off n c : Nat) (x0 x1 x2 x3 x4 x5 x6 x7 x8 x9 x10 x11 x12 x13 : Int) (r : List Int) (w : World) (hp : Part w ⟨some ⟨b, off, none⟩, n, c, (x0 :: x1 :: x2 :: x3 :: x4 :: x5 :: x6 :: x7 :: x8 :: x9 :: x10 :: x11 :: x12 :: x13 :: r)⟩) (hn : n ≤ 1514) (hcc : 14 < c) (ht : 1536 ≤ x12 * 256 + x13) (q0 : 0 ≤ x0 ∧ x0 ≤ 255) (q1 : 0 ≤ x1 ∧ x1 ≤ 255) (q2 : 0 ≤ x2 ∧ x2 ≤ 255) (q3 : 0 ≤ x3 ∧ x3 ≤ 255) (q4 : 0 ≤ x4 ∧ x4 ≤ 255) (q5 : 0 ≤ x5 ∧ x5 ≤ 255) (q6 : 0 ≤ x6 ∧ x6 ≤ 255) (q7 : 0 ≤ x7 ∧ x7 ≤ 255) (q8 : 0 ≤ x8 ∧ x8 ≤ 255) (q9 : 0 ≤ x9 ∧ x9 ≤ 255) (q10 : 0 ≤ x10 ∧ x10 ≤ 255) (q11 : 0 ≤ x11 ∧ x11 ≤ 255) (q12 : 0 ≤ x12 ∧ x12 ≤ 255) (q13 : 0 ≤ x13 ∧ x13 ≤ 255) :
    Calls Tryd.prog 22 #[.slice (some ⟨b, off, none⟩) n c] w fun e w' => e = .returned (.tuple #[.agg #[.int .u8 x0, .int .u8 x1, .int .u8 x2, .int .u8 x3, .int .u8 x4, .int .u8 x5, .int .u8 x6, .int .u8 x7, .int .u8 x8, .int .u8 x9, .int .u8 x10, .int .u8 x11, .int .i64 (x12 * 256 + x13), .string (strOfNums r)], .int .i64 0]) ∧ Below w.heap.size w w' := by
  have hlen : 14 + r.length = n := by have : (x0 :: x1 :: x2 :: x3 :: x4 :: x5 :: x6 :: x7 :: x8 :: x9 :: x10 :: x11 :: x12 :: x13 :: r).length = n := hp.1; simp at this; omega
  have hnc : n ≤ c := hp.2.1
  have g1 : decide ((n : Int) < 14) = false := by simp; omega
  have g2 : decide (n < 14) = false := by simp; omega
  have g3 : decide (1514 < (n : Int)) = false := by simp; omega
  have g4 : decide (1514 < n) = false := by simp; omega
  have g5 := or_type x12 x13 q12 q13
  obtain ⟨b', off', e', hc⟩ := hp.2.2.2 (show 0 < n by omega)
  have e1 : some (⟨b, off, none⟩ : Addr) = some ⟨b', off', none⟩ := e'
  simp only [Option.some.injEq, Addr.mk.injEq] at e1
  obtain ⟨rfl, rfl, -⟩ := e1
  have c12 : w.cell? ⟨b, off + 12, none⟩ = some (.int .u8 x12) := hc 12 (show 12 < n by omega)
  have c13 : w.cell? ⟨b, off + 13, none⟩ = some (.int .u8 x13) := hc 13 (show 13 < n by omega)
  have hbl : b < w.heap.size := World.block_lt_of_cell? _ _ c12
  clear hc e'
  have i1 : (12 : Int) < (n : Int) := by omega
  have i2 : (13 : Int) < (n : Int) := by omega
  have i3 : (14 : Int) ≤ (n : Int) := by omega
  have i4 : 14 ≤ n := by omega
  have g6 : decide (x12 * 256 + x13 < 1536) = false := by simp; omega
  have hc1 : (Builtin.copy_ #[26, 26] 3 #[.slice (some ⟨w.heap.size + 1, 0, none⟩) 6 6, .slice (some ⟨b, off, none⟩) n c]).run Tryd.prog ((w.alloc (.cells #[.int .u8 0, .int .u8 0, .int .u8 0, .int .u8 0, .int .u8 0, .int .u8 0, .int .u8 0, .int .u8 0, .int .u8 0, .int .u8 0, .int .u8 0, .int .u8 0, .int .i64 0, .string ⟨#[]⟩] 41)).alloc (.cells #[.int .u8 0, .int .u8 0, .int .u8 0, .int .u8 0, .int .u8 0, .int .u8 0, .int .u8 0, .int .u8 0, .int .u8 0, .int .u8 0, .int .u8 0, .int .u8 0, .int .i64 (x12 * 256 + x13), .string ⟨#[]⟩] 41)).drew = .ok (goInt 6) ((w.alloc (.cells #[.int .u8 0, .int .u8 0, .int .u8 0, .int .u8 0, .int .u8 0, .int .u8 0, .int .u8 0, .int .u8 0, .int .u8 0, .int .u8 0, .int .u8 0, .int .u8 0, .int .i64 0, .string ⟨#[]⟩] 41)).alloc (.cells #[.int .u8 x0, .int .u8 x1, .int .u8 x2, .int .u8 x3, .int .u8 x4, .int .u8 x5, .int .u8 0, .int .u8 0, .int .u8 0, .int .u8 0, .int .u8 0, .int .u8 0, .int .i64 (x12 * 256 + x13), .string ⟨#[]⟩] 41)).drew := by
    have h := copy_part (w.alloc (.cells #[.int .u8 0, .int .u8 0, .int .u8 0, .int .u8 0, .int .u8 0, .int .u8 0, .int .u8 0, .int .u8 0, .int .u8 0, .int .u8 0, .int .u8 0, .int .u8 0, .int .i64 0, .string ⟨#[]⟩] 41)) (w.heap.size + 1) [.int .u8 0, .int .u8 0, .int .u8 0, .int .u8 0, .int .u8 0, .int .u8 0, .int .u8 0, .int .u8 0, .int .u8 0, .int .u8 0, .int .u8 0, .int .u8 0, .int .i64 (x12 * 256 + x13), .string ⟨#[]⟩] 41 3 0 6 6 1 ⟨b, off, none⟩ n c [x0, x1, x2, x3, x4, x5] (by simp) (by simp [Nat.min_def]; omega) (by simp) (src_of hp 0 6 _ rfl (by omega) (by omega) _ _)
    have e2 : (splice [.int .u8 0, .int .u8 0, .int .u8 0, .int .u8 0, .int .u8 0, .int .u8 0, .int .u8 0, .int .u8 0, .int .u8 0, .int .u8 0, .int .u8 0, .int .u8 0, .int .i64 (x12 * 256 + x13), .string ⟨#[]⟩] 0 (cel [x0, x1, x2, x3, x4, x5])).toArray = #[.int .u8 x0, .int .u8 x1, .int .u8 x2, .int .u8 x3, .int .u8 x4, .int .u8 x5, .int .u8 0, .int .u8 0, .int .u8 0, .int .u8 0, .int .u8 0, .int .u8 0, .int .i64 (x12 * 256 + x13), .string ⟨#[]⟩] := by kernel_rfl
    rw [e2] at h
    exact h
  have hc2 : (Builtin.copy_ #[26, 26] 3 #[.slice (some ⟨w.heap.size + 1, 6, none⟩) 6 6, .slice (some ⟨b, off + 6, none⟩) (n - 6) (c - 6)]).run Tryd.prog ((w.alloc (.cells #[.int .u8 0, .int .u8 0, .int .u8 0, .int .u8 0, .int .u8 0, .int .u8 0, .int .u8 0, .int .u8 0, .int .u8 0, .int .u8 0, .int .u8 0, .int .u8 0, .int .i64 0, .string ⟨#[]⟩] 41)).alloc (.cells #[.int .u8 x0, .int .u8 x1, .int .u8 x2, .int .u8 x3, .int .u8 x4, .int .u8 x5, .int .u8 0, .int .u8 0, .int .u8 0, .int .u8 0, .int .u8 0, .int .u8 0, .int .i64 (x12 * 256 + x13), .string ⟨#[]⟩] 41)).drew.drew = .ok (goInt 6) ((w.alloc (.cells #[.int .u8 0, .int .u8 0, .int .u8 0, .int .u8 0, .int .u8 0, .int .u8 0, .int .u8 0, .int .u8 0, .int .u8 0, .int .u8 0, .int .u8 0, .int .u8 0, .int .i64 0, .string ⟨#[]⟩] 41)).alloc (.cells #[.int .u8 x0, .int .u8 x1, .int .u8 x2, .int .u8 x3, .int .u8 x4, .int .u8 x5, .int .u8 x6, .int .u8 x7, .int .u8 x8, .int .u8 x9, .int .u8 x10, .int .u8 x11, .int .i64 (x12 * 256 + x13), .string ⟨#[]⟩] 41)).drew.drew := by
    have h := copy_part (w.alloc (.cells #[.int .u8 0, .int .u8 0, .int .u8 0, .int .u8 0, .int .u8 0, .int .u8 0, .int .u8 0, .int .u8 0, .int .u8 0, .int .u8 0, .int .u8 0, .int .u8 0, .int .i64 0, .string ⟨#[]⟩] 41)) (w.heap.size + 1) [.int .u8 x0, .int .u8 x1, .int .u8 x2, .int .u8 x3, .int .u8 x4, .int .u8 x5, .int .u8 0, .int .u8 0, .int .u8 0, .int .u8 0, .int .u8 0, .int .u8 0, .int .i64 (x12 * 256 + x13), .string ⟨#[]⟩] 41 3 6 6 6 2 ⟨b, off + 6, none⟩ (n - 6) (c - 6) [x6, x7, x8, x9, x10, x11] (by simp) (by simp [Nat.min_def]; omega) (by simp) (src_of hp 6 6 _ rfl (by omega) (by omega) _ _)
    have e2 : (splice [.int .u8 x0, .int .u8 x1, .int .u8 x2, .int .u8 x3, .int .u8 x4, .int .u8 x5, .int .u8 0, .int .u8 0, .int .u8 0, .int .u8 0, .int .u8 0, .int .u8 0, .int .i64 (x12 * 256 + x13), .string ⟨#[]⟩] 6 (cel [x6, x7, x8, x9, x10, x11])).toArray = #[.int .u8 x0, .int .u8 x1, .int .u8 x2, .int .u8 x3, .int .u8 x4, .int .u8 x5, .int .u8 x6, .int .u8 x7, .int .u8 x8, .int .u8 x9, .int .u8 x10, .int .u8 x11, .int .i64 (x12 * 256 + x13), .string ⟨#[]⟩] := by kernel_rfl
    rw [e2] at h
    exact h
  have hcv : (convert 26 9 (.slice (some ⟨b, off + 14, none⟩) (n - 14) (c - 14))).run Tryd.prog ((w.alloc (.cells #[.int .u8 0, .int .u8 0, .int .u8 0, .int .u8 0, .int .u8 0, .int .u8 0, .int .u8 0, .int .u8 0, .int .u8 0, .int .u8 0, .int .u8 0, .int .u8 0, .int .i64 0, .string ⟨#[]⟩] 41)).alloc (.cells #[.int .u8 x0, .int .u8 x1, .int .u8 x2, .int .u8 x3, .int .u8 x4, .int .u8 x5, .int .u8 x6, .int .u8 x7, .int .u8 x8, .int .u8 x9, .int .u8 x10, .int .u8 x11, .int .i64 (x12 * 256 + x13), .string ⟨#[]⟩] 41)).drew.drew = .ok (.string (strOfNums r)) ((w.alloc (.cells #[.int .u8 0, .int .u8 0, .int .u8 0, .int .u8 0, .int .u8 0, .int .u8 0, .int .u8 0, .int .u8 0, .int .u8 0, .int .u8 0, .int .u8 0, .int .u8 0, .int .i64 0, .string ⟨#[]⟩] 41)).alloc (.cells #[.int .u8 x0, .int .u8 x1, .int .u8 x2, .int .u8 x3, .int .u8 x4, .int .u8 x5, .int .u8 x6, .int .u8 x7, .int .u8 x8, .int .u8 x9, .int .u8 x10, .int .u8 x11, .int .i64 (x12 * 256 + x13), .string ⟨#[]⟩] 41)).drew.drew := by
    have h := hp.sub 14 (n - 14) (by omega)
    rw [if_neg (by omega)] at h
    have e1 : Option.map (fun x : Addr => x.add 14) (some ⟨b, off, none⟩) = some ⟨b, off + 14, none⟩ := by simp [Addr.add]
    have e2 : ((x0 :: x1 :: x2 :: x3 :: x4 :: x5 :: x6 :: x7 :: x8 :: x9 :: x10 :: x11 :: x12 :: x13 :: r).drop 14).take (n - 14) = r := List.take_of_length_le (by rw [show (x0 :: x1 :: x2 :: x3 :: x4 :: x5 :: x6 :: x7 :: x8 :: x9 :: x10 :: x11 :: x12 :: x13 :: r).drop 14 = r from rfl]; omega)
    rw [e1, e2] at h
    exact convert_part (((h.alloc _).alloc _).drewN 2) 9 Tryd.underlying9
  clear hp hlen
  go_enter Tryd.func22, Tryd.ntmps22
  go_wp2_with fail
  go_region
  go_wp2
  go_region
  go_wp2
  exact bodyPost_ret (v := .tuple #[.agg #[.int .u8 x0, .int .u8 x1, .int .u8 x2, .int .u8 x3, .int .u8 x4, .int .u8 x5, .int .u8 x6, .int .u8 x7, .int .u8 x8, .int .u8 x9, .int .u8 x10, .int .u8 x11, .int .i64 (x12 * 256 + x13), .string (strOfNums r)], .int .i64 0]) (by simp [results, Tryd.results22, go_sem]) rfl ⟨rfl, below_drew (below_drew (((Below.refl _ _).alloc (Nat.le_refl _) _).alloc (by simp) _))⟩

set_option maxHeartbeats 1000000 in
/-- ether.Decode. -/
theorem decode_ok14 (b off : Nat) (x0 x1 x2 x3 x4 x5 x6 x7 x8 x9 x10 x11 x12 x13 : Int) (r : List Int) (w : World) (hp : Part w ⟨some ⟨b, off, none⟩, 14, 14, (x0 :: x1 :: x2 :: x3 :: x4 :: x5 :: x6 :: x7 :: x8 :: x9 :: x10 :: x11 :: x12 :: x13 :: r)⟩) (ht : 1536 ≤ x12 * 256 + x13) (q0 : 0 ≤ x0 ∧ x0 ≤ 255) (q1 : 0 ≤ x1 ∧ x1 ≤ 255) (q2 : 0 ≤ x2 ∧ x2 ≤ 255) (q3 : 0 ≤ x3 ∧ x3 ≤ 255) (q4 : 0 ≤ x4 ∧ x4 ≤ 255) (q5 : 0 ≤ x5 ∧ x5 ≤ 255) (q6 : 0 ≤ x6 ∧ x6 ≤ 255) (q7 : 0 ≤ x7 ∧ x7 ≤ 255) (q8 : 0 ≤ x8 ∧ x8 ≤ 255) (q9 : 0 ≤ x9 ∧ x9 ≤ 255) (q10 : 0 ≤ x10 ∧ x10 ≤ 255) (q11 : 0 ≤ x11 ∧ x11 ≤ 255) (q12 : 0 ≤ x12 ∧ x12 ≤ 255) (q13 : 0 ≤ x13 ∧ x13 ≤ 255) :
    Calls Tryd.prog 22 #[.slice (some ⟨b, off, none⟩) 14 14] w fun e w' => e = .returned (.tuple #[.agg #[.int .u8 x0, .int .u8 x1, .int .u8 x2, .int .u8 x3, .int .u8 x4, .int .u8 x5, .int .u8 x6, .int .u8 x7, .int .u8 x8, .int .u8 x9, .int .u8 x10, .int .u8 x11, .int .i64 (x12 * 256 + x13), .string (strOfNums r)], .int .i64 0]) ∧ Below w.heap.size w w' := by
  have hlen : 14 + r.length = 14 := by have : (x0 :: x1 :: x2 :: x3 :: x4 :: x5 :: x6 :: x7 :: x8 :: x9 :: x10 :: x11 :: x12 :: x13 :: r).length = 14 := hp.1; simp at this; simp [this]
  have g5 := or_type x12 x13 q12 q13
  obtain ⟨b', off', e', hc⟩ := hp.2.2.2 (show 0 < 14 by omega)
  have e1 : some (⟨b, off, none⟩ : Addr) = some ⟨b', off', none⟩ := e'
  simp only [Option.some.injEq, Addr.mk.injEq] at e1
  obtain ⟨rfl, rfl, -⟩ := e1
  have c12 : w.cell? ⟨b, off + 12, none⟩ = some (.int .u8 x12) := hc 12 (show 12 < 14 by omega)
  have c13 : w.cell? ⟨b, off + 13, none⟩ = some (.int .u8 x13) := hc 13 (show 13 < 14 by omega)
  have hbl : b < w.heap.size := World.block_lt_of_cell? _ _ c12
  clear hc e'
  have g6 : decide (x12 * 256 + x13 < 1536) = false := by simp; omega
  have hc1 : (Builtin.copy_ #[26, 26] 3 #[.slice (some ⟨w.heap.size + 1, 0, none⟩) 6 6, .slice (some ⟨b, off, none⟩) 14 14]).run Tryd.prog ((w.alloc (.cells #[.int .u8 0, .int .u8 0, .int .u8 0, .int .u8 0, .int .u8 0, .int .u8 0, .int .u8 0, .int .u8 0, .int .u8 0, .int .u8 0, .int .u8 0, .int .u8 0, .int .i64 0, .string ⟨#[]⟩] 41)).alloc (.cells #[.int .u8 0, .int .u8 0, .int .u8 0, .int .u8 0, .int .u8 0, .int .u8 0, .int .u8 0, .int .u8 0, .int .u8 0, .int .u8 0, .int .u8 0, .int .u8 0, .int .i64 (x12 * 256 + x13), .string ⟨#[]⟩] 41)).drew = .ok (goInt 6) ((w.alloc (.cells #[.int .u8 0, .int .u8 0, .int .u8 0, .int .u8 0, .int .u8 0, .int .u8 0, .int .u8 0, .int .u8 0, .int .u8 0, .int .u8 0, .int .u8 0, .int .u8 0, .int .i64 0, .string ⟨#[]⟩] 41)).alloc (.cells #[.int .u8 x0, .int .u8 x1, .int .u8 x2, .int .u8 x3, .int .u8 x4, .int .u8 x5, .int .u8 0, .int .u8 0, .int .u8 0, .int .u8 0, .int .u8 0, .int .u8 0, .int .i64 (x12 * 256 + x13), .string ⟨#[]⟩] 41)).drew := by
    have h := copy_part (w.alloc (.cells #[.int .u8 0, .int .u8 0, .int .u8 0, .int .u8 0, .int .u8 0, .int .u8 0, .int .u8 0, .int .u8 0, .int .u8 0, .int .u8 0, .int .u8 0, .int .u8 0, .int .i64 0, .string ⟨#[]⟩] 41)) (w.heap.size + 1) [.int .u8 0, .int .u8 0, .int .u8 0, .int .u8 0, .int .u8 0, .int .u8 0, .int .u8 0, .int .u8 0, .int .u8 0, .int .u8 0, .int .u8 0, .int .u8 0, .int .i64 (x12 * 256 + x13), .string ⟨#[]⟩] 41 3 0 6 6 1 ⟨b, off, none⟩ 14 14 [x0, x1, x2, x3, x4, x5] (by simp) (by rfl) (by simp) (src_of hp 0 6 _ rfl (by omega) (by omega) _ _)
    have e2 : (splice [.int .u8 0, .int .u8 0, .int .u8 0, .int .u8 0, .int .u8 0, .int .u8 0, .int .u8 0, .int .u8 0, .int .u8 0, .int .u8 0, .int .u8 0, .int .u8 0, .int .i64 (x12 * 256 + x13), .string ⟨#[]⟩] 0 (cel [x0, x1, x2, x3, x4, x5])).toArray = #[.int .u8 x0, .int .u8 x1, .int .u8 x2, .int .u8 x3, .int .u8 x4, .int .u8 x5, .int .u8 0, .int .u8 0, .int .u8 0, .int .u8 0, .int .u8 0, .int .u8 0, .int .i64 (x12 * 256 + x13), .string ⟨#[]⟩] := by kernel_rfl
    rw [e2] at h
    exact h
  have hc2 : (Builtin.copy_ #[26, 26] 3 #[.slice (some ⟨w.heap.size + 1, 6, none⟩) 6 6, .slice (some ⟨b, off + 6, none⟩) 8 8]).run Tryd.prog ((w.alloc (.cells #[.int .u8 0, .int .u8 0, .int .u8 0, .int .u8 0, .int .u8 0, .int .u8 0, .int .u8 0, .int .u8 0, .int .u8 0, .int .u8 0, .int .u8 0, .int .u8 0, .int .i64 0, .string ⟨#[]⟩] 41)).alloc (.cells #[.int .u8 x0, .int .u8 x1, .int .u8 x2, .int .u8 x3, .int .u8 x4, .int .u8 x5, .int .u8 0, .int .u8 0, .int .u8 0, .int .u8 0, .int .u8 0, .int .u8 0, .int .i64 (x12 * 256 + x13), .string ⟨#[]⟩] 41)).drew.drew = .ok (goInt 6) ((w.alloc (.cells #[.int .u8 0, .int .u8 0, .int .u8 0, .int .u8 0, .int .u8 0, .int .u8 0, .int .u8 0, .int .u8 0, .int .u8 0, .int .u8 0, .int .u8 0, .int .u8 0, .int .i64 0, .string ⟨#[]⟩] 41)).alloc (.cells #[.int .u8 x0, .int .u8 x1, .int .u8 x2, .int .u8 x3, .int .u8 x4, .int .u8 x5, .int .u8 x6, .int .u8 x7, .int .u8 x8, .int .u8 x9, .int .u8 x10, .int .u8 x11, .int .i64 (x12 * 256 + x13), .string ⟨#[]⟩] 41)).drew.drew := by
    have h := copy_part (w.alloc (.cells #[.int .u8 0, .int .u8 0, .int .u8 0, .int .u8 0, .int .u8 0, .int .u8 0, .int .u8 0, .int .u8 0, .int .u8 0, .int .u8 0, .int .u8 0, .int .u8 0, .int .i64 0, .string ⟨#[]⟩] 41)) (w.heap.size + 1) [.int .u8 x0, .int .u8 x1, .int .u8 x2, .int .u8 x3, .int .u8 x4, .int .u8 x5, .int .u8 0, .int .u8 0, .int .u8 0, .int .u8 0, .int .u8 0, .int .u8 0, .int .i64 (x12 * 256 + x13), .string ⟨#[]⟩] 41 3 6 6 6 2 ⟨b, off + 6, none⟩ 8 8 [x6, x7, x8, x9, x10, x11] (by simp) (by rfl) (by simp) (src_of hp 6 6 _ rfl (by omega) (by omega) _ _)
    have e2 : (splice [.int .u8 x0, .int .u8 x1, .int .u8 x2, .int .u8 x3, .int .u8 x4, .int .u8 x5, .int .u8 0, .int .u8 0, .int .u8 0, .int .u8 0, .int .u8 0, .int .u8 0, .int .i64 (x12 * 256 + x13), .string ⟨#[]⟩] 6 (cel [x6, x7, x8, x9, x10, x11])).toArray = #[.int .u8 x0, .int .u8 x1, .int .u8 x2, .int .u8 x3, .int .u8 x4, .int .u8 x5, .int .u8 x6, .int .u8 x7, .int .u8 x8, .int .u8 x9, .int .u8 x10, .int .u8 x11, .int .i64 (x12 * 256 + x13), .string ⟨#[]⟩] := by kernel_rfl
    rw [e2] at h
    exact h
  have hcv : (convert 26 9 (.slice (some ⟨b, off, none⟩) 0 0)).run Tryd.prog ((w.alloc (.cells #[.int .u8 0, .int .u8 0, .int .u8 0, .int .u8 0, .int .u8 0, .int .u8 0, .int .u8 0, .int .u8 0, .int .u8 0, .int .u8 0, .int .u8 0, .int .u8 0, .int .i64 0, .string ⟨#[]⟩] 41)).alloc (.cells #[.int .u8 x0, .int .u8 x1, .int .u8 x2, .int .u8 x3, .int .u8 x4, .int .u8 x5, .int .u8 x6, .int .u8 x7, .int .u8 x8, .int .u8 x9, .int .u8 x10, .int .u8 x11, .int .i64 (x12 * 256 + x13), .string ⟨#[]⟩] 41)).drew.drew = .ok (.string (strOfNums r)) ((w.alloc (.cells #[.int .u8 0, .int .u8 0, .int .u8 0, .int .u8 0, .int .u8 0, .int .u8 0, .int .u8 0, .int .u8 0, .int .u8 0, .int .u8 0, .int .u8 0, .int .u8 0, .int .i64 0, .string ⟨#[]⟩] 41)).alloc (.cells #[.int .u8 x0, .int .u8 x1, .int .u8 x2, .int .u8 x3, .int .u8 x4, .int .u8 x5, .int .u8 x6, .int .u8 x7, .int .u8 x8, .int .u8 x9, .int .u8 x10, .int .u8 x11, .int .i64 (x12 * 256 + x13), .string ⟨#[]⟩] 41)).drew.drew := by
    have hr : r = [] := List.eq_nil_of_length_eq_zero (by omega)
    rw [hr]
    exact convert_part (Part.gone rfl) 9 Tryd.underlying9
  clear hp hlen
  go_enter Tryd.func22, Tryd.ntmps22
  go_wp2_with fail
  go_region
  go_wp2
  go_region
  go_wp2
  exact bodyPost_ret (v := .tuple #[.agg #[.int .u8 x0, .int .u8 x1, .int .u8 x2, .int .u8 x3, .int .u8 x4, .int .u8 x5, .int .u8 x6, .int .u8 x7, .int .u8 x8, .int .u8 x9, .int .u8 x10, .int .u8 x11, .int .i64 (x12 * 256 + x13), .string (strOfNums r)], .int .i64 0]) (by simp [results, Tryd.results22, go_sem]) rfl ⟨rfl, below_drew (below_drew (((Below.refl _ _).alloc (Nat.le_refl _) _).alloc (by simp) _))⟩



end Go.Proofs.YtdoefjhdipkkeaaDoor.E
