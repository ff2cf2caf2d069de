/-
  What outriderref03.Decode does.
-/
import Derived.Test.YtdoefjhdipkkeaaDoorDecAny
namespace Go.Proofs.YtdoefjhdipkkeaaDoor
open Go.RowKit
set_option linter.unusedVariables false

set_option maxHeartbeats 400000 in
theorem rsix_short (a : Option Addr) (n c : Nat) (w : World) (h : n < 40) :
    Calls Tryd.prog 56 #[.slice a n c] w fun e w' => e = .returned (.tuple #[.agg #[.string ⟨#[]⟩, .string ⟨#[]⟩, .int .i64 0, .int .i64 0, .string ⟨#[]⟩], .int .i64 30]) ∧ Below w.heap.size w w' := by
  have d5 : decide ((n : Int) < 40) = true := by simp; omega
  have d6 : decide (n < 40) = true := by simp; omega
  go_enter Tryd.func56, Tryd.ntmps56
  go_wp2
  exact bodyPost_ret (v := .tuple #[.agg #[.string ⟨#[]⟩, .string ⟨#[]⟩, .int .i64 0, .int .i64 0, .string ⟨#[]⟩], .int .i64 30]) (by simp [results, Tryd.results56, go_sem]) rfl ⟨rfl, (Below.refl _ _).alloc (Nat.le_refl _) _⟩

set_option maxHeartbeats 400000 in
theorem rsix_long (b off n c : Nat) (bs : List Int) (w : World) (hp : Part w ⟨some ⟨b, off, none⟩, n, c, bs⟩) (hn : n ≤ 140737488355328) (h40 : 40 ≤ n) (hl : (n : Int) - 40 < twoAt bs 4) :
    Calls Tryd.prog 56 #[.slice (some ⟨b, off, none⟩) n c] w fun e w' => e = .returned (.tuple #[.agg #[.string ⟨#[]⟩, .string ⟨#[]⟩, .int .i64 0, .int .i64 0, .string ⟨#[]⟩], .int .i64 33]) ∧ Below w.heap.size w w' := by
  have d5 : decide ((n : Int) < 40) = false := by simp; omega
  have d6 : decide (n < 40) = false := by simp; omega
  have hbl : b < w.heap.size := World.block_lt_of_cell? _ _ (hp.at (by omega) 0 (by omega))
  have c4 := (hp.alloc (.cells #[.string ⟨#[]⟩, .string ⟨#[]⟩, .int .i64 0, .int .i64 0, .string ⟨#[]⟩] 72)).at (by omega) 4 (by omega)
  have q4 := byteAt_bd hp.2.2.1 4
  have c4' := hp.at (by omega) 4 (by omega)
  obtain ⟨x4, e4⟩ : ∃ x, x = byteAt bs 4 := ⟨_, rfl⟩
  rw [show byteAt (PartV.mk (some ⟨b, off, none⟩) n c bs).bs 4 = byteAt bs 4 from rfl, ← e4] at q4
  rw [← e4] at c4 c4'
  have j4 : (4 : Int) < (n : Int) := by omega
  have c5 := (hp.alloc (.cells #[.string ⟨#[]⟩, .string ⟨#[]⟩, .int .i64 0, .int .i64 0, .string ⟨#[]⟩] 72)).at (by omega) 5 (by omega)
  have q5 := byteAt_bd hp.2.2.1 5
  have c5' := hp.at (by omega) 5 (by omega)
  obtain ⟨x5, e5⟩ : ∃ x, x = byteAt bs 5 := ⟨_, rfl⟩
  rw [show byteAt (PartV.mk (some ⟨b, off, none⟩) n c bs).bs 5 = byteAt bs 5 from rfl, ← e5] at q5
  rw [← e5] at c5 c5'
  have j5 : (5 : Int) < (n : Int) := by omega
  have hl2 : (n : Int) - 40 < x4 * 256 + x5 := by rw [e4, e5]; exact hl
  have d7 : decide ((n : Int) - 40 < x4 * 256 + x5) = true := by simpa using hl2
  clear hp e4 e5 hl
  go_enter Tryd.func56, Tryd.ntmps56
  go_wp2_with fail
  go_region
  go_wp2
  exact bodyPost_ret (v := .tuple #[.agg #[.string ⟨#[]⟩, .string ⟨#[]⟩, .int .i64 0, .int .i64 0, .string ⟨#[]⟩], .int .i64 33]) (by simp [results, Tryd.results56, go_sem]) rfl ⟨rfl, below_drew ((Below.refl _ _).alloc (Nat.le_refl _) _)⟩

set_option maxHeartbeats 1000000 in
theorem rsix_ok (b off n c : Nat) (bs : List Int) (w : World) (hp : Part w ⟨some ⟨b, off, none⟩, n, c, bs⟩) (hn : n ≤ 140737488355328) (h40 : 40 ≤ n) (A : Option Addr) (hA : (if c = 40 then some (⟨b, off, none⟩ : Addr) else some ⟨b, off + 40, none⟩) = A) (m : Nat) (hm : twoAt bs 4 = m) (hl : 40 + m ≤ n) :
    Calls Tryd.prog 56 #[.slice (some ⟨b, off, none⟩) n c] w fun e w' => e = .returned (.tuple #[.agg #[.string (seg bs 8 16), .string (seg bs 24 16), .int .i64 (byteAt bs 6), .int .i64 (byteAt bs 7), .string (seg bs 40 m)], .int .i64 0]) ∧ Below w.heap.size w w' := by
  have d5 : decide ((n : Int) < 40) = false := by simp; omega
  have d6 : decide (n < 40) = false := by simp; omega
  have hbl : b < w.heap.size := World.block_lt_of_cell? _ _ (hp.at (by omega) 0 (by omega))
  have hnc : n ≤ c := hp.2.1
  have c4 := (hp.alloc (.cells #[.string ⟨#[]⟩, .string ⟨#[]⟩, .int .i64 0, .int .i64 0, .string ⟨#[]⟩] 72)).at (by omega) 4 (by omega)
  have q4 := byteAt_bd hp.2.2.1 4
  have c4' := hp.at (by omega) 4 (by omega)
  obtain ⟨x4, e4⟩ : ∃ x, x = byteAt bs 4 := ⟨_, rfl⟩
  rw [show byteAt (PartV.mk (some ⟨b, off, none⟩) n c bs).bs 4 = byteAt bs 4 from rfl, ← e4] at q4
  rw [← e4] at c4 c4'
  have j4 : (4 : Int) < (n : Int) := by omega
  have c5 := (hp.alloc (.cells #[.string ⟨#[]⟩, .string ⟨#[]⟩, .int .i64 0, .int .i64 0, .string ⟨#[]⟩] 72)).at (by omega) 5 (by omega)
  have q5 := byteAt_bd hp.2.2.1 5
  have c5' := hp.at (by omega) 5 (by omega)
  obtain ⟨x5, e5⟩ : ∃ x, x = byteAt bs 5 := ⟨_, rfl⟩
  rw [show byteAt (PartV.mk (some ⟨b, off, none⟩) n c bs).bs 5 = byteAt bs 5 from rfl, ← e5] at q5
  rw [← e5] at c5 c5'
  have j5 : (5 : Int) < (n : Int) := by omega
  have c6 := (hp.alloc (.cells #[.string ⟨#[]⟩, .string ⟨#[]⟩, .int .i64 0, .int .i64 0, .string ⟨#[]⟩] 72)).at (by omega) 6 (by omega)
  have q6 := byteAt_bd hp.2.2.1 6
  have c6' := hp.at (by omega) 6 (by omega)
  obtain ⟨x6, e6⟩ : ∃ x, x = byteAt bs 6 := ⟨_, rfl⟩
  rw [show byteAt (PartV.mk (some ⟨b, off, none⟩) n c bs).bs 6 = byteAt bs 6 from rfl, ← e6] at q6
  rw [← e6] at c6 c6'
  have j6 : (6 : Int) < (n : Int) := by omega
  have c7 := (hp.alloc (.cells #[.string ⟨#[]⟩, .string ⟨#[]⟩, .int .i64 0, .int .i64 0, .string ⟨#[]⟩] 72)).at (by omega) 7 (by omega)
  have q7 := byteAt_bd hp.2.2.1 7
  have c7' := hp.at (by omega) 7 (by omega)
  obtain ⟨x7, e7⟩ : ∃ x, x = byteAt bs 7 := ⟨_, rfl⟩
  rw [show byteAt (PartV.mk (some ⟨b, off, none⟩) n c bs).bs 7 = byteAt bs 7 from rfl, ← e7] at q7
  rw [← e7] at c7 c7'
  have j7 : (7 : Int) < (n : Int) := by omega
  rw [← e6, ← e7]
  have hm2 : x4 * 256 + x5 = (m : Int) := by rw [e4, e5]; exact hm
  have d7 : decide ((n : Int) - 40 < (m : Int)) = false := by simp; omega
  have i1 : (24 : Int) ≤ (c : Int) := by omega
  have i2 : (40 : Int) ≤ (c : Int) := by omega
  have i3 : 40 + (m : Int) ≤ (c : Int) := by omega
  have i4 : (40 : Int) ≤ 40 + (m : Int) := by omega
  have i5 : (40 + (m : Int)).toNat = 40 + m := by omega
  have i6 : 40 + m - 40 = m := by omega
  have n1 : c ≠ 8 := by omega
  have n2 : c ≠ 24 := by omega
  obtain ⟨s1, es1⟩ : ∃ x, x = seg bs 8 16 := ⟨_, rfl⟩
  obtain ⟨s2, es2⟩ : ∃ x, x = seg bs 24 16 := ⟨_, rfl⟩
  obtain ⟨s3, es3⟩ : ∃ x, x = seg bs 40 m := ⟨_, rfl⟩
  have hr : Part w ⟨A, m, c - 40, (bs.drop 40).take m⟩ := by
    have h2 := hp.sub 40 m (by omega)
    rw [← hA]
    simpa [add_plain] using h2
  have J1 : (convert 26 24 (.slice (some ⟨b, off + 8, none⟩) 16 (c - 8))).run Tryd.prog (w.alloc (.cells #[.string ⟨#[]⟩, .string ⟨#[]⟩, .int .i64 0, .int .i64 0, .string ⟨#[]⟩] 72)).drew.drew = .ok (.string s1) (w.alloc (.cells #[.string ⟨#[]⟩, .string ⟨#[]⟩, .int .i64 0, .int .i64 0, .string ⟨#[]⟩] 72)).drew.drew := by
    rw [es1]; exact convert_part (((hp.cut3 8 16 (c - 8) (by omega) (by omega)).alloc _).drewN 2) 24 Tryd.underlying24
  have J2 : (convert 26 24 (.slice (some ⟨b, off + 24, none⟩) 16 (c - 24))).run Tryd.prog (w.alloc (.cells #[.string ⟨#[]⟩, .string ⟨#[]⟩, .int .i64 0, .int .i64 0, .string ⟨#[]⟩] 72)).drew.drew = .ok (.string s2) (w.alloc (.cells #[.string ⟨#[]⟩, .string ⟨#[]⟩, .int .i64 0, .int .i64 0, .string ⟨#[]⟩] 72)).drew.drew := by
    rw [es2]; exact convert_part (((hp.cut3 24 16 (c - 24) (by omega) (by omega)).alloc _).drewN 2) 24 Tryd.underlying24
  have J3 : (convert 26 9 (.slice A m (c - 40))).run Tryd.prog (w.alloc (.cells #[.string ⟨#[]⟩, .string ⟨#[]⟩, .int .i64 0, .int .i64 0, .string ⟨#[]⟩] 72)).drew.drew = .ok (.string s3) (w.alloc (.cells #[.string ⟨#[]⟩, .string ⟨#[]⟩, .int .i64 0, .int .i64 0, .string ⟨#[]⟩] 72)).drew.drew := by
    rw [es3]; exact convert_part (((hr).alloc _).drewN 2) 9 Tryd.underlying9
  rw [← es1, ← es2, ← es3]
  clear hp hr e4 e5 e6 e7 es1 es2 es3 hm
  go_enter Tryd.func56, Tryd.ntmps56
  go_wp2_with fail
  go_region
  go_wp2_with fail
  go_region
  go_wp2
  exact bodyPost_ret (v := .tuple #[.agg #[.string s1, .string s2, .int .i64 x6, .int .i64 x7, .string s3], .int .i64 0]) (by simp [results, Tryd.results56, go_sem]) rfl ⟨rfl, below_drew (below_drew ((Below.refl _ _).alloc (Nat.le_refl _) _))⟩

/-- outriderref03.six. -/
theorem rsix_any (a : Option Addr) (n c : Nat) (bs : List Int) (w : World) (hp : Part w ⟨a, n, c, bs⟩) (hn : n ≤ 140737488355328) (f t : ByteArray) (p l : Int) (s : ByteArray) (r : Int) (hd : dec6 bs = (⟨f, t, p, l, s⟩, r)) :
    Calls Tryd.prog 56 #[.slice a n c] w fun e w' => e = .returned (.tuple #[.agg #[.string f, .string t, .int .i64 p, .int .i64 l, .string s], .int .i64 r]) ∧ Below w.heap.size w w' := by
  have hbn : bs.length = n := hp.1
  have hb4 : 0 ≤ byteAt bs 4 ∧ byteAt bs 4 ≤ 255 := byteAt_bd hp.2.2.1 4
  have hb5 : 0 ≤ byteAt bs 5 ∧ byteAt bs 5 ≤ 255 := byteAt_bd hp.2.2.1 5
  have t4 : twoAt bs 4 = byteAt bs 4 * 256 + byteAt bs 5 := rfl
  unfold dec6 at hd
  rw [hbn] at hd
  by_cases h40 : n < 40
  · rw [if_pos h40] at hd
    simp [Pk.zero] at hd
    obtain ⟨⟨rfl, rfl, rfl, rfl, rfl⟩, rfl⟩ := hd
    exact rsix_short a n c w h40
  rw [if_neg h40] at hd
  obtain ⟨b, off, e, _⟩ := hp.2.2.2 (show 0 < n by omega)
  have e' : a = some ⟨b, off, none⟩ := e
  subst e'
  by_cases hl : (n : Int) - 40 < twoAt bs 4
  · rw [if_pos hl] at hd
    simp [Pk.zero] at hd
    obtain ⟨⟨rfl, rfl, rfl, rfl, rfl⟩, rfl⟩ := hd
    exact rsix_long b off n c bs w hp hn (by omega) hl
  · rw [if_neg hl] at hd
    simp at hd
    obtain ⟨⟨rfl, rfl, rfl, rfl, rfl⟩, rfl⟩ := hd
    exact rsix_ok b off n c bs w hp hn (by omega) _ rfl (twoAt bs 4).toNat (by omega) (by omega)

end Go.Proofs.YtdoefjhdipkkeaaDoor

namespace Go.Proofs.YtdoefjhdipkkeaaDoor
open Go.RowKit
set_option maxRecDepth 100000
set_option linter.unusedVariables false

set_option maxHeartbeats 400000 in
theorem rdec_empty (a : Option Addr) (c : Nat) (w : World) :
    Calls Tryd.prog 39 #[.slice a 0 c] w fun e w' => e = .returned (.tuple #[.agg #[.string ⟨#[]⟩, .string ⟨#[]⟩, .int .i64 0, .int .i64 0, .string ⟨#[]⟩], .int .i64 30]) ∧ Below w.heap.size w w' := by
  go_enter Tryd.func39, Tryd.ntmps39
  go_wp2
  exact bodyPost_ret (v := .tuple #[.agg #[.string ⟨#[]⟩, .string ⟨#[]⟩, .int .i64 0, .int .i64 0, .string ⟨#[]⟩], .int .i64 30]) (by simp [results, Tryd.results39, go_sem]) rfl ⟨rfl, (Below.refl _ _).alloc (Nat.le_refl _) _⟩

set_option maxHeartbeats 400000 in
theorem rdec_six (b off n c : Nat) (bs : List Int) (w : World) (hp : Part w ⟨some ⟨b, off, none⟩, n, c, bs⟩) (hn : n ≤ 140737488355328) (h1 : 1 ≤ n) (x0 : Int) (e0 : byteAt bs 0 = x0) (h : x0 / 16 = 6) (f t : ByteArray) (p l : Int) (s : ByteArray) (r : Int) (hd : dec6 bs = (⟨f, t, p, l, s⟩, r)) :
    Calls Tryd.prog 39 #[.slice (some ⟨b, off, none⟩) n c] w fun e w' => e = .returned (.tuple #[.agg #[.string f, .string t, .int .i64 p, .int .i64 l, .string s], .int .i64 r]) ∧ Below w.heap.size w w' := by
  have hnc : n ≤ c := hp.2.1
  have g0 : decide ((n : Int) = 0) = false := by simp; omega
  have g1 : decide (n = 0) = false := by simp; omega
  have hbl : b < w.heap.size := World.block_lt_of_cell? _ _ (hp.at (by omega) 0 (by omega))
  have c0 : w.cell? ⟨b, off + 0, none⟩ = some (.int .u8 x0) := by rw [← e0]; exact hp.at (by omega) 0 (by omega)
  have j0 : (0 : Int) < (n : Int) := by omega
  have q0 : 0 ≤ x0 ∧ x0 ≤ 255 := by rw [← e0]; exact byteAt_bd hp.2.2.1 0
  have c0' : w.cell? ⟨b, off, none⟩ = some (.int .u8 x0) := c0
  have HP := Lib.hid hp
  have HD := Lib.hid hd
  clear hp hd
  go_enter Tryd.func39, Tryd.ntmps39
  go_wp2_with fail
  refine (rsix_any _ n c bs _ (HP.out.alloc _) hn f t p l s r HD.out).mono ?_
  rintro e w1 ⟨rfl, hb1⟩
  obtain ⟨hc1, hf1⟩ := bcell hb1
  have z1 := hb1.size
  simp at z1
  have z2 : w.heap.size < w1.heap.size := by omega
  go_wp2
  refine bodyPost_ret (v := .tuple #[.agg #[.string f, .string t, .int .i64 p, .int .i64 l, .string s], .int .i64 r]) (by simp [results, Tryd.results39, go_sem, hc1]) rfl ⟨rfl, ?_⟩
  exact below5 (below_then ((Below.refl _ _).alloc (Nat.le_refl _) _) (by simp) hb1)

set_option maxHeartbeats 1000000 in
theorem rdec_version (b off n c : Nat) (bs : List Int) (w : World) (hp : Part w ⟨some ⟨b, off, none⟩, n, c, bs⟩) (hn : n ≤ 140737488355328) (h1 : 1 ≤ n) (x0 : Int) (e0 : byteAt bs 0 = x0) (h6 : x0 / 16 ≠ 6) (h4 : x0 / 16 ≠ 4) :
    Calls Tryd.prog 39 #[.slice (some ⟨b, off, none⟩) n c] w fun e w' => e = .returned (.tuple #[.agg #[.string ⟨#[]⟩, .string ⟨#[]⟩, .int .i64 0, .int .i64 0, .string ⟨#[]⟩], .int .i64 31]) ∧ Below w.heap.size w w' := by
  have hnc : n ≤ c := hp.2.1
  have g0 : decide ((n : Int) = 0) = false := by simp; omega
  have g1 : decide (n = 0) = false := by simp; omega
  have hbl : b < w.heap.size := World.block_lt_of_cell? _ _ (hp.at (by omega) 0 (by omega))
  have c0 : w.cell? ⟨b, off + 0, none⟩ = some (.int .u8 x0) := by rw [← e0]; exact hp.at (by omega) 0 (by omega)
  have j0 : (0 : Int) < (n : Int) := by omega
  have q0 : 0 ≤ x0 ∧ x0 ≤ 255 := by rw [← e0]; exact byteAt_bd hp.2.2.1 0
  have c0' : w.cell? ⟨b, off, none⟩ = some (.int .u8 x0) := c0
  have d6 : decide (x0 / 16 = 6) = false := by simpa using h6
  have d4 : decide (x0 / 16 = 4) = false := by simpa using h4
  have b4 : (x0 / 16 != 4) = true := by simpa using h4
  have HP := Lib.hid hp
  clear hp
  go_enter Tryd.func39, Tryd.ntmps39
  go_wp2
  exact bodyPost_ret (v := .tuple #[.agg #[.string ⟨#[]⟩, .string ⟨#[]⟩, .int .i64 0, .int .i64 0, .string ⟨#[]⟩], .int .i64 31]) (by simp [results, Tryd.results39, go_sem]) rfl ⟨rfl, (Below.refl _ _).alloc (Nat.le_refl _) _⟩

set_option maxHeartbeats 1000000 in
theorem rdec_short (b off n c : Nat) (bs : List Int) (w : World) (hp : Part w ⟨some ⟨b, off, none⟩, n, c, bs⟩) (hn : n ≤ 140737488355328) (h1 : 1 ≤ n) (x0 : Int) (e0 : byteAt bs 0 = x0) (h4 : x0 / 16 = 4) (h : n < 20) :
    Calls Tryd.prog 39 #[.slice (some ⟨b, off, none⟩) n c] w fun e w' => e = .returned (.tuple #[.agg #[.string ⟨#[]⟩, .string ⟨#[]⟩, .int .i64 0, .int .i64 0, .string ⟨#[]⟩], .int .i64 30]) ∧ Below w.heap.size w w' := by
  have hnc : n ≤ c := hp.2.1
  have g0 : decide ((n : Int) = 0) = false := by simp; omega
  have g1 : decide (n = 0) = false := by simp; omega
  have hbl : b < w.heap.size := World.block_lt_of_cell? _ _ (hp.at (by omega) 0 (by omega))
  have c0 : w.cell? ⟨b, off + 0, none⟩ = some (.int .u8 x0) := by rw [← e0]; exact hp.at (by omega) 0 (by omega)
  have j0 : (0 : Int) < (n : Int) := by omega
  have q0 : 0 ≤ x0 ∧ x0 ≤ 255 := by rw [← e0]; exact byteAt_bd hp.2.2.1 0
  have c0' : w.cell? ⟨b, off, none⟩ = some (.int .u8 x0) := c0
  have d5 : decide ((n : Int) < 20) = true := by simp; omega
  have d6 : decide (n < 20) = true := by simp; omega
  have HP := Lib.hid hp
  clear hp
  go_enter Tryd.func39, Tryd.ntmps39
  go_wp2
  exact bodyPost_ret (v := .tuple #[.agg #[.string ⟨#[]⟩, .string ⟨#[]⟩, .int .i64 0, .int .i64 0, .string ⟨#[]⟩], .int .i64 30]) (by simp [results, Tryd.results39, go_sem]) rfl ⟨rfl, (Below.refl _ _).alloc (Nat.le_refl _) _⟩

set_option maxHeartbeats 1000000 in
theorem rdec_head (b off n c : Nat) (bs : List Int) (w : World) (hp : Part w ⟨some ⟨b, off, none⟩, n, c, bs⟩) (hn : n ≤ 140737488355328) (h1 : 1 ≤ n) (x0 : Int) (e0 : byteAt bs 0 = x0) (h4 : x0 / 16 = 4) (h : 20 ≤ n) (h69 : x0 ≠ 69) :
    Calls Tryd.prog 39 #[.slice (some ⟨b, off, none⟩) n c] w fun e w' => e = .returned (.tuple #[.agg #[.string ⟨#[]⟩, .string ⟨#[]⟩, .int .i64 0, .int .i64 0, .string ⟨#[]⟩], .int .i64 32]) ∧ Below w.heap.size w w' := by
  have hnc : n ≤ c := hp.2.1
  have g0 : decide ((n : Int) = 0) = false := by simp; omega
  have g1 : decide (n = 0) = false := by simp; omega
  have hbl : b < w.heap.size := World.block_lt_of_cell? _ _ (hp.at (by omega) 0 (by omega))
  have c0 : w.cell? ⟨b, off + 0, none⟩ = some (.int .u8 x0) := by rw [← e0]; exact hp.at (by omega) 0 (by omega)
  have j0 : (0 : Int) < (n : Int) := by omega
  have q0 : 0 ≤ x0 ∧ x0 ≤ 255 := by rw [← e0]; exact byteAt_bd hp.2.2.1 0
  have c0' : w.cell? ⟨b, off, none⟩ = some (.int .u8 x0) := c0
  have d5 : decide ((n : Int) < 20) = false := by simp; omega
  have d6 : decide (n < 20) = false := by simp; omega
  have d9 : decide (x0 = 69) = false := by simpa using h69
  have b9 : (x0 != 69) = true := by simpa using h69
  have HP := Lib.hid hp
  clear hp
  go_enter Tryd.func39, Tryd.ntmps39
  go_wp2
  exact bodyPost_ret (v := .tuple #[.agg #[.string ⟨#[]⟩, .string ⟨#[]⟩, .int .i64 0, .int .i64 0, .string ⟨#[]⟩], .int .i64 32]) (by simp [results, Tryd.results39, go_sem]) rfl ⟨rfl, (Below.refl _ _).alloc (Nat.le_refl _) _⟩

set_option maxHeartbeats 1000000 in
theorem rdec_low (b off n c : Nat) (bs : List Int) (w : World) (hp : Part w ⟨some ⟨b, off, none⟩, n, c, bs⟩) (hn : n ≤ 140737488355328) (h1 : 1 ≤ n) (e0 : byteAt bs 0 = 69) (x2 : Int) (e2 : byteAt bs 2 = x2) (x3 : Int) (e3 : byteAt bs 3 = x3) (z : Int) (hz : x2 * 256 + x3 = z) (h : 20 ≤ n) (h2 : z < 20) :
    Calls Tryd.prog 39 #[.slice (some ⟨b, off, none⟩) n c] w fun e w' => e = .returned (.tuple #[.agg #[.string ⟨#[]⟩, .string ⟨#[]⟩, .int .i64 0, .int .i64 0, .string ⟨#[]⟩], .int .i64 33]) ∧ Below w.heap.size w w' := by
  have hnc : n ≤ c := hp.2.1
  have g0 : decide ((n : Int) = 0) = false := by simp; omega
  have g1 : decide (n = 0) = false := by simp; omega
  have hbl : b < w.heap.size := World.block_lt_of_cell? _ _ (hp.at (by omega) 0 (by omega))
  have c0 : w.cell? ⟨b, off + 0, none⟩ = some (.int .u8 69) := by rw [← e0]; exact hp.at (by omega) 0 (by omega)
  have j0 : (0 : Int) < (n : Int) := by omega
  have c0' : w.cell? ⟨b, off, none⟩ = some (.int .u8 69) := c0
  have c2 : w.cell? ⟨b, off + 2, none⟩ = some (.int .u8 x2) := by rw [← e2]; exact hp.at (by omega) 2 (by omega)
  have j2 : (2 : Int) < (n : Int) := by omega
  have q2 : 0 ≤ x2 ∧ x2 ≤ 255 := by rw [← e2]; exact byteAt_bd hp.2.2.1 2
  have c3 : w.cell? ⟨b, off + 3, none⟩ = some (.int .u8 x3) := by rw [← e3]; exact hp.at (by omega) 3 (by omega)
  have j3 : (3 : Int) < (n : Int) := by omega
  have q3 : 0 ≤ x3 ∧ x3 ≤ 255 := by rw [← e3]; exact byteAt_bd hp.2.2.1 3
  have d5 : decide ((n : Int) < 20) = false := by simp; omega
  have d6 : decide (n < 20) = false := by simp; omega
  have zb : 0 ≤ z ∧ z ≤ 65535 := by omega
  have d1 : decide (z < 20) = true := by simpa using h2
  have HP := Lib.hid hp
  clear hp
  go_enter Tryd.func39, Tryd.ntmps39
  go_wp2_with fail
  go_region
  go_wp2
  exact bodyPost_ret (v := .tuple #[.agg #[.string ⟨#[]⟩, .string ⟨#[]⟩, .int .i64 0, .int .i64 0, .string ⟨#[]⟩], .int .i64 33]) (by simp [results, Tryd.results39, go_sem]) rfl ⟨rfl, below_drew ((Below.refl _ _).alloc (Nat.le_refl _) _)⟩

set_option maxHeartbeats 1000000 in
theorem rdec_long (b off n c : Nat) (bs : List Int) (w : World) (hp : Part w ⟨some ⟨b, off, none⟩, n, c, bs⟩) (hn : n ≤ 140737488355328) (h1 : 1 ≤ n) (e0 : byteAt bs 0 = 69) (x2 : Int) (e2 : byteAt bs 2 = x2) (x3 : Int) (e3 : byteAt bs 3 = x3) (z : Int) (hz : x2 * 256 + x3 = z) (h : 20 ≤ n) (h2 : 20 ≤ z) (h3 : (n : Int) < z) :
    Calls Tryd.prog 39 #[.slice (some ⟨b, off, none⟩) n c] w fun e w' => e = .returned (.tuple #[.agg #[.string ⟨#[]⟩, .string ⟨#[]⟩, .int .i64 0, .int .i64 0, .string ⟨#[]⟩], .int .i64 33]) ∧ Below w.heap.size w w' := by
  have hnc : n ≤ c := hp.2.1
  have g0 : decide ((n : Int) = 0) = false := by simp; omega
  have g1 : decide (n = 0) = false := by simp; omega
  have hbl : b < w.heap.size := World.block_lt_of_cell? _ _ (hp.at (by omega) 0 (by omega))
  have c0 : w.cell? ⟨b, off + 0, none⟩ = some (.int .u8 69) := by rw [← e0]; exact hp.at (by omega) 0 (by omega)
  have j0 : (0 : Int) < (n : Int) := by omega
  have c0' : w.cell? ⟨b, off, none⟩ = some (.int .u8 69) := c0
  have c2 : w.cell? ⟨b, off + 2, none⟩ = some (.int .u8 x2) := by rw [← e2]; exact hp.at (by omega) 2 (by omega)
  have j2 : (2 : Int) < (n : Int) := by omega
  have q2 : 0 ≤ x2 ∧ x2 ≤ 255 := by rw [← e2]; exact byteAt_bd hp.2.2.1 2
  have c3 : w.cell? ⟨b, off + 3, none⟩ = some (.int .u8 x3) := by rw [← e3]; exact hp.at (by omega) 3 (by omega)
  have j3 : (3 : Int) < (n : Int) := by omega
  have q3 : 0 ≤ x3 ∧ x3 ≤ 255 := by rw [← e3]; exact byteAt_bd hp.2.2.1 3
  have d5 : decide ((n : Int) < 20) = false := by simp; omega
  have d6 : decide (n < 20) = false := by simp; omega
  have zb : 0 ≤ z ∧ z ≤ 65535 := by omega
  have d1 : decide (z < 20) = false := by simp; omega
  have d2 : decide ((n : Int) < z) = true := by simpa using h3
  have HP := Lib.hid hp
  clear hp
  go_enter Tryd.func39, Tryd.ntmps39
  go_wp2_with fail
  go_region
  go_wp2
  exact bodyPost_ret (v := .tuple #[.agg #[.string ⟨#[]⟩, .string ⟨#[]⟩, .int .i64 0, .int .i64 0, .string ⟨#[]⟩], .int .i64 33]) (by simp [results, Tryd.results39, go_sem]) rfl ⟨rfl, below_drew ((Below.refl _ _).alloc (Nat.le_refl _) _)⟩

set_option maxHeartbeats 1000000 in
theorem rdec_sum (b off n c : Nat) (bs : List Int) (w : World) (hp : Part w ⟨some ⟨b, off, none⟩, n, c, bs⟩) (hn : n ≤ 140737488355328) (h1 : 1 ≤ n) (e0 : byteAt bs 0 = 69) (x2 : Int) (e2 : byteAt bs 2 = x2) (x3 : Int) (e3 : byteAt bs 3 = x3) (z : Int) (hz : x2 * 256 + x3 = z) (h : 20 ≤ n) (h2 : 20 ≤ z) (h3 : z ≤ (n : Int)) (S : Int) (hs : fd (tot (bs.take 20)) = S) (hS : S ≠ 65535) :
    Calls Tryd.prog 39 #[.slice (some ⟨b, off, none⟩) n c] w fun e w' => e = .returned (.tuple #[.agg #[.string ⟨#[]⟩, .string ⟨#[]⟩, .int .i64 0, .int .i64 0, .string ⟨#[]⟩], .int .i64 34]) ∧ Below w.heap.size w w' := by
  have hnc : n ≤ c := hp.2.1
  have g0 : decide ((n : Int) = 0) = false := by simp; omega
  have g1 : decide (n = 0) = false := by simp; omega
  have hbl : b < w.heap.size := World.block_lt_of_cell? _ _ (hp.at (by omega) 0 (by omega))
  have c0 : w.cell? ⟨b, off + 0, none⟩ = some (.int .u8 69) := by rw [← e0]; exact hp.at (by omega) 0 (by omega)
  have j0 : (0 : Int) < (n : Int) := by omega
  have c0' : w.cell? ⟨b, off, none⟩ = some (.int .u8 69) := c0
  have c2 : w.cell? ⟨b, off + 2, none⟩ = some (.int .u8 x2) := by rw [← e2]; exact hp.at (by omega) 2 (by omega)
  have j2 : (2 : Int) < (n : Int) := by omega
  have q2 : 0 ≤ x2 ∧ x2 ≤ 255 := by rw [← e2]; exact byteAt_bd hp.2.2.1 2
  have c3 : w.cell? ⟨b, off + 3, none⟩ = some (.int .u8 x3) := by rw [← e3]; exact hp.at (by omega) 3 (by omega)
  have j3 : (3 : Int) < (n : Int) := by omega
  have q3 : 0 ≤ x3 ∧ x3 ≤ 255 := by rw [← e3]; exact byteAt_bd hp.2.2.1 3
  have d5 : decide ((n : Int) < 20) = false := by simp; omega
  have d6 : decide (n < 20) = false := by simp; omega
  have zb : 0 ≤ z ∧ z ≤ 65535 := by omega
  have d1 : decide (z < 20) = false := by simp; omega
  have d2 : decide ((n : Int) < z) = false := by simp; omega
  have ic : (20 : Int) ≤ (c : Int) := by omega
  have ic2 : 20 ≤ c := by omega
  have dS : decide (S = 65535) = false := by simpa using hS
  have bS : (S != 65535) = true := by simpa using hS
  have HS := Lib.hid hs
  clear hs
  have HP := Lib.hid hp
  clear hp
  go_enter Tryd.func39, Tryd.ntmps39
  go_wp2_with fail
  go_region
  go_wp2_with fail
  refine (rsum_any (some ⟨b, off, none⟩) 20 c (bs.take 20) (w.alloc (.cells #[.string ⟨#[]⟩, .string ⟨#[]⟩, .int .i64 0, .int .i64 0, .string ⟨#[]⟩] 72)).drew (((HP.out.alloc (.cells #[.string ⟨#[]⟩, .string ⟨#[]⟩, .int .i64 0, .int .i64 0, .string ⟨#[]⟩] 72)).drewN 1).first 20 (by omega)) (by omega)).mono ?_
  rintro e w' ⟨rfl, rfl⟩
  rw [HS.out]
  go_wp2
  exact bodyPost_ret (v := .tuple #[.agg #[.string ⟨#[]⟩, .string ⟨#[]⟩, .int .i64 0, .int .i64 0, .string ⟨#[]⟩], .int .i64 34]) (by simp [results, Tryd.results39, go_sem]) rfl ⟨rfl, below_drew ((Below.refl _ _).alloc (Nat.le_refl _) _)⟩

set_option maxHeartbeats 1000000 in
theorem rdec_part7 (b off n c : Nat) (bs : List Int) (w : World) (hp : Part w ⟨some ⟨b, off, none⟩, n, c, bs⟩) (hn : n ≤ 140737488355328) (h1 : 1 ≤ n) (e0 : byteAt bs 0 = 69) (x2 : Int) (e2 : byteAt bs 2 = x2) (x3 : Int) (e3 : byteAt bs 3 = x3) (z : Int) (hz : x2 * 256 + x3 = z) (h : 20 ≤ n) (x7 : Int) (e7 : byteAt bs 7 = x7) (h2 : 20 ≤ z) (h3 : z ≤ (n : Int)) (hs : fd (tot (bs.take 20)) = 65535) (h7 : x7 ≠ 0) :
    Calls Tryd.prog 39 #[.slice (some ⟨b, off, none⟩) n c] w fun e w' => e = .returned (.tuple #[.agg #[.string ⟨#[]⟩, .string ⟨#[]⟩, .int .i64 0, .int .i64 0, .string ⟨#[]⟩], .int .i64 32]) ∧ Below w.heap.size w w' := by
  have hnc : n ≤ c := hp.2.1
  have g0 : decide ((n : Int) = 0) = false := by simp; omega
  have g1 : decide (n = 0) = false := by simp; omega
  have hbl : b < w.heap.size := World.block_lt_of_cell? _ _ (hp.at (by omega) 0 (by omega))
  have c0 : w.cell? ⟨b, off + 0, none⟩ = some (.int .u8 69) := by rw [← e0]; exact hp.at (by omega) 0 (by omega)
  have j0 : (0 : Int) < (n : Int) := by omega
  have c0' : w.cell? ⟨b, off, none⟩ = some (.int .u8 69) := c0
  have c2 : w.cell? ⟨b, off + 2, none⟩ = some (.int .u8 x2) := by rw [← e2]; exact hp.at (by omega) 2 (by omega)
  have j2 : (2 : Int) < (n : Int) := by omega
  have q2 : 0 ≤ x2 ∧ x2 ≤ 255 := by rw [← e2]; exact byteAt_bd hp.2.2.1 2
  have c3 : w.cell? ⟨b, off + 3, none⟩ = some (.int .u8 x3) := by rw [← e3]; exact hp.at (by omega) 3 (by omega)
  have j3 : (3 : Int) < (n : Int) := by omega
  have q3 : 0 ≤ x3 ∧ x3 ≤ 255 := by rw [← e3]; exact byteAt_bd hp.2.2.1 3
  have c7 : w.cell? ⟨b, off + 7, none⟩ = some (.int .u8 x7) := by rw [← e7]; exact hp.at (by omega) 7 (by omega)
  have j7 : (7 : Int) < (n : Int) := by omega
  have q7 : 0 ≤ x7 ∧ x7 ≤ 255 := by rw [← e7]; exact byteAt_bd hp.2.2.1 7
  have d5 : decide ((n : Int) < 20) = false := by simp; omega
  have d6 : decide (n < 20) = false := by simp; omega
  have zb : 0 ≤ z ∧ z ≤ 65535 := by omega
  have d1 : decide (z < 20) = false := by simp; omega
  have d2 : decide ((n : Int) < z) = false := by simp; omega
  have ic : (20 : Int) ≤ (c : Int) := by omega
  have ic2 : 20 ≤ c := by omega
  have d7 : decide (x7 = 0) = false := by simpa using h7
  have b7 : (x7 != 0) = true := by simpa using h7
  have HS := Lib.hid hs
  clear hs
  have HP := Lib.hid hp
  clear hp
  go_enter Tryd.func39, Tryd.ntmps39
  go_wp2_with fail
  go_region
  go_wp2_with fail
  refine (rsum_any (some ⟨b, off, none⟩) 20 c (bs.take 20) (w.alloc (.cells #[.string ⟨#[]⟩, .string ⟨#[]⟩, .int .i64 0, .int .i64 0, .string ⟨#[]⟩] 72)).drew (((HP.out.alloc (.cells #[.string ⟨#[]⟩, .string ⟨#[]⟩, .int .i64 0, .int .i64 0, .string ⟨#[]⟩] 72)).drewN 1).first 20 (by omega)) (by omega)).mono ?_
  rintro e w' ⟨rfl, rfl⟩
  rw [HS.out]
  go_wp2
  exact bodyPost_ret (v := .tuple #[.agg #[.string ⟨#[]⟩, .string ⟨#[]⟩, .int .i64 0, .int .i64 0, .string ⟨#[]⟩], .int .i64 32]) (by simp [results, Tryd.results39, go_sem]) rfl ⟨rfl, below_drew ((Below.refl _ _).alloc (Nat.le_refl _) _)⟩

set_option maxHeartbeats 1000000 in
theorem rdec_part6 (b off n c : Nat) (bs : List Int) (w : World) (hp : Part w ⟨some ⟨b, off, none⟩, n, c, bs⟩) (hn : n ≤ 140737488355328) (h1 : 1 ≤ n) (e0 : byteAt bs 0 = 69) (x2 : Int) (e2 : byteAt bs 2 = x2) (x3 : Int) (e3 : byteAt bs 3 = x3) (z : Int) (hz : x2 * 256 + x3 = z) (h : 20 ≤ n) (x6 : Int) (e6 : byteAt bs 6 = x6) (e7 : byteAt bs 7 = 0) (h2 : 20 ≤ z) (h3 : z ≤ (n : Int)) (hs : fd (tot (bs.take 20)) = 65535) (h6 : x6 ≠ 0) (h64 : x6 ≠ 64) :
    Calls Tryd.prog 39 #[.slice (some ⟨b, off, none⟩) n c] w fun e w' => e = .returned (.tuple #[.agg #[.string ⟨#[]⟩, .string ⟨#[]⟩, .int .i64 0, .int .i64 0, .string ⟨#[]⟩], .int .i64 32]) ∧ Below w.heap.size w w' := by
  have hnc : n ≤ c := hp.2.1
  have g0 : decide ((n : Int) = 0) = false := by simp; omega
  have g1 : decide (n = 0) = false := by simp; omega
  have hbl : b < w.heap.size := World.block_lt_of_cell? _ _ (hp.at (by omega) 0 (by omega))
  have c0 : w.cell? ⟨b, off + 0, none⟩ = some (.int .u8 69) := by rw [← e0]; exact hp.at (by omega) 0 (by omega)
  have j0 : (0 : Int) < (n : Int) := by omega
  have c0' : w.cell? ⟨b, off, none⟩ = some (.int .u8 69) := c0
  have c2 : w.cell? ⟨b, off + 2, none⟩ = some (.int .u8 x2) := by rw [← e2]; exact hp.at (by omega) 2 (by omega)
  have j2 : (2 : Int) < (n : Int) := by omega
  have q2 : 0 ≤ x2 ∧ x2 ≤ 255 := by rw [← e2]; exact byteAt_bd hp.2.2.1 2
  have c3 : w.cell? ⟨b, off + 3, none⟩ = some (.int .u8 x3) := by rw [← e3]; exact hp.at (by omega) 3 (by omega)
  have j3 : (3 : Int) < (n : Int) := by omega
  have q3 : 0 ≤ x3 ∧ x3 ≤ 255 := by rw [← e3]; exact byteAt_bd hp.2.2.1 3
  have c6 : w.cell? ⟨b, off + 6, none⟩ = some (.int .u8 x6) := by rw [← e6]; exact hp.at (by omega) 6 (by omega)
  have j6 : (6 : Int) < (n : Int) := by omega
  have q6 : 0 ≤ x6 ∧ x6 ≤ 255 := by rw [← e6]; exact byteAt_bd hp.2.2.1 6
  have c7 : w.cell? ⟨b, off + 7, none⟩ = some (.int .u8 0) := by rw [← e7]; exact hp.at (by omega) 7 (by omega)
  have j7 : (7 : Int) < (n : Int) := by omega
  have d5 : decide ((n : Int) < 20) = false := by simp; omega
  have d6 : decide (n < 20) = false := by simp; omega
  have zb : 0 ≤ z ∧ z ≤ 65535 := by omega
  have d1 : decide (z < 20) = false := by simp; omega
  have d2 : decide ((n : Int) < z) = false := by simp; omega
  have ic : (20 : Int) ≤ (c : Int) := by omega
  have ic2 : 20 ≤ c := by omega
  have d7 : decide (x6 = 0) = false := by simpa using h6
  have b7 : (x6 != 0) = true := by simpa using h6
  have d8 : decide (x6 = 64) = false := by simpa using h64
  have b8 : (x6 != 64) = true := by simpa using h64
  have HS := Lib.hid hs
  clear hs
  have HP := Lib.hid hp
  clear hp
  go_enter Tryd.func39, Tryd.ntmps39
  go_wp2_with fail
  go_region
  go_wp2_with fail
  refine (rsum_any (some ⟨b, off, none⟩) 20 c (bs.take 20) (w.alloc (.cells #[.string ⟨#[]⟩, .string ⟨#[]⟩, .int .i64 0, .int .i64 0, .string ⟨#[]⟩] 72)).drew (((HP.out.alloc (.cells #[.string ⟨#[]⟩, .string ⟨#[]⟩, .int .i64 0, .int .i64 0, .string ⟨#[]⟩] 72)).drewN 1).first 20 (by omega)) (by omega)).mono ?_
  rintro e w' ⟨rfl, rfl⟩
  rw [HS.out]
  go_wp2
  exact bodyPost_ret (v := .tuple #[.agg #[.string ⟨#[]⟩, .string ⟨#[]⟩, .int .i64 0, .int .i64 0, .string ⟨#[]⟩], .int .i64 32]) (by simp [results, Tryd.results39, go_sem]) rfl ⟨rfl, below_drew ((Below.refl _ _).alloc (Nat.le_refl _) _)⟩

set_option maxHeartbeats 1000000 in
theorem rdec_ok0 (b off n c : Nat) (bs : List Int) (w : World) (hp : Part w ⟨some ⟨b, off, none⟩, n, c, bs⟩) (hn : n ≤ 140737488355328) (h1 : 1 ≤ n) (e0 : byteAt bs 0 = 69) (x2 : Int) (e2 : byteAt bs 2 = x2) (x3 : Int) (e3 : byteAt bs 3 = x3) (z : Int) (hz : x2 * 256 + x3 = z) (h : 20 ≤ n) (e6 : byteAt bs 6 = 0) (e7 : byteAt bs 7 = 0) (x8 : Int) (e8 : byteAt bs 8 = x8) (x9 : Int) (e9 : byteAt bs 9 = x9) (m : Nat) (hm : z = 20 + (m : Int)) (h3 : z ≤ (n : Int)) (hs : fd (tot (bs.take 20)) = 65535) (A : Option Addr) (hA : (if c = 20 then some (⟨b, off, none⟩ : Addr) else some ⟨b, off + 20, none⟩) = A) :
    Calls Tryd.prog 39 #[.slice (some ⟨b, off, none⟩) n c] w fun e w' => e = .returned (.tuple #[.agg #[.string (seg bs 12 4), .string (seg bs 16 4), .int .i64 x9, .int .i64 x8, .string (seg bs 20 m)], .int .i64 0]) ∧ Below w.heap.size w w' := by
  subst hm
  have hnc : n ≤ c := hp.2.1
  have g0 : decide ((n : Int) = 0) = false := by simp; omega
  have g1 : decide (n = 0) = false := by simp; omega
  have hbl : b < w.heap.size := World.block_lt_of_cell? _ _ (hp.at (by omega) 0 (by omega))
  have c0 : w.cell? ⟨b, off + 0, none⟩ = some (.int .u8 69) := by rw [← e0]; exact hp.at (by omega) 0 (by omega)
  have j0 : (0 : Int) < (n : Int) := by omega
  have c0' : w.cell? ⟨b, off, none⟩ = some (.int .u8 69) := c0
  have c2 : w.cell? ⟨b, off + 2, none⟩ = some (.int .u8 x2) := by rw [← e2]; exact hp.at (by omega) 2 (by omega)
  have j2 : (2 : Int) < (n : Int) := by omega
  have q2 : 0 ≤ x2 ∧ x2 ≤ 255 := by rw [← e2]; exact byteAt_bd hp.2.2.1 2
  have c3 : w.cell? ⟨b, off + 3, none⟩ = some (.int .u8 x3) := by rw [← e3]; exact hp.at (by omega) 3 (by omega)
  have j3 : (3 : Int) < (n : Int) := by omega
  have q3 : 0 ≤ x3 ∧ x3 ≤ 255 := by rw [← e3]; exact byteAt_bd hp.2.2.1 3
  have c6 : w.cell? ⟨b, off + 6, none⟩ = some (.int .u8 0) := by rw [← e6]; exact hp.at (by omega) 6 (by omega)
  have j6 : (6 : Int) < (n : Int) := by omega
  have c7 : w.cell? ⟨b, off + 7, none⟩ = some (.int .u8 0) := by rw [← e7]; exact hp.at (by omega) 7 (by omega)
  have j7 : (7 : Int) < (n : Int) := by omega
  have c8 : w.cell? ⟨b, off + 8, none⟩ = some (.int .u8 x8) := by rw [← e8]; exact hp.at (by omega) 8 (by omega)
  have j8 : (8 : Int) < (n : Int) := by omega
  have q8 : 0 ≤ x8 ∧ x8 ≤ 255 := by rw [← e8]; exact byteAt_bd hp.2.2.1 8
  have c9 : w.cell? ⟨b, off + 9, none⟩ = some (.int .u8 x9) := by rw [← e9]; exact hp.at (by omega) 9 (by omega)
  have j9 : (9 : Int) < (n : Int) := by omega
  have q9 : 0 ≤ x9 ∧ x9 ≤ 255 := by rw [← e9]; exact byteAt_bd hp.2.2.1 9
  have d5 : decide ((n : Int) < 20) = false := by simp; omega
  have d6 : decide (n < 20) = false := by simp; omega
  have d1 : decide (20 + (m : Int) < 20) = false := by simp; omega
  have d2 : decide ((n : Int) < 20 + (m : Int)) = false := by simp; omega
  have ic : (20 : Int) ≤ (c : Int) := by omega
  have ic2 : 20 ≤ c := by omega
  have i16 : (16 : Int) ≤ (c : Int) := by omega
  have i3 : 20 + (m : Int) ≤ (c : Int) := by omega
  have i4 : (20 : Int) ≤ 20 + (m : Int) := by omega
  have i5 : (20 + (m : Int)).toNat = 20 + m := by omega
  have i6 : 20 + m - 20 = m := by omega
  have n1 : c ≠ 12 := by omega
  have n2 : c ≠ 16 := by omega
  obtain ⟨s1, es1⟩ : ∃ x, x = seg bs 12 4 := ⟨_, rfl⟩
  obtain ⟨s2, es2⟩ : ∃ x, x = seg bs 16 4 := ⟨_, rfl⟩
  obtain ⟨s3, es3⟩ : ∃ x, x = seg bs 20 m := ⟨_, rfl⟩
  have hr : Part w ⟨A, m, c - 20, (bs.drop 20).take m⟩ := by
    have h2 := hp.sub 20 m (by omega)
    rw [← hA]
    simpa [add_plain] using h2
  have J1 : (convert 26 24 (.slice (some ⟨b, off + 12, none⟩) 4 (c - 12))).run Tryd.prog (w.alloc (.cells #[.string ⟨#[]⟩, .string ⟨#[]⟩, .int .i64 0, .int .i64 0, .string ⟨#[]⟩] 72)).drew.drew = .ok (.string s1) (w.alloc (.cells #[.string ⟨#[]⟩, .string ⟨#[]⟩, .int .i64 0, .int .i64 0, .string ⟨#[]⟩] 72)).drew.drew := by
    rw [es1]; exact convert_part (((hp.cut3 12 4 (c - 12) (by omega) (by omega)).alloc _).drewN 2) 24 Tryd.underlying24
  have J2 : (convert 26 24 (.slice (some ⟨b, off + 16, none⟩) 4 (c - 16))).run Tryd.prog (w.alloc (.cells #[.string ⟨#[]⟩, .string ⟨#[]⟩, .int .i64 0, .int .i64 0, .string ⟨#[]⟩] 72)).drew.drew = .ok (.string s2) (w.alloc (.cells #[.string ⟨#[]⟩, .string ⟨#[]⟩, .int .i64 0, .int .i64 0, .string ⟨#[]⟩] 72)).drew.drew := by
    rw [es2]; exact convert_part (((hp.cut3 16 4 (c - 16) (by omega) (by omega)).alloc _).drewN 2) 24 Tryd.underlying24
  have J3 : (convert 26 9 (.slice A m (c - 20))).run Tryd.prog (w.alloc (.cells #[.string ⟨#[]⟩, .string ⟨#[]⟩, .int .i64 0, .int .i64 0, .string ⟨#[]⟩] 72)).drew.drew = .ok (.string s3) (w.alloc (.cells #[.string ⟨#[]⟩, .string ⟨#[]⟩, .int .i64 0, .int .i64 0, .string ⟨#[]⟩] 72)).drew.drew := by
    rw [es3]; exact convert_part (((hr).alloc _).drewN 2) 9 Tryd.underlying9
  rw [← es1, ← es2, ← es3]
  have HS := Lib.hid hs
  clear hs
  have HP := Lib.hid hp
  clear hp hr es1 es2 es3 e0 e2 e3 e6 e7 e8 e9
  go_enter Tryd.func39, Tryd.ntmps39
  go_wp2_with fail
  go_region
  go_wp2_with fail
  refine (rsum_any (some ⟨b, off, none⟩) 20 c (bs.take 20) (w.alloc (.cells #[.string ⟨#[]⟩, .string ⟨#[]⟩, .int .i64 0, .int .i64 0, .string ⟨#[]⟩] 72)).drew (((HP.out.alloc (.cells #[.string ⟨#[]⟩, .string ⟨#[]⟩, .int .i64 0, .int .i64 0, .string ⟨#[]⟩] 72)).drewN 1).first 20 (by omega)) (by omega)).mono ?_
  rintro e w' ⟨rfl, rfl⟩
  rw [HS.out]
  go_wp2_with fail
  go_region
  go_wp2
  exact bodyPost_ret (v := .tuple #[.agg #[.string s1, .string s2, .int .i64 x9, .int .i64 x8, .string s3], .int .i64 0]) (by simp [results, Tryd.results39, go_sem]) rfl ⟨rfl, below_drew (below_drew ((Below.refl _ _).alloc (Nat.le_refl _) _))⟩

set_option maxHeartbeats 1000000 in
theorem rdec_ok64 (b off n c : Nat) (bs : List Int) (w : World) (hp : Part w ⟨some ⟨b, off, none⟩, n, c, bs⟩) (hn : n ≤ 140737488355328) (h1 : 1 ≤ n) (e0 : byteAt bs 0 = 69) (x2 : Int) (e2 : byteAt bs 2 = x2) (x3 : Int) (e3 : byteAt bs 3 = x3) (z : Int) (hz : x2 * 256 + x3 = z) (h : 20 ≤ n) (e6 : byteAt bs 6 = 64) (e7 : byteAt bs 7 = 0) (x8 : Int) (e8 : byteAt bs 8 = x8) (x9 : Int) (e9 : byteAt bs 9 = x9) (m : Nat) (hm : z = 20 + (m : Int)) (h3 : z ≤ (n : Int)) (hs : fd (tot (bs.take 20)) = 65535) (A : Option Addr) (hA : (if c = 20 then some (⟨b, off, none⟩ : Addr) else some ⟨b, off + 20, none⟩) = A) :
    Calls Tryd.prog 39 #[.slice (some ⟨b, off, none⟩) n c] w fun e w' => e = .returned (.tuple #[.agg #[.string (seg bs 12 4), .string (seg bs 16 4), .int .i64 x9, .int .i64 x8, .string (seg bs 20 m)], .int .i64 0]) ∧ Below w.heap.size w w' := by
  subst hm
  have hnc : n ≤ c := hp.2.1
  have g0 : decide ((n : Int) = 0) = false := by simp; omega
  have g1 : decide (n = 0) = false := by simp; omega
  have hbl : b < w.heap.size := World.block_lt_of_cell? _ _ (hp.at (by omega) 0 (by omega))
  have c0 : w.cell? ⟨b, off + 0, none⟩ = some (.int .u8 69) := by rw [← e0]; exact hp.at (by omega) 0 (by omega)
  have j0 : (0 : Int) < (n : Int) := by omega
  have c0' : w.cell? ⟨b, off, none⟩ = some (.int .u8 69) := c0
  have c2 : w.cell? ⟨b, off + 2, none⟩ = some (.int .u8 x2) := by rw [← e2]; exact hp.at (by omega) 2 (by omega)
  have j2 : (2 : Int) < (n : Int) := by omega
  have q2 : 0 ≤ x2 ∧ x2 ≤ 255 := by rw [← e2]; exact byteAt_bd hp.2.2.1 2
  have c3 : w.cell? ⟨b, off + 3, none⟩ = some (.int .u8 x3) := by rw [← e3]; exact hp.at (by omega) 3 (by omega)
  have j3 : (3 : Int) < (n : Int) := by omega
  have q3 : 0 ≤ x3 ∧ x3 ≤ 255 := by rw [← e3]; exact byteAt_bd hp.2.2.1 3
  have c6 : w.cell? ⟨b, off + 6, none⟩ = some (.int .u8 64) := by rw [← e6]; exact hp.at (by omega) 6 (by omega)
  have j6 : (6 : Int) < (n : Int) := by omega
  have c7 : w.cell? ⟨b, off + 7, none⟩ = some (.int .u8 0) := by rw [← e7]; exact hp.at (by omega) 7 (by omega)
  have j7 : (7 : Int) < (n : Int) := by omega
  have c8 : w.cell? ⟨b, off + 8, none⟩ = some (.int .u8 x8) := by rw [← e8]; exact hp.at (by omega) 8 (by omega)
  have j8 : (8 : Int) < (n : Int) := by omega
  have q8 : 0 ≤ x8 ∧ x8 ≤ 255 := by rw [← e8]; exact byteAt_bd hp.2.2.1 8
  have c9 : w.cell? ⟨b, off + 9, none⟩ = some (.int .u8 x9) := by rw [← e9]; exact hp.at (by omega) 9 (by omega)
  have j9 : (9 : Int) < (n : Int) := by omega
  have q9 : 0 ≤ x9 ∧ x9 ≤ 255 := by rw [← e9]; exact byteAt_bd hp.2.2.1 9
  have d5 : decide ((n : Int) < 20) = false := by simp; omega
  have d6 : decide (n < 20) = false := by simp; omega
  have d1 : decide (20 + (m : Int) < 20) = false := by simp; omega
  have d2 : decide ((n : Int) < 20 + (m : Int)) = false := by simp; omega
  have ic : (20 : Int) ≤ (c : Int) := by omega
  have ic2 : 20 ≤ c := by omega
  have i16 : (16 : Int) ≤ (c : Int) := by omega
  have i3 : 20 + (m : Int) ≤ (c : Int) := by omega
  have i4 : (20 : Int) ≤ 20 + (m : Int) := by omega
  have i5 : (20 + (m : Int)).toNat = 20 + m := by omega
  have i6 : 20 + m - 20 = m := by omega
  have n1 : c ≠ 12 := by omega
  have n2 : c ≠ 16 := by omega
  obtain ⟨s1, es1⟩ : ∃ x, x = seg bs 12 4 := ⟨_, rfl⟩
  obtain ⟨s2, es2⟩ : ∃ x, x = seg bs 16 4 := ⟨_, rfl⟩
  obtain ⟨s3, es3⟩ : ∃ x, x = seg bs 20 m := ⟨_, rfl⟩
  have hr : Part w ⟨A, m, c - 20, (bs.drop 20).take m⟩ := by
    have h2 := hp.sub 20 m (by omega)
    rw [← hA]
    simpa [add_plain] using h2
  have J1 : (convert 26 24 (.slice (some ⟨b, off + 12, none⟩) 4 (c - 12))).run Tryd.prog (w.alloc (.cells #[.string ⟨#[]⟩, .string ⟨#[]⟩, .int .i64 0, .int .i64 0, .string ⟨#[]⟩] 72)).drew.drew = .ok (.string s1) (w.alloc (.cells #[.string ⟨#[]⟩, .string ⟨#[]⟩, .int .i64 0, .int .i64 0, .string ⟨#[]⟩] 72)).drew.drew := by
    rw [es1]; exact convert_part (((hp.cut3 12 4 (c - 12) (by omega) (by omega)).alloc _).drewN 2) 24 Tryd.underlying24
  have J2 : (convert 26 24 (.slice (some ⟨b, off + 16, none⟩) 4 (c - 16))).run Tryd.prog (w.alloc (.cells #[.string ⟨#[]⟩, .string ⟨#[]⟩, .int .i64 0, .int .i64 0, .string ⟨#[]⟩] 72)).drew.drew = .ok (.string s2) (w.alloc (.cells #[.string ⟨#[]⟩, .string ⟨#[]⟩, .int .i64 0, .int .i64 0, .string ⟨#[]⟩] 72)).drew.drew := by
    rw [es2]; exact convert_part (((hp.cut3 16 4 (c - 16) (by omega) (by omega)).alloc _).drewN 2) 24 Tryd.underlying24
  have J3 : (convert 26 9 (.slice A m (c - 20))).run Tryd.prog (w.alloc (.cells #[.string ⟨#[]⟩, .string ⟨#[]⟩, .int .i64 0, .int .i64 0, .string ⟨#[]⟩] 72)).drew.drew = .ok (.string s3) (w.alloc (.cells #[.string ⟨#[]⟩, .string ⟨#[]⟩, .int .i64 0, .int .i64 0, .string ⟨#[]⟩] 72)).drew.drew := by
    rw [es3]; exact convert_part (((hr).alloc _).drewN 2) 9 Tryd.underlying9
  rw [← es1, ← es2, ← es3]
  have HS := Lib.hid hs
  clear hs
  have HP := Lib.hid hp
  clear hp hr es1 es2 es3 e0 e2 e3 e6 e7 e8 e9
  go_enter Tryd.func39, Tryd.ntmps39
  go_wp2_with fail
  go_region
  go_wp2_with fail
  refine (rsum_any (some ⟨b, off, none⟩) 20 c (bs.take 20) (w.alloc (.cells #[.string ⟨#[]⟩, .string ⟨#[]⟩, .int .i64 0, .int .i64 0, .string ⟨#[]⟩] 72)).drew (((HP.out.alloc (.cells #[.string ⟨#[]⟩, .string ⟨#[]⟩, .int .i64 0, .int .i64 0, .string ⟨#[]⟩] 72)).drewN 1).first 20 (by omega)) (by omega)).mono ?_
  rintro e w' ⟨rfl, rfl⟩
  rw [HS.out]
  go_wp2_with fail
  go_region
  go_wp2
  exact bodyPost_ret (v := .tuple #[.agg #[.string s1, .string s2, .int .i64 x9, .int .i64 x8, .string s3], .int .i64 0]) (by simp [results, Tryd.results39, go_sem]) rfl ⟨rfl, below_drew (below_drew ((Below.refl _ _).alloc (Nat.le_refl _) _))⟩

end Go.Proofs.YtdoefjhdipkkeaaDoor

namespace Go.Proofs.YtdoefjhdipkkeaaDoor
open Go.RowKit
set_option maxRecDepth 10000
set_option linter.unusedVariables false

/-- outriderref03.Decode. -/
theorem rdec_any (a : Option Addr) (n c : Nat) (bs : List Int) (w : World) (hp : Part w ⟨a, n, c, bs⟩) (hn : n ≤ 140737488355328) (f t : ByteArray) (p l : Int) (s : ByteArray) (r : Int) (hd : dec bs = (⟨f, t, p, l, s⟩, r)) :
    Calls Tryd.prog 39 #[.slice a n c] w fun e w' => e = .returned (.tuple #[.agg #[.string f, .string t, .int .i64 p, .int .i64 l, .string s], .int .i64 r]) ∧ Below w.heap.size w w' := by
  have hbn : bs.length = n := hp.1
  unfold dec at hd
  rw [hbn] at hd
  by_cases h0 : n = 0
  · rw [if_pos h0] at hd
    subst h0
    simp [Pk.zero] at hd
    obtain ⟨⟨rfl, rfl, rfl, rfl, rfl⟩, rfl⟩ := hd
    exact rdec_empty a c w
  rw [if_neg h0] at hd
  obtain ⟨b, off, e, _⟩ := hp.2.2.2 (show 0 < n by omega)
  have e' : a = some ⟨b, off, none⟩ := e
  subst e'
  have h1 : 1 ≤ n := by omega
  by_cases h6 : byteAt bs 0 / 16 = 6
  · rw [if_pos h6] at hd
    exact rdec_six b off n c bs w hp hn h1 _ rfl h6 f t p l s r hd
  rw [if_neg h6] at hd
  by_cases h4 : byteAt bs 0 / 16 = 4
  · rw [if_pos h4] at hd
    have hb2 : 0 ≤ byteAt bs 2 ∧ byteAt bs 2 ≤ 255 := byteAt_bd hp.2.2.1 2
    have hb3 : 0 ≤ byteAt bs 3 ∧ byteAt bs 3 ≤ 255 := byteAt_bd hp.2.2.1 3
    have t2 : byteAt bs 2 * 256 + byteAt bs 3 = twoAt bs 2 := rfl
    unfold dec4 at hd
    rw [hbn] at hd
    by_cases h20 : n < 20
    · rw [if_pos h20] at hd
      simp [Pk.zero] at hd
      obtain ⟨⟨rfl, rfl, rfl, rfl, rfl⟩, rfl⟩ := hd
      exact rdec_short b off n c bs w hp hn h1 _ rfl h4 h20
    rw [if_neg h20] at hd
    have h20' : 20 ≤ n := by omega
    by_cases h69 : byteAt bs 0 ≠ 69
    · rw [if_pos h69] at hd
      simp [Pk.zero] at hd
      obtain ⟨⟨rfl, rfl, rfl, rfl, rfl⟩, rfl⟩ := hd
      exact rdec_head b off n c bs w hp hn h1 _ rfl h4 h20' h69
    rw [if_neg h69] at hd
    have e0 : byteAt bs 0 = 69 := by omega
    by_cases hl : twoAt bs 2 < 20 ∨ (n : Int) < twoAt bs 2
    · rw [if_pos hl] at hd
      simp [Pk.zero] at hd
      obtain ⟨⟨rfl, rfl, rfl, rfl, rfl⟩, rfl⟩ := hd
      by_cases hl2 : twoAt bs 2 < 20
      · exact rdec_low b off n c bs w hp hn h1 e0 _ rfl _ rfl _ t2 h20' hl2
      · exact rdec_long b off n c bs w hp hn h1 e0 _ rfl _ rfl _ t2 h20' (by omega) (by omega)
    rw [if_neg hl] at hd
    by_cases hs : fd (tot (bs.take 20)) ≠ 65535
    · rw [if_pos hs] at hd
      simp [Pk.zero] at hd
      obtain ⟨⟨rfl, rfl, rfl, rfl, rfl⟩, rfl⟩ := hd
      exact rdec_sum b off n c bs w hp hn h1 e0 _ rfl _ rfl _ t2 h20' (by omega) (by omega) _ rfl hs
    rw [if_neg hs] at hd
    have hs' : fd (tot (bs.take 20)) = 65535 := by omega
    by_cases hv : byteAt bs 7 ≠ 0 ∨ (byteAt bs 6 ≠ 0 ∧ byteAt bs 6 ≠ 64)
    · rw [if_pos hv] at hd
      simp [Pk.zero] at hd
      obtain ⟨⟨rfl, rfl, rfl, rfl, rfl⟩, rfl⟩ := hd
      by_cases h7 : byteAt bs 7 ≠ 0
      · exact rdec_part7 b off n c bs w hp hn h1 e0 _ rfl _ rfl _ t2 h20' _ rfl (by omega) (by omega) hs' h7
      · exact rdec_part6 b off n c bs w hp hn h1 e0 _ rfl _ rfl _ t2 h20' _ rfl (by omega) (by omega) (by omega) hs' (by omega) (by omega)
    · rw [if_neg hv] at hd
      simp at hd
      obtain ⟨⟨rfl, rfl, rfl, rfl, rfl⟩, rfl⟩ := hd
      by_cases h60 : byteAt bs 6 = 0
      · exact rdec_ok0 b off n c bs w hp hn h1 e0 _ rfl _ rfl _ t2 h20' h60 (by omega) _ rfl _ rfl ((twoAt bs 2).toNat - 20) (by omega) (by omega) hs' _ rfl
      · exact rdec_ok64 b off n c bs w hp hn h1 e0 _ rfl _ rfl _ t2 h20' (by omega) (by omega) _ rfl _ rfl ((twoAt bs 2).toNat - 20) (by omega) (by omega) hs' _ rfl
  rw [if_neg h4] at hd
  simp [Pk.zero] at hd
  obtain ⟨⟨rfl, rfl, rfl, rfl, rfl⟩, rfl⟩ := hd
  exact rdec_version b off n c bs w hp hn h1 _ rfl h6 h4

end Go.Proofs.YtdoefjhdipkkeaaDoor
