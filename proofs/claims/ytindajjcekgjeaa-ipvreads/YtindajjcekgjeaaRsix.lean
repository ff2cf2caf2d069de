/-
  What the reference's six does.
-/
import Derived.Test.YtindajjcekgjeaaDecAny
namespace Go.Proofs.Ytindajjcekgjeaa
open Go.RowKit
set_option linter.unusedVariables false

set_option maxHeartbeats 400000 in
theorem rsix_short (a : Option Addr) (n c : Nat) (w : World) (h : n < 40) :
    Calls Try.prog 30 #[.slice a n c] w fun e w' => e = .returned (.tuple #[.agg #[.string ⟨#[]⟩, .string ⟨#[]⟩, .int .i64 0, .int .i64 0, .string ⟨#[]⟩], .int .i64 30]) ∧ Below w.heap.size w w' := by
  have d5 : decide ((n : Int) < 40) = true := by simp; omega
  have d6 : decide (n < 40) = true := by simp; omega
  go_enter Try.func30, Try.ntmps30
  go_wp2
  exact bodyPost_ret (v := .tuple #[.agg #[.string ⟨#[]⟩, .string ⟨#[]⟩, .int .i64 0, .int .i64 0, .string ⟨#[]⟩], .int .i64 30]) (by simp [results, Try.results30, go_sem]) rfl ⟨rfl, (Below.refl _ _).alloc (Nat.le_refl _) _⟩

set_option maxHeartbeats 400000 in
theorem rsix_long (b off n c : Nat) (bs : List Int) (w : World) (hp : Part w ⟨some ⟨b, off, none⟩, n, c, bs⟩) (hn : n ≤ 140737488355328) (h40 : 40 ≤ n) (hl : (n : Int) - 40 < twoAt bs 4) :
    Calls Try.prog 30 #[.slice (some ⟨b, off, none⟩) n c] w fun e w' => e = .returned (.tuple #[.agg #[.string ⟨#[]⟩, .string ⟨#[]⟩, .int .i64 0, .int .i64 0, .string ⟨#[]⟩], .int .i64 33]) ∧ Below w.heap.size w w' := by
  have d5 : decide ((n : Int) < 40) = false := by simp; omega
  have d6 : decide (n < 40) = false := by simp; omega
  have hbl : b < w.heap.size := World.block_lt_of_cell? _ _ (hp.at (by omega) 0 (by omega))
  have c4 := (hp.alloc (.cells #[.string ⟨#[]⟩, .string ⟨#[]⟩, .int .i64 0, .int .i64 0, .string ⟨#[]⟩] 24)).at (by omega) 4 (by omega)
  have q4 := byteAt_bd hp.2.2.1 4
  have c4' := hp.at (by omega) 4 (by omega)
  obtain ⟨x4, e4⟩ : ∃ x, x = byteAt bs 4 := ⟨_, rfl⟩
  rw [show byteAt (PartV.mk (some ⟨b, off, none⟩) n c bs).bs 4 = byteAt bs 4 from rfl, ← e4] at q4
  rw [← e4] at c4 c4'
  have j4 : (4 : Int) < (n : Int) := by omega
  have c5 := (hp.alloc (.cells #[.string ⟨#[]⟩, .string ⟨#[]⟩, .int .i64 0, .int .i64 0, .string ⟨#[]⟩] 24)).at (by omega) 5 (by omega)
  have q5 := byteAt_bd hp.2.2.1 5
  have c5' := hp.at (by omega) 5 (by omega)
  obtain ⟨x5, e5⟩ : ∃ x, x = byteAt bs 5 := ⟨_, rfl⟩
  rw [show byteAt (PartV.mk (some ⟨b, off, none⟩) n c bs).bs 5 = byteAt bs 5 from rfl, ← e5] at q5
  rw [← e5] at c5 c5'
  have j5 : (5 : Int) < (n : Int) := by omega
  have hl2 : (n : Int) - 40 < x4 * 256 + x5 := by rw [e4, e5]; exact hl
  have d7 : decide ((n : Int) - 40 < x4 * 256 + x5) = true := by simpa using hl2
  clear hp e4 e5 hl
  go_enter Try.func30, Try.ntmps30
  go_wp2_with fail
  go_region
  go_wp2
  exact bodyPost_ret (v := .tuple #[.agg #[.string ⟨#[]⟩, .string ⟨#[]⟩, .int .i64 0, .int .i64 0, .string ⟨#[]⟩], .int .i64 33]) (by simp [results, Try.results30, go_sem]) rfl ⟨rfl, below_drew ((Below.refl _ _).alloc (Nat.le_refl _) _)⟩

set_option maxHeartbeats 1000000 in
theorem rsix_ok (b off n c : Nat) (bs : List Int) (w : World) (hp : Part w ⟨some ⟨b, off, none⟩, n, c, bs⟩) (hn : n ≤ 140737488355328) (h40 : 40 ≤ n) (A : Option Addr) (hA : (if c = 40 then some (⟨b, off, none⟩ : Addr) else some ⟨b, off + 40, none⟩) = A) (m : Nat) (hm : twoAt bs 4 = m) (hl : 40 + m ≤ n) :
    Calls Try.prog 30 #[.slice (some ⟨b, off, none⟩) n c] w fun e w' => e = .returned (.tuple #[.agg #[.string (seg bs 8 16), .string (seg bs 24 16), .int .i64 (byteAt bs 6), .int .i64 (byteAt bs 7), .string (seg bs 40 m)], .int .i64 0]) ∧ Below w.heap.size w w' := by
  have d5 : decide ((n : Int) < 40) = false := by simp; omega
  have d6 : decide (n < 40) = false := by simp; omega
  have hbl : b < w.heap.size := World.block_lt_of_cell? _ _ (hp.at (by omega) 0 (by omega))
  have hnc : n ≤ c := hp.2.1
  have c4 := (hp.alloc (.cells #[.string ⟨#[]⟩, .string ⟨#[]⟩, .int .i64 0, .int .i64 0, .string ⟨#[]⟩] 24)).at (by omega) 4 (by omega)
  have q4 := byteAt_bd hp.2.2.1 4
  have c4' := hp.at (by omega) 4 (by omega)
  obtain ⟨x4, e4⟩ : ∃ x, x = byteAt bs 4 := ⟨_, rfl⟩
  rw [show byteAt (PartV.mk (some ⟨b, off, none⟩) n c bs).bs 4 = byteAt bs 4 from rfl, ← e4] at q4
  rw [← e4] at c4 c4'
  have j4 : (4 : Int) < (n : Int) := by omega
  have c5 := (hp.alloc (.cells #[.string ⟨#[]⟩, .string ⟨#[]⟩, .int .i64 0, .int .i64 0, .string ⟨#[]⟩] 24)).at (by omega) 5 (by omega)
  have q5 := byteAt_bd hp.2.2.1 5
  have c5' := hp.at (by omega) 5 (by omega)
  obtain ⟨x5, e5⟩ : ∃ x, x = byteAt bs 5 := ⟨_, rfl⟩
  rw [show byteAt (PartV.mk (some ⟨b, off, none⟩) n c bs).bs 5 = byteAt bs 5 from rfl, ← e5] at q5
  rw [← e5] at c5 c5'
  have j5 : (5 : Int) < (n : Int) := by omega
  have c6 := (hp.alloc (.cells #[.string ⟨#[]⟩, .string ⟨#[]⟩, .int .i64 0, .int .i64 0, .string ⟨#[]⟩] 24)).at (by omega) 6 (by omega)
  have q6 := byteAt_bd hp.2.2.1 6
  have c6' := hp.at (by omega) 6 (by omega)
  obtain ⟨x6, e6⟩ : ∃ x, x = byteAt bs 6 := ⟨_, rfl⟩
  rw [show byteAt (PartV.mk (some ⟨b, off, none⟩) n c bs).bs 6 = byteAt bs 6 from rfl, ← e6] at q6
  rw [← e6] at c6 c6'
  have j6 : (6 : Int) < (n : Int) := by omega
  have c7 := (hp.alloc (.cells #[.string ⟨#[]⟩, .string ⟨#[]⟩, .int .i64 0, .int .i64 0, .string ⟨#[]⟩] 24)).at (by omega) 7 (by omega)
  have q7 := byteAt_bd hp.2.2.1 7
  have c7' := hp.at (by omega) 7 (by omega)
  obtain ⟨x7, e7⟩ : ∃ x, x = byteAt bs 7 := ⟨_, rfl⟩
  rw [show byteAt (PartV.mk (some ⟨b, off, none⟩) n c bs).bs 7 = byteAt bs 7 from rfl, ← e7] at q7
  rw [← e7] at c7 c7'
  have j7 : (7 : Int) < (n : Int) := by omega
  rw [← e6, ← e7]
  have hm2 : x4 * 256 + x5 = (m : Int) := by rw [e4, e5]; exact hm
  have d7 : decide ((n : Int) - 40 < (m : Int)) = false := by simp; omega
  have i1 : (24 : Int) ≤ (c : Int) := by omega
  have i2 : (40 : Int) ≤ (c : Int) := by omega
  have i3 : 40 + (m : Int) ≤ (c : Int) := by omega
  have i4 : (40 : Int) ≤ 40 + (m : Int) := by omega
  have i5 : (40 + (m : Int)).toNat = 40 + m := by omega
  have i6 : 40 + m - 40 = m := by omega
  have n1 : c ≠ 8 := by omega
  have n2 : c ≠ 24 := by omega
  obtain ⟨s1, es1⟩ : ∃ x, x = seg bs 8 16 := ⟨_, rfl⟩
  obtain ⟨s2, es2⟩ : ∃ x, x = seg bs 24 16 := ⟨_, rfl⟩
  obtain ⟨s3, es3⟩ : ∃ x, x = seg bs 40 m := ⟨_, rfl⟩
  have hr : Part w ⟨A, m, c - 40, (bs.drop 40).take m⟩ := by
    have h2 := hp.sub 40 m (by omega)
    rw [← hA]
    simpa [add_plain] using h2
  have J1 : (convert 25 22 (.slice (some ⟨b, off + 8, none⟩) 16 (c - 8))).run Try.prog (w.alloc (.cells #[.string ⟨#[]⟩, .string ⟨#[]⟩, .int .i64 0, .int .i64 0, .string ⟨#[]⟩] 24)).drew.drew = .ok (.string s1) (w.alloc (.cells #[.string ⟨#[]⟩, .string ⟨#[]⟩, .int .i64 0, .int .i64 0, .string ⟨#[]⟩] 24)).drew.drew := by
    rw [es1]; exact convert_part (((hp.cut3 8 16 (c - 8) (by omega) (by omega)).alloc _).drewN 2) 22 Try.underlying22
  have J2 : (convert 25 22 (.slice (some ⟨b, off + 24, none⟩) 16 (c - 24))).run Try.prog (w.alloc (.cells #[.string ⟨#[]⟩, .string ⟨#[]⟩, .int .i64 0, .int .i64 0, .string ⟨#[]⟩] 24)).drew.drew = .ok (.string s2) (w.alloc (.cells #[.string ⟨#[]⟩, .string ⟨#[]⟩, .int .i64 0, .int .i64 0, .string ⟨#[]⟩] 24)).drew.drew := by
    rw [es2]; exact convert_part (((hp.cut3 24 16 (c - 24) (by omega) (by omega)).alloc _).drewN 2) 22 Try.underlying22
  have J3 : (convert 25 9 (.slice A m (c - 40))).run Try.prog (w.alloc (.cells #[.string ⟨#[]⟩, .string ⟨#[]⟩, .int .i64 0, .int .i64 0, .string ⟨#[]⟩] 24)).drew.drew = .ok (.string s3) (w.alloc (.cells #[.string ⟨#[]⟩, .string ⟨#[]⟩, .int .i64 0, .int .i64 0, .string ⟨#[]⟩] 24)).drew.drew := by
    rw [es3]; exact convert_part (((hr).alloc _).drewN 2) 9 Try.underlying9
  rw [← es1, ← es2, ← es3]
  clear hp hr e4 e5 e6 e7 es1 es2 es3 hm
  go_enter Try.func30, Try.ntmps30
  go_wp2_with fail
  go_region
  go_wp2_with fail
  go_region
  go_wp2
  exact bodyPost_ret (v := .tuple #[.agg #[.string s1, .string s2, .int .i64 x6, .int .i64 x7, .string s3], .int .i64 0]) (by simp [results, Try.results30, go_sem]) rfl ⟨rfl, below_drew (below_drew ((Below.refl _ _).alloc (Nat.le_refl _) _))⟩

/-- outriderref03.six. -/
theorem rsix_any (a : Option Addr) (n c : Nat) (bs : List Int) (w : World) (hp : Part w ⟨a, n, c, bs⟩) (hn : n ≤ 140737488355328) (f t : ByteArray) (p l : Int) (s : ByteArray) (r : Int) (hd : dec6 bs = (⟨f, t, p, l, s⟩, r)) :
    Calls Try.prog 30 #[.slice a n c] w fun e w' => e = .returned (.tuple #[.agg #[.string f, .string t, .int .i64 p, .int .i64 l, .string s], .int .i64 r]) ∧ Below w.heap.size w w' := by
  have hbn : bs.length = n := hp.1
  have hb4 : 0 ≤ byteAt bs 4 ∧ byteAt bs 4 ≤ 255 := byteAt_bd hp.2.2.1 4
  have hb5 : 0 ≤ byteAt bs 5 ∧ byteAt bs 5 ≤ 255 := byteAt_bd hp.2.2.1 5
  have t4 : twoAt bs 4 = byteAt bs 4 * 256 + byteAt bs 5 := rfl
  unfold dec6 at hd
  rw [hbn] at hd
  by_cases h40 : n < 40
  · rw [if_pos h40] at hd
    simp [Pk.zero] at hd
    obtain ⟨⟨rfl, rfl, rfl, rfl, rfl⟩, rfl⟩ := hd
    exact rsix_short a n c w h40
  rw [if_neg h40] at hd
  obtain ⟨b, off, e, _⟩ := hp.2.2.2 (show 0 < n by omega)
  have e' : a = some ⟨b, off, none⟩ := e
  subst e'
  by_cases hl : (n : Int) - 40 < twoAt bs 4
  · rw [if_pos hl] at hd
    simp [Pk.zero] at hd
    obtain ⟨⟨rfl, rfl, rfl, rfl, rfl⟩, rfl⟩ := hd
    exact rsix_long b off n c bs w hp hn (by omega) hl
  · rw [if_neg hl] at hd
    simp at hd
    obtain ⟨⟨rfl, rfl, rfl, rfl, rfl⟩, rfl⟩ := hd
    exact rsix_ok b off n c bs w hp hn (by omega) _ rfl (twoAt bs 4).toNat (by omega) (by omega)

end Go.Proofs.Ytindajjcekgjeaa
