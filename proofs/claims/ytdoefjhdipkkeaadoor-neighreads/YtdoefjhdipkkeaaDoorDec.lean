/-
  What ipv.decodeSix and decodeFour do.
-/
import Derived.Test.YtdoefjhdipkkeaaDoorPut
namespace Go.Proofs.YtdoefjhdipkkeaaDoor
open Go.RowKit
set_option linter.unusedVariables false

/-- One byte of a list. -/
def byteAt (bs : List Int) (k : Nat) : Int := bs[k]?.getD 0
/-- So many bytes from a place on, as a text. -/
def seg (bs : List Int) (k n : Nat) : ByteArray := strOfNums ((bs.drop k).take n)
theorem byteAt_bd {bs : List Int} (h : Byt bs) (k : Nat) : 0 ≤ byteAt bs k ∧ byteAt bs k ≤ 255 := h.get k
theorem Part.at {w : World} {b off n c : Nat} {bs : List Int} (h : Part w ⟨some ⟨b, off, none⟩, n, c, bs⟩) (hn : 0 < n) (j : Nat) (hj : j < n) : w.cell? ⟨b, off + j, none⟩ = some (.int .u8 (byteAt bs j)) := by
  obtain ⟨b', off', e, hc⟩ := h.2.2.2 hn
  have e' : some (⟨b, off, none⟩ : Addr) = some ⟨b', off', none⟩ := e
  simp only [Option.some.injEq, Addr.mk.injEq] at e'
  obtain ⟨rfl, rfl, -⟩ := e'
  exact hc j hj
theorem two_at {b off n c : Nat} {x y s : Int} {w : World} (hs : x * 256 + y = s) (hn : 2 ≤ n) (hx : 0 ≤ x ∧ x ≤ 255) (hy : 0 ≤ y ∧ y ≤ 255)
    (h0 : w.cell? ⟨b, off, none⟩ = some (.int .u8 x)) (h1 : w.cell? ⟨b, off + 1, none⟩ = some (.int .u8 y)) :
    Calls Tryd.prog 75 #[.slice (some ⟨b, off, none⟩) n c] w fun e w' => e = .returned (.int .i64 s) ∧ ∃ k, w' = w.drewN k := by
  subst hs; exact two_any b off n c x y w hn hx hy h0 h1
theorem below5 {B : Nat} {w W : World} (h : Below B w W) {v0 v1 v2 v3 v4 : Value} :
    Below B w (((((W.setCell ⟨B, 0, none⟩ v0).setCell ⟨B, 1, none⟩ v1).setCell ⟨B, 2, none⟩ v2).setCell ⟨B, 3, none⟩ v3).setCell ⟨B, 4, none⟩ v4) :=
  ((((h.setCell (Nat.le_refl _) _).setCell (Nat.le_refl _) _).setCell (Nat.le_refl _) _).setCell (Nat.le_refl _) _).setCell (Nat.le_refl _) _
/-- A part of a part, with its room. -/
theorem Part.cut3 {w : World} {b off n c : Nat} {bs : List Int} (h : Part w ⟨some ⟨b, off, none⟩, n, c, bs⟩) (k m d : Nat) (hk : k + m ≤ n) (hm : m ≤ d) : Part w ⟨some ⟨b, off + k, none⟩, m, d, (bs.drop k).take m⟩ := by
  have h1 : bs.length = n := h.1
  refine ⟨by simp; omega, hm, (h.2.2.1.drop k).take m, fun h0 => ⟨b, off + k, rfl, fun j hj => ?_⟩⟩
  have h0' : 0 < m := h0
  have hj' : j < m := hj
  have := h.at (by omega) (k + j) (by omega)
  simp only [List.getElem?_take, hj', if_true, List.getElem?_drop]
  rw [Nat.add_assoc]; exact this

set_option maxHeartbeats 1000000 in
/-- ipv.decodeSix, too long. -/
theorem decodeSix_no (b off m c : Nat) (A : Option Addr) (bs rs : List Int) (w : World) (hp : Part w ⟨some ⟨b, off, none⟩, 40, 40, bs⟩) (hq : Part w ⟨A, m, c, rs⟩) (hm : m ≤ 140737488355328) (hl : (m : Int) < byteAt bs 4 * 256 + byteAt bs 5) :
    Calls Tryd.prog 67 #[.slice (some ⟨b, off, none⟩) 40 40, .slice A m c] w fun e w' => e = .returned (.tuple #[.agg #[.string ⟨#[]⟩, .string ⟨#[]⟩, .int .i64 0, .int .i64 0, .string ⟨#[]⟩], .int .i64 33]) ∧ Below w.heap.size w w' := by
  have c4 := (hp.alloc (.cells #[.string ⟨#[]⟩, .string ⟨#[]⟩, .int .i64 0, .int .i64 0, .string ⟨#[]⟩] 72)).at (by omega) 4 (by omega)
  have c5 := (hp.alloc (.cells #[.string ⟨#[]⟩, .string ⟨#[]⟩, .int .i64 0, .int .i64 0, .string ⟨#[]⟩] 72)).at (by omega) 5 (by omega)
  have q4 := byteAt_bd hp.2.2.1 4
  have q5 := byteAt_bd hp.2.2.1 5
  obtain ⟨x4, e4⟩ : ∃ x, x = byteAt bs 4 := ⟨_, rfl⟩
  obtain ⟨x5, e5⟩ : ∃ x, x = byteAt bs 5 := ⟨_, rfl⟩
  rw [← e4] at c4 q4 hl
  rw [← e5] at c5 q5 hl
  obtain ⟨z, hl0⟩ : ∃ z, x4 * 256 + x5 = z := ⟨_, rfl⟩
  rw [hl0] at hl
  have d1 : decide ((m : Int) < z) = true := by simp; omega
  clear e4 e5 hp hq
  go_enter Tryd.func67, Tryd.ntmps67
  go_wp2_with fail
  refine (two_at (off := off + 4) hl0 (by omega) q4 q5 c4 c5).mono ?_
  rintro e w1 ⟨rfl, k, rfl⟩
  go_wp2
  exact bodyPost_ret (v := .tuple #[.agg #[.string ⟨#[]⟩, .string ⟨#[]⟩, .int .i64 0, .int .i64 0, .string ⟨#[]⟩], .int .i64 33]) (by simp [results, Tryd.results67, go_sem]) rfl ⟨rfl, below5 (below_drewN ((Below.refl _ _).alloc (Nat.le_refl _) _) _)⟩

set_option maxHeartbeats 1000000 in
/-- ipv.decodeSix. -/
theorem decodeSix_ok (b off m c n : Nat) (A : Option Addr) (bs rs : List Int) (w : World) (hp : Part w ⟨some ⟨b, off, none⟩, 40, 40, bs⟩) (hq : Part w ⟨A, m, c, rs⟩) (hm : m ≤ 140737488355328) (hn : (n : Int) = byteAt bs 4 * 256 + byteAt bs 5) (hl : n ≤ m) :
    Calls Tryd.prog 67 #[.slice (some ⟨b, off, none⟩) 40 40, .slice A m c] w fun e w' => e = .returned (.tuple #[.agg #[.string (seg bs 8 16), .string (seg bs 24 16), .int .i64 (byteAt bs 6), .int .i64 (byteAt bs 7), .string (strOfNums (rs.take n))], .int .i64 0]) ∧ Below w.heap.size w w' := by
  have c4 := (hp.alloc (.cells #[.string ⟨#[]⟩, .string ⟨#[]⟩, .int .i64 0, .int .i64 0, .string ⟨#[]⟩] 72)).at (by omega) 4 (by omega)
  have c5 := (hp.alloc (.cells #[.string ⟨#[]⟩, .string ⟨#[]⟩, .int .i64 0, .int .i64 0, .string ⟨#[]⟩] 72)).at (by omega) 5 (by omega)
  have c6 := (hp.alloc (.cells #[.string ⟨#[]⟩, .string ⟨#[]⟩, .int .i64 0, .int .i64 0, .string ⟨#[]⟩] 72)).at (by omega) 6 (by omega)
  have c7 := (hp.alloc (.cells #[.string ⟨#[]⟩, .string ⟨#[]⟩, .int .i64 0, .int .i64 0, .string ⟨#[]⟩] 72)).at (by omega) 7 (by omega)
  have q4 := byteAt_bd hp.2.2.1 4
  have q5 := byteAt_bd hp.2.2.1 5
  have q6 := byteAt_bd hp.2.2.1 6
  have q7 := byteAt_bd hp.2.2.1 7
  obtain ⟨x4, e4⟩ : ∃ x, x = byteAt bs 4 := ⟨_, rfl⟩
  obtain ⟨x5, e5⟩ : ∃ x, x = byteAt bs 5 := ⟨_, rfl⟩
  obtain ⟨x6, e6⟩ : ∃ x, x = byteAt bs 6 := ⟨_, rfl⟩
  obtain ⟨x7, e7⟩ : ∃ x, x = byteAt bs 7 := ⟨_, rfl⟩
  rw [← e4] at c4 q4 hn
  rw [← e5] at c5 q5 hn
  rw [← e6] at c6 q6 ⊢
  rw [← e7] at c7 q7 ⊢
  have d1 : decide ((m : Int) < (n : Int)) = false := by simp; omega
  have d2 : decide (m < n) = false := by simp; omega
  have hmc : m ≤ c := hq.2.1
  have hnc : n ≤ c := by omega
  obtain ⟨s1, es1⟩ : ∃ x, x = seg bs 8 16 := ⟨_, rfl⟩
  obtain ⟨s2, es2⟩ : ∃ x, x = seg bs 24 16 := ⟨_, rfl⟩
  obtain ⟨s3, es3⟩ : ∃ x, x = strOfNums (rs.take n) := ⟨_, rfl⟩
  have HV : ∀ q, (convert 26 24 (.slice (some ⟨b, off + 8, none⟩) 16 16)).run Tryd.prog ((w.alloc (.cells #[.string ⟨#[]⟩, .string ⟨#[]⟩, .int .i64 0, .int .i64 0, .string ⟨#[]⟩] 72)).drewN q) = .ok (.string s1) ((w.alloc (.cells #[.string ⟨#[]⟩, .string ⟨#[]⟩, .int .i64 0, .int .i64 0, .string ⟨#[]⟩] 72)).drewN q) := fun q => by
    rw [es1]; exact convert_part (((hp.cut3 8 16 16 (by omega) (by omega)).alloc _).drewN q) 24 Tryd.underlying24
  have HV2 : ∀ q, (convert 26 24 (.slice (some ⟨b, off + 24, none⟩) 16 16)).run Tryd.prog ((w.alloc (.cells #[.string ⟨#[]⟩, .string ⟨#[]⟩, .int .i64 0, .int .i64 0, .string ⟨#[]⟩] 72)).drewN q) = .ok (.string s2) ((w.alloc (.cells #[.string ⟨#[]⟩, .string ⟨#[]⟩, .int .i64 0, .int .i64 0, .string ⟨#[]⟩] 72)).drewN q) := fun q => by
    rw [es2]; exact convert_part (((hp.cut3 24 16 16 (by omega) (by omega)).alloc _).drewN q) 24 Tryd.underlying24
  have HV3 : ∀ q, (convert 26 9 (.slice A n c)).run Tryd.prog ((w.alloc (.cells #[.string ⟨#[]⟩, .string ⟨#[]⟩, .int .i64 0, .int .i64 0, .string ⟨#[]⟩] 72)).drewN q) = .ok (.string s3) ((w.alloc (.cells #[.string ⟨#[]⟩, .string ⟨#[]⟩, .int .i64 0, .int .i64 0, .string ⟨#[]⟩] 72)).drewN q) := fun q => by
    rw [es3]; exact convert_part (((hq.first n hl).alloc _).drewN q) 9 Tryd.underlying9
  rw [← es1, ← es2, ← es3]
  have HN := Lib.hid hn
  clear e4 e5 e6 e7 es1 es2 es3 hp hq hn
  go_enter Tryd.func67, Tryd.ntmps67
  go_wp2_with fail
  refine (two_at (off := off + 4) HN.out.symm (by omega) q4 q5 c4 c5).mono ?_
  rintro e w1 ⟨rfl, k, rfl⟩
  have j1 := HV (k + 1)
  have j2 := HV2 (k + 1)
  have j3 := HV3 (k + 1)
  go_wp2_with fail
  go_region
  go_wp2
  exact bodyPost_ret (v := .tuple #[.agg #[.string s1, .string s2, .int .i64 x6, .int .i64 x7, .string s3], .int .i64 0]) (by simp [results, Tryd.results67, go_sem]) rfl ⟨rfl, below5 (below_drewN ((Below.refl _ _).alloc (Nat.le_refl _) _) _)⟩

end Go.Proofs.YtdoefjhdipkkeaaDoor
