/-
  What ipv.decodeFour does.
-/
import Derived.Test.YtdoefjhdipkkeaaDoorDec
namespace Go.Proofs.YtdoefjhdipkkeaaDoor
open Go.RowKit
set_option linter.unusedVariables false

theorem and_15 (a : Int) (h : 0 ≤ a ∧ a ≤ 255) : bits BinOp.and IntKind.u8 a 15 = a % 16 := by
  rw [u8_and a 15 h.1 (by omega) (by omega) (by omega)]
  have e : ((15 : Int)).toNat = 2 ^ 4 - 1 := rfl
  rw [e, Nat.and_two_pow_sub_one_eq_mod]; omega

theorem bits_but14 (x : BitVec 64) (h : x &&& ~~~(BitVec.twoPow 64 14) = 0#64) : x = 0#64 ∨ x = BitVec.twoPow 64 14 := by
  have hi : ∀ i, i < 64 → i ≠ 14 → x.getLsbD i = false := by
    intro i hl hi
    have := congrArg (fun z : BitVec 64 => z.getLsbD i) h
    simp [hl] at this
    rcases hx : x.getLsbD i with _ | _
    · rfl
    · exact absurd (this hx) hi
  rcases h14 : x.getLsbD 14 with _ | _
  · left
    apply BitVec.eq_of_getLsbD_eq
    intro i hl
    by_cases e : i = 14
    · subst e; rw [h14]; simp
    · simp [hi i hl e]
  · right
    apply BitVec.eq_of_getLsbD_eq
    intro i hl
    by_cases e : i = 14
    · subst e; rw [h14]; simp
    · simp [hi i hl e, BitVec.getLsbD_twoPow, Ne.symm e]
theorem andNot_yes : bits BinOp.andNot IntKind.i64 16384 16384 = 0 := by kernel_rfl
theorem andNot_nil : bits BinOp.andNot IntKind.i64 0 16384 = 0 := by kernel_rfl
theorem andNot_no (y : Int) (h0 : 0 ≤ y) (h1 : y ≤ 65535) (h2 : y ≠ 0) (h3 : y ≠ 16384) : bits BinOp.andNot IntKind.i64 y 16384 ≠ 0 := by
  intro h
  have h' : IntKind.i64.wrap ((BitVec.ofInt 64 y &&& ~~~(BitVec.ofInt 64 16384)).toNat : Int) = 0 := h
  have e : BitVec.ofInt 64 16384 = BitVec.twoPow 64 14 := by decide
  rw [e] at h'
  have hlt := (BitVec.ofInt 64 y &&& ~~~(BitVec.twoPow 64 14)).isLt
  have hz : (BitVec.ofInt 64 y &&& ~~~(BitVec.twoPow 64 14)).toNat = 0 := by
    rw [IntKind.wrap_i64] at h'
    omega
  have hz' : BitVec.ofInt 64 y &&& ~~~(BitVec.twoPow 64 14) = 0#64 := BitVec.eq_of_toNat_eq (by simpa using hz)
  have key : (BitVec.ofInt 64 y).toNat = y.toNat := by
    obtain ⟨n, rfl⟩ := Int.eq_ofNat_of_zero_le h0
    rw [BitVec.ofInt_natCast, BitVec.toNat_ofNat]
    simp
    omega
  rcases bits_but14 _ hz' with h | h
  · rw [h] at key
    simp at key
    omega
  · rw [h] at key
    have : (BitVec.twoPow 64 14).toNat = 16384 := by decide
    omega

set_option maxHeartbeats 1000000 in
theorem decodeFour_head (b off m c : Nat) (A : Option Addr) (bs rs : List Int) (w : World) (hp : Part w ⟨some ⟨b, off, none⟩, 20, 20, bs⟩) (hq : Part w ⟨A, m, c, rs⟩) (hm : m ≤ 140737488355328) (x0 x2 x3 z : Int) (e0 : byteAt bs 0 = x0) (e2 : byteAt bs 2 = x2) (e3 : byteAt bs 3 = x3) (hz : x2 * 256 + x3 = z) (h : x0 % 16 ≠ 5) :
    Calls Tryd.prog 68 #[.slice (some ⟨b, off, none⟩) 20 20, .slice A m c] w fun e w' => e = .returned (.tuple #[.agg #[.string ⟨#[]⟩, .string ⟨#[]⟩, .int .i64 0, .int .i64 0, .string ⟨#[]⟩], .int .i64 32]) ∧ Below w.heap.size w w' := by
  have c0 : w.cell? ⟨b, off + 0, none⟩ = some (.int .u8 x0) := by rw [← e0]; exact hp.at (by omega) 0 (by omega)
  have q0 : 0 ≤ x0 ∧ x0 ≤ 255 := by rw [← e0]; exact byteAt_bd hp.2.2.1 0
  have c2 : w.cell? ⟨b, off + 2, none⟩ = some (.int .u8 x2) := by rw [← e2]; exact hp.at (by omega) 2 (by omega)
  have q2 : 0 ≤ x2 ∧ x2 ≤ 255 := by rw [← e2]; exact byteAt_bd hp.2.2.1 2
  have c3 : w.cell? ⟨b, off + 3, none⟩ = some (.int .u8 x3) := by rw [← e3]; exact hp.at (by omega) 3 (by omega)
  have q3 : 0 ≤ x3 ∧ x3 ≤ 255 := by rw [← e3]; exact byteAt_bd hp.2.2.1 3
  have c0' : w.cell? ⟨b, off, none⟩ = some (.int .u8 x0) := c0
  have hbl : b < w.heap.size := World.block_lt_of_cell? _ _ c2
  have i1 := and_15 x0 q0
  have C2 := Lib.hid ((World.cell?_alloc_lt w (.cells #[.string ⟨#[]⟩, .string ⟨#[]⟩, .int .i64 0, .int .i64 0, .string ⟨#[]⟩] 72) _ hbl).trans c2)
  have C3 := Lib.hid ((World.cell?_alloc_lt w (.cells #[.string ⟨#[]⟩, .string ⟨#[]⟩, .int .i64 0, .int .i64 0, .string ⟨#[]⟩] 72) ⟨b, off + 3, none⟩ hbl).trans c3)
  have HZ := Lib.hid hz
  have HP := Lib.hid hp
  have HQ := Lib.hid hq
  have hmc : m ≤ c := hq.2.1
  have zb : 0 ≤ z ∧ z ≤ 65535 := by omega
  have d0 : decide (x0 % 16 = 5) = false := by simpa using h
  clear hp hq hz
  go_enter Tryd.func68, Tryd.ntmps68
  go_wp2_with fail
  refine (two_at (off := off + 2) HZ.out (by omega) q2 q3 C2.out C3.out).mono ?_
  rintro e w1 ⟨rfl, k, rfl⟩
  go_wp2
  exact bodyPost_ret (v := .tuple #[.agg #[.string ⟨#[]⟩, .string ⟨#[]⟩, .int .i64 0, .int .i64 0, .string ⟨#[]⟩], .int .i64 32]) (by simp [results, Tryd.results68, go_sem]) rfl ⟨rfl, below5 (below_drewN ((Below.refl _ _).alloc (Nat.le_refl _) _) _)⟩

set_option maxHeartbeats 1000000 in
theorem decodeFour_short (b off m c : Nat) (A : Option Addr) (bs rs : List Int) (w : World) (hp : Part w ⟨some ⟨b, off, none⟩, 20, 20, bs⟩) (hq : Part w ⟨A, m, c, rs⟩) (hm : m ≤ 140737488355328) (x0 x2 x3 z : Int) (e0 : byteAt bs 0 = x0) (e2 : byteAt bs 2 = x2) (e3 : byteAt bs 3 = x3) (hz : x2 * 256 + x3 = z) (h : x0 % 16 = 5) (h2 : z < 20) :
    Calls Tryd.prog 68 #[.slice (some ⟨b, off, none⟩) 20 20, .slice A m c] w fun e w' => e = .returned (.tuple #[.agg #[.string ⟨#[]⟩, .string ⟨#[]⟩, .int .i64 0, .int .i64 0, .string ⟨#[]⟩], .int .i64 33]) ∧ Below w.heap.size w w' := by
  have c0 : w.cell? ⟨b, off + 0, none⟩ = some (.int .u8 x0) := by rw [← e0]; exact hp.at (by omega) 0 (by omega)
  have q0 : 0 ≤ x0 ∧ x0 ≤ 255 := by rw [← e0]; exact byteAt_bd hp.2.2.1 0
  have c2 : w.cell? ⟨b, off + 2, none⟩ = some (.int .u8 x2) := by rw [← e2]; exact hp.at (by omega) 2 (by omega)
  have q2 : 0 ≤ x2 ∧ x2 ≤ 255 := by rw [← e2]; exact byteAt_bd hp.2.2.1 2
  have c3 : w.cell? ⟨b, off + 3, none⟩ = some (.int .u8 x3) := by rw [← e3]; exact hp.at (by omega) 3 (by omega)
  have q3 : 0 ≤ x3 ∧ x3 ≤ 255 := by rw [← e3]; exact byteAt_bd hp.2.2.1 3
  have c0' : w.cell? ⟨b, off, none⟩ = some (.int .u8 x0) := c0
  have hbl : b < w.heap.size := World.block_lt_of_cell? _ _ c2
  have i1 := and_15 x0 q0
  have C2 := Lib.hid ((World.cell?_alloc_lt w (.cells #[.string ⟨#[]⟩, .string ⟨#[]⟩, .int .i64 0, .int .i64 0, .string ⟨#[]⟩] 72) _ hbl).trans c2)
  have C3 := Lib.hid ((World.cell?_alloc_lt w (.cells #[.string ⟨#[]⟩, .string ⟨#[]⟩, .int .i64 0, .int .i64 0, .string ⟨#[]⟩] 72) ⟨b, off + 3, none⟩ hbl).trans c3)
  have HZ := Lib.hid hz
  have HP := Lib.hid hp
  have HQ := Lib.hid hq
  have hmc : m ≤ c := hq.2.1
  have d0 : x0 % 16 = 5 := h
  have zb : 0 ≤ z ∧ z ≤ 65535 := by omega
  have d1 : decide (z - 20 < 0) = true := by simp; omega
  clear hp hq hz
  go_enter Tryd.func68, Tryd.ntmps68
  go_wp2_with fail
  refine (two_at (off := off + 2) HZ.out (by omega) q2 q3 C2.out C3.out).mono ?_
  rintro e w1 ⟨rfl, k, rfl⟩
  go_wp2
  exact bodyPost_ret (v := .tuple #[.agg #[.string ⟨#[]⟩, .string ⟨#[]⟩, .int .i64 0, .int .i64 0, .string ⟨#[]⟩], .int .i64 33]) (by simp [results, Tryd.results68, go_sem]) rfl ⟨rfl, below5 (below_drewN ((Below.refl _ _).alloc (Nat.le_refl _) _) _)⟩

set_option maxHeartbeats 1000000 in
theorem decodeFour_long (b off m c : Nat) (A : Option Addr) (bs rs : List Int) (w : World) (hp : Part w ⟨some ⟨b, off, none⟩, 20, 20, bs⟩) (hq : Part w ⟨A, m, c, rs⟩) (hm : m ≤ 140737488355328) (x0 x2 x3 z : Int) (e0 : byteAt bs 0 = x0) (e2 : byteAt bs 2 = x2) (e3 : byteAt bs 3 = x3) (hz : x2 * 256 + x3 = z) (h : x0 % 16 = 5) (h2 : 20 ≤ z) (h3 : (m : Int) < z - 20) :
    Calls Tryd.prog 68 #[.slice (some ⟨b, off, none⟩) 20 20, .slice A m c] w fun e w' => e = .returned (.tuple #[.agg #[.string ⟨#[]⟩, .string ⟨#[]⟩, .int .i64 0, .int .i64 0, .string ⟨#[]⟩], .int .i64 33]) ∧ Below w.heap.size w w' := by
  have c0 : w.cell? ⟨b, off + 0, none⟩ = some (.int .u8 x0) := by rw [← e0]; exact hp.at (by omega) 0 (by omega)
  have q0 : 0 ≤ x0 ∧ x0 ≤ 255 := by rw [← e0]; exact byteAt_bd hp.2.2.1 0
  have c2 : w.cell? ⟨b, off + 2, none⟩ = some (.int .u8 x2) := by rw [← e2]; exact hp.at (by omega) 2 (by omega)
  have q2 : 0 ≤ x2 ∧ x2 ≤ 255 := by rw [← e2]; exact byteAt_bd hp.2.2.1 2
  have c3 : w.cell? ⟨b, off + 3, none⟩ = some (.int .u8 x3) := by rw [← e3]; exact hp.at (by omega) 3 (by omega)
  have q3 : 0 ≤ x3 ∧ x3 ≤ 255 := by rw [← e3]; exact byteAt_bd hp.2.2.1 3
  have c0' : w.cell? ⟨b, off, none⟩ = some (.int .u8 x0) := c0
  have hbl : b < w.heap.size := World.block_lt_of_cell? _ _ c2
  have i1 := and_15 x0 q0
  have C2 := Lib.hid ((World.cell?_alloc_lt w (.cells #[.string ⟨#[]⟩, .string ⟨#[]⟩, .int .i64 0, .int .i64 0, .string ⟨#[]⟩] 72) _ hbl).trans c2)
  have C3 := Lib.hid ((World.cell?_alloc_lt w (.cells #[.string ⟨#[]⟩, .string ⟨#[]⟩, .int .i64 0, .int .i64 0, .string ⟨#[]⟩] 72) ⟨b, off + 3, none⟩ hbl).trans c3)
  have HZ := Lib.hid hz
  have HP := Lib.hid hp
  have HQ := Lib.hid hq
  have hmc : m ≤ c := hq.2.1
  have d0 : x0 % 16 = 5 := h
  have zb : 0 ≤ z ∧ z ≤ 65535 := by omega
  have d1 : decide (z - 20 < 0) = false := by simp; omega
  have d2 : decide ((m : Int) < z - 20) = true := by simp; omega
  clear hp hq hz
  go_enter Tryd.func68, Tryd.ntmps68
  go_wp2_with fail
  refine (two_at (off := off + 2) HZ.out (by omega) q2 q3 C2.out C3.out).mono ?_
  rintro e w1 ⟨rfl, k, rfl⟩
  go_wp2
  exact bodyPost_ret (v := .tuple #[.agg #[.string ⟨#[]⟩, .string ⟨#[]⟩, .int .i64 0, .int .i64 0, .string ⟨#[]⟩], .int .i64 33]) (by simp [results, Tryd.results68, go_sem]) rfl ⟨rfl, below5 (below_drewN ((Below.refl _ _).alloc (Nat.le_refl _) _) _)⟩

set_option maxHeartbeats 1000000 in
theorem decodeFour_sum (b off m c : Nat) (A : Option Addr) (bs rs : List Int) (w : World) (hp : Part w ⟨some ⟨b, off, none⟩, 20, 20, bs⟩) (hq : Part w ⟨A, m, c, rs⟩) (hm : m ≤ 140737488355328) (x0 x2 x3 z : Int) (e0 : byteAt bs 0 = x0) (e2 : byteAt bs 2 = x2) (e3 : byteAt bs 3 = x3) (hz : x2 * 256 + x3 = z) (h : x0 % 16 = 5) (h2 : 20 ≤ z) (h3 : z - 20 ≤ (m : Int)) (hs : (fd (tot bs) == 65535) = false) :
    Calls Tryd.prog 68 #[.slice (some ⟨b, off, none⟩) 20 20, .slice A m c] w fun e w' => e = .returned (.tuple #[.agg #[.string ⟨#[]⟩, .string ⟨#[]⟩, .int .i64 0, .int .i64 0, .string ⟨#[]⟩], .int .i64 34]) ∧ Below w.heap.size w w' := by
  have c0 : w.cell? ⟨b, off + 0, none⟩ = some (.int .u8 x0) := by rw [← e0]; exact hp.at (by omega) 0 (by omega)
  have q0 : 0 ≤ x0 ∧ x0 ≤ 255 := by rw [← e0]; exact byteAt_bd hp.2.2.1 0
  have c2 : w.cell? ⟨b, off + 2, none⟩ = some (.int .u8 x2) := by rw [← e2]; exact hp.at (by omega) 2 (by omega)
  have q2 : 0 ≤ x2 ∧ x2 ≤ 255 := by rw [← e2]; exact byteAt_bd hp.2.2.1 2
  have c3 : w.cell? ⟨b, off + 3, none⟩ = some (.int .u8 x3) := by rw [← e3]; exact hp.at (by omega) 3 (by omega)
  have q3 : 0 ≤ x3 ∧ x3 ≤ 255 := by rw [← e3]; exact byteAt_bd hp.2.2.1 3
  have c0' : w.cell? ⟨b, off, none⟩ = some (.int .u8 x0) := c0
  have hbl : b < w.heap.size := World.block_lt_of_cell? _ _ c2
  have i1 := and_15 x0 q0
  have C2 := Lib.hid ((World.cell?_alloc_lt w (.cells #[.string ⟨#[]⟩, .string ⟨#[]⟩, .int .i64 0, .int .i64 0, .string ⟨#[]⟩] 72) _ hbl).trans c2)
  have C3 := Lib.hid ((World.cell?_alloc_lt w (.cells #[.string ⟨#[]⟩, .string ⟨#[]⟩, .int .i64 0, .int .i64 0, .string ⟨#[]⟩] 72) ⟨b, off + 3, none⟩ hbl).trans c3)
  have HZ := Lib.hid hz
  have HP := Lib.hid hp
  have HQ := Lib.hid hq
  have hmc : m ≤ c := hq.2.1
  have d0 : x0 % 16 = 5 := h
  have zb : 0 ≤ z ∧ z ≤ 65535 := by omega
  have d1 : decide (z - 20 < 0) = false := by simp; omega
  have d2 : decide ((m : Int) < z - 20) = false := by simp; omega
  have HS := Lib.hid hs
  clear hs
  clear hp hq hz
  go_enter Tryd.func68, Tryd.ntmps68
  go_wp2_with fail
  refine (two_at (off := off + 2) HZ.out (by omega) q2 q3 C2.out C3.out).mono ?_
  rintro e w1 ⟨rfl, k, rfl⟩
  go_wp2_with fail
  refine (good_one (a := some ⟨b, off, none⟩) (n := 20) (c := 20) (bs := bs) (by simp [go_sem]) (((HP.out.alloc _).drewN _).alloc _) (by omega) rfl).mono ?_
  rintro e w2 ⟨rfl, k2, rfl⟩
  rw [HS.out]
  go_wp2
  exact bodyPost_ret (v := .tuple #[.agg #[.string ⟨#[]⟩, .string ⟨#[]⟩, .int .i64 0, .int .i64 0, .string ⟨#[]⟩], .int .i64 34]) (by simp [results, Tryd.results68, go_sem]) rfl ⟨rfl, below5 (below_drewN (below_alloc (below_drewN ((Below.refl _ _).alloc (Nat.le_refl _) _) _) _) _)⟩

set_option maxHeartbeats 1000000 in
theorem decodeFour_parts (b off m c : Nat) (A : Option Addr) (bs rs : List Int) (w : World) (hp : Part w ⟨some ⟨b, off, none⟩, 20, 20, bs⟩) (hq : Part w ⟨A, m, c, rs⟩) (hm : m ≤ 140737488355328) (x0 x2 x3 x6 x7 z y : Int) (e0 : byteAt bs 0 = x0) (e2 : byteAt bs 2 = x2) (e3 : byteAt bs 3 = x3) (e6 : byteAt bs 6 = x6) (e7 : byteAt bs 7 = x7) (hz : x2 * 256 + x3 = z) (hy : x6 * 256 + x7 = y) (h : x0 % 16 = 5) (h2 : 20 ≤ z) (h3 : z - 20 ≤ (m : Int)) (hs : (fd (tot bs) == 65535) = true) (v : Int) (hv : bits BinOp.andNot IntKind.i64 y 16384 = v) (hv0 : v ≠ 0) :
    Calls Tryd.prog 68 #[.slice (some ⟨b, off, none⟩) 20 20, .slice A m c] w fun e w' => e = .returned (.tuple #[.agg #[.string ⟨#[]⟩, .string ⟨#[]⟩, .int .i64 0, .int .i64 0, .string ⟨#[]⟩], .int .i64 32]) ∧ Below w.heap.size w w' := by
  have c0 : w.cell? ⟨b, off + 0, none⟩ = some (.int .u8 x0) := by rw [← e0]; exact hp.at (by omega) 0 (by omega)
  have q0 : 0 ≤ x0 ∧ x0 ≤ 255 := by rw [← e0]; exact byteAt_bd hp.2.2.1 0
  have c2 : w.cell? ⟨b, off + 2, none⟩ = some (.int .u8 x2) := by rw [← e2]; exact hp.at (by omega) 2 (by omega)
  have q2 : 0 ≤ x2 ∧ x2 ≤ 255 := by rw [← e2]; exact byteAt_bd hp.2.2.1 2
  have c3 : w.cell? ⟨b, off + 3, none⟩ = some (.int .u8 x3) := by rw [← e3]; exact hp.at (by omega) 3 (by omega)
  have q3 : 0 ≤ x3 ∧ x3 ≤ 255 := by rw [← e3]; exact byteAt_bd hp.2.2.1 3
  have c6 : w.cell? ⟨b, off + 6, none⟩ = some (.int .u8 x6) := by rw [← e6]; exact hp.at (by omega) 6 (by omega)
  have q6 : 0 ≤ x6 ∧ x6 ≤ 255 := by rw [← e6]; exact byteAt_bd hp.2.2.1 6
  have c7 : w.cell? ⟨b, off + 7, none⟩ = some (.int .u8 x7) := by rw [← e7]; exact hp.at (by omega) 7 (by omega)
  have q7 : 0 ≤ x7 ∧ x7 ≤ 255 := by rw [← e7]; exact byteAt_bd hp.2.2.1 7
  have c0' : w.cell? ⟨b, off, none⟩ = some (.int .u8 x0) := c0
  have hbl : b < w.heap.size := World.block_lt_of_cell? _ _ c2
  have i1 := and_15 x0 q0
  have C2 := Lib.hid ((World.cell?_alloc_lt w (.cells #[.string ⟨#[]⟩, .string ⟨#[]⟩, .int .i64 0, .int .i64 0, .string ⟨#[]⟩] 72) _ hbl).trans c2)
  have C3 := Lib.hid ((World.cell?_alloc_lt w (.cells #[.string ⟨#[]⟩, .string ⟨#[]⟩, .int .i64 0, .int .i64 0, .string ⟨#[]⟩] 72) ⟨b, off + 3, none⟩ hbl).trans c3)
  have HZ := Lib.hid hz
  have HP := Lib.hid hp
  have HQ := Lib.hid hq
  have hmc : m ≤ c := hq.2.1
  have d0 : x0 % 16 = 5 := h
  have zb : 0 ≤ z ∧ z ≤ 65535 := by omega
  have d1 : decide (z - 20 < 0) = false := by simp; omega
  have d2 : decide ((m : Int) < z - 20) = false := by simp; omega
  have d3 : decide (v = 0) = false := by simpa using hv0
  have HS := Lib.hid hs
  clear hs
  have HY := Lib.hid hy
  have yb : 0 ≤ y ∧ y ≤ 65535 := by omega
  clear hy
  have C6 := Lib.hid (show ∀ k q, ((((w.alloc (.cells #[.string ⟨#[]⟩, .string ⟨#[]⟩, .int .i64 0, .int .i64 0, .string ⟨#[]⟩] 72)).drewN k).alloc (.cells #[.slice (some ⟨b, off, none⟩) 20 20] 26)).drewN q).cell? ⟨b, off + 6, none⟩ = some (.int .u8 x6) from fun k q => (((((hp.alloc _).drewN k).alloc _).drewN q).at (by omega) 6 (by omega)).trans (by rw [e6]))
  have C7 := Lib.hid (show ∀ k q, ((((w.alloc (.cells #[.string ⟨#[]⟩, .string ⟨#[]⟩, .int .i64 0, .int .i64 0, .string ⟨#[]⟩] 72)).drewN k).alloc (.cells #[.slice (some ⟨b, off, none⟩) 20 20] 26)).drewN q).cell? ⟨b, off + 6 + 1, none⟩ = some (.int .u8 x7) from fun k q => (((((hp.alloc _).drewN k).alloc _).drewN q).at (by omega) 7 (by omega)).trans (by rw [e7]))
  clear hp hq hz
  go_enter Tryd.func68, Tryd.ntmps68
  go_wp2_with fail
  refine (two_at (off := off + 2) HZ.out (by omega) q2 q3 C2.out C3.out).mono ?_
  rintro e w1 ⟨rfl, k, rfl⟩
  go_wp2_with fail
  refine (good_one (a := some ⟨b, off, none⟩) (n := 20) (c := 20) (bs := bs) (by simp [go_sem]) (((HP.out.alloc _).drewN _).alloc _) (by omega) rfl).mono ?_
  rintro e w2 ⟨rfl, k2, rfl⟩
  rw [HS.out]
  go_wp2_with fail
  refine (two_at (off := off + 6) HY.out (by omega) q6 q7 (C6.out _ _) (C7.out _ _)).mono ?_
  rintro e w3 ⟨rfl, k3, rfl⟩
  go_wp2
  exact bodyPost_ret (v := .tuple #[.agg #[.string ⟨#[]⟩, .string ⟨#[]⟩, .int .i64 0, .int .i64 0, .string ⟨#[]⟩], .int .i64 32]) (by simp [results, Tryd.results68, go_sem]) rfl ⟨rfl, below5 (below_drewN (below_alloc (below_drewN ((Below.refl _ _).alloc (Nat.le_refl _) _) _) _) _)⟩

set_option maxHeartbeats 1000000 in
theorem decodeFour_ok (b off m c : Nat) (A : Option Addr) (bs rs : List Int) (w : World) (hp : Part w ⟨some ⟨b, off, none⟩, 20, 20, bs⟩) (hq : Part w ⟨A, m, c, rs⟩) (hm : m ≤ 140737488355328) (x0 x2 x3 x6 x7 x8 x9 z y : Int) (e0 : byteAt bs 0 = x0) (e2 : byteAt bs 2 = x2) (e3 : byteAt bs 3 = x3) (e6 : byteAt bs 6 = x6) (e7 : byteAt bs 7 = x7) (e8 : byteAt bs 8 = x8) (e9 : byteAt bs 9 = x9) (hz : x2 * 256 + x3 = z) (hy : x6 * 256 + x7 = y) (n : Nat) (hnz : z = 20 + (n : Int))
    (h : x0 % 16 = 5) (h3 : n ≤ m) (hs : (fd (tot bs) == 65535) = true) (hv : bits BinOp.andNot IntKind.i64 y 16384 = 0) :
    Calls Tryd.prog 68 #[.slice (some ⟨b, off, none⟩) 20 20, .slice A m c] w fun e w' => e = .returned (.tuple #[.agg #[.string (seg bs 12 4), .string (seg bs 16 4), .int .i64 x9, .int .i64 x8, .string (strOfNums (rs.take n))], .int .i64 0]) ∧ Below w.heap.size w w' := by
  have c0 : w.cell? ⟨b, off + 0, none⟩ = some (.int .u8 x0) := by rw [← e0]; exact hp.at (by omega) 0 (by omega)
  have q0 : 0 ≤ x0 ∧ x0 ≤ 255 := by rw [← e0]; exact byteAt_bd hp.2.2.1 0
  have c2 : w.cell? ⟨b, off + 2, none⟩ = some (.int .u8 x2) := by rw [← e2]; exact hp.at (by omega) 2 (by omega)
  have q2 : 0 ≤ x2 ∧ x2 ≤ 255 := by rw [← e2]; exact byteAt_bd hp.2.2.1 2
  have c3 : w.cell? ⟨b, off + 3, none⟩ = some (.int .u8 x3) := by rw [← e3]; exact hp.at (by omega) 3 (by omega)
  have q3 : 0 ≤ x3 ∧ x3 ≤ 255 := by rw [← e3]; exact byteAt_bd hp.2.2.1 3
  have c6 : w.cell? ⟨b, off + 6, none⟩ = some (.int .u8 x6) := by rw [← e6]; exact hp.at (by omega) 6 (by omega)
  have q6 : 0 ≤ x6 ∧ x6 ≤ 255 := by rw [← e6]; exact byteAt_bd hp.2.2.1 6
  have c7 : w.cell? ⟨b, off + 7, none⟩ = some (.int .u8 x7) := by rw [← e7]; exact hp.at (by omega) 7 (by omega)
  have q7 : 0 ≤ x7 ∧ x7 ≤ 255 := by rw [← e7]; exact byteAt_bd hp.2.2.1 7
  have c8 : w.cell? ⟨b, off + 8, none⟩ = some (.int .u8 x8) := by rw [← e8]; exact hp.at (by omega) 8 (by omega)
  have q8 : 0 ≤ x8 ∧ x8 ≤ 255 := by rw [← e8]; exact byteAt_bd hp.2.2.1 8
  have c9 : w.cell? ⟨b, off + 9, none⟩ = some (.int .u8 x9) := by rw [← e9]; exact hp.at (by omega) 9 (by omega)
  have q9 : 0 ≤ x9 ∧ x9 ≤ 255 := by rw [← e9]; exact byteAt_bd hp.2.2.1 9
  have c0' : w.cell? ⟨b, off, none⟩ = some (.int .u8 x0) := c0
  have hbl : b < w.heap.size := World.block_lt_of_cell? _ _ c2
  have i1 := and_15 x0 q0
  have C2 := Lib.hid ((World.cell?_alloc_lt w (.cells #[.string ⟨#[]⟩, .string ⟨#[]⟩, .int .i64 0, .int .i64 0, .string ⟨#[]⟩] 72) _ hbl).trans c2)
  have C3 := Lib.hid ((World.cell?_alloc_lt w (.cells #[.string ⟨#[]⟩, .string ⟨#[]⟩, .int .i64 0, .int .i64 0, .string ⟨#[]⟩] 72) ⟨b, off + 3, none⟩ hbl).trans c3)
  have HZ := Lib.hid hz
  have HP := Lib.hid hp
  have HQ := Lib.hid hq
  have hmc : m ≤ c := hq.2.1
  have d0 : x0 % 16 = 5 := h
  have zn : z - 20 = (n : Int) := by omega
  have zb : 0 ≤ z ∧ z ≤ 65535 := by omega
  have d1 : decide ((n : Int) < 0) = false := by simp
  have d2 : decide ((m : Int) < (n : Int)) = false := by simp; omega
  have d2' : decide (m < n) = false := by simp; omega
  have hnc : n ≤ c := by omega
  have HS := Lib.hid hs
  clear hs hnz
  obtain ⟨s1, es1⟩ : ∃ x, x = seg bs 12 4 := ⟨_, rfl⟩
  obtain ⟨s2, es2⟩ : ∃ x, x = seg bs 16 4 := ⟨_, rfl⟩
  obtain ⟨s3, es3⟩ : ∃ x, x = strOfNums (rs.take n) := ⟨_, rfl⟩
  have HV1 : ∀ k q, (convert 26 24 (.slice (some ⟨b, off + 12, none⟩) 4 4)).run Tryd.prog ((((w.alloc (.cells #[.string ⟨#[]⟩, .string ⟨#[]⟩, .int .i64 0, .int .i64 0, .string ⟨#[]⟩] 72)).drewN k).alloc (.cells #[.slice (some ⟨b, off, none⟩) 20 20] 26)).drewN q) = .ok (.string s1) ((((w.alloc (.cells #[.string ⟨#[]⟩, .string ⟨#[]⟩, .int .i64 0, .int .i64 0, .string ⟨#[]⟩] 72)).drewN k).alloc (.cells #[.slice (some ⟨b, off, none⟩) 20 20] 26)).drewN q) := fun k q => by
    rw [es1]; exact convert_part (((((hp.cut3 12 4 4 (by omega) (by omega)).alloc _).drewN k).alloc _).drewN q) 24 Tryd.underlying24
  have HV2 : ∀ k q, (convert 26 24 (.slice (some ⟨b, off + 16, none⟩) 4 4)).run Tryd.prog ((((w.alloc (.cells #[.string ⟨#[]⟩, .string ⟨#[]⟩, .int .i64 0, .int .i64 0, .string ⟨#[]⟩] 72)).drewN k).alloc (.cells #[.slice (some ⟨b, off, none⟩) 20 20] 26)).drewN q) = .ok (.string s2) ((((w.alloc (.cells #[.string ⟨#[]⟩, .string ⟨#[]⟩, .int .i64 0, .int .i64 0, .string ⟨#[]⟩] 72)).drewN k).alloc (.cells #[.slice (some ⟨b, off, none⟩) 20 20] 26)).drewN q) := fun k q => by
    rw [es2]; exact convert_part (((((hp.cut3 16 4 4 (by omega) (by omega)).alloc _).drewN k).alloc _).drewN q) 24 Tryd.underlying24
  have HV3 : ∀ k q, (convert 26 9 (.slice A n c)).run Tryd.prog ((((w.alloc (.cells #[.string ⟨#[]⟩, .string ⟨#[]⟩, .int .i64 0, .int .i64 0, .string ⟨#[]⟩] 72)).drewN k).alloc (.cells #[.slice (some ⟨b, off, none⟩) 20 20] 26)).drewN q) = .ok (.string s3) ((((w.alloc (.cells #[.string ⟨#[]⟩, .string ⟨#[]⟩, .int .i64 0, .int .i64 0, .string ⟨#[]⟩] 72)).drewN k).alloc (.cells #[.slice (some ⟨b, off, none⟩) 20 20] 26)).drewN q) := fun k q => by
    rw [es3]; exact convert_part (((((hq.first n h3).alloc _).drewN k).alloc _).drewN q) 9 Tryd.underlying9
  rw [← es1, ← es2, ← es3]
  clear es1 es2 es3
  have HY := Lib.hid hy
  have yb : 0 ≤ y ∧ y ≤ 65535 := by omega
  clear hy
  have C6 := Lib.hid (show ∀ k q, ((((w.alloc (.cells #[.string ⟨#[]⟩, .string ⟨#[]⟩, .int .i64 0, .int .i64 0, .string ⟨#[]⟩] 72)).drewN k).alloc (.cells #[.slice (some ⟨b, off, none⟩) 20 20] 26)).drewN q).cell? ⟨b, off + 6, none⟩ = some (.int .u8 x6) from fun k q => (((((hp.alloc _).drewN k).alloc _).drewN q).at (by omega) 6 (by omega)).trans (by rw [e6]))
  have C7 := Lib.hid (show ∀ k q, ((((w.alloc (.cells #[.string ⟨#[]⟩, .string ⟨#[]⟩, .int .i64 0, .int .i64 0, .string ⟨#[]⟩] 72)).drewN k).alloc (.cells #[.slice (some ⟨b, off, none⟩) 20 20] 26)).drewN q).cell? ⟨b, off + 6 + 1, none⟩ = some (.int .u8 x7) from fun k q => (((((hp.alloc _).drewN k).alloc _).drewN q).at (by omega) 7 (by omega)).trans (by rw [e7]))
  clear hp hq hz
  go_enter Tryd.func68, Tryd.ntmps68
  go_wp2_with fail
  refine (two_at (off := off + 2) HZ.out (by omega) q2 q3 C2.out C3.out).mono ?_
  rintro e w1 ⟨rfl, k, rfl⟩
  go_wp2_with fail
  refine (good_one (a := some ⟨b, off, none⟩) (n := 20) (c := 20) (bs := bs) (by simp [go_sem]) (((HP.out.alloc _).drewN _).alloc _) (by omega) rfl).mono ?_
  rintro e w2 ⟨rfl, k2, rfl⟩
  rw [HS.out]
  go_wp2_with fail
  refine (two_at (off := off + 6) HY.out (by omega) q6 q7 (C6.out _ _) (C7.out _ _)).mono ?_
  rintro e w3 ⟨rfl, k3, rfl⟩
  go_wp2_with fail
  have J1 := HV1 k (k2 + k3 + 1)
  have J2 := HV2 k (k2 + k3 + 1)
  have J3 := HV3 k (k2 + k3 + 1)
  clear HV1 HV2 HV3
  go_region
  go_wp2
  exact bodyPost_ret (v := .tuple #[.agg #[.string s1, .string s2, .int .i64 x9, .int .i64 x8, .string s3], .int .i64 0]) (by simp [results, Tryd.results68, go_sem]) rfl ⟨rfl, below5 (below_drewN (below_alloc (below_drewN ((Below.refl _ _).alloc (Nat.le_refl _) _) _) _) _)⟩

end Go.Proofs.YtdoefjhdipkkeaaDoor
