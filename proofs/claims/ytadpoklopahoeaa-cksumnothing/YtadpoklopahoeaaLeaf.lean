/-
  What the small functions of the program and of the reference do: fold, added, pair, Update, Same.
-/
import Derived.Test.YtadpoklopahoeaaRows
import Derived.Test.YtadpoklopahoeaaMath
import Derived.WalkKit
import Derived.WalkSpells
import Derived.BigQuiet
import Derived.Deep.QuietTactic
import Derived.Lib.Hide
import Derived.Laws.BitsAllLaws
namespace Go.Proofs.Ytadpoklopahoeaa
open Go.RowKit

theorem ret_int {k : IntKind} {a b : Int} (h : a = b) : Ending.returned (.int k a) = .returned (.int k b) := by rw [h]
theorem ret_bool {a b : Bool} (h : a = b) : Ending.returned (.bool a) = .returned (.bool b) := by rw [h]

set_option maxHeartbeats 400000 in
/-- outriderref01.added. -/
theorem added_any (n : Int) (w : World) (h0 : 0 ≤ n) (h1 : n ≤ 9223372036854775807) :
    Calls Try.prog 24 #[.int .i64 n] w fun e w' => e = .returned (.int .i64 (fd n)) ∧ w = w' := by
  go_enter Try.func24, Try.ntmps24
  go_wp2
  go_loop [0] (fun t => ∃ m : Int, 0 ≤ m ∧ m ≤ n ∧ Hid (fd m = fd n) ∧ t = .int .i64 m) (fun t => (intOf t).toNat)
  case atStart => exact ⟨n, h0, Int.le_refl _, Lib.hid rfl, rfl⟩
  case round =>
    obtain ⟨m, hm0, hm1, hf, rfl⟩ := hrel
    by_cases hlt : 65535 < m
    · go_wp2
      go_round
      case rel => exact ⟨m % 65536 + m / 65536, by omega, by omega, Lib.hid ((fd_step' hlt).trans hf.out), rfl⟩
      case measure => simp [intOf]; omega
    · go_wp2
      go_ret
      exact ⟨ret_int ((fd_small hm0 (by omega)).symm.trans hf.out), rfl⟩

theorem and_low (m : Int) (h0 : 0 ≤ m) (h1 : m ≤ 14000000000000000000) : bits BinOp.and IntKind.u64 m 65535 = m % 65536 := by
  rw [u64_and m 65535 h0 (by omega) (by omega) (by omega)]
  have e : ((65535 : Int)).toNat = 65535 := rfl
  rw [e, nat_mask16]; omega
theorem or_two (a b : Int) (h0 : 0 ≤ a ∧ a ≤ 255) (h1 : 0 ≤ b ∧ b ≤ 255) : bits BinOp.or IntKind.u16 (a * 256) b = a * 256 + b := by
  rw [u16_or _ _ (by omega) (by omega) (by omega) (by omega), nat_join 8 _ _ (by omega) (by omega)]; omega

set_option maxHeartbeats 400000 in
/-- cksum.fold. -/
theorem fold_any (n : Int) (w : World) (h0 : 0 ≤ n) (h1 : n ≤ 14000000000000000000) :
    Calls Try.prog 26 #[.int .u64 n] w fun e w' => e = .returned (.int .u16 (fd n)) ∧ w = w' := by
  go_enter Try.func26, Try.ntmps26
  go_wp2
  go_loop [0] (fun t => ∃ m : Int, 0 ≤ m ∧ m ≤ n ∧ Hid (fd m = fd n) ∧ t = .int .u64 m) (fun t => (intOf t).toNat)
  case atStart => exact ⟨n, h0, Int.le_refl _, Lib.hid rfl, rfl⟩
  case round =>
    obtain ⟨m, hm0, hm1, hf, rfl⟩ := hrel
    by_cases hlt : 65535 < m
    · have ha := and_low m hm0 (by omega)
      go_wp2
      go_round
      case rel => exact ⟨m / 65536 + m % 65536, by omega, by omega, Lib.hid ((fd_step hlt).trans hf.out), rfl⟩
      case measure => simp [intOf]; omega
    · go_wp2
      go_ret
      exact ⟨ret_int ((fd_small hm0 (by omega)).symm.trans hf.out), rfl⟩

theorem not_u16 (s : Int) (h : 0 ≤ s ∧ s ≤ 65535) : bits BinOp.xor IntKind.u16 IntKind.u16.max s = 65535 - s := by
  have hm : IntKind.u16.max = 65535 := rfl
  rw [hm, u16_xor _ _ (by omega) (by omega) h.1 (by omega)]
  have e : ((65535 : Int)).toNat = 2 ^ 16 - 1 := rfl
  have k : 65535 - s.toNat = (BitVec.allOnes 16 ^^^ BitVec.ofNat 16 s.toNat).toNat := by
    rw [BitVec.allOnes_xor, BitVec.toNat_not, BitVec.toNat_ofNat]; omega
  rw [BitVec.toNat_xor, BitVec.toNat_allOnes, BitVec.toNat_ofNat, Nat.mod_eq_of_lt (by omega)] at k
  rw [e, ← k]; omega

set_option maxHeartbeats 400000 in
/-- cksum.Update. -/
theorem update_any (s f t : Int) (w : World) (hs : 0 ≤ s ∧ s ≤ 65535) (hf : 0 ≤ f ∧ f ≤ 65535) (ht : 0 ≤ t ∧ t ≤ 65535) :
    Calls Try.prog 18 #[.int .u16 s, .int .u16 f, .int .u16 t] w fun e w' => e = .returned (.int .u16 (65535 - fd (65535 - s + (65535 - f) + t))) ∧ w = w' := by
  have hb := fd_bd (65535 - s + (65535 - f) + t)
  have h1 := not_u16 s hs
  have h2 := not_u16 f hf
  have h3 := not_u16 _ hb
  have hg : IntKind.u16.signed = false := rfl
  go_enter Try.func18, Try.ntmps18
  go_wp2_with (go_at_call 26; refine (fold_any _ _ (by omega) (by omega)).mono ?_; rintro e w' ⟨rfl, rfl⟩)
  go_ret
  exact ⟨rfl, rfl⟩

set_option maxHeartbeats 400000 in
/-- outriderref01.Update. -/
theorem rupdate_any (s f t : Int) (w : World) (hs : 0 ≤ s ∧ s ≤ 65535) (hf : 0 ≤ f ∧ f ≤ 65535) (ht : 0 ≤ t ∧ t ≤ 65535) :
    Calls Try.prog 19 #[.int .i64 s, .int .i64 f, .int .i64 t] w fun e w' => e = .returned (.int .i64 (65535 - fd (65535 - s + (65535 - f) + t))) ∧ w = w' := by
  have hb := fd_bd (65535 - s + (65535 - f) + t)
  have he : 65535 - s + 65535 - f + t = 65535 - s + (65535 - f) + t := by omega
  go_enter Try.func19, Try.ntmps19
  go_wp2_with (go_at_call 24; refine (added_any _ _ (by omega) (by omega)).mono ?_; rintro e w' ⟨rfl, rfl⟩)
  go_ret
  exact ⟨rfl, rfl⟩

def sameB (a b : Int) : Bool := decide (a % 65535 = b % 65535)

set_option maxHeartbeats 400000 in
/-- outriderref01.Same. -/
theorem rsame_any (a b : Int) (w : World) (ha : 0 ≤ a ∧ a ≤ 65535) (hb : 0 ≤ b ∧ b ≤ 65535) :
    Calls Try.prog 21 #[.int .i64 a, .int .i64 b] w fun e w' => e = .returned (.bool (sameB a b)) ∧ w = w' := by
  go_enter Try.func21, Try.ntmps21
  go_wp2
  go_ret
  exact ⟨ret_bool (by rw [Bool.eq_iff_iff]; simp [sameB]), rfl⟩

set_option maxHeartbeats 400000 in
/-- cksum.Same. -/
theorem same_any (a b : Int) (w : World) (ha : 0 ≤ a ∧ a ≤ 65535) (hb : 0 ≤ b ∧ b ≤ 65535) :
    Calls Try.prog 20 #[.int .u16 a, .int .u16 b] w fun e w' => e = .returned (.bool (sameB a b)) ∧ w = w' := by
  go_enter Try.func20, Try.ntmps20
  go_wp2
  all_goals
    go_ret
    refine ⟨ret_bool ?_, rfl⟩
    rw [Bool.eq_iff_iff]
    simp [sameB]
    try omega

set_option maxHeartbeats 400000 in
/-- cksum.pair. -/
theorem pair_any (b off n c : Nat) (x y : Int) (w : World) (hn : 2 ≤ n) (hx : 0 ≤ x ∧ x ≤ 255) (hy : 0 ≤ y ∧ y ≤ 255)
    (h0 : w.cell? ⟨b, off, none⟩ = some (.int .u8 x)) (h1 : w.cell? ⟨b, off + 1, none⟩ = some (.int .u8 y)) :
    Calls Try.prog 25 #[.slice (some ⟨b, off, none⟩) n c] w fun e w' => e = .returned (.int .u16 (x * 256 + y)) ∧ ∃ k, w' = w.drewN k := by
  have ho := or_two x y hx hy
  have hi0 : (0 : Int) < (n : Int) := by omega
  have hi1 : (1 : Int) < (n : Int) := by omega
  go_enter Try.func25, Try.ntmps25
  go_wp2
  go_quiet (fail)
  go_wp2
  go_ret
  exact ⟨rfl, _, rfl⟩

end Go.Proofs.Ytadpoklopahoeaa
