/-
  What the reference's low does: so many of a number's lowest bytes, the highest of these first.
-/
import Derived.Test.YtpcdaidgijkkbaaEnc
import Derived.Deep.LoopGhost
namespace Go.Proofs.Ytpcdaidgijkkbaa
open Go.RowKit
set_option linter.unusedVariables false

/-- The lowest bytes of a number, ahead of a list. -/
def lowT : Nat → Int → List Int → List Int
  | 0, _, L => L
  | k + 1, n, L => lowT k (n / 256) (n % 256 :: L)

theorem and_255 (x : Int) (h : -9223372036854775808 ≤ x ∧ x ≤ 9223372036854775807) : bits BinOp.and IntKind.i64 x 255 = x % 256 := by
  show IntKind.i64.wrap ((BitVec.ofInt 64 x &&& BitVec.ofInt 64 255).toNat : Int) = _
  have e : (BitVec.ofInt 64 x &&& BitVec.ofInt 64 255).toNat = (x % 18446744073709551616).toNat % 256 := by
    rw [BitVec.toNat_and, BitVec.toNat_ofInt, BitVec.toNat_ofInt]
    have : ((255 : Int) % (2 ^ 64 : Nat)).toNat = 2 ^ 8 - 1 := by decide
    rw [this, Nat.and_two_pow_sub_one_eq_mod]
    rfl
  rw [e, IntKind.wrap_i64]
  omega

theorem set_zeros (j : Nat) (L : List Int) (b : Int) : (List.replicate (j + 1) (0 : Int) ++ L).set j b = List.replicate j 0 ++ (b :: L) := by
  rw [List.replicate_succ', List.append_assoc, List.set_append_right _ _ (by simp)]
  simp

/-- What holds ahead of each byte. -/
def LowRel (w : World) (m : Nat) (tgt : List Int) (gg : Nat) (vn vi : Value) (wr : World) : Prop :=
  ∃ (i : Nat) (L : List Int) (x : Int), i + gg = m ∧ vi = .int .i64 i ∧ vn = .int .i64 x ∧ (-9223372036854775808 ≤ x ∧ x ≤ 9223372036854775807) ∧ lowT gg x L = tgt ∧
    Own wr w.heap.size w.heap.size m m (List.replicate gg 0 ++ L) ∧ Below w.heap.size w wr

theorem make_whole (W : World) (n m : Nat) (hn : n ≤ 281474976710656) (hm : m = W.heap.size) :
    (Instr.makeSlice 87 (.int .i64 (n : Int)) (.int .i64 (n : Int))).run Try.prog W = .ok (.slice (some ⟨m, 0, none⟩) n n) (W.alloc (.cells (cel (List.replicate n 0)).toArray 5)) := by
  subst hm
  obtain ⟨i, hi, hz, hs, hb⟩ := info_parts info5
  have hr := run_make (P := Try.prog) W 87 5 i (.int .u8 0) Try.underlying87 hi hz .i64 .i64 n n (by omega) (by omega) (by rw [hb]; omega) (by omega)
  simp only [Int.toNat_natCast] at hr
  rw [hr, hs, Nat.mul_one, made_cells]
theorem own_whole (W : World) (n : Nat) (hn : n ≤ 281474976710656) : Own (W.alloc (.cells (cel (List.replicate n 0)).toArray 5)) W.heap.size W.heap.size n n (List.replicate n 0) :=
  ⟨by simp, Nat.le_refl _, Nat.le_refl _, by simp only [maxLen]; omega, _, (0, 0), heap_alloc_new W _, .inl rfl, by simp [cel], by simp [cel]⟩

set_option maxHeartbeats 1000000 in
/-- outriderref03.low. -/
theorem low_any (n : Int) (m : Nat) (w : World) (hm : m ≤ 8) (hn : -9223372036854775808 ≤ n ∧ n ≤ 9223372036854775807) :
    Calls Try.prog 75 #[.int .i64 n, .int .i64 (m : Int)] w fun e w' => e = .returned (.slice (some ⟨w.heap.size, 0, none⟩) m m) ∧ Hid (Own w' w.heap.size w.heap.size m m (lowT m n [])) ∧ Hid (Below w.heap.size w w') := by
  have hmk := make_whole w m w.heap.size (by omega) rfl
  have o0 := own_whole w m (by omega)
  obtain ⟨R, hR⟩ : ∃ R, R = cel (List.replicate m 0) := ⟨_, rfl⟩
  rw [← hR] at hmk o0
  have H0 := Lib.hid (show LowRel w m (lowT m n []) m (.int .i64 n) (.int .i64 0) (w.alloc (.cells R.toArray 5)) from ⟨0, [], n, by omega, rfl, rfl, hn, rfl, by simpa using o0, (Below.refl _ _).alloc (Nat.le_refl _) _⟩)
  clear hR o0
  go_enter Try.func75, Try.ntmps75
  go_wp2
  go_loopg [0, 6] m (fun gg vn vi wr => LowRel w m (lowT m n []) gg vn vi wr)
  case atStart => exact H0.out
  case round =>
    clear H0 hmk
    obtain ⟨i, L, x, hi, rfl, rfl, hx, hT, ho, hb⟩ := hrel
    rcases gk with _ | j
    · have hlt : ¬ (i : Int) < (m : Int) := by omega
      have HO := Lib.hid ho
      have HB := Lib.hid hb
      have HT := Lib.hid hT
      clear ho hb hT
      go_wp2
      go_ret
      refine ⟨rfl, Lib.hid ?_, HB⟩
      have := HO.out
      rw [← HT.out]
      simpa [lowT] using this
    · have hlt : (i : Int) < (m : Int) := by omega
      have hij : (m : Int) - 1 - (i : Int) = (j : Int) := by omega
      have ha := and_255 x hx
      have hjm : (j : Int) < (m : Int) := by omega
      have hjm2 : j < m := by omega
      have ck : wr.cell? ⟨w.heap.size, j, none⟩ = some (.int .u8 0) := by
        rw [ho.cell j hjm2]
        simp [List.getElem?_append]
      have fk : wr.frozen? ⟨w.heap.size, j, none⟩ = false := ho.free j hjm2
      have HR := Lib.hid (show LowRel w m (lowT m n []) j (.int .i64 (x / 256)) (.int .i64 ((i : Int) + 1)) (wr.setCell ⟨w.heap.size, j, none⟩ (.int .u8 (x % 256))) from by
        refine ⟨i + 1, x % 256 :: L, x / 256, by omega, by simp, rfl, by omega, ?_, ?_, hb.setCell (Nat.le_refl _) _⟩
        · rw [← hT]; rfl
        · have := (ho.stored j (x % 256)).1
          rwa [set_zeros] at this)
      clear ho hb hT
      go_wp2
      go_roundg j
      case measure => omega
      case rel => exact HR.out

end Go.Proofs.Ytpcdaidgijkkbaa
