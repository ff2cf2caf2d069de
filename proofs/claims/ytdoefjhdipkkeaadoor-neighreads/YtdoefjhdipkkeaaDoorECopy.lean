/-
  What copy does to a block that was made last.
-/
import Derived.Test.YtdoefjhdipkkeaaDoorELeaf
import Derived.Laws.CopyOwn
import Derived.Lib.BufferWrite
import Derived.Deep.RegionLaw
namespace Go.Proofs.YtdoefjhdipkkeaaDoor.E
open Go.RowKit

/-- A text is copied into the block that was made last. -/
theorem copy_text (W : World) (N : Nat) (cur : List Value) (t ty sT : TypeId) (off dLen dCap k : Nat) (s : ByteArray) (hN : N = W.heap.size) (hle : s.size ≤ dLen) (hfit : off + s.size ≤ cur.length) :
    (Builtin.copy_ #[26, sT] ty #[.slice (some ⟨N, off, none⟩) dLen dCap, .string s]).run Tryd.prog ((W.alloc (.cells cur.toArray t)).drewN k) =
      .ok (goInt s.size) ((W.alloc (.cells (splice cur off (cel (bts s))).toArray t)).drewN k) := by
  subst hN
  rw [Lib.run_copy_row_string ((W.alloc (.cells cur.toArray t)).drewN k) 26 sT ty 5 W.heap.size off dLen dCap s cur.toArray t Tryd.underlying26 size5 (heap_top ..) hle (by simpa using hfit)]
  rw [setRow_top_drewN]
  congr 5
  simp [splice, cel, bts, Lib.byteCells]
/-- Bytes are copied into the block that was made last. -/
theorem copy_part (W : World) (N : Nat) (cur : List Value) (t ty : TypeId) (off dLen dCap k : Nat) (ad : Addr) (sLen sCap : Nat) (cs : List Int) (hN : N = W.heap.size) (hn : cs.length = Nat.min sLen dLen) (hfit : off + cs.length ≤ cur.length)
    (hsrc : ∀ j v, (cel cs)[j]? = some v → (W.alloc (.cells cur.toArray t)).cell? (ad.add j) = some v) :
    (Builtin.copy_ #[26, 26] ty #[.slice (some ⟨N, off, none⟩) dLen dCap, .slice (some ad) sLen sCap]).run Tryd.prog ((W.alloc (.cells cur.toArray t)).drewN k) =
      .ok (goInt cs.length) ((W.alloc (.cells (splice cur off (cel cs)).toArray t)).drewN k) := by
  subst hN
  rw [run_copy_row (P := Tryd.prog) ((W.alloc (.cells cur.toArray t)).drewN k) 26 26 ty 5 W.heap.size off dLen dCap ad sLen sCap cur.toArray t (cel cs) Tryd.underlying26 size5 (heap_top ..) (by rw [cel_len]; exact hn) hsrc (by simpa [cel_len] using hfit)
    (by intro v hv; simp [cel] at hv; obtain ⟨x, _, rfl⟩ := hv; rfl)]
  rw [setRow_top_drewN, cel_len]
  congr 5
  simp [splice, cel_len]

theorem and_127 (a : Int) (h : 0 ≤ a ∧ a ≤ 255) : bits BinOp.and IntKind.u8 a 127 = a % 128 := by
  rw [u8_and a 127 h.1 (by omega) (by omega) (by omega)]
  have e : ((127 : Int)).toNat = 2 ^ 7 - 1 := rfl
  rw [e, Nat.and_two_pow_sub_one_eq_mod]; omega
end Go.Proofs.YtdoefjhdipkkeaaDoor.E
