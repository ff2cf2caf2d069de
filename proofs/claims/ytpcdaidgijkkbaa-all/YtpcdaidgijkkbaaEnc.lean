/-
  What ipv.encodeFour and encodeSix do.
-/
import Derived.Test.YtpcdaidgijkkbaaPut
namespace Go.Proofs.Ytpcdaidgijkkbaa
open Go.RowKit
set_option linter.unusedVariables false

theorem made_cells (n : Nat) : madeCells (Value.int .u8 0).cells n = (cel (List.replicate n 0)).toArray := by
  apply Array.ext
  · simp [madeCells, cel]
  · intro i h1 h2
    simp [madeCells, Value.cells, cel, Nat.mod_one]
theorem make_room (W : World) (n m : Nat) (k : Int) (hk : k = (n : Int)) (hn : n ≤ 281474976710656) (hm : m = W.heap.size) :
    (Instr.makeSlice 87 (.int .i64 0) (.int .i64 k)).run Try.prog W = .ok (.slice (some ⟨m, 0, none⟩) 0 n) (W.alloc (.cells (cel (List.replicate n 0)).toArray 5)) := by
  subst hk hm
  obtain ⟨i, hi, hz, hs, hb⟩ := info_parts info5
  have hr := run_make (P := Try.prog) W 87 5 i (.int .u8 0) Try.underlying87 hi hz .i64 .i64 0 n (by omega) (by omega) (by rw [hb]; omega) (by omega)
  simp only [Int.toNat_natCast] at hr
  rw [hr, hs, Nat.mul_one, made_cells]
  simp
theorem own_made (W : World) (n B N : Nat) (hB : B ≤ W.heap.size) (hn : n ≤ 281474976710656) (hN : N = W.heap.size) : Own (W.alloc (.cells (cel (List.replicate n 0)).toArray 5)) B N 0 n [] := by
  subst hN
  exact ⟨rfl, hB, Nat.zero_le _, by simp only [maxLen]; omega, _, (0, 0), heap_alloc_new W _, .inl rfl, by simp [cel], by simp [cel]⟩

/-- The packet that a call keeps in a block of its own. -/
def Boxed (W : World) (N : Nat) (f t : ByteArray) (p l : Int) (s : ByteArray) : Prop :=
  W.cell? ⟨N, 0, none⟩ = some (.string f) ∧ W.cell? ⟨N, 1, none⟩ = some (.string t) ∧ W.cell? ⟨N, 2, none⟩ = some (.int .i64 p) ∧ W.cell? ⟨N, 3, none⟩ = some (.int .i64 l) ∧ W.cell? ⟨N, 4, none⟩ = some (.string s)
theorem Boxed.below {W W' : World} {N B : Nat} {f t : ByteArray} {p l : Int} {s : ByteArray} (h : Boxed W N f t p l s) (hb : Below B W W') (hN : N < B) : Boxed W' N f t p l s :=
  ⟨(hb.cell (p := ⟨N, 0, none⟩) hN).trans h.1, (hb.cell (p := ⟨N, 1, none⟩) hN).trans h.2.1, (hb.cell (p := ⟨N, 2, none⟩) hN).trans h.2.2.1, (hb.cell (p := ⟨N, 3, none⟩) hN).trans h.2.2.2.1, (hb.cell (p := ⟨N, 4, none⟩) hN).trans h.2.2.2.2⟩
theorem Boxed.new (w : World) (f t : ByteArray) (p l : Int) (s : ByteArray) : Boxed (w.alloc (.cells #[.string f, .string t, .int .i64 p, .int .i64 l, .string s] 66)) w.heap.size f t p l s := by
  simp [Boxed, go_sem]

/-- The first twenty bytes of version 4. -/
def head4 (n p l hi lo : Int) (f t : ByteArray) : List Int := [69, 0, (20 + n) / 256 % 256, (20 + n) % 256, 0, 0, 64, 0, l, p, hi, lo] ++ (bts f ++ bts t)
/-- The sum that is put. -/
def sum4 (n p l : Int) (f t : ByteArray) : Int := 65535 - fd (tot (head4 n p l 0 0 f t))
def wire4 (f t : ByteArray) (p l : Int) (s : ByteArray) : List Int := head4 s.size p l (sum4 s.size p l f t / 256) (sum4 s.size p l f t % 256) f t ++ bts s
def wire6 (f t : ByteArray) (p l : Int) (s : ByteArray) : List Int := [96, 0, 0, 0, (s.size : Int) / 256 % 256, (s.size : Int) % 256, p, l] ++ (bts f ++ (bts t ++ bts s))

theorem below_box {w w' : World} {o : Obj} (h : Below (w.heap.size + 1) (w.alloc o) w') : Below w.heap.size w w' := ((Below.refl _ _).alloc (Nat.le_refl _) o).trans (h.mono (Nat.le_succ _))
theorem sum4_bd (n p l : Int) (f t : ByteArray) : 0 ≤ sum4 n p l f t ∧ sum4 n p l f t ≤ 65535 := by
  have := fd_bd (tot (head4 n p l 0 0 f t))
  unfold sum4
  omega
theorem head4_byt {n p l hi lo : Int} {f t : ByteArray} (h1 : 0 ≤ p ∧ p ≤ 255) (h2 : 0 ≤ l ∧ l ≤ 255) (h3 : 0 ≤ hi ∧ hi ≤ 255) (h4 : 0 ≤ lo ∧ lo ≤ 255) : Byt (head4 n p l hi lo f t) := by
  refine Byt.append ?_ ((bts_byt f).append (bts_byt t))
  intro x hx
  simp at hx
  omega
theorem head4_len (n p l hi lo : Int) (f t : ByteArray) (hf : f.size = 4) (ht : t.size = 4) : (head4 n p l hi lo f t).length = 20 := by simp [head4, bts_len, hf, ht]
theorem head4_set (n p l hi lo a b : Int) (f t : ByteArray) : ((head4 n p l a b f t).set 10 hi).set 11 lo = head4 n p l hi lo f t := by simp [head4]
theorem wire4_byt {f t s : ByteArray} {p l : Int} (h1 : 0 ≤ p ∧ p ≤ 255) (h2 : 0 ≤ l ∧ l ≤ 255) : Byt (wire4 f t p l s) := by
  have := sum4_bd s.size p l f t
  exact (head4_byt h1 h2 (by omega) (by omega)).append (bts_byt s)
theorem wire6_byt {f t s : ByteArray} {p l : Int} (h1 : 0 ≤ p ∧ p ≤ 255) (h2 : 0 ≤ l ∧ l ≤ 255) : Byt (wire6 f t p l s) := by
  refine Byt.append ?_ ((bts_byt f).append ((bts_byt t).append (bts_byt s)))
  intro x hx
  simp at hx
  omega

end Go.Proofs.Ytpcdaidgijkkbaa
