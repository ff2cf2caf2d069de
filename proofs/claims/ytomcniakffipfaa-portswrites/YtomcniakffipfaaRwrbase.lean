/-
  What outriderref05.Write does, of a head that is right.
-/
import Derived.Test.YtomcniakffipfaaRsmall
namespace Go.Proofs.Ytomcniakffipfaa
open Go.RowKit
set_option linter.unusedVariables false
set_option maxRecDepth 10000

/-- What stays in memory while outriderref05.Write gathers the bytes. -/
def RW (w W : World) (f t : ByteArray) (p l0 : Int) (s0 : ByteArray) (a b l : Int) : Prop :=
  Boxed W w.heap.size f t p l0 s0 ∧ BoxH W (w.heap.size + 1) p a b l 0 ∧ Boxed W (w.heap.size + 1 + 1) ⟨#[]⟩ ⟨#[]⟩ 0 0 ⟨#[]⟩ ∧ Free W w.heap.size ∧ Free W (w.heap.size + 1 + 1) ∧ Below w.heap.size w W ∧ w.heap.size + 1 + 1 + 1 ≤ W.heap.size
theorem RW.step {w W W' : World} {f t : ByteArray} {p l0 : Int} {s0 : ByteArray} {a b l : Int} {B : Nat} (h : RW w W f t p l0 s0 a b l) (hb : Below B W W') (hB : w.heap.size + 1 + 1 + 1 ≤ B) : RW w W' f t p l0 s0 a b l := by
  obtain ⟨h1, h2, h3, h4, h5, h6, h7⟩ := h
  exact ⟨h1.below hb (by omega), h2.below hb (by omega), h3.below hb (by omega), h4.below hb (by omega), h5.below hb (by omega), h6.trans (hb.mono (by omega)), Nat.le_trans h7 hb.size⟩
theorem str2_size {x : Int} {S : ByteArray} (h : strOfNums [x / 256, x % 256] = S) : S.size = 2 := by rw [← h, strOfNums_size]; rfl
theorem bts2 {x : Int} (hx : 0 ≤ x ∧ x ≤ 65535) {S : ByteArray} (h : strOfNums [x / 256, x % 256] = S) : bts S = [x / 256, x % 256] := by rw [← h, bts_strOfNums (Byt.cons (by omega) (Byt.cons (by omega) Byt.nil))]
theorem Free.set {W : World} {N : Nat} (h : Free W N) (a : Addr) (v : Value) : Free (W.setCell a v) N := fun o => by have := h o; simpa [go_sem] using this

end Go.Proofs.Ytomcniakffipfaa
