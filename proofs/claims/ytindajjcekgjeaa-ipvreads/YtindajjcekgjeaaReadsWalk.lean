/-
  The walk of IpvReads.
-/
import Derived.Test.YtindajjcekgjeaaFrame
import Derived.Test.YtindajjcekgjeaaRdecAny
namespace Go.Proofs.Ytindajjcekgjeaa
open Go.ChangeShapes Go.WideShapes Go.ChangeAt Go.RowKit
set_option linter.unusedVariables false

attribute [local go_sem ↓] pk_eq

set_option maxHeartbeats 1000000 in
theorem reads_at (A : Option Addr) (m k : Nat) (bs : List Int) (w : World) (hq : Part w ⟨A, m, k, bs⟩) (hm : m ≤ 140737488351232) (f t : ByteArray) (p l : Int) (s : ByteArray) (r : Int) (hd : dec bs = (⟨f, t, p, l, s⟩, r)) :
    Calls Try.prog 4 #[.slice A m k] w fun e w' => e = .returned (.bool true) ∧ Below w.heap.size w w' := by
  have HD := Lib.hid hd
  have HQ := Lib.hid hq
  clear hd hq
  go_enter Try.func4, Try.ntmps4
  go_wp2_with fail
  refine (decode_any A m k bs _ HQ.out (by omega) f t p l s r HD.out).mono ?_
  rintro e w1 ⟨rfl, hb1⟩
  have HQ1 := Lib.hid ((HQ.out.below hb1).alloc (.cells #[.string f, .string t, .int .i64 p, .int .i64 l, .string s] 24))
  have HB1 := Lib.hid (below_alloc hb1 (.cells #[.string f, .string t, .int .i64 p, .int .i64 l, .string s] 24))
  have z1 := hb1.size
  clear hb1 HQ
  go_wp2_with fail
  refine (rdec_any A m k bs _ HQ1.out (by omega) f t p l s r HD.out).mono ?_
  rintro e w2 ⟨rfl, hb2⟩
  have z2 := hb2.size
  simp at z2
  obtain ⟨x0, x1, x2, x3, x4⟩ := (Boxed.new w1 f t p l s).below hb2 (by simp)
  have HB2 := Lib.hid (below_alloc (below_then HB1.out (by simp; omega) hb2) (.cells #[.string f, .string t, .int .i64 p, .int .i64 l, .string s] 24))
  have v1 : w1.heap.size < w2.heap.size := by omega
  have hx : Boxed (w2.alloc (.cells #[.string f, .string t, .int .i64 p, .int .i64 l, .string s] 24)) w1.heap.size f t p l s := Boxed.below (B := w2.heap.size) ⟨x0, x1, x2, x3, x4⟩ ((Below.refl _ _).alloc (Nat.le_refl _) _) v1
  have HX := Lib.hid hx
  clear hb2 hx
  go_wp2_with fail
  refine (alive_any _).mono ?_
  rintro e w3 ⟨rfl, hb3⟩
  have z3 := hb3.size
  simp at z3
  obtain ⟨y0, y1, y2, y3, y4⟩ := (Boxed.new w2 f t p l s).below hb3 (by simp)
  obtain ⟨u0, u1, u2, u3, u4⟩ := HX.out.below hb3 (by simp; omega)
  have HB3 := Lib.hid (below_then HB2.out (by simp; omega) hb3)
  have v2 : w1.heap.size < w3.heap.size := by omega
  have v3 : w2.heap.size < w3.heap.size := by omega
  clear hb3
  go_wp2
  go_ret
  exact ⟨by first | rfl | simp, HB3.out⟩

theorem reads_walk (A : Option Addr) (m k : Nat) (bs : List Int) (w : World) (hq : Part w ⟨A, m, k, bs⟩) (hk : k ≤ 140737488351232) :
    Calls Try.prog 4 #[.slice A m k] w fun e w' => e = .returned (.bool true) ∧ Below w.heap.size w w' := by
  have hmk : m ≤ k := hq.2.1
  obtain ⟨⟨⟨f, t, p, l, s⟩, r⟩, hd⟩ : ∃ x, dec bs = x := ⟨_, rfl⟩
  exact reads_at A m k bs w hq (by omega) f t p l s r hd

end Go.Proofs.Ytindajjcekgjeaa
