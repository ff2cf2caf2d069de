/-
  Update as one number, and what follows of it: by what it leaves divided by 65535. Contracts for regions that draw their order.
-/
import Derived.Test.YtadpoklopahoeaaFrame
namespace Go.Proofs.Ytadpoklopahoeaa
open Go.RowKit

def upd (s f t : Int) : Int := 65535 - fd (65535 - s + (65535 - f) + t)
theorem upd_bd (s f t : Int) : 0 ≤ upd s f t ∧ upd s f t ≤ 65535 := by
  have := fd_bd (65535 - s + (65535 - f) + t)
  unfold upd; omega
theorem upd_mod (s f t : Int) : upd s f t % 65535 = (s + f - t) % 65535 := by
  have := @fd_mod (65535 - s + (65535 - f) + t)
  unfold upd; omega

theorem upd_c (s f t : Int) (w : World) (hs : 0 ≤ s ∧ s ≤ 65535) (hf : 0 ≤ f ∧ f ≤ 65535) (ht : 0 ≤ t ∧ t ≤ 65535) :
    Calls Try.prog 18 #[.int .u16 s, .int .u16 f, .int .u16 t] w fun e w' => e = .returned (.int .u16 (upd s f t)) ∧ w = w' := update_any s f t w hs hf ht
theorem rupd_c (s f t : Int) (w : World) (hs : 0 ≤ s ∧ s ≤ 65535) (hf : 0 ≤ f ∧ f ≤ 65535) (ht : 0 ≤ t ∧ t ≤ 65535) :
    Calls Try.prog 19 #[.int .i64 s, .int .i64 f, .int .i64 t] w fun e w' => e = .returned (.int .i64 (upd s f t)) ∧ w = w' := rupdate_any s f t w hs hf ht
theorem same_yes (a b : Int) (w : World) (ha : 0 ≤ a ∧ a ≤ 65535) (hb : 0 ≤ b ∧ b ≤ 65535) (h : a % 65535 = b % 65535) :
    Calls Try.prog 20 #[.int .u16 a, .int .u16 b] w fun e w' => e = .returned (.bool true) ∧ w = w' := by
  have := same_any a b w ha hb
  rw [show sameB a b = true from decide_eq_true h] at this
  exact this

theorem quiet_add {P : Program} {f : FuncId} {args : Array Value} {w : World} {a n : Nat} {v : Value}
    (h : Calls P f args (w.drewN (a + n)) fun e w' => e = .returned v ∧ ∃ m, w' = (w.drewN (a + n)).drewN m) :
    Calls P f args (w.drewN (a + n)) fun e w'' => e = .returned v ∧ ∃ m, w'' = w.drewN (a + m) :=
  h.mono fun _ _ ⟨he, m, hm⟩ => ⟨he, n + m, by rw [hm, World.drewN_drewN, Nat.add_assoc]⟩
theorem quiet_add_left {P : Program} {f : FuncId} {args : Array Value} {w : World} {a n : Nat} {v : Value}
    (h : Calls P f args (w.drewN (a + n)) fun e w' => e = .returned v ∧ w.drewN (a + n) = w') :
    Calls P f args (w.drewN (a + n)) fun e w'' => e = .returned v ∧ ∃ m, w'' = w.drewN (a + m) :=
  h.mono fun _ _ ⟨he, hm⟩ => ⟨he, n, hm.symm⟩
theorem quiet_left {P : Program} {f : FuncId} {args : Array Value} {w : World} {n : Nat} {v : Value}
    (h : Calls P f args (w.drewN n) fun e w' => e = .returned v ∧ w.drewN n = w') : Calls P f args (w.drewN n) fun e w'' => e = .returned v ∧ ∃ m, w'' = w.drewN m :=
  h.mono fun _ _ ⟨he, hm⟩ => ⟨he, n, hm.symm⟩

end Go.Proofs.Ytadpoklopahoeaa
