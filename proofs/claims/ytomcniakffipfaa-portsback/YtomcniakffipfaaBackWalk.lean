/-
  The walk of PortsBack.
-/
import Derived.Test.YtomcniakffipfaaBackNo
import Derived.Test.YtomcniakffipfaaBackUdp
namespace Go.Proofs.Ytomcniakffipfaa
open Go.RowKit
set_option linter.unusedVariables false

theorem back_walk (f t : ByteArray) (p0 l0 : Int) (s0 : ByteArray) (p a b l k : Int) (s : ByteArray) (w : World) (_ : (Lit.int .i64 p0).wf = true) (_ : (Lit.int .i64 l0).wf = true) (hb : f.size ≤ 140737488351232 ∧ t.size ≤ 140737488351232 ∧ s0.size ≤ 140737488351232)
    (_ : (Lit.int .i64 p).wf = true) (_ : (Lit.int .i64 a).wf = true) (_ : (Lit.int .i64 b).wf = true) (_ : (Lit.int .i64 l).wf = true) (_ : (Lit.int .i64 k).wf = true) (hs : s.size ≤ 140737488351232) :
    Calls Try.prog 4 #[.agg #[.string f, .string t, .int .i64 p0, .int .i64 l0, .string s0], .agg #[.int .i64 p, .int .i64 a, .int .i64 b, .int .i64 l, .int .i64 k], .string s] w fun e w' => e = .returned (.bool true) ∧ Below w.heap.size w w' := by
  by_cases h1 : 3000 < s.size
  · exact back_big f t p0 l0 s0 p a b l k s w h1 hs
  by_cases h : WrOk f t l0 p a b l k s
  · obtain ⟨_, _, _, rfl⟩ := okH_parts h.2.1
    have h2 : s.size ≤ 2000 := by
      have := (okp_small h.2.2).2.2.1
      rw [wrBody_size] at this
      omega
    rcases ports_parts h.1 with rfl | rfl
    · exact back_tcp f t p0 l0 s0 a b l s w hb.1 hb.2.1 h2 h
    · exact back_udp f t p0 l0 s0 a b l s w hb.1 hb.2.1 h2 h
  · exact back_no f t p0 l0 s0 p a b l k s w hb.1 hb.2.1 (by omega) h

end Go.Proofs.Ytomcniakffipfaa
