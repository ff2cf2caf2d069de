/-
  The walk of PortsWrites.
-/
import Derived.Test.YtomcniakffipfaaPalive
import Derived.Test.YtomcniakffipfaaRwrno
import Derived.Test.YtomcniakffipfaaRwrtcp
import Derived.Test.YtomcniakffipfaaRwrtcpy
import Derived.Test.YtomcniakffipfaaRwrudp
namespace Go.Proofs.Ytomcniakffipfaa
open Go.RowKit
set_option linter.unusedVariables false
set_option maxRecDepth 10000

/-- outriderref05.Write. -/
theorem rwrite_yes (f t : ByteArray) (p0 l0 : Int) (s0 : ByteArray) (p a b l k : Int) (s : ByteArray) (w : World) (hf : f.size ≤ 140737488351232) (ht : t.size ≤ 140737488351232) (h : WrOk f t l0 p a b l k s) :
    Calls Try.prog 9 #[.agg #[.string f, .string t, .int .i64 p0, .int .i64 l0, .string s0], .agg #[.int .i64 p, .int .i64 a, .int .i64 b, .int .i64 l, .int .i64 k], .string s] w fun e w' => e = .returned (.tuple #[.agg #[.string f, .string t, .int .i64 p, .int .i64 l0, .string (wrBody f t p a b l s)], .int .i64 0]) ∧ Below w.heap.size w w' := by
  obtain ⟨h1, h2, h3⟩ := h
  have hs : s.size ≤ 1500 := by
    have := (okp_small h3).2.2.1
    rw [wrBody_size] at this
    omega
  obtain ⟨ha, hb, hl, rfl⟩ := okH_parts h2
  rcases ports_parts h1 with rfl | rfl
  · simp only [show ¬ ((6 : Int) = 17) by omega, if_false] at hl
    exact rwr_tcp_yes f t p0 l0 s0 a b l s w hf ht ha hb hl hs h3
  · simp only [if_true] at hl
    subst hl
    exact rwr_udp_yes f t p0 l0 s0 a b s w hf ht ha hb hs h3
/-- outriderref05.Write, refused. -/
theorem rwrite_not (f t : ByteArray) (p0 l0 : Int) (s0 : ByteArray) (p a b l k : Int) (s : ByteArray) (w : World) (hf : f.size ≤ 140737488351232) (ht : t.size ≤ 140737488351232) (hs : s.size ≤ 3000) (h : ¬ WrOk f t l0 p a b l k s) :
    Calls Try.prog 9 #[.agg #[.string f, .string t, .int .i64 p0, .int .i64 l0, .string s0], .agg #[.int .i64 p, .int .i64 a, .int .i64 b, .int .i64 l, .int .i64 k], .string s] w fun e w' => e = .returned (.tuple #[.agg #[.string ⟨#[]⟩, .string ⟨#[]⟩, .int .i64 0, .int .i64 0, .string ⟨#[]⟩], .int .i64 (wrE p)]) ∧ Below w.heap.size w w' := by
  rcases h1 : portsB p with _ | _
  · rw [wrE, h1]
    exact rwr_no0 f t p0 l0 s0 p a b l k s w h1
  · rw [wrE, if_pos h1]
    by_cases h2 : okH p a b l k = false ∨ 1500 < s.size
    · exact rwr_bad f t p0 l0 s0 p a b l k s w h1 (by omega) h2
    · have h2' : okH p a b l k = true := by
        rcases e : okH p a b l k with _ | _
        · exact absurd (.inl e) h2
        · rfl
      have hs' : s.size ≤ 1500 := by
        have : ¬ 1500 < s.size := fun e => h2 (.inr e)
        omega
      have h3 : ¬ Okp f t p l0 (wrBody f t p a b l s) := fun h3 => h ⟨h1, h2', h3⟩
      obtain ⟨ha, hb, hl, rfl⟩ := okH_parts h2'
      rcases ports_parts h1 with rfl | rfl
      · simp only [show ¬ ((6 : Int) = 17) by omega, if_false] at hl
        exact rwr_tcp_no f t p0 l0 s0 a b l s w hf ht ha hb hl hs' h3
      · simp only [if_true] at hl
        subst hl
        exact rwr_udp_no f t p0 l0 s0 a b s w hf ht ha hb hs' h3

set_option maxHeartbeats 400000 in
theorem writes_big (f t : ByteArray) (p0 l0 : Int) (s0 : ByteArray) (p a b l k : Int) (s : ByteArray) (w : World) (hs : 3000 < s.size) (hs2 : s.size ≤ 140737488351232) :
    Calls Try.prog 3 #[.agg #[.string f, .string t, .int .i64 p0, .int .i64 l0, .string s0], .agg #[.int .i64 p, .int .i64 a, .int .i64 b, .int .i64 l, .int .i64 k], .string s] w fun e w' => e = .returned (.bool true) ∧ Below w.heap.size w w' := by
  have d0 : decide (3000 < (s.size : Int)) = true := by simp; omega
  have d1 : decide (3000 < s.size) = true := by simp; omega
  go_enter Try.func3, Try.ntmps3
  go_wp2_with fail
  refine (alive_any _).mono ?_
  rintro e w1 ⟨rfl, hb1⟩
  go_wp2
  go_ret
  exact ⟨rfl, (((Below.refl w.heap.size _).alloc (Nat.le_refl _) _).alloc (by simp) _).trans (hb1.mono (by simp; omega))⟩

attribute [local go_sem ↓] pk_eq
set_option maxHeartbeats 1000000 in
/-- Where both answer the same. -/
theorem writes_same (f t : ByteArray) (p0 l0 : Int) (s0 : ByteArray) (p a b l k : Int) (s : ByteArray) (w : World) (hs : s.size ≤ 3000) (g u : ByteArray) (q m : Int) (B : ByteArray) (r : Int)
    (H1 : ∀ w : World, Calls Try.prog 8 #[.agg #[.string f, .string t, .int .i64 p0, .int .i64 l0, .string s0], .agg #[.int .i64 p, .int .i64 a, .int .i64 b, .int .i64 l, .int .i64 k], .string s] w fun e w' => e = .returned (.tuple #[.agg #[.string g, .string u, .int .i64 q, .int .i64 m, .string B], .int .i64 r]) ∧ Below w.heap.size w w')
    (H2 : ∀ w : World, Calls Try.prog 9 #[.agg #[.string f, .string t, .int .i64 p0, .int .i64 l0, .string s0], .agg #[.int .i64 p, .int .i64 a, .int .i64 b, .int .i64 l, .int .i64 k], .string s] w fun e w' => e = .returned (.tuple #[.agg #[.string g, .string u, .int .i64 q, .int .i64 m, .string B], .int .i64 r]) ∧ Below w.heap.size w w') :
    Calls Try.prog 3 #[.agg #[.string f, .string t, .int .i64 p0, .int .i64 l0, .string s0], .agg #[.int .i64 p, .int .i64 a, .int .i64 b, .int .i64 l, .int .i64 k], .string s] w fun e w' => e = .returned (.bool true) ∧ Below w.heap.size w w' := by
  have d0 : decide (3000 < (s.size : Int)) = false := by simp; omega
  have d1 : decide (3000 < s.size) = false := by simp; omega
  have G1 := Lib.hid H1
  have G2 := Lib.hid H2
  clear H1 H2
  have HX0 := Lib.hid ((Boxed.new w f t p0 l0 s0).below ((Below.refl (w.heap.size + 1) _).alloc (by simp) (.cells #[.int .i64 p, .int .i64 a, .int .i64 b, .int .i64 l, .int .i64 k] 26)) (by simp))
  have HY0 : Hid (BoxH ((w.alloc (.cells #[.string f, .string t, .int .i64 p0, .int .i64 l0, .string s0] 24)).alloc (.cells #[.int .i64 p, .int .i64 a, .int .i64 b, .int .i64 l, .int .i64 k] 26)) (w.heap.size + 1) p a b l k) := Lib.hid (by simp [BoxH, go_sem])
  go_enter Try.func3, Try.ntmps3
  go_wp2_with fail
  refine (G1.out _).mono ?_
  rintro e w1 ⟨rfl, hb1'⟩
  have hb1 : Below (w.heap.size + 1 + 1) ((w.alloc (.cells #[.string f, .string t, .int .i64 p0, .int .i64 l0, .string s0] 24)).alloc (.cells #[.int .i64 p, .int .i64 a, .int .i64 b, .int .i64 l, .int .i64 k] 26)) w1 := by simpa using hb1'
  have HB1 := Lib.hid ((((Below.refl w.heap.size _).alloc (Nat.le_refl _) _).alloc (by simp) _).trans (hb1.mono (by omega)))
  obtain ⟨x0, x1, x2, x3, x4⟩ := HX0.out.below hb1 (by omega)
  obtain ⟨y0, y1, y2, y3, y4⟩ := HY0.out.below hb1 (by omega)
  have n1 : w.heap.size + 1 < w1.heap.size := World.block_lt_of_cell? _ _ y0
  have n2 : w.heap.size < w1.heap.size := by omega
  clear hb1 hb1'
  go_wp2_with fail
  refine (G2.out _).mono ?_
  rintro e w2 ⟨rfl, hb2'⟩
  have hb2 : Below (w1.heap.size + 1) (w1.alloc (.cells #[.string g, .string u, .int .i64 q, .int .i64 m, .string B] 24)) w2 := by simpa using hb2'
  have HA2 := Lib.hid ((Boxed.new w1 g u q m B).below hb2 (by omega))
  have HB2 := Lib.hid ((HB1.out.alloc (by omega) _).trans (hb2.mono (by omega)))
  have n3 : w1.heap.size < w2.heap.size := World.block_lt_of_cell? _ _ HA2.out.1
  clear hb2 hb2' x0 x1 x2 x3 x4 y0 y1 y2 y3 y4
  go_wp2_with fail
  refine (alive_any _).mono ?_
  rintro e w3 ⟨rfl, hb3⟩
  obtain ⟨a0, a1, a2, a3, a4⟩ := (HA2.out.below ((Below.refl w2.heap.size _).alloc (Nat.le_refl _) (.cells #[.string g, .string u, .int .i64 q, .int .i64 m, .string B] 24)) n3).below hb3 (by simp; omega)
  obtain ⟨b0, b1, b2, b3, b4⟩ := (Boxed.new w2 g u q m B).below hb3 (by simp)
  have n4 : w1.heap.size < w3.heap.size := World.block_lt_of_cell? _ _ a0
  have n5 : w2.heap.size < w3.heap.size := World.block_lt_of_cell? _ _ b0
  have HB3 := Lib.hid ((HB2.out.alloc (by omega) _).trans (hb3.mono (by simp; omega)))
  clear hb3
  go_wp2
  go_ret
  exact ⟨by first | rfl | simp, HB3.out⟩

theorem writes_walk (f t : ByteArray) (p0 l0 : Int) (s0 : ByteArray) (p a b l k : Int) (s : ByteArray) (w : World) (_ : (Lit.int .i64 p0).wf = true) (_ : (Lit.int .i64 l0).wf = true) (hb : f.size ≤ 140737488351232 ∧ t.size ≤ 140737488351232 ∧ s0.size ≤ 140737488351232)
    (_ : (Lit.int .i64 p).wf = true) (_ : (Lit.int .i64 a).wf = true) (_ : (Lit.int .i64 b).wf = true) (_ : (Lit.int .i64 l).wf = true) (_ : (Lit.int .i64 k).wf = true) (hs : s.size ≤ 140737488351232) :
    Calls Try.prog 3 #[.agg #[.string f, .string t, .int .i64 p0, .int .i64 l0, .string s0], .agg #[.int .i64 p, .int .i64 a, .int .i64 b, .int .i64 l, .int .i64 k], .string s] w fun e w' => e = .returned (.bool true) ∧ Below w.heap.size w w' := by
  by_cases h1 : 3000 < s.size
  · exact writes_big f t p0 l0 s0 p a b l k s w h1 hs
  by_cases h : WrOk f t l0 p a b l k s
  · exact writes_same f t p0 l0 s0 p a b l k s w (by omega) _ _ _ _ _ _ (fun w => write_yes f t p0 l0 s0 p a b l k s w hb.1 hb.2.1 (by omega) h) (fun w => rwrite_yes f t p0 l0 s0 p a b l k s w hb.1 hb.2.1 h)
  · exact writes_same f t p0 l0 s0 p a b l k s w (by omega) _ _ _ _ _ _ (fun w => write_not f t p0 l0 s0 p a b l k s w hb.1 hb.2.1 (by omega) h) (fun w => rwrite_not f t p0 l0 s0 p a b l k s w hb.1 hb.2.1 (by omega) h)

end Go.Proofs.Ytomcniakffipfaa
