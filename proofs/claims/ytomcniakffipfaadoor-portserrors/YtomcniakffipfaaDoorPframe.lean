/-
  What the row's steps of this seat share: how integers, texts, packets, heads and flows that came in are opened, and what the form's own reach says of their lengths.
-/
import Derived.Test.YtomcniakffipfaaDoorQbase
import Derived.Test.YtomcniakffipfaaDoorTie
import Derived.Test.YtomcniakffipfaaDoorCards
import Derived.LaidMore
import Derived.Stop.Joined
import Derived.SevenTiedAt
import Derived.ProofKit
import Derived.OpenShut
import Derived.ShutString
import Derived.ChangeOld
import Derived.SizedLaws
import Derived.ChangeMaps5
namespace Go.Proofs.YtomcniakffipfaaDoor
open Go.ChangeShapes Go.WideShapes Go.ChangeAt Go.RowKit
set_option linter.unusedVariables false

theorem own : ownKnob Tryd.prog.godebug = none := by kernel_rfl
theorem laidOut : laidOutB Tryd.prog = true := by kernel_rfl

section
variable {H : Type} {enc : TypeId × Value → H} {P : Program} {W : World}
theorem text_reach {ts : List TypeId} {ds : List (DataW H)} (hsz : (DataW.weightsEach P ts ds).all (· ≤ reachBytes) = true) {j : Nat} {t : TypeId} {s : ByteArray}
    (ht : ts[j]? = some t) (hd : ds[j]? = some (.lit (.string s.data.toList))) : s.size ≤ 140737488351232 := by
  have := sized_string hsz ht hd
  simpa [reachBytes] using this
theorem two_of {α : Type} (l : List α) (h : (⟨l⟩ : Array α).size = 2) : ∃ a b, l = [a, b] := by
  match l, h with
  | [a, b], _ => exact ⟨a, b, rfl⟩
theorem agg_two {t e : TypeId} (ht : P.underlying t = some (.array 2 e)) (hc : P.cellsOf t = 2) {r : Reach} {b0 : Nat} {v : Value} (hv : Value.okWide P W r b0 t v) : ∃ x y, v = .agg #[x, y] := by
  obtain ⟨cs, rfl, hsz, _⟩ : ∃ cs, v = .agg cs ∧ cs.size = P.cellsOf t ∧ Row.okWide P W r b0 t cs := by simpa [Value.okWide, ht] using hv
  rw [hc] at hsz
  obtain ⟨l⟩ := cs
  obtain ⟨a, b, rfl⟩ := two_of l hsz
  exact ⟨a, b, rfl⟩
theorem trod_two {t e : TypeId} {fuel : Nat} {x y : Value} {z : DataW H × List MemPlace} (ht : P.underlying t = some (.array 2 e)) (hce : P.cellsOf e = 1)
    (h : DataW.trod enc P W 0 (fun _ => true) true fuel t [x, y] = some z) :
    ∃ y0 y1 n, z = (.agg [y0.1, y1.1], y0.2 ++ y1.2) ∧ DataW.trod enc P W 0 (fun _ => true) true n e [x] = some y0 ∧ DataW.trod enc P W 0 (fun _ => true) true n e [y] = some y1 := by
  obtain ⟨xs, m, _, rfl, _, hl, hel⟩ := DataW.trod_array ht h
  rw [hce] at hel
  have e0 := hel 0 (by omega)
  have e1 := hel 1 (by omega)
  match xs, hl with
  | [p, q], _ =>
    simp at e0 e1
    exact ⟨p, q, m, by simp, e0, e1⟩
theorem open_two_ints {t e : TypeId} {k : IntKind} (ht : P.underlying t = some (.array 2 e)) (he : P.underlying e = some (.int k)) (hc : P.cellsOf t = 2) (hce : P.cellsOf e = 1)
    {r : Reach} {b0 : Nat} {v : Value} {d : DataW H} {p : List MemPlace} (hv : Value.okWide P W r b0 t v) (h : DataW.Trod enc P W 0 (fun _ => true) true t v d p) :
    ∃ x y, v = .agg #[.int k x, .int k y] ∧ (Lit.int k x).wf = true ∧ (Lit.int k y).wf = true := by
  obtain ⟨x, y, rfl⟩ := agg_two ht hc hv
  obtain ⟨fuel, hf⟩ := h
  obtain ⟨y0, y1, n, _, h0, h1⟩ := trod_two ht hce (by simpa [Value.cells] using hf)
  obtain ⟨a, ea, _, wa⟩ := DataW.trod_int he h0
  obtain ⟨b, eb, _, wb⟩ := DataW.trod_int he h1
  simp at ea eb
  subst ea eb
  exact ⟨a, b, rfl, wa, wb⟩
end

section
variable {H : Type} {enc : TypeId × Value → H} {W : World}
theorem list5 {α : Type} (l : List α) (h : l.length = 5) : ∃ x0 x1 x2 x3 x4, l = [x0, x1, x2, x3, x4] := by
  match l, h with
  | [x0, x1, x2, x3, x4], _ => exact ⟨x0, x1, x2, x3, x4, rfl⟩
theorem open_ip {r : Reach} {b0 : Nat} {v : Value} {d : DataW H} {p : List MemPlace} (hv : Value.okWide Tryd.prog W r b0 24 v) (h : DataW.Trod enc Tryd.prog W 0 (fun _ => true) true 24 v d p) :
    ∃ (f : ByteArray) (t : ByteArray) (x : Int) (y : Int) (s : ByteArray), v = .agg #[.string f, .string t, .int .i64 x, .int .i64 y, .string s] ∧ d = .agg [.lit (.string f.data.toList), .lit (.string t.data.toList), .lit (.int .i64 x), .lit (.int .i64 y), .lit (.string s.data.toList)] ∧ (Lit.int .i64 x).wf = true ∧ (Lit.int .i64 y).wf = true := by
  obtain ⟨cs, rfl, hsz⟩ := okWide_struct Tryd.underlying24 hv
  have hc : Tryd.prog.cellsOf 24 = 5 := by kernel_rfl
  have c3 : Tryd.prog.cellsOf 3 = 1 := by kernel_rfl
  have c9 : Tryd.prog.cellsOf 9 = 1 := by kernel_rfl
  have c22 : Tryd.prog.cellsOf 22 = 1 := by kernel_rfl
  rw [hc] at hsz
  obtain ⟨l⟩ := cs
  obtain ⟨z0, z1, z2, z3, z4, rfl⟩ := list5 l hsz
  obtain ⟨fuel, hf⟩ := h
  obtain ⟨xs, n, _, hx, _, hlen, hg⟩ := DataW.trod_struct Tryd.underlying24 hf
  have g0 := hg 0 _ rfl
  have g1 := hg 1 _ rfl
  have g2 := hg 2 _ rfl
  have g3 := hg 3 _ rfl
  have g4 := hg 4 _ rfl
  obtain ⟨y0, y1, y2, y3, y4, rfl⟩ := list5 xs hlen
  simp [Value.cells, c3, c9, c22] at g0 g1 g2 g3 g4
  obtain ⟨s0, e0, x0, w0⟩ := DataW.trod_string Tryd.underlying22 g0
  obtain ⟨s1, e1, x1, w1⟩ := DataW.trod_string Tryd.underlying22 g1
  obtain ⟨s2, e2, x2, w2⟩ := DataW.trod_int Tryd.underlying3 g2
  obtain ⟨s3, e3, x3, w3⟩ := DataW.trod_int Tryd.underlying3 g3
  obtain ⟨s4, e4, x4, w4⟩ := DataW.trod_string Tryd.underlying9 g4
  simp at e0 e1 e2 e3 e4
  subst e0 e1 e2 e3 e4 x0 x1 x2 x3 x4
  simp only [Prod.mk.injEq] at hx
  exact ⟨_, _, _, _, _, rfl, hx.1, w2, w3⟩
theorem ip_reach {ts : List TypeId} {ds : List (DataW H)} (hsz : (DataW.weightsEach Tryd.prog ts ds).all (· ≤ reachBytes) = true) {j : Nat} {f t s : ByteArray} {d3 d4 : DataW H}
    (ht : ts[j]? = some 24) (hd : ds[j]? = some (.agg [.lit (.string f.data.toList), .lit (.string t.data.toList), d3, d4, .lit (.string s.data.toList)])) : f.size ≤ 140737488351232 ∧ t.size ≤ 140737488351232 ∧ s.size ≤ 140737488351232 := by
  refine ⟨?_, ?_, ?_⟩
  · have := List.all_eq_true.1 hsz _ (DataW.weights_mem_each ht hd f.size (by simp [DataW.weights, DataW.weightsEach, Tryd.underlying24]))
    have h2 := of_decide_eq_true this
    simpa [reachBytes] using h2
  · have := List.all_eq_true.1 hsz _ (DataW.weights_mem_each ht hd t.size (by simp [DataW.weights, DataW.weightsEach, Tryd.underlying24]))
    have h2 := of_decide_eq_true this
    simpa [reachBytes] using h2
  · have := List.all_eq_true.1 hsz _ (DataW.weights_mem_each ht hd s.size (by simp [DataW.weights, DataW.weightsEach, Tryd.underlying24]))
    have h2 := of_decide_eq_true this
    simpa [reachBytes] using h2
theorem open_head {r : Reach} {b0 : Nat} {v : Value} {d : DataW H} {p : List MemPlace} (hv : Value.okWide Tryd.prog W r b0 33 v) (h : DataW.Trod enc Tryd.prog W 0 (fun _ => true) true 33 v d p) :
    ∃ (a : Int) (b : Int) (c : Int) (x : Int) (y : Int), v = .agg #[.int .i64 a, .int .i64 b, .int .i64 c, .int .i64 x, .int .i64 y] ∧ d = .agg [.lit (.int .i64 a), .lit (.int .i64 b), .lit (.int .i64 c), .lit (.int .i64 x), .lit (.int .i64 y)] ∧ (Lit.int .i64 a).wf = true ∧ (Lit.int .i64 b).wf = true ∧ (Lit.int .i64 c).wf = true ∧ (Lit.int .i64 x).wf = true ∧ (Lit.int .i64 y).wf = true := by
  obtain ⟨cs, rfl, hsz⟩ := okWide_struct Tryd.underlying33 hv
  have hc : Tryd.prog.cellsOf 33 = 5 := by kernel_rfl
  have c3 : Tryd.prog.cellsOf 3 = 1 := by kernel_rfl
  rw [hc] at hsz
  obtain ⟨l⟩ := cs
  obtain ⟨z0, z1, z2, z3, z4, rfl⟩ := list5 l hsz
  obtain ⟨fuel, hf⟩ := h
  obtain ⟨xs, n, _, hx, _, hlen, hg⟩ := DataW.trod_struct Tryd.underlying33 hf
  have g0 := hg 0 _ rfl
  have g1 := hg 1 _ rfl
  have g2 := hg 2 _ rfl
  have g3 := hg 3 _ rfl
  have g4 := hg 4 _ rfl
  obtain ⟨y0, y1, y2, y3, y4, rfl⟩ := list5 xs hlen
  simp [Value.cells, c3] at g0 g1 g2 g3 g4
  obtain ⟨s0, e0, x0, w0⟩ := DataW.trod_int Tryd.underlying3 g0
  obtain ⟨s1, e1, x1, w1⟩ := DataW.trod_int Tryd.underlying3 g1
  obtain ⟨s2, e2, x2, w2⟩ := DataW.trod_int Tryd.underlying3 g2
  obtain ⟨s3, e3, x3, w3⟩ := DataW.trod_int Tryd.underlying3 g3
  obtain ⟨s4, e4, x4, w4⟩ := DataW.trod_int Tryd.underlying3 g4
  simp at e0 e1 e2 e3 e4
  subst e0 e1 e2 e3 e4 x0 x1 x2 x3 x4
  simp only [Prod.mk.injEq] at hx
  exact ⟨_, _, _, _, _, rfl, hx.1, w0, w1, w2, w3, w4⟩
theorem open_flow {r : Reach} {b0 : Nat} {v : Value} {d : DataW H} {p : List MemPlace} (hv : Value.okWide Tryd.prog W r b0 27 v) (h : DataW.Trod enc Tryd.prog W 0 (fun _ => true) true 27 v d p) :
    ∃ (a : Int) (f : ByteArray) (t : ByteArray) (x : Int) (y : Int), v = .agg #[.int .i64 a, .string f, .string t, .int .i64 x, .int .i64 y] ∧ d = .agg [.lit (.int .i64 a), .lit (.string f.data.toList), .lit (.string t.data.toList), .lit (.int .i64 x), .lit (.int .i64 y)] ∧ (Lit.int .i64 a).wf = true ∧ (Lit.int .i64 x).wf = true ∧ (Lit.int .i64 y).wf = true := by
  obtain ⟨cs, rfl, hsz⟩ := okWide_struct Tryd.underlying27 hv
  have hc : Tryd.prog.cellsOf 27 = 5 := by kernel_rfl
  have c3 : Tryd.prog.cellsOf 3 = 1 := by kernel_rfl
  have c22 : Tryd.prog.cellsOf 22 = 1 := by kernel_rfl
  rw [hc] at hsz
  obtain ⟨l⟩ := cs
  obtain ⟨z0, z1, z2, z3, z4, rfl⟩ := list5 l hsz
  obtain ⟨fuel, hf⟩ := h
  obtain ⟨xs, n, _, hx, _, hlen, hg⟩ := DataW.trod_struct Tryd.underlying27 hf
  have g0 := hg 0 _ rfl
  have g1 := hg 1 _ rfl
  have g2 := hg 2 _ rfl
  have g3 := hg 3 _ rfl
  have g4 := hg 4 _ rfl
  obtain ⟨y0, y1, y2, y3, y4, rfl⟩ := list5 xs hlen
  simp [Value.cells, c3, c22] at g0 g1 g2 g3 g4
  obtain ⟨s0, e0, x0, w0⟩ := DataW.trod_int Tryd.underlying3 g0
  obtain ⟨s1, e1, x1, w1⟩ := DataW.trod_string Tryd.underlying22 g1
  obtain ⟨s2, e2, x2, w2⟩ := DataW.trod_string Tryd.underlying22 g2
  obtain ⟨s3, e3, x3, w3⟩ := DataW.trod_int Tryd.underlying3 g3
  obtain ⟨s4, e4, x4, w4⟩ := DataW.trod_int Tryd.underlying3 g4
  simp at e0 e1 e2 e3 e4
  subst e0 e1 e2 e3 e4 x0 x1 x2 x3 x4
  simp only [Prod.mk.injEq] at hx
  exact ⟨_, _, _, _, _, rfl, hx.1, w0, w3, w4⟩
end

theorem list4 {α : Type} (l : List α) (h : l.length = 4) : ∃ x0 x1 x2 x3, l = [x0, x1, x2, x3] := by
  match l, h with
  | [x0, x1, x2, x3], _ => exact ⟨x0, x1, x2, x3, rfl⟩
/-- What the listed variables hold. -/
theorem glob_of_laid {W : World} (h : laidMetH Tryd.prog Rows.portsQuotesRow.laid W) : Glob W := by
  rw [MakeChecks.laidMetH_plain _ _ _ (by kernel_rfl)] at h
  obtain ⟨ps, ⟨g0, t0, cs0, f0, p0, q0, hg0, ht0, hv0, hd0, ⟨g1, t1, cs1, f1, p1, q1, hg1, ht1, hv1, hd1, _, _⟩, _⟩, _, _⟩ := h
  obtain rfl : 0 = g0 := Option.some.inj (Eq.trans (Eq.symm (by kernel_rfl)) hg0)
  obtain rfl : 1 = g1 := Option.some.inj (Eq.trans (Eq.symm (by kernel_rfl)) hg1)
  obtain rfl : 66 = t0 := Option.some.inj (Eq.trans (Eq.symm (by kernel_rfl)) ht0)
  obtain rfl : 66 = t1 := Option.some.inj (Eq.trans (Eq.symm (by kernel_rfl)) ht1)
  have c3 : Tryd.prog.cellsOf 3 = 1 := by kernel_rfl
  have key : ∀ (cs : Array Value) (f : Nat) (a b c d : Int) (p : List MemPlace), DataW.trod (fun _ => ()) Tryd.prog W 0 (fun _ => true) false f 66 cs.toList = some (.agg [.lit (.int .i64 a), .lit (.int .i64 b), .lit (.int .i64 c), .lit (.int .i64 d)], p) → cs[0]? = some (.int .i64 a) ∧ cs[1]? = some (.int .i64 b) ∧ cs[2]? = some (.int .i64 c) ∧ cs[3]? = some (.int .i64 d) := by
    intro cs f a b c d p hd
    obtain ⟨xs, m, _, hx, hlen, hl, hg⟩ := DataW.trod_struct Tryd.underlying66 hd
    obtain ⟨y0, y1, y2, y3, rfl⟩ := list4 xs hl
    have h4 : cs.toList.length = 4 := hlen.trans (by kernel_rfl)
    obtain ⟨l⟩ := cs
    simp only at h4 hg
    obtain ⟨c0, c1, c2, c4, rfl⟩ := list4 l h4
    have e0 := hg 0 _ rfl
    have e1 := hg 1 _ rfl
    have e2 := hg 2 _ rfl
    have e3 := hg 3 _ rfl
    simp [c3] at e0 e1 e2 e3
    obtain ⟨k0, r0, s0, _⟩ := DataW.trod_int Tryd.underlying3 e0
    obtain ⟨k1, r1, s1, _⟩ := DataW.trod_int Tryd.underlying3 e1
    obtain ⟨k2, r2, s2, _⟩ := DataW.trod_int Tryd.underlying3 e2
    obtain ⟨k3, r3, s3, _⟩ := DataW.trod_int Tryd.underlying3 e3
    simp at r0 r1 r2 r3
    subst r0 r1 r2 r3 s0 s1 s2 s3
    simp at hx
    obtain ⟨⟨rfl, rfl, rfl, rfl⟩, _⟩ := hx
    simp
  have k0 := key cs0 f0 9 12 16 20 p0 hd0
  have k1 := key cs1 f1 6 8 24 40 p1 hd1
  have v0 := fun k => World.var?_cell hg0 hv0 k
  have v1 := fun k => World.var?_cell hg1 hv1 k
  exact ⟨(v0 0).trans k0.1, (v0 1).trans k0.2.1, (v0 2).trans k0.2.2.1, (v0 3).trans k0.2.2.2, (v1 0).trans k1.1, (v1 1).trans k1.2.1, (v1 2).trans k1.2.2.1, (v1 3).trans k1.2.2.2⟩

/-- The heap that the initialisers leave holds them. -/
theorem door_met (os : Os) (args : Array Value) : laidMetH Tryd.prog Rows.portsQuotesRow.laid ((World.doorLaid Tryd.prog 400 os).forCall (fun _ _ => 0) ⟨#[], args, []⟩).memory :=
  laidMetH_of_parts3 (fuel := 8) (laidMet_of_run' 8 (by kernel_rfl) (by kernel_rfl)) (by kernel_rfl) (by kernel_rfl)

end Go.Proofs.YtomcniakffipfaaDoor
