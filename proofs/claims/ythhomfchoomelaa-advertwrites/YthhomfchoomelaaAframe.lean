/-
  What the row's steps of this seat share: how integers, texts, packets and advertisements that came in are opened, and what the form's own reach says of their lengths.
-/
import Derived.Test.YthhomfchoomelaaAalive
import Derived.ProofKit
import Derived.OpenShut
import Derived.ShutString
import Derived.ChangeOld
import Derived.SizedLaws
import Derived.ChangeMaps5
import Derived.Deep.Strs
namespace Go.Proofs.Ythhomfchoomelaa
open Go.ChangeShapes Go.WideShapes Go.ChangeAt Go.RowKit
set_option linter.unusedVariables false

theorem own : ownKnob Try.prog.godebug = none := by kernel_rfl
theorem laidOut : laidOutB Try.prog = true := by kernel_rfl

section
variable {H : Type} {enc : TypeId × Value → H} {P : Program} {W : World}
theorem text_reach {ts : List TypeId} {ds : List (DataW H)} (hsz : (DataW.weightsEach P ts ds).all (· ≤ reachBytes) = true) {j : Nat} {t : TypeId} {s : ByteArray}
    (ht : ts[j]? = some t) (hd : ds[j]? = some (.lit (.string s.data.toList))) : s.size ≤ 140737488351232 := by
  have := sized_string hsz ht hd
  simpa [reachBytes] using this
theorem two_of {α : Type} (l : List α) (h : (⟨l⟩ : Array α).size = 2) : ∃ a b, l = [a, b] := by
  match l, h with
  | [a, b], _ => exact ⟨a, b, rfl⟩
theorem agg_two {t e : TypeId} (ht : P.underlying t = some (.array 2 e)) (hc : P.cellsOf t = 2) {r : Reach} {b0 : Nat} {v : Value} (hv : Value.okWide P W r b0 t v) : ∃ x y, v = .agg #[x, y] := by
  obtain ⟨cs, rfl, hsz, _⟩ : ∃ cs, v = .agg cs ∧ cs.size = P.cellsOf t ∧ Row.okWide P W r b0 t cs := by simpa [Value.okWide, ht] using hv
  rw [hc] at hsz
  obtain ⟨l⟩ := cs
  obtain ⟨a, b, rfl⟩ := two_of l hsz
  exact ⟨a, b, rfl⟩
theorem trod_two {t e : TypeId} {fuel : Nat} {x y : Value} {z : DataW H × List MemPlace} (ht : P.underlying t = some (.array 2 e)) (hce : P.cellsOf e = 1)
    (h : DataW.trod enc P W 0 (fun _ => true) true fuel t [x, y] = some z) :
    ∃ y0 y1 n, z = (.agg [y0.1, y1.1], y0.2 ++ y1.2) ∧ DataW.trod enc P W 0 (fun _ => true) true n e [x] = some y0 ∧ DataW.trod enc P W 0 (fun _ => true) true n e [y] = some y1 := by
  obtain ⟨xs, m, _, rfl, _, hl, hel⟩ := DataW.trod_array ht h
  rw [hce] at hel
  have e0 := hel 0 (by omega)
  have e1 := hel 1 (by omega)
  match xs, hl with
  | [p, q], _ =>
    simp at e0 e1
    exact ⟨p, q, m, by simp, e0, e1⟩
theorem open_two_ints {t e : TypeId} {k : IntKind} (ht : P.underlying t = some (.array 2 e)) (he : P.underlying e = some (.int k)) (hc : P.cellsOf t = 2) (hce : P.cellsOf e = 1)
    {r : Reach} {b0 : Nat} {v : Value} {d : DataW H} {p : List MemPlace} (hv : Value.okWide P W r b0 t v) (h : DataW.Trod enc P W 0 (fun _ => true) true t v d p) :
    ∃ x y, v = .agg #[.int k x, .int k y] ∧ (Lit.int k x).wf = true ∧ (Lit.int k y).wf = true := by
  obtain ⟨x, y, rfl⟩ := agg_two ht hc hv
  obtain ⟨fuel, hf⟩ := h
  obtain ⟨y0, y1, n, _, h0, h1⟩ := trod_two ht hce (by simpa [Value.cells] using hf)
  obtain ⟨a, ea, _, wa⟩ := DataW.trod_int he h0
  obtain ⟨b, eb, _, wb⟩ := DataW.trod_int he h1
  simp at ea eb
  subst ea eb
  exact ⟨a, b, rfl, wa, wb⟩
end

section
variable {H : Type} {enc : TypeId × Value → H} {W : World}
theorem list5 {α : Type} (l : List α) (h : l.length = 5) : ∃ x0 x1 x2 x3 x4, l = [x0, x1, x2, x3, x4] := by
  match l, h with
  | [x0, x1, x2, x3, x4], _ => exact ⟨x0, x1, x2, x3, x4, rfl⟩
theorem list4 {α : Type} (l : List α) (h : l.length = 4) : ∃ x0 x1 x2 x3, l = [x0, x1, x2, x3] := by
  match l, h with
  | [x0, x1, x2, x3], _ => exact ⟨x0, x1, x2, x3, rfl⟩
theorem open_ip {r : Reach} {b0 : Nat} {v : Value} {d : DataW H} {p : List MemPlace} (hv : Value.okWide Try.prog W r b0 28 v) (h : DataW.Trod enc Try.prog W 0 (fun _ => true) true 28 v d p) :
    ∃ (f : ByteArray) (t : ByteArray) (x : Int) (y : Int) (s : ByteArray), v = .agg #[.string f, .string t, .int .i64 x, .int .i64 y, .string s] ∧ d = .agg [.lit (.string f.data.toList), .lit (.string t.data.toList), .lit (.int .i64 x), .lit (.int .i64 y), .lit (.string s.data.toList)] ∧ (Lit.int .i64 x).wf = true ∧ (Lit.int .i64 y).wf = true := by
  obtain ⟨cs, rfl, hsz⟩ := okWide_struct Try.underlying28 hv
  have hc : Try.prog.cellsOf 28 = 5 := by kernel_rfl
  have c3 : Try.prog.cellsOf 3 = 1 := by kernel_rfl
  have c9 : Try.prog.cellsOf 9 = 1 := by kernel_rfl
  have c22 : Try.prog.cellsOf 25 = 1 := by kernel_rfl
  rw [hc] at hsz
  obtain ⟨l⟩ := cs
  obtain ⟨z0, z1, z2, z3, z4, rfl⟩ := list5 l hsz
  obtain ⟨fuel, hf⟩ := h
  obtain ⟨xs, n, _, hx, _, hlen, hg⟩ := DataW.trod_struct Try.underlying28 hf
  have g0 := hg 0 _ rfl
  have g1 := hg 1 _ rfl
  have g2 := hg 2 _ rfl
  have g3 := hg 3 _ rfl
  have g4 := hg 4 _ rfl
  obtain ⟨y0, y1, y2, y3, y4, rfl⟩ := list5 xs hlen
  simp [Value.cells, c3, c9, c22] at g0 g1 g2 g3 g4
  obtain ⟨s0, e0, x0, w0⟩ := DataW.trod_string Try.underlying25 g0
  obtain ⟨s1, e1, x1, w1⟩ := DataW.trod_string Try.underlying25 g1
  obtain ⟨s2, e2, x2, w2⟩ := DataW.trod_int Try.underlying3 g2
  obtain ⟨s3, e3, x3, w3⟩ := DataW.trod_int Try.underlying3 g3
  obtain ⟨s4, e4, x4, w4⟩ := DataW.trod_string Try.underlying9 g4
  simp at e0 e1 e2 e3 e4
  subst e0 e1 e2 e3 e4 x0 x1 x2 x3 x4
  simp only [Prod.mk.injEq] at hx
  exact ⟨_, _, _, _, _, rfl, hx.1, w2, w3⟩
theorem ip_reach {ts : List TypeId} {ds : List (DataW H)} (hsz : (DataW.weightsEach Try.prog ts ds).all (· ≤ reachBytes) = true) {j : Nat} {f t s : ByteArray} {d3 d4 : DataW H}
    (ht : ts[j]? = some 28) (hd : ds[j]? = some (.agg [.lit (.string f.data.toList), .lit (.string t.data.toList), d3, d4, .lit (.string s.data.toList)])) : f.size ≤ 140737488351232 ∧ t.size ≤ 140737488351232 ∧ s.size ≤ 140737488351232 := by
  refine ⟨?_, ?_, ?_⟩
  · have := List.all_eq_true.1 hsz _ (DataW.weights_mem_each ht hd f.size (by simp [DataW.weights, DataW.weightsEach, Try.underlying28]))
    have h2 := of_decide_eq_true this
    simpa [reachBytes] using h2
  · have := List.all_eq_true.1 hsz _ (DataW.weights_mem_each ht hd t.size (by simp [DataW.weights, DataW.weightsEach, Try.underlying28]))
    have h2 := of_decide_eq_true this
    simpa [reachBytes] using h2
  · have := List.all_eq_true.1 hsz _ (DataW.weights_mem_each ht hd s.size (by simp [DataW.weights, DataW.weightsEach, Try.underlying28]))
    have h2 := of_decide_eq_true this
    simpa [reachBytes] using h2

theorem strs_of_trod {fuel : Nat} {v : Value} {x : DataW H × List MemPlace} (h : DataW.trod enc Try.prog W 0 (fun _ => true) true fuel 22 [v] = some x) :
    ∃ a n c ss, v = .slice a n c ∧ Strs W a n c ss ∧ (x.1 = .nil ∧ n = 0 ∨ ∃ E S, x.1 = .slice E S ∧ E.length = n) := by
  rcases Go.Deep.open_strs Try.underlying22 Try.underlying25 (by kernel_rfl) h with ⟨hcs, hx⟩ | ⟨a, len, cap, m, Sx, hcs, _, hl, hm, hmm, hx, hcell⟩
  · simp at hcs
    subst hcs hx
    exact ⟨none, 0, 0, [], rfl, Strs.nil W, .inl ⟨rfl, rfl⟩⟩
  · simp at hcs hmm
    subst hcs hx hmm
    refine ⟨some a, len, m, (List.range len).map Sx, rfl, ⟨by simp, hl, hm, ?_, fun hn => ?_⟩, .inr ⟨_, _, rfl, by simp⟩⟩
    · intro s hs
      simp at hs
      obtain ⟨k, hk, rfl⟩ := hs
      have := (hcell k (by omega)).2
      simpa [maxLen] using this
    · obtain ⟨b, off, spot⟩ := a
      have hspot : spot = none := by simpa [Addr.add] using World.cell?_spot (hcell 0 (by omega)).1
      subst hspot
      refine ⟨b, off, rfl, fun j s hj => ?_⟩
      have hj' : j < len := by have := (List.getElem?_eq_some_iff.1 hj).1; simpa using this
      have e : Sx j = s := by
        rw [List.getElem?_map, List.getElem?_range hj'] at hj
        simpa using hj
      have := (hcell j (by omega)).1
      rw [e] at this
      rw [← this]
      congr 1
      unfold Addr.add
      by_cases h0 : j = 0 <;> simp [h0]

theorem open_advert {r : Reach} {b0 : Nat} {v : Value} {d : DataW H} {p : List MemPlace} (hv : Value.okWide Try.prog W r b0 24 v) (h : DataW.Trod enc Try.prog W 0 (fun _ => true) true 24 v d p) :
    ∃ (i q e : Int) (a : Option Addr) (n c : Nat) (ss : List ByteArray) (d1 d2 d3 d4 : DataW H), v = .agg #[.int .i64 i, .int .i64 q, .int .i64 e, .slice a n c] ∧ d = .agg [d1, d2, d3, d4] ∧ Strs W a n c ss ∧ (d4 = .nil ∧ n = 0 ∨ ∃ E S, d4 = .slice E S ∧ E.length = n) ∧ (Lit.int .i64 i).wf = true ∧ (Lit.int .i64 q).wf = true ∧ (Lit.int .i64 e).wf = true := by
  obtain ⟨cs, rfl, hsz⟩ := okWide_struct Try.underlying24 hv
  have hc : Try.prog.cellsOf 24 = 4 := by kernel_rfl
  have c3 : Try.prog.cellsOf 3 = 1 := by kernel_rfl
  have c22 : Try.prog.cellsOf 22 = 1 := by kernel_rfl
  rw [hc] at hsz
  obtain ⟨l⟩ := cs
  obtain ⟨z0, z1, z2, z3, rfl⟩ := list4 l hsz
  obtain ⟨fuel, hf⟩ := h
  obtain ⟨xs, n, _, hx, _, hlen, hg⟩ := DataW.trod_struct Try.underlying24 hf
  have g0 := hg 0 _ rfl
  have g1 := hg 1 _ rfl
  have g2 := hg 2 _ rfl
  have g3 := hg 3 _ rfl
  obtain ⟨y0, y1, y2, y3, rfl⟩ := list4 xs hlen
  simp [Value.cells, c3, c22] at g0 g1 g2 g3
  obtain ⟨s0, e0, x0, w0⟩ := DataW.trod_int Try.underlying3 g0
  obtain ⟨s1, e1, x1, w1⟩ := DataW.trod_int Try.underlying3 g1
  obtain ⟨s2, e2, x2, w2⟩ := DataW.trod_int Try.underlying3 g2
  obtain ⟨a, m, c, ss, e3, hS, hd⟩ := strs_of_trod g3
  simp at e0 e1 e2
  subst e0 e1 e2 e3
  simp only [Prod.mk.injEq] at hx
  exact ⟨_, _, _, _, _, _, ss, _, _, _, _, rfl, hx.1, hS, hd, w0, w1, w2⟩
theorem advert_reach {ts : List TypeId} {ds : List (DataW H)} (hsz : (DataW.weightsEach Try.prog ts ds).all (· ≤ reachBytes) = true) {j n : Nat} {d1 d2 d3 d4 : DataW H}
    (ht : ts[j]? = some 24) (hd : ds[j]? = some (.agg [d1, d2, d3, d4])) (h4 : d4 = .nil ∧ n = 0 ∨ ∃ E S, d4 = .slice E S ∧ E.length = n) : n ≤ 140737488351232 := by
  rcases h4 with ⟨_, rfl⟩ | ⟨E, S, rfl, rfl⟩
  · omega
  · have := List.all_eq_true.1 hsz _ (DataW.weights_mem_each ht hd ((E.length + S.length) * Try.prog.bytesOf 25) (by simp [DataW.weights, DataW.weightsEach, Try.underlying24, Try.underlying22]))
    have h2 := of_decide_eq_true this
    have h3 : Try.prog.bytesOf 25 = 16 := by kernel_rfl
    rw [h3] at h2
    simp [reachBytes] at h2
    omega
end

end Go.Proofs.Ythhomfchoomelaa
