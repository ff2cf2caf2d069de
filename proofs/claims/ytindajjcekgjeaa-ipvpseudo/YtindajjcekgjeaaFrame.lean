/-
  What the row's steps of this seat share: how integers, slices of bytes and packets that came in are opened, and what the form's own reach says of their lengths.
-/
import Derived.Test.YtindajjcekgjeaaAlive
import Derived.ProofKit
import Derived.OpenShut
import Derived.ShutString
import Derived.ChangeOld
import Derived.SizedLaws
import Derived.ChangeMaps5
namespace Go.Proofs.Ytindajjcekgjeaa
open Go.ChangeShapes Go.WideShapes Go.ChangeAt Go.RowKit
set_option linter.unusedVariables false

theorem own : ownKnob Try.prog.godebug = none := by kernel_rfl
theorem laidOut : laidOutB Try.prog = true := by kernel_rfl

/-- How long a slice's datum says that it is, spare places counted. -/
def Long {H : Type} (d : DataW H) (c : Nat) : Prop := (d = .nil ∧ c = 0) ∨ ∃ E S, d = .slice E S ∧ E.length + S.length = c

section
variable {H : Type} {enc : TypeId × Value → H} {P : Program} {W : World}

theorem bytes_of_trod {t e : TypeId} (ht : P.underlying t = some (.slice e)) (he : P.underlying e = some (.int .u8)) (hce : P.cellsOf e = 1) {fuel : Nat} {v : Value} {x : DataW H × List MemPlace}
    (h : DataW.trod enc P W 0 (fun _ => true) true fuel t [v] = some x) :
    ∃ a n c bs, v = .slice a n c ∧ Part W ⟨a, n, c, bs⟩ ∧ Long x.1 c := by
  rcases open_ints ht he hce h with ⟨hcs, hx⟩ | ⟨a, len, cap, zs, hcs, _, hl, hm, hz, hx, hcell, hwf⟩
  · simp at hcs
    subst hcs hx
    exact ⟨none, 0, 0, [], rfl, Part.gone rfl, .inl ⟨rfl, rfl⟩⟩
  · simp at hcs hz
    subst hcs hx
    refine ⟨some a, len, cap, zs.take len, rfl, ⟨by simp; omega, hl, ?_, fun hn => ?_⟩, .inr ⟨_, _, rfl, by simp [lits]; omega⟩⟩
    · intro y hy
      exact bounds_u8 (hwf y (List.mem_of_mem_take hy))
    · have hn' : 0 < len := hn
      obtain ⟨b, off, spot⟩ := a
      have hspot : spot = none := by simpa [Addr.add] using World.cell?_spot (hcell 0 (by omega))
      subst hspot
      refine ⟨b, off, rfl, fun j hj => ?_⟩
      have hj' : j < len := hj
      have := hcell j (by omega)
      rw [List.getD_eq_getElem?_getD] at this
      simp only [List.getElem?_take, hj', if_true]
      rw [← this]
      congr 1
      unfold Addr.add
      by_cases h0 : j = 0 <;> simp [h0]

theorem open_bytes {t e : TypeId} (ht : P.underlying t = some (.slice e)) (he : P.underlying e = some (.int .u8)) (hce : P.cellsOf e = 1) {r : Reach} {b0 : Nat} {v : Value} {d : DataW H} {p : List MemPlace}
    (hv : Value.okWide P W r b0 t v) (h : DataW.Trod enc P W 0 (fun _ => true) true t v d p) : ∃ a n c bs, v = .slice a n c ∧ Part W ⟨a, n, c, bs⟩ ∧ Long d c := by
  obtain ⟨a, len, cap, rfl⟩ := okWide_slice ht hv
  obtain ⟨fuel, hf⟩ := h
  exact bytes_of_trod ht he hce (x := (d, p)) (by simpa [Value.cells] using hf)

theorem long_reach {ts : List TypeId} {ds : List (DataW H)} (hsz : (DataW.weightsEach P ts ds).all (· ≤ reachBytes) = true) {j : Nat} {t e : TypeId} {d : DataW H} {c : Nat}
    (ht : ts[j]? = some t) (hd : ds[j]? = some d) (hu : P.underlying t = some (.slice e)) (hb : P.bytesOf e = 1) (hl : Long d c) : c ≤ 140737488351232 := by
  rcases hl with ⟨_, rfl⟩ | ⟨E, S, rfl, hc⟩
  · omega
  · have := sized_slice hsz ht hd hu
    rw [hb] at this
    simp only [reachBytes] at this
    omega
theorem text_reach {ts : List TypeId} {ds : List (DataW H)} (hsz : (DataW.weightsEach P ts ds).all (· ≤ reachBytes) = true) {j : Nat} {t : TypeId} {s : ByteArray}
    (ht : ts[j]? = some t) (hd : ds[j]? = some (.lit (.string s.data.toList))) : s.size ≤ 140737488351232 := by
  have := sized_string hsz ht hd
  simpa [reachBytes] using this

end

section
variable {H : Type} {enc : TypeId × Value → H} {W : World}
theorem list5 {α : Type} (l : List α) (h : l.length = 5) : ∃ x0 x1 x2 x3 x4, l = [x0, x1, x2, x3, x4] := by
  match l, h with
  | [x0, x1, x2, x3, x4], _ => exact ⟨x0, x1, x2, x3, x4, rfl⟩
theorem open_ip {r : Reach} {b0 : Nat} {v : Value} {d : DataW H} {p : List MemPlace} (hv : Value.okWide Try.prog W r b0 24 v) (h : DataW.Trod enc Try.prog W 0 (fun _ => true) true 24 v d p) :
    ∃ (f t : ByteArray) (x y : Int) (s : ByteArray), v = .agg #[.string f, .string t, .int .i64 x, .int .i64 y, .string s] ∧ d = .agg [.lit (.string f.data.toList), .lit (.string t.data.toList), .lit (.int .i64 x), .lit (.int .i64 y), .lit (.string s.data.toList)] ∧ (Lit.int .i64 x).wf = true ∧ (Lit.int .i64 y).wf = true := by
  obtain ⟨cs, rfl, hsz⟩ := okWide_struct Try.underlying24 hv
  have hc : Try.prog.cellsOf 24 = 5 := by kernel_rfl
  have c22 : Try.prog.cellsOf 22 = 1 := by kernel_rfl
  have c3 : Try.prog.cellsOf 3 = 1 := by kernel_rfl
  have c9 : Try.prog.cellsOf 9 = 1 := by kernel_rfl
  rw [hc] at hsz
  obtain ⟨l⟩ := cs
  obtain ⟨z0, z1, z2, z3, z4, rfl⟩ := list5 l hsz
  obtain ⟨fuel, hf⟩ := h
  obtain ⟨xs, n, _, hx, _, hlen, hg⟩ := DataW.trod_struct Try.underlying24 hf
  have g0 := hg 0 _ rfl
  have g1 := hg 1 _ rfl
  have g2 := hg 2 _ rfl
  have g3 := hg 3 _ rfl
  have g4 := hg 4 _ rfl
  obtain ⟨y0, y1, y2, y3, y4, rfl⟩ := list5 xs hlen
  simp [Value.cells, c22, c3, c9] at g0 g1 g2 g3 g4
  obtain ⟨s0, e0, x0, w0⟩ := DataW.trod_string Try.underlying22 g0
  obtain ⟨s1, e1, x1, w1⟩ := DataW.trod_string Try.underlying22 g1
  obtain ⟨t2, e2, x2, w2⟩ := DataW.trod_int Try.underlying3 g2
  obtain ⟨t3, e3, x3, w3⟩ := DataW.trod_int Try.underlying3 g3
  obtain ⟨s4, e4, x4, w4⟩ := DataW.trod_string Try.underlying9 g4
  simp at e0 e1 e2 e3 e4
  subst e0 e1 e2 e3 e4 x0 x1 x2 x3 x4
  simp only [Prod.mk.injEq] at hx
  exact ⟨_, _, _, _, _, rfl, hx.1, w2, w3⟩
theorem ip_reach {ts : List TypeId} {ds : List (DataW H)} (hsz : (DataW.weightsEach Try.prog ts ds).all (· ≤ reachBytes) = true) {j : Nat} {f t s : ByteArray} {d3 d4 : DataW H}
    (ht : ts[j]? = some 24) (hd : ds[j]? = some (.agg [.lit (.string f.data.toList), .lit (.string t.data.toList), d3, d4, .lit (.string s.data.toList)])) : f.size ≤ 140737488351232 ∧ t.size ≤ 140737488351232 ∧ s.size ≤ 140737488351232 := by
  refine ⟨?_, ?_, ?_⟩
  · have := List.all_eq_true.1 hsz _ (DataW.weights_mem_each ht hd f.size (by simp [DataW.weights, DataW.weightsEach, Try.underlying24]))
    have h2 := of_decide_eq_true this
    simpa [reachBytes] using h2
  · have := List.all_eq_true.1 hsz _ (DataW.weights_mem_each ht hd t.size (by simp [DataW.weights, DataW.weightsEach, Try.underlying24]))
    have h2 := of_decide_eq_true this
    simpa [reachBytes] using h2
  · have := List.all_eq_true.1 hsz _ (DataW.weights_mem_each ht hd s.size (by simp [DataW.weights, DataW.weightsEach, Try.underlying24]))
    have h2 := of_decide_eq_true this
    simpa [reachBytes] using h2
end

end Go.Proofs.Ytindajjcekgjeaa
