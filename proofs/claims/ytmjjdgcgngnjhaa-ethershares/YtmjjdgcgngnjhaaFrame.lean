/-
  What the row's steps of this seat share: how integers, texts, slices and arrays of bytes and frames that came in are opened, and what the form's own reach says of their lengths.
-/
import Derived.Test.YtmjjdgcgngnjhaaAlive
import Derived.ProofKit
import Derived.OpenShut
import Derived.ShutString
import Derived.ChangeOld
import Derived.SizedLaws
import Derived.ChangeMaps5
namespace Go.Proofs.Ytmjjdgcgngnjhaa
open Go.ChangeShapes Go.WideShapes Go.ChangeAt Go.RowKit
set_option linter.unusedVariables false

theorem own : ownKnob Try.prog.godebug = none := by kernel_rfl
theorem laidOut : laidOutB Try.prog = true := by kernel_rfl

/-- How long a slice's datum says that it is, spare places counted. -/
def Long {H : Type} (d : DataW H) (c : Nat) : Prop := (d = .nil ∧ c = 0) ∨ ∃ E S, d = .slice E S ∧ E.length + S.length = c

section
variable {H : Type} {enc : TypeId × Value → H} {P : Program} {W : World}

theorem bytes_of_trod {t e : TypeId} (ht : P.underlying t = some (.slice e)) (he : P.underlying e = some (.int .u8)) (hce : P.cellsOf e = 1) {fuel : Nat} {v : Value} {x : DataW H × List MemPlace}
    (h : DataW.trod enc P W 0 (fun _ => true) true fuel t [v] = some x) :
    ∃ a n c bs, v = .slice a n c ∧ Part W ⟨a, n, c, bs⟩ ∧ Long x.1 c := by
  rcases open_ints ht he hce h with ⟨hcs, hx⟩ | ⟨a, len, cap, zs, hcs, _, hl, hm, hz, hx, hcell, hwf⟩
  · simp at hcs
    subst hcs hx
    exact ⟨none, 0, 0, [], rfl, Part.gone rfl, .inl ⟨rfl, rfl⟩⟩
  · simp at hcs hz
    subst hcs hx
    refine ⟨some a, len, cap, zs.take len, rfl, ⟨by simp; omega, hl, ?_, fun hn => ?_⟩, .inr ⟨_, _, rfl, by simp [lits]; omega⟩⟩
    · intro y hy
      exact bounds_u8 (hwf y (List.mem_of_mem_take hy))
    · have hn' : 0 < len := hn
      obtain ⟨b, off, spot⟩ := a
      have hspot : spot = none := by simpa [Addr.add] using World.cell?_spot (hcell 0 (by omega))
      subst hspot
      refine ⟨b, off, rfl, fun j hj => ?_⟩
      have hj' : j < len := hj
      have := hcell j (by omega)
      rw [List.getD_eq_getElem?_getD] at this
      simp only [List.getElem?_take, hj', if_true]
      rw [← this]
      congr 1
      unfold Addr.add
      by_cases h0 : j = 0 <;> simp [h0]

theorem open_bytes {t e : TypeId} (ht : P.underlying t = some (.slice e)) (he : P.underlying e = some (.int .u8)) (hce : P.cellsOf e = 1) {r : Reach} {b0 : Nat} {v : Value} {d : DataW H} {p : List MemPlace}
    (hv : Value.okWide P W r b0 t v) (h : DataW.Trod enc P W 0 (fun _ => true) true t v d p) : ∃ a n c bs, v = .slice a n c ∧ Part W ⟨a, n, c, bs⟩ ∧ Long d c := by
  obtain ⟨a, len, cap, rfl⟩ := okWide_slice ht hv
  obtain ⟨fuel, hf⟩ := h
  exact bytes_of_trod ht he hce (x := (d, p)) (by simpa [Value.cells] using hf)

theorem long_reach {ts : List TypeId} {ds : List (DataW H)} (hsz : (DataW.weightsEach P ts ds).all (· ≤ reachBytes) = true) {j : Nat} {t e : TypeId} {d : DataW H} {c : Nat}
    (ht : ts[j]? = some t) (hd : ds[j]? = some d) (hu : P.underlying t = some (.slice e)) (hb : P.bytesOf e = 1) (hl : Long d c) : c ≤ 140737488351232 := by
  rcases hl with ⟨_, rfl⟩ | ⟨E, S, rfl, hc⟩
  · omega
  · have := sized_slice hsz ht hd hu
    rw [hb] at this
    simp only [reachBytes] at this
    omega
theorem text_reach {ts : List TypeId} {ds : List (DataW H)} (hsz : (DataW.weightsEach P ts ds).all (· ≤ reachBytes) = true) {j : Nat} {t : TypeId} {s : ByteArray}
    (ht : ts[j]? = some t) (hd : ds[j]? = some (.lit (.string s.data.toList))) : s.size ≤ 140737488351232 := by
  have := sized_string hsz ht hd
  simpa [reachBytes] using this

theorem list6 {α : Type} (l : List α) (h : l.length = 6) : ∃ x0 x1 x2 x3 x4 x5, l = [x0, x1, x2, x3, x4, x5] := by
  match l, h with
  | [x0, x1, x2, x3, x4, x5], _ => exact ⟨x0, x1, x2, x3, x4, x5, rfl⟩
theorem trod_bytes6 {t e : TypeId} (ht : P.underlying t = some (.array 6 e)) (he : P.underlying e = some (.int .u8)) (hce : P.cellsOf e = 1) {fuel : Nat} {x0 x1 x2 x3 x4 x5 : Value} {z : DataW H × List MemPlace}
    (h : DataW.trod enc P W 0 (fun _ => true) true fuel t [x0, x1, x2, x3, x4, x5] = some z) :
    ∃ nx0 nx1 nx2 nx3 nx4 nx5 : Int, (x0 = .int .u8 nx0 ∧ x1 = .int .u8 nx1 ∧ x2 = .int .u8 nx2 ∧ x3 = .int .u8 nx3 ∧ x4 = .int .u8 nx4 ∧ x5 = .int .u8 nx5) ∧ (0 ≤ nx0 ∧ nx0 ≤ 255) ∧ (0 ≤ nx1 ∧ nx1 ≤ 255) ∧ (0 ≤ nx2 ∧ nx2 ≤ 255) ∧ (0 ≤ nx3 ∧ nx3 ≤ 255) ∧ (0 ≤ nx4 ∧ nx4 ≤ 255) ∧ (0 ≤ nx5 ∧ nx5 ≤ 255) := by
  obtain ⟨xs, m, _, rfl, _, hl, hel⟩ := DataW.trod_array ht h
  rw [hce] at hel
  obtain ⟨px0, px1, px2, px3, px4, px5, rfl⟩ := list6 xs hl
  have e0 := hel 0 (by omega)
  have e1 := hel 1 (by omega)
  have e2 := hel 2 (by omega)
  have e3 := hel 3 (by omega)
  have e4 := hel 4 (by omega)
  have e5 := hel 5 (by omega)
  simp at e0 e1 e2 e3 e4 e5
  obtain ⟨k0, c0, _, w0⟩ := DataW.trod_int he e0
  simp at c0
  obtain ⟨k1, c1, _, w1⟩ := DataW.trod_int he e1
  simp at c1
  obtain ⟨k2, c2, _, w2⟩ := DataW.trod_int he e2
  simp at c2
  obtain ⟨k3, c3, _, w3⟩ := DataW.trod_int he e3
  simp at c3
  obtain ⟨k4, c4, _, w4⟩ := DataW.trod_int he e4
  simp at c4
  obtain ⟨k5, c5, _, w5⟩ := DataW.trod_int he e5
  simp at c5
  exact ⟨k0, k1, k2, k3, k4, k5, ⟨c0, c1, c2, c3, c4, c5⟩, bounds_u8 w0, bounds_u8 w1, bounds_u8 w2, bounds_u8 w3, bounds_u8 w4, bounds_u8 w5⟩
theorem open_bytes6 {t e : TypeId} (ht : P.underlying t = some (.array 6 e)) (he : P.underlying e = some (.int .u8)) (hc : P.cellsOf t = 6) (hce : P.cellsOf e = 1)
    {r : Reach} {b0 : Nat} {v : Value} {d : DataW H} {p : List MemPlace} (hv : Value.okWide P W r b0 t v) (h : DataW.Trod enc P W 0 (fun _ => true) true t v d p) :
    ∃ x0 x1 x2 x3 x4 x5 : Int, v = .agg #[.int .u8 x0, .int .u8 x1, .int .u8 x2, .int .u8 x3, .int .u8 x4, .int .u8 x5] ∧ (0 ≤ x0 ∧ x0 ≤ 255) ∧ (0 ≤ x1 ∧ x1 ≤ 255) ∧ (0 ≤ x2 ∧ x2 ≤ 255) ∧ (0 ≤ x3 ∧ x3 ≤ 255) ∧ (0 ≤ x4 ∧ x4 ≤ 255) ∧ (0 ≤ x5 ∧ x5 ≤ 255) := by
  obtain ⟨cs, rfl, hsz, _⟩ : ∃ cs, v = .agg cs ∧ cs.size = P.cellsOf t ∧ Row.okWide P W r b0 t cs := by simpa [Value.okWide, ht] using hv
  rw [hc] at hsz
  obtain ⟨l⟩ := cs
  obtain ⟨x0, x1, x2, x3, x4, x5, rfl⟩ := list6 l hsz
  obtain ⟨fuel, hf⟩ := h
  obtain ⟨nx0, nx1, nx2, nx3, nx4, nx5, ⟨rfl, rfl, rfl, rfl, rfl, rfl⟩, hb⟩ := trod_bytes6 ht he hce (z := (d, p)) (by simpa [Value.cells] using hf)
  exact ⟨nx0, nx1, nx2, nx3, nx4, nx5, rfl, hb⟩

theorem list4 {α : Type} (l : List α) (h : l.length = 4) : ∃ x0 x1 x2 x3, l = [x0, x1, x2, x3] := by
  match l, h with
  | [x0, x1, x2, x3], _ => exact ⟨x0, x1, x2, x3, rfl⟩
theorem trod_bytes4 {t e : TypeId} (ht : P.underlying t = some (.array 4 e)) (he : P.underlying e = some (.int .u8)) (hce : P.cellsOf e = 1) {fuel : Nat} {x0 x1 x2 x3 : Value} {z : DataW H × List MemPlace}
    (h : DataW.trod enc P W 0 (fun _ => true) true fuel t [x0, x1, x2, x3] = some z) :
    ∃ nx0 nx1 nx2 nx3 : Int, (x0 = .int .u8 nx0 ∧ x1 = .int .u8 nx1 ∧ x2 = .int .u8 nx2 ∧ x3 = .int .u8 nx3) ∧ (0 ≤ nx0 ∧ nx0 ≤ 255) ∧ (0 ≤ nx1 ∧ nx1 ≤ 255) ∧ (0 ≤ nx2 ∧ nx2 ≤ 255) ∧ (0 ≤ nx3 ∧ nx3 ≤ 255) := by
  obtain ⟨xs, m, _, rfl, _, hl, hel⟩ := DataW.trod_array ht h
  rw [hce] at hel
  obtain ⟨px0, px1, px2, px3, rfl⟩ := list4 xs hl
  have e0 := hel 0 (by omega)
  have e1 := hel 1 (by omega)
  have e2 := hel 2 (by omega)
  have e3 := hel 3 (by omega)
  simp at e0 e1 e2 e3
  obtain ⟨k0, c0, _, w0⟩ := DataW.trod_int he e0
  simp at c0
  obtain ⟨k1, c1, _, w1⟩ := DataW.trod_int he e1
  simp at c1
  obtain ⟨k2, c2, _, w2⟩ := DataW.trod_int he e2
  simp at c2
  obtain ⟨k3, c3, _, w3⟩ := DataW.trod_int he e3
  simp at c3
  exact ⟨k0, k1, k2, k3, ⟨c0, c1, c2, c3⟩, bounds_u8 w0, bounds_u8 w1, bounds_u8 w2, bounds_u8 w3⟩
theorem open_bytes4 {t e : TypeId} (ht : P.underlying t = some (.array 4 e)) (he : P.underlying e = some (.int .u8)) (hc : P.cellsOf t = 4) (hce : P.cellsOf e = 1)
    {r : Reach} {b0 : Nat} {v : Value} {d : DataW H} {p : List MemPlace} (hv : Value.okWide P W r b0 t v) (h : DataW.Trod enc P W 0 (fun _ => true) true t v d p) :
    ∃ x0 x1 x2 x3 : Int, v = .agg #[.int .u8 x0, .int .u8 x1, .int .u8 x2, .int .u8 x3] ∧ (0 ≤ x0 ∧ x0 ≤ 255) ∧ (0 ≤ x1 ∧ x1 ≤ 255) ∧ (0 ≤ x2 ∧ x2 ≤ 255) ∧ (0 ≤ x3 ∧ x3 ≤ 255) := by
  obtain ⟨cs, rfl, hsz, _⟩ : ∃ cs, v = .agg cs ∧ cs.size = P.cellsOf t ∧ Row.okWide P W r b0 t cs := by simpa [Value.okWide, ht] using hv
  rw [hc] at hsz
  obtain ⟨l⟩ := cs
  obtain ⟨x0, x1, x2, x3, rfl⟩ := list4 l hsz
  obtain ⟨fuel, hf⟩ := h
  obtain ⟨nx0, nx1, nx2, nx3, ⟨rfl, rfl, rfl, rfl⟩, hb⟩ := trod_bytes4 ht he hce (z := (d, p)) (by simpa [Value.cells] using hf)
  exact ⟨nx0, nx1, nx2, nx3, rfl, hb⟩

end

section
variable {H : Type} {enc : TypeId × Value → H} {W : World}
theorem open_frame {r : Reach} {b0 : Nat} {v : Value} {d : DataW H} {p : List MemPlace} (hv : Value.okWide Try.prog W r b0 25 v) (h : DataW.Trod enc Try.prog W 0 (fun _ => true) true 25 v d p) :
    ∃ (a0 a1 a2 a3 a4 a5 a6 a7 a8 a9 a10 a11 t : Int) (s : ByteArray) (d1 d2 : DataW H), v = .agg #[.int .u8 a0, .int .u8 a1, .int .u8 a2, .int .u8 a3, .int .u8 a4, .int .u8 a5, .int .u8 a6, .int .u8 a7, .int .u8 a8, .int .u8 a9, .int .u8 a10, .int .u8 a11, .int .i64 t, .string s] ∧ d = .agg [d1, d2, .lit (.int .i64 t), .lit (.string s.data.toList)] ∧ (0 ≤ a0 ∧ a0 ≤ 255) ∧ (0 ≤ a1 ∧ a1 ≤ 255) ∧ (0 ≤ a2 ∧ a2 ≤ 255) ∧ (0 ≤ a3 ∧ a3 ≤ 255) ∧ (0 ≤ a4 ∧ a4 ≤ 255) ∧ (0 ≤ a5 ∧ a5 ≤ 255) ∧ (0 ≤ a6 ∧ a6 ≤ 255) ∧ (0 ≤ a7 ∧ a7 ≤ 255) ∧ (0 ≤ a8 ∧ a8 ≤ 255) ∧ (0 ≤ a9 ∧ a9 ≤ 255) ∧ (0 ≤ a10 ∧ a10 ≤ 255) ∧ (0 ≤ a11 ∧ a11 ≤ 255) ∧ (Lit.int .i64 t).wf = true := by
  obtain ⟨cs, rfl, hsz⟩ := okWide_struct Try.underlying25 hv
  have hc : Try.prog.cellsOf 25 = 14 := by kernel_rfl
  have c23 : Try.prog.cellsOf 23 = 6 := by kernel_rfl
  have c5 : Try.prog.cellsOf 5 = 1 := by kernel_rfl
  have c3 : Try.prog.cellsOf 3 = 1 := by kernel_rfl
  have c9 : Try.prog.cellsOf 9 = 1 := by kernel_rfl
  rw [hc] at hsz
  obtain ⟨l⟩ := cs
  obtain ⟨z0, z1, z2, z3, z4, z5, z6, z7, z8, z9, z10, z11, z12, z13, r', rfl, hr⟩ := fourteen l 0 hsz
  have hr' : r' = [] := List.eq_nil_of_length_eq_zero hr
  subst hr'
  obtain ⟨fuel, hf⟩ := h
  obtain ⟨xs, n, _, hx, _, hlen, hg⟩ := DataW.trod_struct Try.underlying25 hf
  have g0 := hg 0 _ rfl
  have g1 := hg 1 _ rfl
  have g2 := hg 2 _ rfl
  have g3 := hg 3 _ rfl
  obtain ⟨y0, y1, y2, y3, rfl⟩ := list4 xs hlen
  simp [Value.cells, c23, c3, c9] at g0 g1 g2 g3
  obtain ⟨k0, k1, k2, k3, k4, k5, ⟨rfl, rfl, rfl, rfl, rfl, rfl⟩, hb0⟩ := trod_bytes6 Try.underlying23 Try.underlying5 c5 g0
  obtain ⟨k6, k7, k8, k9, k10, k11, ⟨rfl, rfl, rfl, rfl, rfl, rfl⟩, hb1⟩ := trod_bytes6 Try.underlying23 Try.underlying5 c5 g1
  obtain ⟨t, e2, x2, w2⟩ := DataW.trod_int Try.underlying3 g2
  obtain ⟨s, e3, x3, w3⟩ := DataW.trod_string Try.underlying9 g3
  simp at e2 e3
  subst e2 e3 x2 x3
  simp only [Prod.mk.injEq] at hx
  obtain ⟨m0, m1, m2, m3, m4, m5⟩ := hb0
  obtain ⟨m6, m7, m8, m9, m10, m11⟩ := hb1
  exact ⟨k0, k1, k2, k3, k4, k5, k6, k7, k8, k9, k10, k11, t, s, _, _, rfl, hx.1, m0, m1, m2, m3, m4, m5, m6, m7, m8, m9, m10, m11, w2⟩

theorem frame_reach {ts : List TypeId} {ds : List (DataW H)} (hsz : (DataW.weightsEach Try.prog ts ds).all (· ≤ reachBytes) = true) {j : Nat} {d1 d2 d3 : DataW H} {s : ByteArray}
    (ht : ts[j]? = some 25) (hd : ds[j]? = some (.agg [d1, d2, d3, .lit (.string s.data.toList)])) : s.size ≤ 140737488351232 := by
  have := List.all_eq_true.1 hsz _ (DataW.weights_mem_each ht hd s.size (by
    simp [DataW.weights, DataW.weightsEach, Try.underlying25]))
  have h2 := of_decide_eq_true this
  simpa [reachBytes] using h2
end

end Go.Proofs.Ytmjjdgcgngnjhaa
