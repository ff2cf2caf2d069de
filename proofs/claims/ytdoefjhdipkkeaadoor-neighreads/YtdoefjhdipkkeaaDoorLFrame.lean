/-
  What the row's steps of this seat share: how integers, texts, slices and arrays of bytes and frames that came in are opened, and what the form's own reach says of their lengths.
-/
import Derived.Test.YtdoefjhdipkkeaaDoorAskBase
import Derived.Test.YtdoefjhdipkkeaaDoorEEnc
import Derived.Test.YtdoefjhdipkkeaaDoorTie
import Derived.Test.YtdoefjhdipkkeaaDoorCards
import Derived.LaidMore
import Derived.Stop.Joined
import Derived.SevenTiedAt
import Derived.ProofKit
import Derived.OpenShut
import Derived.ShutString
import Derived.ChangeOld
import Derived.SizedLaws
import Derived.ChangeMaps5
namespace Go.Proofs.YtdoefjhdipkkeaaDoor
open Go.ChangeShapes Go.WideShapes Go.ChangeAt Go.RowKit
set_option linter.unusedVariables false
set_option maxRecDepth 10000

theorem own : ownKnob Tryd.prog.godebug = none := by kernel_rfl
theorem laidOut : laidOutB Tryd.prog = true := by kernel_rfl

/-- How long a slice's datum says that it is, spare places counted. -/
def Long {H : Type} (d : DataW H) (c : Nat) : Prop := (d = .nil ∧ c = 0) ∨ ∃ E S, d = .slice E S ∧ E.length + S.length = c

section
variable {H : Type} {enc : TypeId × Value → H} {P : Program} {W : World}

theorem bytes_of_trod {t e : TypeId} (ht : P.underlying t = some (.slice e)) (he : P.underlying e = some (.int .u8)) (hce : P.cellsOf e = 1) {fuel : Nat} {v : Value} {x : DataW H × List MemPlace}
    (h : DataW.trod enc P W 0 (fun _ => true) true fuel t [v] = some x) :
    ∃ a n c bs, v = .slice a n c ∧ Part W ⟨a, n, c, bs⟩ ∧ Long x.1 c := by
  rcases open_ints ht he hce h with ⟨hcs, hx⟩ | ⟨a, len, cap, zs, hcs, _, hl, hm, hz, hx, hcell, hwf⟩
  · simp at hcs
    subst hcs hx
    exact ⟨none, 0, 0, [], rfl, Part.gone rfl, .inl ⟨rfl, rfl⟩⟩
  · simp at hcs hz
    subst hcs hx
    refine ⟨some a, len, cap, zs.take len, rfl, ⟨by simp; omega, hl, ?_, fun hn => ?_⟩, .inr ⟨_, _, rfl, by simp [lits]; omega⟩⟩
    · intro y hy
      exact bounds_u8 (hwf y (List.mem_of_mem_take hy))
    · have hn' : 0 < len := hn
      obtain ⟨b, off, spot⟩ := a
      have hspot : spot = none := by simpa [Addr.add] using World.cell?_spot (hcell 0 (by omega))
      subst hspot
      refine ⟨b, off, rfl, fun j hj => ?_⟩
      have hj' : j < len := hj
      have := hcell j (by omega)
      rw [List.getD_eq_getElem?_getD] at this
      simp only [List.getElem?_take, hj', if_true]
      rw [← this]
      congr 1
      unfold Addr.add
      by_cases h0 : j = 0 <;> simp [h0]

theorem open_bytes {t e : TypeId} (ht : P.underlying t = some (.slice e)) (he : P.underlying e = some (.int .u8)) (hce : P.cellsOf e = 1) {r : Reach} {b0 : Nat} {v : Value} {d : DataW H} {p : List MemPlace}
    (hv : Value.okWide P W r b0 t v) (h : DataW.Trod enc P W 0 (fun _ => true) true t v d p) : ∃ a n c bs, v = .slice a n c ∧ Part W ⟨a, n, c, bs⟩ ∧ Long d c := by
  obtain ⟨a, len, cap, rfl⟩ := okWide_slice ht hv
  obtain ⟨fuel, hf⟩ := h
  exact bytes_of_trod ht he hce (x := (d, p)) (by simpa [Value.cells] using hf)

theorem long_reach {ts : List TypeId} {ds : List (DataW H)} (hsz : (DataW.weightsEach P ts ds).all (· ≤ reachBytes) = true) {j : Nat} {t e : TypeId} {d : DataW H} {c : Nat}
    (ht : ts[j]? = some t) (hd : ds[j]? = some d) (hu : P.underlying t = some (.slice e)) (hb : P.bytesOf e = 1) (hl : Long d c) : c ≤ 140737488351232 := by
  rcases hl with ⟨_, rfl⟩ | ⟨E, S, rfl, hc⟩
  · omega
  · have := sized_slice hsz ht hd hu
    rw [hb] at this
    simp only [reachBytes] at this
    omega
theorem text_reach {ts : List TypeId} {ds : List (DataW H)} (hsz : (DataW.weightsEach P ts ds).all (· ≤ reachBytes) = true) {j : Nat} {t : TypeId} {s : ByteArray}
    (ht : ts[j]? = some t) (hd : ds[j]? = some (.lit (.string s.data.toList))) : s.size ≤ 140737488351232 := by
  have := sized_string hsz ht hd
  simpa [reachBytes] using this

theorem list6 {α : Type} (l : List α) (h : l.length = 6) : ∃ x0 x1 x2 x3 x4 x5, l = [x0, x1, x2, x3, x4, x5] := by
  match l, h with
  | [x0, x1, x2, x3, x4, x5], _ => exact ⟨x0, x1, x2, x3, x4, x5, rfl⟩
theorem trod_bytes6 {t e : TypeId} (ht : P.underlying t = some (.array 6 e)) (he : P.underlying e = some (.int .u8)) (hce : P.cellsOf e = 1) {fuel : Nat} {x0 x1 x2 x3 x4 x5 : Value} {z : DataW H × List MemPlace}
    (h : DataW.trod enc P W 0 (fun _ => true) true fuel t [x0, x1, x2, x3, x4, x5] = some z) :
    ∃ nx0 nx1 nx2 nx3 nx4 nx5 : Int, (x0 = .int .u8 nx0 ∧ x1 = .int .u8 nx1 ∧ x2 = .int .u8 nx2 ∧ x3 = .int .u8 nx3 ∧ x4 = .int .u8 nx4 ∧ x5 = .int .u8 nx5) ∧ (0 ≤ nx0 ∧ nx0 ≤ 255) ∧ (0 ≤ nx1 ∧ nx1 ≤ 255) ∧ (0 ≤ nx2 ∧ nx2 ≤ 255) ∧ (0 ≤ nx3 ∧ nx3 ≤ 255) ∧ (0 ≤ nx4 ∧ nx4 ≤ 255) ∧ (0 ≤ nx5 ∧ nx5 ≤ 255) := by
  obtain ⟨xs, m, _, rfl, _, hl, hel⟩ := DataW.trod_array ht h
  rw [hce] at hel
  obtain ⟨px0, px1, px2, px3, px4, px5, rfl⟩ := list6 xs hl
  have e0 := hel 0 (by omega)
  have e1 := hel 1 (by omega)
  have e2 := hel 2 (by omega)
  have e3 := hel 3 (by omega)
  have e4 := hel 4 (by omega)
  have e5 := hel 5 (by omega)
  simp at e0 e1 e2 e3 e4 e5
  obtain ⟨k0, c0, _, w0⟩ := DataW.trod_int he e0
  simp at c0
  obtain ⟨k1, c1, _, w1⟩ := DataW.trod_int he e1
  simp at c1
  obtain ⟨k2, c2, _, w2⟩ := DataW.trod_int he e2
  simp at c2
  obtain ⟨k3, c3, _, w3⟩ := DataW.trod_int he e3
  simp at c3
  obtain ⟨k4, c4, _, w4⟩ := DataW.trod_int he e4
  simp at c4
  obtain ⟨k5, c5, _, w5⟩ := DataW.trod_int he e5
  simp at c5
  exact ⟨k0, k1, k2, k3, k4, k5, ⟨c0, c1, c2, c3, c4, c5⟩, bounds_u8 w0, bounds_u8 w1, bounds_u8 w2, bounds_u8 w3, bounds_u8 w4, bounds_u8 w5⟩
theorem open_bytes6 {t e : TypeId} (ht : P.underlying t = some (.array 6 e)) (he : P.underlying e = some (.int .u8)) (hc : P.cellsOf t = 6) (hce : P.cellsOf e = 1)
    {r : Reach} {b0 : Nat} {v : Value} {d : DataW H} {p : List MemPlace} (hv : Value.okWide P W r b0 t v) (h : DataW.Trod enc P W 0 (fun _ => true) true t v d p) :
    ∃ x0 x1 x2 x3 x4 x5 : Int, v = .agg #[.int .u8 x0, .int .u8 x1, .int .u8 x2, .int .u8 x3, .int .u8 x4, .int .u8 x5] ∧ (0 ≤ x0 ∧ x0 ≤ 255) ∧ (0 ≤ x1 ∧ x1 ≤ 255) ∧ (0 ≤ x2 ∧ x2 ≤ 255) ∧ (0 ≤ x3 ∧ x3 ≤ 255) ∧ (0 ≤ x4 ∧ x4 ≤ 255) ∧ (0 ≤ x5 ∧ x5 ≤ 255) := by
  obtain ⟨cs, rfl, hsz, _⟩ : ∃ cs, v = .agg cs ∧ cs.size = P.cellsOf t ∧ Row.okWide P W r b0 t cs := by simpa [Value.okWide, ht] using hv
  rw [hc] at hsz
  obtain ⟨l⟩ := cs
  obtain ⟨x0, x1, x2, x3, x4, x5, rfl⟩ := list6 l hsz
  obtain ⟨fuel, hf⟩ := h
  obtain ⟨nx0, nx1, nx2, nx3, nx4, nx5, ⟨rfl, rfl, rfl, rfl, rfl, rfl⟩, hb⟩ := trod_bytes6 ht he hce (z := (d, p)) (by simpa [Value.cells] using hf)
  exact ⟨nx0, nx1, nx2, nx3, nx4, nx5, rfl, hb⟩

theorem list4 {α : Type} (l : List α) (h : l.length = 4) : ∃ x0 x1 x2 x3, l = [x0, x1, x2, x3] := by
  match l, h with
  | [x0, x1, x2, x3], _ => exact ⟨x0, x1, x2, x3, rfl⟩
theorem trod_bytes4 {t e : TypeId} (ht : P.underlying t = some (.array 4 e)) (he : P.underlying e = some (.int .u8)) (hce : P.cellsOf e = 1) {fuel : Nat} {x0 x1 x2 x3 : Value} {z : DataW H × List MemPlace}
    (h : DataW.trod enc P W 0 (fun _ => true) true fuel t [x0, x1, x2, x3] = some z) :
    ∃ nx0 nx1 nx2 nx3 : Int, (x0 = .int .u8 nx0 ∧ x1 = .int .u8 nx1 ∧ x2 = .int .u8 nx2 ∧ x3 = .int .u8 nx3) ∧ (0 ≤ nx0 ∧ nx0 ≤ 255) ∧ (0 ≤ nx1 ∧ nx1 ≤ 255) ∧ (0 ≤ nx2 ∧ nx2 ≤ 255) ∧ (0 ≤ nx3 ∧ nx3 ≤ 255) := by
  obtain ⟨xs, m, _, rfl, _, hl, hel⟩ := DataW.trod_array ht h
  rw [hce] at hel
  obtain ⟨px0, px1, px2, px3, rfl⟩ := list4 xs hl
  have e0 := hel 0 (by omega)
  have e1 := hel 1 (by omega)
  have e2 := hel 2 (by omega)
  have e3 := hel 3 (by omega)
  simp at e0 e1 e2 e3
  obtain ⟨k0, c0, _, w0⟩ := DataW.trod_int he e0
  simp at c0
  obtain ⟨k1, c1, _, w1⟩ := DataW.trod_int he e1
  simp at c1
  obtain ⟨k2, c2, _, w2⟩ := DataW.trod_int he e2
  simp at c2
  obtain ⟨k3, c3, _, w3⟩ := DataW.trod_int he e3
  simp at c3
  exact ⟨k0, k1, k2, k3, ⟨c0, c1, c2, c3⟩, bounds_u8 w0, bounds_u8 w1, bounds_u8 w2, bounds_u8 w3⟩
theorem open_bytes4 {t e : TypeId} (ht : P.underlying t = some (.array 4 e)) (he : P.underlying e = some (.int .u8)) (hc : P.cellsOf t = 4) (hce : P.cellsOf e = 1)
    {r : Reach} {b0 : Nat} {v : Value} {d : DataW H} {p : List MemPlace} (hv : Value.okWide P W r b0 t v) (h : DataW.Trod enc P W 0 (fun _ => true) true t v d p) :
    ∃ x0 x1 x2 x3 : Int, v = .agg #[.int .u8 x0, .int .u8 x1, .int .u8 x2, .int .u8 x3] ∧ (0 ≤ x0 ∧ x0 ≤ 255) ∧ (0 ≤ x1 ∧ x1 ≤ 255) ∧ (0 ≤ x2 ∧ x2 ≤ 255) ∧ (0 ≤ x3 ∧ x3 ≤ 255) := by
  obtain ⟨cs, rfl, hsz, _⟩ : ∃ cs, v = .agg cs ∧ cs.size = P.cellsOf t ∧ Row.okWide P W r b0 t cs := by simpa [Value.okWide, ht] using hv
  rw [hc] at hsz
  obtain ⟨l⟩ := cs
  obtain ⟨x0, x1, x2, x3, rfl⟩ := list4 l hsz
  obtain ⟨fuel, hf⟩ := h
  obtain ⟨nx0, nx1, nx2, nx3, ⟨rfl, rfl, rfl, rfl⟩, hb⟩ := trod_bytes4 ht he hce (z := (d, p)) (by simpa [Value.cells] using hf)
  exact ⟨nx0, nx1, nx2, nx3, rfl, hb⟩

theorem list16 {α : Type} (l : List α) (h : l.length = 16) : ∃ x0 x1 x2 x3 x4 x5 x6 x7 x8 x9 x10 x11 x12 x13 x14 x15, l = [x0, x1, x2, x3, x4, x5, x6, x7, x8, x9, x10, x11, x12, x13, x14, x15] := by
  match l, h with
  | [x0, x1, x2, x3, x4, x5, x6, x7, x8, x9, x10, x11, x12, x13, x14, x15], _ => exact ⟨x0, x1, x2, x3, x4, x5, x6, x7, x8, x9, x10, x11, x12, x13, x14, x15, rfl⟩
theorem open_bytes16 {t e : TypeId} (ht : P.underlying t = some (.array 16 e)) (he : P.underlying e = some (.int .u8)) (hc : P.cellsOf t = 16) (hce : P.cellsOf e = 1)
    {r : Reach} {b0 : Nat} {v : Value} {d : DataW H} {p : List MemPlace} (hv : Value.okWide P W r b0 t v) (h : DataW.Trod enc P W 0 (fun _ => true) true t v d p) :
    ∃ x0 x1 x2 x3 x4 x5 x6 x7 x8 x9 x10 x11 x12 x13 x14 x15 : Int, v = .agg #[.int .u8 x0, .int .u8 x1, .int .u8 x2, .int .u8 x3, .int .u8 x4, .int .u8 x5, .int .u8 x6, .int .u8 x7, .int .u8 x8, .int .u8 x9, .int .u8 x10, .int .u8 x11, .int .u8 x12, .int .u8 x13, .int .u8 x14, .int .u8 x15] ∧ Byt [x0, x1, x2, x3, x4, x5, x6, x7, x8, x9, x10, x11, x12, x13, x14, x15] := by
  obtain ⟨cs, rfl, hsz, _⟩ : ∃ cs, v = .agg cs ∧ cs.size = P.cellsOf t ∧ Row.okWide P W r b0 t cs := by simpa [Value.okWide, ht] using hv
  rw [hc] at hsz
  obtain ⟨l⟩ := cs
  obtain ⟨x0, x1, x2, x3, x4, x5, x6, x7, x8, x9, x10, x11, x12, x13, x14, x15, rfl⟩ := list16 l hsz
  obtain ⟨fuel, hf⟩ := h
  have hf' : DataW.trod enc P W 0 (fun _ => true) true fuel t [x0, x1, x2, x3, x4, x5, x6, x7, x8, x9, x10, x11, x12, x13, x14, x15] = some (d, p) := by simpa [Value.cells] using hf
  obtain ⟨xs, m, _, hx, _, hl, hel⟩ := DataW.trod_array ht hf'
  rw [hce] at hel
  obtain ⟨px0, px1, px2, px3, px4, px5, px6, px7, px8, px9, px10, px11, px12, px13, px14, px15, rfl⟩ := list16 xs hl
  have e0 := hel 0 (by omega)
  simp at e0
  obtain ⟨k0, c0, _, w0⟩ := DataW.trod_int he e0
  simp at c0
  subst c0
  have e1 := hel 1 (by omega)
  simp at e1
  obtain ⟨k1, c1, _, w1⟩ := DataW.trod_int he e1
  simp at c1
  subst c1
  have e2 := hel 2 (by omega)
  simp at e2
  obtain ⟨k2, c2, _, w2⟩ := DataW.trod_int he e2
  simp at c2
  subst c2
  have e3 := hel 3 (by omega)
  simp at e3
  obtain ⟨k3, c3, _, w3⟩ := DataW.trod_int he e3
  simp at c3
  subst c3
  have e4 := hel 4 (by omega)
  simp at e4
  obtain ⟨k4, c4, _, w4⟩ := DataW.trod_int he e4
  simp at c4
  subst c4
  have e5 := hel 5 (by omega)
  simp at e5
  obtain ⟨k5, c5, _, w5⟩ := DataW.trod_int he e5
  simp at c5
  subst c5
  have e6 := hel 6 (by omega)
  simp at e6
  obtain ⟨k6, c6, _, w6⟩ := DataW.trod_int he e6
  simp at c6
  subst c6
  have e7 := hel 7 (by omega)
  simp at e7
  obtain ⟨k7, c7, _, w7⟩ := DataW.trod_int he e7
  simp at c7
  subst c7
  have e8 := hel 8 (by omega)
  simp at e8
  obtain ⟨k8, c8, _, w8⟩ := DataW.trod_int he e8
  simp at c8
  subst c8
  have e9 := hel 9 (by omega)
  simp at e9
  obtain ⟨k9, c9, _, w9⟩ := DataW.trod_int he e9
  simp at c9
  subst c9
  have e10 := hel 10 (by omega)
  simp at e10
  obtain ⟨k10, c10, _, w10⟩ := DataW.trod_int he e10
  simp at c10
  subst c10
  have e11 := hel 11 (by omega)
  simp at e11
  obtain ⟨k11, c11, _, w11⟩ := DataW.trod_int he e11
  simp at c11
  subst c11
  have e12 := hel 12 (by omega)
  simp at e12
  obtain ⟨k12, c12, _, w12⟩ := DataW.trod_int he e12
  simp at c12
  subst c12
  have e13 := hel 13 (by omega)
  simp at e13
  obtain ⟨k13, c13, _, w13⟩ := DataW.trod_int he e13
  simp at c13
  subst c13
  have e14 := hel 14 (by omega)
  simp at e14
  obtain ⟨k14, c14, _, w14⟩ := DataW.trod_int he e14
  simp at c14
  subst c14
  have e15 := hel 15 (by omega)
  simp at e15
  obtain ⟨k15, c15, _, w15⟩ := DataW.trod_int he e15
  simp at c15
  subst c15
  exact ⟨k0, k1, k2, k3, k4, k5, k6, k7, k8, k9, k10, k11, k12, k13, k14, k15, rfl, (Byt.cons (bounds_u8 w0) (Byt.cons (bounds_u8 w1) (Byt.cons (bounds_u8 w2) (Byt.cons (bounds_u8 w3) (Byt.cons (bounds_u8 w4) (Byt.cons (bounds_u8 w5) (Byt.cons (bounds_u8 w6) (Byt.cons (bounds_u8 w7) (Byt.cons (bounds_u8 w8) (Byt.cons (bounds_u8 w9) (Byt.cons (bounds_u8 w10) (Byt.cons (bounds_u8 w11) (Byt.cons (bounds_u8 w12) (Byt.cons (bounds_u8 w13) (Byt.cons (bounds_u8 w14) (Byt.cons (bounds_u8 w15) Byt.nil))))))))))))))))⟩
theorem list2 {α : Type} (l : List α) (h : l.length = 2) : ∃ x0 x1, l = [x0, x1] := by
  match l, h with
  | [x0, x1], _ => exact ⟨x0, x1, rfl⟩
theorem open_two_ints {t e : TypeId} (ht : P.underlying t = some (.array 2 e)) (he : P.underlying e = some (.int .i64)) (hc : P.cellsOf t = 2) (hce : P.cellsOf e = 1)
    {r : Reach} {b0 : Nat} {v : Value} {d : DataW H} {p : List MemPlace} (hv : Value.okWide P W r b0 t v) (h : DataW.Trod enc P W 0 (fun _ => true) true t v d p) :
    ∃ x y : Int, v = .agg #[.int .i64 x, .int .i64 y] ∧ (Lit.int .i64 x).wf = true ∧ (Lit.int .i64 y).wf = true := by
  obtain ⟨cs, rfl, hsz, _⟩ : ∃ cs, v = .agg cs ∧ cs.size = P.cellsOf t ∧ Row.okWide P W r b0 t cs := by simpa [Value.okWide, ht] using hv
  rw [hc] at hsz
  obtain ⟨l⟩ := cs
  obtain ⟨x0, x1, rfl⟩ := list2 l hsz
  obtain ⟨fuel, hf⟩ := h
  have hf' : DataW.trod enc P W 0 (fun _ => true) true fuel t [x0, x1] = some (d, p) := by simpa [Value.cells] using hf
  obtain ⟨xs, m, _, hx, _, hl, hel⟩ := DataW.trod_array ht hf'
  rw [hce] at hel
  obtain ⟨px0, px1, rfl⟩ := list2 xs hl
  have e0 := hel 0 (by omega)
  have e1 := hel 1 (by omega)
  simp at e0 e1
  obtain ⟨k0, c0, _, w0⟩ := DataW.trod_int he e0
  obtain ⟨k1, c1, _, w1⟩ := DataW.trod_int he e1
  simp at c0 c1
  subst c0 c1
  exact ⟨k0, k1, rfl, w0, w1⟩
theorem open_two_texts {t e : TypeId} (ht : P.underlying t = some (.array 2 e)) (he : P.underlying e = some .string) (hc : P.cellsOf t = 2) (hce : P.cellsOf e = 1)
    {r : Reach} {b0 : Nat} {v : Value} {d : DataW H} {p : List MemPlace} (hv : Value.okWide P W r b0 t v) (h : DataW.Trod enc P W 0 (fun _ => true) true t v d p) :
    ∃ x y : ByteArray, v = .agg #[.string x, .string y] ∧ d = .agg [.lit (.string x.data.toList), .lit (.string y.data.toList)] := by
  obtain ⟨cs, rfl, hsz, _⟩ : ∃ cs, v = .agg cs ∧ cs.size = P.cellsOf t ∧ Row.okWide P W r b0 t cs := by simpa [Value.okWide, ht] using hv
  rw [hc] at hsz
  obtain ⟨l⟩ := cs
  obtain ⟨x0, x1, rfl⟩ := list2 l hsz
  obtain ⟨fuel, hf⟩ := h
  have hf' : DataW.trod enc P W 0 (fun _ => true) true fuel t [x0, x1] = some (d, p) := by simpa [Value.cells] using hf
  obtain ⟨xs, m, _, hx, _, hl, hel⟩ := DataW.trod_array ht hf'
  rw [hce] at hel
  obtain ⟨px0, px1, rfl⟩ := list2 xs hl
  have e0 := hel 0 (by omega)
  have e1 := hel 1 (by omega)
  simp at e0 e1
  obtain ⟨k0, c0, d0, _⟩ := DataW.trod_string he e0
  obtain ⟨k1, c1, d1, _⟩ := DataW.trod_string he e1
  simp at c0 c1
  subst c0 c1 d0 d1
  simp only [Prod.mk.injEq] at hx
  exact ⟨k0, k1, rfl, hx.1⟩
theorem two_reach {ts : List TypeId} {ds : List (DataW H)} (hsz : (DataW.weightsEach P ts ds).all (· ≤ reachBytes) = true) {j : Nat} {t e : TypeId} {x y : ByteArray}
    (ht : ts[j]? = some t) (hu : P.underlying t = some (.array 2 e)) (hd : ds[j]? = some (.agg [.lit (.string x.data.toList), .lit (.string y.data.toList)])) : x.size ≤ 140737488351232 ∧ y.size ≤ 140737488351232 := by
  constructor
  · have := List.all_eq_true.1 hsz _ (DataW.weights_mem_each ht hd x.size (by
      simp [DataW.weights, DataW.weightsAll, hu]))
    have h2 := of_decide_eq_true this
    simpa [reachBytes] using h2
  · have := List.all_eq_true.1 hsz _ (DataW.weights_mem_each ht hd y.size (by
      simp [DataW.weights, DataW.weightsAll, hu]))
    have h2 := of_decide_eq_true this
    simpa [reachBytes] using h2

end

section
variable {H : Type} {enc : TypeId × Value → H} {W : World}
theorem open_frame {r : Reach} {b0 : Nat} {v : Value} {d : DataW H} {p : List MemPlace} (hv : Value.okWide Tryd.prog W r b0 36 v) (h : DataW.Trod enc Tryd.prog W 0 (fun _ => true) true 36 v d p) :
    ∃ (a0 a1 a2 a3 a4 a5 a6 a7 a8 a9 a10 a11 t : Int) (s : ByteArray) (d1 d2 : DataW H), v = .agg #[.int .u8 a0, .int .u8 a1, .int .u8 a2, .int .u8 a3, .int .u8 a4, .int .u8 a5, .int .u8 a6, .int .u8 a7, .int .u8 a8, .int .u8 a9, .int .u8 a10, .int .u8 a11, .int .i64 t, .string s] ∧ d = .agg [d1, d2, .lit (.int .i64 t), .lit (.string s.data.toList)] ∧ (0 ≤ a0 ∧ a0 ≤ 255) ∧ (0 ≤ a1 ∧ a1 ≤ 255) ∧ (0 ≤ a2 ∧ a2 ≤ 255) ∧ (0 ≤ a3 ∧ a3 ≤ 255) ∧ (0 ≤ a4 ∧ a4 ≤ 255) ∧ (0 ≤ a5 ∧ a5 ≤ 255) ∧ (0 ≤ a6 ∧ a6 ≤ 255) ∧ (0 ≤ a7 ∧ a7 ≤ 255) ∧ (0 ≤ a8 ∧ a8 ≤ 255) ∧ (0 ≤ a9 ∧ a9 ≤ 255) ∧ (0 ≤ a10 ∧ a10 ≤ 255) ∧ (0 ≤ a11 ∧ a11 ≤ 255) ∧ (Lit.int .i64 t).wf = true := by
  obtain ⟨cs, rfl, hsz⟩ := okWide_struct Tryd.underlying36 hv
  have hc : Tryd.prog.cellsOf 36 = 14 := by kernel_rfl
  have c23 : Tryd.prog.cellsOf 23 = 6 := by kernel_rfl
  have c5 : Tryd.prog.cellsOf 5 = 1 := by kernel_rfl
  have c3 : Tryd.prog.cellsOf 3 = 1 := by kernel_rfl
  have c9 : Tryd.prog.cellsOf 9 = 1 := by kernel_rfl
  rw [hc] at hsz
  obtain ⟨l⟩ := cs
  obtain ⟨z0, z1, z2, z3, z4, z5, z6, z7, z8, z9, z10, z11, z12, z13, r', rfl, hr⟩ := E.fourteen l 0 hsz
  have hr' : r' = [] := List.eq_nil_of_length_eq_zero hr
  subst hr'
  obtain ⟨fuel, hf⟩ := h
  obtain ⟨xs, n, _, hx, _, hlen, hg⟩ := DataW.trod_struct Tryd.underlying36 hf
  have g0 := hg 0 _ rfl
  have g1 := hg 1 _ rfl
  have g2 := hg 2 _ rfl
  have g3 := hg 3 _ rfl
  obtain ⟨y0, y1, y2, y3, rfl⟩ := list4 xs hlen
  simp [Value.cells, c23, c3, c9] at g0 g1 g2 g3
  obtain ⟨k0, k1, k2, k3, k4, k5, ⟨rfl, rfl, rfl, rfl, rfl, rfl⟩, hb0⟩ := trod_bytes6 Tryd.underlying23 Tryd.underlying5 c5 g0
  obtain ⟨k6, k7, k8, k9, k10, k11, ⟨rfl, rfl, rfl, rfl, rfl, rfl⟩, hb1⟩ := trod_bytes6 Tryd.underlying23 Tryd.underlying5 c5 g1
  obtain ⟨t, e2, x2, w2⟩ := DataW.trod_int Tryd.underlying3 g2
  obtain ⟨s, e3, x3, w3⟩ := DataW.trod_string Tryd.underlying9 g3
  simp at e2 e3
  subst e2 e3 x2 x3
  simp only [Prod.mk.injEq] at hx
  obtain ⟨m0, m1, m2, m3, m4, m5⟩ := hb0
  obtain ⟨m6, m7, m8, m9, m10, m11⟩ := hb1
  exact ⟨k0, k1, k2, k3, k4, k5, k6, k7, k8, k9, k10, k11, t, s, _, _, rfl, hx.1, m0, m1, m2, m3, m4, m5, m6, m7, m8, m9, m10, m11, w2⟩

theorem frame_reach {ts : List TypeId} {ds : List (DataW H)} (hsz : (DataW.weightsEach Tryd.prog ts ds).all (· ≤ reachBytes) = true) {j : Nat} {d1 d2 d3 : DataW H} {s : ByteArray}
    (ht : ts[j]? = some 36) (hd : ds[j]? = some (.agg [d1, d2, d3, .lit (.string s.data.toList)])) : s.size ≤ 140737488351232 := by
  have := List.all_eq_true.1 hsz _ (DataW.weights_mem_each ht hd s.size (by
    simp [DataW.weights, DataW.weightsEach, Tryd.underlying36]))
  have h2 := of_decide_eq_true this
  simpa [reachBytes] using h2
end


/-- What the listed variables hold. -/
theorem glob_of_laid {W : World} (h : laidMetH Tryd.prog Rows.neighAsksRow.laid W) : Glob W := by
  rw [MakeChecks.laidMetH_plain _ _ _ (by kernel_rfl)] at h
  obtain ⟨ps, ⟨g0, t0, cs0, f0, p0, q0, hg0, ht0, hv0, hd0, ⟨g1, t1, cs1, f1, p1, q1, hg1, ht1, hv1, hd1, _, _⟩, _⟩, _, _⟩ := h
  obtain rfl : 0 = g0 := Option.some.inj (Eq.trans (Eq.symm (by kernel_rfl)) hg0)
  obtain rfl : 1 = g1 := Option.some.inj (Eq.trans (Eq.symm (by kernel_rfl)) hg1)
  obtain rfl : 63 = t0 := Option.some.inj (Eq.trans (Eq.symm (by kernel_rfl)) ht0)
  obtain rfl : 63 = t1 := Option.some.inj (Eq.trans (Eq.symm (by kernel_rfl)) ht1)
  have c5 : Tryd.prog.cellsOf 5 = 1 := by kernel_rfl
  have key : ∀ (cs : Array Value) (f : Nat) (a b c d : Int) (p : List MemPlace), DataW.trod (fun _ => ()) Tryd.prog W 0 (fun _ => true) false f 63 cs.toList = some (.agg [.lit (.int .u8 a), .lit (.int .u8 b), .lit (.int .u8 c), .lit (.int .u8 d)], p) → cs[0]? = some (.int .u8 a) ∧ cs[1]? = some (.int .u8 b) ∧ cs[2]? = some (.int .u8 c) ∧ cs[3]? = some (.int .u8 d) := by
    intro cs f a b c d p hd
    obtain ⟨xs, m, _, hx, hlen, hl, hel⟩ := DataW.trod_array Tryd.underlying63 hd
    obtain ⟨y0, y1, y2, y3, rfl⟩ := list4 xs hl
    rw [c5] at hel
    have h4 : cs.toList.length = 4 := hlen.trans (by kernel_rfl)
    obtain ⟨l⟩ := cs
    simp only at h4 hel
    obtain ⟨c0, c1, c2, c3, rfl⟩ := list4 l h4
    have e0 := hel 0 (by omega)
    have e1 := hel 1 (by omega)
    have e2 := hel 2 (by omega)
    have e3 := hel 3 (by omega)
    simp at e0 e1 e2 e3
    obtain ⟨k0, r0, s0, _⟩ := DataW.trod_int Tryd.underlying5 e0
    obtain ⟨k1, r1, s1, _⟩ := DataW.trod_int Tryd.underlying5 e1
    obtain ⟨k2, r2, s2, _⟩ := DataW.trod_int Tryd.underlying5 e2
    obtain ⟨k3, r3, s3, _⟩ := DataW.trod_int Tryd.underlying5 e3
    simp at r0 r1 r2 r3
    subst r0 r1 r2 r3 s0 s1 s2 s3
    simp at hx
    obtain ⟨⟨rfl, rfl, rfl, rfl⟩, _⟩ := hx
    simp
  have k0 := key cs0 f0 135 0 1 1 p0 hd0
  have k1 := key cs1 f1 136 0 2 1 p1 hd1
  have v0 := fun k => World.var?_cell hg0 hv0 k
  have v1 := fun k => World.var?_cell hg1 hv1 k
  exact ⟨(v0 0).trans k0.1, (v0 1).trans k0.2.1, (v0 2).trans k0.2.2.1, (v0 3).trans k0.2.2.2, (v1 0).trans k1.1, (v1 1).trans k1.2.1, (v1 2).trans k1.2.2.1, (v1 3).trans k1.2.2.2⟩

/-- The heap that the initialisers leave holds them. -/
theorem door_met (os : Os) (args : Array Value) : laidMetH Tryd.prog Rows.neighAsksRow.laid ((World.doorLaid Tryd.prog 400 os).forCall (fun _ _ => 0) ⟨#[], args, []⟩).memory :=
  laidMetH_of_parts3 (fuel := 8) (laidMet_of_run' 8 (by kernel_rfl) (by kernel_rfl)) (by kernel_rfl) (by kernel_rfl)

end Go.Proofs.YtdoefjhdipkkeaaDoor
