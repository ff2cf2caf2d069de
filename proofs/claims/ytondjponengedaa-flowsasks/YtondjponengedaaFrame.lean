/-
  What the row's steps of this seat share: how integers, texts, slices of bytes and keys that came in are opened, and what the form's own reach says of their lengths.
-/
import Derived.Test.YtondjponengedaaTxt
import Derived.ProofKit
import Derived.OpenShut
import Derived.ShutString
import Derived.ChangeOld
import Derived.SizedLaws
import Derived.ChangeMaps5
namespace Go.Proofs.Ytondjponengedaa
open Go.ChangeShapes Go.WideShapes Go.ChangeAt Go.RowKit
set_option linter.unusedVariables false

theorem own : ownKnob Try.prog.godebug = none := by kernel_rfl
theorem laidOut : laidOutB Try.prog = true := by kernel_rfl

/-- How long a slice's datum says that it is, spare places counted. -/
def Long {H : Type} (d : DataW H) (c : Nat) : Prop := (d = .nil ∧ c = 0) ∨ ∃ E S, d = .slice E S ∧ E.length + S.length = c

section
variable {H : Type} {enc : TypeId × Value → H} {P : Program} {W : World}

theorem bytes_of_trod {t e : TypeId} (ht : P.underlying t = some (.slice e)) (he : P.underlying e = some (.int .u8)) (hce : P.cellsOf e = 1) {fuel : Nat} {v : Value} {x : DataW H × List MemPlace}
    (h : DataW.trod enc P W 0 (fun _ => true) true fuel t [v] = some x) :
    ∃ a n c bs, v = .slice a n c ∧ Part W ⟨a, n, c, bs⟩ ∧ Long x.1 c := by
  rcases open_ints ht he hce h with ⟨hcs, hx⟩ | ⟨a, len, cap, zs, hcs, _, hl, hm, hz, hx, hcell, hwf⟩
  · simp at hcs
    subst hcs hx
    exact ⟨none, 0, 0, [], rfl, Part.gone rfl, .inl ⟨rfl, rfl⟩⟩
  · simp at hcs hz
    subst hcs hx
    refine ⟨some a, len, cap, zs.take len, rfl, ⟨by simp; omega, hl, ?_, fun hn => ?_⟩, .inr ⟨_, _, rfl, by simp [lits]; omega⟩⟩
    · intro y hy
      exact bounds_u8 (hwf y (List.mem_of_mem_take hy))
    · have hn' : 0 < len := hn
      obtain ⟨b, off, spot⟩ := a
      have hspot : spot = none := by simpa [Addr.add] using World.cell?_spot (hcell 0 (by omega))
      subst hspot
      refine ⟨b, off, rfl, fun j hj => ?_⟩
      have hj' : j < len := hj
      have := hcell j (by omega)
      rw [List.getD_eq_getElem?_getD] at this
      simp only [List.getElem?_take, hj', if_true]
      rw [← this]
      congr 1
      unfold Addr.add
      by_cases h0 : j = 0 <;> simp [h0]

theorem open_bytes {t e : TypeId} (ht : P.underlying t = some (.slice e)) (he : P.underlying e = some (.int .u8)) (hce : P.cellsOf e = 1) {r : Reach} {b0 : Nat} {v : Value} {d : DataW H} {p : List MemPlace}
    (hv : Value.okWide P W r b0 t v) (h : DataW.Trod enc P W 0 (fun _ => true) true t v d p) : ∃ a n c bs, v = .slice a n c ∧ Part W ⟨a, n, c, bs⟩ ∧ Long d c := by
  obtain ⟨a, len, cap, rfl⟩ := okWide_slice ht hv
  obtain ⟨fuel, hf⟩ := h
  exact bytes_of_trod ht he hce (x := (d, p)) (by simpa [Value.cells] using hf)

theorem long_reach {ts : List TypeId} {ds : List (DataW H)} (hsz : (DataW.weightsEach P ts ds).all (· ≤ reachBytes) = true) {j : Nat} {t e : TypeId} {d : DataW H} {c : Nat}
    (ht : ts[j]? = some t) (hd : ds[j]? = some d) (hu : P.underlying t = some (.slice e)) (hb : P.bytesOf e = 1) (hl : Long d c) : c ≤ 140737488351232 := by
  rcases hl with ⟨_, rfl⟩ | ⟨E, S, rfl, hc⟩
  · omega
  · have := sized_slice hsz ht hd hu
    rw [hb] at this
    simp only [reachBytes] at this
    omega
theorem text_reach {ts : List TypeId} {ds : List (DataW H)} (hsz : (DataW.weightsEach P ts ds).all (· ≤ reachBytes) = true) {j : Nat} {t : TypeId} {s : ByteArray}
    (ht : ts[j]? = some t) (hd : ds[j]? = some (.lit (.string s.data.toList))) : s.size ≤ 140737488351232 := by
  have := sized_string hsz ht hd
  simpa [reachBytes] using this


theorem list16 {α : Type} (l : List α) (h : l.length = 16) : ∃ x0 x1 x2 x3 x4 x5 x6 x7 x8 x9 x10 x11 x12 x13 x14 x15, l = [x0, x1, x2, x3, x4, x5, x6, x7, x8, x9, x10, x11, x12, x13, x14, x15] := by
  match l, h with
  | [x0, x1, x2, x3, x4, x5, x6, x7, x8, x9, x10, x11, x12, x13, x14, x15], _ => exact ⟨x0, x1, x2, x3, x4, x5, x6, x7, x8, x9, x10, x11, x12, x13, x14, x15, rfl⟩
theorem trod_key {t e : TypeId} (ht : P.underlying t = some (.array 16 e)) (he : P.underlying e = some (.int .u8)) (hce : P.cellsOf e = 1) {fuel : Nat} {x0 x1 x2 x3 x4 x5 x6 x7 x8 x9 x10 x11 x12 x13 x14 x15 : Value} {z : DataW H × List MemPlace}
    (h : DataW.trod enc P W 0 (fun _ => true) true fuel t [x0, x1, x2, x3, x4, x5, x6, x7, x8, x9, x10, x11, x12, x13, x14, x15] = some z) : ∃ k : List Int, [x0, x1, x2, x3, x4, x5, x6, x7, x8, x9, x10, x11, x12, x13, x14, x15] = cel k ∧ Key k := by
  obtain ⟨ys, m, _, rfl, _, hl, hel⟩ := DataW.trod_array ht h
  rw [hce] at hel
  obtain ⟨p0, p1, p2, p3, p4, p5, p6, p7, p8, p9, p10, p11, p12, p13, p14, p15, rfl⟩ := list16 ys hl
  have e0 := hel 0 (by omega)
  simp at e0
  obtain ⟨k0, c0, _, w0⟩ := DataW.trod_int he e0
  simp at c0
  have e1 := hel 1 (by omega)
  simp at e1
  obtain ⟨k1, c1, _, w1⟩ := DataW.trod_int he e1
  simp at c1
  have e2 := hel 2 (by omega)
  simp at e2
  obtain ⟨k2, c2, _, w2⟩ := DataW.trod_int he e2
  simp at c2
  have e3 := hel 3 (by omega)
  simp at e3
  obtain ⟨k3, c3, _, w3⟩ := DataW.trod_int he e3
  simp at c3
  have e4 := hel 4 (by omega)
  simp at e4
  obtain ⟨k4, c4, _, w4⟩ := DataW.trod_int he e4
  simp at c4
  have e5 := hel 5 (by omega)
  simp at e5
  obtain ⟨k5, c5, _, w5⟩ := DataW.trod_int he e5
  simp at c5
  have e6 := hel 6 (by omega)
  simp at e6
  obtain ⟨k6, c6, _, w6⟩ := DataW.trod_int he e6
  simp at c6
  have e7 := hel 7 (by omega)
  simp at e7
  obtain ⟨k7, c7, _, w7⟩ := DataW.trod_int he e7
  simp at c7
  have e8 := hel 8 (by omega)
  simp at e8
  obtain ⟨k8, c8, _, w8⟩ := DataW.trod_int he e8
  simp at c8
  have e9 := hel 9 (by omega)
  simp at e9
  obtain ⟨k9, c9, _, w9⟩ := DataW.trod_int he e9
  simp at c9
  have e10 := hel 10 (by omega)
  simp at e10
  obtain ⟨k10, c10, _, w10⟩ := DataW.trod_int he e10
  simp at c10
  have e11 := hel 11 (by omega)
  simp at e11
  obtain ⟨k11, c11, _, w11⟩ := DataW.trod_int he e11
  simp at c11
  have e12 := hel 12 (by omega)
  simp at e12
  obtain ⟨k12, c12, _, w12⟩ := DataW.trod_int he e12
  simp at c12
  have e13 := hel 13 (by omega)
  simp at e13
  obtain ⟨k13, c13, _, w13⟩ := DataW.trod_int he e13
  simp at c13
  have e14 := hel 14 (by omega)
  simp at e14
  obtain ⟨k14, c14, _, w14⟩ := DataW.trod_int he e14
  simp at c14
  have e15 := hel 15 (by omega)
  simp at e15
  obtain ⟨k15, c15, _, w15⟩ := DataW.trod_int he e15
  simp at c15
  subst c0 c1 c2 c3 c4 c5 c6 c7 c8 c9 c10 c11 c12 c13 c14 c15
  refine ⟨[k0, k1, k2, k3, k4, k5, k6, k7, k8, k9, k10, k11, k12, k13, k14, k15], rfl, rfl, ?_⟩
  exact Byt.cons (bounds_u8 w0) (Byt.cons (bounds_u8 w1) (Byt.cons (bounds_u8 w2) (Byt.cons (bounds_u8 w3) (Byt.cons (bounds_u8 w4) (Byt.cons (bounds_u8 w5) (Byt.cons (bounds_u8 w6) (Byt.cons (bounds_u8 w7) (Byt.cons (bounds_u8 w8) (Byt.cons (bounds_u8 w9) (Byt.cons (bounds_u8 w10) (Byt.cons (bounds_u8 w11) (Byt.cons (bounds_u8 w12) (Byt.cons (bounds_u8 w13) (Byt.cons (bounds_u8 w14) (Byt.cons (bounds_u8 w15) (Byt.nil))))))))))))))))
theorem open_key {t e : TypeId} (ht : P.underlying t = some (.array 16 e)) (he : P.underlying e = some (.int .u8)) (hc : P.cellsOf t = 16) (hce : P.cellsOf e = 1)
    {r : Reach} {b0 : Nat} {v : Value} {d : DataW H} {p : List MemPlace} (hv : Value.okWide P W r b0 t v) (h : DataW.Trod enc P W 0 (fun _ => true) true t v d p) :
    ∃ k : List Int, v = kv k ∧ Key k := by
  obtain ⟨cs, rfl, hsz, _⟩ : ∃ cs, v = .agg cs ∧ cs.size = P.cellsOf t ∧ Row.okWide P W r b0 t cs := by simpa [Value.okWide, ht] using hv
  rw [hc] at hsz
  obtain ⟨l⟩ := cs
  obtain ⟨x0, x1, x2, x3, x4, x5, x6, x7, x8, x9, x10, x11, x12, x13, x14, x15, rfl⟩ := list16 l hsz
  obtain ⟨fuel, hf⟩ := h
  obtain ⟨k, hk, hK⟩ := trod_key ht he hce (z := (d, p)) (by simpa [Value.cells] using hf)
  exact ⟨k, by rw [hk]; rfl, hK⟩

end

/-- Arrays of bytes are compared one by one. -/
theorem eq_items (d : Nat) (a b : List Int) (w : World) : ∀ is : List Nat, (∀ j ∈ is, j < a.length ∧ j < b.length) → (Op.eqItems (d + 1) 5 1 (cel a).toArray (cel b).toArray is).run Try.prog w = .ok (is.all fun j => a[j]?.getD 0 == b[j]?.getD 0) w := by
  intro is
  induction is with
  | nil => intro _; simp [Op.eqItems]
  | cons j r ih =>
    intro h
    obtain ⟨ha, hb⟩ := h j (by simp)
    have ih := ih (fun i hi => h i (by simp [hi]))
    have pa : (part 5 (cel a).toArray (j * 1)).run Try.prog w = .ok (.int .u8 (a[j]?.getD 0)) w := by
      simp [part, isAgg, run_underlying Try.underlying5, cel, ha]
    have pb : (part 5 (cel b).toArray (j * 1)).run Try.prog w = .ok (.int .u8 (b[j]?.getD 0)) w := by
      simp [part, isAgg, run_underlying Try.underlying5, cel, hb]
    simp only [Op.eqItems, Sem.run_bind, pa, pb, Result.andThen_ok, run_equalIn_int w d 5 .u8 .u8 _ _ Try.underlying5, List.all_cons]
    cases he : (a[j]?.getD 0 == b[j]?.getD 0)
    · simp
    · simpa using ih
theorem all_eq (a b : List Int) (ha : a.length = 16) (hb : b.length = 16) : ((List.range 16).all fun j => a[j]?.getD 0 == b[j]?.getD 0) = (a == b) := by
  rw [Bool.eq_iff_iff, List.all_eq_true, beq_iff_eq]
  constructor
  · intro h
    apply List.ext_getElem?
    intro j
    rcases Nat.lt_or_ge j 16 with hj | hj
    · have := h j (List.mem_range.2 hj)
      rw [beq_iff_eq, List.getElem?_eq_getElem (by omega), List.getElem?_eq_getElem (by omega)] at this
      rw [List.getElem?_eq_getElem (by omega), List.getElem?_eq_getElem (by omega)]
      simpa using this
    · rw [List.getElem?_eq_none (by omega), List.getElem?_eq_none (by omega)]
  · rintro rfl j _
    simp
theorem key_eq (a b : List Int) (w : World) (ha : a.length = 16) (hb : b.length = 16) : (Op.equalIn 10000 66 (kv a) (kv b)).run Try.prog w = .ok (a == b) w := by
  obtain ⟨i, hi, -, -, -⟩ := info_parts info5
  rw [show (10000 : Nat) = 9999 + 1 from rfl]
  unfold kv
  rw [run_equalIn_array w 9999 _ _ Try.underlying66 hi]
  have hc : Try.prog.cellsOf 5 = 1 := by kernel_rfl
  rw [hc]
  have := eq_items 9998 a b w (List.range 16) (fun j hj => by have := List.mem_range.1 hj; omega)
  rw [all_eq a b ha hb] at this
  exact this

end Go.Proofs.Ytondjponengedaa
