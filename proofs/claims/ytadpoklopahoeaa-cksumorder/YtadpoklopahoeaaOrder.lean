/-
  CksumOrder: whatever sum and whatever two changes of numbers of sixteen bits it is given, the statement's function returns true, and nothing that was there is changed. No conditions.
-/
import Derived.Test.YtadpoklopahoeaaUpd
namespace Go.Proofs.Ytadpoklopahoeaa
open Go.ChangeShapes Go.WideShapes Go.ChangeAt Go.RowKit
set_option linter.unusedVariables false

theorem two_of {α : Type} (l : List α) (h : (⟨l⟩ : Array α).size = 2) : ∃ a b, l = [a, b] := by
  match l, h with
  | [a, b], _ => exact ⟨a, b, rfl⟩

theorem agg_two {P : Program} {W : World} {t e : TypeId} (ht : P.underlying t = some (.array 2 e)) (hc : P.cellsOf t = 2) {r : Reach} {b0 : Nat} {v : Value} (hv : Value.okWide P W r b0 t v) : ∃ x y, v = .agg #[x, y] := by
  obtain ⟨cs, rfl, hsz, _⟩ : ∃ cs, v = .agg cs ∧ cs.size = P.cellsOf t ∧ Row.okWide P W r b0 t cs := by simpa [Value.okWide, ht] using hv
  rw [hc] at hsz
  obtain ⟨l⟩ := cs
  obtain ⟨a, b, rfl⟩ := two_of l hsz
  exact ⟨a, b, rfl⟩

theorem trod_two {H : Type} {enc : TypeId × Value → H} {P : Program} {W : World} {t e : TypeId} {fuel : Nat} {x y : Value} {z : DataW H × List MemPlace} (ht : P.underlying t = some (.array 2 e)) (hce : P.cellsOf e = 1)
    (h : DataW.trod enc P W 0 (fun _ => true) true fuel t [x, y] = some z) :
    ∃ y0 y1 n, z = (.agg [y0.1, y1.1], y0.2 ++ y1.2) ∧ DataW.trod enc P W 0 (fun _ => true) true n e [x] = some y0 ∧ DataW.trod enc P W 0 (fun _ => true) true n e [y] = some y1 := by
  obtain ⟨xs, m, _, rfl, _, hl, hel⟩ := DataW.trod_array ht h
  rw [hce] at hel
  have e0 := hel 0 (by omega)
  have e1 := hel 1 (by omega)
  match xs, hl with
  | [p, q], _ =>
    simp at e0 e1
    exact ⟨p, q, m, by simp, e0, e1⟩

theorem open_two_ints {H : Type} {enc : TypeId × Value → H} {P : Program} {W : World} {t e : TypeId} {k : IntKind} (ht : P.underlying t = some (.array 2 e)) (he : P.underlying e = some (.int k)) (hc : P.cellsOf t = 2) (hce : P.cellsOf e = 1)
    {r : Reach} {b0 : Nat} {v : Value} {d : DataW H} {p : List MemPlace} (hv : Value.okWide P W r b0 t v) (h : DataW.Trod enc P W 0 (fun _ => true) true t v d p) :
    ∃ x y, v = .agg #[.int k x, .int k y] ∧ (Lit.int k x).wf = true ∧ (Lit.int k y).wf = true := by
  obtain ⟨x, y, rfl⟩ := agg_two ht hc hv
  obtain ⟨fuel, hf⟩ := h
  obtain ⟨y0, y1, n, _, h0, h1⟩ := trod_two ht hce (by simpa [Value.cells] using hf)
  obtain ⟨a, ea, _, wa⟩ := DataW.trod_int he h0
  obtain ⟨b, eb, _, wb⟩ := DataW.trod_int he h1
  simp at ea eb
  subst ea eb
  exact ⟨a, b, rfl, wa, wb⟩

set_option maxHeartbeats 400000 in
theorem order_walk (s x0 x1 y0 y1 : Int) (w : World) (w0 : (Lit.int .u16 s).wf = true) (w1 : (Lit.int .u16 x0).wf = true) (w2 : (Lit.int .u16 x1).wf = true) (w3 : (Lit.int .u16 y0).wf = true) (w4 : (Lit.int .u16 y1).wf = true) :
    Calls Try.prog 12 #[.int .u16 s, .agg #[.int .u16 x0, .int .u16 x1], .agg #[.int .u16 y0, .int .u16 y1]] w fun e w' => e = .returned (.bool true) ∧ Below w.heap.size w w' := by
  have hs := bounds_u16 w0
  have hx0 := bounds_u16 w1
  have hx1 := bounds_u16 w2
  have hy0 := bounds_u16 w3
  have hy1 := bounds_u16 w4
  have b1 := upd_bd s x0 x1
  have b2 := upd_bd (upd s x0 x1) y0 y1
  have b3 := upd_bd s y0 y1
  have b4 := upd_bd (upd s y0 y1) x0 x1
  have m1 := Lib.hid (show upd (upd s x0 x1) y0 y1 % 65535 = upd (upd s y0 y1) x0 x1 % 65535 by rw [upd_mod, upd_mod]; have := upd_mod s x0 x1; have := upd_mod s y0 y1; omega)
  clear w0 w1 w2 w3 w4
  go_enter Try.func12, Try.ntmps12
  go_wp2_with fail
  go_quiet ((go_at_call 18; exact quiet_left (upd_c _ _ _ _ (by assumption) (by assumption) (by assumption))))
  go_wp2_with fail
  go_quiet ((go_at_call 18; exact quiet_add_left (upd_c _ _ _ _ (by assumption) (by assumption) (by assumption))))
  go_wp2_with fail
  refine (alive_any _).mono ?_
  rintro e w1 ⟨rfl, hbel⟩
  go_wp2_with fail
  refine (same_yes _ _ _ b2 b4 m1.out).mono ?_
  rintro e w1 ⟨rfl, rfl⟩
  go_wp2
  go_ret
  refine ⟨rfl, Below.trans (below_drewN (((Below.refl _ _).alloc (Nat.le_refl _) _).alloc (by simp) _) _) (hbel.mono (by simp; omega))⟩

set_option maxRecDepth 100000 in
theorem cksumOrder_lifted (os : Os) (started : os.Started) (H : Type) (enc : TypeId × Value → H) :
    ReturnsInHanded {} Try.checked os 12 .any (Rows.cksumOrderSpec.pre6 enc Try.prog Try.f12 Rows.cksumOrderRow.domain false) (Rows.cksumOrderSpec.post enc Try.prog Try.f12 false true false false) := by
  refine returnsInHanded_of_change_sized (C := Try.checked) own started (by kernel_rfl) Try.func12
    (ChangeSpec.witness6 (enc := enc) (C := Try.checked) false ⟨#[], #[.int .u16 0, .agg #[.int .u16 0, .int .u16 0], .agg #[.int .u16 0, .int .u16 0]], []⟩ 8 (by kernel_rfl) (by kernel_rfl) (by kernel_rfl) (by kernel_rfl)) ?_
  intro W base args ds gs before hval0 hW hcnd hsz0 _
  have hsz : (DataW.weightsEach Try.prog (Try.f12.params.toList ++ Rows.cksumOrderSpec.plain.varTypes Try.prog) (ds ++ gs)).all (· ≤ reachBytes) = true := hsz0
  have hval : ∀ (j : Nat) t v, Try.f12.params[j]? = some t → args[j]? = some v → Value.okWide Try.prog W .any base t v := hval0
  have hW' := hW
  obtain ⟨p, q, hA0, hV, rfl, hfz, hnd⟩ := hW
  have hA : DataW.TrodAll enc Try.prog W 0 (fun _ => true) true Try.f12.params.toList args.toList ds p := hA0
  rw [Try.params12] at hA hval hsz
  obtain ⟨v0, vs0, d0, ds0, p0, q0, hargs, rfl, rfl, h0, r0⟩ := trodAll_cons hA
  obtain ⟨v1, vs1, d1, ds1, p1, q1, rfl, rfl, rfl, h1, r1⟩ := trodAll_cons r0
  obtain ⟨v2, vs2, d2, ds2, p2, q2, rfl, rfl, rfl, h2, r2⟩ := trodAll_cons r1
  obtain ⟨rfl, rfl, rfl⟩ := trodAll_nil r2
  obtain rfl : args = #[v0, v1, v2] := by cases args; simp_all
  obtain ⟨rfl, rfl⟩ := trodVars_none hV
  clear hA0 hval0
  have k0 := h0
  have lt0 : ∀ x ∈ p0, x.block < W.heap.size := by obtain ⟨m, hm⟩ := k0; exact DataW.trod_lt m _ _ _ hm
  obtain ⟨a0, rfl, e0, e0', w0⟩ := open_int Try.underlying25 (hval 0 25 v0 rfl rfl) h0
  have k1 := h1
  have lt1 : ∀ x ∈ p1, x.block < W.heap.size := by obtain ⟨m, hm⟩ := k1; exact DataW.trod_lt m _ _ _ hm
  obtain ⟨x1, y1, rfl, wx1, wy1⟩ := open_two_ints Try.underlying45 Try.underlying25 (by kernel_rfl) (by kernel_rfl) (hval 1 45 v1 rfl rfl) h1
  have k2 := h2
  have lt2 : ∀ x ∈ p2, x.block < W.heap.size := by obtain ⟨m, hm⟩ := k2; exact DataW.trod_lt m _ _ _ hm
  obtain ⟨x2, y2, rfl, wx2, wy2⟩ := open_two_ints Try.underlying45 Try.underlying25 (by kernel_rfl) (by kernel_rfl) (hval 2 45 v2 rfl rfl) h2
  refine (order_walk a0 x1 y1 x2 y2 W w0 wx1 wy1 wx2 wy2).mono fun e W' ⟨he, bel⟩ => ?_
  subst he
  exact ⟨_, rfl, _, _, _, [], _, [], hW', trodAll_mk1 (shut_bool Try.underlying4 _), (trodAll_cons_mk (Below.trod laidOut (by kernel_rfl) (of_decide_eq_true (by kernel_rfl)) k0 bel lt0) (trodAll_cons_mk (Below.trod laidOut (by kernel_rfl) (of_decide_eq_true (by kernel_rfl)) k1 bel lt1) (trodAll_cons_mk (Below.trod laidOut (by kernel_rfl) (of_decide_eq_true (by kernel_rfl)) k2 bel lt2) trodAll_mk0))), rfl, bel.frame _, fun h => by cases h⟩

/-- The statement. -/
theorem cksumOrder_holds : Rows.CksumOrderSaid :=
  OpenClaim.holds_of_wide 12 Try.f12 rfl rfl rfl rfl rfl rfl rfl ⟨rfl, rfl, rfl, rfl, rfl⟩ rfl rfl rfl rfl rfl (by kernel_rfl) Try.func12 (by kernel_rfl)
    (of_decide_eq_true (by kernel_rfl)) (by unfold Func.isWrapper; first | (rw [if_pos (by decide +kernel)]; kernel_rfl) | (rw [if_neg (by decide +kernel)]; exact ⟨rfl, rfl⟩))
    (fun os started H enc _ => cksumOrder_lifted os started H enc)
#print axioms cksumOrder_holds

end Go.Proofs.Ytadpoklopahoeaa
