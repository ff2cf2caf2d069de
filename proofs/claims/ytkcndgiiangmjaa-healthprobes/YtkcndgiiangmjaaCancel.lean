/-
  wheel.Cancel, wheel.Set.
-/
import Derived.Test.YtkcndgiiangmjaaLay
import Derived.Test.YtkcndgiiangmjaaLift
namespace Go.Proofs.Ytkcndgiiangmjaa
open Go.RowKit Go.Maps
set_option linter.unusedVariables false
set_option linter.unusedSimpArgs false
set_option maxRecDepth 10000

/-! ## The map is turned -/
theorem tight {w : World} {M n : Nat} {D : DataW Nat} (h : w.ownsMap Try.prog 3 (plainElem Try.prog 3) M n D) : w.ownsMap Try.prog 3 (plainElem Try.prog 3) M (Maps.size D) D := by
  obtain ⟨es, clock, hb, F, hs, rfl⟩ := h
  exact ⟨es, clock, hb, F, by simp [Maps.size, length_sorted], rfl⟩

theorem wout_len {t : Tm} {l : List Tm} (h : Fit l) (ht : t ∈ l) : (wout l t.id).length + 1 = l.length := by
  obtain ⟨h1, h2⟩ := wout_at h.srt h.nodup ht
  rw [h2]
  simp
  omega
theorem look_self {t : Tm} {l : List Tm} (h : Fit l) (ht : t ∈ l) : look l t.id = some t.at_ := by
  cases hl : look l (t.id : Int) with
  | none => exact absurd rfl (look_none hl t ht)
  | some a =>
    obtain ⟨u, hu, h1, h2⟩ := look_mem hl
    have := same_of_id h.nodup hu ht (by omega)
    subst this
    rw [h2]
theorem look_not {id : Nat} {l : List Tm} (h : ∀ x ∈ l, x.id ≠ id) : look l id = none := by
  cases hl : look l (id : Int) with
  | none => rfl
  | some a =>
    obtain ⟨u, hu, h1, h2⟩ := look_mem hl
    exact absurd (by omega) (h u hu)

theorem Tms.drop {w : World} {M : Nat} {T : List Tm} (h : Tms w M T) (hf : Fit T) {t : Tm} (ht : t ∈ T) (ty : TypeId) :
    ∃ w', (Builtin.delete_ #[82, 3] ty #[.map (some M), .int .i64 t.id]).run Try.prog w = .ok (.tuple #[]) w' ∧ Tms w' M (wout T t.id) ∧ w.grownBy w' (some M) := by
  have hid := (hf.wide t ht).1
  have hwf : (Lit.int .i64 (t.id : Int)).wf = true := wf_id (by omega)
  obtain ⟨D, h1, h2, h3⟩ := h
  obtain ⟨w', hr, h4, h5⟩ := h1.drop keyed3 Try.underlying82 (Maps.keyOf_int_mk Try.underlying3 hwf) ty
  have hhas : Maps.has D (.int .i64 (t.id : Int)) = true := by rw [(h3 _ hwf).1, look_self hf ht]; rfl
  have hsz := Maps.size_del (k := .int .i64 (t.id : Int)) (h1.tidy keyed3)
  rw [hhas, h2] at hsz
  simp at hsz
  have hlen := wout_len hf ht
  have hsz2 : Maps.size (D.del (.int .i64 (t.id : Int))) = (wout T t.id).length := by omega
  refine ⟨w', hr, ⟨_, by have := tight h4; rwa [hsz2] at this, hsz2, fun x hx => ?_⟩, h5.grown⟩
  rw [look_wout]
  by_cases e : (t.id : Int) = x
  · subst e
    rw [if_pos rfl, Maps.has_del_same, Maps.atKey_del_same]
    exact ⟨rfl, rfl⟩
  · have hne : (Lit.int .i64 x) ≠ .int .i64 (t.id : Int) := fun h => e (by injection h with _ h; exact h.symm)
    rw [if_neg e, Maps.has_del_other hne, Maps.atKey_del_other hne]
    exact h3 x hx

theorem Tms.store {w : World} {M : Nat} {T : List Tm} (h : Tms w M T) {t : Tm} (hn : ∀ x ∈ T, x.id ≠ t.id) (ht : t.id ≤ 65535 ∧ t.at_ ≤ 1099511627776) (hl : T.length ≤ 100000) :
    ∃ w', (Instr.mapUpdate 82 (.map (some M)) (.int .i64 t.id) (.int .i64 t.at_)).run Try.prog w = .ok () w' ∧ Tms w' M (ins t T) ∧ w.grownBy w' (some M) := by
  have hwf : (Lit.int .i64 (t.id : Int)).wf = true := wf_id (by omega)
  obtain ⟨D, h1, h2, h3⟩ := h
  obtain ⟨w', hr, h4, h5⟩ := h1.store keyed3 Try.underlying82 (by simp only [maxLen]; omega) (Maps.keyOf_int_mk Try.underlying3 hwf) (plainElem_int Try.underlying3 (a := (t.at_ : Int)) (wf_id (by omega)))
  have hhas : Maps.has D (.int .i64 (t.id : Int)) = false := by rw [(h3 _ hwf).1, look_not hn]; rfl
  have hsz := Maps.size_put (k := .int .i64 (t.id : Int)) (h1.tidy keyed3) (.lit (.int .i64 (t.at_ : Int)))
  rw [hhas, h2] at hsz
  simp at hsz
  have hsz2 : Maps.size (D.put (.int .i64 (t.id : Int)) (.lit (.int .i64 (t.at_ : Int)))) = (ins t T).length := by rw [hsz, ins_length]
  refine ⟨w', hr, ⟨_, by have := tight h4; rwa [hsz2] at this, hsz2, fun x hx => ?_⟩, h5.grown⟩
  rw [look_ins hn]
  have hkl : WideAt.IsKeyLit (.int .i64 (t.id : Int)) := by first | trivial | exact ⟨_, rfl⟩ | simp [WideAt.IsKeyLit]
  by_cases e : (t.id : Int) = x
  · subst e
    rw [if_pos rfl, Maps.has_put_same h1.isMap hkl, Maps.atKey_put_same h1.isMap hkl]
    exact ⟨rfl, rfl⟩
  · have hne : (Lit.int .i64 x) ≠ .int .i64 (t.id : Int) := fun h => e (by injection h with _ h; exact h.symm)
    rw [if_neg e, Maps.has_put_other hne, Maps.atKey_put_other hne]
    exact h3 x hx

theorem WhS.remap {w w' : World} {F : Nat → Prop} {B M now : Nat} {sl : Nat → Value} {L T T' : List Tm} (h : WhS w F B M sl now L T) (hg : w.grownBy w' (some M)) (hT : Tms w' M T') : WhS w' F B M sl now L T' ∧ Only F w w' := by
  have ho : Only (fun i => i = M) w w' := Only.of_grown hg fun i hi => by injection hi with hi; exact hi.symm
  refine ⟨⟨fun i hi => Nat.lt_of_lt_of_le (h.lt i hi) ho.size, h.inB, h.inM, h.ne, ?_, hT, fun k hk => row_only (h.row k hk) ho fun g hg => (h.own k hk g hg).2.2, h.own, h.apart⟩, ho.mono fun i hi => hi ▸ h.inM⟩
  obtain ⟨cur, h1, h2⟩ := h.obj
  exact ⟨cur, (ho.block B (h.lt B h.inB) h.ne).trans h1, h2⟩

/-! ## Cancel -/
def woutI (L : List Tm) (x : Int) : List Tm := L.filter fun t => (t.id : Int) != x
theorem woutI_nat (L : List Tm) (id : Nat) : woutI L id = wout L id := by
  unfold woutI wout
  congr 1
  funext t
  rw [Bool.eq_iff_iff, bne_iff_ne, bne_iff_ne]
  omega
theorem woutI_none {L : List Tm} {x : Int} (h : look L x = none) : woutI L x = L := List.filter_eq_self.2 fun t ht => by simpa using look_none h t ht
theorem Fit.woutI {L : List Tm} (h : Fit L) (x : Int) : Fit (woutI L x) := h.filter _
theorem woutI_len (L : List Tm) (x : Int) : (woutI L x).length ≤ L.length := List.length_filter_le _ _

set_option maxHeartbeats 1000000 in
theorem cancel_any {w : World} {F : Nat → Prop} {B now : Nat} {L : List Tm} {x : Int} (h : Wh w F B now L L) (hf : Fit L) (hn : now ≤ 1099511627776) (hx : -9223372036854775808 ≤ x ∧ x ≤ 9223372036854775807) (hlen : L.length ≤ 1000) :
    Calls Try.prog 35 #[.pointer (some ⟨B, 0, none⟩), .int .i64 x] w fun e w' => e = .returned (.bool (look L x).isSome) ∧ ∃ F', Wh w' F' B now (woutI L x) (woutI L x) ∧ (∀ i, F' i → F i ∨ w.heap.size ≤ i) ∧ Only F w w' := by
  obtain ⟨M, sl, h⟩ := h
  have c1 := h.cells.2.1
  have hl := h.map.look hx
  cases hlk : look L x with
  | none =>
    rw [hlk] at hl
    replace hl : (Instr.lookup 82 (.map (some M)) (.int .i64 x) true).run Try.prog w = .ok (.tuple #[.int .i64 0, .bool false]) w := hl
    have H := Lib.hid (And.intro h (woutI_none hlk))
    clear h hlk
    go_enter Try.func35, Try.ntmps35
    go_wp2
    go_ret
    exact ⟨rfl, F, by rw [H.out.2]; exact ⟨M, sl, H.out.1⟩, fun i hi => .inl hi, Only.refl _ _⟩
  | some a =>
    obtain ⟨t, ht, rfl, rfl⟩ := look_mem hlk
    rw [hlk] at hl
    try simp only [Option.getD_some, Option.isSome_some] at hl
    try simp only [Option.isSome_some]
    have hw := hf.wide t ht
    obtain ⟨w1, hd, hT1, hg1⟩ := h.map.drop hf ht 0
    obtain ⟨h1, ho1⟩ := h.remap hg1 hT1
    have HL := Lib.hid ((lift_any ⟨M, sl, h1⟩ hf hn hw.2 ht hlen))
    have HO := Lib.hid ho1
    rw [woutI_nat]
    obtain ⟨ti, ta⟩ := t
    simp only [tv] at HL hl hd ⊢
    clear h hlk h1 ho1 hg1 hT1 ht
    go_enter Try.func35, Try.ntmps35
    go_wp2_with (go_at_call 40; refine HL.out.mono ?_; rintro e w2 ⟨rfl, F', hW, hF', hO⟩; have HW := Lib.hid hW; have HF' := Lib.hid hF'; have HO2 := Lib.hid hO; clear hW hF' hO)
    go_ret
    refine ⟨rfl, F', HW.out, fun i hi => ?_, HO.out.trans HO2.out fun i hi => .inl hi⟩
    rcases HF'.out i hi with h | h
    · exact .inl h
    · exact .inr (Nat.le_trans HO.out.size h)

end Go.Proofs.Ytkcndgiiangmjaa
