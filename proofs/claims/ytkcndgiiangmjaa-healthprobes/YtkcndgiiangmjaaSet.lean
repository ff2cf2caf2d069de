/-
  wheel.Set.
-/
import Derived.Test.YtkcndgiiangmjaaCancel
namespace Go.Proofs.Ytkcndgiiangmjaa
open Go.RowKit Go.Maps
set_option linter.unusedVariables false
set_option linter.unusedSimpArgs false
set_option maxRecDepth 10000

def inR (x a : Int) : Bool := decide (0 ≤ x ∧ x ≤ 65535 ∧ 0 ≤ a ∧ a ≤ 1099511627776)
/-- What Set leaves. -/
def setL (L : List Tm) (x a : Int) : List Tm := if inR x a = true then ins ⟨x.toNat, a.toNat⟩ (woutI L x) else L

set_option maxHeartbeats 1000000 in
theorem set_no {w : World} {x a : Int} {B : Nat} (hr : ¬ (0 ≤ x ∧ x ≤ 65535 ∧ 0 ≤ a ∧ a ≤ 1099511627776)) :
    Calls Try.prog 31 #[.pointer (some ⟨B, 0, none⟩), .int .i64 x, .int .i64 a] w fun e w' => e = .returned (.bool false) ∧ ∃ q, w' = w.drewN q := by
  by_cases h1 : x < 0
  · clear hr
    go_enter Try.func31, Try.ntmps31
    go_wp2
    go_ret
    exact ⟨rfl, 0, rfl⟩
  · by_cases h2 : 65535 < x
    · clear hr
      go_enter Try.func31, Try.ntmps31
      go_wp2
      go_ret
      exact ⟨rfl, 0, rfl⟩
    · by_cases h3 : a < 0
      · clear hr
        go_enter Try.func31, Try.ntmps31
        go_wp2
        go_ret
        exact ⟨rfl, 0, rfl⟩
      · have h4 : 1099511627776 < a := by omega
        clear hr
        go_enter Try.func31, Try.ntmps31
        go_wp2
        go_ret
        exact ⟨rfl, 0, rfl⟩

theorem woutI_not {L : List Tm} {id : Nat} : ∀ t ∈ woutI L id, t.id ≠ id := fun t ht => by
  rw [woutI_nat] at ht
  exact wout_not t ht

set_option maxHeartbeats 1000000 in
theorem set_yes {w : World} {F : Nat → Prop} {B now id a : Nat} {L : List Tm} (h : Wh w F B now L L) (hf : Fit L) (hn : now ≤ 1099511627776) (hid : id ≤ 65535) (ha : a ≤ 1099511627776) (hlen : L.length ≤ 999) :
    Calls Try.prog 31 #[.pointer (some ⟨B, 0, none⟩), .int .i64 id, .int .i64 a] w fun e w' => e = .returned (.bool true) ∧ ∃ F', Wh w' F' B now (ins ⟨id, a⟩ (woutI L id)) (ins ⟨id, a⟩ (woutI L id)) ∧ (∀ i, F' i → F i ∨ w.heap.size ≤ i) ∧ Only F w w' := by
  have HC := Lib.hid (cancel_any (x := (id : Int)) h hf hn (by omega) (by omega))
  have HF := Lib.hid (hf.woutI id)
  have HLEN := Lib.hid (woutI_len L id)
  have hz1 : ¬ ((id : Int) < 0) := by omega
  have hz2 : ¬ ((id : Int) > 65535) := by omega
  have hz3 : ¬ ((a : Int) < 0) := by omega
  have hz4 : ¬ ((a : Int) > 1099511627776) := by omega
  clear h hf
  go_enter Try.func31, Try.ntmps31
  go_wp2_with fail
  refine HC.out.mono ?_
  rintro e w1 ⟨rfl, F1, ⟨M, sl, h1⟩, hF1, hO1⟩
  obtain ⟨w2, hst, hT2, hg2⟩ := h1.map.store (t := ⟨id, a⟩) woutI_not ⟨hid, ha⟩ (by have := HLEN.out; omega)
  have c1 := h1.cells.2.1
  obtain ⟨h2, hO2⟩ := h1.remap hg2 hT2
  have HL := Lib.hid (lay_any (t := ⟨id, a⟩) ⟨M, sl, h2⟩ HF.out hn ha woutI_not (by have := HLEN.out; omega))
  have HO := Lib.hid (And.intro hF1 (And.intro hO1 hO2))
  simp only [tv] at HL hst
  clear hF1 hO1 hO2 h1 h2 hT2 hg2
  go_wp2_with fail
  refine HL.out.mono ?_
  rintro e w3 ⟨rfl, F', hW, hF', hO⟩
  have HW := Lib.hid (And.intro hW (And.intro hF' hO))
  clear hW hF' hO
  go_wp2
  go_ret
  have hsz := HO.out.2.1.size
  have hsz2 := HO.out.2.2.size
  have hO12 : Only F w w2 := HO.out.2.1.trans HO.out.2.2 HO.out.1
  refine ⟨rfl, F', HW.out.1, fun i hi => ?_, hO12.trans HW.out.2.2 HO.out.1⟩
  rcases HW.out.2.1 i hi with h | h
  · exact HO.out.1 i h
  · exact .inr (by omega)

/-- Set of whatever numbers. -/
theorem set_any {w : World} {F : Nat → Prop} {B now : Nat} {L : List Tm} {x a : Int} (h : Wh w F B now L L) (hf : Fit L) (hn : now ≤ 1099511627776) (hlen : L.length ≤ 999) :
    Calls Try.prog 31 #[.pointer (some ⟨B, 0, none⟩), .int .i64 x, .int .i64 a] w fun e w' => e = .returned (.bool (inR x a)) ∧ ∃ F', Wh w' F' B now (setL L x a) (setL L x a) ∧ (∀ i, F' i → F i ∨ w.heap.size ≤ i) ∧ Only F w w' := by
  by_cases hr : 0 ≤ x ∧ x ≤ 65535 ∧ 0 ≤ a ∧ a ≤ 1099511627776
  · have e1 : inR x a = true := by unfold inR; exact decide_eq_true hr
    obtain ⟨id, rfl⟩ := Int.eq_ofNat_of_zero_le hr.1
    obtain ⟨at_, rfl⟩ := Int.eq_ofNat_of_zero_le hr.2.2.1
    have e2 : setL L (id : Int) (at_ : Int) = ins ⟨id, at_⟩ (woutI L id) := by unfold setL; rw [if_pos e1]; simp
    rw [e1, e2]
    exact set_yes h hf hn (by omega) (by omega) hlen
  · have e1 : inR x a = false := by unfold inR; exact decide_eq_false hr
    have e2 : setL L x a = L := by unfold setL; rw [e1]; simp
    rw [e1, e2]
    refine (set_no hr).mono ?_
    rintro e w' ⟨rfl, q, rfl⟩
    exact ⟨rfl, F, h.below (below_drewN (Below.refl _ _) _), fun i hi => .inl hi, (Only.refl _ _).drewN _⟩

theorem setL_fit {L : List Tm} (h : Fit L) (x a : Int) : Fit (setL L x a) := by
  unfold setL
  by_cases hr : inR x a = true
  · rw [if_pos hr]
    unfold inR at hr
    have hr := of_decide_eq_true hr
    obtain ⟨id, rfl⟩ := Int.eq_ofNat_of_zero_le hr.1
    exact (h.woutI _).ins (t := ⟨id, a.toNat⟩) woutI_not ⟨by simp only; omega, by simp only; omega⟩
  · rw [if_neg hr]; exact h
theorem setL_len (L : List Tm) (x a : Int) : (setL L x a).length ≤ L.length + 1 := by
  unfold setL
  split
  · rw [ins_length]; have := woutI_len L x; omega
  · omega

end Go.Proofs.Ytkcndgiiangmjaa
