/-
  What the small functions of vrrp do: Skew, Down, State, Wait, SetPriority, Out.
-/
import Derived.Test.YtpcdaidgijkkbaaVbase
namespace Go.Proofs.Ytpcdaidgijkkbaa
open Go.RowKit
set_option linter.unusedVariables false
set_option linter.unusedSimpArgs false
set_option maxRecDepth 40000

theorem tdiv_pos {a b : Int} (ha : 0 ≤ a) : a.tdiv b = a / b := Int.tdiv_eq_ediv_of_nonneg ha

set_option maxHeartbeats 1000000 in
/-- vrrp.Skew. -/
theorem skew_any (p e : Int) (w : World) : Calls Try.prog 24 #[.int .i64 p, .int .i64 e] w fun x w' => x = .returned (.int .i64 (skewI p e)) ∧ w = w' := by
  generalize hr : skewI p e = r
  have HR := Lib.hid hr
  clear hr
  by_cases h1 : p < 0
  · have e1 : decide (p < 0) = true := decide_eq_true h1
    have : r = 0 := by rw [← HR.out]; unfold skewI; rw [if_pos (.inl h1)]
    subst this
    go_enter Try.func24, Try.ntmps24
    go_wp2
    go_ret
    exact ⟨rfl, rfl⟩
  by_cases h2 : 255 < p
  · have e1 : decide (p < 0) = false := decide_eq_false h1
    have e2 : decide (255 < p) = true := decide_eq_true h2
    have e2' : decide (p > 255) = true := decide_eq_true h2
    have : r = 0 := by rw [← HR.out]; unfold skewI; rw [if_pos (.inr (.inl h2))]
    subst this
    go_enter Try.func24, Try.ntmps24
    go_wp2
    go_ret
    exact ⟨rfl, rfl⟩
  by_cases h3 : e < 1
  · have e1 : decide (p < 0) = false := decide_eq_false h1
    have e2 : decide (255 < p) = false := decide_eq_false h2
    have e2' : decide (p > 255) = false := decide_eq_false h2
    have e3 : decide (e < 1) = true := decide_eq_true h3
    have : r = 0 := by rw [← HR.out]; unfold skewI; rw [if_pos (.inr (.inr (.inl h3)))]
    subst this
    go_enter Try.func24, Try.ntmps24
    go_wp2
    go_ret
    exact ⟨rfl, rfl⟩
  by_cases h4 : 4095 < e
  · have e1 : decide (p < 0) = false := decide_eq_false h1
    have e2 : decide (255 < p) = false := decide_eq_false h2
    have e2' : decide (p > 255) = false := decide_eq_false h2
    have e3 : decide (e < 1) = false := decide_eq_false h3
    have e4 : decide (4095 < e) = true := decide_eq_true h4
    have e4' : decide (e > 4095) = true := decide_eq_true h4
    have : r = 0 := by rw [← HR.out]; unfold skewI; rw [if_pos (.inr (.inr (.inr h4)))]
    subst this
    go_enter Try.func24, Try.ntmps24
    go_wp2
    go_ret
    exact ⟨rfl, rfl⟩
  have HE : Hid (skewI p e = ((256 - p) * e).tdiv 256) := Lib.hid (by
    unfold skewI
    rw [if_neg (by omega), tdiv_pos (Int.mul_nonneg (by omega) (by omega))])
  have HV := HR.out.symm.trans HE.out
  obtain ⟨a, ha⟩ : ∃ a, 256 - p = a := ⟨_, rfl⟩
  obtain ⟨b, hb⟩ : ∃ b, a * e = b := ⟨_, rfl⟩
  have hb1 : 0 ≤ b ∧ b ≤ 1048576 := by
    have h5 : a * e ≤ 256 * e := Int.mul_le_mul_of_nonneg_right (by omega) (by omega)
    have h6 : 0 ≤ a * e := Int.mul_nonneg (by omega) (by omega)
    omega
  have w1 : wrap64 (256 - p) = a := by rw [ha]; unfold wrap64; omega
  have w2 : wrap64 (a * e) = b := by rw [hb]; unfold wrap64; omega
  have w3 : wrap64 (b.tdiv 256) = b.tdiv 256 := by rw [tdiv_pos hb1.1]; unfold wrap64; omega
  have H : Hid (wrap64 ((wrap64 ((256 - p) * e)).tdiv 256) = r) := Lib.hid (by rw [ha, w2, w3, HV, ha, hb])
  have e1 : decide (p < 0) = false := decide_eq_false h1
  have e2 : decide (255 < p) = false := decide_eq_false h2
  have e2' : decide (p > 255) = false := decide_eq_false h2
  have e3 : decide (e < 1) = false := decide_eq_false h3
  have e4 : decide (4095 < e) = false := decide_eq_false h4
  have e4' : decide (e > 4095) = false := decide_eq_false h4
  clear HV HE ha hb w1 w2 w3
  go_enter Try.func24, Try.ntmps24
  go_wp2
  go_ret
  exact ⟨ret_int H.out, rfl⟩

section
variable {B : Nat} {w : World} {pr pace : Int}
set_option maxHeartbeats 1000000 in
/-- Machine.skew. -/
theorem mskew_any (c1 : w.cell? ⟨B, 1, none⟩ = some (.int .i64 pr)) (c7 : w.cell? ⟨B, 7, none⟩ = some (.int .i64 pace)) : Calls Try.prog 39 #[.pointer (some ⟨B, 0, none⟩)] w fun x w' => x = .returned (.int .i64 (skewI pr pace)) ∧ ∃ q, w' = w.drewN q := by
  go_enter Try.func39, Try.ntmps39
  go_wp2
  go_quiet (first | (go_at_call 24; exact quiet_same (skew_any pr pace _)))
  go_wp2
  go_ret
  exact ⟨rfl, _, rfl⟩
set_option maxHeartbeats 1000000 in
/-- Machine.Down. -/
theorem down_any (hp : 1 ≤ pace ∧ pace ≤ 4095) (c1 : w.cell? ⟨B, 1, none⟩ = some (.int .i64 pr)) (c7 : w.cell? ⟨B, 7, none⟩ = some (.int .i64 pace)) : Calls Try.prog 18 #[.pointer (some ⟨B, 0, none⟩)] w fun x w' => x = .returned (.int .i64 (3 * pace + skewI pr pace)) ∧ ∃ q, w' = w.drewN q := by
  have HS : ∀ q, Hid (Calls Try.prog 39 #[.pointer (some ⟨B, 0, none⟩)] (w.drewN q) fun x w' => x = .returned (.int .i64 (skewI pr pace)) ∧ ∃ m, w' = w.drewN m) := fun q => Lib.hid ((mskew_any (w := w.drewN q) c1 c7).mono fun _ _ ⟨h1, m, h2⟩ => ⟨h1, q + m, by rw [h2]; exact World.drewN_drewN (w := w) (n := q) (m := m)⟩)
  have hb := skew_bd pr pace
  generalize skewI pr pace = s at *
  have hw : wrap64 (wrap64 (3 * pace) + s) = 3 * pace + s := by unfold wrap64; omega
  have H := Lib.hid hw
  clear hw hp hb
  go_enter Try.func18, Try.ntmps18
  go_wp2
  go_quiet (first | (go_at_call 39; exact (HS _).out))
  go_wp2
  go_ret
  exact ⟨ret_int H.out, _, rfl⟩
set_option maxHeartbeats 1000000 in
/-- Machine.State. -/
theorem state_any {st : Int} (c6 : w.cell? ⟨B, 6, none⟩ = some (.int .i64 st)) : Calls Try.prog 16 #[.pointer (some ⟨B, 0, none⟩)] w fun x w' => x = .returned (.int .i64 st) ∧ w = w' := by
  go_enter Try.func16, Try.ntmps16
  go_wp2
  go_ret
  exact ⟨rfl, rfl⟩
set_option maxHeartbeats 1000000 in
/-- Machine.Wait. -/
theorem wait_any {wt : Int} (c8 : w.cell? ⟨B, 8, none⟩ = some (.int .i64 wt)) : Calls Try.prog 17 #[.pointer (some ⟨B, 0, none⟩)] w fun x w' => x = .returned (.int .i64 wt) ∧ w = w' := by
  go_enter Try.func17, Try.ntmps17
  go_wp2
  go_ret
  exact ⟨rfl, rfl⟩
end

section
variable {base B : Nat} {w : World} {m : Mc} {va vo : Value} {l : List (Vt × Value)}
set_option maxHeartbeats 1000000 in
/-- Machine.SetPriority. -/
theorem setp_any (h : MmS base w B m va vo l) (n : Int) : Calls Try.prog 23 #[.pointer (some ⟨B, 0, none⟩), .int .i64 n] w fun x w' => x = .returned (.bool (decide (1 ≤ n ∧ n ≤ 255))) ∧ MmS base w' B (setM m n) va vo l ∧ Kp base B w w' := by
  have c1 := h.cells.2.1
  have f1 := h.blk.free 1
  have hlt := h.blk.lt
  by_cases h0 : n ≤ 0
  · have e0 : decide (n ≤ 0) = true := decide_eq_true h0
    have e1 : decide (1 ≤ n ∧ n ≤ 255) = false := decide_eq_false (by omega)
    have e2 : setM m n = m := by unfold setM; rw [if_neg (by omega)]
    rw [e1, e2]
    have H := Lib.hid h
    clear h e1 e2
    go_enter Try.func23, Try.ntmps23
    go_wp2
    go_ret
    exact ⟨rfl, H.out, Kp.refl _ _ _⟩
  by_cases h1 : 255 < n
  · have e0 : decide (n ≤ 0) = false := decide_eq_false h0
    have e3 : decide (255 < n) = true := decide_eq_true h1
    have e3' : decide (n > 255) = true := decide_eq_true h1
    have e1 : decide (1 ≤ n ∧ n ≤ 255) = false := decide_eq_false (by omega)
    have e2 : setM m n = m := by unfold setM; rw [if_neg (by omega)]
    rw [e1, e2]
    have H := Lib.hid h
    clear h e1 e2
    go_enter Try.func23, Try.ntmps23
    go_wp2
    go_ret
    exact ⟨rfl, H.out, Kp.refl _ _ _⟩
  have e0 : decide (n ≤ 0) = false := decide_eq_false h0
  have e3 : decide (255 < n) = false := decide_eq_false h1
  have e3' : decide (n > 255) = false := decide_eq_false h1
  have e1 : decide (1 ≤ n ∧ n ≤ 255) = true := decide_eq_true (by omega)
  have e2 : setM m n = { m with c := { m.c with pr := n } } := by unfold setM; rw [if_pos (by omega)]
  have HM : Hid (MmS base (w.setCell ⟨B, 1, none⟩ (.int .i64 n)) B (setM m n) va vo l ∧ Kp base B w (w.setCell ⟨B, 1, none⟩ (.int .i64 n))) := Lib.hid ⟨h.stored _ (by rw [e2]) (by rw [e2]) (h.ok.set n) ((Only.refl (fun i => i = B) w).setCell (p := ⟨B, 1, none⟩) (.inl rfl) _) (by rw [e2]; exact h.blk.setAt 1 _), (Kp.refl _ _ _).setCell 1 _⟩
  rw [e1]
  clear h e1 e2
  go_enter Try.func23, Try.ntmps23
  go_wp2
  go_ret
  exact ⟨rfl, HM.out⟩
set_option maxHeartbeats 1000000 in
/-- Machine.Out. -/
theorem out_any (h : MmS base w B m va vo l) : Calls Try.prog 22 #[.pointer (some ⟨B, 0, none⟩)] w fun x w' => x = .returned vo ∧ MmS base w' B (outM m) va (.slice none 0 0) [] ∧ w'.ownsRow base 58 5 vo l.length (ecells l) ∧ (∀ x ∈ l, Adr w' base x.2 x.1.ads) ∧ Kp base B w w' := by
  obtain ⟨a, c, rfl, _, _⟩ := row_any h.row
  have c9 := h.cells.2.2.2.2.2.2.2.2.2
  have f9 := h.blk.free 9
  have hlt := h.blk.lt
  have ho := (Only.refl (fun i => i = B) w).setCell (p := ⟨B, 9, none⟩) (.inl rfl) (.slice none 0 0)
  have HM : Hid (MmS base (w.setCell ⟨B, 9, none⟩ (.slice none 0 0)) B (outM m) va (.slice none 0 0) [] ∧ (w.setCell ⟨B, 9, none⟩ (.slice none 0 0)).ownsRow base 58 5 (.slice a l.length c) l.length (ecells l) ∧ (∀ x ∈ l, Adr (w.setCell ⟨B, 9, none⟩ (.slice none 0 0)) base x.2 x.1.ads) ∧ Kp base B w (w.setCell ⟨B, 9, none⟩ (.slice none 0 0))) :=
    Lib.hid ⟨⟨h.blk.setAt 9 _, row_only h.adr ho fun g hg e => h.not_blk h.adr (by decide) (e ▸ hg), World.ownsRow_nil _ _ _ _, fun x hx => by simp at hx, rfl, h.lo, h.ok.outed⟩, row_only h.row ho fun g hg e => h.not_blk h.row (by decide) (e ▸ hg), fun x hx => row_only (h.evs x hx) ho fun g hg e => h.not_blk (h.evs x hx) (by decide) (e ▸ hg), (Kp.refl _ _ _).setCell 9 _⟩
  clear h ho
  go_enter Try.func22, Try.ntmps22
  go_wp2
  go_ret
  exact ⟨rfl, HM.out⟩
end
end Go.Proofs.Ytpcdaidgijkkbaa
