/-
  What each law asks first: a machine that becomes master.
-/
import Derived.Test.YtpcdaidgijkkbaaVnew
namespace Go.Proofs.Ytpcdaidgijkkbaa
open Go.RowKit Go.Maps
set_option linter.unusedVariables false
set_option linter.unusedSimpArgs false
set_option maxRecDepth 40000

/-- A timer that runs. -/
theorem ticks_wait : ∀ (k : Nat) (m : Mc), m.st ≠ 1 → (k : Int) < m.wt → ticksM k m = { m with wt := m.wt - k }
  | 0, m, h, hk => by simp [ticksM]
  | k + 1, m, h, hk => by
    have h1 : tickM m = { m with wt := m.wt - 1 } := by unfold tickM; rw [if_neg h, if_pos (by omega)]
    rw [ticksM, h1, ticks_wait k { m with wt := m.wt - 1 } h (by show (k : Int) < m.wt - 1; omega)]
    congr 1
    show m.wt - 1 - (k : Int) = m.wt - ((k + 1 : Nat) : Int)
    omega
/-- .. and then stands. -/
theorem ticks_lead (m : Mc) (h : m.st = 2) (h1 : 1 ≤ m.wt) : ticksM m.wt.toNat m = leadM m := by
  obtain ⟨k, hk⟩ : ∃ k : Nat, m.wt.toNat = k + 1 := ⟨m.wt.toNat - 1, by omega⟩
  rw [hk, ticks_next, ticks_wait k m (by omega) (by omega)]
  unfold tickM
  rw [if_neg (by show ¬ m.st = 1; omega), if_neg (by show ¬ 0 < m.wt - (k : Int) - 1; omega), if_pos (by show m.st = 2; exact h)]
  rfl
theorem ticks_say (m : Mc) (h : m.st = 3) (h1 : 1 ≤ m.wt) : ticksM m.wt.toNat m = sayM m m.c.pr := by
  obtain ⟨k, hk⟩ : ∃ k : Nat, m.wt.toNat = k + 1 := ⟨m.wt.toNat - 1, by omega⟩
  rw [hk, ticks_next, ticks_wait k m (by omega) (by omega)]
  unfold tickM
  rw [if_neg (by show ¬ m.st = 1; omega), if_neg (by show ¬ 0 < m.wt - (k : Int) - 1; omega), if_neg (by show ¬ m.st = 2; omega)]
  rfl

/-- An event of a row. -/
theorem erow_at {w : World} {base n g c : Nat} {l : List (Vt × Value)} (h : w.ownsRow base 58 5 (.slice (some ⟨g, 0, none⟩) n c) n (ecells l)) {i : Nat} (hi : i < n) : w.cell? ⟨g, i * 5, none⟩ = some (.int .i64 (l[i]!).1.kind) ∧ w.cell? ⟨g, i * 5 + 1, none⟩ = some (.int .i64 (l[i]!).1.id) ∧ w.cell? ⟨g, i * 5 + 2, none⟩ = some (.int .i64 (l[i]!).1.pr) ∧ w.cell? ⟨g, i * 5 + 3, none⟩ = some (.int .i64 (l[i]!).1.ev) ∧ w.cell? ⟨g, i * 5 + 4, none⟩ = some (l[i]!).2 := by
  have hl : l.length = n := by have := h.1; rw [ecells_len] at this; omega
  obtain ⟨h0, h1, h2, h3, h4⟩ := ecells_at l i (by omega)
  have hn := ecells_len l
  exact ⟨by rw [h.cellAt _ (by omega)]; exact h0, by rw [h.cellAt _ (by omega)]; exact h1, by rw [h.cellAt _ (by omega)]; exact h2, by rw [h.cellAt _ (by omega)]; exact h3, by rw [h.cellAt _ (by omega)]; exact h4⟩

theorem Mm.cells {base B : Nat} {w : World} {m : Mc} (h : Mm base w B m) : w.cell? ⟨B, 1, none⟩ = some (.int .i64 m.c.pr) ∧ w.cell? ⟨B, 6, none⟩ = some (.int .i64 m.st) ∧ w.cell? ⟨B, 7, none⟩ = some (.int .i64 m.pace) ∧ w.cell? ⟨B, 8, none⟩ = some (.int .i64 m.wt) := by
  obtain ⟨va, vo, l, h⟩ := h
  obtain ⟨c0, c1, c2, c3, c4, c5, c6, c7, c8, c9⟩ := h.cells
  exact ⟨c1, c6, c7, c8⟩

theorem MmS.lower {base base' B : Nat} {w : World} {m : Mc} {va vo : Value} {l : List (Vt × Value)} (h : MmS base w B m va vo l) (hb : base' ≤ base) : MmS base' w B m va vo l :=
  ⟨h.blk, h.adr.base hb, row_base h.row hb, fun x hx => (h.evs x hx).base hb, h.lst, Nat.le_trans hb h.lo, h.ok⟩
def cfA : Cf := ⟨7, 100, 100, true, ⟨#[10, 0, 0, 1]⟩, [⟨#[10, 0, 0, 100]⟩]⟩
def mA : Mc := { newM cfA with st := 2, wt := 360 }
theorem startA : startM (newM cfA) = mA := by
  have h1 : clamp 100 = 100 := by decide
  have h2 : skewI 100 100 = 60 := by decide
  simp [startM, followM, mA, newM, cfA, h1, h2]
theorem endA : ticksM 360 mA = leadM mA := ticks_lead mA rfl (by decide)

theorem OkM.ok0 : OkM mA := ⟨by decide, by decide, by decide, by decide, fun s hs => by simp [mA, newM, cfA] at hs; subst hs; decide, by decide, by decide, by decide, by decide⟩
theorem okT0 : OkT mA := ⟨fun e => by have e' : (2 : Int) = 1 := e; omega, fun _ => by show (1 : Int) ≤ 360; omega⟩
theorem two_of {l : List (Vt × Value)} {a b : Vt} (h : l.map Prod.fst = [a, b]) : ∃ x y, l = [x, y] ∧ x.1 = a ∧ y.1 = b := by
  rcases l with _ | ⟨x, _ | ⟨y, _ | ⟨z, r⟩⟩⟩
  · simp at h
  · simp at h
  · simp at h; exact ⟨x, y, rfl, h.1, h.2⟩
  · simp at h

def ARel (w : World) (B : Nat) (gg : Nat) (x : Value) (wr : World) : Prop :=
  ∃ i : Nat, i + gg = 360 ∧ x = .int .i64 (i : Int) ∧ Mm w.heap.size wr B (ticksM i mA) ∧ Below w.heap.size w wr

set_option maxHeartbeats 4000000 in
theorem alive_any (w : World) : Calls Try.prog 13 #[] w fun e w' => e = .returned (.bool true) ∧ Below w.heap.size w w' := by
  have hb0 : Below w.heap.size w (w.alloc (.cells #[.string ⟨#[10, 0, 0, 100]⟩] 22)) := below_alloc (Below.refl _ _) _
  have hS : Strs (w.alloc (.cells #[.string ⟨#[10, 0, 0, 100]⟩] 22)) (some ⟨w.heap.size, 0, none⟩) 1 1 [⟨#[10, 0, 0, 100]⟩] :=
    ⟨rfl, Nat.le_refl _, by simp [maxLen], fun s hs => by simp at hs; subst hs; decide, fun _ => ⟨_, _, rfl, fun j s hj => by
      rw [Nat.zero_add, (Cb.new w [.string ⟨#[10, 0, 0, 100]⟩] 22).cell j]
      match j, hj with
      | 0, hj => simp at hj; subst hj; rfl⟩⟩
  have HN := Lib.hid (new_ok (id := 7) (pr := 100) (ev := 100) (pre := true) (fr := ⟨#[10, 0, 0, 1]⟩) hS (by decide) (by decide) (by decide) (by decide))
  have HB0 := Lib.hid hb0
  clear hb0 hS
  go_enter Try.func13, Try.ntmps13
  go_wp2_with fail
  refine HN.out.mono ?_
  rintro e w1 ⟨B, va, rfl, hM1, hb1⟩
  have HB1 := Lib.hid (HB0.out.trans (hb1.mono HB0.out.size))
  have HM1 : Hid (Mm w.heap.size w1 B (newM cfA)) := Lib.hid (hM1.lower (by simp)).mm
  clear hM1 hb1
  go_wp2_with fail
  refine (start_any HM1.out (by decide)).mono ?_
  rintro e w2 ⟨rfl, hm2, hk2⟩
  rw [startA] at hm2
  have HB2 := Lib.hid (HB1.out.trans (hk2.below (Nat.le_refl _) HM1.out.lo HB1.out.size))
  have HM2 := Lib.hid hm2
  obtain ⟨-, c6, -, c8⟩ := hm2.cells
  have S2 := Lib.hid (state_any c6)
  have T2 := Lib.hid (wait_any c8)
  clear hm2 hk2 c6 c8 HM1 HB1
  go_wp2_with fail
  refine S2.out.mono ?_
  rintro e w' ⟨rfl, rfl⟩
  go_wp2_with fail
  refine T2.out.mono ?_
  rintro e w' ⟨rfl, rfl⟩
  go_wp2_with fail
  go_loopg [26] 360 (fun gg x wr => ARel w B gg x wr)
  case atStart => exact ⟨0, by omega, rfl, HM2.out, HB2.out⟩
  case round =>
    obtain ⟨i, hi, rfl, hm, hb⟩ := hrel
    by_cases hlt : i < 360
    · have e1 : decide ((i : Int) < 360) = true := decide_eq_true (by omega)
      have hout : (ticksM i mA).out.length ≤ 549755813888 := by have := out_ticks i mA; have : mA.out.length = 0 := rfl; omega
      have HMi := Lib.hid hm
      have HBi := Lib.hid hb
      have hTk := tick_any hm (OkT.ticks i OkM.ok0 okT0) hout
      have HTk := Lib.hid hTk
      clear hm hb hTk hout
      go_wp2_with fail
      refine HTk.out.mono ?_
      rintro e w3 ⟨rfl, hm3, hk3⟩
      go_wp2
      go_roundg (360 - (i + 1))
      case measure => omega
      case rel => exact ⟨i + 1, by omega, by simp, by rw [ticks_next]; exact hm3, HBi.out.trans (hk3.below (Nat.le_refl _) HMi.out.lo HBi.out.size)⟩
    · obtain rfl : i = 360 := by omega
      rw [endA] at hm
      have HBi := Lib.hid hb
      obtain ⟨va9, vo9, l9, hS9⟩ := hm
      have hlo := Lib.hid hS9.lo
      have HO := Lib.hid (out_any hS9)
      obtain ⟨x0, x1, rfl, h90, h91⟩ := two_of (hS9.lst.trans (show (leadM mA).out = [saysV cfA 100, claimV] from rfl))
      obtain ⟨g, c9, rfl, -, -⟩ := row_slice hS9.row (by simp)
      clear hb hS9
      go_wp2_with fail
      refine HO.out.mono ?_
      rintro e w4 ⟨rfl, hM4, hrow, -, hk4⟩
      have HB4 := Lib.hid (HBi.out.trans (hk4.below (Nat.le_refl _) hlo.out HBi.out.size))
      obtain ⟨r0, r1, r2, r3, r4⟩ := erow_at hrow (i := 0) (by simp)
      obtain ⟨t0, t1, t2, t3, t4⟩ := erow_at hrow (i := 1) (by simp)
      simp [h90, h91, saysV, claimV] at r0 r2 t0
      obtain ⟨-, c6, -, -⟩ := hM4.mm.cells
      have S4 := Lib.hid (state_any c6)
      have K4 := Lib.hid (skew_any 100 100 w4)
      clear hrow hk4 hM4 r1 r3 r4 t1 t2 t3 t4 c6
      go_wp2_with fail
      refine S4.out.mono ?_
      rintro e w' ⟨rfl, rfl⟩
      go_wp2_with fail
      refine K4.out.mono ?_
      rintro e w' ⟨rfl, rfl⟩
      go_wp2
      go_ret
      exact ⟨rfl, HB4.out⟩
end Go.Proofs.Ytpcdaidgijkkbaa
