/-
  What VrrpSends does.
-/
import Derived.Test.YtpcdaidgijkkbaaVlaw
namespace Go.Proofs.Ytpcdaidgijkkbaa
open Go.RowKit Go.Maps
set_option linter.unusedVariables false
set_option linter.unusedSimpArgs false
set_option maxRecDepth 40000
attribute [local go_sem ↓] bigS58


theorem step_mod {i e : Int} (he : 1 ≤ e) (hi : 0 ≤ i) : (i % e + 1 < e → (i + 1) % e = i % e + 1 ∧ (i + 1) / e = i / e) ∧ (¬ i % e + 1 < e → (i + 1) % e = 0 ∧ (i + 1) / e = i / e + 1) := by
  have h1 := Int.emod_add_mul_ediv i e
  have h2 := Int.emod_nonneg i (b := e) (by omega)
  have h3 := Int.emod_lt_of_pos i (b := e) (by omega)
  refine ⟨fun h => ?_, fun h => ?_⟩
  · have := (Int.ediv_emod_unique (a := i + 1) (b := e) (q := i / e) (r := i % e + 1) (by omega)).2 ⟨by omega, by omega, h⟩
    exact ⟨this.2, this.1⟩
  · have hr : i % e = e - 1 := by omega
    have := (Int.ediv_emod_unique (a := i + 1) (b := e) (q := i / e + 1) (r := 0) (by omega)).2 ⟨by rw [Int.mul_add]; omega, by omega, by omega⟩
    exact ⟨this.2, this.1⟩

/-- A master at its i-th tick. -/
structure AtI (f : Cf) (i : Nat) (m : Mc) : Prop where
  st : m.st = 3
  cf : m.c = f
  wt : m.wt = f.ev - (i : Int) % f.ev
theorem AtI.tick {f : Cf} {i : Nat} {m : Mc} (h : AtI f i m) (ho : m.out = []) (he : 1 ≤ f.ev) : AtI f (i + 1) (tickM m) ∧ ((tickM m).out.length : Int) = ((i + 1 : Nat) : Int) / f.ev - (i : Int) / f.ev ∧ ∀ x ∈ (tickM m).out, x = saysV f f.pr := by
  obtain ⟨s1, s2⟩ := step_mod (i := (i : Int)) he (by omega)
  have h2 := Int.emod_nonneg (i : Int) (b := f.ev) (by omega)
  have h3 := Int.emod_lt_of_pos (i : Int) (b := f.ev) (by omega)
  have hcast : ((i + 1 : Nat) : Int) = (i : Int) + 1 := by omega
  have hw := h.wt
  by_cases hlt : (i : Int) % f.ev + 1 < f.ev
  · obtain ⟨e1, e2⟩ := s1 hlt
    have ht : tickM m = { m with wt := m.wt - 1 } := by unfold tickM; rw [if_neg (by rw [h.st]; omega), if_pos (by omega)]
    rw [ht]
    refine ⟨⟨h.st, h.cf, ?_⟩, ?_, ?_⟩
    · show m.wt - 1 = _; rw [hcast, e1]; omega
    · show ((m.out.length : Nat) : Int) = _; rw [ho, hcast, e2]; simp
    · intro x hx; have hx' : x ∈ m.out := hx; rw [ho] at hx'; simp at hx'
  · obtain ⟨e1, e2⟩ := s2 hlt
    have ht : tickM m = sayM { m with wt := m.wt - 1 } m.c.pr := by unfold tickM; rw [if_neg (by rw [h.st]; omega), if_neg (by omega), if_neg (by rw [h.st]; omega)]
    rw [ht]
    refine ⟨⟨h.st, h.cf, ?_⟩, ?_, ?_⟩
    · show m.c.ev = _; rw [hcast, e1, h.cf]; omega
    · show (((m.out ++ [saysV m.c m.c.pr]).length : Nat) : Int) = _; rw [ho, hcast, e2]; simp; omega
    · intro x hx
      have hx' : x ∈ m.out ++ [saysV m.c m.c.pr] := hx
      rw [ho, h.cf] at hx'
      simpa using hx'

def SnRel (X : World) (b B : Nat) (f : Cf) (n : Nat) (gg : Nat) (x7 x36 : Value) (wr : World) : Prop :=
  ∃ (i : Nat) (m : Mc), i + gg = n ∧ x36 = .int .i64 (i : Int) ∧ x7 = .int .i64 ((i : Int) / f.ev) ∧ Mm b wr B m ∧ OkT m ∧ AtI f i m ∧ m.out = [] ∧ Below b X wr
def SnIn (W : World) (M : Int) (n : Nat) (gg : Nat) (x7 x43 : Value) (wr : World) : Prop :=
  ∃ k : Nat, k + gg = n ∧ x43 = .int .i64 (k : Int) ∧ x7 = .int .i64 (M + (k : Int)) ∧ Below W.heap.size W wr

theorem box58 (W : World) (x0 x1 x2 x3 : Int) (A : Option Addr) (n c : Nat) :
    ∃ W', (bigS 58 ⟨W.heap.size, 0, none⟩ (.agg #[.int .i64 x0, .int .i64 x1, .int .i64 x2, .int .i64 x3, .slice A n c])).run Try.prog (W.alloc (.cells #[.int .i64 0, .int .i64 0, .int .i64 0, .int .i64 0, .slice none 0 0] 58)) = .ok () W' ∧ Cb W' W.heap.size 58 [.int .i64 x0, .int .i64 x1, .int .i64 x2, .int .i64 x3, .slice A n c] ∧ Below W.heap.size W W' := by
  obtain ⟨W', h3, h4, h5⟩ := store58 (Cb.new W [.int .i64 0, .int .i64 0, .int .i64 0, .int .i64 0, .slice none 0 0] 58) rfl x0 x1 x2 x3 (.slice A n c) rfl
  exact ⟨W', h3, h4, only_below (below_alloc (Below.refl _ _) _) h5 (Nat.le_refl _)⟩

set_option maxHeartbeats 2000000 in
theorem sends_no (f : Cf) (A : Option Addr) (n c : Nat) (tk : Int) (w : World) (hS : Strs w A n c f.ads) (hb : f.fr.size ≤ 140737488351232 ∧ n ≤ 8796093022208) (wa : (Lit.int .i64 f.id).wf = true) (wb : (Lit.int .i64 f.pr).wf = true) (wc : (Lit.int .i64 f.ev).wf = true) (wt : (Lit.int .i64 tk).wf = true) (hok : okN ({ f with pr := 255 } : Cf) = false) : Calls Try.prog 6 #[.agg #[.int .i64 f.id, .int .i64 f.pr, .int .i64 f.ev, .bool f.pre, .string f.fr, .slice A n c], .int .i64 tk] w fun e w' => e = .returned (.bool true) ∧ Below w.heap.size w w' := by
  have HB0 : Hid (Below w.heap.size w (w.alloc (.cells #[.int .i64 f.id, .int .i64 255, .int .i64 f.ev, .bool f.pre, .string f.fr, .slice A n c] 25))) := Lib.hid (below_alloc (Below.refl _ _) _)
  have HN := Lib.hid (new_none (f := ({ f with pr := 255 } : Cf)) (hS.below HB0.out) hb hok)
  clear hS hb wa wb wc wt hok
  go_enter Try.func6, Try.ntmps6
  go_wp2_with fail
  refine HN.out.mono ?_
  rintro e w1 ⟨rfl, hb1⟩
  have HB1 := Lib.hid (below_then HB0.out HB0.out.size hb1)
  clear hb1
  go_wp2_with fail
  refine (alive_any _).mono ?_
  rintro e w9 ⟨rfl, hb9⟩
  go_wp2
  go_ret
  exact ⟨rfl, below_then HB1.out HB1.out.size hb9⟩

set_option maxHeartbeats 2000000 in
theorem sends_neg (f : Cf) (A : Option Addr) (n c : Nat) (tk : Int) (w : World) (hS : Strs w A n c f.ads) (hb : f.fr.size ≤ 140737488351232 ∧ n ≤ 8796093022208) (wa : (Lit.int .i64 f.id).wf = true) (wb : (Lit.int .i64 f.pr).wf = true) (wc : (Lit.int .i64 f.ev).wf = true) (wt : (Lit.int .i64 tk).wf = true) (hok : okN ({ f with pr := 255 } : Cf) = true) (hl : tk < 0) : Calls Try.prog 6 #[.agg #[.int .i64 f.id, .int .i64 f.pr, .int .i64 f.ev, .bool f.pre, .string f.fr, .slice A n c], .int .i64 tk] w fun e w' => e = .returned (.bool true) ∧ Below w.heap.size w w' := by
  have HB0 : Hid (Below w.heap.size w (w.alloc (.cells #[.int .i64 f.id, .int .i64 255, .int .i64 f.ev, .bool f.pre, .string f.fr, .slice A n c] 25))) := Lib.hid (below_alloc (Below.refl _ _) _)
  have HN := Lib.hid (new_some (f := ({ f with pr := 255 } : Cf)) (hS.below HB0.out) hb hok)
  have e1 : decide (tk < 0) = true := decide_eq_true hl
  clear hS hb wa wb wc wt hok hl
  go_enter Try.func6, Try.ntmps6
  go_wp2_with fail
  refine HN.out.mono ?_
  rintro e w1 ⟨B, va, rfl, hM1, hb1⟩
  have HB1 := Lib.hid (below_then HB0.out HB0.out.size hb1)
  clear hb1 hM1
  go_wp2_with fail
  refine (alive_any _).mono ?_
  rintro e w9 ⟨rfl, hb9⟩
  go_wp2
  go_ret
  exact ⟨rfl, below_then HB1.out HB1.out.size hb9⟩

set_option maxHeartbeats 2000000 in
theorem sends_far (f : Cf) (A : Option Addr) (n c : Nat) (tk : Int) (w : World) (hS : Strs w A n c f.ads) (hb : f.fr.size ≤ 140737488351232 ∧ n ≤ 8796093022208) (wa : (Lit.int .i64 f.id).wf = true) (wb : (Lit.int .i64 f.pr).wf = true) (wc : (Lit.int .i64 f.ev).wf = true) (wt : (Lit.int .i64 tk).wf = true) (hok : okN ({ f with pr := 255 } : Cf) = true) (hl : 5000 < tk) : Calls Try.prog 6 #[.agg #[.int .i64 f.id, .int .i64 f.pr, .int .i64 f.ev, .bool f.pre, .string f.fr, .slice A n c], .int .i64 tk] w fun e w' => e = .returned (.bool true) ∧ Below w.heap.size w w' := by
  have HB0 : Hid (Below w.heap.size w (w.alloc (.cells #[.int .i64 f.id, .int .i64 255, .int .i64 f.ev, .bool f.pre, .string f.fr, .slice A n c] 25))) := Lib.hid (below_alloc (Below.refl _ _) _)
  have HN := Lib.hid (new_some (f := ({ f with pr := 255 } : Cf)) (hS.below HB0.out) hb hok)
  have e1 : decide (tk < 0) = false := decide_eq_false (by omega)
  have e2 : decide (5000 < tk) = true := decide_eq_true (by omega)
  have e2' : decide (tk > 5000) = true := decide_eq_true (by omega)
  clear hS hb wa wb wc wt hok hl
  go_enter Try.func6, Try.ntmps6
  go_wp2_with fail
  refine HN.out.mono ?_
  rintro e w1 ⟨B, va, rfl, hM1, hb1⟩
  have HB1 := Lib.hid (below_then HB0.out HB0.out.size hb1)
  clear hb1 hM1
  go_wp2_with fail
  refine (alive_any _).mono ?_
  rintro e w9 ⟨rfl, hb9⟩
  go_wp2
  go_ret
  exact ⟨rfl, below_then HB1.out HB1.out.size hb9⟩

set_option maxHeartbeats 4000000 in
theorem sends_run (f : Cf) (A : Option Addr) (n c : Nat) (tk : Int) (w : World) (hS : Strs w A n c f.ads) (hb : f.fr.size ≤ 140737488351232 ∧ n ≤ 8796093022208) (wa : (Lit.int .i64 f.id).wf = true) (wb : (Lit.int .i64 f.pr).wf = true) (wc : (Lit.int .i64 f.ev).wf = true) (wt : (Lit.int .i64 tk).wf = true) (hok : okN ({ f with pr := 255 } : Cf) = true) (h0 : ¬ tk < 0) (hl : ¬ 5000 < tk) : Calls Try.prog 6 #[.agg #[.int .i64 f.id, .int .i64 f.pr, .int .i64 f.ev, .bool f.pre, .string f.fr, .slice A n c], .int .i64 tk] w fun e w' => e = .returned (.bool true) ∧ Below w.heap.size w w' := by
  have HB0 : Hid (Below w.heap.size w (w.alloc (.cells #[.int .i64 f.id, .int .i64 255, .int .i64 f.ev, .bool f.pre, .string f.fr, .slice A n c] 25))) := Lib.hid (below_alloc (Below.refl _ _) _)
  have HN := Lib.hid (new_some (f := ({ f with pr := 255 } : Cf)) (hS.below HB0.out) hb hok)
  have e1 : decide (tk < 0) = false := decide_eq_false (by omega)
  have e2 : decide (5000 < tk) = false := decide_eq_false (by omega)
  have e2' : decide (tk > 5000) = false := decide_eq_false (by omega)
  have HC2 : Hid (Cb (w.alloc (.cells #[.int .i64 f.id, .int .i64 255, .int .i64 f.ev, .bool f.pre, .string f.fr, .slice A n c] 25)) w.heap.size 25 [.int .i64 f.id, .int .i64 255, .int .i64 f.ev, .bool f.pre, .string f.fr, .slice A n c]) := Lib.hid (Cb.new w [.int .i64 f.id, .int .i64 255, .int .i64 f.ev, .bool f.pre, .string f.fr, .slice A n c] 25)
  have hXs : (w.alloc (.cells #[.int .i64 f.id, .int .i64 255, .int .i64 f.ev, .bool f.pre, .string f.fr, .slice A n c] 25)).heap.size = w.heap.size + 1 := by simp
  have HXS := Lib.hid hXs
  have HOK := Lib.hid (okN_ok hok)
  obtain ⟨N, hN⟩ : ∃ N : Nat, tk = (N : Int) := ⟨tk.toNat, by omega⟩
  subst hN
  have HL : Hid (N ≤ 5000) := Lib.hid (by omega)
  have HE : Hid (1 ≤ f.ev ∧ f.ev ≤ 4095) := Lib.hid (okN_ok hok).ev
  have HQ : Hid (wrap64 ((N : Int) / f.ev) = (N : Int) / f.ev) := Lib.hid (by
    have h1 := HE.out
    have h2 : 0 ≤ (N : Int) / f.ev := Int.ediv_nonneg (by omega) (by omega)
    have h3 : (N : Int) / f.ev ≤ N := Int.ediv_le_self _ (by omega)
    unfold wrap64
    omega)
  have hev1 : ¬ f.ev = 0 := by have := HE.out; omega
  have hev0 : (f.ev == 0) = false := beq_eq_false_iff_ne.2 (by have := HE.out; omega)
  clear hS hb wa wb wc wt hok hl h0 hXs
  go_enter Try.func6, Try.ntmps6
  go_wp2_with fail
  refine HN.out.mono ?_
  rintro e w1 ⟨B, va, rfl, hM1, hb1⟩
  have HM1 : Hid (Mm (w.heap.size + 1) w1 B (newM ({ f with pr := 255 } : Cf))) := Lib.hid (by have h := hM1.mm; rwa [HXS.out] at h)
  have HB1 : Hid (Below (w.heap.size + 1) (w.alloc (.cells #[.int .i64 f.id, .int .i64 255, .int .i64 f.ev, .bool f.pre, .string f.fr, .slice A n c] 25)) w1) := Lib.hid (by have h := hb1; rwa [HXS.out] at h)
  clear hb1 hM1
  go_wp2_with fail
  refine (start_any HM1.out (by simp [newM])).mono ?_
  rintro e w2 ⟨rfl, ⟨va2, vo2, l2, hS2⟩, hk2⟩
  have HB2 := Lib.hid (HB1.out.trans (hk2.below (Nat.le_refl _) HM1.out.lo (by have := HB1.out.size; have := HXS.out; omega)))
  have HS2 : Hid (w.heap.size + 1 ≤ w2.heap.size) := Lib.hid (by have := HB2.out.size; have := HXS.out; omega)
  have hst : startM (newM ({ f with pr := 255 } : Cf)) = leadM (newM ({ f with pr := 255 } : Cf)) := by simp [startM, newM]
  rw [hst] at hS2
  have HM2 := Lib.hid hS2
  obtain ⟨ao, co, rfl, -, -⟩ := row_any hS2.row
  have HO2 := Lib.hid (out_any hS2)
  clear hk2 hst hS2
  go_wp2_with fail
  refine HO2.out.mono ?_
  rintro e w3 ⟨rfl, hm3, -, -, hk3⟩
  have HB3 := Lib.hid (HB2.out.trans (hk3.below (Nat.le_refl _) HM2.out.lo HS2.out))
  have HM3 := Lib.hid hm3.mm
  clear hm3 hk3
  go_wp2_with fail
  go_loopg [7, 36] N (fun gg x7 x36 wr => SnRel (w.alloc (.cells #[.int .i64 f.id, .int .i64 255, .int .i64 f.ev, .bool f.pre, .string f.fr, .slice A n c] 25)) (w.heap.size + 1) B ({ f with pr := 255 } : Cf) N gg x7 x36 wr)
  case atStart => exact ⟨0, _, by omega, rfl, by simp, HM3.out, OkT.outed (OkT.lead HOK.out), ⟨rfl, rfl, by show f.ev = f.ev - 0 % f.ev; simp⟩, rfl, HB3.out⟩
  case round =>
    obtain ⟨i, m, hi, rfl, rfl, hm, hT, hat, hout, hbl⟩ := hrel
    have HMi := Lib.hid hm
    have HBi := Lib.hid hbl
    have HSi : Hid (w.heap.size + 1 ≤ wr.heap.size) := Lib.hid (by have := hbl.size; have := HXS.out; omega)
    have HAT := Lib.hid hat
    by_cases hlt : i < N
    · have e3 : decide ((i : Int) < (N : Int)) = true := decide_eq_true (by omega)
      have hlt1 : (i : Int) < (N : Int) := by omega
      have HTk := Lib.hid (tick_any hm hT (by rw [hout]; simp))
      have HTT := Lib.hid (OkT.tick hm.ok hT)
      obtain ⟨ha, hlen, hall⟩ := hat.tick hout HE.out.1
      have HA := Lib.hid ha
      have HLEN := Lib.hid hlen
      have HALL := Lib.hid hall
      clear hm hbl hT hat hout ha hlen hall
      go_wp2_with fail
      refine HTk.out.mono ?_
      rintro e w6 ⟨rfl, ⟨va6, vo6, l6, hS6⟩, hk6⟩
      have HB6 := Lib.hid (HBi.out.trans (hk6.below (Nat.le_refl _) HMi.out.lo HSi.out))
      have HS6 : Hid (w.heap.size + 1 ≤ w6.heap.size) := Lib.hid (by have := HSi.out; have := hk6.size; omega)
      have HM6 := Lib.hid hS6
      have hl6 : l6.length = (tickM m).out.length := hS6.len
      have HALL6 : Hid (∀ x ∈ l6, x.1 = saysV ({ f with pr := 255 } : Cf) 255) := Lib.hid (fun x hx => HALL.out x.1 (by rw [← hS6.lst]; exact List.mem_map_of_mem hx))
      obtain ⟨ao6, co6, rfl, -, -⟩ := row_any hS6.row
      have HO6 := Lib.hid (out_any hS6)
      rw [← hl6] at HLEN
      clear hk6 hS6 hl6
      go_wp2_with fail
      refine HO6.out.mono ?_
      rintro e w7 ⟨rfl, hm7, hrow7, hadr7, hk7⟩
      have HB7 := Lib.hid (HB6.out.trans (hk7.below (Nat.le_refl _) HM6.out.lo HS6.out))
      have HM7 := Lib.hid hm7.mm
      have HR7 := Lib.hid hrow7
      have HA7 := Lib.hid hadr7
      have HS7 : Hid (w.heap.size + 1 ≤ w7.heap.size) := Lib.hid (by have := HS6.out; have := hk7.size; omega)
      clear hm7 hrow7 hadr7 hk7 HTk HO6 HMi HBi HSi
      have hq7 : Hid (0 ≤ (i : Int) / f.ev ∧ (i : Int) / f.ev ≤ 5000) := Lib.hid ⟨Int.ediv_nonneg (by omega) (by have := HE.out; omega), by
        have h3 : (i : Int) / f.ev ≤ i := Int.ediv_le_self _ (by omega)
        have := HL.out
        omega⟩
      have hl6 : Hid (l6.length ≤ 5001) := Lib.hid (by
        have h1 := HLEN.out
        have h3 : ((i + 1 : Nat) : Int) / f.ev ≤ ((i + 1 : Nat) : Int) := Int.ediv_le_self _ (by omega)
        have := HL.out
        have := hq7.out
        have h4 : ((i + 1 : Nat) : Int) / (({ f with pr := 255 } : Cf) : Cf).ev = ((i + 1 : Nat) : Int) / f.ev := rfl
        have h5 : (i : Int) / (({ f with pr := 255 } : Cf) : Cf).ev = (i : Int) / f.ev := rfl
        rw [h4, h5] at h1
        omega)
      have HLEN2 : Hid ((i : Int) / f.ev + (l6.length : Int) = ((i + 1 : Nat) : Int) / f.ev) := Lib.hid (by
        have h1 := HLEN.out
        have h4 : ((i + 1 : Nat) : Int) / (({ f with pr := 255 } : Cf) : Cf).ev = ((i + 1 : Nat) : Int) / f.ev := rfl
        have h5 : (i : Int) / (({ f with pr := 255 } : Cf) : Cf).ev = (i : Int) / f.ev := rfl
        rw [h4, h5] at h1
        omega)
      generalize hM : (i : Int) / f.ev = M at *
      have HMM := Lib.hid hM
      clear hM
      go_wp2_with fail
      go_loopg [7, 43] l6.length (fun gg x7 x43 wr => SnIn w7 M l6.length gg x7 x43 wr)
      case atStart => exact ⟨0, by omega, rfl, by simp, Below.refl _ _⟩
      case round =>
        obtain ⟨k, hk, rfl, rfl, hbk⟩ := hrel
        have HBk := Lib.hid hbk
        clear hbk
        by_cases hlk : k < l6.length
        · have e4 : decide ((k : Int) < (l6.length : Int)) = true := decide_eq_true (by omega)
          have hlk1 : (k : Int) < (l6.length : Int) := by omega
          have hr8 := row_below HR7.out HBk.out
          obtain ⟨g, c9, heq, -, -⟩ := row_slice hr8 (by omega)
          obtain ⟨rfl, -, rfl⟩ : ao6 = some ⟨g, 0, none⟩ ∧ True ∧ co6 = c9 := by
            simp at heq
            exact ⟨heq.1, trivial, heq.2⟩
          obtain ⟨r0, r1, r2, r3, r4⟩ := erow_at hr8 hlk
          have hmem : l6[k]! ∈ l6 := by rw [getElem!_pos l6 k hlk]; exact List.getElem_mem hlk
          have hx := HALL6.out _ hmem
          obtain ⟨a9, k9, hv9, -, -⟩ := row_any (HA7.out _ hmem)
          rw [hx] at r0 r1 r2 r3
          rw [hv9] at r4
          simp only [saysV] at r0 r1 r2 r3
          generalize (l6[k]!).1.ads.length = q9 at r4
          obtain ⟨w8, hst8, hcb8, hb8⟩ := box58 wr 1 f.id 255 f.ev a9 q9 k9
          obtain ⟨g0, g1, g2, g3, g4⟩ := hcb8.five
          have HB8 := Lib.hid (below_then HBk.out HBk.out.size hb8)
          have HW1 : Hid (Value.int .i64 (wrap64 ((k : Int) + 1)) = .int .i64 ((k + 1 : Nat) : Int)) := Lib.hid (by congr 1; have := hl6.out; unfold wrap64; omega)
          have HW2 : Hid (Value.int .i64 (wrap64 (M + (k : Int) + 1)) = .int .i64 (M + ((k + 1 : Nat) : Int))) := Lib.hid (by congr 1; have := hl6.out; have := hq7.out; unfold wrap64; omega)
          have d0 : w8.cell? ⟨w.heap.size, 0, none⟩ = some (.int .i64 f.id) := ((HC2.out.low HB7.out (by omega)).low (HB8.out.mono HS7.out) (by omega)).cell 0
          clear hr8 hx hv9 hmem hcb8 hb8 heq
          go_wp2
          go_roundg (l6.length - (k + 1))
          case measure => omega
          case rel => exact ⟨k + 1, by omega, HW1.out, HW2.out, HB8.out⟩
        · have e4 : decide ((k : Int) < (l6.length : Int)) = false := decide_eq_false (by omega)
          have hlk1 : ¬ (k : Int) < (l6.length : Int) := by omega
          obtain rfl : k = l6.length := by omega
          have HW : Hid (Value.int .i64 (wrap64 ((i : Int) + 1)) = .int .i64 ((i + 1 : Nat) : Int)) := Lib.hid (by congr 1; have := HL.out; unfold wrap64; omega)
          go_wp2
          go_roundg (N - (i + 1))
          case measure => omega
          case rel => exact ⟨i + 1, _, by omega, HW.out, by rw [HLEN2.out], HM7.out.below HBk.out, HTT.out.outed, ⟨HA.out.st, HA.out.cf, HA.out.wt⟩, rfl, HB7.out.trans (HBk.out.mono HS7.out)⟩
    · obtain rfl : i = N := by omega
      have e3 : decide ((i : Int) < (i : Int)) = false := decide_eq_false (by omega)
      obtain ⟨d1, d6, d7, d8⟩ := hm.cells
      rw [hat.st] at d6
      have HMi2 := Lib.hid hm
      clear hm hbl hT hat hout d1 d7 d8
      go_wp2_with fail
      refine (alive_any wr).mono ?_
      rintro e w10 ⟨rfl, hb10⟩
      have HB10 := Lib.hid (HBi.out.trans (hb10.mono HSi.out))
      have d6' : w10.cell? ⟨B, 6, none⟩ = some (.int .i64 3) := by rw [hb10.cell (p := ⟨B, 6, none⟩) HMi2.out.lt]; exact d6
      have HSt := Lib.hid (state_any d6')
      have p2 : w10.cell? ⟨w.heap.size, 2, none⟩ = some (.int .i64 f.ev) := (HC2.out.low HB10.out (by omega)).cell 2
      have HBW := Lib.hid (HB0.out.trans (HB10.out.mono (by omega)))
      clear hb10 d6 d6'
      go_wp2_with fail
      refine HSt.out.mono ?_
      rintro e w' ⟨rfl, rfl⟩
      go_wp2
      go_ret
      exact ⟨ret_bool (by rw [HQ.out]; simp), HBW.out⟩

/-- VrrpSends. -/
theorem sends_walk (f : Cf) (A : Option Addr) (n c : Nat) (tk : Int) (w : World) (hS : Strs w A n c f.ads) (hb : f.fr.size ≤ 140737488351232 ∧ n ≤ 8796093022208) (wa : (Lit.int .i64 f.id).wf = true) (wb : (Lit.int .i64 f.pr).wf = true) (wc : (Lit.int .i64 f.ev).wf = true) (wt : (Lit.int .i64 tk).wf = true) : Calls Try.prog 6 #[.agg #[.int .i64 f.id, .int .i64 f.pr, .int .i64 f.ev, .bool f.pre, .string f.fr, .slice A n c], .int .i64 tk] w fun e w' => e = .returned (.bool true) ∧ Below w.heap.size w w' := by
  cases hok : okN ({ f with pr := 255 } : Cf)
  · exact sends_no f A n c tk w hS hb wa wb wc wt hok
  · by_cases h0 : tk < 0
    · exact sends_neg f A n c tk w hS hb wa wb wc wt hok h0
    · by_cases hl : 5000 < tk
      · exact sends_far f A n c tk w hS hb wa wb wc wt hok hl
      · exact sends_run f A n c tk w hS hb wa wb wc wt hok h0 hl
end Go.Proofs.Ytpcdaidgijkkbaa
