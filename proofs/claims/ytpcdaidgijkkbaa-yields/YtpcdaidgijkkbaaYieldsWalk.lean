/-
  What VrrpYields does.
-/
import Derived.Test.YtpcdaidgijkkbaaClaimsWalk
import Derived.BigQuiet
namespace Go.Proofs.Ytpcdaidgijkkbaa
open Go.RowKit Go.Maps
set_option linter.unusedVariables false
set_option linter.unusedSimpArgs false
set_option maxRecDepth 40000
attribute [local go_sem ↓] bigS25
attribute [local go_sem ↓] bigS55

theorem box25 (W : World) (D : Nat) (hD : W.heap.size = D) (x0 x1 x2 : Int) (x3 : Bool) (x4 : ByteArray) (A : Option Addr) (n c : Nat) :
    ∃ W', (bigS 25 ⟨D, 0, none⟩ (.agg #[.int .i64 x0, .int .i64 x1, .int .i64 x2, .bool x3, .string x4, .slice A n c])).run Try.prog (W.alloc (.cells #[.int .i64 0, .int .i64 0, .int .i64 0, .bool false, .string ⟨#[]⟩, .slice none 0 0] 25)) = .ok () W' ∧ Cb W' D 25 [.int .i64 x0, .int .i64 x1, .int .i64 x2, .bool x3, .string x4, .slice A n c] ∧ Below W.heap.size W W' := by
  subst hD
  obtain ⟨h3, h4, h5⟩ := store_cb (t := 25) (Cb.new W [.int .i64 0, .int .i64 0, .int .i64 0, .bool false, .string ⟨#[]⟩, .slice none 0 0] 25) [.int .i64 x0, .int .i64 x1, .int .i64 x2, .bool x3, .string x4, .slice A n c] 6 rfl rfl (fun u hu => by
    simp only [List.mem_cons, List.not_mem_nil, or_false] at hu
    rcases hu with rfl | rfl | rfl | rfl | rfl | rfl <;> rfl) (Try.sizeOf25 _)
  exact ⟨_, h3, h4, only_below (below_alloc (Below.refl _ _) _) h5 (Nat.le_refl _)⟩
theorem box55 (W : World) (x0 x1 x2 : Int) (A : Option Addr) (n c : Nat) :
    ∃ W', (bigS 55 ⟨W.heap.size, 0, none⟩ (.agg #[.int .i64 x0, .int .i64 x1, .int .i64 x2, .slice A n c])).run Try.prog (W.alloc (.cells #[.int .i64 0, .int .i64 0, .int .i64 0, .slice none 0 0] 55)) = .ok () W' ∧ Cb W' W.heap.size 55 [.int .i64 x0, .int .i64 x1, .int .i64 x2, .slice A n c] ∧ Below W.heap.size W W' := by
  obtain ⟨W', h3, h4, h5⟩ := store55 (Cb.new W [.int .i64 0, .int .i64 0, .int .i64 0, .slice none 0 0] 55) rfl x0 x1 x2 (.slice A n c) rfl
  exact ⟨W', h3, h4, only_below (below_alloc (Below.refl _ _) _) h5 (Nat.le_refl _)⟩

theorem ticks_add : ∀ (a b : Nat) (m : Mc), ticksM (a + b) m = ticksM b (ticksM a m)
  | 0, b, m => by rw [Nat.zero_add]; rfl
  | a + 1, b, m => by rw [show a + 1 + b = (a + b) + 1 by omega, ticksM, ticks_add a b]; rfl
theorem ticks_three : ∀ (k : Nat) (m : Mc), m.st = 3 → (ticksM k m).st = 3
  | 0, m, h => h
  | k + 1, m, h => by
    rw [ticksM]
    refine ticks_three k _ ?_
    unfold tickM
    rw [if_neg (by omega)]
    split
    · exact h
    · rw [if_neg (by omega)]; exact h
theorem lead_by {m : Mc} {k : Nat} (h2 : m.st = 2) (h1 : 1 ≤ m.wt) (hk : m.wt ≤ (k : Int)) : (ticksM k m).st = 3 := by
  rw [show k = m.wt.toNat + (k - m.wt.toNat) by omega, ticks_add, ticks_lead m h2 h1]
  exact ticks_three _ _ rfl
/-- It is to be master behind so many ticks. -/
def bkM (f : Cf) : Mc := followM (newM f) f.ev
theorem bk_start {f : Cf} (h : ¬ f.pr = 255) : startM (newM f) = bkM f := by
  unfold startM bkM
  rw [if_pos (show (newM f).st = 1 from rfl), if_neg (show ¬ (newM f).c.pr = 255 from h)]
  rfl
theorem bk_lead {f : Cf} {K : Nat} (hok : OkM (newM f)) (hK : 4 * f.ev = (K : Int)) : (ticksM K (bkM f)).st = 3 := by
  have he : 1 ≤ f.ev ∧ f.ev ≤ 4095 := hok.ev
  have hp : 1 ≤ f.pr ∧ f.pr ≤ 255 := hok.pr
  have hs := skew_bd f.pr f.ev
  have hw : (bkM f).wt = 3 * f.ev + skewI f.pr f.ev := by
    show 3 * clamp f.ev + skewI f.pr (clamp f.ev) = _
    rw [clamp_self he]
  have hsk : skewI f.pr f.ev ≤ f.ev := by
    unfold skewI
    rw [if_neg (by omega)]
    have h1 : (256 - f.pr) * f.ev ≤ 256 * f.ev := Int.mul_le_mul_of_nonneg_right (by omega) (by omega)
    omega
  exact lead_by rfl (by rw [hw]; omega) (by rw [hw]; omega)
structure Mas (f : Cf) (m : Mc) : Prop where
  st : m.st = 3
  c : m.c = f
  out : m.out = []
theorem mas_of {f : Cf} {K : Nat} (hok : OkM (newM f)) (hK : 4 * f.ev = (K : Int)) : Mas f (outM (ticksM K (bkM f))) := ⟨bk_lead hok hK, by show (ticksM K (bkM f)).c = f; rw [ticks_c]; rfl, rfl⟩
theorem yield_st {m : Mc} {f : Cf} (h : Mas f m) (fr : ByteArray) (a : Av) (hi : a.id = f.id) (hp : ¬ a.pr = 0) : (takeM m fr a).st = if f.pr < a.pr ∨ (a.pr = f.pr ∧ lt8 f.fr fr = true) then 2 else 3 := by
  unfold takeM
  rw [if_pos (by rw [h.c]; exact hi), if_neg (by rw [h.st]; omega), if_pos h.st]
  unfold meetM
  rw [if_neg hp, h.c]
  split
  · rfl
  · exact h.st
def Qu (b : Nat) (w : World) (B : Nat) (m : Mc) : Prop := ∃ va, MmS b w B m va (.slice none 0 0) []
theorem Qu.mm {b B : Nat} {w : World} {m : Mc} (h : Qu b w B m) : Mm b w B m := by obtain ⟨va, h⟩ := h; exact ⟨_, _, _, h⟩
theorem Qu.below {b B : Nat} {w w' : World} {m : Mc} (h : Qu b w B m) (hb : Below w.heap.size w w') : Qu b w' B m := by obtain ⟨va, h⟩ := h; exact ⟨va, h.below hb⟩
theorem Qu.kept {b B b' B' : Nat} {w w' : World} {m m' : Mc} (h : Qu b w B m) (hk : Kp b' B' w w') (hne : B ≠ B') (h' : Mm b' w B' m') : Qu b w' B m := by
  obtain ⟨va, h⟩ := h
  obtain ⟨va', vo', l', h'⟩ := h'
  exact ⟨va, h.kept hk hne ⟨_, h'.blk⟩⟩
/-- The two machines, the row of them, and the config's box. -/
structure Two (w : World) (G b1 b2 B1 B2 : Nat) (cf : List Value) (m1 m2 : Mc) (wr : World) : Prop where
  row : Cb wr G 27 [.pointer (some ⟨B1, 0, none⟩), .pointer (some ⟨B2, 0, none⟩)]
  box : Cb wr w.heap.size 25 cf
  low : Below w.heap.size w wr
  one : Qu b1 wr B1 m1
  two : Qu b2 wr B2 m2
  ord : w.heap.size + 2 ≤ b1 ∧ b1 ≤ B1 ∧ B1 < b2 ∧ b2 ≤ B2 ∧ B2 < G
def YlRel (w : World) (G b1 b2 B1 B2 : Nat) (cf : List Value) (f1 f2 : Cf) (gg : Nat) (x : Value) (wr : World) : Prop :=
  (gg = 2 ∧ x = .int .i64 0 ∧ Two w G b1 b2 B1 B2 cf (newM f1) (newM f2) wr) ∨ (gg = 1 ∧ x = .int .i64 1 ∧ ∃ m1, Mas f1 m1 ∧ Two w G b1 b2 B1 B2 cf m1 (newM f2) wr) ∨ (gg = 0 ∧ x = .int .i64 2 ∧ ∃ m1 m2, Mas f1 m1 ∧ Mas f2 m2 ∧ Two w G b1 b2 B1 B2 cf m1 m2 wr)
def TkRel (b B : Nat) (m0 : Mc) (W : World) (K gg : Nat) (x : Value) (wr : World) : Prop :=
  ∃ i : Nat, i + gg = K ∧ x = .int .i64 (i : Int) ∧ Mm b wr B (ticksM i m0) ∧ Kp b B W wr

set_option maxHeartbeats 2000000 in
theorem yields_out1 (f : Cf) (A : Option Addr) (n c : Nat) (oth : Int) (s : ByteArray) (w : World) (hS : Strs w A n c f.ads) (hb : f.fr.size ≤ 140737488351232 ∧ n ≤ 8796093022208) (wa : (Lit.int .i64 f.id).wf = true) (wb : (Lit.int .i64 f.pr).wf = true) (wc : (Lit.int .i64 f.ev).wf = true) (wo : (Lit.int .i64 oth).wf = true) (hbs : s.size ≤ 140737488351232) (h1 : f.pr = 255) : Calls Try.prog 7 #[.agg #[.int .i64 f.id, .int .i64 f.pr, .int .i64 f.ev, .bool f.pre, .string f.fr, .slice A n c], .int .i64 oth, .string s] w fun e w' => e = .returned (.bool true) ∧ Below w.heap.size w w' := by
  have HB0 : Hid (Below w.heap.size w (w.alloc (.cells #[.int .i64 f.id, .int .i64 f.pr, .int .i64 f.ev, .bool true, .string f.fr, .slice A n c] 25))) := Lib.hid (below_alloc (Below.refl _ _) _)
  have e00 : (f.pr == 255) = true := by simpa using h1
  clear hS hb wa wb wc wo hbs h1
  go_enter Try.func7, Try.ntmps7
  go_wp2_with fail
  refine (alive_any _).mono ?_
  rintro e w9 ⟨rfl, hb9⟩
  go_wp2
  go_ret
  exact ⟨rfl, below_then HB0.out HB0.out.size hb9⟩

set_option maxHeartbeats 2000000 in
theorem yields_out2 (f : Cf) (A : Option Addr) (n c : Nat) (oth : Int) (s : ByteArray) (w : World) (hS : Strs w A n c f.ads) (hb : f.fr.size ≤ 140737488351232 ∧ n ≤ 8796093022208) (wa : (Lit.int .i64 f.id).wf = true) (wb : (Lit.int .i64 f.pr).wf = true) (wc : (Lit.int .i64 f.ev).wf = true) (wo : (Lit.int .i64 oth).wf = true) (hbs : s.size ≤ 140737488351232) (h1 : ¬ f.pr = 255) (h2 : oth < 1) : Calls Try.prog 7 #[.agg #[.int .i64 f.id, .int .i64 f.pr, .int .i64 f.ev, .bool f.pre, .string f.fr, .slice A n c], .int .i64 oth, .string s] w fun e w' => e = .returned (.bool true) ∧ Below w.heap.size w w' := by
  have HB0 : Hid (Below w.heap.size w (w.alloc (.cells #[.int .i64 f.id, .int .i64 f.pr, .int .i64 f.ev, .bool true, .string f.fr, .slice A n c] 25))) := Lib.hid (below_alloc (Below.refl _ _) _)
  have e00 : (f.pr == 255) = false := by simpa using h1
  have e10 : decide (oth < 1) = true := decide_eq_true (by omega)
  clear hS hb wa wb wc wo hbs h1 h2
  go_enter Try.func7, Try.ntmps7
  go_wp2_with fail
  refine (alive_any _).mono ?_
  rintro e w9 ⟨rfl, hb9⟩
  go_wp2
  go_ret
  exact ⟨rfl, below_then HB0.out HB0.out.size hb9⟩

set_option maxHeartbeats 2000000 in
theorem yields_out3 (f : Cf) (A : Option Addr) (n c : Nat) (oth : Int) (s : ByteArray) (w : World) (hS : Strs w A n c f.ads) (hb : f.fr.size ≤ 140737488351232 ∧ n ≤ 8796093022208) (wa : (Lit.int .i64 f.id).wf = true) (wb : (Lit.int .i64 f.pr).wf = true) (wc : (Lit.int .i64 f.ev).wf = true) (wo : (Lit.int .i64 oth).wf = true) (hbs : s.size ≤ 140737488351232) (h1 : ¬ f.pr = 255) (h2 : ¬ oth < 1) (h3 : 254 < oth) : Calls Try.prog 7 #[.agg #[.int .i64 f.id, .int .i64 f.pr, .int .i64 f.ev, .bool f.pre, .string f.fr, .slice A n c], .int .i64 oth, .string s] w fun e w' => e = .returned (.bool true) ∧ Below w.heap.size w w' := by
  have HB0 : Hid (Below w.heap.size w (w.alloc (.cells #[.int .i64 f.id, .int .i64 f.pr, .int .i64 f.ev, .bool true, .string f.fr, .slice A n c] 25))) := Lib.hid (below_alloc (Below.refl _ _) _)
  have e00 : (f.pr == 255) = false := by simpa using h1
  have e10 : decide (oth < 1) = false := decide_eq_false (by omega)
  have e20 : decide (oth > 254) = true := decide_eq_true (by omega)
  have e21 : decide (254 < oth) = true := decide_eq_true (by omega)
  clear hS hb wa wb wc wo hbs h1 h2 h3
  go_enter Try.func7, Try.ntmps7
  go_wp2_with fail
  refine (alive_any _).mono ?_
  rintro e w9 ⟨rfl, hb9⟩
  go_wp2
  go_ret
  exact ⟨rfl, below_then HB0.out HB0.out.size hb9⟩

set_option maxHeartbeats 2000000 in
theorem yields_out4 (f : Cf) (A : Option Addr) (n c : Nat) (oth : Int) (s : ByteArray) (w : World) (hS : Strs w A n c f.ads) (hb : f.fr.size ≤ 140737488351232 ∧ n ≤ 8796093022208) (wa : (Lit.int .i64 f.id).wf = true) (wb : (Lit.int .i64 f.pr).wf = true) (wc : (Lit.int .i64 f.ev).wf = true) (wo : (Lit.int .i64 oth).wf = true) (hbs : s.size ≤ 140737488351232) (h1 : ¬ f.pr = 255) (h2 : ¬ oth < 1) (h3 : ¬ 254 < oth) (h4 : s = f.fr) : Calls Try.prog 7 #[.agg #[.int .i64 f.id, .int .i64 f.pr, .int .i64 f.ev, .bool f.pre, .string f.fr, .slice A n c], .int .i64 oth, .string s] w fun e w' => e = .returned (.bool true) ∧ Below w.heap.size w w' := by
  have HB0 : Hid (Below w.heap.size w (w.alloc (.cells #[.int .i64 f.id, .int .i64 f.pr, .int .i64 f.ev, .bool true, .string f.fr, .slice A n c] 25))) := Lib.hid (below_alloc (Below.refl _ _) _)
  have e00 : (f.pr == 255) = false := by simpa using h1
  have e10 : decide (oth < 1) = false := decide_eq_false (by omega)
  have e20 : decide (oth > 254) = false := decide_eq_false (by omega)
  have e21 : decide (254 < oth) = false := decide_eq_false (by omega)
  have e30 : (s.toList == f.fr.toList) = true := by rw [h4]; simp
  clear hS hb wa wb wc wo hbs h1 h2 h3 h4
  go_enter Try.func7, Try.ntmps7
  go_wp2_with fail
  refine (alive_any _).mono ?_
  rintro e w9 ⟨rfl, hb9⟩
  go_wp2
  go_ret
  exact ⟨rfl, below_then HB0.out HB0.out.size hb9⟩

set_option maxHeartbeats 2000000 in
theorem yields_out5 (f : Cf) (A : Option Addr) (n c : Nat) (oth : Int) (s : ByteArray) (w : World) (hS : Strs w A n c f.ads) (hb : f.fr.size ≤ 140737488351232 ∧ n ≤ 8796093022208) (wa : (Lit.int .i64 f.id).wf = true) (wb : (Lit.int .i64 f.pr).wf = true) (wc : (Lit.int .i64 f.ev).wf = true) (wo : (Lit.int .i64 oth).wf = true) (hbs : s.size ≤ 140737488351232) (h1 : ¬ f.pr = 255) (h2 : ¬ oth < 1) (h3 : ¬ 254 < oth) (h4 : ¬ s = f.fr) (h5 : ¬ s.size = f.fr.size) : Calls Try.prog 7 #[.agg #[.int .i64 f.id, .int .i64 f.pr, .int .i64 f.ev, .bool f.pre, .string f.fr, .slice A n c], .int .i64 oth, .string s] w fun e w' => e = .returned (.bool true) ∧ Below w.heap.size w w' := by
  have HB0 : Hid (Below w.heap.size w (w.alloc (.cells #[.int .i64 f.id, .int .i64 f.pr, .int .i64 f.ev, .bool true, .string f.fr, .slice A n c] 25))) := Lib.hid (below_alloc (Below.refl _ _) _)
  have e00 : (f.pr == 255) = false := by simpa using h1
  have e10 : decide (oth < 1) = false := decide_eq_false (by omega)
  have e20 : decide (oth > 254) = false := decide_eq_false (by omega)
  have e21 : decide (254 < oth) = false := decide_eq_false (by omega)
  have e30 : (s.toList == f.fr.toList) = false := by rw [beq_eq_false_iff_ne]; exact fun e => h4 (toList_inj8 e)
  have e40 : ((s.size : Int) != (f.fr.size : Int)) = true := by simp; omega
  clear hS hb wa wb wc wo hbs h1 h2 h3 h4 h5
  go_enter Try.func7, Try.ntmps7
  go_wp2_with fail
  refine (alive_any _).mono ?_
  rintro e w9 ⟨rfl, hb9⟩
  go_wp2
  go_ret
  exact ⟨rfl, below_then HB0.out HB0.out.size hb9⟩

set_option maxHeartbeats 2000000 in
theorem yields_out6 (f : Cf) (A : Option Addr) (n c : Nat) (oth : Int) (s : ByteArray) (w : World) (hS : Strs w A n c f.ads) (hb : f.fr.size ≤ 140737488351232 ∧ n ≤ 8796093022208) (wa : (Lit.int .i64 f.id).wf = true) (wb : (Lit.int .i64 f.pr).wf = true) (wc : (Lit.int .i64 f.ev).wf = true) (wo : (Lit.int .i64 oth).wf = true) (hbs : s.size ≤ 140737488351232) (h1 : ¬ f.pr = 255) (h2 : ¬ oth < 1) (h3 : ¬ 254 < oth) (h4 : ¬ s = f.fr) (h5 : s.size = f.fr.size) (h6 : 300 < f.ev) : Calls Try.prog 7 #[.agg #[.int .i64 f.id, .int .i64 f.pr, .int .i64 f.ev, .bool f.pre, .string f.fr, .slice A n c], .int .i64 oth, .string s] w fun e w' => e = .returned (.bool true) ∧ Below w.heap.size w w' := by
  have HB0 : Hid (Below w.heap.size w (w.alloc (.cells #[.int .i64 f.id, .int .i64 f.pr, .int .i64 f.ev, .bool true, .string f.fr, .slice A n c] 25))) := Lib.hid (below_alloc (Below.refl _ _) _)
  have e00 : (f.pr == 255) = false := by simpa using h1
  have e10 : decide (oth < 1) = false := decide_eq_false (by omega)
  have e20 : decide (oth > 254) = false := decide_eq_false (by omega)
  have e21 : decide (254 < oth) = false := decide_eq_false (by omega)
  have e30 : (s.toList == f.fr.toList) = false := by rw [beq_eq_false_iff_ne]; exact fun e => h4 (toList_inj8 e)
  have e40 : ((s.size : Int) != (f.fr.size : Int)) = false := by simp; omega
  have e50 : decide (f.ev > 300) = true := decide_eq_true (by omega)
  have e51 : decide (300 < f.ev) = true := decide_eq_true (by omega)
  clear hS hb wa wb wc wo hbs h1 h2 h3 h4 h5 h6
  go_enter Try.func7, Try.ntmps7
  go_wp2_with fail
  refine (alive_any _).mono ?_
  rintro e w9 ⟨rfl, hb9⟩
  go_wp2
  go_ret
  exact ⟨rfl, below_then HB0.out HB0.out.size hb9⟩

theorem new_wide {f : Cf} {A : Option Addr} {n c : Nat} {w : World} (hS : Strs w A n c f.ads) (hb : f.fr.size ≤ 140737488351232 ∧ n ≤ 8796093022208) :
    Calls Try.prog 11 #[.agg #[.int .i64 f.id, .int .i64 f.pr, .int .i64 f.ev, .bool f.pre, .string f.fr, .slice A n c]] w fun e w' => ∃ p k, e = .returned (.tuple #[p, .int .i64 k]) ∧ Below w.heap.size w w' := by
  cases hok : okN f
  · exact (new_none hS hb hok).mono fun e w' ⟨h1, h2⟩ => ⟨_, _, h1, h2⟩
  · exact (new_some hS hb hok).mono fun e w' ⟨B, va, h1, _, h2⟩ => ⟨_, _, h1, h2⟩

set_option maxHeartbeats 2000000 in
theorem yields_no1 (f : Cf) (A : Option Addr) (n c : Nat) (oth : Int) (s : ByteArray) (w : World) (hS : Strs w A n c f.ads) (hb : f.fr.size ≤ 140737488351232 ∧ n ≤ 8796093022208) (wa : (Lit.int .i64 f.id).wf = true) (wb : (Lit.int .i64 f.pr).wf = true) (wc : (Lit.int .i64 f.ev).wf = true) (wo : (Lit.int .i64 oth).wf = true) (hbs : s.size ≤ 140737488351232) (h1 : ¬ f.pr = 255) (h2 : ¬ oth < 1) (h3 : ¬ 254 < oth) (h4 : ¬ s = f.fr) (h5 : s.size = f.fr.size) (h6 : ¬ 300 < f.ev) (hok : okN ({ f with pre := true } : Cf) = false) : Calls Try.prog 7 #[.agg #[.int .i64 f.id, .int .i64 f.pr, .int .i64 f.ev, .bool f.pre, .string f.fr, .slice A n c], .int .i64 oth, .string s] w fun e w' => e = .returned (.bool true) ∧ Below w.heap.size w w' := by
  have HB0 : Hid (Below w.heap.size w (w.alloc (.cells #[.int .i64 f.id, .int .i64 f.pr, .int .i64 f.ev, .bool true, .string f.fr, .slice A n c] 25))) := Lib.hid (below_alloc (Below.refl _ _) _)
  have e00 : (f.pr == 255) = false := by simpa using h1
  have e10 : decide (oth < 1) = false := decide_eq_false (by omega)
  have e20 : decide (oth > 254) = false := decide_eq_false (by omega)
  have e21 : decide (254 < oth) = false := decide_eq_false (by omega)
  have e30 : (s.toList == f.fr.toList) = false := by rw [beq_eq_false_iff_ne]; exact fun e => h4 (toList_inj8 e)
  have e40 : ((s.size : Int) != (f.fr.size : Int)) = false := by simp; omega
  have e50 : decide (f.ev > 300) = false := decide_eq_false (by omega)
  have e51 : decide (300 < f.ev) = false := decide_eq_false (by omega)
  have hXs : (w.alloc (.cells #[.int .i64 f.id, .int .i64 f.pr, .int .i64 f.ev, .bool true, .string f.fr, .slice A n c] 25)).heap.size = w.heap.size + 1 := by simp
  have HXS := Lib.hid hXs
  have HSX0 := Lib.hid (hS.below HB0.out)
  obtain ⟨wd, hstd, hcbd, hbd⟩ := box25 (w.alloc (.cells #[.int .i64 f.id, .int .i64 f.pr, .int .i64 f.ev, .bool true, .string f.fr, .slice A n c] 25)) (w.heap.size + 1) hXs f.id f.pr f.ev true f.fr A n c
  obtain ⟨g0, g1, g2, g3, g4, g5⟩ := hcbd.six
  have hf1 := hcbd.free 1
  have hf4 := hcbd.free 4
  have hlsd := hcbd.lt
  have HCD : Hid (Cb ((wd.setCell ⟨w.heap.size + 1, 1, none⟩ (.int .i64 oth)).setCell ⟨w.heap.size + 1, 4, none⟩ (.string s)) (w.heap.size + 1) 25 [.int .i64 f.id, .int .i64 oth, .int .i64 f.ev, .bool true, .string s, .slice A n c]) := Lib.hid ((hcbd.setAt 1 _).setAt 4 _)
  have hO : Below (w.alloc (.cells #[.int .i64 f.id, .int .i64 f.pr, .int .i64 f.ev, .bool true, .string f.fr, .slice A n c] 25)).heap.size (w.alloc (.cells #[.int .i64 f.id, .int .i64 f.pr, .int .i64 f.ev, .bool true, .string f.fr, .slice A n c] 25)) ((wd.setCell ⟨w.heap.size + 1, 1, none⟩ (.int .i64 oth)).setCell ⟨w.heap.size + 1, 4, none⟩ (.string s)) := hbd.trans ((((Only.refl (· = w.heap.size + 1) wd).setCell (p := ⟨w.heap.size + 1, 1, none⟩) (.inl rfl) _).setCell (p := ⟨w.heap.size + 1, 4, none⟩) (.inl rfl) _).below hbd.size fun i hi => by have h1 : i = w.heap.size + 1 := hi; omega)
  have HCC : Hid (Cb ((wd.setCell ⟨w.heap.size + 1, 1, none⟩ (.int .i64 oth)).setCell ⟨w.heap.size + 1, 4, none⟩ (.string s)) w.heap.size 25 [.int .i64 f.id, .int .i64 f.pr, .int .i64 f.ev, .bool true, .string f.fr, .slice A n c]) := Lib.hid (Cb.below (Cb.new w [.int .i64 f.id, .int .i64 f.pr, .int .i64 f.ev, .bool true, .string f.fr, .slice A n c] 25) hO)
  have HBX : Hid (Below w.heap.size w ((wd.setCell ⟨w.heap.size + 1, 1, none⟩ (.int .i64 oth)).setCell ⟨w.heap.size + 1, 4, none⟩ (.string s))) := Lib.hid (HB0.out.trans (hO.mono (by omega)))
  have HSX : Hid (Strs ((wd.setCell ⟨w.heap.size + 1, 1, none⟩ (.int .i64 oth)).setCell ⟨w.heap.size + 1, 4, none⟩ (.string s)) A n c f.ads) := Lib.hid (HSX0.out.below hO)
  have HSZX : Hid (w.heap.size + 2 ≤ (((wd.setCell ⟨w.heap.size + 1, 1, none⟩ (.int .i64 oth)).setCell ⟨w.heap.size + 1, 4, none⟩ (.string s))).heap.size) := Lib.hid (by have := HCD.out.lt; omega)
  have HHB := Lib.hid (And.intro hb hbs)
  have HEV : Hid (¬ 300 < f.ev) := Lib.hid h6
  have HP : Hid (¬ f.pr = 255) := Lib.hid h1
  have HO : Hid (1 ≤ oth ∧ oth ≤ 254) := Lib.hid ⟨by omega, by omega⟩
  have HNE : Hid (¬ s = f.fr) := Lib.hid h4
  clear hS hb wa wb wc wo hbs h1 h2 h3 h4 h5 h6 hXs hcbd hbd hO 
  go_enter Try.func7, Try.ntmps7
  go_upto_region 6 with fail
  clear g0 g1 g2 g3 g4 g5 hf1 hf4 hlsd hstd
  generalize ((wd.setCell ⟨w.heap.size + 1, 1, none⟩ (.int .i64 oth)).setCell ⟨w.heap.size + 1, 4, none⟩ (.string s)) = wx at *
  obtain ⟨c0, c1, c2, c3, c4, c5⟩ := HCC.out.six
  obtain ⟨g0, g1, g2, g3, g4, g5⟩ := HCD.out.six
  have HA := Lib.hid (new_none (f := ({ f with pre := true } : Cf)) HSX.out ⟨HHB.out.1.1, HHB.out.1.2⟩ hok)
  clear hok
  go_wp2_with fail
  refine HA.out.mono ?_
  rintro e w7 ⟨rfl, hb7⟩
  obtain ⟨g0, g1, g2, g3, g4, g5⟩ := (HCD.out.below hb7).six
  have HD := Lib.hid (new_wide (f := ({ f with pre := true, pr := oth, fr := s } : Cf)) (HSX.out.below hb7) ⟨HHB.out.2, HHB.out.1.2⟩)
  have HB7 := Lib.hid (below_then HBX.out HBX.out.size hb7)
  clear hb7 c0 c1 c2 c3 c4 c5
  go_wp2_with fail
  refine HD.out.mono ?_
  rintro e w8 ⟨pd, kd, rfl, hb8⟩
  have HB8 := Lib.hid (below_then HB7.out HB7.out.size hb8)
  clear hb8 g0 g1 g2 g3 g4 g5
  go_wp2_with fail
  refine (alive_any _).mono ?_
  rintro e w9 ⟨rfl, hb9⟩
  go_wp2
  go_ret
  exact ⟨rfl, below_then HB8.out HB8.out.size hb9⟩

set_option maxHeartbeats 2000000 in
theorem yields_no2 (f : Cf) (A : Option Addr) (n c : Nat) (oth : Int) (s : ByteArray) (w : World) (hS : Strs w A n c f.ads) (hb : f.fr.size ≤ 140737488351232 ∧ n ≤ 8796093022208) (wa : (Lit.int .i64 f.id).wf = true) (wb : (Lit.int .i64 f.pr).wf = true) (wc : (Lit.int .i64 f.ev).wf = true) (wo : (Lit.int .i64 oth).wf = true) (hbs : s.size ≤ 140737488351232) (h1 : ¬ f.pr = 255) (h2 : ¬ oth < 1) (h3 : ¬ 254 < oth) (h4 : ¬ s = f.fr) (h5 : s.size = f.fr.size) (h6 : ¬ 300 < f.ev) (hok : okN ({ f with pre := true } : Cf) = true) (hok2 : okN ({ f with pre := true, pr := oth, fr := s } : Cf) = false) : Calls Try.prog 7 #[.agg #[.int .i64 f.id, .int .i64 f.pr, .int .i64 f.ev, .bool f.pre, .string f.fr, .slice A n c], .int .i64 oth, .string s] w fun e w' => e = .returned (.bool true) ∧ Below w.heap.size w w' := by
  have HB0 : Hid (Below w.heap.size w (w.alloc (.cells #[.int .i64 f.id, .int .i64 f.pr, .int .i64 f.ev, .bool true, .string f.fr, .slice A n c] 25))) := Lib.hid (below_alloc (Below.refl _ _) _)
  have e00 : (f.pr == 255) = false := by simpa using h1
  have e10 : decide (oth < 1) = false := decide_eq_false (by omega)
  have e20 : decide (oth > 254) = false := decide_eq_false (by omega)
  have e21 : decide (254 < oth) = false := decide_eq_false (by omega)
  have e30 : (s.toList == f.fr.toList) = false := by rw [beq_eq_false_iff_ne]; exact fun e => h4 (toList_inj8 e)
  have e40 : ((s.size : Int) != (f.fr.size : Int)) = false := by simp; omega
  have e50 : decide (f.ev > 300) = false := decide_eq_false (by omega)
  have e51 : decide (300 < f.ev) = false := decide_eq_false (by omega)
  have hXs : (w.alloc (.cells #[.int .i64 f.id, .int .i64 f.pr, .int .i64 f.ev, .bool true, .string f.fr, .slice A n c] 25)).heap.size = w.heap.size + 1 := by simp
  have HXS := Lib.hid hXs
  have HSX0 := Lib.hid (hS.below HB0.out)
  obtain ⟨wd, hstd, hcbd, hbd⟩ := box25 (w.alloc (.cells #[.int .i64 f.id, .int .i64 f.pr, .int .i64 f.ev, .bool true, .string f.fr, .slice A n c] 25)) (w.heap.size + 1) hXs f.id f.pr f.ev true f.fr A n c
  obtain ⟨g0, g1, g2, g3, g4, g5⟩ := hcbd.six
  have hf1 := hcbd.free 1
  have hf4 := hcbd.free 4
  have hlsd := hcbd.lt
  have HCD : Hid (Cb ((wd.setCell ⟨w.heap.size + 1, 1, none⟩ (.int .i64 oth)).setCell ⟨w.heap.size + 1, 4, none⟩ (.string s)) (w.heap.size + 1) 25 [.int .i64 f.id, .int .i64 oth, .int .i64 f.ev, .bool true, .string s, .slice A n c]) := Lib.hid ((hcbd.setAt 1 _).setAt 4 _)
  have hO : Below (w.alloc (.cells #[.int .i64 f.id, .int .i64 f.pr, .int .i64 f.ev, .bool true, .string f.fr, .slice A n c] 25)).heap.size (w.alloc (.cells #[.int .i64 f.id, .int .i64 f.pr, .int .i64 f.ev, .bool true, .string f.fr, .slice A n c] 25)) ((wd.setCell ⟨w.heap.size + 1, 1, none⟩ (.int .i64 oth)).setCell ⟨w.heap.size + 1, 4, none⟩ (.string s)) := hbd.trans ((((Only.refl (· = w.heap.size + 1) wd).setCell (p := ⟨w.heap.size + 1, 1, none⟩) (.inl rfl) _).setCell (p := ⟨w.heap.size + 1, 4, none⟩) (.inl rfl) _).below hbd.size fun i hi => by have h1 : i = w.heap.size + 1 := hi; omega)
  have HCC : Hid (Cb ((wd.setCell ⟨w.heap.size + 1, 1, none⟩ (.int .i64 oth)).setCell ⟨w.heap.size + 1, 4, none⟩ (.string s)) w.heap.size 25 [.int .i64 f.id, .int .i64 f.pr, .int .i64 f.ev, .bool true, .string f.fr, .slice A n c]) := Lib.hid (Cb.below (Cb.new w [.int .i64 f.id, .int .i64 f.pr, .int .i64 f.ev, .bool true, .string f.fr, .slice A n c] 25) hO)
  have HBX : Hid (Below w.heap.size w ((wd.setCell ⟨w.heap.size + 1, 1, none⟩ (.int .i64 oth)).setCell ⟨w.heap.size + 1, 4, none⟩ (.string s))) := Lib.hid (HB0.out.trans (hO.mono (by omega)))
  have HSX : Hid (Strs ((wd.setCell ⟨w.heap.size + 1, 1, none⟩ (.int .i64 oth)).setCell ⟨w.heap.size + 1, 4, none⟩ (.string s)) A n c f.ads) := Lib.hid (HSX0.out.below hO)
  have HSZX : Hid (w.heap.size + 2 ≤ (((wd.setCell ⟨w.heap.size + 1, 1, none⟩ (.int .i64 oth)).setCell ⟨w.heap.size + 1, 4, none⟩ (.string s))).heap.size) := Lib.hid (by have := HCD.out.lt; omega)
  have HHB := Lib.hid (And.intro hb hbs)
  have HEV : Hid (¬ 300 < f.ev) := Lib.hid h6
  have HP : Hid (¬ f.pr = 255) := Lib.hid h1
  have HO : Hid (1 ≤ oth ∧ oth ≤ 254) := Lib.hid ⟨by omega, by omega⟩
  have HNE : Hid (¬ s = f.fr) := Lib.hid h4
  clear hS hb wa wb wc wo hbs h1 h2 h3 h4 h5 h6 hXs hcbd hbd hO 
  go_enter Try.func7, Try.ntmps7
  go_upto_region 6 with fail
  clear g0 g1 g2 g3 g4 g5 hf1 hf4 hlsd hstd
  generalize ((wd.setCell ⟨w.heap.size + 1, 1, none⟩ (.int .i64 oth)).setCell ⟨w.heap.size + 1, 4, none⟩ (.string s)) = wx at *
  obtain ⟨c0, c1, c2, c3, c4, c5⟩ := HCC.out.six
  obtain ⟨g0, g1, g2, g3, g4, g5⟩ := HCD.out.six
  have HA := Lib.hid (new_some (f := ({ f with pre := true } : Cf)) HSX.out ⟨HHB.out.1.1, HHB.out.1.2⟩ hok)
  have HO2 := Lib.hid hok2
  clear hok hok2
  go_wp2_with fail
  refine HA.out.mono ?_
  rintro e w7 ⟨B1, va1, rfl, hM7, hb7⟩
  obtain ⟨g0, g1, g2, g3, g4, g5⟩ := (HCD.out.below hb7).six
  have HD := Lib.hid (new_none (f := ({ f with pre := true, pr := oth, fr := s } : Cf)) (HSX.out.below hb7) ⟨HHB.out.2, HHB.out.1.2⟩ HO2.out)
  have HB7 := Lib.hid (below_then HBX.out HBX.out.size hb7)
  clear hb7 c0 c1 c2 c3 c4 c5 hM7
  go_wp2_with fail
  refine HD.out.mono ?_
  rintro e w8 ⟨rfl, hb8⟩
  have HB8 := Lib.hid (below_then HB7.out HB7.out.size hb8)
  clear hb8 g0 g1 g2 g3 g4 g5
  go_wp2_with fail
  refine (alive_any _).mono ?_
  rintro e w9 ⟨rfl, hb9⟩
  go_wp2
  go_ret
  exact ⟨rfl, below_then HB8.out HB8.out.size hb9⟩

set_option maxHeartbeats 4000000 in
theorem yields_run (f : Cf) (A : Option Addr) (n c : Nat) (oth : Int) (s : ByteArray) (w : World) (hS : Strs w A n c f.ads) (hb : f.fr.size ≤ 140737488351232 ∧ n ≤ 8796093022208) (wa : (Lit.int .i64 f.id).wf = true) (wb : (Lit.int .i64 f.pr).wf = true) (wc : (Lit.int .i64 f.ev).wf = true) (wo : (Lit.int .i64 oth).wf = true) (hbs : s.size ≤ 140737488351232) (h1 : ¬ f.pr = 255) (h2 : ¬ oth < 1) (h3 : ¬ 254 < oth) (h4 : ¬ s = f.fr) (h5 : s.size = f.fr.size) (h6 : ¬ 300 < f.ev) (hok : okN ({ f with pre := true } : Cf) = true) (hok2 : okN ({ f with pre := true, pr := oth, fr := s } : Cf) = true) : Calls Try.prog 7 #[.agg #[.int .i64 f.id, .int .i64 f.pr, .int .i64 f.ev, .bool f.pre, .string f.fr, .slice A n c], .int .i64 oth, .string s] w fun e w' => e = .returned (.bool true) ∧ Below w.heap.size w w' := by
  have HB0 : Hid (Below w.heap.size w (w.alloc (.cells #[.int .i64 f.id, .int .i64 f.pr, .int .i64 f.ev, .bool true, .string f.fr, .slice A n c] 25))) := Lib.hid (below_alloc (Below.refl _ _) _)
  have e00 : (f.pr == 255) = false := by simpa using h1
  have e10 : decide (oth < 1) = false := decide_eq_false (by omega)
  have e20 : decide (oth > 254) = false := decide_eq_false (by omega)
  have e21 : decide (254 < oth) = false := decide_eq_false (by omega)
  have e30 : (s.toList == f.fr.toList) = false := by rw [beq_eq_false_iff_ne]; exact fun e => h4 (toList_inj8 e)
  have e40 : ((s.size : Int) != (f.fr.size : Int)) = false := by simp; omega
  have e50 : decide (f.ev > 300) = false := decide_eq_false (by omega)
  have e51 : decide (300 < f.ev) = false := decide_eq_false (by omega)
  have hXs : (w.alloc (.cells #[.int .i64 f.id, .int .i64 f.pr, .int .i64 f.ev, .bool true, .string f.fr, .slice A n c] 25)).heap.size = w.heap.size + 1 := by simp
  have HXS := Lib.hid hXs
  have HSX0 := Lib.hid (hS.below HB0.out)
  obtain ⟨wd, hstd, hcbd, hbd⟩ := box25 (w.alloc (.cells #[.int .i64 f.id, .int .i64 f.pr, .int .i64 f.ev, .bool true, .string f.fr, .slice A n c] 25)) (w.heap.size + 1) hXs f.id f.pr f.ev true f.fr A n c
  obtain ⟨g0, g1, g2, g3, g4, g5⟩ := hcbd.six
  have hf1 := hcbd.free 1
  have hf4 := hcbd.free 4
  have hlsd := hcbd.lt
  have HCD : Hid (Cb ((wd.setCell ⟨w.heap.size + 1, 1, none⟩ (.int .i64 oth)).setCell ⟨w.heap.size + 1, 4, none⟩ (.string s)) (w.heap.size + 1) 25 [.int .i64 f.id, .int .i64 oth, .int .i64 f.ev, .bool true, .string s, .slice A n c]) := Lib.hid ((hcbd.setAt 1 _).setAt 4 _)
  have hO : Below (w.alloc (.cells #[.int .i64 f.id, .int .i64 f.pr, .int .i64 f.ev, .bool true, .string f.fr, .slice A n c] 25)).heap.size (w.alloc (.cells #[.int .i64 f.id, .int .i64 f.pr, .int .i64 f.ev, .bool true, .string f.fr, .slice A n c] 25)) ((wd.setCell ⟨w.heap.size + 1, 1, none⟩ (.int .i64 oth)).setCell ⟨w.heap.size + 1, 4, none⟩ (.string s)) := hbd.trans ((((Only.refl (· = w.heap.size + 1) wd).setCell (p := ⟨w.heap.size + 1, 1, none⟩) (.inl rfl) _).setCell (p := ⟨w.heap.size + 1, 4, none⟩) (.inl rfl) _).below hbd.size fun i hi => by have h1 : i = w.heap.size + 1 := hi; omega)
  have HCC : Hid (Cb ((wd.setCell ⟨w.heap.size + 1, 1, none⟩ (.int .i64 oth)).setCell ⟨w.heap.size + 1, 4, none⟩ (.string s)) w.heap.size 25 [.int .i64 f.id, .int .i64 f.pr, .int .i64 f.ev, .bool true, .string f.fr, .slice A n c]) := Lib.hid (Cb.below (Cb.new w [.int .i64 f.id, .int .i64 f.pr, .int .i64 f.ev, .bool true, .string f.fr, .slice A n c] 25) hO)
  have HBX : Hid (Below w.heap.size w ((wd.setCell ⟨w.heap.size + 1, 1, none⟩ (.int .i64 oth)).setCell ⟨w.heap.size + 1, 4, none⟩ (.string s))) := Lib.hid (HB0.out.trans (hO.mono (by omega)))
  have HSX : Hid (Strs ((wd.setCell ⟨w.heap.size + 1, 1, none⟩ (.int .i64 oth)).setCell ⟨w.heap.size + 1, 4, none⟩ (.string s)) A n c f.ads) := Lib.hid (HSX0.out.below hO)
  have HSZX : Hid (w.heap.size + 2 ≤ (((wd.setCell ⟨w.heap.size + 1, 1, none⟩ (.int .i64 oth)).setCell ⟨w.heap.size + 1, 4, none⟩ (.string s))).heap.size) := Lib.hid (by have := HCD.out.lt; omega)
  have HHB := Lib.hid (And.intro hb hbs)
  have HEV : Hid (¬ 300 < f.ev) := Lib.hid h6
  have HP : Hid (¬ f.pr = 255) := Lib.hid h1
  have HO : Hid (1 ≤ oth ∧ oth ≤ 254) := Lib.hid ⟨by omega, by omega⟩
  have HNE : Hid (¬ s = f.fr) := Lib.hid h4
  clear hS hb wa wb wc wo hbs h1 h2 h3 h4 h5 h6 hXs hcbd hbd hO 
  go_enter Try.func7, Try.ntmps7
  go_upto_region 6 with fail
  clear g0 g1 g2 g3 g4 g5 hf1 hf4 hlsd hstd
  generalize ((wd.setCell ⟨w.heap.size + 1, 1, none⟩ (.int .i64 oth)).setCell ⟨w.heap.size + 1, 4, none⟩ (.string s)) = wx at *
  obtain ⟨c0, c1, c2, c3, c4, c5⟩ := HCC.out.six
  obtain ⟨g0, g1, g2, g3, g4, g5⟩ := HCD.out.six
  have HA := Lib.hid (new_some (f := ({ f with pre := true } : Cf)) HSX.out ⟨HHB.out.1.1, HHB.out.1.2⟩ hok)
  have HO1 := Lib.hid hok
  have HO2 := Lib.hid hok2
  clear hok hok2
  go_wp2_with fail
  refine HA.out.mono ?_
  rintro e w7 ⟨B1, va1, rfl, hM7, hb7⟩
  obtain ⟨g0, g1, g2, g3, g4, g5⟩ := (HCD.out.below hb7).six
  have HD := Lib.hid (new_some (f := ({ f with pre := true, pr := oth, fr := s } : Cf)) (HSX.out.below hb7) ⟨HHB.out.2, HHB.out.1.2⟩ HO2.out)
  have HB7 := Lib.hid (below_then HBX.out HBX.out.size hb7)
  have HCC7 := Lib.hid (HCC.out.below hb7)
  have HCD7 := Lib.hid (HCD.out.below hb7)
  have HM7 := Lib.hid hM7
  have HS7 : Hid (w.heap.size + 2 ≤ w7.heap.size) := Lib.hid (Nat.le_trans HSZX.out hb7.size)
  clear hb7 c0 c1 c2 c3 c4 c5 hM7
  go_wp2_with fail
  refine HD.out.mono ?_
  rintro e w8 ⟨B2, va2, rfl, hM8, hb8⟩
  have HB8 := Lib.hid (HB7.out.trans (hb8.mono (by have := HS7.out; omega)))
  have HCC8 := Lib.hid (HCC7.out.below hb8)
  have HMA8 := Lib.hid (HM7.out.below hb8)
  have HMB8 := Lib.hid hM8
  have HS8 : Hid (w.heap.size + 2 ≤ w8.heap.size) := Lib.hid (Nat.le_trans HS7.out hb8.size)
  have HBB : Hid (w.heap.size + 2 ≤ B1 ∧ B1 < B2) := Lib.hid (by have h1 := HM7.out.lo; have h2 := HM7.out.blk.lt; have h3 := hM8.lo; have := HSZX.out; omega)
  clear hb8 g0 g1 g2 g3 g4 g5 hM8
  go_wp2_with fail
  have HG9 : Hid (Cb (w8.alloc (.cells #[.pointer (some ⟨B1, 0, none⟩), .pointer (some ⟨B2, 0, none⟩)] 27)) w8.heap.size 27 [.pointer (some ⟨B1, 0, none⟩), .pointer (some ⟨B2, 0, none⟩)]) := Lib.hid (Cb.new w8 [.pointer (some ⟨B1, 0, none⟩), .pointer (some ⟨B2, 0, none⟩)] 27)
  have hb9 : Below w8.heap.size w8 (w8.alloc (.cells #[.pointer (some ⟨B1, 0, none⟩), .pointer (some ⟨B2, 0, none⟩)] 27)) := below_alloc (Below.refl _ _) _
  have H2 : Hid (Two w w8.heap.size wx.heap.size w7.heap.size B1 B2 [.int .i64 f.id, .int .i64 f.pr, .int .i64 f.ev, .bool true, .string f.fr, .slice A n c] (newM ({ f with pre := true } : Cf)) (newM ({ f with pre := true, pr := oth, fr := s } : Cf)) (w8.alloc (.cells #[.pointer (some ⟨B1, 0, none⟩), .pointer (some ⟨B2, 0, none⟩)] 27))) := Lib.hid ⟨HG9.out, HCC8.out.below hb9, below_then HB8.out HB8.out.size hb9, ⟨_, HMA8.out.below hb9⟩, ⟨_, HMB8.out.below hb9⟩, ⟨HSZX.out, HMA8.out.lo, HM7.out.blk.lt, HMB8.out.lo, HMB8.out.blk.lt⟩⟩
  clear hb9 HG9 HMA8 HMB8 HB8 HCC8 HS8 HBB HD HA HB7 HCC7 HCD7 HM7 HS7 HSX HSZX HBX HCC HCD HSX0 HXS HB0
  generalize w8.alloc (.cells #[.pointer (some ⟨B1, 0, none⟩), .pointer (some ⟨B2, 0, none⟩)] 27) = w9 at *
  generalize w8.heap.size = G at *
  generalize wx.heap.size = b1 at *
  generalize w7.heap.size = b2 at *
  have HKE : Hid (1 ≤ f.ev ∧ f.ev ≤ 300) := Lib.hid ⟨(okN_ok HO1.out).ev.1, by have := HEV.out; omega⟩
  obtain ⟨K, hK⟩ : ∃ K : Nat, 4 * f.ev = (K : Int) := ⟨(4 * f.ev).toNat, by have := HKE.out; omega⟩
  have HK := Lib.hid hK
  have HKB : Hid (K ≤ 1200) := Lib.hid (by have := HKE.out; omega)
  have HWK : Hid (wrap64 (4 * f.ev) = (K : Int)) := Lib.hid (by rw [hK]; have := HKB.out; unfold wrap64; omega)
  clear hK
  go_loopg [83] 2 (fun gg x wr => YlRel w G b1 b2 B1 B2 [.int .i64 f.id, .int .i64 f.pr, .int .i64 f.ev, .bool true, .string f.fr, .slice A n c] ({ f with pre := true } : Cf) ({ f with pre := true, pr := oth, fr := s } : Cf) gg x wr)
  case atStart => exact .inl ⟨rfl, rfl, H2.out⟩
  case round =>
    clear H2
    rcases hrel with ⟨rfl, rfl, ht⟩ | ⟨rfl, rfl, m1, hma, ht⟩ | ⟨rfl, rfl, m1, m2, hma, hmb, ht⟩
    · have HT := Lib.hid ht

      have HOKf := Lib.hid (okN_ok HO1.out)
      have HSS := Lib.hid (start_any ht.one.mm (by simp [newM]))
      rw [bk_start (by exact fun h => HP.out h)] at HSS
      obtain ⟨r0, r1⟩ : wr.cell? ⟨G, 0, none⟩ = some (.pointer (some ⟨B1, 0, none⟩)) ∧ wr.cell? ⟨G, 1, none⟩ = some (.pointer (some ⟨B2, 0, none⟩)) := ⟨ht.row.cell 0, ht.row.cell 1⟩
      clear ht
      go_wp2_with fail
      refine HSS.out.mono ?_
      rintro e w5 ⟨rfl, hm5, hk5⟩
      have HM5 := Lib.hid hm5
      have HK5 := Lib.hid hk5
      have hbx5 := hk5.cb HT.out.box (by have := HT.out.ord; omega) (fun _ => by decide)
      obtain ⟨c0, c1, c2, c3, c4, c5⟩ := hbx5.six
      clear hm5 hk5 hbx5 r0 r1
      go_wp2_with fail
      go_loopg [92] K (fun gg x wr => TkRel b1 B1 (bkM ({ f with pre := true } : Cf)) w5 K gg x wr)
      case atStart => exact ⟨0, by omega, rfl, HM5.out, Kp.refl _ _ _⟩
      case round =>
        obtain ⟨i, hi, rfl, hm, hk⟩ := hrel
        have HMi := Lib.hid hm
        have HKi := Lib.hid hk
        clear hk
        by_cases hlt : i < K
        · have hlt1 : (i : Int) < wrap64 (4 * f.ev) := by rw [HWK.out]; omega
          have e9 : decide ((i : Int) < wrap64 (4 * f.ev)) = true := decide_eq_true hlt1
          have HTk := Lib.hid (tick_any hm (OkT.ticks i HM5.out.ok (OkT.follow _ _)) (by have := out_ticks i (bkM ({ f with pre := true } : Cf)); have h0 : (bkM ({ f with pre := true } : Cf)).out.length = 0 := rfl; have := HKB.out; omega))
          have HW : Hid (Value.int .i64 (wrap64 ((i : Int) + 1)) = .int .i64 ((i + 1 : Nat) : Int)) := Lib.hid (by congr 1; have := HKB.out; unfold wrap64; omega)
          clear hm
          go_wp2_with fail
          refine HTk.out.mono ?_
          rintro e w6 ⟨rfl, hm6, hk6⟩
          go_wp2
          go_roundg (K - (i + 1))
          case measure => omega
          case rel => exact ⟨i + 1, by omega, HW.out, by rw [ticks_next]; exact hm6, HKi.out.trans hk6⟩
        · obtain rfl : i = K := by omega
          have hlt1 : ¬ (i : Int) < wrap64 (4 * f.ev) := by rw [HWK.out]; omega
          have e9 : decide ((i : Int) < wrap64 (4 * f.ev)) = false := decide_eq_false hlt1
          have HMS := Lib.hid (mas_of HOKf.out HK.out)
          obtain ⟨va6, vo6, l6, hS6⟩ := hm
          obtain ⟨ao6, co6, rfl, -, -⟩ := row_any hS6.row
          have HO6 := Lib.hid (out_any hS6)
          clear hS6
          go_wp2_with fail
          refine HO6.out.mono ?_
          rintro e w7 ⟨rfl, hm7, -, -, hk7⟩
          have HM7 := Lib.hid hm7
          have HKA := Lib.hid (HK5.out.trans (HKi.out.trans hk7))
          have d6 := hm7.mm.cells.2.1
          rw [HMS.out.st] at d6
          have HSt := Lib.hid (state_any d6)
          clear hm7 hk7 d6
          go_wp2_with fail
          refine HSt.out.mono ?_
          rintro e w' ⟨rfl, rfl⟩
          go_wp2
          go_roundg 1
          case measure => omega
          case rel => exact .inr (.inl ⟨rfl, rfl, _, HMS.out, ⟨HKA.out.cb HT.out.row (by have := HT.out.ord; omega) (fun _ => by decide), HKA.out.cb HT.out.box (by have := HT.out.ord; omega) (fun _ => by decide), HT.out.low.trans (HKA.out.below (by have := HT.out.ord; omega) (by have := HT.out.ord; omega) HT.out.low.size), ⟨_, HM7.out⟩, HT.out.two.kept HKA.out (by have := HT.out.ord; omega) HT.out.one.mm, HT.out.ord⟩⟩)
    · have HT := Lib.hid ht
      have HMA := Lib.hid hma
      clear hma
      have HOKf := Lib.hid (okN_ok HO2.out)
      have HSS := Lib.hid (start_any ht.two.mm (by simp [newM]))
      rw [bk_start (by have := HO.out; show ¬ oth = 255; omega)] at HSS
      obtain ⟨r0, r1⟩ : wr.cell? ⟨G, 0, none⟩ = some (.pointer (some ⟨B1, 0, none⟩)) ∧ wr.cell? ⟨G, 1, none⟩ = some (.pointer (some ⟨B2, 0, none⟩)) := ⟨ht.row.cell 0, ht.row.cell 1⟩
      clear ht
      go_wp2_with fail
      refine HSS.out.mono ?_
      rintro e w5 ⟨rfl, hm5, hk5⟩
      have HM5 := Lib.hid hm5
      have HK5 := Lib.hid hk5
      have hbx5 := hk5.cb HT.out.box (by have := HT.out.ord; omega) (fun _ => by decide)
      obtain ⟨c0, c1, c2, c3, c4, c5⟩ := hbx5.six
      clear hm5 hk5 hbx5 r0 r1
      go_wp2_with fail
      go_loopg [92] K (fun gg x wr => TkRel b2 B2 (bkM ({ f with pre := true, pr := oth, fr := s } : Cf)) w5 K gg x wr)
      case atStart => exact ⟨0, by omega, rfl, HM5.out, Kp.refl _ _ _⟩
      case round =>
        obtain ⟨i, hi, rfl, hm, hk⟩ := hrel
        have HMi := Lib.hid hm
        have HKi := Lib.hid hk
        clear hk
        by_cases hlt : i < K
        · have hlt1 : (i : Int) < wrap64 (4 * f.ev) := by rw [HWK.out]; omega
          have e9 : decide ((i : Int) < wrap64 (4 * f.ev)) = true := decide_eq_true hlt1
          have HTk := Lib.hid (tick_any hm (OkT.ticks i HM5.out.ok (OkT.follow _ _)) (by have := out_ticks i (bkM ({ f with pre := true, pr := oth, fr := s } : Cf)); have h0 : (bkM ({ f with pre := true, pr := oth, fr := s } : Cf)).out.length = 0 := rfl; have := HKB.out; omega))
          have HW : Hid (Value.int .i64 (wrap64 ((i : Int) + 1)) = .int .i64 ((i + 1 : Nat) : Int)) := Lib.hid (by congr 1; have := HKB.out; unfold wrap64; omega)
          clear hm
          go_wp2_with fail
          refine HTk.out.mono ?_
          rintro e w6 ⟨rfl, hm6, hk6⟩
          go_wp2
          go_roundg (K - (i + 1))
          case measure => omega
          case rel => exact ⟨i + 1, by omega, HW.out, by rw [ticks_next]; exact hm6, HKi.out.trans hk6⟩
        · obtain rfl : i = K := by omega
          have hlt1 : ¬ (i : Int) < wrap64 (4 * f.ev) := by rw [HWK.out]; omega
          have e9 : decide ((i : Int) < wrap64 (4 * f.ev)) = false := decide_eq_false hlt1
          have HMS := Lib.hid (mas_of HOKf.out HK.out)
          obtain ⟨va6, vo6, l6, hS6⟩ := hm
          obtain ⟨ao6, co6, rfl, -, -⟩ := row_any hS6.row
          have HO6 := Lib.hid (out_any hS6)
          clear hS6
          go_wp2_with fail
          refine HO6.out.mono ?_
          rintro e w7 ⟨rfl, hm7, -, -, hk7⟩
          have HM7 := Lib.hid hm7
          have HKA := Lib.hid (HK5.out.trans (HKi.out.trans hk7))
          have d6 := hm7.mm.cells.2.1
          rw [HMS.out.st] at d6
          have HSt := Lib.hid (state_any d6)
          clear hm7 hk7 d6
          go_wp2_with fail
          refine HSt.out.mono ?_
          rintro e w' ⟨rfl, rfl⟩
          go_wp2
          go_roundg 0
          case measure => omega
          case rel => exact .inr (.inr ⟨rfl, rfl, _, _, HMA.out, HMS.out, ⟨HKA.out.cb HT.out.row (by have := HT.out.ord; omega) (fun _ => by decide), HKA.out.cb HT.out.box (by have := HT.out.ord; omega) (fun _ => by decide), HT.out.low.trans (HKA.out.below (by have := HT.out.ord; omega) (by have := HT.out.ord; omega) HT.out.low.size), HT.out.one.kept HKA.out (by have := HT.out.ord; omega) HT.out.two.mm, ⟨_, HM7.out⟩, HT.out.ord⟩⟩)
    · have HT := Lib.hid ht
      have HMA := Lib.hid hma
      have HMB := Lib.hid hmb
      obtain ⟨c0, c1, c2, c3, c4, c5⟩ := ht.box.six
      clear ht hma hmb
      obtain ⟨w10, hst10, hcb10, hb10⟩ := box55 wr f.id f.pr f.ev A n c
      obtain ⟨w11, hst11, hcb11, hb11⟩ := box55 w10 f.id f.pr f.ev A n c
      obtain ⟨g0, g1, g2, g3⟩ := hcb10.four
      have hls10 := hcb10.lt
      have hf11 := hcb11.free 1
      have hls11 := hcb11.lt
      obtain ⟨k0, k1, k2, k3⟩ := hcb11.four
      have HC12 : Hid (Cb (w11.setCell ⟨w10.heap.size, 1, none⟩ (.int .i64 oth)) w10.heap.size 55 [.int .i64 f.id, .int .i64 oth, .int .i64 f.ev, .slice A n c]) := Lib.hid (hcb11.setAt 1 _)
      have hO12 : Below w10.heap.size w10 (w11.setCell ⟨w10.heap.size, 1, none⟩ (.int .i64 oth)) := hb11.trans (((Only.refl (· = w10.heap.size) w11).setCell (p := ⟨w10.heap.size, 1, none⟩) (.inl rfl) _).below hb11.size fun i hi => by have h1 : i = w10.heap.size := hi; omega)
      have HCX : Hid (Cb (w11.setCell ⟨w10.heap.size, 1, none⟩ (.int .i64 oth)) wr.heap.size 55 [.int .i64 f.id, .int .i64 f.pr, .int .i64 f.ev, .slice A n c]) := Lib.hid (hcb10.below hO12)
      have hbw : Below wr.heap.size wr (w11.setCell ⟨w10.heap.size, 1, none⟩ (.int .i64 oth)) := hb10.trans (hO12.mono hb10.size)
      have HBX := Lib.hid (HT.out.box.below hbw)
      have HQ1 := Lib.hid (HT.out.one.below hbw)
      have HQ2 := Lib.hid (HT.out.two.below hbw)
      have HLW := Lib.hid (below_then HT.out.low HT.out.low.size hbw)
      have HGL : Hid (B2 < wr.heap.size) := Lib.hid HT.out.two.mm.lt
      clear hcb10 hcb11 hb10 hb11 hO12 hbw
      go_upto_region 25 with fail
      clear g0 g1 g2 g3 k0 k1 k2 k3 c0 c1 c2 c3 c4 c5 hf11 hls10 hls11 hst10 hst11
      generalize w11.setCell ⟨w10.heap.size, 1, none⟩ (.int .i64 oth) = w12 at *
      generalize w10.heap.size = F at *
      obtain ⟨k0, k1, k2, k3⟩ := HC12.out.four
      have hT1 := take_any (A := A) (n := n) (c := c) HQ1.out.mm s ⟨f.id, oth, f.ev, f.ads⟩ (by rw [HMA.out.out]; simp)
      have HT1 := Lib.hid hT1
      clear hT1
      go_wp2_with fail
      refine HT1.out.mono ?_
      rintro e w13 ⟨rfl, hm13, hk13⟩
      have HQ13 := Lib.hid (HQ2.out.kept hk13 (by have := HT.out.ord; omega) HQ1.out.mm)
      have HE13 := Lib.hid (hk13.cb HCX.out (by have := HT.out.ord; have := HGL.out; omega) (fun _ => by decide))
      have HBX13 := Lib.hid (hk13.cb HBX.out (by have := HT.out.ord; omega) (fun _ => by decide))
      have HL13 := Lib.hid (HLW.out.trans (hk13.below (by have := HT.out.ord; omega) (by have := HT.out.ord; omega) HLW.out.size))
      obtain ⟨va13, vo13, l13, hS13⟩ := hm13
      have HA13 := Lib.hid hS13.blk
      obtain ⟨g0, g1, g2, g3⟩ := HE13.out.four
      obtain ⟨c0, c1, c2, c3, c4, c5⟩ := HBX13.out.six
      have HT2 := Lib.hid (take_any (A := A) (n := n) (c := c) HQ13.out.mm f.fr ⟨f.id, f.pr, f.ev, f.ads⟩ (by rw [HMB.out.out]; simp))
      clear hS13 hk13 k0 k1 k2 k3 HT1
      go_wp2_with fail
      refine HT2.out.mono ?_
      rintro e w14 ⟨rfl, hm14, hk14⟩
      have HA14 := Lib.hid (hk14.cb HA13.out (by have := HT.out.ord; omega) (fun _ => by decide))
      have HBX14 := Lib.hid (hk14.cb HBX13.out (by have := HT.out.ord; omega) (fun _ => by decide))
      have HL14 := Lib.hid (HL13.out.trans (hk14.below (by have := HT.out.ord; omega) (by have := HT.out.ord; omega) HL13.out.size))
      have HB14 := Lib.hid hm14
      obtain ⟨c0, c1, c2, c3, c4, c5⟩ := HBX14.out.six
      have hs1 := yield_st HMA.out s ⟨f.id, oth, f.ev, f.ads⟩ rfl (by have := HO.out; show ¬ oth = 0; omega)
      have hs2 := yield_st HMB.out f.fr ⟨f.id, f.pr, f.ev, f.ads⟩ rfl (by have h := (okN_ok HO1.out).pr; have h' : 1 ≤ f.pr ∧ f.pr ≤ 255 := h; show ¬ f.pr = 0; omega)
      have hs1' : (takeM m1 s ⟨f.id, oth, f.ev, f.ads⟩).st = if f.pr < oth ∨ (oth = f.pr ∧ lt8 f.fr s = true) then 2 else 3 := hs1
      have hs2' : (takeM m2 f.fr ⟨f.id, f.pr, f.ev, f.ads⟩).st = if oth < f.pr ∨ (f.pr = oth ∧ lt8 s f.fr = true) then 2 else 3 := hs2
      have HS1 := Lib.hid hs1'
      have HS2 := Lib.hid hs2'
      clear hm14 hk14 g0 g1 g2 g3 hs1 hs2 hs1' hs2' HT2
      by_cases hgt : oth < f.pr
      · have hst1 : (takeM m1 s ⟨f.id, oth, f.ev, f.ads⟩).st = 3 := by rw [HS1.out, if_neg (by omega)]
        have hst2 : (takeM m2 f.fr ⟨f.id, f.pr, f.ev, f.ads⟩).st = 2 := by rw [HS2.out, if_pos (.inl hgt)]
        have v1 : decide (f.pr > oth) = true := decide_eq_true hgt
        have v1' : decide (oth < f.pr) = true := decide_eq_true hgt
        clear hgt
        have HST1 := Lib.hid hst1
        have HST2 := Lib.hid hst2
        clear hst1 hst2
        go_wp2_with fail
        refine (alive_any w14).mono ?_
        rintro e w15 ⟨rfl, hb15⟩
        have HA15 := Lib.hid (HA14.out.below hb15)
        have HB15 := Lib.hid (HB14.out.below hb15)
        have HL15 := Lib.hid (below_then HL14.out HL14.out.size hb15)
        have d6 : w15.cell? ⟨B1, 6, none⟩ = some (.int .i64 (takeM m1 s ⟨f.id, oth, f.ev, f.ads⟩).st) := HA15.out.cell 6
        rw [HST1.out] at d6
        have HSa := Lib.hid (state_any d6)
        have d6' := HB15.out.cells.2.1
        rw [HST2.out] at d6'
        have HSb := Lib.hid (state_any d6')
        clear hb15 d6 d6'
        go_wp2_with fail
        refine HSa.out.mono ?_
        rintro e w' ⟨rfl, rfl⟩
        go_wp2_with fail
        refine HSb.out.mono ?_
        rintro e w' ⟨rfl, rfl⟩
        go_wp2
        go_ret
        exact ⟨rfl, HL15.out⟩
      have v1 : decide (f.pr > oth) = false := decide_eq_false hgt
      have v1' : decide (oth < f.pr) = false := decide_eq_false hgt
      by_cases heq : f.pr = oth
      case neg =>
        have hst1 : (takeM m1 s ⟨f.id, oth, f.ev, f.ads⟩).st = 2 := by rw [HS1.out, if_pos (.inl (by omega))]
        have hst2 : (takeM m2 f.fr ⟨f.id, f.pr, f.ev, f.ads⟩).st = 3 := by rw [HS2.out, if_neg (by omega)]
        have v2 : (f.pr == oth) = false := beq_eq_false_iff_ne.2 heq
        clear hgt heq
        have HST1 := Lib.hid hst1
        have HST2 := Lib.hid hst2
        clear hst1 hst2
        go_wp2_with fail
        refine (alive_any w14).mono ?_
        rintro e w15 ⟨rfl, hb15⟩
        have HA15 := Lib.hid (HA14.out.below hb15)
        have HB15 := Lib.hid (HB14.out.below hb15)
        have HL15 := Lib.hid (below_then HL14.out HL14.out.size hb15)
        have d6 : w15.cell? ⟨B1, 6, none⟩ = some (.int .i64 (takeM m1 s ⟨f.id, oth, f.ev, f.ads⟩).st) := HA15.out.cell 6
        rw [HST1.out] at d6
        have HSa := Lib.hid (state_any d6)
        have d6' := HB15.out.cells.2.1
        rw [HST2.out] at d6'
        have HSb := Lib.hid (state_any d6')
        clear hb15 d6 d6'
        go_wp2_with fail
        refine HSa.out.mono ?_
        rintro e w' ⟨rfl, rfl⟩
        go_wp2_with fail
        refine HSb.out.mono ?_
        rintro e w' ⟨rfl, rfl⟩
        go_wp2
        go_ret
        exact ⟨rfl, HL15.out⟩
      have v2 : (f.pr == oth) = true := beq_iff_eq.2 heq
      have HEQ := Lib.hid heq
      clear hgt heq
      cases hlt : lt8 s f.fr
      · have v3 := gtr_addr (x := f.fr) (y := s) false hlt
        have hlt2 : lt8 f.fr s = true := by
          cases h : lt8 f.fr s
          · exact absurd (lt8_tri hlt h) HNE.out
          · rfl
        have hst1 : (takeM m1 s ⟨f.id, oth, f.ev, f.ads⟩).st = 2 := by rw [HS1.out, if_pos (.inr ⟨HEQ.out.symm, hlt2⟩)]
        have hst2 : (takeM m2 f.fr ⟨f.id, f.pr, f.ev, f.ads⟩).st = 3 := by rw [HS2.out, if_neg (by rw [hlt]; have := HEQ.out; simp; omega)]
        clear hlt hlt2
        have HST1 := Lib.hid hst1
        have HST2 := Lib.hid hst2
        clear hst1 hst2
        go_wp2_with fail
        refine (alive_any w14).mono ?_
        rintro e w15 ⟨rfl, hb15⟩
        have HA15 := Lib.hid (HA14.out.below hb15)
        have HB15 := Lib.hid (HB14.out.below hb15)
        have HL15 := Lib.hid (below_then HL14.out HL14.out.size hb15)
        have d6 : w15.cell? ⟨B1, 6, none⟩ = some (.int .i64 (takeM m1 s ⟨f.id, oth, f.ev, f.ads⟩).st) := HA15.out.cell 6
        rw [HST1.out] at d6
        have HSa := Lib.hid (state_any d6)
        have d6' := HB15.out.cells.2.1
        rw [HST2.out] at d6'
        have HSb := Lib.hid (state_any d6')
        clear hb15 d6 d6'
        go_wp2_with fail
        refine HSa.out.mono ?_
        rintro e w' ⟨rfl, rfl⟩
        go_wp2_with fail
        refine HSb.out.mono ?_
        rintro e w' ⟨rfl, rfl⟩
        go_wp2
        go_ret
        exact ⟨rfl, HL15.out⟩
      · have v3 := gtr_addr (x := f.fr) (y := s) true hlt
        have hlt2 : lt8 f.fr s = false := lt8_asym hlt
        have hst1 : (takeM m1 s ⟨f.id, oth, f.ev, f.ads⟩).st = 3 := by rw [HS1.out, if_neg (by rw [hlt2]; have := HEQ.out; simp; omega)]
        have hst2 : (takeM m2 f.fr ⟨f.id, f.pr, f.ev, f.ads⟩).st = 2 := by rw [HS2.out, if_pos (.inr ⟨HEQ.out, hlt⟩)]
        clear hlt hlt2
        have HST1 := Lib.hid hst1
        have HST2 := Lib.hid hst2
        clear hst1 hst2
        go_wp2_with fail
        refine (alive_any w14).mono ?_
        rintro e w15 ⟨rfl, hb15⟩
        have HA15 := Lib.hid (HA14.out.below hb15)
        have HB15 := Lib.hid (HB14.out.below hb15)
        have HL15 := Lib.hid (below_then HL14.out HL14.out.size hb15)
        have d6 : w15.cell? ⟨B1, 6, none⟩ = some (.int .i64 (takeM m1 s ⟨f.id, oth, f.ev, f.ads⟩).st) := HA15.out.cell 6
        rw [HST1.out] at d6
        have HSa := Lib.hid (state_any d6)
        have d6' := HB15.out.cells.2.1
        rw [HST2.out] at d6'
        have HSb := Lib.hid (state_any d6')
        clear hb15 d6 d6'
        go_wp2_with fail
        refine HSa.out.mono ?_
        rintro e w' ⟨rfl, rfl⟩
        go_wp2_with fail
        refine HSb.out.mono ?_
        rintro e w' ⟨rfl, rfl⟩
        go_wp2
        go_ret
        exact ⟨rfl, HL15.out⟩

/-- VrrpYields. -/
theorem yields_walk (f : Cf) (A : Option Addr) (n c : Nat) (oth : Int) (s : ByteArray) (w : World) (hS : Strs w A n c f.ads) (hb : f.fr.size ≤ 140737488351232 ∧ n ≤ 8796093022208) (wa : (Lit.int .i64 f.id).wf = true) (wb : (Lit.int .i64 f.pr).wf = true) (wc : (Lit.int .i64 f.ev).wf = true) (wo : (Lit.int .i64 oth).wf = true) (hbs : s.size ≤ 140737488351232) : Calls Try.prog 7 #[.agg #[.int .i64 f.id, .int .i64 f.pr, .int .i64 f.ev, .bool f.pre, .string f.fr, .slice A n c], .int .i64 oth, .string s] w fun e w' => e = .returned (.bool true) ∧ Below w.heap.size w w' := by
  by_cases h1 : f.pr = 255
  · exact yields_out1 f A n c oth s w hS hb wa wb wc wo hbs h1
  by_cases h2 : oth < 1
  · exact yields_out2 f A n c oth s w hS hb wa wb wc wo hbs h1 h2
  by_cases h3 : 254 < oth
  · exact yields_out3 f A n c oth s w hS hb wa wb wc wo hbs h1 h2 h3
  by_cases h4 : s = f.fr
  · exact yields_out4 f A n c oth s w hS hb wa wb wc wo hbs h1 h2 h3 h4
  by_cases h5 : s.size = f.fr.size
  case neg => exact yields_out5 f A n c oth s w hS hb wa wb wc wo hbs h1 h2 h3 h4 h5
  by_cases h6 : 300 < f.ev
  · exact yields_out6 f A n c oth s w hS hb wa wb wc wo hbs h1 h2 h3 h4 h5 h6
  cases hok : okN ({ f with pre := true } : Cf)
  · exact yields_no1 f A n c oth s w hS hb wa wb wc wo hbs h1 h2 h3 h4 h5 h6 hok
  cases hok2 : okN ({ f with pre := true, pr := oth, fr := s } : Cf)
  · exact yields_no2 f A n c oth s w hS hb wa wb wc wo hbs h1 h2 h3 h4 h5 h6 hok hok2
  exact yields_run f A n c oth s w hS hb wa wb wc wo hbs h1 h2 h3 h4 h5 h6 hok hok2
end Go.Proofs.Ytpcdaidgijkkbaa
