/-
  What VrrpClaims does.
-/
import Derived.Test.YtpcdaidgijkkbaaSendsWalk
import Derived.Deep.Cut
namespace Go.Proofs.Ytpcdaidgijkkbaa
open Go.RowKit Go.Maps
set_option linter.unusedVariables false
set_option linter.unusedSimpArgs false
set_option maxRecDepth 40000
attribute [local go_sem ↓] bigS41
attribute [local go_sem ↓] bigS58

/-- What one call (a tick at most) says, and that it claims just as it becomes master. -/
def Shape (m m' : Mc) (o : Oq) : Prop :=
  m'.c.id = m.c.id ∧ m'.c.ev = m.c.ev ∧ ((m'.out = [] ∧ (m.st = 3 ∨ m'.st ≠ 3)) ∨ (m'.out = [saysV m.c m'.c.pr] ∧ (m.st = 3 ∨ m'.st ≠ 3)) ∨ (m'.out = [saysV m.c m'.c.pr, claimV] ∧ m.st ≠ 3 ∧ m'.st = 3) ∨ (m'.out = [saysV m.c 0] ∧ o.kind = 1 ∧ (m.st = 3 ∨ m'.st ≠ 3)))
theorem shape_self {m : Mc} (h : m.out = []) (o : Oq) : Shape m m o := ⟨rfl, rfl, .inl ⟨h, by omega⟩⟩
theorem shape_follow {m : Mc} (h : m.out = []) (o : Oq) (k : Int) : Shape m (followM m k) o := ⟨rfl, rfl, .inl ⟨h, .inr (by show (2 : Int) ≠ 3; omega)⟩⟩
theorem shape_lead {m : Mc} (h : m.out = []) (o : Oq) (h3 : m.st ≠ 3) : Shape m (leadM m) o := ⟨rfl, rfl, .inr (.inr (.inl ⟨by simp [leadM, h], h3, rfl⟩))⟩
theorem shape_say {m : Mc} (h : m.out = []) (o : Oq) : Shape m (sayM m m.c.pr) o := ⟨rfl, rfl, .inr (.inl ⟨by simp [sayM, h], by show m.st = 3 ∨ m.st ≠ 3; omega⟩)⟩
theorem shape_tick {m : Mc} (h : m.out = []) (o : Oq) : Shape m (tickM m) o := by
  unfold tickM
  split
  · exact shape_self h o
  split
  · exact ⟨rfl, rfl, .inl ⟨h, by show m.st = 3 ∨ m.st ≠ 3; omega⟩⟩
  split
  · rename_i h2
    exact ⟨rfl, rfl, .inr (.inr (.inl ⟨by simp [leadM, h], by omega, rfl⟩))⟩
  · exact ⟨rfl, rfl, .inr (.inl ⟨by simp [sayM, h], by show m.st = 3 ∨ m.st ≠ 3; omega⟩)⟩
theorem does_shape {m : Mc} {o : Oq} (h : m.out = []) (hn : o.kind = 2 → o.n ≤ 1) : Shape m (doM m o) o := by
  unfold doM
  split
  · unfold startM
    split
    · split
      · exact shape_lead h o (by omega)
      · exact shape_follow h o _
    · exact shape_self h o
  split
  · rename_i hk
    by_cases h3 : m.st = 3
    · exact ⟨rfl, rfl, .inr (.inr (.inr ⟨by show (if m.st = 3 then m.out ++ [saysV m.c 0] else m.out) = _; rw [if_pos h3, h]; rfl, hk, .inl h3⟩))⟩
    · exact ⟨rfl, rfl, .inl ⟨by show (if m.st = 3 then m.out ++ [saysV m.c 0] else m.out) = _; rw [if_neg h3, h], .inr (by show (1 : Int) ≠ 3; omega)⟩⟩
  split
  · rename_i hk
    have hm : howMany o.n = 0 ∨ howMany o.n = 1 := by have := hn hk; unfold howMany; omega
    rcases hm with hm | hm <;> rw [hm]
    · exact shape_self h o
    · exact shape_tick h o
  split
  · unfold takeM hearM meetM
    split
    · split
      · split
        · exact ⟨rfl, rfl, .inl ⟨h, by show m.st = 3 ∨ m.st ≠ 3; omega⟩⟩
        split
        · exact shape_follow h o _
        · exact shape_self h o
      · split
        · split
          · exact shape_say h o
          split
          · exact shape_follow h o _
          · exact shape_self h o
        · exact shape_self h o
    · exact shape_self h o
  split
  · unfold setM
    split
    · exact ⟨rfl, rfl, .inl ⟨h, by show m.st = 3 ∨ m.st ≠ 3; omega⟩⟩
    · exact shape_self h o
  · exact shape_self h o
theorem ticks_c : ∀ (k : Nat) (m : Mc), (ticksM k m).c = m.c
  | 0, m => rfl
  | k + 1, m => by
    rw [ticksM, ticks_c k]
    unfold tickM
    split
    · rfl
    split
    · rfl
    split <;> rfl
theorem does_pr (m : Mc) (o : Oq) : (doM m o).c.pr = if o.kind = 4 ∧ 1 ≤ o.n ∧ o.n ≤ 255 then o.n else m.c.pr := by
  unfold doM
  split
  · rw [if_neg (by omega)]; unfold startM; split
    · split <;> rfl
    · rfl
  split
  · rw [if_neg (by omega)]; rfl
  split
  · rw [if_neg (by omega), ticks_c]
  split
  · rw [if_neg (by omega)]
    unfold takeM hearM meetM
    split
    · split
      · split
        · rfl
        split <;> rfl
      · split
        · split
          · rfl
          split <;> rfl
        · rfl
    · rfl
  split
  · rename_i h4
    unfold setM
    by_cases hn : 1 ≤ o.n ∧ o.n ≤ 255
    · rw [if_pos hn, if_pos ⟨h4, hn⟩]
    · rw [if_neg hn, if_neg (fun h => hn h.2)]
  · rw [if_neg (by omega)]

/-- How many claims. -/
def cnt : List (Vt × Value) → Nat
  | [] => 0
  | x :: r => (if x.1.kind = 2 then 1 else 0) + cnt r
theorem cnt_app : ∀ (l r : List (Vt × Value)), cnt (l ++ r) = cnt l + cnt r
  | [], r => by simp [cnt]
  | x :: l, r => by simp [cnt, cnt_app l r]; omega
theorem cnt_take {l : List (Vt × Value)} {k : Nat} (hk : k < l.length) : cnt (l.take (k + 1)) = cnt (l.take k) + (if (l[k]!).1.kind = 2 then 1 else 0) := by
  rw [List.take_succ_eq_append_getElem hk, cnt_app, getElem!_pos l k hk]
  simp [cnt]
theorem cnt_le : ∀ (l : List (Vt × Value)), cnt l ≤ l.length
  | [] => by simp [cnt]
  | x :: l => by have := cnt_le l; simp only [cnt, List.length_cons]; split <;> omega
theorem cnt_map : ∀ (l : List (Vt × Value)), cnt l = ((l.map Prod.fst).map (fun x => if x.kind = 2 then 1 else 0)).sum
  | [] => rfl
  | x :: l => by simp only [cnt, List.map_cons, List.sum_cons, cnt_map l]
/-- What the loop over the events meets. -/
def Meets (f : Cf) (p kd : Int) (x : Vt) : Prop := x.kind = 2 ∨ (x.kind = 1 ∧ x.id = f.id ∧ x.ev = f.ev ∧ (x.pr = p ∨ (x.pr ≠ p ∧ x.pr = 0 ∧ kd = 1)))
theorem shape_meets {m m' : Mc} {o : Oq} {f : Cf} (h : Shape m m' o) (hi : m.c.id = f.id) (he : m.c.ev = f.ev) : ∀ x ∈ m'.out, Meets f m'.c.pr o.kind x := by
  obtain ⟨-, -, ⟨h, -⟩ | ⟨h, -⟩ | ⟨h, -⟩ | ⟨h, hk, -⟩⟩ := h <;> rw [h] <;> intro x hx
  · simp at hx
  · obtain rfl : x = _ := by simpa using hx
    exact .inr ⟨rfl, hi, he, .inl rfl⟩
  · simp only [List.mem_cons, List.not_mem_nil, or_false] at hx
    rcases hx with rfl | rfl
    · exact .inr ⟨rfl, hi, he, .inl rfl⟩
    · exact .inl rfl
  · obtain rfl : x = _ := by simpa using hx
    by_cases hp : (0 : Int) = m'.c.pr
    · exact .inr ⟨rfl, hi, he, .inl hp⟩
    · exact .inr ⟨rfl, hi, he, .inr ⟨hp, rfl, hk⟩⟩
theorem shape_cnt {m m' : Mc} {o : Oq} {l : List (Vt × Value)} (h : Shape m m' o) (hl : l.map Prod.fst = m'.out) : (m.st = 3 ∧ cnt l = 0) ∨ (m.st ≠ 3 ∧ m'.st ≠ 3 ∧ cnt l = 0) ∨ (m.st ≠ 3 ∧ m'.st = 3 ∧ cnt l = 1) := by
  rw [cnt_map, hl]
  obtain ⟨-, -, ⟨h, h1⟩ | ⟨h, h1⟩ | ⟨h, h1⟩ | ⟨h, hk, h1⟩⟩ := h <;> rw [h] <;> simp [saysV, claimV] <;> omega
theorem shape_len {m m' : Mc} {o : Oq} (h : Shape m m' o) : m'.out.length ≤ 2 := by
  obtain ⟨-, -, ⟨h, h1⟩ | ⟨h, h1⟩ | ⟨h, h1⟩ | ⟨h, hk, h1⟩⟩ := h <;> rw [h] <;> simp

def ClRel (X : World) (b B : Nat) (f : Cf) (n gg : Nat) (x7 x35 : Value) (wr : World) : Prop :=
  ∃ (i : Nat) (m : Mc), i + gg = n ∧ x35 = .int .i64 (i : Int) ∧ x7 = .int .i64 m.c.pr ∧ Mm b wr B m ∧ OkT m ∧ m.out = [] ∧ m.c.id = f.id ∧ m.c.ev = f.ev ∧ Below b X wr
def ClIn (W : World) (l : List (Vt × Value)) (gg : Nat) (x11 x69 : Value) (wr : World) : Prop :=
  ∃ k : Nat, k + gg = l.length ∧ x69 = .int .i64 (k : Int) ∧ x11 = .int .i64 ((cnt (l.take k) : Nat) : Int) ∧ Below W.heap.size W wr

set_option maxHeartbeats 2000000 in
theorem claims_no (f : Cf) (A : Option Addr) (n c : Nat) (a1 : Option Addr) (n1 c1 : Nat) (l : List Oq) (w : World) (hS : Strs w A n c f.ads) (hb : f.fr.size ≤ 140737488351232 ∧ n ≤ 8796093022208) (wa : (Lit.int .i64 f.id).wf = true) (wb : (Lit.int .i64 f.pr).wf = true) (wc : (Lit.int .i64 f.ev).wf = true) (hsc : Scr w a1 n1 c1 l) (hok : okN f = false) : Calls Try.prog 10 #[.agg #[.int .i64 f.id, .int .i64 f.pr, .int .i64 f.ev, .bool f.pre, .string f.fr, .slice A n c], .slice a1 n1 c1] w fun e w' => e = .returned (.bool true) ∧ Below w.heap.size w w' := by
  have HB0 : Hid (Below w.heap.size w (w.alloc (.cells #[.int .i64 f.id, .int .i64 f.pr, .int .i64 f.ev, .bool f.pre, .string f.fr, .slice A n c] 25))) := Lib.hid (below_alloc (Below.refl _ _) _)
  have HN := Lib.hid (new_none (hS.below HB0.out) hb hok)
  clear hS hb wa wb wc hsc hok
  go_enter Try.func10, Try.ntmps10
  go_wp2_with fail
  refine HN.out.mono ?_
  rintro e w1 ⟨rfl, hb1⟩
  have HB1 := Lib.hid (below_then HB0.out HB0.out.size hb1)
  clear hb1
  go_wp2_with fail
  refine (alive_any _).mono ?_
  rintro e w9 ⟨rfl, hb9⟩
  go_wp2
  go_ret
  exact ⟨rfl, below_then HB1.out HB1.out.size hb9⟩

set_option maxHeartbeats 2000000 in
theorem claims_long (f : Cf) (A : Option Addr) (n c : Nat) (a1 : Option Addr) (n1 c1 : Nat) (l : List Oq) (w : World) (hS : Strs w A n c f.ads) (hb : f.fr.size ≤ 140737488351232 ∧ n ≤ 8796093022208) (wa : (Lit.int .i64 f.id).wf = true) (wb : (Lit.int .i64 f.pr).wf = true) (wc : (Lit.int .i64 f.ev).wf = true) (hsc : Scr w a1 n1 c1 l) (hok : okN f = true) (hl : 300 < n1) : Calls Try.prog 10 #[.agg #[.int .i64 f.id, .int .i64 f.pr, .int .i64 f.ev, .bool f.pre, .string f.fr, .slice A n c], .slice a1 n1 c1] w fun e w' => e = .returned (.bool true) ∧ Below w.heap.size w w' := by
  have HB0 : Hid (Below w.heap.size w (w.alloc (.cells #[.int .i64 f.id, .int .i64 f.pr, .int .i64 f.ev, .bool f.pre, .string f.fr, .slice A n c] 25))) := Lib.hid (below_alloc (Below.refl _ _) _)
  have HN := Lib.hid (new_some (hS.below HB0.out) hb hok)
  have e1 : decide ((n1 : Int) > 300) = true := decide_eq_true (by omega)
  have e2 : decide (300 < (n1 : Int)) = true := decide_eq_true (by omega)
  clear hS hb wa wb wc hsc hok hl
  go_enter Try.func10, Try.ntmps10
  go_wp2_with fail
  refine HN.out.mono ?_
  rintro e w1 ⟨B, va, rfl, hM1, hb1⟩
  have HB1 := Lib.hid (below_then HB0.out HB0.out.size hb1)
  clear hb1 hM1
  go_wp2_with fail
  refine (alive_any _).mono ?_
  rintro e w9 ⟨rfl, hb9⟩
  go_wp2
  go_ret
  exact ⟨rfl, below_then HB1.out HB1.out.size hb9⟩

set_option maxHeartbeats 8000000 in
theorem claims_run (f : Cf) (A : Option Addr) (n c : Nat) (a1 : Option Addr) (n1 c1 : Nat) (l : List Oq) (w : World) (hS : Strs w A n c f.ads) (hb : f.fr.size ≤ 140737488351232 ∧ n ≤ 8796093022208) (wa : (Lit.int .i64 f.id).wf = true) (wb : (Lit.int .i64 f.pr).wf = true) (wc : (Lit.int .i64 f.ev).wf = true) (hsc : Scr w a1 n1 c1 l) (hok : okN f = true) (hl : ¬ 300 < n1) : Calls Try.prog 10 #[.agg #[.int .i64 f.id, .int .i64 f.pr, .int .i64 f.ev, .bool f.pre, .string f.fr, .slice A n c], .slice a1 n1 c1] w fun e w' => e = .returned (.bool true) ∧ Below w.heap.size w w' := by
  have HB0 : Hid (Below w.heap.size w (w.alloc (.cells #[.int .i64 f.id, .int .i64 f.pr, .int .i64 f.ev, .bool f.pre, .string f.fr, .slice A n c] 25))) := Lib.hid (below_alloc (Below.refl _ _) _)
  have HN := Lib.hid (new_some (hS.below HB0.out) hb hok)
  have HSC := Lib.hid (hsc.below HB0.out)
  have HL := Lib.hid hl
  have e1 : decide ((n1 : Int) > 300) = false := decide_eq_false (by omega)
  have e2 : decide (300 < (n1 : Int)) = false := decide_eq_false (by omega)
  have HC2 : Hid (Cb (w.alloc (.cells #[.int .i64 f.id, .int .i64 f.pr, .int .i64 f.ev, .bool f.pre, .string f.fr, .slice A n c] 25)) w.heap.size 25 [.int .i64 f.id, .int .i64 f.pr, .int .i64 f.ev, .bool f.pre, .string f.fr, .slice A n c]) := Lib.hid (Cb.new w [.int .i64 f.id, .int .i64 f.pr, .int .i64 f.ev, .bool f.pre, .string f.fr, .slice A n c] 25)
  have hXs : (w.alloc (.cells #[.int .i64 f.id, .int .i64 f.pr, .int .i64 f.ev, .bool f.pre, .string f.fr, .slice A n c] 25)).heap.size = w.heap.size + 1 := by simp
  have HXS := Lib.hid hXs
  clear hS hb wa wb wc hsc hok hl hXs
  go_enter Try.func10, Try.ntmps10
  go_wp2_with fail
  refine HN.out.mono ?_
  rintro e w1 ⟨B, va, rfl, hM1, hb1⟩
  obtain ⟨p0, p1, p2, p3, p4, p5⟩ := (HC2.out.below hb1).six
  have HM1 : Hid (Mm (w.heap.size + 1) w1 B (newM f)) := Lib.hid (by have h := hM1.mm; rwa [HXS.out] at h)
  have HB1 : Hid (Below (w.heap.size + 1) (w.alloc (.cells #[.int .i64 f.id, .int .i64 f.pr, .int .i64 f.ev, .bool f.pre, .string f.fr, .slice A n c] 25)) w1) := Lib.hid (by have h := hb1; rwa [HXS.out] at h)
  clear hb1 hM1 p0 p2 p3 p4 p5
  go_wp2_with fail
  go_loopg [7, 35] n1 (fun gg x7 x35 wr => ClRel (w.alloc (.cells #[.int .i64 f.id, .int .i64 f.pr, .int .i64 f.ev, .bool f.pre, .string f.fr, .slice A n c] 25)) (w.heap.size + 1) B f n1 gg x7 x35 wr)
  case atStart => exact ⟨0, newM f, by omega, rfl, rfl, HM1.out, OkT.new f, rfl, rfl, rfl, HB1.out⟩
  case round =>
    obtain ⟨i, m, hi, rfl, rfl, hm, hT, hout, hid, hev, hbl⟩ := hrel
    have HMi := Lib.hid hm
    have HBi := Lib.hid hbl
    have HT := Lib.hid hT
    have HOU := Lib.hid hout
    have HID := Lib.hid hid
    have HEV := Lib.hid hev
    clear hm hbl hT hout hid hev p1
    by_cases hlt : i < n1
    · have e3 : decide ((i : Int) < (n1 : Int)) = true := decide_eq_true (by omega)
      have hbX : Below (w.alloc (.cells #[.int .i64 f.id, .int .i64 f.pr, .int .i64 f.ev, .bool f.pre, .string f.fr, .slice A n c] 25)).heap.size (w.alloc (.cells #[.int .i64 f.id, .int .i64 f.pr, .int .i64 f.ev, .bool f.pre, .string f.fr, .slice A n c] 25)) wr := by have h := HBi.out; rwa [← HXS.out] at h
      obtain ⟨b, off, A2, q2, k2, ha1, hbl2, s0, s1, s2, s3, s4, s5, s6⟩ := (HSC.out.below hbX).at hlt
      subst ha1
      generalize l[i]! = o at *
      obtain ⟨kd, on, fr1, ai, ap, ae, ax⟩ := o
      simp only at s0 s1 s2 s3 s4 s5 s6
      obtain ⟨w5, hst5, hcb5, hb5⟩ := box41 wr kd on fr1 ai ap ae A2 q2 k2
      obtain ⟨g0, g1, g2, g3, g4, g5, g6⟩ := hcb5.seven
      have hsz : w.heap.size + 1 ≤ wr.heap.size := by rw [← HXS.out]; exact hbX.size
      have HSZ := Lib.hid hsz
      have HC4 := Lib.hid hcb5
      have HB45 := Lib.hid hb5
      have hlt1 : (i : Int) < (n1 : Int) := by omega
      have HW : Hid (Value.int .i64 (wrap64 ((i : Int) + 1)) = .int .i64 ((i + 1 : Nat) : Int)) := Lib.hid (by congr 1; have := HL.out; unfold wrap64; omega)
      have hls := hcb5.lt
      have hfr := hcb5.free 1
      clear hb5 hcb5 hbX hsz
      have HNE : Hid (B < wr.heap.size) := Lib.hid HMi.out.lt
      by_cases hk2 : kd = 2
      · have u1 : (kd == 2) = true := beq_iff_eq.2 hk2
        have u2 : (kd == 4) = false := beq_eq_false_iff_ne.2 (by omega)
        have HC5 : Hid (Cb (w5.setCell ⟨wr.heap.size, 1, none⟩ (.int .i64 (min on 1))) wr.heap.size 41 [.int .i64 kd, .int .i64 (min on 1), .string fr1, .int .i64 ai, .int .i64 ap, .int .i64 ae, .slice A2 q2 k2]) := Lib.hid (HC4.out.setAt 1 _)
        have HK2 := Lib.hid hk2
        clear hk2
        have hO5 : Below wr.heap.size wr (w5.setCell ⟨wr.heap.size, 1, none⟩ (.int .i64 (min on 1))) := HB45.out.trans (((Only.refl (· = wr.heap.size) w5).setCell (p := ⟨wr.heap.size, 1, none⟩) (.inl rfl) _).below HB45.out.size fun i hi => by have h1 : i = wr.heap.size := hi; omega)
        have HB5 := Lib.hid (HBi.out.trans (hO5.mono HSZ.out))
        have HM5 := Lib.hid (HMi.out.below hO5)
        have HS5 : Hid (w.heap.size + 1 ≤ (w5.setCell ⟨wr.heap.size, 1, none⟩ (.int .i64 (min on 1))).heap.size) := Lib.hid (Nat.le_trans HSZ.out hO5.size)
        clear hO5
        go_upto_region 12 with fail
        clear g0 g1 g2 g3 g4 g5 g6 hfr hls hst5
        generalize w5.setCell ⟨wr.heap.size, 1, none⟩ (.int .i64 (min on 1)) = w5 at *
        obtain ⟨g0, g1, g2, g3, g4, g5, g6⟩ := HC5.out.seven
        have hls := HC5.out.lt
        have hsh := does_shape (m := m) (o := ⟨kd, min on 1, fr1, ⟨ai, ap, ae, ax⟩⟩) HOU.out (by first | (intro _; show min on 1 ≤ 1; omega) | (intro h2; have h2' : kd = 2 := h2; omega) | (intro _; show on ≤ 1; omega))
        have hpr := does_pr m ⟨kd, min on 1, fr1, ⟨ai, ap, ae, ax⟩⟩
        have hk4 : (doM m ⟨kd, min on 1, fr1, ⟨ai, ap, ae, ax⟩⟩).c.pr = m.c.pr := by rw [hpr, if_neg (fun h => by have h4 : kd = 4 := h.1; have := HK2.out; omega)]
        replace hpr := hk4
        clear hk4
        have hcd : (doM m ⟨kd, min on 1, fr1, ⟨ai, ap, ae, ax⟩⟩).c.id = f.id ∧ (doM m ⟨kd, min on 1, fr1, ⟨ai, ap, ae, ax⟩⟩).c.ev = f.ev := ⟨hsh.1.trans HID.out, hsh.2.1.trans HEV.out⟩
        have HOT := Lib.hid (OkT.does HM5.out.ok HT.out ⟨kd, min on 1, fr1, ⟨ai, ap, ae, ax⟩⟩)
        have HME := Lib.hid (shape_meets hsh HID.out HEV.out)
        have HSH := Lib.hid hsh
        have HD := Lib.hid (does_any (A := A2) (n := q2) (c := k2) HM5.out HT.out (by rw [HOU.out]; simp) ⟨kd, min on 1, fr1, ⟨ai, ap, ae, ax⟩⟩)
        have HCD := Lib.hid hcd
        obtain ⟨d1, d6, d7, d8⟩ := HM5.out.cells
        have HSt := Lib.hid (state_any d6)
        generalize hwas : m.st = was at HSt
        have HWAS := Lib.hid hwas
        generalize hmm : doM m ⟨kd, min on 1, fr1, ⟨ai, ap, ae, ax⟩⟩ = m6 at *
        have HPR := Lib.hid hpr
        clear hsh hpr hcd d1 d6 d7 d8 hwas hmm
        go_wp2_with fail
        refine HSt.out.mono ?_
        rintro e w' ⟨rfl, rfl⟩
        go_wp2_with fail
        refine HD.out.mono ?_
        rintro e w6 ⟨rfl, ⟨va6, vo6, l6, hS6⟩, hk6⟩
        have HB6 := Lib.hid (HB5.out.trans (hk6.below (Nat.le_refl _) HM5.out.lo HS5.out))
        have HS6 : Hid (w.heap.size + 1 ≤ w6.heap.size) := Lib.hid (by have := HS5.out; have := hk6.size; omega)
        have HC6 := Lib.hid (hk6.cb HC5.out (by have := HM5.out.lt; have := HNE.out; omega) (fun _ => by decide))
        have HM6 := Lib.hid hS6
        have HLS : Hid (l6.map Prod.fst = m6.out) := Lib.hid hS6.lst
        have HL6 : Hid (l6.length ≤ 2) := Lib.hid (by rw [hS6.len]; exact shape_len HSH.out)
        have HME6 : Hid (∀ x ∈ l6, Meets f m6.c.pr kd x.1) := Lib.hid (fun x hx => HME.out x.1 (by rw [← HLS.out]; exact List.mem_map_of_mem hx))
        obtain ⟨ao6, co6, rfl, -, -⟩ := row_any hS6.row
        have HO6 := Lib.hid (out_any hS6)
        clear hk6 hS6
        go_wp2_with fail
        refine HO6.out.mono ?_
        rintro e w7 ⟨rfl, hm7, hrow7, hadr7, hk7⟩
        have HB7 := Lib.hid (HB6.out.trans (hk7.below (Nat.le_refl _) HM6.out.lo HS6.out))
        have HM7 := Lib.hid hm7.mm
        have HR7 := Lib.hid hrow7
        have HA7 := Lib.hid hadr7
        have HS7 : Hid (w.heap.size + 1 ≤ w7.heap.size) := Lib.hid (by have := HS6.out; have := hk7.size; omega)
        have HC7 := Lib.hid (hk7.cb HC6.out (by have := HM5.out.lt; have := HNE.out; omega) (fun _ => by decide))
        clear hm7 hrow7 hadr7 hk7
        go_wp2_with fail
        rw [← HPR.out]
        go_loopg [11, 69] l6.length (fun gg x11 x69 wr => ClIn w7 l6 gg x11 x69 wr)
        case atStart => exact ⟨0, by omega, rfl, rfl, Below.refl _ _⟩
        case round =>
          obtain ⟨k, hk, rfl, rfl, hbk⟩ := hrel
          have HBk := Lib.hid hbk
          clear hbk
          by_cases hlk : k < l6.length
          · have e4 : decide ((k : Int) < (l6.length : Int)) = true := decide_eq_true (by omega)
            have hlk1 : (k : Int) < (l6.length : Int) := by omega
            have hr8 := row_below HR7.out HBk.out
            obtain ⟨g, c9, heq, -, -⟩ := row_slice hr8 (by omega)
            obtain ⟨rfl, -, rfl⟩ : ao6 = some ⟨g, 0, none⟩ ∧ True ∧ co6 = c9 := by
              simp at heq
              exact ⟨heq.1, trivial, heq.2⟩
            obtain ⟨r0, r1, r2, r3, r4⟩ := erow_at hr8 hlk
            have hmem : l6[k]! ∈ l6 := by rw [getElem!_pos l6 k hlk]; exact List.getElem_mem hlk
            have hx := HME6.out _ hmem
            obtain ⟨a9, k9, hv9, -, -⟩ := row_any (HA7.out _ hmem)
            have hct := cnt_take hlk
            have hcl := cnt_le (l6.take k)
            have hcl2 : (l6.take k).length ≤ 2 := by have := HL6.out; simp; omega
            rw [hv9] at r4
            generalize (l6[k]!).1.ads.length = q9 at r4
            generalize hcc : cnt (l6.take k) = cc at hct hcl
            clear hmem hv9
            generalize l6[k]! = xx at *
            obtain ⟨⟨xk, xi, xp, xe, xs⟩, xv⟩ := xx
            simp only at r0 r1 r2 r3 hct
            simp only [Meets] at hx
            obtain ⟨w8, hst8, hcb8, hb8⟩ := box58 wr xk xi xp xe a9 q9 k9
            obtain ⟨g0, g1, g2, g3, g4⟩ := hcb8.five
            have HB8 := Lib.hid (below_then HBk.out HBk.out.size hb8)
            have HW1 : Hid (Value.int .i64 (wrap64 ((k : Int) + 1)) = .int .i64 ((k + 1 : Nat) : Int)) := Lib.hid (by congr 1; have := HL6.out; unfold wrap64; omega)
            have HW2 : Hid (Value.int .i64 (wrap64 ((cc : Int) + 1)) = .int .i64 ((cc + 1 : Nat) : Int)) := Lib.hid (by congr 1; unfold wrap64; omega)
            have HHC := Lib.hid (And.intro hcc hct)
            obtain ⟨p0, p1, p2, p3, p4, p5⟩ := ((HC2.out.low HB7.out (by omega)).low (HB8.out.mono HS7.out) (by omega)).six
            have hco := ((HC7.out.below HBk.out).below hb8)
            obtain ⟨o0, o1, o2, o3, o4, o5, o6⟩ := hco.seven
            clear hr8 hcb8 hb8 heq hcc hct hcl hcl2 hco p1 p3 p4 p5 o1 o2 o3 o4 o5 o6
            rcases hx with hx | ⟨hx, hxi, hxe, hxp⟩
            · have q1 : (xk == 2) = true := beq_iff_eq.2 hx
              have HX := Lib.hid hx
              clear hx
              go_wp2
              go_roundg (l6.length - (k + 1))
              case measure => omega
              case rel => exact ⟨k + 1, by omega, HW1.out, by rw [HHC.out.1] at *; rw [HW2.out, HHC.out.2, if_pos HX.out], HB8.out⟩
            · have q1 : (xk == 2) = false := beq_eq_false_iff_ne.2 (by omega)
              have q2 : (xi != f.id) = false := by simpa using hxi
              have q3 : (xe != f.ev) = false := by simpa using hxe
              have HX : Hid (¬ xk = 2) := Lib.hid (by omega)
              rcases hxp with hxp | ⟨hxp, hx0, hk1⟩
              · have q4 : (xp != m6.c.pr) = false := by simpa using hxp
                clear hx hxi hxe hxp
                go_wp2
                go_roundg (l6.length - (k + 1))
                case measure => omega
                case rel => exact ⟨k + 1, by omega, HW1.out, by rw [HHC.out.2, if_neg HX.out, Nat.add_zero], HB8.out⟩
              · have q4 : (xp != m6.c.pr) = true := by simpa using hxp
                have q5 : (xp != 0) = false := by simpa using hx0
                have q6 : (kd != 1) = false := by simpa using hk1
                clear hx hxi hxe hxp hx0 hk1
                go_wp2
                go_roundg (l6.length - (k + 1))
                case measure => omega
                case rel => exact ⟨k + 1, by omega, HW1.out, by rw [HHC.out.2, if_neg HX.out, Nat.add_zero], HB8.out⟩
          · have e4 : decide ((k : Int) < (l6.length : Int)) = false := decide_eq_false (by omega)
            have hlk1 : ¬ (k : Int) < (l6.length : Int) := by omega
            obtain rfl : k = l6.length := by omega
            have hsc := shape_cnt HSH.out HLS.out
            rw [HWAS.out] at hsc
            rw [List.take_length]
            have HM8 := Lib.hid (HM7.out.below HBk.out)
            have HB8 := Lib.hid (HB7.out.trans (HBk.out.mono HS7.out))
            obtain ⟨d1, d6, d7, d8⟩ := HM8.out.cells
            have HSt2 := Lib.hid (state_any d6)
            rw [show (outM m6).st = m6.st from rfl] at HSt2
            have HEND : Hid (ClRel (w.alloc (.cells #[.int .i64 f.id, .int .i64 f.pr, .int .i64 f.ev, .bool f.pre, .string f.fr, .slice A n c] 25)) (w.heap.size + 1) B f n1 (n1 - (i + 1)) (.int .i64 m6.c.pr) (.int .i64 ((i + 1 : Nat) : Int)) wr) := Lib.hid ⟨i + 1, outM m6, by omega, rfl, rfl, HM8.out, HOT.out.outed, rfl, HCD.out.1, HCD.out.2, HB8.out⟩
            clear d1 d6 d7 d8 HM8 HB8 HBk
            rcases hsc with ⟨h1, h2⟩ | ⟨h1, h2, h3⟩ | ⟨h1, h2, h3⟩
            · have u1 : (was != 3) = false := by simpa using h1
              rw [h2]
              clear h1 h2
              go_wp2
              go_roundg (n1 - (i + 1))
              case measure => omega
              case rel => rw [HW.out]; exact HEND.out
            · have u1 : (was != 3) = true := by simpa using h1
              have u2 : (m6.st == 3) = false := by simpa using h2
              rw [h3]
              clear h1 h2 h3
              go_wp2_with fail
              refine HSt2.out.mono ?_
              rintro e w' ⟨rfl, rfl⟩
              go_wp2
              go_roundg (n1 - (i + 1))
              case measure => omega
              case rel => rw [HW.out]; exact HEND.out
            · have u1 : (was != 3) = true := by simpa using h1
              have u2 : (m6.st == 3) = true := by simpa using h2
              rw [h3]
              clear h1 h2 h3
              go_wp2_with fail
              refine HSt2.out.mono ?_
              rintro e w' ⟨rfl, rfl⟩
              go_wp2
              go_roundg (n1 - (i + 1))
              case measure => omega
              case rel => rw [HW.out]; exact HEND.out

      · have u1 : (kd == 2) = false := beq_eq_false_iff_ne.2 hk2
        have HC5 := HC4
        have HB5 := Lib.hid (HBi.out.trans (HB45.out.mono HSZ.out))
        have HM5 := Lib.hid (HMi.out.below HB45.out)
        have HS5 : Hid (w.heap.size + 1 ≤ w5.heap.size) := Lib.hid (Nat.le_trans HSZ.out HB45.out.size)
        by_cases hk4 : kd = 4
        · have u2 : (kd == 4) = true := beq_iff_eq.2 hk4
          by_cases hn1 : 1 ≤ on
          · have u3 : decide (on ≥ 1) = true := decide_eq_true hn1
            have u3' : decide (1 ≤ on) = true := decide_eq_true hn1
            by_cases hn2 : on ≤ 255
            · have u4 : decide (on ≤ 255) = true := decide_eq_true hn2
              have hsh := does_shape (m := m) (o := ⟨kd, on, fr1, ⟨ai, ap, ae, ax⟩⟩) HOU.out (by first | (intro _; show min on 1 ≤ 1; omega) | (intro h2; have h2' : kd = 2 := h2; omega) | (intro _; show on ≤ 1; omega))
              have hpr := does_pr m ⟨kd, on, fr1, ⟨ai, ap, ae, ax⟩⟩
              have hk5 : (doM m ⟨kd, on, fr1, ⟨ai, ap, ae, ax⟩⟩).c.pr = on := by rw [hpr, if_pos ⟨hk4, hn1, hn2⟩]
              replace hpr := hk5
              clear hk5 hk4 hk2 hn1 hn2
              have hcd : (doM m ⟨kd, on, fr1, ⟨ai, ap, ae, ax⟩⟩).c.id = f.id ∧ (doM m ⟨kd, on, fr1, ⟨ai, ap, ae, ax⟩⟩).c.ev = f.ev := ⟨hsh.1.trans HID.out, hsh.2.1.trans HEV.out⟩
              have HOT := Lib.hid (OkT.does HM5.out.ok HT.out ⟨kd, on, fr1, ⟨ai, ap, ae, ax⟩⟩)
              have HME := Lib.hid (shape_meets hsh HID.out HEV.out)
              have HSH := Lib.hid hsh
              have HD := Lib.hid (does_any (A := A2) (n := q2) (c := k2) HM5.out HT.out (by rw [HOU.out]; simp) ⟨kd, on, fr1, ⟨ai, ap, ae, ax⟩⟩)
              have HCD := Lib.hid hcd
              obtain ⟨d1, d6, d7, d8⟩ := HM5.out.cells
              have HSt := Lib.hid (state_any d6)
              generalize hwas : m.st = was at HSt
              have HWAS := Lib.hid hwas
              generalize hmm : doM m ⟨kd, on, fr1, ⟨ai, ap, ae, ax⟩⟩ = m6 at *
              have HPR := Lib.hid hpr
              clear hsh hpr hcd d1 d6 d7 d8 hwas hmm
              go_wp2_with fail
              refine HSt.out.mono ?_
              rintro e w' ⟨rfl, rfl⟩
              go_wp2_with fail
              refine HD.out.mono ?_
              rintro e w6 ⟨rfl, ⟨va6, vo6, l6, hS6⟩, hk6⟩
              have HB6 := Lib.hid (HB5.out.trans (hk6.below (Nat.le_refl _) HM5.out.lo HS5.out))
              have HS6 : Hid (w.heap.size + 1 ≤ w6.heap.size) := Lib.hid (by have := HS5.out; have := hk6.size; omega)
              have HC6 := Lib.hid (hk6.cb HC5.out (by have := HM5.out.lt; have := HNE.out; omega) (fun _ => by decide))
              have HM6 := Lib.hid hS6
              have HLS : Hid (l6.map Prod.fst = m6.out) := Lib.hid hS6.lst
              have HL6 : Hid (l6.length ≤ 2) := Lib.hid (by rw [hS6.len]; exact shape_len HSH.out)
              have HME6 : Hid (∀ x ∈ l6, Meets f m6.c.pr kd x.1) := Lib.hid (fun x hx => HME.out x.1 (by rw [← HLS.out]; exact List.mem_map_of_mem hx))
              obtain ⟨ao6, co6, rfl, -, -⟩ := row_any hS6.row
              have HO6 := Lib.hid (out_any hS6)
              clear hk6 hS6
              go_wp2_with fail
              refine HO6.out.mono ?_
              rintro e w7 ⟨rfl, hm7, hrow7, hadr7, hk7⟩
              have HB7 := Lib.hid (HB6.out.trans (hk7.below (Nat.le_refl _) HM6.out.lo HS6.out))
              have HM7 := Lib.hid hm7.mm
              have HR7 := Lib.hid hrow7
              have HA7 := Lib.hid hadr7
              have HS7 : Hid (w.heap.size + 1 ≤ w7.heap.size) := Lib.hid (by have := HS6.out; have := hk7.size; omega)
              have HC7 := Lib.hid (hk7.cb HC6.out (by have := HM5.out.lt; have := HNE.out; omega) (fun _ => by decide))
              clear hm7 hrow7 hadr7 hk7
              go_wp2_with fail
              rw [← HPR.out]
              go_loopg [11, 69] l6.length (fun gg x11 x69 wr => ClIn w7 l6 gg x11 x69 wr)
              case atStart => exact ⟨0, by omega, rfl, rfl, Below.refl _ _⟩
              case round =>
                obtain ⟨k, hk, rfl, rfl, hbk⟩ := hrel
                have HBk := Lib.hid hbk
                clear hbk
                by_cases hlk : k < l6.length
                · have e4 : decide ((k : Int) < (l6.length : Int)) = true := decide_eq_true (by omega)
                  have hlk1 : (k : Int) < (l6.length : Int) := by omega
                  have hr8 := row_below HR7.out HBk.out
                  obtain ⟨g, c9, heq, -, -⟩ := row_slice hr8 (by omega)
                  obtain ⟨rfl, -, rfl⟩ : ao6 = some ⟨g, 0, none⟩ ∧ True ∧ co6 = c9 := by
                    simp at heq
                    exact ⟨heq.1, trivial, heq.2⟩
                  obtain ⟨r0, r1, r2, r3, r4⟩ := erow_at hr8 hlk
                  have hmem : l6[k]! ∈ l6 := by rw [getElem!_pos l6 k hlk]; exact List.getElem_mem hlk
                  have hx := HME6.out _ hmem
                  obtain ⟨a9, k9, hv9, -, -⟩ := row_any (HA7.out _ hmem)
                  have hct := cnt_take hlk
                  have hcl := cnt_le (l6.take k)
                  have hcl2 : (l6.take k).length ≤ 2 := by have := HL6.out; simp; omega
                  rw [hv9] at r4
                  generalize (l6[k]!).1.ads.length = q9 at r4
                  generalize hcc : cnt (l6.take k) = cc at hct hcl
                  clear hmem hv9
                  generalize l6[k]! = xx at *
                  obtain ⟨⟨xk, xi, xp, xe, xs⟩, xv⟩ := xx
                  simp only at r0 r1 r2 r3 hct
                  simp only [Meets] at hx
                  obtain ⟨w8, hst8, hcb8, hb8⟩ := box58 wr xk xi xp xe a9 q9 k9
                  obtain ⟨g0, g1, g2, g3, g4⟩ := hcb8.five
                  have HB8 := Lib.hid (below_then HBk.out HBk.out.size hb8)
                  have HW1 : Hid (Value.int .i64 (wrap64 ((k : Int) + 1)) = .int .i64 ((k + 1 : Nat) : Int)) := Lib.hid (by congr 1; have := HL6.out; unfold wrap64; omega)
                  have HW2 : Hid (Value.int .i64 (wrap64 ((cc : Int) + 1)) = .int .i64 ((cc + 1 : Nat) : Int)) := Lib.hid (by congr 1; unfold wrap64; omega)
                  have HHC := Lib.hid (And.intro hcc hct)
                  obtain ⟨p0, p1, p2, p3, p4, p5⟩ := ((HC2.out.low HB7.out (by omega)).low (HB8.out.mono HS7.out) (by omega)).six
                  have hco := ((HC7.out.below HBk.out).below hb8)
                  obtain ⟨o0, o1, o2, o3, o4, o5, o6⟩ := hco.seven
                  clear hr8 hcb8 hb8 heq hcc hct hcl hcl2 hco p1 p3 p4 p5 o1 o2 o3 o4 o5 o6
                  rcases hx with hx | ⟨hx, hxi, hxe, hxp⟩
                  · have q1 : (xk == 2) = true := beq_iff_eq.2 hx
                    have HX := Lib.hid hx
                    clear hx
                    go_wp2
                    go_roundg (l6.length - (k + 1))
                    case measure => omega
                    case rel => exact ⟨k + 1, by omega, HW1.out, by rw [HHC.out.1] at *; rw [HW2.out, HHC.out.2, if_pos HX.out], HB8.out⟩
                  · have q1 : (xk == 2) = false := beq_eq_false_iff_ne.2 (by omega)
                    have q2 : (xi != f.id) = false := by simpa using hxi
                    have q3 : (xe != f.ev) = false := by simpa using hxe
                    have HX : Hid (¬ xk = 2) := Lib.hid (by omega)
                    rcases hxp with hxp | ⟨hxp, hx0, hk1⟩
                    · have q4 : (xp != m6.c.pr) = false := by simpa using hxp
                      clear hx hxi hxe hxp
                      go_wp2
                      go_roundg (l6.length - (k + 1))
                      case measure => omega
                      case rel => exact ⟨k + 1, by omega, HW1.out, by rw [HHC.out.2, if_neg HX.out, Nat.add_zero], HB8.out⟩
                    · have q4 : (xp != m6.c.pr) = true := by simpa using hxp
                      have q5 : (xp != 0) = false := by simpa using hx0
                      have q6 : (kd != 1) = false := by simpa using hk1
                      clear hx hxi hxe hxp hx0 hk1
                      go_wp2
                      go_roundg (l6.length - (k + 1))
                      case measure => omega
                      case rel => exact ⟨k + 1, by omega, HW1.out, by rw [HHC.out.2, if_neg HX.out, Nat.add_zero], HB8.out⟩
                · have e4 : decide ((k : Int) < (l6.length : Int)) = false := decide_eq_false (by omega)
                  have hlk1 : ¬ (k : Int) < (l6.length : Int) := by omega
                  obtain rfl : k = l6.length := by omega
                  have hsc := shape_cnt HSH.out HLS.out
                  rw [HWAS.out] at hsc
                  rw [List.take_length]
                  have HM8 := Lib.hid (HM7.out.below HBk.out)
                  have HB8 := Lib.hid (HB7.out.trans (HBk.out.mono HS7.out))
                  obtain ⟨d1, d6, d7, d8⟩ := HM8.out.cells
                  have HSt2 := Lib.hid (state_any d6)
                  rw [show (outM m6).st = m6.st from rfl] at HSt2
                  have HEND : Hid (ClRel (w.alloc (.cells #[.int .i64 f.id, .int .i64 f.pr, .int .i64 f.ev, .bool f.pre, .string f.fr, .slice A n c] 25)) (w.heap.size + 1) B f n1 (n1 - (i + 1)) (.int .i64 m6.c.pr) (.int .i64 ((i + 1 : Nat) : Int)) wr) := Lib.hid ⟨i + 1, outM m6, by omega, rfl, rfl, HM8.out, HOT.out.outed, rfl, HCD.out.1, HCD.out.2, HB8.out⟩
                  clear d1 d6 d7 d8 HM8 HB8 HBk
                  rcases hsc with ⟨h1, h2⟩ | ⟨h1, h2, h3⟩ | ⟨h1, h2, h3⟩
                  · have u1 : (was != 3) = false := by simpa using h1
                    rw [h2]
                    clear h1 h2
                    go_wp2
                    go_roundg (n1 - (i + 1))
                    case measure => omega
                    case rel => rw [HW.out]; exact HEND.out
                  · have u1 : (was != 3) = true := by simpa using h1
                    have u2 : (m6.st == 3) = false := by simpa using h2
                    rw [h3]
                    clear h1 h2 h3
                    go_wp2_with fail
                    refine HSt2.out.mono ?_
                    rintro e w' ⟨rfl, rfl⟩
                    go_wp2
                    go_roundg (n1 - (i + 1))
                    case measure => omega
                    case rel => rw [HW.out]; exact HEND.out
                  · have u1 : (was != 3) = true := by simpa using h1
                    have u2 : (m6.st == 3) = true := by simpa using h2
                    rw [h3]
                    clear h1 h2 h3
                    go_wp2_with fail
                    refine HSt2.out.mono ?_
                    rintro e w' ⟨rfl, rfl⟩
                    go_wp2
                    go_roundg (n1 - (i + 1))
                    case measure => omega
                    case rel => rw [HW.out]; exact HEND.out

            · have u4 : decide (on ≤ 255) = false := decide_eq_false hn2
              have hsh := does_shape (m := m) (o := ⟨kd, on, fr1, ⟨ai, ap, ae, ax⟩⟩) HOU.out (by first | (intro _; show min on 1 ≤ 1; omega) | (intro h2; have h2' : kd = 2 := h2; omega) | (intro _; show on ≤ 1; omega))
              have hpr := does_pr m ⟨kd, on, fr1, ⟨ai, ap, ae, ax⟩⟩
              have hk5 : (doM m ⟨kd, on, fr1, ⟨ai, ap, ae, ax⟩⟩).c.pr = m.c.pr := by rw [hpr, if_neg (fun h => hn2 h.2.2)]
              replace hpr := hk5
              clear hk5 hk4 hk2 hn1 hn2
              have hcd : (doM m ⟨kd, on, fr1, ⟨ai, ap, ae, ax⟩⟩).c.id = f.id ∧ (doM m ⟨kd, on, fr1, ⟨ai, ap, ae, ax⟩⟩).c.ev = f.ev := ⟨hsh.1.trans HID.out, hsh.2.1.trans HEV.out⟩
              have HOT := Lib.hid (OkT.does HM5.out.ok HT.out ⟨kd, on, fr1, ⟨ai, ap, ae, ax⟩⟩)
              have HME := Lib.hid (shape_meets hsh HID.out HEV.out)
              have HSH := Lib.hid hsh
              have HD := Lib.hid (does_any (A := A2) (n := q2) (c := k2) HM5.out HT.out (by rw [HOU.out]; simp) ⟨kd, on, fr1, ⟨ai, ap, ae, ax⟩⟩)
              have HCD := Lib.hid hcd
              obtain ⟨d1, d6, d7, d8⟩ := HM5.out.cells
              have HSt := Lib.hid (state_any d6)
              generalize hwas : m.st = was at HSt
              have HWAS := Lib.hid hwas
              generalize hmm : doM m ⟨kd, on, fr1, ⟨ai, ap, ae, ax⟩⟩ = m6 at *
              have HPR := Lib.hid hpr
              clear hsh hpr hcd d1 d6 d7 d8 hwas hmm
              go_wp2_with fail
              refine HSt.out.mono ?_
              rintro e w' ⟨rfl, rfl⟩
              go_wp2_with fail
              refine HD.out.mono ?_
              rintro e w6 ⟨rfl, ⟨va6, vo6, l6, hS6⟩, hk6⟩
              have HB6 := Lib.hid (HB5.out.trans (hk6.below (Nat.le_refl _) HM5.out.lo HS5.out))
              have HS6 : Hid (w.heap.size + 1 ≤ w6.heap.size) := Lib.hid (by have := HS5.out; have := hk6.size; omega)
              have HC6 := Lib.hid (hk6.cb HC5.out (by have := HM5.out.lt; have := HNE.out; omega) (fun _ => by decide))
              have HM6 := Lib.hid hS6
              have HLS : Hid (l6.map Prod.fst = m6.out) := Lib.hid hS6.lst
              have HL6 : Hid (l6.length ≤ 2) := Lib.hid (by rw [hS6.len]; exact shape_len HSH.out)
              have HME6 : Hid (∀ x ∈ l6, Meets f m6.c.pr kd x.1) := Lib.hid (fun x hx => HME.out x.1 (by rw [← HLS.out]; exact List.mem_map_of_mem hx))
              obtain ⟨ao6, co6, rfl, -, -⟩ := row_any hS6.row
              have HO6 := Lib.hid (out_any hS6)
              clear hk6 hS6
              go_wp2_with fail
              refine HO6.out.mono ?_
              rintro e w7 ⟨rfl, hm7, hrow7, hadr7, hk7⟩
              have HB7 := Lib.hid (HB6.out.trans (hk7.below (Nat.le_refl _) HM6.out.lo HS6.out))
              have HM7 := Lib.hid hm7.mm
              have HR7 := Lib.hid hrow7
              have HA7 := Lib.hid hadr7
              have HS7 : Hid (w.heap.size + 1 ≤ w7.heap.size) := Lib.hid (by have := HS6.out; have := hk7.size; omega)
              have HC7 := Lib.hid (hk7.cb HC6.out (by have := HM5.out.lt; have := HNE.out; omega) (fun _ => by decide))
              clear hm7 hrow7 hadr7 hk7
              go_wp2_with fail
              rw [← HPR.out]
              go_loopg [11, 69] l6.length (fun gg x11 x69 wr => ClIn w7 l6 gg x11 x69 wr)
              case atStart => exact ⟨0, by omega, rfl, rfl, Below.refl _ _⟩
              case round =>
                obtain ⟨k, hk, rfl, rfl, hbk⟩ := hrel
                have HBk := Lib.hid hbk
                clear hbk
                by_cases hlk : k < l6.length
                · have e4 : decide ((k : Int) < (l6.length : Int)) = true := decide_eq_true (by omega)
                  have hlk1 : (k : Int) < (l6.length : Int) := by omega
                  have hr8 := row_below HR7.out HBk.out
                  obtain ⟨g, c9, heq, -, -⟩ := row_slice hr8 (by omega)
                  obtain ⟨rfl, -, rfl⟩ : ao6 = some ⟨g, 0, none⟩ ∧ True ∧ co6 = c9 := by
                    simp at heq
                    exact ⟨heq.1, trivial, heq.2⟩
                  obtain ⟨r0, r1, r2, r3, r4⟩ := erow_at hr8 hlk
                  have hmem : l6[k]! ∈ l6 := by rw [getElem!_pos l6 k hlk]; exact List.getElem_mem hlk
                  have hx := HME6.out _ hmem
                  obtain ⟨a9, k9, hv9, -, -⟩ := row_any (HA7.out _ hmem)
                  have hct := cnt_take hlk
                  have hcl := cnt_le (l6.take k)
                  have hcl2 : (l6.take k).length ≤ 2 := by have := HL6.out; simp; omega
                  rw [hv9] at r4
                  generalize (l6[k]!).1.ads.length = q9 at r4
                  generalize hcc : cnt (l6.take k) = cc at hct hcl
                  clear hmem hv9
                  generalize l6[k]! = xx at *
                  obtain ⟨⟨xk, xi, xp, xe, xs⟩, xv⟩ := xx
                  simp only at r0 r1 r2 r3 hct
                  simp only [Meets] at hx
                  obtain ⟨w8, hst8, hcb8, hb8⟩ := box58 wr xk xi xp xe a9 q9 k9
                  obtain ⟨g0, g1, g2, g3, g4⟩ := hcb8.five
                  have HB8 := Lib.hid (below_then HBk.out HBk.out.size hb8)
                  have HW1 : Hid (Value.int .i64 (wrap64 ((k : Int) + 1)) = .int .i64 ((k + 1 : Nat) : Int)) := Lib.hid (by congr 1; have := HL6.out; unfold wrap64; omega)
                  have HW2 : Hid (Value.int .i64 (wrap64 ((cc : Int) + 1)) = .int .i64 ((cc + 1 : Nat) : Int)) := Lib.hid (by congr 1; unfold wrap64; omega)
                  have HHC := Lib.hid (And.intro hcc hct)
                  obtain ⟨p0, p1, p2, p3, p4, p5⟩ := ((HC2.out.low HB7.out (by omega)).low (HB8.out.mono HS7.out) (by omega)).six
                  have hco := ((HC7.out.below HBk.out).below hb8)
                  obtain ⟨o0, o1, o2, o3, o4, o5, o6⟩ := hco.seven
                  clear hr8 hcb8 hb8 heq hcc hct hcl hcl2 hco p1 p3 p4 p5 o1 o2 o3 o4 o5 o6
                  rcases hx with hx | ⟨hx, hxi, hxe, hxp⟩
                  · have q1 : (xk == 2) = true := beq_iff_eq.2 hx
                    have HX := Lib.hid hx
                    clear hx
                    go_wp2
                    go_roundg (l6.length - (k + 1))
                    case measure => omega
                    case rel => exact ⟨k + 1, by omega, HW1.out, by rw [HHC.out.1] at *; rw [HW2.out, HHC.out.2, if_pos HX.out], HB8.out⟩
                  · have q1 : (xk == 2) = false := beq_eq_false_iff_ne.2 (by omega)
                    have q2 : (xi != f.id) = false := by simpa using hxi
                    have q3 : (xe != f.ev) = false := by simpa using hxe
                    have HX : Hid (¬ xk = 2) := Lib.hid (by omega)
                    rcases hxp with hxp | ⟨hxp, hx0, hk1⟩
                    · have q4 : (xp != m6.c.pr) = false := by simpa using hxp
                      clear hx hxi hxe hxp
                      go_wp2
                      go_roundg (l6.length - (k + 1))
                      case measure => omega
                      case rel => exact ⟨k + 1, by omega, HW1.out, by rw [HHC.out.2, if_neg HX.out, Nat.add_zero], HB8.out⟩
                    · have q4 : (xp != m6.c.pr) = true := by simpa using hxp
                      have q5 : (xp != 0) = false := by simpa using hx0
                      have q6 : (kd != 1) = false := by simpa using hk1
                      clear hx hxi hxe hxp hx0 hk1
                      go_wp2
                      go_roundg (l6.length - (k + 1))
                      case measure => omega
                      case rel => exact ⟨k + 1, by omega, HW1.out, by rw [HHC.out.2, if_neg HX.out, Nat.add_zero], HB8.out⟩
                · have e4 : decide ((k : Int) < (l6.length : Int)) = false := decide_eq_false (by omega)
                  have hlk1 : ¬ (k : Int) < (l6.length : Int) := by omega
                  obtain rfl : k = l6.length := by omega
                  have hsc := shape_cnt HSH.out HLS.out
                  rw [HWAS.out] at hsc
                  rw [List.take_length]
                  have HM8 := Lib.hid (HM7.out.below HBk.out)
                  have HB8 := Lib.hid (HB7.out.trans (HBk.out.mono HS7.out))
                  obtain ⟨d1, d6, d7, d8⟩ := HM8.out.cells
                  have HSt2 := Lib.hid (state_any d6)
                  rw [show (outM m6).st = m6.st from rfl] at HSt2
                  have HEND : Hid (ClRel (w.alloc (.cells #[.int .i64 f.id, .int .i64 f.pr, .int .i64 f.ev, .bool f.pre, .string f.fr, .slice A n c] 25)) (w.heap.size + 1) B f n1 (n1 - (i + 1)) (.int .i64 m6.c.pr) (.int .i64 ((i + 1 : Nat) : Int)) wr) := Lib.hid ⟨i + 1, outM m6, by omega, rfl, rfl, HM8.out, HOT.out.outed, rfl, HCD.out.1, HCD.out.2, HB8.out⟩
                  clear d1 d6 d7 d8 HM8 HB8 HBk
                  rcases hsc with ⟨h1, h2⟩ | ⟨h1, h2, h3⟩ | ⟨h1, h2, h3⟩
                  · have u1 : (was != 3) = false := by simpa using h1
                    rw [h2]
                    clear h1 h2
                    go_wp2
                    go_roundg (n1 - (i + 1))
                    case measure => omega
                    case rel => rw [HW.out]; exact HEND.out
                  · have u1 : (was != 3) = true := by simpa using h1
                    have u2 : (m6.st == 3) = false := by simpa using h2
                    rw [h3]
                    clear h1 h2 h3
                    go_wp2_with fail
                    refine HSt2.out.mono ?_
                    rintro e w' ⟨rfl, rfl⟩
                    go_wp2
                    go_roundg (n1 - (i + 1))
                    case measure => omega
                    case rel => rw [HW.out]; exact HEND.out
                  · have u1 : (was != 3) = true := by simpa using h1
                    have u2 : (m6.st == 3) = true := by simpa using h2
                    rw [h3]
                    clear h1 h2 h3
                    go_wp2_with fail
                    refine HSt2.out.mono ?_
                    rintro e w' ⟨rfl, rfl⟩
                    go_wp2
                    go_roundg (n1 - (i + 1))
                    case measure => omega
                    case rel => rw [HW.out]; exact HEND.out

          · have u3 : decide (on ≥ 1) = false := decide_eq_false hn1
            have u3' : decide (1 ≤ on) = false := decide_eq_false hn1
            have hsh := does_shape (m := m) (o := ⟨kd, on, fr1, ⟨ai, ap, ae, ax⟩⟩) HOU.out (by first | (intro _; show min on 1 ≤ 1; omega) | (intro h2; have h2' : kd = 2 := h2; omega) | (intro _; show on ≤ 1; omega))
            have hpr := does_pr m ⟨kd, on, fr1, ⟨ai, ap, ae, ax⟩⟩
            have hk5 : (doM m ⟨kd, on, fr1, ⟨ai, ap, ae, ax⟩⟩).c.pr = m.c.pr := by rw [hpr, if_neg (fun h => hn1 h.2.1)]
            replace hpr := hk5
            clear hk5 hk4 hk2 hn1
            have hcd : (doM m ⟨kd, on, fr1, ⟨ai, ap, ae, ax⟩⟩).c.id = f.id ∧ (doM m ⟨kd, on, fr1, ⟨ai, ap, ae, ax⟩⟩).c.ev = f.ev := ⟨hsh.1.trans HID.out, hsh.2.1.trans HEV.out⟩
            have HOT := Lib.hid (OkT.does HM5.out.ok HT.out ⟨kd, on, fr1, ⟨ai, ap, ae, ax⟩⟩)
            have HME := Lib.hid (shape_meets hsh HID.out HEV.out)
            have HSH := Lib.hid hsh
            have HD := Lib.hid (does_any (A := A2) (n := q2) (c := k2) HM5.out HT.out (by rw [HOU.out]; simp) ⟨kd, on, fr1, ⟨ai, ap, ae, ax⟩⟩)
            have HCD := Lib.hid hcd
            obtain ⟨d1, d6, d7, d8⟩ := HM5.out.cells
            have HSt := Lib.hid (state_any d6)
            generalize hwas : m.st = was at HSt
            have HWAS := Lib.hid hwas
            generalize hmm : doM m ⟨kd, on, fr1, ⟨ai, ap, ae, ax⟩⟩ = m6 at *
            have HPR := Lib.hid hpr
            clear hsh hpr hcd d1 d6 d7 d8 hwas hmm
            go_wp2_with fail
            refine HSt.out.mono ?_
            rintro e w' ⟨rfl, rfl⟩
            go_wp2_with fail
            refine HD.out.mono ?_
            rintro e w6 ⟨rfl, ⟨va6, vo6, l6, hS6⟩, hk6⟩
            have HB6 := Lib.hid (HB5.out.trans (hk6.below (Nat.le_refl _) HM5.out.lo HS5.out))
            have HS6 : Hid (w.heap.size + 1 ≤ w6.heap.size) := Lib.hid (by have := HS5.out; have := hk6.size; omega)
            have HC6 := Lib.hid (hk6.cb HC5.out (by have := HM5.out.lt; have := HNE.out; omega) (fun _ => by decide))
            have HM6 := Lib.hid hS6
            have HLS : Hid (l6.map Prod.fst = m6.out) := Lib.hid hS6.lst
            have HL6 : Hid (l6.length ≤ 2) := Lib.hid (by rw [hS6.len]; exact shape_len HSH.out)
            have HME6 : Hid (∀ x ∈ l6, Meets f m6.c.pr kd x.1) := Lib.hid (fun x hx => HME.out x.1 (by rw [← HLS.out]; exact List.mem_map_of_mem hx))
            obtain ⟨ao6, co6, rfl, -, -⟩ := row_any hS6.row
            have HO6 := Lib.hid (out_any hS6)
            clear hk6 hS6
            go_wp2_with fail
            refine HO6.out.mono ?_
            rintro e w7 ⟨rfl, hm7, hrow7, hadr7, hk7⟩
            have HB7 := Lib.hid (HB6.out.trans (hk7.below (Nat.le_refl _) HM6.out.lo HS6.out))
            have HM7 := Lib.hid hm7.mm
            have HR7 := Lib.hid hrow7
            have HA7 := Lib.hid hadr7
            have HS7 : Hid (w.heap.size + 1 ≤ w7.heap.size) := Lib.hid (by have := HS6.out; have := hk7.size; omega)
            have HC7 := Lib.hid (hk7.cb HC6.out (by have := HM5.out.lt; have := HNE.out; omega) (fun _ => by decide))
            clear hm7 hrow7 hadr7 hk7
            go_wp2_with fail
            rw [← HPR.out]
            go_loopg [11, 69] l6.length (fun gg x11 x69 wr => ClIn w7 l6 gg x11 x69 wr)
            case atStart => exact ⟨0, by omega, rfl, rfl, Below.refl _ _⟩
            case round =>
              obtain ⟨k, hk, rfl, rfl, hbk⟩ := hrel
              have HBk := Lib.hid hbk
              clear hbk
              by_cases hlk : k < l6.length
              · have e4 : decide ((k : Int) < (l6.length : Int)) = true := decide_eq_true (by omega)
                have hlk1 : (k : Int) < (l6.length : Int) := by omega
                have hr8 := row_below HR7.out HBk.out
                obtain ⟨g, c9, heq, -, -⟩ := row_slice hr8 (by omega)
                obtain ⟨rfl, -, rfl⟩ : ao6 = some ⟨g, 0, none⟩ ∧ True ∧ co6 = c9 := by
                  simp at heq
                  exact ⟨heq.1, trivial, heq.2⟩
                obtain ⟨r0, r1, r2, r3, r4⟩ := erow_at hr8 hlk
                have hmem : l6[k]! ∈ l6 := by rw [getElem!_pos l6 k hlk]; exact List.getElem_mem hlk
                have hx := HME6.out _ hmem
                obtain ⟨a9, k9, hv9, -, -⟩ := row_any (HA7.out _ hmem)
                have hct := cnt_take hlk
                have hcl := cnt_le (l6.take k)
                have hcl2 : (l6.take k).length ≤ 2 := by have := HL6.out; simp; omega
                rw [hv9] at r4
                generalize (l6[k]!).1.ads.length = q9 at r4
                generalize hcc : cnt (l6.take k) = cc at hct hcl
                clear hmem hv9
                generalize l6[k]! = xx at *
                obtain ⟨⟨xk, xi, xp, xe, xs⟩, xv⟩ := xx
                simp only at r0 r1 r2 r3 hct
                simp only [Meets] at hx
                obtain ⟨w8, hst8, hcb8, hb8⟩ := box58 wr xk xi xp xe a9 q9 k9
                obtain ⟨g0, g1, g2, g3, g4⟩ := hcb8.five
                have HB8 := Lib.hid (below_then HBk.out HBk.out.size hb8)
                have HW1 : Hid (Value.int .i64 (wrap64 ((k : Int) + 1)) = .int .i64 ((k + 1 : Nat) : Int)) := Lib.hid (by congr 1; have := HL6.out; unfold wrap64; omega)
                have HW2 : Hid (Value.int .i64 (wrap64 ((cc : Int) + 1)) = .int .i64 ((cc + 1 : Nat) : Int)) := Lib.hid (by congr 1; unfold wrap64; omega)
                have HHC := Lib.hid (And.intro hcc hct)
                obtain ⟨p0, p1, p2, p3, p4, p5⟩ := ((HC2.out.low HB7.out (by omega)).low (HB8.out.mono HS7.out) (by omega)).six
                have hco := ((HC7.out.below HBk.out).below hb8)
                obtain ⟨o0, o1, o2, o3, o4, o5, o6⟩ := hco.seven
                clear hr8 hcb8 hb8 heq hcc hct hcl hcl2 hco p1 p3 p4 p5 o1 o2 o3 o4 o5 o6
                rcases hx with hx | ⟨hx, hxi, hxe, hxp⟩
                · have q1 : (xk == 2) = true := beq_iff_eq.2 hx
                  have HX := Lib.hid hx
                  clear hx
                  go_wp2
                  go_roundg (l6.length - (k + 1))
                  case measure => omega
                  case rel => exact ⟨k + 1, by omega, HW1.out, by rw [HHC.out.1] at *; rw [HW2.out, HHC.out.2, if_pos HX.out], HB8.out⟩
                · have q1 : (xk == 2) = false := beq_eq_false_iff_ne.2 (by omega)
                  have q2 : (xi != f.id) = false := by simpa using hxi
                  have q3 : (xe != f.ev) = false := by simpa using hxe
                  have HX : Hid (¬ xk = 2) := Lib.hid (by omega)
                  rcases hxp with hxp | ⟨hxp, hx0, hk1⟩
                  · have q4 : (xp != m6.c.pr) = false := by simpa using hxp
                    clear hx hxi hxe hxp
                    go_wp2
                    go_roundg (l6.length - (k + 1))
                    case measure => omega
                    case rel => exact ⟨k + 1, by omega, HW1.out, by rw [HHC.out.2, if_neg HX.out, Nat.add_zero], HB8.out⟩
                  · have q4 : (xp != m6.c.pr) = true := by simpa using hxp
                    have q5 : (xp != 0) = false := by simpa using hx0
                    have q6 : (kd != 1) = false := by simpa using hk1
                    clear hx hxi hxe hxp hx0 hk1
                    go_wp2
                    go_roundg (l6.length - (k + 1))
                    case measure => omega
                    case rel => exact ⟨k + 1, by omega, HW1.out, by rw [HHC.out.2, if_neg HX.out, Nat.add_zero], HB8.out⟩
              · have e4 : decide ((k : Int) < (l6.length : Int)) = false := decide_eq_false (by omega)
                have hlk1 : ¬ (k : Int) < (l6.length : Int) := by omega
                obtain rfl : k = l6.length := by omega
                have hsc := shape_cnt HSH.out HLS.out
                rw [HWAS.out] at hsc
                rw [List.take_length]
                have HM8 := Lib.hid (HM7.out.below HBk.out)
                have HB8 := Lib.hid (HB7.out.trans (HBk.out.mono HS7.out))
                obtain ⟨d1, d6, d7, d8⟩ := HM8.out.cells
                have HSt2 := Lib.hid (state_any d6)
                rw [show (outM m6).st = m6.st from rfl] at HSt2
                have HEND : Hid (ClRel (w.alloc (.cells #[.int .i64 f.id, .int .i64 f.pr, .int .i64 f.ev, .bool f.pre, .string f.fr, .slice A n c] 25)) (w.heap.size + 1) B f n1 (n1 - (i + 1)) (.int .i64 m6.c.pr) (.int .i64 ((i + 1 : Nat) : Int)) wr) := Lib.hid ⟨i + 1, outM m6, by omega, rfl, rfl, HM8.out, HOT.out.outed, rfl, HCD.out.1, HCD.out.2, HB8.out⟩
                clear d1 d6 d7 d8 HM8 HB8 HBk
                rcases hsc with ⟨h1, h2⟩ | ⟨h1, h2, h3⟩ | ⟨h1, h2, h3⟩
                · have u1 : (was != 3) = false := by simpa using h1
                  rw [h2]
                  clear h1 h2
                  go_wp2
                  go_roundg (n1 - (i + 1))
                  case measure => omega
                  case rel => rw [HW.out]; exact HEND.out
                · have u1 : (was != 3) = true := by simpa using h1
                  have u2 : (m6.st == 3) = false := by simpa using h2
                  rw [h3]
                  clear h1 h2 h3
                  go_wp2_with fail
                  refine HSt2.out.mono ?_
                  rintro e w' ⟨rfl, rfl⟩
                  go_wp2
                  go_roundg (n1 - (i + 1))
                  case measure => omega
                  case rel => rw [HW.out]; exact HEND.out
                · have u1 : (was != 3) = true := by simpa using h1
                  have u2 : (m6.st == 3) = true := by simpa using h2
                  rw [h3]
                  clear h1 h2 h3
                  go_wp2_with fail
                  refine HSt2.out.mono ?_
                  rintro e w' ⟨rfl, rfl⟩
                  go_wp2
                  go_roundg (n1 - (i + 1))
                  case measure => omega
                  case rel => rw [HW.out]; exact HEND.out

        · have u2 : (kd == 4) = false := beq_eq_false_iff_ne.2 hk4
          have hsh := does_shape (m := m) (o := ⟨kd, on, fr1, ⟨ai, ap, ae, ax⟩⟩) HOU.out (by first | (intro _; show min on 1 ≤ 1; omega) | (intro h2; have h2' : kd = 2 := h2; omega) | (intro _; show on ≤ 1; omega))
          have hpr := does_pr m ⟨kd, on, fr1, ⟨ai, ap, ae, ax⟩⟩
          have hk5 : (doM m ⟨kd, on, fr1, ⟨ai, ap, ae, ax⟩⟩).c.pr = m.c.pr := by rw [hpr, if_neg (fun h => hk4 h.1)]
          replace hpr := hk5
          clear hk5 hk4 hk2
          have hcd : (doM m ⟨kd, on, fr1, ⟨ai, ap, ae, ax⟩⟩).c.id = f.id ∧ (doM m ⟨kd, on, fr1, ⟨ai, ap, ae, ax⟩⟩).c.ev = f.ev := ⟨hsh.1.trans HID.out, hsh.2.1.trans HEV.out⟩
          have HOT := Lib.hid (OkT.does HM5.out.ok HT.out ⟨kd, on, fr1, ⟨ai, ap, ae, ax⟩⟩)
          have HME := Lib.hid (shape_meets hsh HID.out HEV.out)
          have HSH := Lib.hid hsh
          have HD := Lib.hid (does_any (A := A2) (n := q2) (c := k2) HM5.out HT.out (by rw [HOU.out]; simp) ⟨kd, on, fr1, ⟨ai, ap, ae, ax⟩⟩)
          have HCD := Lib.hid hcd
          obtain ⟨d1, d6, d7, d8⟩ := HM5.out.cells
          have HSt := Lib.hid (state_any d6)
          generalize hwas : m.st = was at HSt
          have HWAS := Lib.hid hwas
          generalize hmm : doM m ⟨kd, on, fr1, ⟨ai, ap, ae, ax⟩⟩ = m6 at *
          have HPR := Lib.hid hpr
          clear hsh hpr hcd d1 d6 d7 d8 hwas hmm
          go_wp2_with fail
          refine HSt.out.mono ?_
          rintro e w' ⟨rfl, rfl⟩
          go_wp2_with fail
          refine HD.out.mono ?_
          rintro e w6 ⟨rfl, ⟨va6, vo6, l6, hS6⟩, hk6⟩
          have HB6 := Lib.hid (HB5.out.trans (hk6.below (Nat.le_refl _) HM5.out.lo HS5.out))
          have HS6 : Hid (w.heap.size + 1 ≤ w6.heap.size) := Lib.hid (by have := HS5.out; have := hk6.size; omega)
          have HC6 := Lib.hid (hk6.cb HC5.out (by have := HM5.out.lt; have := HNE.out; omega) (fun _ => by decide))
          have HM6 := Lib.hid hS6
          have HLS : Hid (l6.map Prod.fst = m6.out) := Lib.hid hS6.lst
          have HL6 : Hid (l6.length ≤ 2) := Lib.hid (by rw [hS6.len]; exact shape_len HSH.out)
          have HME6 : Hid (∀ x ∈ l6, Meets f m6.c.pr kd x.1) := Lib.hid (fun x hx => HME.out x.1 (by rw [← HLS.out]; exact List.mem_map_of_mem hx))
          obtain ⟨ao6, co6, rfl, -, -⟩ := row_any hS6.row
          have HO6 := Lib.hid (out_any hS6)
          clear hk6 hS6
          go_wp2_with fail
          refine HO6.out.mono ?_
          rintro e w7 ⟨rfl, hm7, hrow7, hadr7, hk7⟩
          have HB7 := Lib.hid (HB6.out.trans (hk7.below (Nat.le_refl _) HM6.out.lo HS6.out))
          have HM7 := Lib.hid hm7.mm
          have HR7 := Lib.hid hrow7
          have HA7 := Lib.hid hadr7
          have HS7 : Hid (w.heap.size + 1 ≤ w7.heap.size) := Lib.hid (by have := HS6.out; have := hk7.size; omega)
          have HC7 := Lib.hid (hk7.cb HC6.out (by have := HM5.out.lt; have := HNE.out; omega) (fun _ => by decide))
          clear hm7 hrow7 hadr7 hk7
          go_wp2_with fail
          rw [← HPR.out]
          go_loopg [11, 69] l6.length (fun gg x11 x69 wr => ClIn w7 l6 gg x11 x69 wr)
          case atStart => exact ⟨0, by omega, rfl, rfl, Below.refl _ _⟩
          case round =>
            obtain ⟨k, hk, rfl, rfl, hbk⟩ := hrel
            have HBk := Lib.hid hbk
            clear hbk
            by_cases hlk : k < l6.length
            · have e4 : decide ((k : Int) < (l6.length : Int)) = true := decide_eq_true (by omega)
              have hlk1 : (k : Int) < (l6.length : Int) := by omega
              have hr8 := row_below HR7.out HBk.out
              obtain ⟨g, c9, heq, -, -⟩ := row_slice hr8 (by omega)
              obtain ⟨rfl, -, rfl⟩ : ao6 = some ⟨g, 0, none⟩ ∧ True ∧ co6 = c9 := by
                simp at heq
                exact ⟨heq.1, trivial, heq.2⟩
              obtain ⟨r0, r1, r2, r3, r4⟩ := erow_at hr8 hlk
              have hmem : l6[k]! ∈ l6 := by rw [getElem!_pos l6 k hlk]; exact List.getElem_mem hlk
              have hx := HME6.out _ hmem
              obtain ⟨a9, k9, hv9, -, -⟩ := row_any (HA7.out _ hmem)
              have hct := cnt_take hlk
              have hcl := cnt_le (l6.take k)
              have hcl2 : (l6.take k).length ≤ 2 := by have := HL6.out; simp; omega
              rw [hv9] at r4
              generalize (l6[k]!).1.ads.length = q9 at r4
              generalize hcc : cnt (l6.take k) = cc at hct hcl
              clear hmem hv9
              generalize l6[k]! = xx at *
              obtain ⟨⟨xk, xi, xp, xe, xs⟩, xv⟩ := xx
              simp only at r0 r1 r2 r3 hct
              simp only [Meets] at hx
              obtain ⟨w8, hst8, hcb8, hb8⟩ := box58 wr xk xi xp xe a9 q9 k9
              obtain ⟨g0, g1, g2, g3, g4⟩ := hcb8.five
              have HB8 := Lib.hid (below_then HBk.out HBk.out.size hb8)
              have HW1 : Hid (Value.int .i64 (wrap64 ((k : Int) + 1)) = .int .i64 ((k + 1 : Nat) : Int)) := Lib.hid (by congr 1; have := HL6.out; unfold wrap64; omega)
              have HW2 : Hid (Value.int .i64 (wrap64 ((cc : Int) + 1)) = .int .i64 ((cc + 1 : Nat) : Int)) := Lib.hid (by congr 1; unfold wrap64; omega)
              have HHC := Lib.hid (And.intro hcc hct)
              obtain ⟨p0, p1, p2, p3, p4, p5⟩ := ((HC2.out.low HB7.out (by omega)).low (HB8.out.mono HS7.out) (by omega)).six
              have hco := ((HC7.out.below HBk.out).below hb8)
              obtain ⟨o0, o1, o2, o3, o4, o5, o6⟩ := hco.seven
              clear hr8 hcb8 hb8 heq hcc hct hcl hcl2 hco p1 p3 p4 p5 o1 o2 o3 o4 o5 o6
              rcases hx with hx | ⟨hx, hxi, hxe, hxp⟩
              · have q1 : (xk == 2) = true := beq_iff_eq.2 hx
                have HX := Lib.hid hx
                clear hx
                go_wp2
                go_roundg (l6.length - (k + 1))
                case measure => omega
                case rel => exact ⟨k + 1, by omega, HW1.out, by rw [HHC.out.1] at *; rw [HW2.out, HHC.out.2, if_pos HX.out], HB8.out⟩
              · have q1 : (xk == 2) = false := beq_eq_false_iff_ne.2 (by omega)
                have q2 : (xi != f.id) = false := by simpa using hxi
                have q3 : (xe != f.ev) = false := by simpa using hxe
                have HX : Hid (¬ xk = 2) := Lib.hid (by omega)
                rcases hxp with hxp | ⟨hxp, hx0, hk1⟩
                · have q4 : (xp != m6.c.pr) = false := by simpa using hxp
                  clear hx hxi hxe hxp
                  go_wp2
                  go_roundg (l6.length - (k + 1))
                  case measure => omega
                  case rel => exact ⟨k + 1, by omega, HW1.out, by rw [HHC.out.2, if_neg HX.out, Nat.add_zero], HB8.out⟩
                · have q4 : (xp != m6.c.pr) = true := by simpa using hxp
                  have q5 : (xp != 0) = false := by simpa using hx0
                  have q6 : (kd != 1) = false := by simpa using hk1
                  clear hx hxi hxe hxp hx0 hk1
                  go_wp2
                  go_roundg (l6.length - (k + 1))
                  case measure => omega
                  case rel => exact ⟨k + 1, by omega, HW1.out, by rw [HHC.out.2, if_neg HX.out, Nat.add_zero], HB8.out⟩
            · have e4 : decide ((k : Int) < (l6.length : Int)) = false := decide_eq_false (by omega)
              have hlk1 : ¬ (k : Int) < (l6.length : Int) := by omega
              obtain rfl : k = l6.length := by omega
              have hsc := shape_cnt HSH.out HLS.out
              rw [HWAS.out] at hsc
              rw [List.take_length]
              have HM8 := Lib.hid (HM7.out.below HBk.out)
              have HB8 := Lib.hid (HB7.out.trans (HBk.out.mono HS7.out))
              obtain ⟨d1, d6, d7, d8⟩ := HM8.out.cells
              have HSt2 := Lib.hid (state_any d6)
              rw [show (outM m6).st = m6.st from rfl] at HSt2
              have HEND : Hid (ClRel (w.alloc (.cells #[.int .i64 f.id, .int .i64 f.pr, .int .i64 f.ev, .bool f.pre, .string f.fr, .slice A n c] 25)) (w.heap.size + 1) B f n1 (n1 - (i + 1)) (.int .i64 m6.c.pr) (.int .i64 ((i + 1 : Nat) : Int)) wr) := Lib.hid ⟨i + 1, outM m6, by omega, rfl, rfl, HM8.out, HOT.out.outed, rfl, HCD.out.1, HCD.out.2, HB8.out⟩
              clear d1 d6 d7 d8 HM8 HB8 HBk
              rcases hsc with ⟨h1, h2⟩ | ⟨h1, h2, h3⟩ | ⟨h1, h2, h3⟩
              · have u1 : (was != 3) = false := by simpa using h1
                rw [h2]
                clear h1 h2
                go_wp2
                go_roundg (n1 - (i + 1))
                case measure => omega
                case rel => rw [HW.out]; exact HEND.out
              · have u1 : (was != 3) = true := by simpa using h1
                have u2 : (m6.st == 3) = false := by simpa using h2
                rw [h3]
                clear h1 h2 h3
                go_wp2_with fail
                refine HSt2.out.mono ?_
                rintro e w' ⟨rfl, rfl⟩
                go_wp2
                go_roundg (n1 - (i + 1))
                case measure => omega
                case rel => rw [HW.out]; exact HEND.out
              · have u1 : (was != 3) = true := by simpa using h1
                have u2 : (m6.st == 3) = true := by simpa using h2
                rw [h3]
                clear h1 h2 h3
                go_wp2_with fail
                refine HSt2.out.mono ?_
                rintro e w' ⟨rfl, rfl⟩
                go_wp2
                go_roundg (n1 - (i + 1))
                case measure => omega
                case rel => rw [HW.out]; exact HEND.out

    · have e3 : decide ((i : Int) < (n1 : Int)) = false := decide_eq_false (by omega)
      have hlt1 : ¬ (i : Int) < (n1 : Int) := by omega
      go_wp2_with fail
      refine (alive_any wr).mono ?_
      rintro e w10 ⟨rfl, hb10⟩
      have HSi : w.heap.size + 1 ≤ wr.heap.size := by have := HBi.out.size; have := HXS.out; omega
      have HBW := Lib.hid (HB0.out.trans ((HBi.out.trans (hb10.mono HSi)).mono (by omega)))
      clear hb10
      go_wp2
      go_ret
      exact ⟨rfl, HBW.out⟩

/-- VrrpClaims. -/
theorem claims_walk (f : Cf) (A : Option Addr) (n c : Nat) (a1 : Option Addr) (n1 c1 : Nat) (l : List Oq) (w : World) (hS : Strs w A n c f.ads) (hb : f.fr.size ≤ 140737488351232 ∧ n ≤ 8796093022208) (wa : (Lit.int .i64 f.id).wf = true) (wb : (Lit.int .i64 f.pr).wf = true) (wc : (Lit.int .i64 f.ev).wf = true) (hsc : Scr w a1 n1 c1 l) : Calls Try.prog 10 #[.agg #[.int .i64 f.id, .int .i64 f.pr, .int .i64 f.ev, .bool f.pre, .string f.fr, .slice A n c], .slice a1 n1 c1] w fun e w' => e = .returned (.bool true) ∧ Below w.heap.size w w' := by
  cases hok : okN f
  · exact claims_no f A n c a1 n1 c1 l w hS hb wa wb wc hsc hok
  · by_cases hl : 300 < n1
    · exact claims_long f A n c a1 n1 c1 l w hS hb wa wb wc hsc hok hl
    · exact claims_run f A n c a1 n1 c1 l w hS hb wa wb wc hsc hok hl
end Go.Proofs.Ytpcdaidgijkkbaa
