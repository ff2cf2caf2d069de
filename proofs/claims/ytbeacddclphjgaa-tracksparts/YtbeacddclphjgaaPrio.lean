/-
  tracks' Priority: the sum over the map, in whatever order.
-/
import Derived.Test.YtbeacddclphjgaaUpb
namespace Go.Proofs.Ytbeacddclphjgaa
open Go.RowKit Go.Maps
set_option linter.unusedVariables false
set_option linter.unusedSimpArgs false
set_option maxRecDepth 10000

/-- What those come to that have been met. -/
def totL (left : Lit → Bool) : List Tk → Int
  | [] => 0
  | t :: r => (cond (left (key t.name)) 0 (cnt t)) + totL left r
theorem totL_end {left : Lit → Bool} (h : ∀ kl, left kl = false) : ∀ T, totL left T = tot T
  | [] => rfl
  | t :: r => by simp [totL, tot, h, totL_end h r]
theorem totL_start {left : Lit → Bool} : ∀ {T : List Tk}, (∀ t ∈ T, left (key t.name) = true) → totL left T = 0
  | [], _ => rfl
  | t :: r, h => by
    have ih := totL_start (T := r) fun s hs => h s (by simp [hs])
    simp [totL, h t (by simp), ih]
theorem same_key {x y : ByteArray} : (key x).sameKey (key y) = decide (x = y) := by
  by_cases e : x = y
  · subst e
    rw [WideAt.sameKey_self (key_lit x)]; simp
  · rw [Maps.sameKey_ne fun h => e (key_inj h)]; simp [e]
theorem totL_not {left : Lit → Bool} {x : ByteArray} : ∀ {T : List Tk}, (∀ t ∈ T, t.name ≠ x) → totL (fun z => left z && !z.sameKey (key x)) T = totL left T
  | [], _ => rfl
  | t :: r, h => by
    have ih := totL_not (left := left) (T := r) fun s hs => h s (by simp [hs])
    simp only [totL]
    rw [ih, same_key, decide_eq_false (h t (by simp))]
    simp
theorem totL_step {left : Lit → Bool} {x : ByteArray} {t : Tk} (hl : left (key x) = true) : ∀ {T : List Tk}, T.Pairwise (fun a b => a.name ≠ b.name) → look T x = some t → totL (fun z => left z && !z.sameKey (key x)) T = totL left T + cnt t
  | [], _, h => by simp [look] at h
  | s :: r, hp, h => by
    obtain ⟨h1, h2⟩ := List.pairwise_cons.1 hp
    by_cases e : s.name = x
    · have e2 : s = t := by
        unfold look at h
        rw [List.find?_cons, decide_eq_true e] at h
        simpa using h
      subst e2
      subst e
      have ih := totL_not (left := left) (x := s.name) (T := r) fun u hu => (h1 u hu).symm
      simp only [totL]
      rw [ih, same_key, hl]
      simp
      omega
    · have e2 : look r x = some t := by
        unfold look at h ⊢
        rw [List.find?_cons, decide_eq_false e] at h
        exact h
      have ih := totL_step hl h2 e2
      simp only [totL]
      rw [ih, same_key, decide_eq_false e]
      simp
      omega

/-- An entry that has come is one of the tracks. -/
theorem come {T : List Tk} {D : DataW Nat} (h3 : ∀ x : ByteArray, Maps.has D (key x) = (look T x).isSome ∧ D.atKey (key x) (el 0 false) = ld (look T x)) {x : ByteArray} {y : DataW Nat} (hat : ∀ zd, D.atKey (key x) zd = y) :
    ∃ t, look T x = some t ∧ y = el t.wt t.up := by
  have hh := Maps.has_true_of_atKey hat
  rw [(h3 x).1] at hh
  obtain ⟨t, ht⟩ := Option.isSome_iff_exists.1 hh
  refine ⟨t, ht, ?_⟩
  have := (hat (el 0 false)).symm.trans (h3 x).2
  rw [this, ht]
  rfl

theorem Okay.bd {T : List Tk} (h : Okay T) {x : ByteArray} {t : Tk} (ht : look T x = some t) : -254 ≤ cnt t ∧ cnt t ≤ 254 := cnt_le (h.fit t (look_some ht).1).2.2.2

def encB (x : ByteArray) : Value := .string x
theorem invK9 (ky : Value) (kl : Lit) (hk : keyOf Try.prog 9 ky = some kl) : ∃ x : ByteArray, ky = .string x := by
  obtain ⟨x, hx, _⟩ := Maps.keyOf_str Try.underlying9 hk
  exact ⟨_, hx⟩
theorem key9 {x : ByteArray} {kl : Lit} (hk : keyOf Try.prog 9 (.string x) = some kl) : kl = key x ∧ x.size ≤ maxLen := by
  obtain ⟨y, hy, e, hl⟩ := Maps.keyOf_str Try.underlying9 hk
  have : x = ⟨y.toArray⟩ := by simpa [Go.Proofs.encStr] using hy
  subst this
  refine ⟨by rw [e]; simp [key], ?_⟩
  show y.toArray.size ≤ maxLen
  simpa using hl
structure El where
  a : Int
  u : Bool
theorem invV (v : Value) (y : DataW Nat × List MemPlace) (h : elR v = some y) : ∃ p : El, v = .agg #[.int .i64 p.a, .bool p.u] := by
  obtain ⟨a, u, e, _⟩ := elR_inv h
  exact ⟨⟨a, u⟩, e⟩
/-- What an entry is that has come. -/
theorem come_is {T : List Tk} {D : DataW Nat} (h3 : ∀ x : ByteArray, Maps.has D (key x) = (look T x).isSome ∧ D.atKey (key x) (el 0 false) = ld (look T x)) {x : ByteArray} {p : El} {kl : Lit} {yd : DataW Nat} {yp : List MemPlace} (hk : keyOf Try.prog 9 (.string x) = some kl)
    (hv : elR (.agg #[.int .i64 p.a, .bool p.u]) = some (yd, yp)) (hat : ∀ zd, D.atKey kl zd = yd) : kl = key x ∧ ∃ t, look T x = some t ∧ p = ⟨t.wt, t.up⟩ := by
  obtain ⟨rfl, hxl⟩ := key9 hk
  obtain ⟨t, ht, e⟩ := come h3 hat
  refine ⟨rfl, t, ht, ?_⟩
  have h1 : elR (ev p.a p.u) = some (yd, yp) := hv
  rw [elR_mk] at h1
  simp only [Option.some.injEq, Prod.mk.injEq] at h1
  have h2 := el_inj (h1.1.trans e)
  cases p
  simp only at h2
  rw [h2.1, h2.2]

/-- A row is no iterator. -/
theorem row_ne_iter {w : World} {base e size n : Nat} {v : Value} {xs : List Value} {M r m : Nat} {D : DataW Nat} {left : Lit → Bool} {c : Nat} (h : w.ownsRow base e size v n xs) (hr : w.ranges Try.prog 9 elR M r m D left c) : some r ≠ v.ownBlock := by
  obtain ⟨es, clock, since, seen, c0, _, _, _, _, hr, _⟩ := hr
  rcases h.2 with ⟨rfl, _⟩ | ⟨g, cap, cur, rfl, hb, hg, _⟩
  · simp [Value.ownBlock]
  · intro e
    simp only [Value.ownBlock, Option.some.injEq] at e
    subst e
    rw [hg] at hr
    cases hr
/-- .. nor is it a block that was there. -/
theorem row_ne_low {w : World} {base e size n : Nat} {v : Value} {xs : List Value} {M : Nat} (h : w.ownsRow base e size v n xs) (hM : M < base) : some M ≠ v.ownBlock := by
  rcases h.2 with ⟨rfl, _⟩ | ⟨g, cap, cur, rfl, hb, hg, _⟩
  · simp [Value.ownBlock]
  · intro e
    simp only [Value.ownBlock, Option.some.injEq] at e
    omega

def PrRel (w : World) (M r n : Nat) (D : DataW Nat) (T : List Tk) (gg : Nat) (s3 : Value) (wr : World) : Prop :=
  ∃ (left : Lit → Bool) (ss : List Int), wr.ranges Try.prog 9 elR M r n D left gg ∧ wr.ownsRow w.heap.size 3 1 s3 ss.length (icells ss) ∧ ss.length + gg ≤ 8 ∧ (∀ x ∈ ss, -254 ≤ x ∧ x ≤ 254) ∧ sumI ss = totL left T ∧ Below w.heap.size w wr

set_option maxHeartbeats 2000000 in
theorem prio_some {w : World} {B M : Nat} {b : Int} {T : List Tk} (h : SetAt w B M b T) (ok : Okay T) (hb : b ≠ 255) (hb2 : 0 ≤ b ∧ b ≤ 255) :
    Calls Try.prog 17 #[.pointer (some ⟨B, 0, none⟩)] w fun e w' => e = .returned (.int .i64 (prio b T)) ∧ Below w.heap.size w w' := by
  obtain ⟨D, h1, h2, h3⟩ := h.map
  have d0 := h.c0
  have d1 := h.c1
  have hMl := h1.lt
  have hBl := h.lt
  have hbz : (b == 255) = false := by simpa using hb
  obtain ⟨i0, hi, hz0, hz1, hz2⟩ := info_parts info3
  obtain ⟨n, hn⟩ : ∃ n, T.length = n := ⟨_, rfl⟩
  have hn8 : n ≤ 8 := by rw [← hn]; exact ok.len
  rw [hn] at h1 h2
  have H := Lib.hid h
  have H3 := Lib.hid h3
  have OK := Lib.hid ok
  have HS : Hid (totL (Maps.has D) T = 0) := Lib.hid (totL_start fun t ht => by rw [(h3 t.name).1, look_mem ok.apart ht]; rfl)
  clear h h3 ok hn hb
  go_enter Try.func17, Try.ntmps17
  go_wp2_with (first
    | (at_range; refine wpList_range_own _ rfl _ 55 rfl 9 60 keyed9 Try.underlying55 _ M n _ rfl h1 ?_; intro w0 hrg0 hg0 hs0)
    | go_in)
  go_frame
  rw [h2] at hrg0
  have HB0 : Hid (Below w.heap.size w w0) := Lib.hid ⟨hg0.os, hg0.tape, hg0.output, hg0.size, fun i hi => hg0.block i hi (by simp)⟩
  have HR0 := Lib.hid hrg0
  clear hrg0 hg0 hs0 h1 h2
  go_loopg [3, 5] n (fun gg s3 _ wr => Hid (PrRel w M w.heap.size n D T gg s3 wr))
  case atStart => exact Lib.hid ⟨_, [], HR0.out, World.ownsRow_nil _ _ _ _, by simpa using hn8, by simp, HS.out.symm, HB0.out⟩
  case round =>
    obtain ⟨left, ss, hrg, hrow, hlen, hbd, hsum, hbw⟩ := hrel.out
    clear hrel
    go_wp2_with (first
      | (at_next; refine wpList_next_ranges _ rfl _ rfl 9 keyed9 elR Value.string (fun p : El => .agg #[.int .i64 p.a, .bool p.u]) (fun ky kl hk => invK9 ky kl hk) (fun v y hv => invV v y hv) M w.heap.size n _ _ _ rfl hrg ?_ ?_)
      | go_in)
    · intro _ hl0
      have e0 := hbw.cell (p := ⟨B, 0, none⟩) hBl
      rw [d0] at e0
      rw [totL_end hl0] at hsum
      have HB := Lib.hid hbw
      have HC := Lib.hid (sum_any (f := b) hrow (by omega) hbd hb2)
      have HE : Hid (sumI ss = tot T) := Lib.hid hsum
      clear hrg hrow hbd hsum hl0 hbw
      obtain ⟨s, hs⟩ : ∃ s, b + sumI ss = s := ⟨_, rfl⟩
      rw [hs] at HC
      have HP : Hid (min (max s 1) 254 = prio b T) := Lib.hid (by unfold prio; rw [if_neg (by simpa using hbz), ← hs, HE.out])
      clear hs
      by_cases hs1 : s < 1
      · have hs1' : ¬ s ≥ 1 := by omega
        go_wp2_with (go_at_call 26; refine HC.out.mono ?_; rintro e w1 ⟨rfl, hb1⟩; have HB1 := Lib.hid hb1; clear hb1)
        go_ret
        exact ⟨ret_int (by rw [← HP.out]; omega), HB.out.trans (HB1.out.mono HB.out.size)⟩
      · by_cases hs2 : s ≤ 254
        · go_wp2_with (go_at_call 26; refine HC.out.mono ?_; rintro e w1 ⟨rfl, hb1⟩; have HB1 := Lib.hid hb1; clear hb1)
          go_ret
          exact ⟨ret_int (by rw [← HP.out]; omega), HB.out.trans (HB1.out.mono HB.out.size)⟩
        · go_wp2_with (go_at_call 26; refine HC.out.mono ?_; rintro e w1 ⟨rfl, hb1⟩; have HB1 := Lib.hid hb1; clear hb1)
          go_ret
          exact ⟨ret_int (by rw [← HP.out]; omega), HB.out.trans (HB1.out.mono HB.out.size)⟩
    · intro x p kl yd yp w2 c2 hkey hlk hv hat hrg2 hlt hg2 hs2 hen
      obtain ⟨rfl, t, ht, rfl⟩ := come_is H3.out hkey hv hat
      have hx := OK.out.bd ht
      obtain ⟨k, hk⟩ : ∃ k, cnt t = k := ⟨_, rfl⟩
      have HC := fun w => Lib.hid (counts_any hk w)
      have hsum2 := totL_step hlk OK.out.apart ht
      rw [hk] at hsum2 hx
      have hrow2 := row_only hrow (Only.of_grown (F := fun i => i = w.heap.size) hg2 fun i hi => by simpa using hi.symm) fun g hg e => row_ne_iter hrow hrg (by rw [hg, e])
      have hbw2 : Below w.heap.size w w2 := ⟨hg2.os.trans hbw.os, hg2.tape.trans hbw.tape, hg2.output.trans hbw.output, Nat.le_trans hbw.size hg2.size, fun i hi => (hg2.block i (Nat.lt_of_lt_of_le hi hbw.size) (by simp; omega)).trans (hbw.block i hi)⟩
      have HG := Lib.hid (And.intro hrow2 (And.intro hbw2 (And.intro hrg2 hsum2)))
      clear hrow hrg hbw hrow2 hbw2 hrg2 hsum2 hg2 hs2 hkey hv hat ht hlk hk
      generalize t.wt = a at hen HC
      generalize t.up = u at hen HC
      unfold ev at HC
      go_wp2_with fail
      refine (HC _).out.mono ?_
      rintro e w3 ⟨rfl, hb3⟩
      have hb23 := below_then (below_alloc (Below.refl w2.heap.size w2) (.cells #[.int .i64 a, .bool u] 60)) (by simp) hb3
      have HR3 := Lib.hid ((row_below HG.out.1 hb23).alloc (.cells #[.int .i64 k] 3))
      have hrg3 := HG.out.2.2.1.kept (w' := w3) (row := none) ⟨hb23.os, hb23.tape, hb23.output, hb23.size, fun i hi _ => hb23.block i hi⟩ (by simp) (by simp)
      have HRG := Lib.hid (hrg3.alloc (.cells #[.int .i64 k] 3))
      have HB3 := Lib.hid (below_then HG.out.2.1 HG.out.2.1.size hb23)
      have hsz := HB3.out.size
      clear hb3 hb23 hrg3
      go_wp2_with (at_builtin; refine wpList_append_own _ rfl _ _ 63 rfl w.heap.size 3 i0 _ 1 8 Try.underlying63 hi hz0 hz1 hz2 rfl (by decide) _ ss.length (icells ss) rfl HR3.out ⟨w3.heap.size, 0, none⟩ 1 1 [.int .i64 k] rfl rfl (cell_one_at _ _ rfl) (by intro u hu; simp at hu; subst hu; rfl) (by simp only [maxLen]; omega) (by omega) (by simp; omega) ?_; intro v1 w4 hown1 hgrow1 hnil1)
      go_roundg c2
      case measure => exact hlt
      case rel =>
        refine Lib.hid ⟨_, ss ++ [k], HRG.out.kept hgrow1 (row_ne_low HR3.out hMl) (row_ne_iter HR3.out HRG.out), by simpa [icells] using hown1, by simp; omega, ?_, ?_, ?_⟩
        · intro y hy
          rcases List.mem_append.1 hy with hy | hy
          · exact hbd y hy
          · simp at hy; subst hy; exact hx
        · rw [sumI_app, HG.out.2.2.2, hsum]; simp [sumI]
        · exact (HB3.out.alloc hsz _).grown hgrow1 (by simp; omega) (fun j hj => (HR3.out.lt j hj).1)

/-- Priority. -/
theorem prio_any {w : World} {B M : Nat} {b : Int} {T : List Tk} (h : SetAt w B M b T) (ok : Okay T) (hb : 1 ≤ b ∧ b ≤ 255) :
    Calls Try.prog 17 #[.pointer (some ⟨B, 0, none⟩)] w fun e w' => e = .returned (.int .i64 (prio b T)) ∧ Below w.heap.size w w' := by
  by_cases hb2 : b = 255
  · subst hb2
    have d0 := h.c0
    clear h ok
    go_enter Try.func17, Try.ntmps17
    go_wp2
    go_ret
    exact ⟨rfl, Below.refl _ _⟩
  · exact prio_some h ok hb2 (by omega)
end Go.Proofs.Ytbeacddclphjgaa
