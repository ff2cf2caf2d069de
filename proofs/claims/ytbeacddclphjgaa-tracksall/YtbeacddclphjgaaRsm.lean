/-
  The document's Priority, find, Up.
-/
import Derived.Test.YtbeacddclphjgaaRbase
import Derived.Test.YtbeacddclphjgaaUpb
namespace Go.Proofs.Ytbeacddclphjgaa
open Go.RowKit Go.Maps
set_option linter.unusedVariables false
set_option linter.unusedSimpArgs false
set_option maxRecDepth 10000

def RpRel (w : World) (b : Int) (l : List Bk) (f : Nat → Bool) (n gg : Nat) (s3 s4 : Value) (wr : World) : Prop :=
  ∃ k : Nat, k + gg = n ∧ s4 = .int .i64 k ∧ s3 = .int .i64 (b + tot (updN l f k)) ∧ Below w.heap.size w wr

set_option maxHeartbeats 4000000 in
theorem rprio_some {w : World} {b : Int} {a : Option Addr} {n c : Nat} {v : Value} {l : List Bk} {ups : List Bool} (h : Rs w a n c v l ups) (hR : Right l) (hb : b ≠ 255) (hb2 : 1 ≤ b ∧ b ≤ 255) :
    Calls Try.prog 18 #[rsv b a n c v] w fun e w' => e = .returned (.int .i64 (prio b (UT l ups))) ∧ Below w.heap.size w w' := by
  obtain ⟨ua, uc, rfl, -, -⟩ := row_any h.row
  have HC := Lib.hid (Cb.new3 w (.int .i64 b) (.slice a n c) (.slice ua n uc) 32)
  have HB0 := Lib.hid (below_alloc (Below.refl w.heap.size w) (.cells #[.int .i64 b, .slice a n c, .slice ua n uc] 32))
  have H := Lib.hid h
  have HR := Lib.hid hR
  have hnl := h.bk.1
  have hn8 : n ≤ 8 := by rw [hnl]; exact hR.1
  have hbz : (b == 255) = false := by simpa using hb
  obtain ⟨f, hf⟩ : ∃ f : Nat → Bool, f = fun i => ups[i]! := ⟨_, rfl⟩
  have hP : prio b (UT l ups) = min (max (b + tot (updN l f n)) 1) 254 := by
    unfold prio UT
    rw [if_neg hb, ← updN_all, hf, ← hnl]
  rw [hP]
  obtain ⟨pv, hpv⟩ : ∃ pv, min (max (b + tot (updN l f n)) 1) 254 = pv := ⟨_, rfl⟩
  have HPV := Lib.hid hpv
  rw [hpv]
  have HN := Lib.hid hnl
  have HF := Lib.hid hf
  unfold rsv
  clear h hR hb hP hnl hf hpv
  go_enter Try.func18, Try.ntmps18
  go_wp2
  obtain ⟨w0, hw0⟩ : ∃ X, X = w.alloc (.cells #[.int .i64 b, .slice a n c, .slice ua n uc] 32) := ⟨_, rfl⟩
  rw [← hw0] at HC HB0 ⊢
  clear hw0
  go_loopg [3, 4] n (fun gg s3 s4 wr => Hid (RpRel w0 b l f n gg s3 s4 wr))
  case atStart => exact Lib.hid ⟨0, by omega, rfl, by simp [updN, tot], Below.refl _ _⟩
  case round =>
    obtain ⟨k, hk, rfl, rfl, hbl⟩ := hrel.out
    clear hrel
    obtain ⟨d0, d1, d2⟩ := (HC.out.below hbl).three
    by_cases hkn : k < n
    · have hkz : (k : Int) < (n : Int) := by omega
      have hr := (H.out.below HB0.out).below hbl
      obtain ⟨g, off, rfl, hgl, c0, c1⟩ := bk_at hr.bk hkn
      have hrow := hr.row
      obtain ⟨g2, c2, e, _⟩ := row_slice hrow (by omega)
      simp only [Value.slice.injEq, true_and] at e
      obtain ⟨rfl, rfl⟩ := e
      have u0 := urow_at hrow hkn
      have hfk : ups[k]! = f k := by rw [HF.out]
      rw [hfk] at u0
      have hkl : k < l.length := by rw [← HN.out]; exact hkn
      have hfit := (fit_at HR.out hkl).2.2
      have hnx := tot_next l f k
      have hbd := tot_bd HR.out f k (by omega)
      have hcu : cnt (tk l[k]! (f k)) = if f k then max (l[k]!).wt 0 else min (l[k]!).wt 0 := rfl
      rw [hcu] at hnx
      generalize (l[k]!).wt = wt at c1 hfit hnx
      generalize f k = u at u0 hnx
      have hbs : -2100 ≤ b + tot (updN l f k) ∧ b + tot (updN l f k) ≤ 2400 := by omega
      obtain ⟨s, hs⟩ : ∃ s, b + tot (updN l f k) = s := ⟨_, rfl⟩
      rw [hs] at hbs ⊢
      have HB := Lib.hid hbl
      rcases Int.lt_trichotomy wt 0 with hw | hw | hw
      · have z1 : ¬ wt > 0 := by omega
        have z1a : decide (0 < wt) = false := decide_eq_false z1
        have z2a : decide (wt < 0) = true := decide_eq_true hw
        cases u with
        | true =>
          have HNX : Hid (b + tot (updN l f (k + 1)) = s) := Lib.hid (by rw [hnx, if_pos rfl]; omega)
          clear hr hrow hbd hnx hs hcu hbl hfk
          go_wp2
          go_roundg (n - (k + 1))
          case measure => omega
          case rel => exact Lib.hid ⟨k + 1, by omega, by go_num, by rw [HNX.out], HB.out⟩
        | false =>
          have HNX : Hid (b + tot (updN l f (k + 1)) = s + wt) := Lib.hid (by rw [hnx, if_neg (by simp)]; omega)
          have HW : IntKind.i64.wrap (s + wt) = s + wt := by rw [IntKind.wrap_i64]; omega
          clear hr hrow hbd hnx hs hcu hbl hfk
          go_wp2
          go_roundg (n - (k + 1))
          case measure => omega
          case rel => exact Lib.hid ⟨k + 1, by omega, by go_num, by rw [HNX.out], HB.out⟩
      · exact absurd hw hfit.1
      · have z1 : ¬ wt < 0 := by omega
        have z1a : decide (0 < wt) = true := decide_eq_true hw
        have z2a : decide (wt < 0) = false := decide_eq_false z1
        cases u with
        | true =>
          have HNX : Hid (b + tot (updN l f (k + 1)) = s + wt) := Lib.hid (by rw [hnx, if_pos rfl]; omega)
          have HW : IntKind.i64.wrap (s + wt) = s + wt := by rw [IntKind.wrap_i64]; omega
          clear hr hrow hbd hnx hs hcu hbl hfk
          go_wp2
          go_roundg (n - (k + 1))
          case measure => omega
          case rel => exact Lib.hid ⟨k + 1, by omega, by go_num, by rw [HNX.out], HB.out⟩
        | false =>
          have HNX : Hid (b + tot (updN l f (k + 1)) = s) := Lib.hid (by rw [hnx, if_neg (by simp)]; omega)
          clear hr hrow hbd hnx hs hcu hbl hfk
          go_wp2
          go_roundg (n - (k + 1))
          case measure => omega
          case rel => exact Lib.hid ⟨k + 1, by omega, by go_num, by rw [HNX.out], HB.out⟩
    · have hkz : ¬ (k : Int) < (n : Int) := by omega
      obtain rfl : k = n := by omega
      have HB := Lib.hid (HB0.out.trans (hbl.mono HB0.out.size))
      clear hbl
      obtain ⟨s, hs⟩ : ∃ s, b + tot (updN l f k) = s := ⟨_, rfl⟩
      rw [hs] at HPV ⊢
      clear hs
      by_cases hs1 : s < 1
      · go_wp2
        go_ret
        exact ⟨ret_int (by rw [← HPV.out]; omega), HB.out⟩
      · by_cases hs2 : s > 254
        · go_wp2
          go_ret
          exact ⟨ret_int (by rw [← HPV.out]; omega), HB.out⟩
        · go_wp2
          go_ret
          exact ⟨ret_int (by rw [← HPV.out]; omega), HB.out⟩

theorem rprio_any {w : World} {b : Int} {a : Option Addr} {n c : Nat} {v : Value} {l : List Bk} {ups : List Bool} (h : Rs w a n c v l ups) (hR : Right l) (hb : 1 ≤ b ∧ b ≤ 255) :
    Calls Try.prog 18 #[rsv b a n c v] w fun e w' => e = .returned (.int .i64 (prio b (UT l ups))) ∧ Below w.heap.size w w' := by
  by_cases hb2 : b = 255
  · subst hb2
    obtain ⟨ua, uc, rfl, -, -⟩ := row_any h.row
    clear h hR
    unfold rsv
    go_enter Try.func18, Try.ntmps18
    go_wp2
    go_ret
    exact ⟨rfl, below_alloc (Below.refl _ _) _⟩
  · exact rprio_some h hR hb2 hb

def RfRel (w : World) (l : List Bk) (x : ByteArray) (n gg : Nat) (s5 : Value) (wr : World) : Prop :=
  ∃ k : Nat, k + gg = n ∧ s5 = .int .i64 k ∧ (∀ i, i < k → (l[i]!).name ≠ x) ∧ Below w.heap.size w wr
/-- Where a name is. -/
def FindIs (l : List Bk) (x : ByteArray) (r : Int) : Prop := (r = -1 ∧ ∀ i, i < l.length → (l[i]!).name ≠ x) ∨ ∃ k : Nat, k < l.length ∧ r = k ∧ (l[k]!).name = x

set_option maxHeartbeats 4000000 in
theorem rfind_any {w : World} {b : Int} {a : Option Addr} {n c : Nat} {v : Value} {l : List Bk} {ups : List Bool} (h : Rs w a n c v l ups) (hn8 : n ≤ 8) (x : ByteArray) :
    Calls Try.prog 24 #[rsv b a n c v, .string x] w fun e w' => ∃ r, e = .returned (.int .i64 r) ∧ FindIs l x r ∧ Below w.heap.size w w' := by
  obtain ⟨ua, uc, rfl, -, -⟩ := row_any h.row
  have HC := Lib.hid (Cb.new3 w (.int .i64 b) (.slice a n c) (.slice ua n uc) 32)
  have HB0 := Lib.hid (below_alloc (Below.refl w.heap.size w) (.cells #[.int .i64 b, .slice a n c, .slice ua n uc] 32))
  have H := Lib.hid h
  have HN := Lib.hid h.bk.1
  unfold rsv
  clear h
  go_enter Try.func24, Try.ntmps24
  go_wp2
  obtain ⟨w0, hw0⟩ : ∃ X, X = w.alloc (.cells #[.int .i64 b, .slice a n c, .slice ua n uc] 32) := ⟨_, rfl⟩
  rw [← hw0] at HC HB0 ⊢
  clear hw0
  go_loopg [5] n (fun gg s5 wr => Hid (RfRel w0 l x n gg s5 wr))
  case atStart => exact Lib.hid ⟨0, by omega, rfl, fun i hi => by omega, Below.refl _ _⟩
  case round =>
    obtain ⟨k, hk, rfl, hno, hbl⟩ := hrel.out
    clear hrel
    obtain ⟨d0, d1, d2⟩ := (HC.out.below hbl).three
    have HB := Lib.hid (HB0.out.trans (hbl.mono HB0.out.size))
    by_cases hkn : k < n
    · have hkz : (k : Int) < (n : Int) := by omega
      have hr := (H.out.below HB0.out).below hbl
      obtain ⟨g, off, rfl, hgl, c0, -⟩ := bk_at hr.bk hkn
      have HNO := Lib.hid hno
      have HBL := Lib.hid hbl
      obtain ⟨nm, hnm⟩ : ∃ nm, (l[k]!).name = nm := ⟨_, rfl⟩
      rw [hnm] at c0
      have HNM := Lib.hid hnm
      clear hr hno hbl hnm
      by_cases hx : nm = x
      · have e0 : (nm.toList == x.toList) = true := by rw [hx]; simp
        have HX := Lib.hid hx
        clear hx
        go_wp2
        go_ret
        exact ⟨_, rfl, .inr ⟨k, by rw [← HN.out]; exact hkn, rfl, by rw [HNM.out, HX.out]⟩, HB.out⟩
      · have e0 : (nm.toList == x.toList) = false := by rw [beq_eq_false_iff_ne]; exact fun e => hx (toList_inj e)
        have HX := Lib.hid hx
        clear hx
        go_wp2
        go_roundg (n - (k + 1))
        case measure => omega
        case rel =>
          refine Lib.hid ⟨k + 1, by omega, by go_num, fun i hi => ?_, HBL.out⟩
          by_cases e : i = k
          · rw [e, HNM.out]; exact HX.out
          · exact HNO.out i (by omega)
    · have hkz : ¬ (k : Int) < (n : Int) := by omega
      have HNO := Lib.hid hno
      clear hno hbl
      go_wp2
      go_ret
      exact ⟨_, rfl, .inl ⟨rfl, fun i hi => HNO.out i (by have := HN.out; omega)⟩, HB.out⟩

set_option maxHeartbeats 4000000 in
theorem rup_any {w : World} {b : Int} {a : Option Addr} {n c : Nat} {v : Value} {l : List Bk} {ups : List Bool} (h : Rs w a n c v l ups) (hR : Right l) (x : ByteArray) :
    Calls Try.prog 16 #[rsv b a n c v, .string x] w fun e w' => e = .returned (.tuple #[.bool (upOf (UT l ups) x), .bool (isT (UT l ups) x)]) ∧ Below w.heap.size w w' := by
  obtain ⟨ua, uc, rfl, -, -⟩ := row_any h.row
  have HC := Lib.hid (Cb.new3 w (.int .i64 b) (.slice a n c) (.slice ua n uc) 32)
  have HB0 := Lib.hid (below_alloc (Below.refl w.heap.size w) (.cells #[.int .i64 b, .slice a n c, .slice ua n uc] 32))
  have H := Lib.hid h
  have HN := Lib.hid h.bk.1
  have HR := Lib.hid hR
  have HF := Lib.hid (rfind_any (b := b) (h.below HB0.out) (by rw [h.bk.1]; exact hR.1) x)
  unfold rsv at HF ⊢
  obtain ⟨r1, hr1⟩ : ∃ r, upOf (UT l ups) x = r := ⟨_, rfl⟩
  obtain ⟨r2, hr2⟩ : ∃ r, isT (UT l ups) x = r := ⟨_, rfl⟩
  have H1 := Lib.hid hr1
  have H2 := Lib.hid hr2
  rw [hr1, hr2]
  clear h hR hr1 hr2
  go_enter Try.func16, Try.ntmps16
  go_wp2_with fail
  refine HF.out.mono ?_
  rintro e w1 ⟨r, rfl, hr, hb1⟩
  have d2 := hb1.cell (p := ⟨w.heap.size, 2, none⟩) (by simp)
  simp [go_sem] at d2
  have HB1 := Lib.hid (HB0.out.trans (hb1.mono HB0.out.size))
  obtain ⟨rfl, hno⟩ | ⟨k, hkl, rfl, hnm⟩ := hr
  · have hl := UT_none (l := l) ups hno
    obtain rfl : r1 = false := by rw [← H1.out]; unfold upOf; rw [hl]
    obtain rfl : r2 = false := by rw [← H2.out]; unfold isT; rw [hl]; rfl
    clear hno hl hb1
    go_wp2
    go_ret2
    exact ⟨rfl, HB1.out⟩
  · have hl := UT_look HR.out ups hkl
    rw [hnm] at hl
    have e1 : ups[k]! = r1 := by rw [← H1.out]; unfold upOf; rw [hl]; rfl
    obtain rfl : r2 = true := by rw [← H2.out]; unfold isT; rw [hl]; rfl
    have hkn : k < n := by rw [HN.out]; exact hkl
    have hrow := ((H.out.below HB0.out).below hb1).row
    obtain ⟨g2, c2', e, _⟩ := row_slice hrow (by omega)
    simp only [Value.slice.injEq, true_and] at e
    obtain ⟨rfl, rfl⟩ := e
    have u0 := urow_at hrow hkn
    rw [e1] at u0
    have hkz : (k : Int) < (n : Int) := by omega
    have hkz2 : ¬ ((k : Int) < 0) := by omega
    clear hl hrow hnm e1 hb1
    go_wp2
    go_ret2
    exact ⟨rfl, HB1.out⟩
end Go.Proofs.Ytbeacddclphjgaa
