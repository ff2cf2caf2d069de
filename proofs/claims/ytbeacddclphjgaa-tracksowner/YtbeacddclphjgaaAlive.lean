/-
  tracks.New of whatever it is given; the law's alive.
-/
import Derived.Test.YtbeacddclphjgaaNew
import Derived.Test.YtbeacddclphjgaaDown
namespace Go.Proofs.Ytbeacddclphjgaa
open Go.RowKit Go.Maps
set_option linter.unusedVariables false
set_option linter.unusedSimpArgs false
set_option maxRecDepth 10000

set_option maxHeartbeats 1000000 in
theorem new_any {w : World} {b : Int} {a : Option Addr} {n c : Nat} {l : List Bk} (h : Bks w a n c l) (hw : Wide l) :
    Calls Try.prog 8 #[.int .i64 b, .slice a n c] w fun e w' => ∃ pv ev, e = .returned (.tuple #[pv, ev]) ∧ NewIs w b l pv ev w' ∧ Below w.heap.size w w' := by
  cases hb : isB b with
  | false =>
    have HI := fun w => Lib.hid (isBase_any (w := w) hb)
    have HB := Lib.hid hb
    clear h hw hb
    go_enter Try.func8, Try.ntmps8
    go_wp2_with (go_at_call 22; refine (HI _).out.mono ?_; rintro e w1 ⟨rfl, rfl⟩)
    go_ret2
    exact ⟨_, _, rfl, .inl ⟨fun h => (by have := h.1; rw [HB.out] at this; cases this), rfl, rfl⟩, Below.refl _ _⟩
  | true =>
    by_cases hn8 : n ≤ 8
    · exact new_right h hw hb hn8
    · have HI := fun w => Lib.hid (isBase_any (w := w) hb)
      have HN := Lib.hid h.1
      have hz8 : ((n : Int) > 8) := by omega
      clear h hw hb
      go_enter Try.func8, Try.ntmps8
      go_wp2_with (go_at_call 22; refine (HI _).out.mono ?_; rintro e w1 ⟨rfl, rfl⟩)
      go_ret2
      exact ⟨_, _, rfl, .inl ⟨fun h => (by have := h.2.1; have := HN.out; omega), rfl, rfl⟩, Below.refl _ _⟩

theorem bound {b : Int} (h : isB b = true) : 1 ≤ b ∧ b ≤ 255 := of_decide_eq_true h

def two : List Bk := [⟨⟨#[97]⟩, 20⟩, ⟨⟨#[98]⟩, -30⟩]
theorem two_right : NewOk 100 two := by
  refine ⟨rfl, by decide, ?_, ?_⟩
  · intro b hb
    simp only [two, List.mem_cons, List.not_mem_nil, or_false] at hb
    rcases hb with rfl | rfl
    · exact ⟨by decide, by decide, by decide, by decide, by decide⟩
    · exact ⟨by decide, by decide, by decide, by decide, by decide⟩
  · unfold Apart two
    simp
theorem two_prio : prio 100 (fresh two) = 70 := by decide +kernel
theorem two_tell : telC 100 (fresh two) ⟨#[98]⟩ true = true := by decide +kernel
theorem two_is : isT (fresh two) ⟨#[98]⟩ = true := by decide +kernel
theorem two_after : prio 100 (tel (fresh two) ⟨#[98]⟩ true) = 100 := by decide +kernel
theorem two_down : (dn (tel (fresh two) ⟨#[98]⟩ true)).length = 1 := by decide +kernel

set_option maxHeartbeats 2000000 in
theorem alive_any (w : World) : Calls Try.prog 11 #[] w fun e w' => e = .returned (.bool true) ∧ Below w.heap.size w w' := by
  have hbk : Bks (w.alloc (.cells #[.string ⟨#[97]⟩, .int .i64 20, .string ⟨#[98]⟩, .int .i64 (-30)] 58)) (some ⟨w.heap.size, 0, none⟩) 2 2 two := ⟨rfl, Nat.le_refl _, by omega, fun _ => ⟨_, 0, rfl, by simp, fun i hi => by
    have hi2 : i < 2 := hi
    match i, hi2 with
    | 0, _ => simp [go_sem, two]
    | 1, _ => simp [go_sem, two]⟩⟩
  have hwd : Wide two := fun i hi => by
    have hi2 : i < 2 := hi
    match i, hi2 with
    | 0, _ => exact ⟨by decide, by decide, by decide⟩
    | 1, _ => exact ⟨by decide, by decide, by decide⟩
  have HN := Lib.hid (new_any (b := 100) hbk hwd)
  have HB0 := Lib.hid (below_alloc (Below.refl w.heap.size w) (.cells #[.string ⟨#[97]⟩, .int .i64 20, .string ⟨#[98]⟩, .int .i64 (-30)] 58))
  clear hbk hwd
  go_enter Try.func11, Try.ntmps11
  go_wp2_with fail
  refine HN.out.mono ?_
  rintro e w1 ⟨pv, ev, rfl, hnew, hb1⟩
  have hB1 := HB0.out.trans (hb1.mono (by simp))
  obtain ⟨hno, _⟩ | ⟨-, B, M, rfl, rfl, hs1, hBg, hMg⟩ := hnew
  · exact absurd two_right hno
  have ok := okay_fresh two_right.2
  have HP1 := Lib.hid (prio_any hs1 ok (by omega))
  rw [two_prio] at HP1
  have HG := Lib.hid (And.intro hs1 (And.intro hB1 ok))
  clear hs1 hb1 hB1 ok
  go_wp2_with fail
  refine HP1.out.mono ?_
  rintro e w2 ⟨rfl, hb2⟩
  have HT := Lib.hid (tell_any (HG.out.1.below hb2) HG.out.2.2 (by omega) (x := ⟨#[98]⟩) (by simp only [maxLen]; decide) true)
  rw [two_tell, two_is] at HT
  have HB2 := Lib.hid (below_then HG.out.2.1 HG.out.2.1.size hb2)
  clear hb2
  go_wp2_with fail
  refine HT.out.mono ?_
  rintro e w3 ⟨rfl, hs3, ho3⟩
  have hMw : w.heap.size ≤ M := Nat.le_trans (by simp) hMg
  have hB3 := HB2.out.trans (ho3.below (B := w.heap.size) HB2.out.size fun i hi => by have h1 : i = M := hi; omega)
  have ok3 := HG.out.2.2.tel ⟨#[98]⟩ true
  have HP3 := Lib.hid (prio_any hs3 ok3 (by omega))
  rw [two_after] at HP3
  have HG3 := Lib.hid (And.intro hs3 (And.intro hB3 ok3))
  clear hs3 ho3 hB3 ok3
  go_wp2_with fail
  refine HP3.out.mono ?_
  rintro e w4 ⟨rfl, hb4⟩
  have HD := Lib.hid (down_any (HG3.out.1.below hb4) HG3.out.2.2)
  have HB4 := Lib.hid (below_then HG3.out.2.1 HG3.out.2.1.size hb4)
  clear hb4
  go_wp2_with fail
  refine HD.out.mono ?_
  rintro e w5 ⟨v, rfl, hrow, hb5⟩
  have HB5 := Lib.hid (below_then HB4.out HB4.out.size hb5)
  unfold Nms at hrow
  rw [two_down] at hrow
  obtain ⟨a, c, rfl, -, -⟩ := row_any hrow
  clear hrow hb5
  go_wp2
  go_ret
  exact ⟨rfl, HB5.out⟩
end Go.Proofs.Ytbeacddclphjgaa
