/-
  tracks' Tell.
-/
import Derived.Test.YtbeacddclphjgaaPrio
namespace Go.Proofs.Ytbeacddclphjgaa
open Go.RowKit Go.Maps
set_option linter.unusedVariables false
set_option linter.unusedSimpArgs false
set_option maxRecDepth 10000

set_option maxHeartbeats 1000000 in
theorem tell_none {w : World} {B M : Nat} {b : Int} {T : List Tk} (h : SetAt w B M b T) {x : ByteArray} (hx : x.size ≤ maxLen) (hl : look T x = none) (u : Bool) :
    Calls Try.prog 14 #[.pointer (some ⟨B, 0, none⟩), .string x, .bool u] w fun e w' => e = .returned (.tuple #[.bool false, .bool false]) ∧ Below w.heap.size w w' := by
  have hlk := h.map.look hx
  have d1 := h.c1
  rw [hl] at hlk
  simp only [lv, ev, Option.isSome_none] at hlk
  clear h hx hl
  go_enter Try.func14, Try.ntmps14
  go_wp2
  go_ret2
  exact ⟨rfl, (Below.refl _ _).alloc (Nat.le_refl _) _⟩

set_option maxHeartbeats 2000000 in
theorem tell_some {w : World} {B M : Nat} {b : Int} {T : List Tk} (h : SetAt w B M b T) (ok : Okay T) (hb : 1 ≤ b ∧ b ≤ 255) {x : ByteArray} (hx : x.size ≤ maxLen) {t : Tk} (hl : look T x = some t) (u : Bool) :
    Calls Try.prog 14 #[.pointer (some ⟨B, 0, none⟩), .string x, .bool u] w fun e w' => e = .returned (.tuple #[.bool (prio b (tel T x u) != prio b T), .bool true]) ∧ SetAt w' B M b (tel T x u) ∧ Only (fun i => i = M) w w' := by
  have hlk := h.map.look hx
  have d1 := h.c1
  have hBl := h.lt
  have hMl := h.map.lt
  rw [hl] at hlk
  simp only [lv, ev, Option.isSome_some] at hlk
  have H := Lib.hid h
  have OK := Lib.hid ok
  have HL := Lib.hid (And.intro hx hl)
  have HO2 := Lib.hid (ok.tel x u)
  have hPb := below_alloc (Below.refl w.heap.size w) (.cells #[.int .i64 t.wt, .bool t.up] 60)
  have HP1 := Lib.hid (prio_any (h.below hPb) ok hb)
  have HPB := Lib.hid hPb
  generalize hP : prio b T = p at HP1 ⊢
  generalize hQ : prio b (tel T x u) = q
  have HQ := Lib.hid hQ
  clear h ok hx hl hPb hP hQ
  generalize hwt : t.wt = a at hlk HP1 HPB
  generalize t.up = v at hlk HP1 HPB
  have HWT := Lib.hid hwt
  clear hwt
  go_enter Try.func14, Try.ntmps14
  go_wp2_with fail
  refine HP1.out.mono ?_
  rintro e w1 ⟨rfl, hb1⟩
  have hlt1 : w.heap.size < w1.heap.size := by have := hb1.size; simp at this; omega
  have c0 := hb1.cell (p := ⟨w.heap.size, 0, none⟩) (by simp)
  have c1 := hb1.cell (p := ⟨w.heap.size, 1, none⟩) (by simp)
  have f1 := hb1.frozen (p := ⟨w.heap.size, 1, none⟩) (by simp)
  simp [go_sem] at c0 c1 f1
  have hb01 : Below w.heap.size w w1 := HPB.out.trans (hb1.mono (by simp))
  have ho6 : Only (fun i => i = M) w (w1.setCell ⟨w.heap.size, 1, none⟩ (.bool u)).drew := ((Only.of_below (F := fun i => i = M) hb01).setCell (p := ⟨w.heap.size, 1, none⟩) (.inr (Nat.le_refl _)) (.bool u)).drew
  have hs6 : SetAt (w1.setCell ⟨w.heap.size, 1, none⟩ (.bool u)).drew B M b T := H.out.only ((((Only.of_below (F := fun i => False) hb01).setCell (p := ⟨w.heap.size, 1, none⟩) (.inr (Nat.le_refl _)) (.bool u))).drew) (fun h => h) (fun h => h)
  obtain ⟨w4, hst, hT4, hg4⟩ := hs6.map.tell HL.out.1 HL.out.2 u OK.out.len
  obtain ⟨hs4, ho4⟩ := hs6.remap hg4 hT4
  rw [HWT.out] at hst
  have HP2 := Lib.hid (prio_any hs4 HO2.out hb)
  rw [HQ.out] at HP2
  have hd1 := hs6.c1
  have HE := Lib.hid (And.intro hs4 (ho6.trans ho4 fun i hi => .inl hi))
  unfold ev at hst
  clear hb1 hb01 ho6 hs6 hT4 hg4 hs4 ho4
  go_wp2
  refine wp_region_tail 6 (by kernel_rfl) (by kernel_rfl) ?_
  simp only [List.take_succ_cons, List.take_zero, List.drop_succ_cons, List.drop_zero]
  repeat still_step
  refine wpStill_nil ?_
  go_wp2_with fail
  refine HP2.out.mono ?_
  rintro e w5 ⟨rfl, hb5⟩
  have HB5 := Lib.hid hb5
  clear hb5
  go_wp2
  go_ret2
  exact ⟨rfl, HE.out.1.below HB5.out, HE.out.2.trans (Only.of_below (F := fun _ => False) HB5.out) fun i hi => hi.elim⟩

/-- Whether the priority turns. -/
def telC (b : Int) (T : List Tk) (x : ByteArray) (u : Bool) : Bool := prio b (tel T x u) != prio b T
theorem tell_any {w : World} {B M : Nat} {b : Int} {T : List Tk} (h : SetAt w B M b T) (ok : Okay T) (hb : 1 ≤ b ∧ b ≤ 255) {x : ByteArray} (hx : x.size ≤ maxLen) (u : Bool) :
    Calls Try.prog 14 #[.pointer (some ⟨B, 0, none⟩), .string x, .bool u] w fun e w' => e = .returned (.tuple #[.bool (telC b T x u), .bool (isT T x)]) ∧ SetAt w' B M b (tel T x u) ∧ Only (fun i => i = M) w w' := by
  cases hl : look T x with
  | none =>
    refine (tell_none h hx hl u).mono ?_
    rintro e w' ⟨rfl, hb⟩
    rw [show telC b T x u = false by unfold telC; rw [tel_none u hl]; simp, show isT T x = false by unfold isT; rw [hl]; rfl, tel_none u hl]
    exact ⟨rfl, h.below hb, Only.of_below hb⟩
  | some t =>
    refine (tell_some h ok hb hx hl u).mono ?_
    rintro e w' ⟨rfl, h1⟩
    rw [show isT T x = true by unfold isT; rw [hl]; rfl]
    exact ⟨rfl, h1⟩
end Go.Proofs.Ytbeacddclphjgaa
