/-
  The reference: See, Expire; what Do's answer is in memory.
-/
import Derived.Test.YtondjponengedaaRefs1
import Derived.Deep.RegionHeld3
import Derived.Maps.AppendAt
namespace Go.Proofs.Ytondjponengedaa
open Go.RowKit
set_option linter.unusedVariables false
set_option linter.unusedSimpArgs false
set_option maxRecDepth 10000
attribute [local go_sem ↓] bigS42

set_option maxHeartbeats 4000000 in
theorem rsee_none {w : World} {L : List En} {v : Value} (h : Rf w v L) (hn : L.length ≤ 64) (f : Fl) (fl now : Int) (hno : getF L f = none ∨ okN now = false) :
    Calls Try.prog 52 #[v, fv f, .int .i64 fl, .int .i64 now] w fun e w' => e = .returned (.tuple #[v, ev Z, .bool false]) ∧ Rf w' v L ∧ Below w.heap.size w w' := by
  obtain ⟨a, c, rfl, -, -⟩ := row_any h
  have HR := Lib.hid h
  have HG := Lib.hid (fun W (hb : Below w.heap.size w W) => rget_any (h.below hb) (by omega) f)
  have HW := Lib.hid (fun w => wrong_any 0 now w)
  have hno2 : (getF L f).isSome = false ∨ ((getF L f).isSome = true ∧ okN now = false) := by
    rcases hg : getF L f with _ | x
    · left; rfl
    · right; rcases hno with h | h
      · rw [hg] at h; simp at h
      · exact ⟨rfl, h⟩
  generalize (getF L f).isSome = is at HG hno2
  generalize gotE L f = y at HG
  generalize L.length = n at *
  clear h hno
  obtain ⟨p, ff, t, o, d⟩ := f
  obtain ⟨⟨y1, y2, y3, y4, y5⟩, y6, y7, y8⟩ := y
  simp only [fv, ev] at HG ⊢
  have HB0 := Lib.hid (show Below w.heap.size w ((w.alloc (.cells #[.int .i64 p, .string ff, .string t, .int .i64 o, .int .i64 d] 37)).alloc (.cells #[.int .i64 0, .string { data := #[] }, .string { data := #[] }, .int .i64 0, .int .i64 0, .int .i64 0, .int .i64 0, .int .i64 0] 42)) from below_alloc (below_alloc (Below.refl _ _) _) _)
  have HBX := Lib.hid (Bx.new (w.alloc (.cells #[.int .i64 p, .string ff, .string t, .int .i64 o, .int .i64 d] 37)) [.int .i64 0, .string { data := #[] }, .string { data := #[] }, .int .i64 0, .int .i64 0, .int .i64 0, .int .i64 0, .int .i64 0] 42)
  rw [World.size_alloc] at HBX
  go_enter Try.func52, Try.ntmps52
  go_wp2_with fail
  refine (HG.out _ HB0.out).mono ?_
  rintro e w1 ⟨rfl, hb1⟩
  have HB1 := Lib.hid (below_then HB0.out HB0.out.size hb1)
  have hs1 : w.heap.size + 2 ≤ w1.heap.size := by have := hb1.size; simpa using this
  have H9 := Lib.hid ((HBX.out.below hb1).below (below_alloc (Below.refl w1.heap.size w1) (.cells #[.int .i64 0, .string { data := #[] }, .string { data := #[] }, .int .i64 0, .int .i64 0, .int .i64 0, .int .i64 0, .int .i64 0] 42)))
  obtain ⟨w2, hst2, hbx2, ho2⟩ := store42 (show Bx (w1.alloc (.cells #[.int .i64 0, .string { data := #[] }, .string { data := #[] }, .int .i64 0, .int .i64 0, .int .i64 0, .int .i64 0, .int .i64 0] 42)) w1.heap.size 42 [.int .i64 0, .string { data := #[] }, .string { data := #[] }, .int .i64 0, .int .i64 0, .int .i64 0, .int .i64 0, .int .i64 0] from Bx.new w1 [.int .i64 0, .string { data := #[] }, .string { data := #[] }, .int .i64 0, .int .i64 0, .int .i64 0, .int .i64 0, .int .i64 0] 42) rfl y1 y4 y5 y6 y7 y8 y2 y3
  have H92 := Lib.hid (H9.out.only ho2 (by omega))
  have HB2 := Lib.hid (only_below (below_alloc HB1.out (.cells #[.int .i64 0, .string { data := #[] }, .string { data := #[] }, .int .i64 0, .int .i64 0, .int .i64 0, .int .i64 0, .int .i64 0] 42)) ho2 (by omega))
  obtain ⟨w3, hst3, hbx3, ho3⟩ := store42 H92.out rfl 0 0 0 0 0 0 { data := #[] } { data := #[] }
  obtain ⟨c0, c1, c2, c3, c4, c5, c6, c7⟩ := hbx3.eight
  have HB3 := Lib.hid (only_below HB2.out ho3 (Nat.le_succ _))
  clear hbx2 ho2 hbx3 ho3 hb1
  rcases hno2 with rfl | ⟨rfl, hN⟩
  · go_wp2
    exact bodyPost_ret (v := .tuple #[.slice a n c, .agg #[.int .i64 0, .string { data := #[] }, .string { data := #[] }, .int .i64 0, .int .i64 0, .int .i64 0, .int .i64 0, .int .i64 0], .bool false]) (by simp [results, Try.results52, go_sem, c0, c1, c2, c3, c4, c5, c6, c7]) rfl ⟨rfl, HR.out.below HB3.out, HB3.out⟩
  · rw [hN, Bool.and_false, Bool.not_false] at HW
    go_wp2_with (go_at_call 66; refine (HW.out _).mono ?_; rintro e w' ⟨rfl, rfl⟩)
    exact bodyPost_ret (v := .tuple #[.slice a n c, .agg #[.int .i64 0, .string { data := #[] }, .string { data := #[] }, .int .i64 0, .int .i64 0, .int .i64 0, .int .i64 0, .int .i64 0], .bool false]) (by simp [results, Try.results52, go_sem, c0, c1, c2, c3, c4, c5, c6, c7]) rfl ⟨rfl, HR.out.below HB3.out, HB3.out⟩

set_option maxHeartbeats 8000000 in
theorem rsee_some {w : World} {L : List En} {v : Value} (h : Rf w v L) (hn : L.length ≤ 64) (f : Fl) (fl now : Int) {x : En} (hg : getF L f = some x) (hN : okN now = true) :
    Calls Try.prog 52 #[v, fv f, .int .i64 fl, .int .i64 now] w fun e w' => ∃ v', e = .returned (.tuple #[v', ev (seen x fl now), .bool true]) ∧ Rf w' v' (wth L (seen x fl now)) ∧ Lies v' v w ∧ Below w.heap.size w w' := by
  obtain ⟨a, c, rfl, -, -⟩ := row_any h
  have HR := Lib.hid h
  have HV := Lib.hid (fun g hg => (h.lt g hg).2)
  have hgx : gotE L f = x := by unfold gotE; rw [hg]; rfl
  have HG := Lib.hid (fun W (hb : Below w.heap.size w W) => rget_any (h.below hb) (by omega) f)
  rw [hgx, hg] at HG
  have HW := Lib.hid (fun w => wrong_any 0 now w)
  rw [hN, show (!(okS 0 && true)) = false from rfl] at HW
  unfold seen
  have HST := Lib.hid (fun w => rstep_any x.st fl w)
  generalize stp x.st fl = s at *
  have HLF := Lib.hid (fun w => rlife_any s w)
  have hw1 := wrap_now (s := s) hN
  generalize lif s = ll at *
  have HWT := Lib.hid (fun (W : World) (v : Value) (hr : Rf W v L) => rwth_any hr (by omega) ⟨x.fl, x.bk, s, now + ll⟩)
  obtain ⟨n, hln⟩ : ∃ n, L.length = n := ⟨_, rfl⟩
  rw [hln] at HR HV HG ⊢
  clear h hgx hg hN hln
  obtain ⟨p, ff, t, o, d⟩ := f
  obtain ⟨⟨x1, x2, x3, x4, x5⟩, x6, x7, x8⟩ := x
  simp only [fv, ev, Option.isSome_some] at HG HWT HST ⊢
  have HB0 := Lib.hid (show Below w.heap.size w ((w.alloc (.cells #[.int .i64 p, .string ff, .string t, .int .i64 o, .int .i64 d] 37)).alloc (.cells #[.int .i64 0, .string { data := #[] }, .string { data := #[] }, .int .i64 0, .int .i64 0, .int .i64 0, .int .i64 0, .int .i64 0] 42)) from below_alloc (below_alloc (Below.refl _ _) _) _)
  have HBX := Lib.hid (Bx.new (w.alloc (.cells #[.int .i64 p, .string ff, .string t, .int .i64 o, .int .i64 d] 37)) [.int .i64 0, .string { data := #[] }, .string { data := #[] }, .int .i64 0, .int .i64 0, .int .i64 0, .int .i64 0, .int .i64 0] 42)
  rw [World.size_alloc] at HBX
  go_enter Try.func52, Try.ntmps52
  go_wp2_with fail
  refine (HG.out _ HB0.out).mono ?_
  rintro e w1 ⟨rfl, hb1⟩
  have HB1 := Lib.hid (below_then HB0.out HB0.out.size hb1)
  have hs1 : w.heap.size + 2 ≤ w1.heap.size := by have := hb1.size; simpa using this
  have H9 := Lib.hid ((HBX.out.below hb1).below (below_alloc (Below.refl w1.heap.size w1) (.cells #[.int .i64 0, .string { data := #[] }, .string { data := #[] }, .int .i64 0, .int .i64 0, .int .i64 0, .int .i64 0, .int .i64 0] 42)))
  obtain ⟨w2, hst2, hbx2, ho2⟩ := store42 (show Bx (w1.alloc (.cells #[.int .i64 0, .string { data := #[] }, .string { data := #[] }, .int .i64 0, .int .i64 0, .int .i64 0, .int .i64 0, .int .i64 0] 42)) w1.heap.size 42 [.int .i64 0, .string { data := #[] }, .string { data := #[] }, .int .i64 0, .int .i64 0, .int .i64 0, .int .i64 0, .int .i64 0] from Bx.new w1 [.int .i64 0, .string { data := #[] }, .string { data := #[] }, .int .i64 0, .int .i64 0, .int .i64 0, .int .i64 0, .int .i64 0] 42) rfl x1 x4 x5 x6 x7 x8 x2 x3
  have H92 := Lib.hid (H9.out.only ho2 (by omega))
  have HB2 := Lib.hid (only_below (below_alloc HB1.out (.cells #[.int .i64 0, .string { data := #[] }, .string { data := #[] }, .int .i64 0, .int .i64 0, .int .i64 0, .int .i64 0, .int .i64 0] 42)) ho2 (by omega))
  have HE2 := Lib.hid hbx2
  have HR2 := Lib.hid (HR.out.below HB2.out)
  have hs2 : w1.heap.size < w2.heap.size := hbx2.lt
  clear hbx2 ho2 hb1
  obtain ⟨c0, c1, c2, c3, c4, c5, c6, c7⟩ := HE2.out.eight
  have f6 := HE2.out.free 6
  have f7 := HE2.out.free 7
  go_wp2_with (first | (go_at_call 66; refine (HW.out _).mono ?_; rintro e w' ⟨rfl, rfl⟩) | (go_at_call 19; refine (HST.out _).mono ?_; rintro e w' ⟨rfl, rfl⟩) | (go_at_call 21; fail))
  have HE3 := Lib.hid (HE2.out.setAt 6 (.int .i64 s))
  have H93 := Lib.hid (H92.out.only (F := (· = w1.heap.size)) (Only.setCell (F := (· = w1.heap.size)) (Only.refl _ w2) (p := ⟨w1.heap.size, 6, none⟩) (Or.inl rfl) (.int .i64 s)) (by omega))
  have HB3 := Lib.hid (below_set (N := w1.heap.size) HB2.out (by omega) 6 (.int .i64 s))
  have HR3 := Lib.hid (HR.out.below HB3.out)
  refine (HLF.out _).mono ?_
  rintro e w3 ⟨rfl, hb3⟩
  have HE4 := Lib.hid ((HE3.out.below hb3).setAt 7 (.int .i64 (now + ll)))
  simp only [List.set_cons_zero, List.set_cons_succ] at HE4
  have hs3 : w1.heap.size < w3.heap.size := Nat.lt_of_lt_of_le (by simpa using hs2) hb3.size
  obtain ⟨c0, c1, c2, c3, c4, c5, c6, c7⟩ := (HE3.out.below hb3).eight
  have f7 := (HE3.out.below hb3).free 7
  have H94 := Lib.hid ((H93.out.below hb3).only (F := (· = w1.heap.size)) (Only.setCell (F := (· = w1.heap.size)) (Only.refl _ w3) (p := ⟨w1.heap.size, 7, none⟩) (Or.inl rfl) (.int .i64 (now + ll))) (by omega))
  have HB4 := Lib.hid (below_set (N := w1.heap.size) (below_then HB3.out HB3.out.size hb3) (by omega) 7 (.int .i64 (now + ll)))
  clear hb3
  go_wp2
  have hdr := below_drew (Below.refl (w3.setCell ⟨w1.heap.size, 7, none⟩ (.int .i64 (now + ll))).heap.size (w3.setCell ⟨w1.heap.size, 7, none⟩ (.int .i64 (now + ll))))
  have HEd := Lib.hid (HE4.out.below hdr)
  have H9d := Lib.hid (H94.out.below hdr)
  have HBd := Lib.hid (below_then HB4.out HB4.out.size hdr)
  have hsd : w.heap.size + 2 ≤ (w3.setCell ⟨w1.heap.size, 7, none⟩ (.int .i64 (now + ll))).drew.heap.size := by
    have : (w3.setCell ⟨w1.heap.size, 7, none⟩ (.int .i64 (now + ll))).drew.heap.size = w3.heap.size := by simp
    omega
  have HXW := Lib.hid (HWT.out _ _ (HR.out.below HBd.out))
  clear hdr
  refine wp_region_held_drew (S := fun W => Bx W w1.heap.size 42 [.int .i64 x1, .string x2, .string x3, .int .i64 x4, .int .i64 x5, .int .i64 x6, .int .i64 s, .int .i64 (now + ll)]) (by kernel_rfl) HEd.out (fun hHeld => ?_)
  refine wpAnyH_take (i := 0) (oi := ({ dst := some 38, op := Go.Op.move (Go.Operand.tmp 0), type := 27, pos := _, after := #[], guard := none } : Oper)) (v := ?_) rfl (by kernel_rfl) (by kernel_rfl) (by kernel_rfl) (fun _ _ _ h => h) (Or.inl ⟨by rfl, ?_⟩) (by assumption) ?_
  rotate_left
  · intro W' hSw
    try dsimp only at hSw
    go_simp
    try with_reducible rfl
  try simp only [Act.put, List.setIfInBounds_toArray, List.set_cons_zero, List.set_cons_succ]
  refine wpAnyH_take (i := 1) (oi := ({ dst := some 39, op := Go.Op.load 42 (Go.Operand.tmp 11), type := 42, pos := _, after := #[], guard := none } : Oper)) (v := ?_) rfl (by kernel_rfl) (by kernel_rfl) (by kernel_rfl) (fun _ _ _ h => h) (Or.inl ⟨by rfl, ?_⟩) (by assumption) ?_
  rotate_left
  · intro W' hSw
    try dsimp only at hSw
    obtain ⟨b0, b1, b2, b3, b4, b5, b6, b7⟩ := Bx.eight hSw
    go_simp
    try with_reducible rfl
  try simp only [Act.put, List.setIfInBounds_toArray, List.set_cons_zero, List.set_cons_succ]
  refine wpAnyH_take (i := 3) (oi := ({ dst := some 41, op := Go.Op.load 42 (Go.Operand.tmp 11), type := 42, pos := _, after := #[{ on := 4, ground := Go.Ground.gcOnly Go.Departure.lateStores }], guard := none } : Oper)) (v := ?_) rfl (by kernel_rfl) (by kernel_rfl) (by kernel_rfl) (fun _ _ _ h => h) (Or.inl ⟨by rfl, ?_⟩) (by assumption) ?_
  rotate_left
  · intro W' hSw
    try dsimp only at hSw
    obtain ⟨b0, b1, b2, b3, b4, b5, b6, b7⟩ := Bx.eight hSw
    go_simp
    try with_reducible rfl
  try simp only [Act.put, List.setIfInBounds_toArray, List.set_cons_zero, List.set_cons_succ]
  refine wpAnyH_ready (rs := [2]) (by kernel_rfl) (by simp) ?_
  refine AllReadyH.cons (o := ({ dst := some 40, op := Go.Op.call { callee := Go.Callee.value (Go.Operand.func 67), args := #[Go.Operand.tmp 38, Go.Operand.tmp 39], argTypes := #[27, 42] }, type := 27, pos := _, after := #[{ on := 0, ground := Go.Ground.data }, { on := 1, ground := Go.Ground.data }], guard := none } : Oper)) rfl (fun K hK => ?_) AllReadyH.nil
  go_simp
  refine HXW.out.mono ?_
  rintro e w5 ⟨v5, rfl, hr5, hb5⟩
  go_wp2_with fail
  refine hK.out _ _ ?_ (fun hHeld => ?_)
  · exact hHeld.below hb5
  clear hK K
  try simp only [Act.put, List.setIfInBounds_toArray, List.set_cons_zero, List.set_cons_succ]
  obtain ⟨w6, hst6, hbx6, ho6⟩ := store42 (H9d.out.below hb5) rfl x1 x4 x5 x6 s (now + ll) x2 x3
  have HO6 := Lib.hid ho6
  obtain ⟨k0, k1, k2, k3, k4, k5, k6, k7⟩ := hbx6.eight
  have HB5 := Lib.hid (below_then HBd.out HBd.out.size hb5)
  have hs5 : w.heap.size + 2 ≤ w5.heap.size := Nat.le_trans hsd hb5.size
  have HR6 : Hid (Rf w6 v5 _) := Lib.hid (row_only (F := (· = w.heap.size + 1)) (row_base hr5 (Nat.zero_le _)) ho6 fun g hg e => by have := (hr5.lt g hg).1; have := hsd; omega)
  have HL6 := Lib.hid (Lies.new (v := .slice a n c) hr5 (Nat.le_trans (by omega : w.heap.size ≤ w.heap.size + 2) hsd))
  have HB6 := Lib.hid (only_below HB5.out ho6 (Nat.le_succ _))
  clear hbx6 ho6 hr5
  refine wpAnyH_take (i := 4) (oi := ({ dst := some 8, op := Go.Op.assign (Go.Operand.tmp 40), type := 27, pos := _, after := #[{ on := 2, ground := Go.Ground.data }, { on := 2, ground := Go.Ground.chain }, { on := 0, ground := Go.Ground.phase }, { on := 1, ground := Go.Ground.phase }, { on := 2, ground := Go.Ground.phase }, { on := 3, ground := Go.Ground.textOnly Go.Departure.lateStores }], guard := none } : Oper)) (v := ?_) rfl (by kernel_rfl) (by kernel_rfl) (by kernel_rfl) (fun _ _ _ h => h) (Or.inl ⟨by rfl, ?_⟩) (by assumption) ?_
  rotate_left
  · intro W' hSw
    try dsimp only at hSw
    go_simp
    try with_reducible rfl
  try simp only [Act.put, List.setIfInBounds_toArray, List.set_cons_zero, List.set_cons_succ]
  refine wpAnyH_ready (rs := [5]) (by kernel_rfl) (by simp) ?_
  refine AllReadyH.cons (o := ({ dst := none, op := Go.Op.store 42 (Go.Operand.tmp 9) (Go.Operand.tmp 41), type := 0, pos := _, after := #[{ on := 3, ground := Go.Ground.data }, { on := 4, ground := Go.Ground.chain }, { on := 0, ground := Go.Ground.phase }, { on := 1, ground := Go.Ground.phase }, { on := 2, ground := Go.Ground.phase }, { on := 3, ground := Go.Ground.phase }, { on := 4, ground := Go.Ground.phase }], guard := none } : Oper)) rfl (fun K hK => ?_) AllReadyH.nil
  go_simp
  refine hK.out _ _ ?_ (fun hHeld => ?_)
  · exact hHeld.only HO6.out (by omega)
  clear hK K
  try simp only [Act.put, List.setIfInBounds_toArray, List.set_cons_zero, List.set_cons_succ]
  refine wpAnyH_take (i := 6) (oi := ({ dst := some 10, op := Go.Op.assign (Go.Operand.const (Go.Value.bool true)), type := 4, pos := _, after := #[{ on := 5, ground := Go.Ground.chain }, { on := 0, ground := Go.Ground.phase }, { on := 1, ground := Go.Ground.phase }, { on := 2, ground := Go.Ground.phase }, { on := 3, ground := Go.Ground.phase }, { on := 4, ground := Go.Ground.phase }, { on := 5, ground := Go.Ground.phase }], guard := none } : Oper)) (v := ?_) rfl (by kernel_rfl) (by kernel_rfl) (by kernel_rfl) (fun _ _ _ h => h) (Or.inl ⟨by rfl, ?_⟩) (by assumption) ?_
  rotate_left
  · intro W' hSw
    try dsimp only at hSw
    go_simp
    try with_reducible rfl
  try simp only [Act.put, List.setIfInBounds_toArray, List.set_cons_zero, List.set_cons_succ]
  refine wpAnyH_done (by kernel_rfl) ?_ _
  go_wp2
  exact bodyPost_ret (v := .tuple #[v5, .agg #[.int .i64 x1, .string x2, .string x3, .int .i64 x4, .int .i64 x5, .int .i64 x6, .int .i64 s, .int .i64 (now + ll)], .bool true]) (by simp [results, Try.results52, go_sem, k0, k1, k2, k3, k4, k5, k6, k7]) rfl ⟨_, rfl, HR6.out, HL6.out, HB6.out⟩

theorem rsee_any {w : World} {L : List En} {v : Value} (h : Rf w v L) (hn : L.length ≤ 64) (f : Fl) (fl now : Int) :
    Calls Try.prog 52 #[v, fv f, .int .i64 fl, .int .i64 now] w fun e w' => ∃ v', e = .returned (.tuple #[v', ev (see L f fl now).2.1, .bool (see L f fl now).2.2]) ∧ Rf w' v' (see L f fl now).1 ∧ Lies v' v w ∧ Below w.heap.size w w' := by
  unfold see
  rcases hg : getF L f with _ | x
  · exact (rsee_none h hn f fl now (.inl hg)).mono fun e w' ⟨h1, h2, h3⟩ => ⟨v, h1, h2, Lies.refl _ _, h3⟩
  · rcases hN : okN now with _ | _
    · exact (rsee_none h hn f fl now (.inr hN)).mono fun e w' ⟨h1, h2, h3⟩ => ⟨v, h1, h2, Lies.refl _ _, h3⟩
    · simp only [Bool.true_eq_false, if_false]
      exact rsee_some h hn f fl now hg hN

end Go.Proofs.Ytondjponengedaa

namespace Go.Proofs.Ytondjponengedaa
open Go.RowKit Go.Maps
set_option linter.unusedVariables false
set_option linter.unusedSimpArgs false
set_option maxRecDepth 10000

theorem append_at2 {W : World} {b : Nat} {o : Value} {O : List En} {x : En} (ho : W.ownsRow b 42 8 o O.length (ecells O)) (hb : b ≤ W.heap.size) (hl : O.length ≤ 1000) :
    ∃ v' w', (Builtin.append_ #[27, 27] 27 #[o, .slice (some ⟨W.heap.size, 0, none⟩) 1 1]).run Try.prog (W.alloc (.cells (ecs x).toArray 42)) = .ok v' w' ∧ w'.ownsRow b 42 8 v' (O ++ [x]).length (ecells (O ++ [x])) ∧ Only (fun i => o.ownBlock = some i) W w' ∧ (∀ g, v'.ownBlock = some g → o.ownBlock = some g ∨ W.heap.size ≤ g) := by
  have hb2 : Below W.heap.size W (W.alloc (.cells (ecs x).toArray 42)) := below_alloc (Below.refl _ _) _
  have hbx := Bx.new W (ecs x) 42
  obtain ⟨i0, hi, hz0, hz1, hz2⟩ := info_parts info42
  obtain ⟨v', w', hr, h2, h3, _, h5⟩ := run_append_own_at (P := Try.prog) (W.alloc (.cells (ecs x).toArray 42)) b 27 27 42 i0 _ 8 80 Try.underlying27 hi hz0 hz1 hz2 rfl (by decide) o O.length _ (row_below ho hb2) ⟨W.heap.size, 0, none⟩ 1 1 (ecs x) rfl (fun j u hu => by
    rw [add_plain, Nat.zero_add, hbx.cell j]; exact hu) (ecs_one x) (by simp only [maxLen]; omega) (by omega) (Nat.le_trans hb hb2.size)
  refine ⟨v', w', hr, ?_, ?_, fun g hg => ?_⟩
  · rw [ecells_app, ecells_one, List.length_append]; exact h2
  · exact Only.trans (Only.of_below hb2) (Only.of_grown (F := fun i => o.ownBlock = some i) h3 fun i hi => hi) fun i hi => .inl hi
  · rcases h5 with h5 | h5
    · left; rw [← h5]; exact hg
    · right
      rw [h5] at hg
      have := Option.some.inj hg
      simp at this
      omega

theorem fold_len (l : List En) : ∀ o : List En, (l.foldl (fun o x => insE x o) o).length = l.length + o.length := by
  induction l with
  | nil => intro o; simp
  | cons a r ih => intro o; rw [List.foldl_cons, ih, (insE_perm a o).length_eq, List.length_cons, List.length_cons]; omega
theorem xpd_le (now : Int) (L : List En) : (xpd now L).length ≤ L.length := by
  unfold xpd
  rw [fold_len]
  exact List.length_filter_le _ _
theorem liv_le (now : Int) (L : List En) : (liv now L).length ≤ L.length := List.length_filter_le _ _
theorem lx_next {L : List En} {now : Int} {i : Nat} (hi : i < L.length) :
    (now < (L[i]!).ends → liv now (L.take (i + 1)) = liv now (L.take i) ++ [L[i]!] ∧ xpd now (L.take (i + 1)) = xpd now (L.take i)) ∧
    (¬ now < (L[i]!).ends → liv now (L.take (i + 1)) = liv now (L.take i) ∧ xpd now (L.take (i + 1)) = insE L[i]! (xpd now (L.take i))) := by
  rw [take_next L hi]
  generalize L[i]! = x
  unfold liv xpd
  simp only [List.filter_append, List.foldl_append]
  constructor
  · intro h
    rw [List.filter_cons_of_pos (by simpa using h), List.filter_cons_of_neg (by simpa using h)]
    simp
  · intro h
    rw [List.filter_cons_of_neg (by simpa using h), List.filter_cons_of_pos (by simpa using (by omega : x.ends ≤ now))]
    simp

def XpRel (w : World) (v : Value) (L : List En) (now : Int) (n gg : Nat) (s6 s7 s8 : Value) (wr : World) : Prop :=
  ∃ i : Nat, i + gg = n ∧ s8 = .int .i64 i ∧ wr.ownsRow w.heap.size 42 8 s6 (liv now (L.take i)).length (ecells (liv now (L.take i))) ∧ wr.ownsRow w.heap.size 42 8 s7 (xpd now (L.take i)).length (ecells (xpd now (L.take i))) ∧
    (∀ g, s6.ownBlock = some g → s7.ownBlock ≠ some g) ∧ Rf wr v L ∧ Below w.heap.size w wr
def InRel (w2 : World) (O : List En) (x : En) (m gg : Nat) (s9 s10 s11 : Value) (wr : World) : Prop :=
  ∃ k : Nat, k + gg = m ∧ s11 = .int .i64 k ∧ s10 = .bool (dnG (fun y => decide (x.ends < y.ends)) O k) ∧ wr.ownsRow w2.heap.size 42 8 s9 (outG (fun y => decide (x.ends < y.ends)) x O k).length (ecells (outG (fun y => decide (x.ends < y.ends)) x O k)) ∧ Below w2.heap.size w2 wr

theorem mk_below {W : World} {b : Nat} {o : Value} {O : List En} {x : En} (ho : W.ownsRow b 42 8 o O.length (ecells O)) (hb : b ≤ W.heap.size) (hl : O.length ≤ 1000) :
    ∃ v' w', (Builtin.append_ #[27, 27] 27 #[o, .slice (some ⟨W.heap.size, 0, none⟩) 1 1]).run Try.prog (W.alloc (.cells (ecs x).toArray 42)) = .ok v' w' ∧ w'.ownsRow b 42 8 v' (O ++ [x]).length (ecells (O ++ [x])) ∧ Below b W w' := by
  obtain ⟨v', w', h1, h2, h3, _⟩ := append_at2 (x := x) ho hb hl
  exact ⟨v', w', h1, h2, h3.below hb fun i hi => (ho.lt i hi).1⟩

set_option maxHeartbeats 16000000 in
theorem rexpire_any {w : World} {L : List En} {v : Value} (h : Rf w v L) (hn : L.length ≤ 64) (now : Int) :
    Calls Try.prog 55 #[v, .int .i64 now] w fun e w' => ∃ v' u, e = .returned (.tuple #[v', u]) ∧ w'.ownsRow w.heap.size 42 8 v' (liv now L).length (ecells (liv now L)) ∧ w'.ownsRow w.heap.size 42 8 u (xpd now L).length (ecells (xpd now L)) ∧ Below w.heap.size w w' := by
  obtain ⟨a, c, rfl, -, -⟩ := row_any h
  have HV := Lib.hid (fun g hg => (h.lt g hg).2)
  have HR := Lib.hid h
  clear h
  obtain ⟨n, hl⟩ : ∃ n, L.length = n := ⟨_, rfl⟩
  have HL := Lib.hid hl
  rw [hl] at HR HV hn ⊢
  clear hl
  go_enter Try.func55, Try.ntmps55
  go_wp2
  go_loopg [6, 7, 8, 9, 10, 11] n (fun gg s6 s7 s8 s9 s10 s11 wr => Hid (XpRel w (.slice a n c) L now n gg s6 s7 s8 wr))
  case atStart => exact Lib.hid ⟨0, by omega, rfl, World.ownsRow_nil _ _ 42 8, World.ownsRow_nil _ _ 42 8, fun g hg => by simp [Value.ownBlock] at hg, HR.out, Below.refl _ _⟩
  case round =>
    obtain ⟨i, hi, rfl, hlv, hxp, hsep, hrow, hb⟩ := hrel.out
    clear hrel
    by_cases hlt : i < n
    · have hltz : (i : Int) < (n : Int) := by omega
      have hrow' := hrow
      unfold Rf at hrow'
      rw [HL.out] at hrow'
      obtain ⟨g, c', e, _⟩ := row_slice hrow' (by omega)
      simp only [Value.slice.injEq, true_and] at e
      obtain ⟨rfl, rfl⟩ := e
      obtain ⟨d0, d1, d2, d3, d4, d5, d6, d7⟩ := erow_at hrow' hlt
      obtain ⟨q1, q2⟩ := lx_next (L := L) (now := now) (i := i) (by rw [HL.out]; exact hlt)
      have hle1 : (liv now (L.take i)).length ≤ 64 := by have := liv_le now (L.take i); rw [List.length_take] at this; omega
      have hle2 : (xpd now (L.take i)).length ≤ 64 := by have := xpd_le now (L.take i); rw [List.length_take] at this; omega
      have HMM : ∀ y, L[i]! = y → Hid (L[i]! = y) := fun y h => Lib.hid h
      generalize hM : L[i]! = x at d0 d1 d2 d3 d4 d5 d6 d7 q1 q2
      have HM := HMM x hM
      generalize liv now (L.take i) = LV at hlv hle1 q1 q2
      generalize xpd now (L.take i) = O at hxp hle2 q1 q2
      have HLV := Lib.hid hlv
      have HXP := Lib.hid hxp
      have HSEP := Lib.hid hsep
      have HROW := Lib.hid hrow
      have HB := Lib.hid hb
      clear hM HMM hlv hsep hrow hrow' hb
      obtain ⟨⟨x1, x2, x3, x4, x5⟩, x6, x7, x8⟩ := x
      simp only at d0 d1 d2 d3 d4 d5 d6 d7 q1 q2
      by_cases hnow : now < x8
      · have Q := Lib.hid (q1 hnow)
        have hz : decide (now < x8) = true := decide_eq_true hnow
        obtain ⟨v3, w3, happ, hown, honly, hnew⟩ := append_at2 (W := wr) (x := ⟨⟨x1, x2, x3, x4, x5⟩, x6, x7, x8⟩) HLV.out HB.out.size (by omega)
        simp only [ecs] at happ
        have HRUN := Lib.hid happ
        have HOWN := Lib.hid hown
        have HON := Lib.hid honly
        have HNEW := Lib.hid hnew
        clear happ hown honly hnew hxp q1 q2 hnow
        go_wp2_with (at_builtin; refine Lib.wpList_append_run _ rfl _ _ _ _ rfl _ _ rfl rfl _ _ HRUN.out ?_)
        go_roundg (n - (i + 1))
        case measure => omega
        case rel =>
          refine Lib.hid ⟨i + 1, by omega, by go_num, by rw [Q.out.1]; exact HOWN.out, by rw [Q.out.2]; exact row_only HXP.out HON.out fun g hg hg2 => HSEP.out g hg2 hg, fun g hg hg2 => ?_, row_only HROW.out HON.out fun g hg hg2 => ?_, HB.out.trans (HON.out.below HB.out.size fun g hg => (HLV.out.lt g hg).1)⟩
          · rcases HNEW.out g hg with h1 | h1
            · exact HSEP.out g h1 hg2
            · have := (HXP.out.lt g hg2).2; omega
          · have h1 := HV.out g hg
            have h2 := (HLV.out.lt g hg2).1
            omega
      · have Q := Lib.hid (q2 hnow)
        have hz : decide (now < x8) = false := decide_eq_false hnow
        obtain ⟨a7, c7, rfl, -, -⟩ := row_any hxp
        obtain ⟨m, hm⟩ : ∃ m, O.length = m := ⟨_, rfl⟩
        have HOL := Lib.hid hm
        rw [hm] at HXP HSEP hle2 ⊢
        clear hm hxp q1 q2 hnow
        rename World => w2
        go_wp2
        go_loopg [9, 10, 11] m (fun gg s9 s10 s11 wr => Hid (InRel w2 O ⟨⟨x1, x2, x3, x4, x5⟩, x6, x7, x8⟩ m gg s9 s10 s11 wr))
        case atStart => exact Lib.hid ⟨0, by omega, rfl, rfl, World.ownsRow_nil _ _ 42 8, Below.refl _ _⟩
        case round =>
          obtain ⟨k, hk, rfl, rfl, hnx, hb2⟩ := hrel.out
          clear hrel
          have HOUT := Lib.hid hnx
          have HB2 := Lib.hid hb2
          have hrL := HROW.out.below hb2
          unfold Rf at hrL
          rw [HL.out] at hrL
          clear d0 d1 d2 d3 d4 d5 d6 d7
          obtain ⟨d0, d1, d2, d3, d4, d5, d6, d7⟩ := erow_at hrL hlt
          have hgL := (hrL.lt g rfl).2
          rw [HM.out] at d0 d1 d2 d3 d4 d5 d6 d7
          simp only at d0 d1 d2 d3 d4 d5 d6 d7
          have hole := outG_len (p := fun y => decide (x8 < y.ends)) (t := ⟨⟨x1, x2, x3, x4, x5⟩, x6, x7, x8⟩) (l := O) (k := k)
          rw [HOL.out] at hole
          have hrO := row_below HXP.out hb2
          clear hrL
          by_cases hkm : k < m
          · have hkz : (k : Int) < (m : Int) := by omega
            obtain ⟨g7, c7', e, _⟩ := row_slice hrO (by omega)
            simp only [Value.slice.injEq, true_and] at e
            obtain ⟨rfl, rfl⟩ := e
            obtain ⟨t0, t1, t2, t3, t4, t5, t6, t7⟩ := erow_at hrO hkm
            have hgO := (hrO.lt g7 rfl).2
            have q1 := outG_done (p := fun y => decide (x8 < y.ends)) (t := ⟨⟨x1, x2, x3, x4, x5⟩, x6, x7, x8⟩) (l := O) (k := k) (by rw [HOL.out]; exact hkm)
            have q2 := outG_now (p := fun y => decide (x8 < y.ends)) (t := ⟨⟨x1, x2, x3, x4, x5⟩, x6, x7, x8⟩) (l := O) (k := k) (by rw [HOL.out]; exact hkm)
            have q3 := outG_not (p := fun y => decide (x8 < y.ends)) (t := ⟨⟨x1, x2, x3, x4, x5⟩, x6, x7, x8⟩) (l := O) (k := k) (by rw [HOL.out]; exact hkm)
            have HYY : ∀ y, O[k]! = y → Hid (O[k]! = y) := fun y h => Lib.hid h
            generalize hY : O[k]! = y at t0 t1 t2 t3 t4 t5 t6 t7 q1 q2 q3
            have HY := HYY y hY
            simp only at hnx
            generalize outG (fun y => decide (x8 < y.ends)) ⟨⟨x1, x2, x3, x4, x5⟩, x6, x7, x8⟩ O k = N at HOUT hole q1 q2 q3
            clear hnx hb2 hrO hY HYY
            obtain ⟨⟨y1, y2, y3, y4, y5⟩, y6, y7, y8⟩ := y
            simp only at t0 t1 t2 t3 t4 t5 t6 t7 q2 q3
            rcases hdn : dnG (fun y => decide (x8 < y.ends)) O k with _ | _
            · rcases hah : decide (x8 < y8) with _ | _
              · have Q := Lib.hid (q3 hdn hah)
                clear q1 q2 q3 hdn
                go_wp2
                go_quiet (fail)
                obtain ⟨v3, w3, happ, hown, hbw⟩ := mk_below (W := wr.drewN nq) (x := ⟨⟨y1, y2, y3, y4, y5⟩, y6, y7, y8⟩) (row_below HOUT.out (below_drewN (Below.refl _ _) nq)) HB2.out.size (by omega)
                simp only [ecs] at happ
                have HRUN := Lib.hid happ
                have HOWN := Lib.hid hown
                have HBW := Lib.hid hbw
                clear happ hown hbw
                go_wp2_with (at_builtin; refine Lib.wpList_append_run _ rfl _ _ _ _ rfl _ _ rfl rfl _ _ HRUN.out ?_)
                go_roundg (m - (k + 1))
                case measure => omega
                case rel => exact Lib.hid ⟨k + 1, by omega, by go_num, by rw [Q.out.2], by rw [Q.out.1]; exact HOWN.out, (below_drewN HB2.out nq).trans HBW.out⟩
              · have Q := Lib.hid (q2 hdn hah)
                clear q1 q2 q3 hdn
                go_wp2
                go_quiet (fail)
                obtain ⟨v3, w3, happ, hown, hbw⟩ := mk_below (W := wr.drewN nq) (x := ⟨⟨x1, x2, x3, x4, x5⟩, x6, x7, x8⟩) (row_below HOUT.out (below_drewN (Below.refl _ _) nq)) HB2.out.size (by omega)
                simp only [ecs] at happ
                have HRUN := Lib.hid happ
                have HOWN3 := Lib.hid hown
                have HB3 := Lib.hid ((below_drewN HB2.out nq).trans hbw)
                clear happ hown hbw
                have hrO := row_below HXP.out HB3.out
                clear t0 t1 t2 t3 t4 t5 t6 t7
                obtain ⟨t0, t1, t2, t3, t4, t5, t6, t7⟩ := erow_at hrO hkm
                have hgO3 := (hrO.lt g7 rfl).2
                rw [HY.out] at t0 t1 t2 t3 t4 t5 t6 t7
                simp only at t0 t1 t2 t3 t4 t5 t6 t7
                have hN3 : (N ++ [(⟨⟨x1, x2, x3, x4, x5⟩, x6, x7, x8⟩ : En)]).length ≤ 100 := by rw [List.length_append, List.length_singleton]; omega
                clear hrO
                obtain ⟨v4, w4, happ, hown, hbw⟩ := mk_below (W := w3) (x := ⟨⟨y1, y2, y3, y4, y5⟩, y6, y7, y8⟩) HOWN3.out HB3.out.size (by omega)
                simp only [ecs] at happ
                have HRUN4 := Lib.hid happ
                have HOWN := Lib.hid hown
                have HBW := Lib.hid hbw
                clear happ hown hbw
                go_wp2_with (first | (at_builtin; refine Lib.wpList_append_run _ rfl _ _ _ _ rfl _ _ rfl rfl _ _ HRUN.out ?_) | (at_builtin; refine Lib.wpList_append_run _ rfl _ _ _ _ rfl _ _ rfl rfl _ _ HRUN4.out ?_))
                go_roundg (m - (k + 1))
                case measure => omega
                case rel => exact Lib.hid ⟨k + 1, by omega, by go_num, by rw [Q.out.2], by rw [Q.out.1]; exact HOWN.out, HB3.out.trans HBW.out⟩
            · have Q := Lib.hid (q1 hdn)
              clear q1 q2 q3 hdn
              go_wp2
              go_quiet (fail)
              obtain ⟨v3, w3, happ, hown, hbw⟩ := mk_below (W := wr.drewN nq) (x := ⟨⟨y1, y2, y3, y4, y5⟩, y6, y7, y8⟩) (row_below HOUT.out (below_drewN (Below.refl _ _) nq)) HB2.out.size (by omega)
              simp only [ecs] at happ
              have HRUN := Lib.hid happ
              have HOWN := Lib.hid hown
              have HBW := Lib.hid hbw
              clear happ hown hbw
              go_wp2_with (at_builtin; refine Lib.wpList_append_run _ rfl _ _ _ _ rfl _ _ rfl rfl _ _ HRUN.out ?_)
              go_roundg (m - (k + 1))
              case measure => omega
              case rel => exact Lib.hid ⟨k + 1, by omega, by go_num, by rw [Q.out.2], by rw [Q.out.1]; exact HOWN.out, (below_drewN HB2.out nq).trans HBW.out⟩
          · obtain rfl : k = m := by omega
            obtain ⟨qe1, qe2⟩ := outG_end (p := fun y => decide (x8 < y.ends)) (t := ⟨⟨x1, x2, x3, x4, x5⟩, x6, x7, x8⟩) (l := O)
            rw [HOL.out] at qe1 qe2
            rw [insE_G] at Q
            simp only at hnx
            generalize insG (fun y => decide (x8 < y.ends)) ⟨⟨x1, x2, x3, x4, x5⟩, x6, x7, x8⟩ O = R at Q qe1 qe2
            generalize outG (fun y => decide (x8 < y.ends)) ⟨⟨x1, x2, x3, x4, x5⟩, x6, x7, x8⟩ O k = N at HOUT hole qe1 qe2
            clear hnx hb2 hrO
            rcases hdn : dnG (fun y => decide (x8 < y.ends)) O k with _ | _
            · have QE := Lib.hid (qe2 hdn)
              clear qe1 qe2 hdn
              obtain ⟨v3, w3, happ, hown, hbw⟩ := mk_below (W := wr) (x := ⟨⟨x1, x2, x3, x4, x5⟩, x6, x7, x8⟩) HOUT.out HB2.out.size (by omega)
              simp only [ecs] at happ
              have HRUN := Lib.hid happ
              have HOWN := Lib.hid hown
              have HBW := Lib.hid hbw
              clear happ hown hbw
              go_wp2_with (at_builtin; refine Lib.wpList_append_run _ rfl _ _ _ _ rfl _ _ rfl rfl _ _ HRUN.out ?_)
              go_roundg (n - (i + 1))
              case measure => omega
              case rel => exact Lib.hid ⟨i + 1, by omega, by go_num, by rw [Q.out.1]; exact row_below HLV.out (HB2.out.trans HBW.out), by rw [Q.out.2, ← QE.out]; exact row_base HOWN.out HB.out.size, fun g hg hg2 => by have h1 := (HLV.out.lt g hg).2; have h2 := (HOWN.out.lt g hg2).1; omega, HROW.out.below (HB2.out.trans HBW.out), HB.out.trans ((HB2.out.trans HBW.out).mono HB.out.size)⟩
            · have QE := Lib.hid (qe1 hdn)
              clear qe1 qe2 hdn
              go_wp2
              go_roundg (n - (i + 1))
              case measure => omega
              case rel => exact Lib.hid ⟨i + 1, by omega, by go_num, by rw [Q.out.1]; exact row_below HLV.out HB2.out, by rw [Q.out.2, ← QE.out]; exact row_base HOUT.out HB.out.size, fun g hg hg2 => by have h1 := (HLV.out.lt g hg).2; have h2 := (HOUT.out.lt g hg2).1; omega, HROW.out.below HB2.out, HB.out.trans (HB2.out.mono HB.out.size)⟩
    · obtain rfl : i = n := by omega
      rw [List.take_of_length_le (by rw [HL.out]; exact Nat.le_refl _)] at hlv hxp
      go_wp2
      go_ret2
      exact ⟨_, _, rfl, hlv, hxp, hb⟩

end Go.Proofs.Ytondjponengedaa

namespace Go.Proofs.Ytondjponengedaa
open Go.RowKit
set_option linter.unusedVariables false
set_option linter.unusedSimpArgs false
set_option maxRecDepth 10000

/-- What Do leaves. -/
def RdTo (w : World) (v : Value) (L' : List En) (a : Ans) (e : Ending) (w' : World) : Prop :=
  ∃ v' u, e = .returned (.tuple #[v', ansv a.err a.seen u]) ∧ Rf w' v' L' ∧ Lies v' v w ∧ w'.ownsRow w.heap.size 42 8 u a.l.length (ecells a.l) ∧ Below w.heap.size w w'

theorem w0_size (w : World) (o : Opr) : (W0 w o).heap.size = w.heap.size + 3 := by simp [W0]
theorem D0.drew {w W : World} {o : Opr} {r a : List Value} (h : D0 w W o r a) : D0 w W.drew o r a := h.below (below_drew (Below.refl _ _))
theorem Rf.drew {W : World} {v : Value} {L : List En} (h : Rf W v L) : Rf W.drew v L := h.below (below_drew (Below.refl _ _))
/-- Where the answered row's block may be. -/
def Apart (w : World) (v : Value) : Prop := ∀ g, v.ownBlock = some g → g ≠ w.heap.size + 1 ∧ g ≠ w.heap.size + 1 + 1
theorem Apart.of {w : World} {o : Opr} {v v1 : Value} (hv : ∀ g, v.ownBlock = some g → g < w.heap.size) (hl : Lies v1 v (W0 w o)) : Apart w v1 := fun g hg => by
  rcases hl g hg with h | h
  · have := hv g h; omega
  · rw [w0_size] at h; omega
theorem Lies.w0 {w : World} {o : Opr} {v v1 : Value} (hl : Lies v1 v (W0 w o)) : Lies v1 v w := fun g hg => by
  rcases hl g hg with h | h
  · exact .inl h
  · rw [w0_size] at h; right; omega
theorem rf_apart {w W W' : World} {v : Value} {L : List En} {j : Nat} (h : Rf W v L) (ha : Apart w v) (ho : Only (· = w.heap.size + 1 + 1) W W') : Rf W' v L := row_only h ho fun g hg e => (ha g hg).2 e
theorem rf_apart1 {w W W' : World} {v : Value} {L : List En} (h : Rf W v L) (ha : Apart w v) (ho : Only (· = w.heap.size + 1) W W') : Rf W' v L := row_only h ho fun g hg e => (ha g hg).1 e
theorem Apart.new {w W : World} {v : Value} {e size n : Nat} {xs : List Value} {b : Nat} (h : W.ownsRow b e size v n xs) (hb : w.heap.size + 3 ≤ b) : Apart w v := fun g hg => by have := (h.lt g hg).1; omega

end Go.Proofs.Ytondjponengedaa
