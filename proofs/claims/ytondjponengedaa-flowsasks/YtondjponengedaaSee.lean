/-
  Table.See.
-/
import Derived.Test.YtondjponengedaaPut
namespace Go.Proofs.Ytondjponengedaa
open Go.RowKit
set_option linter.unusedVariables false
set_option linter.unusedSimpArgs false
set_option maxRecDepth 10000
attribute [local go_sem ↓] bigS39

theorem plcells_field (pl : List Pc) {a j : Nat} (ha : a < pl.length) (hj : j < 9) (v : Value) (p : Pc) (hp : (pcs pl[a]!).set j v = pcs p) : (plcells pl).set (a * 9 + j) v = plcells (pl.set a p) := by
  apply List.ext_getElem?
  intro t
  rcases Nat.lt_or_ge t (pl.length * 9) with ht | ht
  · have h1 := plcells_at (pl.set a p) (t / 9) (t % 9) (by rw [List.length_set]; omega) (by omega)
    have h2 := plcells_at pl (t / 9) (t % 9) (by omega) (by omega)
    rw [show t / 9 * 9 + t % 9 = t by omega] at h1 h2
    rw [h1, List.getElem?_set, at_set ha]
    by_cases e : t / 9 = a
    · subst e
      rw [if_pos rfl, ← hp, List.getElem?_set]
      by_cases e2 : t / 9 * 9 + j = t
      · rw [if_pos e2, if_pos (by rw [plcells_len]; omega), if_pos (by omega), if_pos (by rw [pcs_len]; omega)]
      · rw [if_neg e2, h2, if_neg (by omega)]
    · rw [if_neg e, if_neg (by omega), h2]
  · rw [List.getElem?_eq_none (by rw [List.length_set, plcells_len]; exact ht), List.getElem?_eq_none (by rw [plcells_len, List.length_set]; exact ht)]

theorem Tm.field {w : World} {B : Nat} {k : List Int} {pl : List Pc} {cs : List Int} (h : Tm w B k pl cs) {a j : Nat} (ha : a < 128) (hj : j < 9) (v : Value) (p : Pc) (hp : (pcs pl[a]!).set j v = pcs p) : Tm (w.setCell ⟨B, 16 + a * 9 + j, none⟩ v) B k (pl.set a p) cs := by
  obtain ⟨cur, h1, h2, h3, h4, h5⟩ := h
  refine ⟨cur.setIfInBounds (16 + a * 9 + j) v, heap_setCell_same w B _ cur 73 _ h1, ?_, h3, by simp [h4], h5⟩
  rw [Array.toList_setIfInBounds, h2, List.append_assoc, List.set_append_right _ _ (by rw [cel_len]; omega), cel_len, h3, List.set_append_left _ _ (by rw [plcells_len]; omega), show 16 + a * 9 + j - 16 = a * 9 + j by omega, plcells_field pl (by omega) hj v p hp, List.append_assoc]

/-- A flow's entry is seen. -/
theorem TaS.seenT {w w' : World} {B a : Nat} {k : List Int} {pl : List Pc} {L : List En} {x y : En} (h : TaS w B k pl L) (hm : MayLay k pl L x.fl a) (hg : getF L x.fl = some x) (hy : y.fl = x.fl)
    (hT : Tm w' B k (pl.set a ⟨2, y⟩) (cts pl)) : TaS w' B k (pl.set a ⟨2, y⟩) (wth L y) := by
  have ha := hm.lt
  have hal : a < pl.length := by rw [h.tp.len]; exact ha
  obtain ⟨h2, h3⟩ := hm.some x hg
  have q := fun j => cnt_set hal ⟨2, y⟩ j
  simp only [h2] at q
  have e : cts (pl.set a ⟨2, y⟩) = cts pl := by
    have q0 := q 0
    have q1 := q 1
    have q2 := q 2
    unfold cts
    rw [show cnt (pl.set a ⟨2, y⟩) 0 = cnt pl 0 by omega, show cnt (pl.set a ⟨2, y⟩) 1 = cnt pl 1 by omega, show cnt (pl.set a ⟨2, y⟩) 2 = cnt pl 2 by omega]
  have hf : Fine (wth L y) := h.tp.fine.wth y fun hn => by rw [hy, hg] at hn; simp at hn
  refine ⟨?_, h.tp.lay (hx_lt k) ha (by rw [hy]; exact hm.chain) (by rw [hy]; exact hm.some) (by rw [hy]; exact hm.none) hf, ?_, h.key, fun z hz => ?_⟩
  · unfold Tb; rw [e]; exact hT
  · have := q 0; have := h.room; omega
  · rcases mem_wth.1 hz with rfl | hz
    · rw [hy]; exact h.ok x (getF_mem hg).1
    · exact h.ok z hz.1

set_option maxHeartbeats 4000000 in
theorem see_none {w : World} {B : Nat} {k : List Int} {L : List En} (h : Ta w B k L) (f : Fl) (fl now : Int) (hf : OkF f) (hn : getF L f = none ∨ okN now = false) :
    Calls Try.prog 30 #[.pointer (some ⟨B, 0, none⟩), fv f, .int .i64 fl, .int .i64 now] w fun e w' => e = .returned (.tuple #[ev Z, .bool false]) ∧ Below w.heap.size w w' := by
  obtain ⟨pl, h⟩ := h
  have HF := Lib.hid (fun W (hb : Below w.heap.size w W) => (h.below hb).findM f hf)
  have HS2 := Lib.hid (fun w => maySee_any now w)
  obtain ⟨is, his⟩ : ∃ is, (getF L f).isSome = is := ⟨_, rfl⟩
  obtain ⟨on, hon⟩ : ∃ on, okN now = on := ⟨_, rfl⟩
  have hno : is = false ∨ on = false := by
    rcases hn with hn | hn
    · left; rw [← his, hn]; rfl
    · right; rw [← hon, hn]
  rw [his] at HF
  rw [hon] at HS2
  clear h his hon hn
  obtain ⟨p, ff, t, o, d⟩ := f
  simp only [fv] at HF ⊢
  have HB0 := Lib.hid (show Below w.heap.size w ((w.alloc (.cells #[.int .i64 p, .string ff, .string t, .int .i64 o, .int .i64 d] 37)).alloc (.cells #[.int .i64 0, .string ByteArray.empty, .string ByteArray.empty, .int .i64 0, .int .i64 0, .int .i64 0, .int .i64 0, .int .i64 0] 39)) from below_alloc (below_alloc (Below.refl _ _) _) _)
  have HBX := Lib.hid (Bx.new (w.alloc (.cells #[.int .i64 p, .string ff, .string t, .int .i64 o, .int .i64 d] 37)) [.int .i64 0, .string ByteArray.empty, .string ByteArray.empty, .int .i64 0, .int .i64 0, .int .i64 0, .int .i64 0, .int .i64 0] 39)
  rw [World.size_alloc] at HBX
  go_enter Try.func30, Try.ntmps30
  go_wp2_with fail
  refine (HF.out _ HB0.out).mono ?_
  rintro e w1 ⟨a, rfl, hm, hb1⟩
  have HB1 := Lib.hid (below_then HB0.out HB0.out.size hb1)
  obtain ⟨w2, hst, hbx2, ho2⟩ := store39 (HBX.out.below hb1) rfl 0 0 0 0 0 0 { data := #[] } { data := #[] }
  obtain ⟨c0, c1, c2, c3, c4, c5, c6, c7⟩ := hbx2.eight
  have HB2 := Lib.hid (only_below HB1.out ho2 (Nat.le_succ _))
  clear hm hb1 hbx2 ho2
  rcases is with _ | _
  · clear hno HS2
    go_wp2
    exact bodyPost_ret (v := .tuple #[.agg #[.int .i64 0, .string { data := #[] }, .string { data := #[] }, .int .i64 0, .int .i64 0, .int .i64 0, .int .i64 0, .int .i64 0], .bool false]) (by simp [results, Try.results30, go_sem, c0, c1, c2, c3, c4, c5, c6, c7]) rfl ⟨rfl, HB2.out⟩
  · obtain rfl : on = false := by simpa using hno
    clear hno
    go_wp2_with (go_at_call 44; refine (HS2.out _).mono ?_; rintro e w' ⟨rfl, rfl⟩)
    exact bodyPost_ret (v := .tuple #[.agg #[.int .i64 0, .string { data := #[] }, .string { data := #[] }, .int .i64 0, .int .i64 0, .int .i64 0, .int .i64 0, .int .i64 0], .bool false]) (by simp [results, Try.results30, go_sem, c0, c1, c2, c3, c4, c5, c6, c7]) rfl ⟨rfl, HB2.out⟩

set_option maxHeartbeats 4000000 in
theorem see_some {w : World} {B : Nat} {k : List Int} {L : List En} (h : Ta w B k L) (f : Fl) (fl now : Int) (hf : OkF f) {x : En} (hg : getF L f = some x) (hN : okN now = true) :
    Calls Try.prog 30 #[.pointer (some ⟨B, 0, none⟩), fv f, .int .i64 fl, .int .i64 now] w fun e w' => e = .returned (.tuple #[ev (seen x fl now), .bool true]) ∧ Ta w' B k (wth L (seen x fl now)) ∧ Only (· = B) w w' := by
  obtain ⟨pl, h⟩ := h
  have hlt := h.tb.lt
  have HF := Lib.hid (fun W (hb : Below w.heap.size w W) => (h.below hb).findM f hf)
  have HS2 := Lib.hid (fun w => maySee_any now w)
  have H := Lib.hid (fun W (hb : Below w.heap.size w W) => h.below hb)
  have hnow : 0 ≤ now ∧ now ≤ 1099511626776 := by
    unfold okN at hN
    simp only [Bool.and_eq_true, decide_eq_true_eq] at hN
    exact hN
  obtain ⟨s2, hs2⟩ : ∃ s, stp x.st fl = s := ⟨_, rfl⟩
  obtain ⟨lf, hlf⟩ : ∃ lf, lif s2 = lf := ⟨_, rfl⟩
  have hlr := lif_range s2
  have HST := Lib.hid (fun w => step_any x.st fl w)
  have HLF := Lib.hid (fun w => life_any s2 w)
  rw [hs2] at HST
  rw [hlf] at HLF hlr
  have hsn : seen x fl now = ⟨x.fl, x.bk, s2, now + lf⟩ := by unfold seen; rw [hs2, hlf]
  rw [hsn]
  have hw : wrap64 (now + lf) = now + lf := by simp only [wrap64]; omega
  have hfx := (getF_mem hg).2
  rw [hg] at HF
  rw [hN] at HS2
  have HG := Lib.hid hg
  have HFX := Lib.hid hfx
  clear h hs2 hlf hsn hg hfx hN
  obtain ⟨p, ff, t, o, d⟩ := f
  simp only [fv, Option.isSome_some] at HF ⊢
  have HB0 := Lib.hid (show Below w.heap.size w ((w.alloc (.cells #[.int .i64 p, .string ff, .string t, .int .i64 o, .int .i64 d] 37)).alloc (.cells #[.int .i64 0, .string ByteArray.empty, .string ByteArray.empty, .int .i64 0, .int .i64 0, .int .i64 0, .int .i64 0, .int .i64 0] 39)) from below_alloc (below_alloc (Below.refl _ _) _) _)
  have HBX := Lib.hid (Bx.new (w.alloc (.cells #[.int .i64 p, .string ff, .string t, .int .i64 o, .int .i64 d] 37)) [.int .i64 0, .string ByteArray.empty, .string ByteArray.empty, .int .i64 0, .int .i64 0, .int .i64 0, .int .i64 0, .int .i64 0] 39)
  rw [World.size_alloc] at HBX
  go_enter Try.func30, Try.ntmps30
  go_wp2_with fail
  refine (HF.out _ HB0.out).mono ?_
  rintro e w1 ⟨a, rfl, hm, hb1⟩
  have HB1 := Lib.hid (below_then HB0.out HB0.out.size hb1)
  have haz : (a : Int) < 128 := by have := hm.lt; omega
  have hT1 := (H.out _ HB1.out)
  obtain ⟨h2, h3⟩ := hm.some x HG.out
  obtain ⟨d0, dd⟩ := hT1.tb.plc hm.lt
  rw [h3] at dd
  have f7 := hT1.tb.free (16 + a * 9 + 7)
  have f8 := hT1.tb.free (16 + a * 9 + 8)
  have hp : pl[a]! = ⟨2, x⟩ := by
    cases hq : pl[a]! with
    | mk i e => rw [hq] at h2 h3; simp only at h2 h3; rw [h2, h3]
  have T2 := hT1.tb.field hm.lt (j := 7) (by omega) (.int .i64 s2) ⟨2, ⟨x.fl, x.bk, s2, x.ends⟩⟩ (by rw [hp]; rfl)
  have T3 := T2.field hm.lt (j := 8) (by omega) (.int .i64 (now + lf)) ⟨2, ⟨x.fl, x.bk, s2, now + lf⟩⟩ (by rw [at_set (by rw [hT1.tp.len]; exact hm.lt), if_pos rfl]; rfl)
  rw [List.set_set] at T3
  have hTF := hT1.seenT (x := x) (w' := (w1.setCell ⟨B, 16 + a * 9 + 7, none⟩ (.int .i64 s2)).setCell ⟨B, 16 + a * 9 + 8, none⟩ (.int .i64 (now + lf))) (y := ⟨x.fl, x.bk, s2, now + lf⟩) (by rw [HFX.out]; exact hm) (by rw [HFX.out]; exact HG.out) rfl T3
  have ho1 : Only (· = B) w1 ((w1.setCell ⟨B, 16 + a * 9 + 7, none⟩ (.int .i64 s2)).setCell ⟨B, 16 + a * 9 + 8, none⟩ (.int .i64 (now + lf))) := ((Only.refl (· = B) w1).setCell (p := ⟨B, 16 + a * 9 + 7, none⟩) (.inl rfl) _).setCell (p := ⟨B, 16 + a * 9 + 8, none⟩) (.inl rfl) _
  have hbx1 := (HBX.out.below hb1).only ho1 (by omega)
  have HTF := Lib.hid hTF
  have HO1 := Lib.hid ho1
  clear hTF T2 T3 hp h2 h3 d0 ho1 hT1 hm hb1 HF
  obtain ⟨⟨x1, x2, x3, x4, x5⟩, x6, x7, x8⟩ := x
  obtain ⟨d1, d2, d3, d4, d5, d6, d7, d8⟩ := dd.flat
  simp only at d1 d2 d3 d4 d5 d6 d7 d8 HST
  obtain ⟨w2, hst, hbx2, ho2⟩ := store39 hbx1 rfl x1 x4 x5 x6 s2 (now + lf) x2 x3
  obtain ⟨c0, c1, c2, c3, c4, c5, c6, c7⟩ := hbx2.eight
  have HTF2 := Lib.hid (HTF.out.only ho2 (show ¬ B = w.heap.size + 1 by omega))
  have HO2 : Hid (Only (· = B) w w2) := Lib.hid (((Only.of_below (F := (· = B)) HB1.out).trans HO1.out fun j hj => .inl hj).trans ho2 fun j hj => .inr (by omega))
  clear dd hbx1 hbx2 ho2
  go_wp2_with (first | (go_at_call 44; refine (HS2.out _).mono ?_; rintro e w' ⟨rfl, rfl⟩) | (go_at_call 18; refine (HST.out _).mono ?_; rintro e w' ⟨rfl, rfl⟩) | (go_at_call 20; refine (HLF.out _).mono ?_; rintro e w' ⟨rfl, rfl⟩))
  exact bodyPost_ret (v := .tuple #[.agg #[.int .i64 x1, .string x2, .string x3, .int .i64 x4, .int .i64 x5, .int .i64 x6, .int .i64 s2, .int .i64 (now + lf)], .bool true]) (by simp [results, Try.results30, go_sem, c0, c1, c2, c3, c4, c5, c6, c7]) rfl ⟨rfl, ⟨_, HTF2.out⟩, HO2.out⟩

theorem see_any {w : World} {B : Nat} {k : List Int} {L : List En} (h : Ta w B k L) (f : Fl) (fl now : Int) (hf : OkF f) :
    Calls Try.prog 30 #[.pointer (some ⟨B, 0, none⟩), fv f, .int .i64 fl, .int .i64 now] w fun e w' => e = .returned (.tuple #[ev (see L f fl now).2.1, .bool (see L f fl now).2.2]) ∧ Ta w' B k (see L f fl now).1 ∧ Only (· = B) w w' := by
  unfold see
  rcases hg : getF L f with _ | x
  · exact (see_none h f fl now hf (.inl hg)).mono fun e w' ⟨h1, h2⟩ => ⟨h1, h.below h2, Only.of_below h2⟩
  · rcases hN : okN now with _ | _
    · simp only [if_true]
      exact (see_none h f fl now hf (.inr hN)).mono fun e w' ⟨h1, h2⟩ => ⟨h1, h.below h2, Only.of_below h2⟩
    · simp only [Bool.true_eq_false, if_false]
      exact see_some h f fl now hf hg hN

end Go.Proofs.Ytondjponengedaa
