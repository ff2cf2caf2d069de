/-
  Table.lay, Table.Drop.
-/
import Derived.Test.YtondjponengedaaAnew
namespace Go.Proofs.Ytondjponengedaa
open Go.RowKit
set_option linter.unusedVariables false
set_option linter.unusedSimpArgs false
set_option maxRecDepth 10000

/-- Where a flow's entry may be laid. -/
structure MayLay (k : List Int) (pl : List Pc) (L : List En) (f : Fl) (a : Nat) : Prop where
  lt : a < 128
  chain : ∀ j, j < (a + 128 - hx k f) % 128 → (pl[(hx k f + j) % 128]!).is_ ≠ 0
  some : ∀ e, getF L f = some e → (pl[a]!).is_ = 2 ∧ (pl[a]!).en = e
  none : getF L f = none → (pl[a]!).is_ ≠ 2

set_option maxHeartbeats 2000000 in
theorem lay_any {w : World} {B a : Nat} {k : List Int} {pl : List Pc} {L : List En} (h : TaS w B k pl L) (e : En) (hm : MayLay k pl L e.fl a) (hf : Fine (wth L e)) (hok : OkF e.fl) :
    Calls Try.prog 47 #[.pointer (some ⟨B, 0, none⟩), .int .i64 a, ev e] w fun r w' => r = .returned (.tuple #[]) ∧ Ta w' B k (wth L e) ∧ Only (· = B) w w' := by
  have hb0 : Below w.heap.size w (w.alloc (.cells (ecs e).toArray 39)) := below_alloc (Below.refl _ _) _
  have h0 := h.below hb0
  have HS := Lib.hid (set_any h0.tb a hm.lt ⟨2, e⟩ (h0.tp.kinds a hm.lt) (by simp) (cts_bound h0.tp.len))
  have HL := Lib.hid (fun w' hs => h0.laid (w' := w') hm.lt hm.chain hm.some hm.none hf hs)
  have HK := Lib.hid h.key
  have HOK : Hid (∀ x ∈ wth L e, OkF x.fl) := Lib.hid fun x hx => by
    rcases mem_wth.1 hx with rfl | hx
    · exact hok
    · exact h.ok x hx.1
  clear h hm h0 hf hok hb0
  obtain ⟨⟨x1, x2, x3, x4, x5⟩, x6, x7, x8⟩ := e
  simp only [pv, pcs, ecs, ev] at HS HL ⊢
  go_enter Try.func47, Try.ntmps47
  go_wp2_with fail
  refine HS.out.mono ?_
  rintro r w1 ⟨rfl, hs⟩
  obtain ⟨hTB, hTP⟩ := HL.out w1 hs
  have HO : Hid (Only (· = B) w w1) := Lib.hid (((Only.refl _ w).alloc _).trans hs.2 fun j hj => .inl hj)
  have c0 := hTB.count (j := 0) (by omega)
  rw [cts_at _ 0 (by omega), Nat.add_zero] at c0
  have HTB := Lib.hid (And.intro hTB hTP)
  clear hTB hTP hs HS HL
  generalize hp : pl.set a ⟨2, ⟨⟨x1, x2, x3, x4, x5⟩, x6, x7, x8⟩⟩ = pl2 at *
  by_cases hlt : cnt pl2 0 < 32
  · have hz : decide ((cnt pl2 0 : Int) < 32) = true := decide_eq_true (by omega)
    have HN := Lib.hid (layAnew_any HTB.out.1 HTB.out.2 HK.out HOK.out)
    clear hlt
    go_wp2_with fail
    refine HN.out.mono ?_
    rintro r w2 ⟨rfl, hT, ho⟩
    go_wp2
    go_end0
    exact ⟨rfl, hT, HO.out.trans ho fun j hj => .inl hj⟩
  · have hz : decide ((cnt pl2 0 : Int) < 32) = false := decide_eq_false (by omega)
    have hr : 32 ≤ cnt pl2 0 := by omega
    go_wp2
    go_end0
    exact ⟨rfl, ⟨pl2, HTB.out.1, HTB.out.2, hr, HK.out, HOK.out⟩, HO.out⟩

theorem TaS.findM {w : World} {B : Nat} {k : List Int} {pl : List Pc} {L : List En} (h : TaS w B k pl L) (f : Fl) (hf : OkF f) : Calls Try.prog 36 #[.pointer (some ⟨B, 0, none⟩), fv f] w fun e w' => ∃ a, e = .returned (.tuple #[.int .i64 (a : Nat), .bool (getF L f).isSome]) ∧ MayLay k pl L f a ∧ Below w.heap.size w w' :=
  (h.find f hf).mono fun e w' ⟨a, h1, h2, h3, h4, h5, h6⟩ => ⟨a, h1, ⟨h2, h3, h4, h5⟩, h6⟩

theorem TaS.left {w w' : World} {B a : Nat} {k : List Int} {pl : List Pc} {L : List En} {f : Fl} {x : En} (h : TaS w B k pl L) (hm : MayLay k pl L f a) (hg : getF L f = some x)
    (hs : SetTo w B k (pl.set a ⟨1, Z⟩) (((cts pl).set (pl[a]!).is_ ((cts pl)[(pl[a]!).is_]! - 1)).set 1 (((cts pl).set (pl[a]!).is_ ((cts pl)[(pl[a]!).is_]! - 1))[1]! + 1)) w') : TaS w' B k (pl.set a ⟨1, Z⟩) (wo L f) := by
  have ha := hm.lt
  have hal : a < pl.length := by rw [h.tp.len]; exact ha
  obtain ⟨h2, h3⟩ := hm.some x hg
  have ec := cts_set (pl := pl) (i := a) hal ⟨1, Z⟩ (h.tp.kinds a ha) (by simp)
  have q0 := cnt_set hal ⟨1, Z⟩ 0
  rw [h2, if_neg (by omega), if_neg (by simp)] at q0
  refine ⟨?_, h.tp.drop ha hg h2 h3, by have := h.room; omega, h.key, fun e he => h.ok e (mem_wo.1 he).1⟩
  have := hs.1
  rw [ec] at this
  exact this

set_option maxHeartbeats 2000000 in
theorem drop_any {w : World} {B : Nat} {k : List Int} {L : List En} (h : Ta w B k L) (f : Fl) (hf : OkF f) : Calls Try.prog 28 #[.pointer (some ⟨B, 0, none⟩), fv f] w fun e w' => e = .returned (.bool (getF L f).isSome) ∧ Ta w' B k (wo L f) ∧ Only (· = B) w w' := by
  obtain ⟨pl, h⟩ := h
  have hb0 : Below w.heap.size w (w.alloc (.cells (fcs f).toArray 37)) := below_alloc (Below.refl _ _) _
  have h0 := h.below hb0
  have HF := Lib.hid (h0.findM f hf)
  have H0 := Lib.hid h0
  rcases hg : getF L f with _ | x
  · rw [hg] at HF
    have hw := wo_none hg
    rw [hw]
    clear h h0 hb0 hw
    obtain ⟨p, ff, t, o, d⟩ := f
    simp only [fv, fcs, Option.isSome_none] at HF ⊢
    go_enter Try.func28, Try.ntmps28
    go_wp2_with fail
    refine HF.out.mono ?_
    rintro e w1 ⟨a, rfl, hm, hb1⟩
    have HT := Lib.hid (H0.out.below hb1)
    have HO : Hid (Only (· = B) w w1) := Lib.hid (((Only.refl _ w).alloc _).trans (Only.of_below (F := (· = B)) hb1) fun j hj => .inl hj)
    clear hb1 hm
    go_wp2
    go_ret
    exact ⟨rfl, ⟨pl, HT.out⟩, HO.out⟩
  · rw [hg] at HF
    have HG := Lib.hid hg
    clear h h0 hb0 hg
    obtain ⟨p, ff, t, o, d⟩ := f
    simp only [fv, fcs, Option.isSome_some] at HF ⊢
    go_enter Try.func28, Try.ntmps28
    go_wp2_with fail
    refine HF.out.mono ?_
    rintro e w1 ⟨a, rfl, hm, hb1⟩
    have HT := Lib.hid (H0.out.below hb1)
    have HO : Hid (Only (· = B) w w1) := Lib.hid (((Only.refl _ w).alloc _).trans (Only.of_below (F := (· = B)) hb1) fun j hj => .inl hj)
    have HS := Lib.hid (set_any HT.out.tb a hm.lt ⟨1, Z⟩ (HT.out.tp.kinds a hm.lt) (by simp) (cts_bound HT.out.tp.len))
    have HM := Lib.hid hm
    clear hb1 hm
    simp only [pv, pcs, ecs] at HS
    go_wp2_with fail
    refine HS.out.mono ?_
    rintro e w2 ⟨rfl, hs⟩
    have HS2 := Lib.hid hs
    clear hs
    go_wp2
    go_ret
    exact ⟨rfl, ⟨_, HT.out.left HM.out HG.out HS2.out⟩, HO.out.trans HS2.out.2 fun j hj => .inl hj⟩

end Go.Proofs.Ytondjponengedaa
