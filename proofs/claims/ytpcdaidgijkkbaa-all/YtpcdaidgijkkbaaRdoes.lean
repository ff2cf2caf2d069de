/-
  The reference: an event more.
-/
import Derived.Test.YtpcdaidgijkkbaaRbase
import Derived.Deep.Cut
namespace Go.Proofs.Ytpcdaidgijkkbaa
open Go.RowKit Go.Maps
set_option linter.unusedVariables false
set_option linter.unusedSimpArgs false
set_option maxRecDepth 40000
attribute [local go_sem ↓] bigS34
attribute [local go_sem ↓] bigS78

set_option maxHeartbeats 2000000 in
/-- The reference's does. -/
theorem rdoes_any {b : Nat} {A : Option Addr} {n c : Nat} {w : World} {m : Mc} {vo : Value} (hrow : Rw b w vo A n c m.out) (hb : b ≤ w.heap.size) (hlen : m.out.length ≤ 549755813888) (x : Vt) :
    Calls Try.prog 69 #[.agg #[.int .i64 m.c.id, .int .i64 m.c.pr, .int .i64 m.c.ev, .bool m.c.pre, .string m.c.fr, .slice A n c, .int .i64 m.st, .int .i64 m.pace, .int .i64 m.wt, vo], .agg #[.int .i64 x.kind, .int .i64 x.id, .int .i64 x.pr, .int .i64 x.ev, av A n c x]] w fun e w' => ∃ vo', e = .returned (.agg #[.int .i64 m.c.id, .int .i64 m.c.pr, .int .i64 m.c.ev, .bool m.c.pre, .string m.c.fr, .slice A n c, .int .i64 m.st, .int .i64 m.pace, .int .i64 m.wt, vo']) ∧ Rw b w' vo' A n c (m.out ++ [x]) ∧ Below w.heap.size w w' := by
  obtain ⟨A2, c2, rfl⟩ := hrow.any
  obtain ⟨A3, n3, c3, hav⟩ := av_slice A n c x
  have hone := av_one A n c x
  have hrz : ecells (rz A n c [x]) = [.int .i64 x.kind, .int .i64 x.id, .int .i64 x.pr, .int .i64 x.ev, av A n c x] := rfl
  rw [hav] at hone hrz
  rw [hav]
  have HRZ := Lib.hid hrz
  generalize hX : (((w.alloc (.cells #[.int .i64 m.c.id, .int .i64 m.c.pr, .int .i64 m.c.ev, .bool m.c.pre, .string m.c.fr, .slice A n c, .int .i64 m.st, .int .i64 m.pace, .int .i64 m.wt, .slice A2 m.out.length c2] 34)).alloc (.cells #[.int .i64 x.kind, .int .i64 x.id, .int .i64 x.pr, .int .i64 x.ev, .slice A3 n3 c3] 78)).alloc (.cells #[.int .i64 0, .int .i64 0, .int .i64 0, .bool false, .string ⟨#[]⟩, .slice none 0 0, .int .i64 0, .int .i64 0, .int .i64 0, .slice none 0 0] 34)) = X
  have hXs : X.heap.size = w.heap.size + 1 + 1 + 1 := by rw [← hX]; simp
  have hbX : Below w.heap.size w X := by rw [← hX]; exact below_alloc (below_alloc (below_alloc (Below.refl _ _) _) _) _
  have hc0 : Cb X w.heap.size 34 [.int .i64 m.c.id, .int .i64 m.c.pr, .int .i64 m.c.ev, .bool m.c.pre, .string m.c.fr, .slice A n c, .int .i64 m.st, .int .i64 m.pace, .int .i64 m.wt, .slice A2 m.out.length c2] := by rw [← hX]; exact ((Cb.new w [.int .i64 m.c.id, .int .i64 m.c.pr, .int .i64 m.c.ev, .bool m.c.pre, .string m.c.fr, .slice A n c, .int .i64 m.st, .int .i64 m.pace, .int .i64 m.wt, .slice A2 m.out.length c2] 34).alloc _).alloc _
  have hc1 : Cb X (w.heap.size + 1) 78 [.int .i64 x.kind, .int .i64 x.id, .int .i64 x.pr, .int .i64 x.ev, .slice A3 n3 c3] := by
    have h1 := Cb.new (w.alloc (.cells #[.int .i64 m.c.id, .int .i64 m.c.pr, .int .i64 m.c.ev, .bool m.c.pre, .string m.c.fr, .slice A n c, .int .i64 m.st, .int .i64 m.pace, .int .i64 m.wt, .slice A2 m.out.length c2] 34)) [.int .i64 x.kind, .int .i64 x.id, .int .i64 x.pr, .int .i64 x.ev, .slice A3 n3 c3] 78
    rw [show (w.alloc (.cells #[.int .i64 m.c.id, .int .i64 m.c.pr, .int .i64 m.c.ev, .bool m.c.pre, .string m.c.fr, .slice A n c, .int .i64 m.st, .int .i64 m.pace, .int .i64 m.wt, .slice A2 m.out.length c2] 34)).heap.size = w.heap.size + 1 by simp] at h1
    rw [← hX]; exact h1.alloc _
  have hc2 : Cb X (w.heap.size + 1 + 1) 34 [.int .i64 0, .int .i64 0, .int .i64 0, .bool false, .string ⟨#[]⟩, .slice none 0 0, .int .i64 0, .int .i64 0, .int .i64 0, .slice none 0 0] := by
    have h1 := Cb.new ((w.alloc (.cells #[.int .i64 m.c.id, .int .i64 m.c.pr, .int .i64 m.c.ev, .bool m.c.pre, .string m.c.fr, .slice A n c, .int .i64 m.st, .int .i64 m.pace, .int .i64 m.wt, .slice A2 m.out.length c2] 34)).alloc (.cells #[.int .i64 x.kind, .int .i64 x.id, .int .i64 x.pr, .int .i64 x.ev, .slice A3 n3 c3] 78)) [.int .i64 0, .int .i64 0, .int .i64 0, .bool false, .string ⟨#[]⟩, .slice none 0 0, .int .i64 0, .int .i64 0, .int .i64 0, .slice none 0 0] 34
    rw [show ((w.alloc (.cells #[.int .i64 m.c.id, .int .i64 m.c.pr, .int .i64 m.c.ev, .bool m.c.pre, .string m.c.fr, .slice A n c, .int .i64 m.st, .int .i64 m.pace, .int .i64 m.wt, .slice A2 m.out.length c2] 34)).alloc (.cells #[.int .i64 x.kind, .int .i64 x.id, .int .i64 x.pr, .int .i64 x.ev, .slice A3 n3 c3] 78)).heap.size = w.heap.size + 1 + 1 by simp] at h1
    rw [← hX]; exact h1
  -- the empty row, and what is appended to it
  have hbE : Below X.heap.size X (X.alloc (.cells #[] 78)) := below_alloc (Below.refl _ _) _
  have hE : (X.alloc (.cells #[] 78)).ownsRow X.heap.size 78 5 (.slice (some ⟨X.heap.size, 0, none⟩) 0 0) ([] : List (Vt × Value)).length (ecells []) :=
    ⟨rfl, .inr ⟨X.heap.size, 0, #[], rfl, Nat.le_refl _, heap_top X _ 78 0, Nat.le_refl _, Nat.zero_le _, rfl, rfl⟩⟩
  have hr0 : (X.alloc (.cells #[] 78)).ownsRow b 78 5 (.slice A2 m.out.length c2) (rz A n c m.out).length (ecells (rz A n c m.out)) := by rw [rz_len]; exact (hrow.below hbX).below hbE
  obtain ⟨v1, X1, hrun1, hrow1, hg1⟩ := append_two hE hr0 (rz_one A n c m.out) (by simp) (by rw [rz_len]; simp; omega)
  rw [List.nil_append] at hrow1
  have ho1 : Only (· = X.heap.size) (X.alloc (.cells #[] 78)) X1 := Only.of_grown hg1 fun i hi => by simpa [Value.ownBlock] using hi.symm
  have hb1 : Below X.heap.size X X1 := hbE.trans (ho1.below (by simp) fun i hi => by have h : i = X.heap.size := hi; omega)
  obtain ⟨a1, k1, rfl, -, -⟩ := row_any hrow1
  -- the event, behind them
  have hb2 : Below X1.heap.size X1 (X1.alloc (.cells #[.int .i64 x.kind, .int .i64 x.id, .int .i64 x.pr, .int .i64 x.ev, .slice A3 n3 c3] 78)) := below_alloc (Below.refl _ _) _
  have hr1 : (X1.alloc (.cells #[.int .i64 x.kind, .int .i64 x.id, .int .i64 x.pr, .int .i64 x.ev, .slice A3 n3 c3] 78)).ownsRow X1.heap.size 78 5 (.slice (some ⟨X1.heap.size, 0, none⟩) 1 1) (rz A n c [x]).length (ecells (rz A n c [x])) := by
    refine ⟨rfl, .inr ⟨X1.heap.size, 1, #[.int .i64 x.kind, .int .i64 x.id, .int .i64 x.pr, .int .i64 x.ev, .slice A3 n3 c3], rfl, Nat.le_refl _, heap_top X1 _ 78 0, Nat.le_refl _, by decide, rfl, ?_⟩⟩
    rw [hrz]; rfl
  have hr2 : (X1.alloc (.cells #[.int .i64 x.kind, .int .i64 x.id, .int .i64 x.pr, .int .i64 x.ev, .slice A3 n3 c3] 78)).ownsRow X.heap.size 78 5 (.slice a1 (rz A n c m.out).length k1) (rz A n c m.out).length (ecells (rz A n c m.out)) := row_below hrow1 hb2
  obtain ⟨v2, X2, hrun2, hrow2, hg2⟩ := append_two hr2 hr1 (rz_one A n c [x]) (by have := hb1.size; have := hb2.size; omega) (by rw [rz_len, rz_len]; simp; omega)
  rw [← rz_app] at hrow2
  have ho2 : Below X.heap.size X X2 := hb1.trans ((hb2.mono hb1.size).trans (Only.below (Only.of_grown hg2 (F := fun i => X.heap.size ≤ i) fun i hi => by
    have := (row_type hr2 hi).1
    exact this) (by have := hb1.size; have := hb2.size; omega) fun i hi => hi))
  obtain ⟨a2, k2, rfl, -, -⟩ := row_any hrow2
  have hn2 : (rz A n c (m.out ++ [x])).length = (m.out ++ [x]).length := rz_len _ _ _ _
  rw [rz_len] at hrun1 hrun2
  have hlw : w.heap.size < X.heap.size := by rw [hXs]; omega
  have hd1 : Cb X1 (w.heap.size + 1) 78 [.int .i64 x.kind, .int .i64 x.id, .int .i64 x.pr, .int .i64 x.ev, .slice A3 n3 c3] := hc1.below hb1
  have hd0 : Cb X2 w.heap.size 34 [.int .i64 m.c.id, .int .i64 m.c.pr, .int .i64 m.c.ev, .bool m.c.pre, .string m.c.fr, .slice A n c, .int .i64 m.st, .int .i64 m.pace, .int .i64 m.wt, .slice A2 m.out.length c2] := hc0.below ho2
  have hd2 : Cb X2 (w.heap.size + 1 + 1) 34 [.int .i64 0, .int .i64 0, .int .i64 0, .bool false, .string ⟨#[]⟩, .slice none 0 0, .int .i64 0, .int .i64 0, .int .i64 0, .slice none 0 0] := hc2.below ho2
  have hx3 : Cb (X2.setCell ⟨w.heap.size, 9, none⟩ (.slice a2 (rz A n c (m.out ++ [x])).length k2)) w.heap.size 34 [.int .i64 m.c.id, .int .i64 m.c.pr, .int .i64 m.c.ev, .bool m.c.pre, .string m.c.fr, .slice A n c, .int .i64 m.st, .int .i64 m.pace, .int .i64 m.wt, .slice a2 (rz A n c (m.out ++ [x])).length k2] := hd0.setAt 9 _
  have hO3 : Only (· = w.heap.size) X2 (X2.setCell ⟨w.heap.size, 9, none⟩ (.slice a2 (rz A n c (m.out ++ [x])).length k2)) := (Only.refl (· = w.heap.size) X2).setCell (p := ⟨w.heap.size, 9, none⟩) (.inl rfl) _
  have hx2 : Cb (X2.setCell ⟨w.heap.size, 9, none⟩ (.slice a2 (rz A n c (m.out ++ [x])).length k2)) (w.heap.size + 1 + 1) 34 [.int .i64 0, .int .i64 0, .int .i64 0, .bool false, .string ⟨#[]⟩, .slice none 0 0, .int .i64 0, .int .i64 0, .int .i64 0, .slice none 0 0] := hd2.only hO3 (by omega)
  have hr3 : (X2.setCell ⟨w.heap.size, 9, none⟩ (.slice a2 (rz A n c (m.out ++ [x])).length k2)).ownsRow X.heap.size 78 5 (.slice a2 (rz A n c (m.out ++ [x])).length k2) (rz A n c (m.out ++ [x])).length (ecells (rz A n c (m.out ++ [x]))) := row_only hrow2 hO3 fun g hg e => by
    have h1 := (row_type hrow2 hg).1
    have h2 : g = w.heap.size := e
    omega
  have hbw3 : Below w.heap.size w (X2.setCell ⟨w.heap.size, 9, none⟩ (.slice a2 (rz A n c (m.out ++ [x])).length k2)) := (hbX.trans (ho2.mono (by omega))).trans (hO3.below (by have := hbX.size; have := ho2.size; omega) fun i hi => by have h : i = w.heap.size := hi; omega)
  have hc9 := hd0.cell 9
  have hf9 := hd0.free 9
  have hl9 := hd0.lt
  obtain ⟨e0, e1, e2, e3, e4⟩ := hd1.five
  rw [hXs] at hrun1
  have HR1 := Lib.hid hrun1
  have HR2 := Lib.hid hrun2
  have HBB := Lib.hid hb
  have HX3 := Lib.hid (And.intro hx3 (And.intro hx2 (And.intro hr3 hbw3)))
  have HXS := Lib.hid hXs
  subst hX
  clear hrun1 hrun2 hx3 hx2 hr3 hbw3 hO3 hd0 hd1 hd2 hrow1 hrow2 hr0 hr1 hr2 hg1 hg2 ho1 ho2 hb1 hb2 hE hbE hbX hc0 hc1 hc2 hrow hlw hav hone hrz HRZ hXs hn2 hb hlen
  go_enter Try.func69, Try.ntmps69
  go_upto_region 3 with (first | (at_builtin; refine Lib.wpList_append_run _ rfl _ _ _ _ rfl _ _ rfl rfl _ _ HR1.out ?_) | (at_builtin; refine Lib.wpList_append_run _ rfl _ _ _ _ rfl _ _ rfl rfl _ _ HR2.out ?_))
  clear hc9 hf9 hl9 e0 e1 e2 e3 e4 HR1 HR2
  generalize X2.setCell ⟨w.heap.size, 9, none⟩ (.slice a2 (rz A n c (m.out ++ [x])).length k2) = X3 at *
  obtain ⟨hx3, hx2, hr3, hbw3⟩ := HX3.out
  obtain ⟨y0, y1, y2, y3, y4, y5, y6, y7, y8, y9⟩ := hx3.ten
  obtain ⟨w7, hst, hcb7, ho7⟩ := store34 hx2 rfl m.c.id m.c.pr m.c.ev m.c.pre m.c.fr (.slice A n c) m.st m.pace m.wt (.slice a2 (rz A n c (m.out ++ [x])).length k2) rfl rfl
  have HB7 := Lib.hid (only_below hbw3 ho7 (by omega))
  have HR7 : Hid (Rw b w7 (.slice a2 (rz A n c (m.out ++ [x])).length k2) A n c (m.out ++ [x])) := Lib.hid (by
    have h1 := row_only hr3 ho7 fun g hg e => by
      have h1 := (row_type hr3 hg).1
      have h2 : g = w.heap.size + 1 + 1 := e
      have h3 := HXS.out
      omega
    rw [rz_len] at h1
    unfold Rw
    rw [rz_len]
    exact row_base h1 (by rw [HXS.out]; have := HBB.out; omega))
  obtain ⟨g0, g1, g2, g3, g4, g5, g6, g7, g8, g9⟩ := hcb7.ten
  clear hx3 hx2 hr3 hbw3 ho7 hcb7 HX3
  go_wp2
  refine bodyPost_ret (v := .agg #[.int .i64 m.c.id, .int .i64 m.c.pr, .int .i64 m.c.ev, .bool m.c.pre, .string m.c.fr, .slice A n c, .int .i64 m.st, .int .i64 m.pace, .int .i64 m.wt, .slice a2 (rz A n c (m.out ++ [x])).length k2]) (by simp [results, Try.results69, go_sem, g0, g1, g2, g3, g4, g5, g6, g7, g8, g9]) rfl ⟨_, rfl, HR7.out, HB7.out⟩
end Go.Proofs.Ytpcdaidgijkkbaa
