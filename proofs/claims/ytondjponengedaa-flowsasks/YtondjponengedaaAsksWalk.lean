/-
  The walk of FlowsAsks.
-/
import Derived.Test.YtondjponengedaaRefP
namespace Go.Proofs.Ytondjponengedaa
open Go.RowKit
set_option linter.unusedVariables false
set_option linter.unusedSimpArgs false
set_option maxRecDepth 10000
attribute [local go_sem ↓] bigS39 bigS42 entry_eq42

theorem box39 (W : World) (x1 x4 x5 x6 x7 x8 : Int) (x2 x3 : ByteArray) :
    ∃ W', (bigS 39 ⟨W.heap.size, 0, none⟩ (.agg #[.int .i64 x1, .string x2, .string x3, .int .i64 x4, .int .i64 x5, .int .i64 x6, .int .i64 x7, .int .i64 x8])).run Try.prog (W.alloc (.cells #[.int .i64 0, .string { data := #[] }, .string { data := #[] }, .int .i64 0, .int .i64 0, .int .i64 0, .int .i64 0, .int .i64 0] 39)) = .ok () W' ∧
      Bx W' W.heap.size 39 [.int .i64 x1, .string x2, .string x3, .int .i64 x4, .int .i64 x5, .int .i64 x6, .int .i64 x7, .int .i64 x8] ∧ Below W.heap.size W W' := by
  obtain ⟨W', h1, h2, h3⟩ := store39 (show Bx (W.alloc (.cells #[.int .i64 0, .string { data := #[] }, .string { data := #[] }, .int .i64 0, .int .i64 0, .int .i64 0, .int .i64 0, .int .i64 0] 39)) W.heap.size 39 [.int .i64 0, .string { data := #[] }, .string { data := #[] }, .int .i64 0, .int .i64 0, .int .i64 0, .int .i64 0, .int .i64 0] from Bx.new W _ 39) rfl x1 x4 x5 x6 x7 x8 x2 x3
  exact ⟨W', h1, h2, only_below (below_alloc (Below.refl _ _) _) h3 (Nat.le_refl _)⟩
theorem box42 (W : World) (x1 x4 x5 x6 x7 x8 : Int) (x2 x3 : ByteArray) :
    ∃ W', (bigS 42 ⟨W.heap.size, 0, none⟩ (.agg #[.int .i64 x1, .string x2, .string x3, .int .i64 x4, .int .i64 x5, .int .i64 x6, .int .i64 x7, .int .i64 x8])).run Try.prog (W.alloc (.cells #[.int .i64 0, .string { data := #[] }, .string { data := #[] }, .int .i64 0, .int .i64 0, .int .i64 0, .int .i64 0, .int .i64 0] 42)) = .ok () W' ∧
      Bx W' W.heap.size 42 [.int .i64 x1, .string x2, .string x3, .int .i64 x4, .int .i64 x5, .int .i64 x6, .int .i64 x7, .int .i64 x8] ∧ Below W.heap.size W W' := by
  obtain ⟨W', h1, h2, h3⟩ := store42 (show Bx (W.alloc (.cells #[.int .i64 0, .string { data := #[] }, .string { data := #[] }, .int .i64 0, .int .i64 0, .int .i64 0, .int .i64 0, .int .i64 0] 42)) W.heap.size 42 [.int .i64 0, .string { data := #[] }, .string { data := #[] }, .int .i64 0, .int .i64 0, .int .i64 0, .int .i64 0, .int .i64 0] from Bx.new W _ 42) rfl x1 x4 x5 x6 x7 x8 x2 x3
  exact ⟨W', h1, h2, only_below (below_alloc (Below.refl _ _) _) h3 (Nat.le_refl _)⟩

set_option maxHeartbeats 4000000 in
theorem asks_walk (K : List Int) (a : Option Addr) (n c : Nat) (l : List Opr) (f : Fl) (w : World) (hK : Key K) (hS : Scr w a n c l) (hf : OkF f) :
    Calls Try.prog 4 #[kv K, .slice a n c, fv f] w fun e w' => e = .returned (.bool true) ∧ Below w.heap.size w w' := by
  have HK := Lib.hid hK
  have HS := Lib.hid hS
  have HN := Lib.hid (fun w => pl_new w hK)
  have AL := Lib.hid (fun w => alive_any w)
  obtain ⟨k0, k1, k2, k3, k4, k5, k6, k7, k8, k9, k10, k11, k12, k13, k14, k15, hl⟩ := hK.letters
  have HKV : Hid (kv K = .agg #[.int .u8 k0, .int .u8 k1, .int .u8 k2, .int .u8 k3, .int .u8 k4, .int .u8 k5, .int .u8 k6, .int .u8 k7, .int .u8 k8, .int .u8 k9, .int .u8 k10, .int .u8 k11, .int .u8 k12, .int .u8 k13, .int .u8 k14, .int .u8 k15]) := Lib.hid (by rw [hl, kv_lit])
  rw [HKV.out] at HN ⊢
  have hb0 := below_alloc (below_alloc (Below.refl w.heap.size w) (.cells #[.int .u8 k0, .int .u8 k1, .int .u8 k2, .int .u8 k3, .int .u8 k4, .int .u8 k5, .int .u8 k6, .int .u8 k7, .int .u8 k8, .int .u8 k9, .int .u8 k10, .int .u8 k11, .int .u8 k12, .int .u8 k13, .int .u8 k14, .int .u8 k15] 22)) (.cells (fcs f).toArray 37)
  have HB0 := Lib.hid hb0
  have HBF := Lib.hid (Bx.new (w.alloc (.cells #[.int .u8 k0, .int .u8 k1, .int .u8 k2, .int .u8 k3, .int .u8 k4, .int .u8 k5, .int .u8 k6, .int .u8 k7, .int .u8 k8, .int .u8 k9, .int .u8 k10, .int .u8 k11, .int .u8 k12, .int .u8 k13, .int .u8 k14, .int .u8 k15] 22)) (fcs f) 37)
  rw [World.size_alloc] at HBF
  have HGT := Lib.hid (fun (W : World) (B : Nat) (L : List En) (h : Ta W B K L) => get_any h f hf)
  have HRG := Lib.hid (fun (W : World) (v : Value) (L : List En) (h : Rf W v L) (hn : L.length ≤ 1000) => rget_any h hn f)
  clear hK hS hl hb0 hf
  have hgo : ∀ L, ∃ y is, gotE L f = y ∧ (getF L f).isSome = is := fun L => ⟨_, _, rfl, rfl⟩
  have HGO := Lib.hid hgo
  clear hgo
  by_cases hbig : 600 < n
  · have hz : decide ((600 : Int) < (n : Int)) = true := decide_eq_true (by omega)
    obtain ⟨p, ff, t, o, d⟩ := f
    simp only [fv, fcs] at HB0 ⊢
    go_enter Try.func4, Try.ntmps4
    go_wp2_with fail
    refine (HN.out _).mono ?_
    rintro e w1 ⟨B, rfl, hP⟩
    have HB1 := Lib.hid (HB0.out.trans (hP.2.2.mono HB0.out.size))
    clear hP
    go_wp2_with fail
    refine (AL.out _).mono ?_
    rintro e w2 ⟨rfl, hb2⟩
    go_wp2
    go_ret
    exact ⟨rfl, below_then HB1.out HB1.out.size hb2⟩
  · have hz : decide ((600 : Int) < (n : Int)) = false := decide_eq_false (by omega)
    obtain ⟨p, ff, t, o, d⟩ := f
    simp only [fv, fcs] at HB0 HBF HGT HRG ⊢
    go_enter Try.func4, Try.ntmps4
    go_wp2_with fail
    refine (HN.out _).mono ?_
    rintro e w1 ⟨B, rfl, hP⟩
    have HP1 : Hid (Pl w w1 B K []) := Lib.hid ⟨hP.1, Nat.le_trans HB0.out.size hP.2.1, HB0.out.trans (hP.2.2.mono HB0.out.size)⟩
    have HF1 := Lib.hid (HBF.out.below hP.2.2)
    have hBF : w.heap.size + 1 < B := by have := hP.2.1; simp at this; omega
    have hP' : Pl w1 w1 w1.heap.size K [] → True := fun _ => trivial
    have hPW : Hid (Pl ((w.alloc (.cells #[.int .u8 k0, .int .u8 k1, .int .u8 k2, .int .u8 k3, .int .u8 k4, .int .u8 k5, .int .u8 k6, .int .u8 k7, .int .u8 k8, .int .u8 k9, .int .u8 k10, .int .u8 k11, .int .u8 k12, .int .u8 k13, .int .u8 k14, .int .u8 k15] 22)).alloc (.cells #[.int .i64 p, .string ff, .string t, .int .i64 o, .int .i64 d] 37)) w1 B K []) := Lib.hid hP
    have HSW := Lib.hid (HS.out.below HB0.out)
    clear hP hP'
    have HPY := Lib.hid (plays_any hPW.out HSW.out (by omega))
    generalize runS l = L at HPY
    obtain ⟨y, is, hy, his⟩ := HGO.out L
    go_wp2_with fail
    refine HPY.out.mono ?_
    rintro e w2 ⟨v2, rfl, hr2, hP2⟩
    have hfine := hP2.1.fine
    have h64 := hfine.2
    have HR2 := Lib.hid hr2
    have HF2 := Lib.hid (HBF.out.below hP2.2.2)
    have HB2 := Lib.hid (HB0.out.trans (hP2.2.2.mono HB0.out.size))
    have HG2 := Lib.hid (HGT.out w2 B L hP2.1)
    rw [hy, his] at HG2
    obtain ⟨a2, c2, rfl, -, -⟩ := row_any hr2
    obtain ⟨f0, f1, f2, f3, f4⟩ : w2.cell? ⟨w.heap.size + 1, 0, none⟩ = some (.int .i64 p) ∧ w2.cell? ⟨w.heap.size + 1, 1, none⟩ = some (.string ff) ∧ w2.cell? ⟨w.heap.size + 1, 2, none⟩ = some (.string t) ∧ w2.cell? ⟨w.heap.size + 1, 3, none⟩ = some (.int .i64 o) ∧ w2.cell? ⟨w.heap.size + 1, 4, none⟩ = some (.int .i64 d) :=
      ⟨HF2.out.cell 0, HF2.out.cell 1, HF2.out.cell 2, HF2.out.cell 3, HF2.out.cell 4⟩
    clear hr2 hP2 hfine
    obtain ⟨⟨y1, y2, y3, y4, y5⟩, y6, y7, y8⟩ := y
    simp only [ev] at HG2
    go_wp2_with fail
    refine HG2.out.mono ?_
    rintro e w3 ⟨rfl, hb3⟩
    obtain ⟨w4, hst4, hbx4, hb4⟩ := box39 w3 y1 y4 y5 y6 y7 y8 y2 y3
    have hb34 := hb3.trans (hb4.mono hb3.size)
    have HR4 := Lib.hid (HR2.out.below hb34)
    have HF4 := Lib.hid (HF2.out.below hb34)
    have HB4 := Lib.hid (below_then HB2.out HB2.out.size hb34)
    have HX4 := Lib.hid hbx4
    have HG4 := Lib.hid (HRG.out w4 _ L HR4.out (by omega))
    rw [hy, his] at HG4
    simp only [ev] at HG4
    clear f0 f1 f2 f3 f4
    obtain ⟨f0, f1, f2, f3, f4⟩ : w4.cell? ⟨w.heap.size + 1, 0, none⟩ = some (.int .i64 p) ∧ w4.cell? ⟨w.heap.size + 1, 1, none⟩ = some (.string ff) ∧ w4.cell? ⟨w.heap.size + 1, 2, none⟩ = some (.string t) ∧ w4.cell? ⟨w.heap.size + 1, 3, none⟩ = some (.int .i64 o) ∧ w4.cell? ⟨w.heap.size + 1, 4, none⟩ = some (.int .i64 d) :=
      ⟨HF4.out.cell 0, HF4.out.cell 1, HF4.out.cell 2, HF4.out.cell 3, HF4.out.cell 4⟩
    clear hb3 hb4 hb34 hbx4 hy his
    go_wp2_with fail
    refine HG4.out.mono ?_
    rintro e w5 ⟨rfl, hb5⟩
    obtain ⟨w6, hst6, hbx6, hb6⟩ := box42 w5 y1 y4 y5 y6 y7 y8 y2 y3
    have hb56 := hb5.trans (hb6.mono hb5.size)
    have HB6 := Lib.hid (below_then HB4.out HB4.out.size hb56)
    have HX6 := Lib.hid (HX4.out.below hb56)
    have HY6 := Lib.hid hbx6
    clear hb5 hb6 hb56 hbx6
    go_wp2_with fail
    refine (AL.out _).mono ?_
    rintro e w7 ⟨rfl, hb7⟩
    have HB7 := Lib.hid (below_then HB6.out HB6.out.size hb7)
    obtain ⟨p0, p1, p2, p3, p4, p5, p6, p7⟩ := (HX6.out.below hb7).eight
    obtain ⟨q0, q1, q2, q3, q4, q5, q6, q7⟩ := (HY6.out.below hb7).eight
    have hsm := sameE_refl ⟨⟨y1, y2, y3, y4, y5⟩, y6, y7, y8⟩
    clear hb7
    rcases is with _ | _
    all_goals
      go_wp2
      go_ret
      exact ⟨rfl, HB7.out⟩

end Go.Proofs.Ytondjponengedaa
