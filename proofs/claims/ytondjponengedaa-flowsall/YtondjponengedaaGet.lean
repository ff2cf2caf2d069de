/-
  Table.Get.
-/
import Derived.Test.YtondjponengedaaNew
namespace Go.Proofs.Ytondjponengedaa
open Go.RowKit
set_option linter.unusedVariables false
set_option linter.unusedSimpArgs false
set_option maxRecDepth 10000

/-- A box: a block of just these cells. -/
def Bx (w : World) (b : Nat) (t : TypeId) (vs : List Value) : Prop := w.heap[b]? = some (.cells vs.toArray t (0, 0))
theorem Bx.below {w w' : World} {b : Nat} {t : TypeId} {vs : List Value} (h : Bx w b t vs) (hb : Below w.heap.size w w') : Bx w' b t vs := (hb.block b (Array.getElem?_eq_some_iff.1 h).1).trans h
theorem Bx.only {w w' : World} {F : Nat → Prop} {b : Nat} {t : TypeId} {vs : List Value} (h : Bx w b t vs) (hb : Only F w w') (hF : ¬ F b) : Bx w' b t vs := (hb.block b (Array.getElem?_eq_some_iff.1 h).1 hF).trans h
theorem Bx.lt {w : World} {b : Nat} {t : TypeId} {vs : List Value} (h : Bx w b t vs) : b < w.heap.size := (Array.getElem?_eq_some_iff.1 h).1
theorem Bx.new (w : World) (vs : List Value) (t : TypeId) : Bx (w.alloc (.cells vs.toArray t)) w.heap.size t vs := heap_alloc_new _ _
theorem Bx.alloc {w : World} {b : Nat} {t : TypeId} {vs : List Value} (h : Bx w b t vs) (o : Obj) : Bx (w.alloc o) b t vs := h.below (below_alloc (Below.refl _ _) o)
theorem Bx.cell {w : World} {b : Nat} {t : TypeId} {vs : List Value} (h : Bx w b t vs) (j : Nat) : w.cell? ⟨b, j, none⟩ = vs[j]? := by
  rw [cell_of_row w b j vs.toArray t (0, 0) h]; simp
theorem Bx.free {w : World} {b : Nat} {t : TypeId} {vs : List Value} (h : Bx w b t vs) (j : Nat) : w.frozen? ⟨b, j, none⟩ = false := frozen_of_row w b j vs.toArray t h

theorem store_box {W : World} {b : Nat} {t tt : TypeId} {cur : List Value} (hb : Bx W b tt cur) (vs : List Value) (n : Nat) (hl : cur.length = n) (hv : vs.length = n) (h1 : ∀ v ∈ vs, v.oneCell' = true) (hs : (sizeOf t).run Try.prog W = .ok n W) :
    (bigS t ⟨b, 0, none⟩ (.agg vs.toArray)).run Try.prog W = .ok () (W.setCells b 0 vs) ∧ Bx (W.setCells b 0 vs) b tt vs ∧ Only (· = b) W (W.setCells b 0 vs) := by
  refine ⟨?_, ?_, setCells_only b 0 vs W⟩
  · have hr := run_storeCells_cells (P := Try.prog) b 0 vs 0 W (fun j hj => by
      rw [show 0 + 0 + j = j by omega, hb.cell j, List.getElem?_eq_getElem (by omega)]; rfl) (fun j hj => hb.free _) h1
    have hc : (Value.agg vs.toArray).cells = vs.toArray := rfl
    unfold bigS storeVar
    rw [hc]
    simp [hs, hr, hv]
  · have := setCells_heap hb 0 vs (by simp; omega)
    unfold Bx
    rw [this]
    unfold splice
    congr 2
    simp
    omega

theorem EnAt.flat {w : World} {B o : Nat} {e : En} (h : EnAt w B (o + 1) e) : w.cell? ⟨B, o + 1, none⟩ = some (.int .i64 e.fl.proto) ∧ w.cell? ⟨B, o + 2, none⟩ = some (.string e.fl.frm) ∧ w.cell? ⟨B, o + 3, none⟩ = some (.string e.fl.to_) ∧ w.cell? ⟨B, o + 4, none⟩ = some (.int .i64 e.fl.port) ∧ w.cell? ⟨B, o + 5, none⟩ = some (.int .i64 e.fl.dest) ∧
  w.cell? ⟨B, o + 6, none⟩ = some (.int .i64 e.bk) ∧ w.cell? ⟨B, o + 7, none⟩ = some (.int .i64 e.st) ∧ w.cell? ⟨B, o + 8, none⟩ = some (.int .i64 e.ends) := h

/-- A struct's box is written: an entry's. -/
theorem store39 {W : World} {b : Nat} {tt : TypeId} {cur : List Value} (hb : Bx W b tt cur) (hl : cur.length = 8) (x1 x4 x5 x6 x7 x8 : Int) (x2 x3 : ByteArray) :
    ∃ W', (bigS 39 ⟨b, 0, none⟩ (.agg #[.int .i64 x1, .string x2, .string x3, .int .i64 x4, .int .i64 x5, .int .i64 x6, .int .i64 x7, .int .i64 x8])).run Try.prog W = .ok () W' ∧ Bx W' b tt [.int .i64 x1, .string x2, .string x3, .int .i64 x4, .int .i64 x5, .int .i64 x6, .int .i64 x7, .int .i64 x8] ∧ Only (· = b) W W' := by
  obtain ⟨h1, h2, h3⟩ := store_box (t := 39) hb (ecs ⟨⟨x1, x2, x3, x4, x5⟩, x6, x7, x8⟩) 8 hl rfl (ecs_one _) (Try.sizeOf39 W)
  exact ⟨_, h1, h2, h3⟩
theorem store42 {W : World} {b : Nat} {tt : TypeId} {cur : List Value} (hb : Bx W b tt cur) (hl : cur.length = 8) (x1 x4 x5 x6 x7 x8 : Int) (x2 x3 : ByteArray) :
    ∃ W', (bigS 42 ⟨b, 0, none⟩ (.agg #[.int .i64 x1, .string x2, .string x3, .int .i64 x4, .int .i64 x5, .int .i64 x6, .int .i64 x7, .int .i64 x8])).run Try.prog W = .ok () W' ∧ Bx W' b tt [.int .i64 x1, .string x2, .string x3, .int .i64 x4, .int .i64 x5, .int .i64 x6, .int .i64 x7, .int .i64 x8] ∧ Only (· = b) W W' := by
  obtain ⟨h1, h2, h3⟩ := store_box (t := 42) hb (ecs ⟨⟨x1, x2, x3, x4, x5⟩, x6, x7, x8⟩) 8 hl rfl (ecs_one _) (Try.sizeOf42 W)
  exact ⟨_, h1, h2, h3⟩
theorem Bx.eight {w : World} {b : Nat} {t : TypeId} {v0 v1 v2 v3 v4 v5 v6 v7 : Value} (h : Bx w b t [v0, v1, v2, v3, v4, v5, v6, v7]) : w.cell? ⟨b, 0, none⟩ = some v0 ∧ w.cell? ⟨b, 1, none⟩ = some v1 ∧ w.cell? ⟨b, 2, none⟩ = some v2 ∧ w.cell? ⟨b, 3, none⟩ = some v3 ∧ w.cell? ⟨b, 4, none⟩ = some v4 ∧ w.cell? ⟨b, 5, none⟩ = some v5 ∧ w.cell? ⟨b, 6, none⟩ = some v6 ∧ w.cell? ⟨b, 7, none⟩ = some v7 :=
  ⟨h.cell 0, h.cell 1, h.cell 2, h.cell 3, h.cell 4, h.cell 5, h.cell 6, h.cell 7⟩
theorem bigS39 (a : Addr) (v : Value) : storeVar 39 a v = bigS 39 a v := rfl
theorem bigS42 (a : Addr) (v : Value) : storeVar 42 a v = bigS 42 a v := rfl
attribute [local go_sem ↓] bigS39
theorem only_below {w W W' : World} {b : Nat} (h : Below w.heap.size w W) (ho : Only (· = b) W W') (hb : w.heap.size ≤ b) : Below w.heap.size w W' :=
  h.trans (ho.below h.size fun i hi => by omega)

set_option maxHeartbeats 2000000 in
theorem get_any {w : World} {B : Nat} {k : List Int} {L : List En} (h : Ta w B k L) (f : Fl) (hf : OkF f) : Calls Try.prog 16 #[.pointer (some ⟨B, 0, none⟩), fv f] w fun e w' => e = .returned (.tuple #[ev (gotE L f), .bool (getF L f).isSome]) ∧ Below w.heap.size w w' := by
  obtain ⟨pl, h⟩ := h
  have hlt := h.tb.lt
  have HF := Lib.hid (fun W (hb : Below w.heap.size w W) => (h.below hb).find f hf)
  have HT := Lib.hid (fun W (hb : Below w.heap.size w W) => h.tb.below hb)
  unfold gotE
  rcases hg : getF L f with _ | x
  · rw [hg] at HF
    clear h
    obtain ⟨p, ff, t, o, d⟩ := f
    simp only [fv] at HF ⊢
    simp only [Option.isSome_none] at HF
    have hb0 : Below w.heap.size w ((w.alloc (.cells #[.int .i64 p, .string ff, .string t, .int .i64 o, .int .i64 d] 37)).alloc (.cells #[.int .i64 0, .string ByteArray.empty, .string ByteArray.empty, .int .i64 0, .int .i64 0, .int .i64 0, .int .i64 0, .int .i64 0] 39)) := below_alloc (below_alloc (Below.refl _ _) _) _
    have HB0 := Lib.hid hb0
    clear hb0
    go_enter Try.func16, Try.ntmps16
    go_wp2_with fail
    refine (HF.out _ HB0.out).mono ?_
    rintro e w1 ⟨a, rfl, ha, -, -, -, hb1⟩
    have HB1 := Lib.hid (below_then HB0.out HB0.out.size hb1)
    have hbx : Bx w1 (w.heap.size + 1) 39 [.int .i64 0, .string ByteArray.empty, .string ByteArray.empty, .int .i64 0, .int .i64 0, .int .i64 0, .int .i64 0, .int .i64 0] := by
      have := (Bx.new (w.alloc (.cells #[.int .i64 p, .string ff, .string t, .int .i64 o, .int .i64 d] 37)) [.int .i64 0, .string ByteArray.empty, .string ByteArray.empty, .int .i64 0, .int .i64 0, .int .i64 0, .int .i64 0, .int .i64 0] 39).below hb1
      rwa [World.size_alloc] at this
    clear hb1
    obtain ⟨w2, hst, hbx2, ho2⟩ := store39 hbx rfl 0 0 0 0 0 0 { data := #[] } { data := #[] }
    obtain ⟨c0, c1, c2, c3, c4, c5, c6, c7⟩ := hbx2.eight
    have HB2 := Lib.hid (only_below HB1.out ho2 (Nat.le_succ _))
    clear ho2 hbx2 hbx
    go_wp2
    exact bodyPost_ret (v := .tuple #[.agg #[.int .i64 0, .string { data := #[] }, .string { data := #[] }, .int .i64 0, .int .i64 0, .int .i64 0, .int .i64 0, .int .i64 0], .bool false]) (by simp [results, Try.results16, go_sem, c0, c1, c2, c3, c4, c5, c6, c7]) rfl ⟨rfl, HB2.out⟩
  · rw [hg] at HF
    clear h
    obtain ⟨p, ff, t, o, d⟩ := f
    simp only [fv] at HF ⊢
    simp only [Option.isSome_some] at HF
    have hb0 : Below w.heap.size w ((w.alloc (.cells #[.int .i64 p, .string ff, .string t, .int .i64 o, .int .i64 d] 37)).alloc (.cells #[.int .i64 0, .string ByteArray.empty, .string ByteArray.empty, .int .i64 0, .int .i64 0, .int .i64 0, .int .i64 0, .int .i64 0] 39)) := below_alloc (below_alloc (Below.refl _ _) _) _
    have HB0 := Lib.hid hb0
    clear hb0
    go_enter Try.func16, Try.ntmps16
    go_wp2_with fail
    refine (HF.out _ HB0.out).mono ?_
    rintro e w1 ⟨a, rfl, ha, -, hsome, -, hb1⟩
    obtain ⟨h2, h3⟩ := hsome x rfl
    have HB1 := Lib.hid (below_then HB0.out HB0.out.size hb1)
    obtain ⟨d0, dd⟩ := (HT.out _ HB1.out).plc ha
    rw [h3] at dd
    obtain ⟨d1, d2, d3, d4, d5, d6, d7, d8⟩ := dd.flat
    have hbx : Bx w1 (w.heap.size + 1) 39 [.int .i64 0, .string ByteArray.empty, .string ByteArray.empty, .int .i64 0, .int .i64 0, .int .i64 0, .int .i64 0, .int .i64 0] := by
      have := (Bx.new (w.alloc (.cells #[.int .i64 p, .string ff, .string t, .int .i64 o, .int .i64 d] 37)) [.int .i64 0, .string ByteArray.empty, .string ByteArray.empty, .int .i64 0, .int .i64 0, .int .i64 0, .int .i64 0, .int .i64 0] 39).below hb1
      rwa [World.size_alloc] at this
    clear hb1 dd d0 h2 h3 hsome
    have haz : (a : Int) < 128 := by omega
    clear hg
    obtain ⟨⟨x1, x2, x3, x4, x5⟩, x6, x7, x8⟩ := x
    simp only at d1 d2 d3 d4 d5 d6 d7 d8
    obtain ⟨w2, hst, hbx2, ho2⟩ := store39 hbx rfl x1 x4 x5 x6 x7 x8 x2 x3
    obtain ⟨c0, c1, c2, c3, c4, c5, c6, c7⟩ := hbx2.eight
    have HB2 := Lib.hid (only_below HB1.out ho2 (Nat.le_succ _))
    clear ho2 hbx2 hbx
    go_wp2
    exact bodyPost_ret (v := .tuple #[.agg #[.int .i64 x1, .string x2, .string x3, .int .i64 x4, .int .i64 x5, .int .i64 x6, .int .i64 x7, .int .i64 x8], .bool true]) (by simp [results, Try.results16, go_sem, c0, c1, c2, c3, c4, c5, c6, c7]) rfl ⟨rfl, HB2.out⟩

end Go.Proofs.Ytondjponengedaa
