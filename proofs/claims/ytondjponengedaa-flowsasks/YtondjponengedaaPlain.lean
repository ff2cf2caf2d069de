/-
  The law's plain: entries, as the document's. What an answer is in memory.
-/
import Derived.Test.YtondjponengedaaAlive
import Derived.Test.YtondjponengedaaMframe
namespace Go.Proofs.Ytondjponengedaa
open Go.RowKit
set_option linter.unusedVariables false
set_option linter.unusedSimpArgs false
set_option maxRecDepth 10000

def PlRel (w : World) (base : Nat) (v0 : Value) (l : List En) (n gg : Nat) (s3 s8 : Value) (wr : World) : Prop :=
  ∃ i : Nat, i + gg = n ∧ s8 = .int .i64 i ∧ wr.ownsRow w.heap.size 42 8 s3 (l.take i).length (ecells (l.take i)) ∧ wr.ownsRow base 39 8 v0 n (ecells l) ∧ Below w.heap.size w wr

set_option maxHeartbeats 4000000 in
theorem plain_any {w : World} {base n : Nat} {v : Value} {l : List En} (hrow : w.ownsRow base 39 8 v n (ecells l)) (hn9 : n ≤ 1000) :
    Calls Try.prog 14 #[v] w fun e w' => ∃ v', e = .returned v' ∧ w'.ownsRow w.heap.size 42 8 v' l.length (ecells l) ∧ Below w.heap.size w w' := by
  have hl : l.length = n := by have := hrow.1; rw [ecells_len] at this; omega
  obtain ⟨va, vc, rfl, hnc, -⟩ := row_any hrow
  have HR0 := Lib.hid hrow
  have HL := Lib.hid hl
  clear hrow hl
  go_enter Try.func14, Try.ntmps14
  go_wp2
  go_loopg [3, 5, 8] n (fun gg s3 s5 s8 wr => Hid (PlRel w base (.slice va n vc) l n gg s3 s8 wr))
  case atStart => exact Lib.hid ⟨0, by omega, rfl, World.ownsRow_nil w w.heap.size 42 8, HR0.out, Below.refl _ _⟩
  case round =>
    obtain ⟨i, hi, rfl, hout, hrow, hb⟩ := hrel.out
    clear hrel
    by_cases hlt : i < n
    · have hltz : (i : Int) < (n : Int) := by omega
      obtain ⟨g, c', e, _⟩ := row_slice hrow (by omega)
      simp only [Value.slice.injEq, true_and] at e
      obtain ⟨rfl, rfl⟩ := e
      have hgW := (hrow.lt g rfl)
      obtain ⟨d0, d1, d2, d3, d4, d5, d6, d7⟩ := erow_at hrow hlt
      have hnx : l.take (i + 1) = l.take i ++ [l[i]!] := by
        rw [List.take_add_one, List.getElem?_eq_getElem (by rw [HL.out]; exact hlt), Option.toList_some, ← getElem!_pos l i (by rw [HL.out]; exact hlt)]
      have hle : (l.take i).length ≤ 1000 := by rw [List.length_take]; omega
      generalize l[i]! = x at d0 d1 d2 d3 d4 d5 d6 d7 hnx
      generalize l.take i = m at hnx hout hle
      have HNX := Lib.hid hnx
      have hb1 : Below wr.heap.size wr (wr.alloc (.cells (ecs x).toArray 39)) := below_alloc (Below.refl _ _) _
      have hb2 : Below wr.heap.size wr ((wr.alloc (.cells (ecs x).toArray 39)).alloc (.cells (ecs x).toArray 42)) := below_alloc hb1 _
      have hbx := Bx.new (wr.alloc (.cells (ecs x).toArray 39)) (ecs x) 42
      rw [World.size_alloc] at hbx
      have hw : Below w.heap.size w ((wr.alloc (.cells (ecs x).toArray 39)).alloc (.cells (ecs x).toArray 42)) := hb.trans (hb2.mono hb.size)
      obtain ⟨v3, w3, happ, hown, hgrow⟩ := append_r (row_below hout hb2) hbx hw.size (by omega) 27
      have HRUN := Lib.hid happ
      have HOWN := Lib.hid hown
      have HRW := Lib.hid hrow
      have HOT := Lib.hid hout
      have HG := Lib.hid hgrow
      have HBW := Lib.hid hw
      have HB2 := Lib.hid hb2
      clear happ hown hrow hgrow hw hb2 hb1 hbx hb hnx hout
      obtain ⟨⟨x1, x2, x3, x4, x5⟩, x6, x7, x8⟩ := x
      simp only [ecs] at HRUN d0 d1 d2 d3 d4 d5 d6 d7
      go_wp2_with (at_builtin; refine Lib.wpList_append_run _ rfl _ _ _ _ rfl _ _ rfl rfl _ _ HRUN.out ?_)
      go_roundg (n - (i + 1))
      case measure => omega
      case rel =>
        refine Lib.hid ⟨i + 1, by omega, by go_num, by rw [HNX.out]; exact HOWN.out, ?_, HBW.out.grown HG.out HBW.out.size (fun j hj => (HOT.out.lt j hj).1)⟩
        refine row_only (row_below HRW.out HB2.out) (Only.of_grown (F := fun j => u3.ownBlock = some j) HG.out fun j hj => hj) fun j hj hj2 => ?_
        have h1 := (HR0.out.lt j hj).2
        have h2 := (HOT.out.lt j hj2).1
        omega
    · obtain rfl : i = n := by omega
      rw [List.take_of_length_le (by rw [HL.out]; exact Nat.le_refl _)] at hout
      go_wp2
      go_ret
      exact ⟨_, rfl, hout, hb⟩

end Go.Proofs.Ytondjponengedaa
