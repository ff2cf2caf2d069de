/-
  The reference's small functions: without, When, Next.
-/
import Derived.Test.YtkcndgiiangmjaaCancel
import Derived.Test.YtkcndgiiangmjaaClos
namespace Go.Proofs.Ytkcndgiiangmjaa
open Go.RowKit Go.Maps
set_option linter.unusedVariables false
set_option linter.unusedSimpArgs false
set_option maxRecDepth 10000

theorem woutI_next (L : List Tm) (x : Int) {k : Nat} (h : k < L.length) : woutI (L.take (k + 1)) x = woutI (L.take k) x ++ (if ((L[k]!).id : Int) = x then [] else [L[k]!]) := by
  rw [List.take_add_one, List.getElem?_eq_getElem h, getElem!_pos L k h, Option.toList_some]
  unfold woutI
  rw [List.filter_append]
  congr 1
  by_cases e : ((L[k]).id : Int) = x
  · simp [e]
  · simp [e]

def WoRel (w : World) (L : List Tm) (x : Int) (n gg : Nat) (s5 s6 : Value) (wr : World) : Prop :=
  ∃ k : Nat, k + gg = n ∧ s6 = .int .i64 k ∧ wr.ownsRow w.heap.size 93 2 s5 (woutI (L.take k) x).length (tcells (woutI (L.take k) x)) ∧ Below w.heap.size w wr

theorem rrow_at {w : World} {base n g c : Nat} {l : List Tm} (h : w.ownsRow base 93 2 (.slice (some ⟨g, 0, none⟩) n c) n (tcells l)) {i : Nat} (hi : i < n) :
    w.cell? ⟨g, i * 2, none⟩ = some (.int .i64 (l[i]!).id) ∧ w.cell? ⟨g, i * 2 + 1, none⟩ = some (.int .i64 (l[i]!).at_) := by
  have hl : l.length = n := by have := h.1; rw [tcells_len] at this; omega
  obtain ⟨h0, h1⟩ := tcells_at l i (by omega)
  rw [h.cellAt (i * 2) (by omega), h.cellAt (i * 2 + 1) (by omega)]
  exact ⟨h0, h1⟩

set_option maxHeartbeats 1000000 in
theorem without_any {w : World} {base : Nat} {v : Value} {L : List Tm} {x : Int} (hrow : w.ownsRow base 93 2 v L.length (tcells L)) (hlen : L.length ≤ 1000) :
    Calls Try.prog 37 #[v, .int .i64 x] w fun e w' => ∃ v', e = .returned v' ∧ w'.ownsRow w.heap.size 93 2 v' (woutI L x).length (tcells (woutI L x)) ∧ Below w.heap.size w w' := by
  obtain ⟨a, c, rfl, hnc, -⟩ := row_any hrow
  obtain ⟨n, hn⟩ : ∃ n, n = L.length := ⟨_, rfl⟩
  rw [← hn] at hrow hnc hlen ⊢
  have HROW := Lib.hid hrow
  have HN := Lib.hid hn
  clear hrow hn
  obtain ⟨i0, hi, hz0, hz1, hz2⟩ := info_parts info58
  go_enter Try.func37, Try.ntmps37
  go_wp2
  go_loopg [5, 6] n (fun gg s5 s6 wr => Hid (WoRel w L x n gg s5 s6 wr))
  case atStart => exact Lib.hid ⟨0, by omega, rfl, by simpa [woutI, tcells] using World.ownsRow_nil w w.heap.size 93 2, Below.refl _ _⟩
  case round =>
    obtain ⟨k, hk, rfl, hout, hb⟩ := hrel.out
    clear hrel
    by_cases hlt : k < n
    · have hltz : (k : Int) < (n : Int) := by omega
      have hr := row_below (HROW.out) (show Below w.heap.size w wr from hb)
      obtain ⟨g, c', e, _⟩ := row_slice hr (by omega)
      simp only [Value.slice.injEq, true_and] at e
      obtain ⟨rfl, rfl⟩ := e
      obtain ⟨d0, d1⟩ := rrow_at hr hlt
      have hnx := woutI_next L x (k := k) (by rw [← HN.out]; exact hlt)
      generalize L[k]! = t at d0 d1 hnx
      obtain ⟨ti, ta⟩ := t
      simp only at d0 d1 hnx
      have HB := Lib.hid hb
      have hsz := hb.size
      clear hr hb
      by_cases hx : (ti : Int) = x
      · rw [if_pos hx, List.append_nil] at hnx
        have HNX := Lib.hid hnx
        have HO := Lib.hid hout
        have hxb : ((ti : Int) != x) = false := by simp [hx]
        clear hnx hout
        subst hx
        go_wp2
        go_roundg (n - (k + 1))
        case measure => omega
        case rel => exact Lib.hid ⟨k + 1, by omega, by go_num, by rw [HNX.out]; exact HO.out, HB.out⟩
      · rw [if_neg hx] at hnx
        have HNX := Lib.hid hnx
        have hxb : ((ti : Int) != x) = true := by simp [hx]
        have hol : (woutI (L.take k) x).length ≤ 1000 := Nat.le_trans (woutI_len _ _) (by rw [List.length_take]; omega)
        have HR := Lib.hid (World.ownsRow.alloc hout (.cells #[.int .i64 (ti : Int), .int .i64 (ta : Int)] 93))
        clear hnx hout
        generalize hm : (woutI (L.take k) x).length = m at HR hol
        have HM := Lib.hid hm
        clear hm
        go_wp2_with (at_builtin; refine wpList_append_own _ rfl _ _ 44 rfl w.heap.size 93 i0 _ 2 16 Try.underlying44 hi hz0 hz1 hz2 rfl (by decide) _ m _ rfl HR.out ⟨wr.heap.size, 0, none⟩ 1 1 [.int .i64 (ti : Int), .int .i64 (ta : Int)] rfl rfl (cell_two_at _ _ _ rfl) (by intro u hu; simp at hu; rcases hu with rfl | rfl <;> rfl) (by simp only [maxLen]; omega) (by omega) (by simp; omega) ?_; intro v1 w1 hown1 hgrow1 hnil1)
        go_roundg (n - (k + 1))
        case measure => omega
        case rel =>
          refine Lib.hid ⟨k + 1, by omega, by go_num, ?_, (HB.out.alloc (by omega) _).grown hgrow1 (by simp; omega) (fun j hj => (HR.out.lt j hj).1)⟩
          rw [HNX.out, tcells_app, List.length_append, HM.out]
          exact hown1
    · obtain rfl : k = n := by omega
      have he : L.take k = L := List.take_of_length_le (by rw [← HN.out]; exact Nat.le_refl _)
      rw [he] at hout
      go_wp2
      go_ret
      exact ⟨_, rfl, hout, hb⟩

/-- The reference's wheel, as a value. -/
def rv (now : Nat) (v : Value) : Value := .agg #[.int .i64 now, v]

end Go.Proofs.Ytkcndgiiangmjaa
