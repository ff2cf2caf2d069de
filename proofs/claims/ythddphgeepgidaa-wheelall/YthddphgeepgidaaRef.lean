/-
  The reference's small functions: without, When, Next.
-/
import Derived.Test.YthddphgeepgidaaCancel
import Derived.Test.YthddphgeepgidaaClos
namespace Go.Proofs.Ythddphgeepgidaa
open Go.RowKit Go.Maps
set_option linter.unusedVariables false
set_option linter.unusedSimpArgs false
set_option maxRecDepth 10000

theorem woutI_next (L : List Tm) (x : Int) {k : Nat} (h : k < L.length) : woutI (L.take (k + 1)) x = woutI (L.take k) x ++ (if ((L[k]!).id : Int) = x then [] else [L[k]!]) := by
  rw [List.take_add_one, List.getElem?_eq_getElem h, getElem!_pos L k h, Option.toList_some]
  unfold woutI
  rw [List.filter_append]
  congr 1
  by_cases e : ((L[k]).id : Int) = x
  · simp [e]
  · simp [e]

def WoRel (w : World) (L : List Tm) (x : Int) (n gg : Nat) (s5 s6 : Value) (wr : World) : Prop :=
  ∃ k : Nat, k + gg = n ∧ s6 = .int .i64 k ∧ wr.ownsRow w.heap.size 58 2 s5 (woutI (L.take k) x).length (tcells (woutI (L.take k) x)) ∧ Below w.heap.size w wr

theorem rrow_at {w : World} {base n g c : Nat} {l : List Tm} (h : w.ownsRow base 58 2 (.slice (some ⟨g, 0, none⟩) n c) n (tcells l)) {i : Nat} (hi : i < n) :
    w.cell? ⟨g, i * 2, none⟩ = some (.int .i64 (l[i]!).id) ∧ w.cell? ⟨g, i * 2 + 1, none⟩ = some (.int .i64 (l[i]!).at_) := by
  have hl : l.length = n := by have := h.1; rw [tcells_len] at this; omega
  obtain ⟨h0, h1⟩ := tcells_at l i (by omega)
  rw [h.cellAt (i * 2) (by omega), h.cellAt (i * 2 + 1) (by omega)]
  exact ⟨h0, h1⟩

set_option maxHeartbeats 1000000 in
theorem without_any {w : World} {base : Nat} {v : Value} {L : List Tm} {x : Int} (hrow : w.ownsRow base 58 2 v L.length (tcells L)) (hlen : L.length ≤ 1000) :
    Calls Try.prog 36 #[v, .int .i64 x] w fun e w' => ∃ v', e = .returned v' ∧ w'.ownsRow w.heap.size 58 2 v' (woutI L x).length (tcells (woutI L x)) ∧ Below w.heap.size w w' := by
  obtain ⟨a, c, rfl, hnc, -⟩ := row_any hrow
  obtain ⟨n, hn⟩ : ∃ n, n = L.length := ⟨_, rfl⟩
  rw [← hn] at hrow hnc hlen ⊢
  have HROW := Lib.hid hrow
  have HN := Lib.hid hn
  clear hrow hn
  obtain ⟨i0, hi, hz0, hz1, hz2⟩ := info_parts info58
  go_enter Try.func36, Try.ntmps36
  go_wp2
  go_loopg [5, 6] n (fun gg s5 s6 wr => Hid (WoRel w L x n gg s5 s6 wr))
  case atStart => exact Lib.hid ⟨0, by omega, rfl, by simpa [woutI, tcells] using World.ownsRow_nil w w.heap.size 58 2, Below.refl _ _⟩
  case round =>
    obtain ⟨k, hk, rfl, hout, hb⟩ := hrel.out
    clear hrel
    by_cases hlt : k < n
    · have hltz : (k : Int) < (n : Int) := by omega
      have hr := row_below (HROW.out) (show Below w.heap.size w wr from hb)
      obtain ⟨g, c', e, _⟩ := row_slice hr (by omega)
      simp only [Value.slice.injEq, true_and] at e
      obtain ⟨rfl, rfl⟩ := e
      obtain ⟨d0, d1⟩ := rrow_at hr hlt
      have hnx := woutI_next L x (k := k) (by rw [← HN.out]; exact hlt)
      generalize L[k]! = t at d0 d1 hnx
      obtain ⟨ti, ta⟩ := t
      simp only at d0 d1 hnx
      have HB := Lib.hid hb
      have hsz := hb.size
      clear hr hb
      by_cases hx : (ti : Int) = x
      · rw [if_pos hx, List.append_nil] at hnx
        have HNX := Lib.hid hnx
        have HO := Lib.hid hout
        have hxb : ((ti : Int) != x) = false := by simp [hx]
        clear hnx hout
        subst hx
        go_wp2
        go_roundg (n - (k + 1))
        case measure => omega
        case rel => exact Lib.hid ⟨k + 1, by omega, by go_num, by rw [HNX.out]; exact HO.out, HB.out⟩
      · rw [if_neg hx] at hnx
        have HNX := Lib.hid hnx
        have hxb : ((ti : Int) != x) = true := by simp [hx]
        have hol : (woutI (L.take k) x).length ≤ 1000 := Nat.le_trans (woutI_len _ _) (by rw [List.length_take]; omega)
        have HR := Lib.hid (World.ownsRow.alloc hout (.cells #[.int .i64 (ti : Int), .int .i64 (ta : Int)] 58))
        clear hnx hout
        generalize hm : (woutI (L.take k) x).length = m at HR hol
        have HM := Lib.hid hm
        clear hm
        go_wp2_with (at_builtin; refine wpList_append_own _ rfl _ _ 26 rfl w.heap.size 58 i0 _ 2 16 Try.underlying26 hi hz0 hz1 hz2 rfl (by decide) _ m _ rfl HR.out ⟨wr.heap.size, 0, none⟩ 1 1 [.int .i64 (ti : Int), .int .i64 (ta : Int)] rfl rfl (cell_two_at _ _ _ rfl) (by intro u hu; simp at hu; rcases hu with rfl | rfl <;> rfl) (by simp only [maxLen]; omega) (by omega) (by simp; omega) ?_; intro v1 w1 hown1 hgrow1 hnil1)
        go_roundg (n - (k + 1))
        case measure => omega
        case rel =>
          refine Lib.hid ⟨k + 1, by omega, by go_num, ?_, (HB.out.alloc (by omega) _).grown hgrow1 (by simp; omega) (fun j hj => (HR.out.lt j hj).1)⟩
          rw [HNX.out, tcells_app, List.length_append, HM.out]
          exact hown1
    · obtain rfl : k = n := by omega
      have he : L.take k = L := List.take_of_length_le (by rw [← HN.out]; exact Nat.le_refl _)
      rw [he] at hout
      go_wp2
      go_ret
      exact ⟨_, rfl, hout, hb⟩

/-- The reference's wheel, as a value. -/
def rv (now : Nat) (v : Value) : Value := .agg #[.int .i64 now, v]

set_option maxHeartbeats 1000000 in
theorem rwhen_any {w : World} {base now : Nat} {v : Value} {L : List Tm} {x : Int} (hrow : w.ownsRow base 58 2 v L.length (tcells L)) (hlen : L.length ≤ 1000) :
    Calls Try.prog 13 #[rv now v, .int .i64 x] w fun e w' => e = .returned (.tuple #[.int .i64 (((look L x).getD 0 : Nat) : Int), .bool (look L x).isSome]) ∧ Below w.heap.size w w' := by
  obtain ⟨a, c, rfl, hnc, -⟩ := row_any hrow
  obtain ⟨n, hn⟩ : ∃ n, n = L.length := ⟨_, rfl⟩
  rw [← hn] at hrow hnc hlen ⊢
  have HROW := Lib.hid hrow
  have HN := Lib.hid hn
  obtain ⟨p, hp⟩ : ∃ p, ((look L x).getD 0 : Nat) = p := ⟨_, rfl⟩
  obtain ⟨q, hq⟩ : ∃ q, (look L x).isSome = q := ⟨_, rfl⟩
  have HPQ := Lib.hid (And.intro hp hq)
  rw [hp, hq]
  clear hrow hn hp hq
  obtain ⟨w0, hw0⟩ : ∃ W, W = w.alloc (.cells #[.int .i64 (now : Int), .slice a n c] 28) := ⟨_, rfl⟩
  have hb0 : Below w.heap.size w w0 := by rw [hw0]; exact below_alloc (Below.refl _ _) _
  have e1 : w0.cell? ⟨w.heap.size, 1, none⟩ = some (.slice a n c) := by rw [hw0]; simp [go_sem]
  have HB := Lib.hid hb0
  have HW := Lib.hid hw0
  have hr0 := row_below HROW.out hb0
  have HR0 := Lib.hid hr0
  clear hb0 hw0 hr0
  simp only [rv]
  go_enter Try.func13, Try.ntmps13
  go_wp2
  rw [← HW.out]
  go_loopg [6] n (fun gg s6 wr => (∃ k : Nat, k + gg = n ∧ s6 = .int .i64 k ∧ Hid (∀ j, j < k → ((L[j]!).id : Int) ≠ x)) ∧ wr = w0)
  case atStart => exact ⟨⟨0, by omega, rfl, Lib.hid (fun j hj => by omega)⟩, rfl⟩
  case round =>
    obtain ⟨⟨k, hk, rfl, hall⟩, hwr⟩ := hrel
    rw [hwr]
    clear hwr
    by_cases hlt : k < n
    · have hltz : (k : Int) < (n : Int) := by omega
      have hr := HR0.out
      obtain ⟨g, c', e, _⟩ := row_slice hr (by omega)
      simp only [Value.slice.injEq, true_and] at e
      obtain ⟨rfl, rfl⟩ := e
      obtain ⟨d0, d1⟩ := rrow_at hr hlt
      obtain ⟨t, ht⟩ : ∃ t, L[k]! = t := ⟨_, rfl⟩
      rw [ht] at d0 d1
      have HT := Lib.hid ht
      obtain ⟨ti, ta⟩ := t
      simp only at d0 d1
      clear hr ht
      by_cases hx : (ti : Int) = x
      · have hlk : look L x = some ta := by
          have hfd : L.find? (fun t => (t.id : Int) == x) = some ⟨ti, ta⟩ := by
            refine List.find?_eq_some_iff_getElem.2 ⟨by simp [hx], k, by rw [← HN.out]; exact hlt, ?_, fun j hj => ?_⟩
            · rw [← HT.out, getElem!_pos L k (by rw [← HN.out]; exact hlt)]
            · have := hall.out j hj
              rw [getElem!_pos L j (by rw [← HN.out]; omega)] at this
              simpa using this
          unfold look; rw [hfd]; rfl
        have hpp : ta = p := by have := HPQ.out.1; rw [hlk] at this; exact this
        have hqq : true = q := by have := HPQ.out.2; rw [hlk] at this; exact this
        subst hpp
        subst hqq
        subst hx
        clear HPQ hlk
        go_wp2
        try rw [Exit.noGoto_ret]
        go_ret2
        exact ⟨rfl, HB.out⟩
      · have hxb : ((ti : Int) == x) = false := by simpa using hx
        go_wp2
        go_roundg (n - (k + 1))
        case measure => omega
        case rel =>
          refine ⟨⟨k + 1, by omega, by go_num, Lib.hid fun j hj => ?_⟩, rfl⟩
          rcases (show j < k ∨ j = k by omega) with h | rfl
          · exact hall.out j h
          · rw [HT.out]; exact hx
    · obtain rfl : k = n := by omega
      have hlk : look L x = none := by
        unfold look
        rw [Option.map_eq_none_iff, List.find?_eq_none]
        intro t ht e
        obtain ⟨j, hj, rfl⟩ := List.getElem_of_mem ht
        have := hall.out j (by rw [HN.out]; exact hj)
        rw [getElem!_pos L j hj] at this
        exact this (by simpa using e)
      have hpp : 0 = p := by have := HPQ.out.1; rw [hlk] at this; exact this
      have hqq : false = q := by have := HPQ.out.2; rw [hlk] at this; exact this
      subst hpp
      subst hqq
      clear HPQ hlk
      go_wp2
      go_ret2
      exact ⟨rfl, HB.out⟩

set_option maxHeartbeats 1000000 in
theorem rnext_any {w : World} {base now : Nat} {v : Value} {L : List Tm} (hrow : w.ownsRow base 58 2 v L.length (tcells L)) (hlen : L.length ≤ 1000) :
    Calls Try.prog 23 #[rv now v] w fun e w' => e = .returned (.tuple #[.int .i64 (nx L), .bool (nb L)]) ∧ Below w.heap.size w w' := by
  cases L with
  | nil =>
    obtain ⟨a, c, rfl, hnc, -⟩ := row_any hrow
    simp only [rv, nx, nb, List.length_nil]
    clear hrow hnc hlen
    go_enter Try.func23, Try.ntmps23
    go_wp2
    go_ret2
    exact ⟨rfl, below_alloc (Below.refl _ _) _⟩
  | cons t r =>
    obtain ⟨g, c, rfl, hnc, _, _, hgl⟩ := row_slice hrow (by simp)
    obtain ⟨d0, d1⟩ := rrow_at hrow (i := 0) (by simp)
    simp only [List.getElem!_cons_zero, Nat.zero_mul, Nat.zero_add] at d0 d1
    simp only [rv, nx, nb]
    have hne : ¬ (((t :: r).length : Int) = 0) := by simp; omega
    generalize (t :: r).length = n at *
    obtain ⟨ti, ta⟩ := t
    simp only at d0 d1 ⊢
    have hpos : 0 < n := by omega
    clear hrow
    go_enter Try.func23, Try.ntmps23
    go_wp2
    go_ret2
    exact ⟨rfl, below_alloc (Below.refl _ _) _⟩

end Go.Proofs.Ythddphgeepgidaa
