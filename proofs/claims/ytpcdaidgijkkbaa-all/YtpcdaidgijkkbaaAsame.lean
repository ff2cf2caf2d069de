/-
  What the reference's Same does.
-/
import Derived.Test.YtpcdaidgijkkbaaAdecb
namespace Go.Proofs.Ytpcdaidgijkkbaa
open Go.RowKit
set_option linter.unusedVariables false
set_option maxRecDepth 40000

/-- Do two advertisements say the same. -/
def sameB (i p e : Int) (ss : List ByteArray) (i' p' e' : Int) (ss' : List ByteArray) : Bool := decide (i = i' ∧ p = p' ∧ e = e' ∧ ss = ss')
theorem str_ne (s t : ByteArray) : (s.toList == t.toList) = decide (s = t) := by
  by_cases h : s = t
  · subst h; simp
  · rw [decide_eq_false h, beq_eq_false_iff_ne]
    intro e
    exact h (by
      have := congrArg (fun l => (⟨l.toArray⟩ : ByteArray)) e
      rw [ByteArray.ext_iff]
      have h1 : s.data.toList = t.data.toList := by simpa [ByteArray.toList_eq] using e
      exact Array.toList_inj.1 h1)

def SRel (W : World) (ss ss' : List ByteArray) (n gg : Nat) (i : Value) (wr : World) : Prop :=
  ∃ k q : Nat, k + gg = n ∧ i = .int .i64 (k : Int) ∧ (∀ j, j < k → ss[j]? = ss'[j]?) ∧ wr = W.drewN q

section
variable {i p e i' p' e' : Int} {A A' : Option Addr} {n c n' c' : Nat} {ss ss' : List ByteArray} {w : World} {r : Bool}

set_option maxHeartbeats 1000000 in
theorem same_no (hr : sameB i p e ss i' p' e' ss' = r) (hl : ss.length = n) (hl' : ss'.length = n') (h : ¬ (i = i' ∧ p = p' ∧ e = e' ∧ n = n')) :
    Calls Try.prog 40 #[.agg #[.int .i64 i, .int .i64 p, .int .i64 e, .slice A n c], .agg #[.int .i64 i', .int .i64 p', .int .i64 e', .slice A' n' c']] w fun r' w' => r' = .returned (.bool r) ∧ Below w.heap.size w w' := by
  have HR : Hid (false = r) := Lib.hid (by
    rw [← hr]; symm
    rw [sameB, decide_eq_false_iff_not]
    rintro ⟨h1, h2, h3, h4⟩
    exact h ⟨h1, h2, h3, by rw [← hl, ← hl', h4]⟩)
  clear hr hl hl'
  by_cases b1 : i = i'
  · by_cases b2 : p = p'
    · by_cases b3 : e = e'
      · have b4 : n ≠ n' := fun h4 => h ⟨b1, b2, b3, h4⟩
        have c1 : (i != i') = false := by simpa using b1
        have c2 : (p != p') = false := by simpa using b2
        have c3 : (e != e') = false := by simpa using b3
        have c4 : ((n : Int) != (n' : Int)) = true := by simp; omega
        clear h b1 b2 b3 b4
        go_enter Try.func40, Try.ntmps40
        go_wp2
        go_ret
        exact ⟨ret_bool HR.out, ((Below.refl _ _).alloc (Nat.le_refl _) _).alloc (by simp) _⟩
      · have c1 : (i != i') = false := by simpa using b1
        have c2 : (p != p') = false := by simpa using b2
        have c3 : (e != e') = true := by simpa using b3
        clear h b1 b2 b3
        go_enter Try.func40, Try.ntmps40
        go_wp2
        go_ret
        exact ⟨ret_bool HR.out, ((Below.refl _ _).alloc (Nat.le_refl _) _).alloc (by simp) _⟩
    · have c1 : (i != i') = false := by simpa using b1
      have c2 : (p != p') = true := by simpa using b2
      clear h b1 b2
      go_enter Try.func40, Try.ntmps40
      go_wp2
      go_ret
      exact ⟨ret_bool HR.out, ((Below.refl _ _).alloc (Nat.le_refl _) _).alloc (by simp) _⟩
  · have c1 : (i != i') = true := by simpa using b1
    clear h b1
    go_enter Try.func40, Try.ntmps40
    go_wp2
    go_ret
    exact ⟨ret_bool HR.out, ((Below.refl _ _).alloc (Nat.le_refl _) _).alloc (by simp) _⟩

set_option maxHeartbeats 2000000 in
theorem same_yes (hS : Strs w A n c ss) (hS' : Strs w A' n c' ss') (hn : n ≤ 140737488351232) (hr : sameB i p e ss i p e ss' = r) :
    Calls Try.prog 40 #[.agg #[.int .i64 i, .int .i64 p, .int .i64 e, .slice A n c], .agg #[.int .i64 i, .int .i64 p, .int .i64 e, .slice A' n c']] w fun r' w' => r' = .returned (.bool r) ∧ Below w.heap.size w w' := by
  have HE : Hid (decide (ss = ss') = r) := Lib.hid (by rw [← hr]; simp [sameB])
  have HL := Lib.hid hS.1
  have HL' := Lib.hid hS'.1
  clear hr
  obtain ⟨W, hW⟩ : ∃ W, (w.alloc (.cells #[.int .i64 i, .int .i64 p, .int .i64 e, .slice A n c] 39)).alloc (.cells #[.int .i64 i, .int .i64 p, .int .i64 e, .slice A' n c'] 39) = W := ⟨_, rfl⟩
  have HS : Hid (Strs W A n c ss) := Lib.hid (by rw [← hW]; exact (hS.alloc _).alloc _)
  have HS' : Hid (Strs W A' n c' ss') := Lib.hid (by rw [← hW]; exact (hS'.alloc _).alloc _)
  have HB : Hid (Below w.heap.size w W) := Lib.hid (by rw [← hW]; exact ((Below.refl _ _).alloc (Nat.le_refl _) _).alloc (by simp) _)
  have a3 : W.cell? ⟨w.heap.size, 3, none⟩ = some (.slice A n c) := by rw [← hW]; simp [go_sem]
  have a4 : W.cell? ⟨w.heap.size + 1, 3, none⟩ = some (.slice A' n c') := by rw [← hW]; simp [go_sem]
  have A3 := Lib.hid a3
  have A4 := Lib.hid a4
  have HW := Lib.hid hW
  clear hS hS' hW a3 a4
  go_enter Try.func40, Try.ntmps40
  go_wp2
  rw [HW.out]
  have a3 := A3.out
  have a4 := A4.out
  clear HW A3 A4
  go_loopg [5] n (fun gg x wr => SRel W ss ss' n gg x wr)
  case atStart => exact ⟨0, 0, by omega, rfl, by simp, rfl⟩
  case round =>
    obtain ⟨k, q, hk, rfl, hall, rfl⟩ := hrel
    have HA := Lib.hid hall
    clear hall
    have a3' : (W.drewN q).cell? ⟨w.heap.size, 3, none⟩ = some (.slice A n c) := a3
    have a4' : (W.drewN q).cell? ⟨w.heap.size + 1, 3, none⟩ = some (.slice A' n c') := a4
    by_cases hlt : k < n
    · have hk1 : k < ss.length := by rw [HL.out]; exact hlt
      have hk2 : k < ss'.length := by rw [HL'.out]; exact hlt
      obtain ⟨s, hs⟩ : ∃ s, ss[k]? = some s := ⟨_, List.getElem?_eq_getElem hk1⟩
      obtain ⟨t, ht⟩ : ∃ s, ss'[k]? = some s := ⟨_, List.getElem?_eq_getElem hk2⟩
      obtain ⟨b, off, rfl, hc⟩ := HS.out.2.2.2.2 (by omega)
      obtain ⟨b', off', rfl, hc'⟩ := HS'.out.2.2.2.2 (by omega)
      have c1 : W.cell? ⟨b, off + k, none⟩ = some (.string s) := hc k s hs
      have c2 : W.cell? ⟨b', off' + k, none⟩ = some (.string t) := hc' k t ht
      have hkn : (k : Int) < (n : Int) := by omega
      have HH := Lib.hid (And.intro hs ht)
      clear hc hc' hk1 hk2 hs ht
      by_cases he : s = t
      · have e1 : (s.toList == t.toList) = true := by rw [str_ne]; simpa using he
        have HQ := Lib.hid he
        clear he
        go_wp2
        go_quiet (fail)
        go_wp2
        go_roundg (n - (k + 1))
        case measure => omega
        case rel =>
          refine ⟨k + 1, _, by omega, by simp, ?_, rfl⟩
          intro j hj
          by_cases hjk : j = k
          · rw [hjk, HH.out.1, HH.out.2, HQ.out]
          · exact HA.out j (by omega)
      · have e1 : (s.toList == t.toList) = false := by rw [str_ne]; simpa using he
        have HQ := Lib.hid he
        clear he
        go_wp2
        go_quiet (fail)
        go_wp2
        go_ret
        refine ⟨ret_bool ?_, ?_⟩
        · rw [← HE.out]; symm
          rw [decide_eq_false_iff_not]
          intro h
          have h1 := HH.out.1
          rw [h, HH.out.2] at h1
          exact HQ.out (Option.some.inj h1).symm
        · exact below_drewN (below_drewN HB.out _) _
    · have hkn : ¬ ((k : Int) < (n : Int)) := by omega
      go_wp2
      go_ret
      refine ⟨ret_bool ?_, below_drewN HB.out _⟩
      rw [← HE.out]; symm
      rw [decide_eq_true_iff]
      apply List.ext_getElem?
      intro j
      by_cases hj : j < k
      · exact HA.out j hj
      · rw [List.getElem?_eq_none (by rw [HL.out]; omega), List.getElem?_eq_none (by rw [HL'.out]; omega)]

/-- The reference's Same. -/
theorem same_at (hS : Strs w A n c ss) (hS' : Strs w A' n' c' ss') (hn : n ≤ 140737488351232) (hr : sameB i p e ss i' p' e' ss' = r) :
    Calls Try.prog 40 #[.agg #[.int .i64 i, .int .i64 p, .int .i64 e, .slice A n c], .agg #[.int .i64 i', .int .i64 p', .int .i64 e', .slice A' n' c']] w fun r' w' => r' = .returned (.bool r) ∧ Below w.heap.size w w' := by
  by_cases h : i = i' ∧ p = p' ∧ e = e' ∧ n = n'
  · obtain ⟨rfl, rfl, rfl, rfl⟩ := h
    exact same_yes hS hS' hn hr
  · exact same_no hr hS.1 hS'.1 h
end

end Go.Proofs.Ytpcdaidgijkkbaa
