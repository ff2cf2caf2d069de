/-
  How many places a backend has: Count.
-/
import Derived.Test.YtpkahjflhboddaaLook
import Derived.Deep.WholeRow
namespace Go.Proofs.Ytpkahjflhboddaa
open Go.RowKit
set_option linter.unusedVariables false
set_option maxRecDepth 10000

def vals (xs : List Int) : List Value := xs.map (Value.int .i64)
theorem vals_len (xs : List Int) : (vals xs).length = xs.length := by simp [vals]

theorem load_ints {w : World} {g off : Nat} {xs : List Int} (h : Ints w g off xs) {n : Nat} (hn : xs.length = n) : Sem.run Try.prog (loadCellsFrom ⟨g, off, none⟩ 0 n #[]) w = .ok (vals xs).toArray w := by
  subst hn
  have := run_loadCells_list (P := Try.prog) (w := w) ⟨g, off, none⟩ (vals xs) (fun j v hv => by
    have hj : j < xs.length := by
      rcases Nat.lt_or_ge j xs.length with hj | hj
      · exact hj
      · simp [vals, hj] at hv
    rw [add_plain, h.2 j hj, ← hv]
    simp [vals, hj])
  simpa [loadCells, vals] using this

theorem under55 : Try.prog.underlying 55 = some (.array 251 3) := by kernel_rfl
theorem load_ints_at {w : World} {g off : Nat} {xs : List Int} (h : Ints w g off xs) (hn : xs.length = 251) : Sem.run Try.prog (Instr.loadAt 55 (.pointer (some ⟨g, off, none⟩))) w = .ok (.agg (vals xs).toArray) w := by
  have h1 := load_ints h hn
  obtain ⟨i, hi, -, hz, -⟩ := info_parts (show (Try.prog.info? 55).map (fun i => (i.zero, i.size, i.bytes)) = some (some (.agg (Array.replicate 251 (.int .i64 0))), 251, 2008) by kernel_rfl)
  simp [Instr.loadAt, Instr.sureAddr, loadVar, isAgg, run_underlying under55, sizeOf, typeInfo, hi, hz, loadCells, h1]

/-- A load of a whole array, at which the walk stands. -/
def big (t : TypeId) (p : Value) : Sem Value := Instr.loadAt t p
theorem big55 (p : Value) : Instr.loadAt 55 p = big 55 p := rfl
attribute [local go_sem ↓] big55

def CRel (pl : List Int) (k : Int) (w : World) (gg : Nat) (s5 s12 : Value) (wr : World) : Prop :=
  ∃ j : Nat, j + gg = 251 ∧ s12 = .int .i64 j ∧ s5 = .int .i64 ((pl.take j).count k : Nat) ∧ wr = w

theorem index_vals {xs : List Int} {j : Nat} (hj : j < xs.length) (hl : xs.length = 251) (w : World) : Sem.run Try.prog (Instr.index 55 (.agg (vals xs).toArray) (.int .i64 j)) w = .ok (.int .i64 xs[j]!) w := by
  have hp : Sem.run Try.prog (part 3 (vals xs).toArray j) w = .ok (.int .i64 xs[j]!) w := by
    simp [part, isAgg, run_underlying Try.underlying3, vals, hj]
  obtain ⟨i, hi, -, hz, -⟩ := info_parts info3
  simp [Instr.index, asIntOf, run_underlying under55, sizeOf, typeInfo, hi, hz, hp]
  intro h3; omega

set_option maxHeartbeats 1000000 in
theorem count_any {w : World} {tb : Nat} {l : List Bk} {pl rg : List Int} (h : Tab w tb l pl rg) (k : Int) : Calls Try.prog 18 #[.pointer (some ⟨tb, 0, none⟩), .int .i64 k] w fun e w' => e = .returned (.int .i64 (pl.count k : Nat)) ∧ w' = w := by
  have hl1 : Sem.run Try.prog (big 55 (.pointer (some ⟨tb, 1, none⟩))) w = .ok (.agg (vals pl).toArray) w := load_ints_at h.2.1 h.1
  have hl2 := load_ints h.2.1 h.1
  have HL := Lib.hid h.1
  obtain ⟨A, hA⟩ : ∃ A, (vals pl).toArray = A := ⟨_, rfl⟩
  have HI := Lib.hid (fun j hj w => index_vals (xs := pl) (j := j) hj h.1 w)
  rw [hA] at hl1 hl2 HI
  have HA := Lib.hid hA
  clear h hA
  go_enter Try.func18, Try.ntmps18
  go_wp2
  go_loopg [5, 7, 12] 251 (fun gg s5 _ s12 wr => Hid (CRel pl k w gg s5 s12 wr))
  case atStart => exact Lib.hid ⟨0, by omega, rfl, by simp, rfl⟩
  case round =>
    obtain ⟨j, hj, rfl, rfl, rfl⟩ := hrel.out
    clear hrel
    by_cases hlt : j < 251
    · have hltz : (j : Int) < 251 := by omega
      have hx := HI.out j (by rw [HL.out]; exact hlt) wr
      have HS : Hid ((pl.take (j + 1)).count k = (pl.take j).count k + if pl[j]! = k then 1 else 0) := Lib.hid (by
        have hl : j < pl.length := by rw [HL.out]; exact hlt
        rw [List.take_add_one, List.getElem?_eq_getElem hl, List.count_append, getElem!_pos pl j hl]
        rw [show (some pl[j]).toList = [pl[j]] from rfl, List.count_singleton]
        by_cases e : pl[j] = k <;> simp [e])
      have hle : (pl.take j).count k ≤ j := Nat.le_trans List.count_le_length (by rw [List.length_take]; omega)
      generalize (pl.take j).count k = m at HS hle ⊢
      generalize pl[j]! = x at hx HS
      have hA : A.size = 251 := by rw [← HA.out, List.size_toArray, vals_len, HL.out]
      by_cases hxk : x = k
      · subst hxk
        rw [if_pos rfl] at HS
        go_wp2
        go_roundg (251 - (j + 1))
        case measure => omega
        case rel => exact Lib.hid ⟨j + 1, by omega, by go_num, by rw [HS.out]; go_num, rfl⟩
      · rw [if_neg hxk] at HS
        go_wp2
        go_roundg (251 - (j + 1))
        case measure => omega
        case rel => exact Lib.hid ⟨j + 1, by omega, by go_num, by rw [HS.out]; go_num, rfl⟩
    · have hltz : ¬ (j : Int) < 251 := by omega
      obtain rfl : j = 251 := by omega
      rw [show pl.take 251 = pl from List.take_of_length_le (by rw [HL.out]; exact Nat.le_refl _)]
      obtain ⟨m, hm⟩ : ∃ m, pl.count k = m := ⟨_, rfl⟩
      rw [hm]
      have HM := Lib.hid hm
      clear hm
      go_wp2
      go_ret
      exact ⟨by rw [HM.out]; rfl, rfl⟩

end Go.Proofs.Ytpkahjflhboddaa
