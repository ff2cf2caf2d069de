/-
  What the laws of this seat share: what New tells, whatever boxes lie about.
-/
import Derived.Test.YtpkahjflhboddaaAlive
import Derived.Test.YtpkahjflhboddaaMframe
namespace Go.Proofs.Ytpkahjflhboddaa
open Go.RowKit
set_option linter.unusedVariables false
set_option linter.unusedSimpArgs false
set_option maxRecDepth 10000

theorem under22 : Try.prog.underlying 22 = some (.array 16 5) := by kernel_rfl
theorem info22 : (Try.prog.info? 22).map (fun i => (i.zero, i.size, i.bytes)) = some (some (.agg (Array.replicate 16 (.int .u8 0))), 16, 16) := by kernel_rfl
theorem load_key22 {W : World} {N : Nat} {A : Array Value} (h : Ar W N A.toList) (hs : A.size = 16) : Sem.run Try.prog (big 22 (.pointer (some ⟨N, 0, none⟩))) W = .ok (.agg A) W := by
  have h1 := run_loadCells_list (P := Try.prog) (w := W) ⟨N, 0, none⟩ A.toList (fun j v hv => by
    rw [add_plain, Nat.zero_add]; exact h.cell j hv)
  rw [Array.length_toList, hs] at h1
  obtain ⟨i, hi, -, hz, -⟩ := info_parts info22
  simp only [loadCells] at h1
  simp [big, Instr.loadAt, Instr.sureAddr, loadVar, isAgg, run_underlying under22, sizeOf, typeInfo, hi, hz, loadCells, h1]
theorem big22 (p : Value) : Instr.loadAt 22 p = big 22 p := rfl

/-- A table, or none. -/
def NewIs (k : List Int) (l : List Bk) (tv ev : Value) (w' : World) : Prop :=
  (¬ Right l ∧ tv = .pointer none ∧ ev = .int .i64 80) ∨
  (Right l ∧ ∃ tb, tv = .pointer (some ⟨tb, 0, none⟩) ∧ ev = .int .i64 0 ∧ ∃ (o : List Nat) (t : Nat) (pl : List (Option Nat)), IsOrd l o ∧ IsTop l (t : Int) ∧ Lays t (sds k l o) pl ∧ Tab w' tb l (lab o pl) (ring l o))
theorem new_is {w : World} {a : Option Addr} {n c : Nat} {l : List Bk} (k : List Int) (hk : Key k) (hw : Wide l) (h : Bks w a n c l) :
    Calls Try.prog 11 #[kv k, .slice a n c] w fun e w' => ∃ tv ev, e = .returned (.tuple #[tv, ev]) ∧ NewIs k l tv ev w' ∧ Below w.heap.size w w' :=
  (new_any k hk hw h).mono fun e w' h => by
    obtain ⟨h1 | ⟨hR, tb, he, hrest⟩, hb⟩ := h
    · exact ⟨_, _, h1.2, .inl ⟨h1.1, rfl, rfl⟩, hb⟩
    · exact ⟨_, _, he, .inr ⟨hR, tb, rfl, rfl, hrest⟩, hb⟩

/-- The boxes of a law without a question. -/
def LS (N : Nat) (A : Array Value) (a : Option Addr) (n c : Nat) (l : List Bk) (W : World) : Prop := Ar W N A.toList ∧ Bks W a n c l
theorem LS.below {N : Nat} {A : Array Value} {a : Option Addr} {n c : Nat} {l : List Bk} {W W' : World} (h : LS N A a n c l W) (hb : Below W.heap.size W W') : LS N A a n c l W' := ⟨h.1.below hb, h.2.below hb⟩
/-- The boxes of a law with a question. -/
def LQ (N M : Nat) (A : Array Value) (a : Option Addr) (n c : Nat) (l : List Bk) (x : Int) (ua : Option Addr) (un uc : Nat) (up : List Bool) (W : World) : Prop :=
  Ar W N A.toList ∧ Bks W a n c l ∧ Bls W ua un uc up ∧ M < W.heap.size ∧ W.cell? ⟨M, 0, none⟩ = some (.int .u64 x) ∧ W.cell? ⟨M, 1, none⟩ = some (.slice ua un uc)
theorem LQ.below {N M : Nat} {A : Array Value} {a : Option Addr} {n c : Nat} {l : List Bk} {x : Int} {ua : Option Addr} {un uc : Nat} {up : List Bool} {W W' : World} (h : LQ N M A a n c l x ua un uc up W) (hb : Below W.heap.size W W') : LQ N M A a n c l x ua un uc up W' :=
  ⟨h.1.below hb, h.2.1.below hb, h.2.2.1.below hb, Nat.lt_of_lt_of_le h.2.2.2.1 hb.size, by rw [hb.cell (p := ⟨M, 0, none⟩) h.2.2.2.1]; exact h.2.2.2.2.1, by rw [hb.cell (p := ⟨M, 1, none⟩) h.2.2.2.1]; exact h.2.2.2.2.2⟩

theorem undrew {w w' : World} (h : Below w.drew.heap.size w.drew w') : Below w.heap.size w w' := ⟨h.os, h.tape, h.output, h.size, h.block⟩
theorem below_next {B : Nat} {w w1 w2 : World} (h : Below B w w1) (hB : B ≤ w1.heap.size) (h2 : Below w1.heap.size w1 w2) : Below B w w2 := h.trans (h2.mono hB)

/-- What is the same of two tables of the same backends. -/
theorem same_tab {k : List Int} {l : List Bk} {o o' : List Nat} {t t' : Nat} {pl pl' : List (Option Nat)} (hR : Right l) (ho : IsOrd l o) (ho' : IsOrd l o') (ht : IsTop l (t : Int)) (ht' : IsTop l (t' : Int)) (h : Lays t (sds k l o) pl) (h' : Lays t' (sds k l o') pl') : o = o' ∧ pl = pl' := by
  obtain rfl := ho.same ho' hR.2.2.2
  have e := ht.same ht'
  obtain rfl : t = t' := by omega
  exact ⟨rfl, lays_same h h'⟩
/-- Whose each place is. -/
theorem lab_in {k : List Int} {l : List Bk} {o : List Nat} {t : Nat} {pl : List (Option Nat)} (hR : Right l) (ho : IsOrd l o) (h : Lays t (sds k l o) pl) : (lab o pl).length = 251 ∧ ∀ p, p < 251 → ∃ i : Nat, i < l.length ∧ (lab o pl)[p]! = (i : Int) := by
  have hsl : (sds k l o).length = l.length := by rw [sds_len, ho.1]
  obtain ⟨hp, hw⟩ := lays_who (by rw [hsl]; exact hR.1) h
  refine ⟨by rw [lab_len, hp], fun p hp' => ?_⟩
  obtain ⟨r, hr, e⟩ := hw p hp'
  rw [hsl] at hr
  refine ⟨o[r]!, (ho.2 r hr).1, ?_⟩
  rw [getElem!_pos _ p (by rw [lab_len, hp]; exact hp')]
  have e2 : pl[p]'(by omega) = some r := by rw [List.getElem?_eq_getElem (by omega)] at e; simpa using e
  simp only [lab, List.getElem_map, e2, lab1]

end Go.Proofs.Ytpkahjflhboddaa
