/-
  Small facts for regions that draw their order: cells, parts and frames behind new blocks; a part of a part.
-/
import Derived.Test.YtadpoklopahoeaaReg
namespace Go.Proofs.Ytadpoklopahoeaa
open Go.RowKit

theorem Part.drew {w : World} {p : PartV} (h : Part w p) : Part w.drew p := h
theorem below_alloc {w W : World} (h : Below w.heap.size w W) (o : Obj) : Below w.heap.size w (W.alloc o) := h.alloc h.size o
theorem below_of_drew {w W : World} (h : Below w.drew.heap.size w.drew W) : Below w.heap.size w W := Below.trans (below_drewN (Below.refl w.heap.size w) 1) h
theorem cell_past {W : World} {o : Obj} {g i : Nat} {v : Value} (h : W.cell? ⟨g, i, none⟩ = some v) : (W.alloc o).cell? ⟨g, i, none⟩ = some v :=
  (World.cell?_alloc_lt _ _ _ (World.block_lt_of_cell? _ _ h)).trans h
theorem cell_drewN {W : World} {k g i : Nat} {v : Value} (h : W.cell? ⟨g, i, none⟩ = some v) : (W.drewN k).cell? ⟨g, i, none⟩ = some v := h

theorem Part.sub {W : World} {a : Option Addr} {n c : Nat} {bs : List Int} (h : Part W ⟨a, n, c, bs⟩) (k m : Nat) (hk : k + m ≤ n) :
    Part W ⟨if c = k then a else a.map (·.add k), m, c - k, (bs.drop k).take m⟩ := by
  obtain ⟨h1, h2, h3, h4⟩ := h
  have h1' : bs.length = n := h1
  have h2' : n ≤ c := h2
  refine ⟨by simp; omega, by simp; omega, (h3.drop k).take m, fun hm => ?_⟩
  have hm' : 0 < m := hm
  obtain ⟨b, off, e, hc⟩ := h4 (show 0 < n by omega)
  have e' : a = some ⟨b, off, none⟩ := e
  subst e'
  have e2 : (⟨b, off, none⟩ : Addr).add k = ⟨b, off + k, none⟩ := by
    unfold Addr.add; by_cases h0 : k = 0 <;> simp [h0]
  refine ⟨b, off + k, ?_, fun j hj => ?_⟩
  · rw [if_neg (by omega)]; simp [e2]
  · have hj' : j < m := hj
    have := hc (k + j) (show k + j < n by omega)
    simp only [List.getElem?_take, hj', if_true, List.getElem?_drop]
    rw [Nat.add_assoc]; exact this

section
variable {W : World} {gb n c n1 c1 n2 c2 n3 c3 : Nat} {a a1 a2 a3 : Option Addr} {bs b1 b2 b3 : List Int} {s : Int}
theorem sum_one (h : W.cell? ⟨gb, 0, none⟩ = some (.slice a n c) ∧ Part W ⟨a, n, c, bs⟩) (hl : n ≤ 140737488355328) (hs : fd (tot bs) = s) :
    Calls Try.prog 15 #[.slice (some ⟨gb, 0, none⟩) 1 1] W fun e w' => e = .returned (.int .u16 s) ∧ ∃ q, w' = W.drewN q :=
  sum_at (ps := [⟨a, n, c, bs⟩]) (Parts.one h.1 h.2 hl) rfl (by simpa [flat] using hs)
theorem put_one (h : W.cell? ⟨gb, 0, none⟩ = some (.slice a n c) ∧ Part W ⟨a, n, c, bs⟩) (hl : n ≤ 140737488355328) (hs : fd (tot bs) = s) :
    Calls Try.prog 16 #[.slice (some ⟨gb, 0, none⟩) 1 1] W fun e w' => e = .returned (.int .u16 (65535 - s)) ∧ ∃ q, w' = W.drewN q :=
  put_at (ps := [⟨a, n, c, bs⟩]) (Parts.one h.1 h.2 hl) rfl (by simpa [flat] using hs)
/-- Three parts, wherever they lie. -/
def Three (W : World) (gb n1 n2 n3 : Nat) (b1 b2 b3 : List Int) : Prop :=
  ∃ a1 c1 a2 c2 a3 c3, W.cell? ⟨gb, 0, none⟩ = some (.slice a1 n1 c1) ∧ W.cell? ⟨gb, 1, none⟩ = some (.slice a2 n2 c2) ∧ W.cell? ⟨gb, 2, none⟩ = some (.slice a3 n3 c3) ∧
    Part W ⟨a1, n1, c1, b1⟩ ∧ Part W ⟨a2, n2, c2, b2⟩ ∧ Part W ⟨a3, n3, c3, b3⟩
theorem sum_three (h : Three W gb n1 n2 n3 b1 b2 b3) (hl : n1 ≤ 140737488355328 ∧ n2 ≤ 140737488355328 ∧ n3 ≤ 140737488355328) (hs : fd (tot (b1 ++ (b2 ++ b3))) = s) :
    Calls Try.prog 15 #[.slice (some ⟨gb, 0, none⟩) 3 3] W fun e w' => e = .returned (.int .u16 s) ∧ ∃ q, w' = W.drewN q := by
  obtain ⟨a1, c1, a2, c2, a3, c3, h1, h2, h3, p1, p2, p3⟩ := h
  exact sum_at (ps := [⟨a1, n1, c1, b1⟩, ⟨a2, n2, c2, b2⟩, ⟨a3, n3, c3, b3⟩]) (Parts.three h1 h2 h3 p1 p2 p3 hl.1 hl.2.1 hl.2.2) rfl (by simpa [flat] using hs)
theorem put_three (h : Three W gb n1 n2 n3 b1 b2 b3) (hl : n1 ≤ 140737488355328 ∧ n2 ≤ 140737488355328 ∧ n3 ≤ 140737488355328) (hs : fd (tot (b1 ++ (b2 ++ b3))) = s) :
    Calls Try.prog 16 #[.slice (some ⟨gb, 0, none⟩) 3 3] W fun e w' => e = .returned (.int .u16 (65535 - s)) ∧ ∃ q, w' = W.drewN q := by
  obtain ⟨a1, c1, a2, c2, a3, c3, h1, h2, h3, p1, p2, p3⟩ := h
  exact put_at (ps := [⟨a1, n1, c1, b1⟩, ⟨a2, n2, c2, b2⟩, ⟨a3, n3, c3, b3⟩]) (Parts.three h1 h2 h3 p1 p2 p3 hl.1 hl.2.1 hl.2.2) rfl (by simpa [flat] using hs)
theorem good_three (h : Three W gb n1 n2 n3 b1 b2 b3) (hl : n1 ≤ 140737488355328 ∧ n2 ≤ 140737488355328 ∧ n3 ≤ 140737488355328) (hs : fd (tot (b1 ++ (b2 ++ b3))) = s) :
    Calls Try.prog 17 #[.slice (some ⟨gb, 0, none⟩) 3 3] W fun e w' => e = .returned (.bool (s == 65535)) ∧ ∃ q, w' = W.drewN q := by
  obtain ⟨a1, c1, a2, c2, a3, c3, h1, h2, h3, p1, p2, p3⟩ := h
  exact good_at (ps := [⟨a1, n1, c1, b1⟩, ⟨a2, n2, c2, b2⟩, ⟨a3, n3, c3, b3⟩]) (Parts.three h1 h2 h3 p1 p2 p3 hl.1 hl.2.1 hl.2.2) rfl (by simpa [flat] using hs)
end
end Go.Proofs.Ytadpoklopahoeaa
