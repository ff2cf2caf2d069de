/-
  What the laws share: New of any config, the loop's variable.
-/
import Derived.Test.YtpcdaidgijkkbaaVdoes
namespace Go.Proofs.Ytpcdaidgijkkbaa
open Go.RowKit Go.Maps
set_option linter.unusedVariables false
set_option linter.unusedSimpArgs false
set_option maxRecDepth 40000

/-- New of what can't be. -/
theorem new_none {f : Cf} {A : Option Addr} {n c : Nat} {w : World} (hS : Strs w A n c f.ads) (hb : f.fr.size ≤ 140737488351232 ∧ n ≤ 8796093022208) (hok : okN f = false) :
    Calls Try.prog 11 #[.agg #[.int .i64 f.id, .int .i64 f.pr, .int .i64 f.ev, .bool f.pre, .string f.fr, .slice A n c]] w fun e w' => e = .returned (.tuple #[.pointer none, .int .i64 130]) ∧ Below w.heap.size w w' := by
  cases h : okA f.fr f.id f.pr f.ev f.ads
  · exact new_no1 hS hb.1 hb.2 h
  · exact new_no0 hS hb.1 hb.2 h (by simpa [okN, h] using hok)
/-- New. -/
theorem new_some {f : Cf} {A : Option Addr} {n c : Nat} {w : World} (hS : Strs w A n c f.ads) (hb : f.fr.size ≤ 140737488351232 ∧ n ≤ 8796093022208) (hok : okN f = true) :
    Calls Try.prog 11 #[.agg #[.int .i64 f.id, .int .i64 f.pr, .int .i64 f.ev, .bool f.pre, .string f.fr, .slice A n c]] w fun e w' => ∃ B va, e = .returned (.tuple #[.pointer (some ⟨B, 0, none⟩), .int .i64 0]) ∧ MmS w.heap.size w' B (newM f) va (.slice none 0 0) [] ∧ Below w.heap.size w w' := by
  obtain ⟨h1, h2⟩ := okN_all hok
  exact new_ok hS hb.1 hb.2 h1 h2

theorem store41 {W : World} {b : Nat} {tt : TypeId} {cur : List Value} (hb : Cb W b tt cur) (hl : cur.length = 7) (x0 x1 : Int) (x2 : ByteArray) (x3 x4 x5 : Int) (A : Option Addr) (n c : Nat) :
    ∃ W', (bigS 41 ⟨b, 0, none⟩ (.agg #[.int .i64 x0, .int .i64 x1, .string x2, .int .i64 x3, .int .i64 x4, .int .i64 x5, .slice A n c])).run Try.prog W = .ok () W' ∧ Cb W' b tt [.int .i64 x0, .int .i64 x1, .string x2, .int .i64 x3, .int .i64 x4, .int .i64 x5, .slice A n c] ∧ Only (· = b) W W' := by
  obtain ⟨h3, h4, h5⟩ := store_cb (t := 41) hb [.int .i64 x0, .int .i64 x1, .string x2, .int .i64 x3, .int .i64 x4, .int .i64 x5, .slice A n c] 7 hl rfl (fun u hu => by
    simp only [List.mem_cons, List.not_mem_nil, or_false] at hu
    rcases hu with rfl | rfl | rfl | rfl | rfl | rfl | rfl <;> rfl) (Try.sizeOf41 W)
  exact ⟨_, h3, h4, h5⟩
theorem bigS41 (a : Addr) (v : Value) : storeVar 41 a v = bigS 41 a v := rfl
theorem Cb.seven {w : World} {b : Nat} {t : TypeId} {v0 v1 v2 v3 v4 v5 v6 : Value} (h : Cb w b t [v0, v1, v2, v3, v4, v5, v6]) : w.cell? ⟨b, 0, none⟩ = some v0 ∧ w.cell? ⟨b, 1, none⟩ = some v1 ∧ w.cell? ⟨b, 2, none⟩ = some v2 ∧ w.cell? ⟨b, 3, none⟩ = some v3 ∧ w.cell? ⟨b, 4, none⟩ = some v4 ∧ w.cell? ⟨b, 5, none⟩ = some v5 ∧ w.cell? ⟨b, 6, none⟩ = some v6 := ⟨h.cell 0, h.cell 1, h.cell 2, h.cell 3, h.cell 4, h.cell 5, h.cell 6⟩
/-- The loop's variable, in a box of its own. -/
theorem box41 (W : World) (x0 x1 : Int) (x2 : ByteArray) (x3 x4 x5 : Int) (A : Option Addr) (n c : Nat) :
    ∃ W', (bigS 41 ⟨W.heap.size, 0, none⟩ (.agg #[.int .i64 x0, .int .i64 x1, .string x2, .int .i64 x3, .int .i64 x4, .int .i64 x5, .slice A n c])).run Try.prog (W.alloc (.cells #[.int .i64 0, .int .i64 0, .string ⟨#[]⟩, .int .i64 0, .int .i64 0, .int .i64 0, .slice none 0 0] 41)) = .ok () W' ∧ Cb W' W.heap.size 41 [.int .i64 x0, .int .i64 x1, .string x2, .int .i64 x3, .int .i64 x4, .int .i64 x5, .slice A n c] ∧ Below W.heap.size W W' := by
  obtain ⟨W', h3, h4, h5⟩ := store41 (Cb.new W [.int .i64 0, .int .i64 0, .string ⟨#[]⟩, .int .i64 0, .int .i64 0, .int .i64 0, .slice none 0 0] 41) rfl x0 x1 x2 x3 x4 x5 A n c
  exact ⟨W', h3, h4, only_below (below_alloc (Below.refl _ _) _) h5 (Nat.le_refl _)⟩

/-! ## What is stopped -/
theorem idle_ticks : ∀ (k : Nat) (m : Mc), m.st = 1 → ticksM k m = m
  | 0, m, h => rfl
  | k + 1, m, h => by
    have h1 : tickM m = m := by unfold tickM; rw [if_pos h]
    rw [ticksM, h1, idle_ticks k m h]
theorem idle_does {m : Mc} (h1 : m.st = 1) (h2 : m.wt = 0) (h3 : m.out = []) (o : Oq) (hk : o.kind ≠ 0) : (doM m o).st = 1 ∧ (doM m o).wt = 0 ∧ (doM m o).out = [] := by
  unfold doM
  rw [if_neg hk]
  split
  · exact ⟨rfl, rfl, by show (if m.st = 3 then m.out ++ [saysV m.c 0] else m.out) = []; rw [if_neg (by omega)]; exact h3⟩
  split
  · rw [idle_ticks _ _ h1]; exact ⟨h1, h2, h3⟩
  split
  · unfold takeM
    split
    · rw [if_neg (by omega), if_neg (by omega)]; exact ⟨h1, h2, h3⟩
    · exact ⟨h1, h2, h3⟩
  split
  · unfold setM; split <;> exact ⟨h1, h2, h3⟩
  · exact ⟨h1, h2, h3⟩
end Go.Proofs.Ytpcdaidgijkkbaa
