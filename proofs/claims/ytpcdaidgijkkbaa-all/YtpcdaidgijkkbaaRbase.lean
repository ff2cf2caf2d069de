/-
  The reference: its machines as values, its rows of events.
-/
import Derived.Test.YtpcdaidgijkkbaaVlaw
namespace Go.Proofs.Ytpcdaidgijkkbaa
open Go.RowKit Go.Maps
set_option linter.unusedVariables false
set_option linter.unusedSimpArgs false
set_option maxRecDepth 40000

/-- What an event of the reference holds for addresses: the config's own row, or none. -/
def av (A : Option Addr) (n c : Nat) (x : Vt) : Value := if x.kind = 1 then .slice A n c else .slice none 0 0
def rz (A : Option Addr) (n c : Nat) (l : List Vt) : List (Vt × Value) := l.map fun x => (x, av A n c x)
theorem rz_len (A : Option Addr) (n c : Nat) (l : List Vt) : (rz A n c l).length = l.length := by simp [rz]
theorem rz_app (A : Option Addr) (n c : Nat) (l r : List Vt) : rz A n c (l ++ r) = rz A n c l ++ rz A n c r := by simp [rz]
theorem av_one (A : Option Addr) (n c : Nat) (x : Vt) : (av A n c x).oneCell' = true := by unfold av; split <;> rfl
theorem rz_one (A : Option Addr) (n c : Nat) (l : List Vt) : ∀ x ∈ rz A n c l, x.2.oneCell' = true := by
  intro x hx
  obtain ⟨y, -, rfl⟩ := List.mem_map.1 hx
  exact av_one A n c y
theorem av_slice (A : Option Addr) (n c : Nat) (x : Vt) : ∃ a k j, av A n c x = .slice a k j := by unfold av; split; exact ⟨_, _, _, rfl⟩; exact ⟨_, _, _, rfl⟩
/-- A row of the reference's events. -/
def Rw (b : Nat) (w : World) (vo : Value) (A : Option Addr) (n c : Nat) (l : List Vt) : Prop := w.ownsRow b 78 5 vo l.length (ecells (rz A n c l))
theorem Rw.below {b : Nat} {w w' : World} {vo : Value} {A : Option Addr} {n c : Nat} {l : List Vt} (h : Rw b w vo A n c l) (hb : Below w.heap.size w w') : Rw b w' vo A n c l := row_below h hb
theorem Rw.nil (b : Nat) (w : World) (A : Option Addr) (n c : Nat) : Rw b w (.slice none 0 0) A n c [] := World.ownsRow_nil w b 78 5
theorem Rw.any {b : Nat} {w : World} {vo : Value} {A : Option Addr} {n c : Nat} {l : List Vt} (h : Rw b w vo A n c l) : ∃ a k, vo = .slice a l.length k := by obtain ⟨a, k, h1, -, -⟩ := row_any h; exact ⟨a, k, h1⟩
theorem Rw.letters {b : Nat} {w : World} {vo : Value} {A : Option Addr} {n c : Nat} {l : List Vt} (h : Rw b w vo A n c l) : ∃ a k j, vo = .slice a k j := by obtain ⟨a, k, h1⟩ := h.any; exact ⟨_, _, _, h1⟩
theorem Rw.put {b g0 : Nat} {w w' : World} {vo : Value} {A : Option Addr} {n c : Nat} {l : List Vt} {vs : List Value} (h : Rw b w vo A n c l) (ho : Only (· = g0) w w') (hz : Cb w g0 34 vs) : Rw b w' vo A n c l :=
  row_only h ho fun g hg e => by
    obtain ⟨cur, h1⟩ := (row_type h hg).2
    have h2 : g = g0 := e
    subst h2
    unfold Cb at hz
    rw [h1] at hz
    simp at hz
set_option maxHeartbeats 1000000 in
/-- What is told of a machine of the reference's. -/
theorem rsays_any {id pr ev : Int} {pre : Bool} {fr : ByteArray} {A : Option Addr} {n c : Nat} {w : World} (p : Int) :
    Calls Try.prog 34 #[.agg #[.int .i64 id, .int .i64 pr, .int .i64 ev, .bool pre, .string fr, .slice A n c], .int .i64 p] w fun e w' => e = .returned (.agg #[.int .i64 id, .int .i64 p, .int .i64 ev, .slice A n c]) ∧ Below w.heap.size w w' := by
  go_enter Try.func34, Try.ntmps34
  go_wp2
  refine bodyPost_ret (v := .agg #[.int .i64 id, .int .i64 p, .int .i64 ev, .slice A n c]) (by simp [results, Try.results34, go_sem]) rfl ⟨rfl, below_alloc (below_alloc (Below.refl _ _) _) _⟩
theorem Cb.ten {w : World} {b : Nat} {t : TypeId} {v0 v1 v2 v3 v4 v5 v6 v7 v8 v9 : Value} (h : Cb w b t [v0, v1, v2, v3, v4, v5, v6, v7, v8, v9]) : w.cell? ⟨b, 0, none⟩ = some v0 ∧ w.cell? ⟨b, 1, none⟩ = some v1 ∧ w.cell? ⟨b, 2, none⟩ = some v2 ∧ w.cell? ⟨b, 3, none⟩ = some v3 ∧ w.cell? ⟨b, 4, none⟩ = some v4 ∧ w.cell? ⟨b, 5, none⟩ = some v5 ∧ w.cell? ⟨b, 6, none⟩ = some v6 ∧ w.cell? ⟨b, 7, none⟩ = some v7 ∧ w.cell? ⟨b, 8, none⟩ = some v8 ∧ w.cell? ⟨b, 9, none⟩ = some v9 := ⟨h.cell 0, h.cell 1, h.cell 2, h.cell 3, h.cell 4, h.cell 5, h.cell 6, h.cell 7, h.cell 8, h.cell 9⟩
/-- Events behind events, where the first row is somebody's own. -/
theorem append_two {W : World} {b0 b1 : Nat} {o v : Value} {O L : List (Vt × Value)} (ho : W.ownsRow b0 78 5 o O.length (ecells O)) (hr : W.ownsRow b1 78 5 v L.length (ecells L)) (h1 : ∀ x ∈ L, x.2.oneCell' = true) (hb : b0 ≤ W.heap.size) (hlen : O.length + L.length ≤ 1099511627776) :
    ∃ v' W', (Builtin.append_ #[32, 32] 32 #[o, v]).run Try.prog W = .ok v' W' ∧ W'.ownsRow b0 78 5 v' (O ++ L).length (ecells (O ++ L)) ∧ W.grownBy W' o.ownBlock := by
  obtain ⟨i0, hi, hz0, hz1, hz2⟩ := info_parts info78
  rcases hr.2 with ⟨rfl, h0⟩ | ⟨g, cap, cur, rfl, hg1, hg2, hg3, hg4, hg5, hg6⟩
  · obtain rfl : L = [] := List.length_eq_zero_iff.1 h0
    obtain ⟨a, k, rfl, hk, -⟩ := row_any ho
    refine ⟨.slice a O.length k, W, ?_, by rw [List.append_nil]; exact ho, ⟨rfl, rfl, rfl, Nat.le_refl _, fun _ _ _ => rfl⟩⟩
    cases a <;> simp [Builtin.append_, run_underlying Try.underlying32, sizeOf, typeInfo, hi, hk, storeCells, go_sem]
  · obtain ⟨v', w', hr', h2, h3, -, -⟩ := run_append_own_at (P := Try.prog) W b0 32 32 78 i0 _ 5 56 Try.underlying32 hi hz0 hz1 hz2 rfl (by decide) o O.length _ ho ⟨g, 0, none⟩ L.length cap (ecells L) (by rw [ecells_len])
      (fun j u hj => by
        rw [add_plain, Nat.zero_add]
        have hlt : j < L.length * 5 := by have := (List.getElem?_eq_some_iff.1 hj).1; rwa [ecells_len] at this
        rw [World.cell?, hg2]
        have e : cur.toList[j]? = some u := by
          rw [← hg6, List.getElem?_take] at hj
          rw [if_pos hlt] at hj
          exact hj
        simpa using e) (ecells_one L h1) (by simp only [maxLen]; omega) (by omega) hb
    exact ⟨v', w', hr', by rw [List.length_append, ecells_app]; exact h2, h3⟩
end Go.Proofs.Ytpcdaidgijkkbaa
