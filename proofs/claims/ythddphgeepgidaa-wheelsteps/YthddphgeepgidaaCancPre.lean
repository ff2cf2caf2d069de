/-
  A timer that is unset, and one that is set anew: without memory; a wheel beside a row of four numbers.
-/
import Derived.Test.YthddphgeepgidaaOncePre
namespace Go.Proofs.Ythddphgeepgidaa
open Go.RowKit Go.Maps
set_option linter.unusedVariables false
set_option linter.unusedSimpArgs false
set_option maxRecDepth 10000

theorem mvD_len {s : St} {n : Nat} (h : OkS s n) (x : Int) : (mvD s.l s.now x).length ≤ n := by
  unfold mvD
  split
  · rw [ids_len]; exact Nat.le_trans (List.length_filter_le _ _) h.len
  · simp
theorem ids_nodup {l : List Tm} (h : l.Pairwise (fun a b => a.id ≠ b.id)) : (ids l).Nodup := by
  unfold ids
  exact List.pairwise_map.2 (h.imp fun {a b} hab => by omega)
theorem mvD_nodup {s : St} {n : Nat} (h : OkS s n) (x : Int) : (mvD s.l s.now x).Nodup := by
  unfold mvD
  split
  · exact ids_nodup (List.Pairwise.filter _ h.fit.nodup)
  · exact List.Pairwise.nil
theorem mvL_sub (L : List Tm) (now : Nat) (x : Int) {t : Tm} (h : t ∈ mvL L now x) : t ∈ L := by
  unfold mvL at h
  split at h
  · exact (mem_left.1 h).1
  · exact h
theorem mvD_not {s : St} {k : Nat} (h : ∀ t ∈ s.l, t.id ≠ k) (x : Int) : ∀ i, i < (mvD s.l s.now x).length → (mvD s.l s.now x)[i]! ≠ (k : Int) := fun i hi e => by
  have hm : (k : Int) ∈ mvD s.l s.now x := by rw [← e, getElem!_pos _ i hi]; exact List.getElem_mem _
  unfold mvD at hm
  split at hm
  · obtain ⟨t, ht, e2⟩ := mem_ids.1 hm
    exact h t (mem_due.1 ht).1 e2
  · simp at hm
theorem seen_fresh {D : List Int} (h : D.Nodup) {k : Nat} (hk : k < D.length) {i : Int} (e : D[k]! = i) : seen D i k = false := by
  unfold seen
  refine decide_eq_false fun hm => ?_
  rw [getElem!_pos D k hk] at e
  obtain ⟨j, hj, e2⟩ := List.getElem_of_mem hm
  rw [List.length_take] at hj
  rw [List.getElem_take] at e2
  have := List.pairwise_iff_getElem.1 h j k (by omega) hk (by omega)
  exact this (e2.trans e.symm)
theorem seen_never {D : List Int} {i : Int} (h : seen D i D.length = false) : ∀ k, k < D.length → D[k]! ≠ i := fun k hk e => by
  rw [seen_all] at h
  have := of_decide_eq_false h
  exact this (by rw [← e, getElem!_pos D k hk]; exact List.getElem_mem _)
theorem onc_now {s : St} {i g : Nat} {told : Bool} (h : Onc s.l i g told) {x : Int} (hd : decide ((i : Int) ∈ mvD s.l s.now x) = true) : g ≤ mvN s.now x := by
  rw [(onc_move h x).1] at hd
  simp only [Bool.and_eq_true, decide_eq_true_eq] at hd
  obtain ⟨m, rfl, _, _, _, e2, _⟩ := mv_ok hd.1.2
  rw [e2]
  omega
theorem all_due {s : St} {n : Nat} (h : OkS s n) : mvL s.l s.now 1099511627776 = [] := by
  have hok : okM s.now 1099511627776 = true := decide_eq_true (by have := h.now; omega)
  obtain ⟨m, hm, _, _, _, _, e⟩ := mv_ok hok
  rw [e]
  refine List.filter_eq_nil_iff.2 fun t ht => ?_
  have := (h.fit.wide t ht).2
  simp
  omega

theorem canc_state {s : St} {n g1 g2 : Nat} (h : OkS s n) (h1 : g1 ≤ 1099511627776) (h2 : g2 ≤ 1099511627776) :
    (look (setL (setL (setL s.l 1 (g1 : Int)) 2 (g1 : Int)) 2 (g2 : Int)) 1).isSome = true ∧ (∀ t ∈ woutI (setL (setL (setL s.l 1 (g1 : Int)) 2 (g1 : Int)) 2 (g2 : Int)) 1, t.id ≠ 1) ∧
    Onc (woutI (setL (setL (setL s.l 1 (g1 : Int)) 2 (g1 : Int)) 2 (g2 : Int)) 1) 2 g2 false ∧ OkS ⟨s.now, woutI (setL (setL (setL s.l 1 (g1 : Int)) 2 (g1 : Int)) 2 (g2 : Int)) 1⟩ (n + 3) := by
  have f1 := setL_fit h.fit 1 (g1 : Int)
  have f2 := setL_fit f1 2 (g1 : Int)
  have f3 := setL_fit f2 2 (g2 : Int)
  have k1 := setL_len s.l 1 (g1 : Int)
  have k2 := setL_len (setL s.l 1 (g1 : Int)) 2 (g1 : Int)
  have k3 := setL_len (setL (setL s.l 1 (g1 : Int)) 2 (g1 : Int)) 2 (g2 : Int)
  have o1 := onc_set s.l h.fit (i := 1) (g := g1) (by omega) h1
  have o3 := onc_set (setL (setL s.l 1 (g1 : Int)) 2 (g1 : Int)) f2 (i := 2) (g := g2) (by omega) h2
  have stay : ∀ (L : List Tm) (g : Nat), g ≤ 1099511627776 → ∀ t ∈ L, t.id ≠ 2 → t ∈ setL L 2 (g : Int) := fun L g hg t ht hne => by
    have e1 : inR 2 (g : Int) = true := decide_eq_true (by omega)
    unfold setL
    rw [if_pos e1]
    exact mem_ins.2 (.inr (List.mem_filter.2 ⟨ht, by simp; omega⟩))
  have m1 : (⟨1, g1⟩ : Tm) ∈ setL s.l 1 (g1 : Int) := by
    rcases o1 with ⟨_, hm, _⟩ | ⟨h, _⟩
    · exact hm
    · cases h
  have m3 := stay _ g2 h2 _ (stay _ g1 h1 _ m1 (show (1 : Nat) ≠ 2 by decide)) (show (1 : Nat) ≠ 2 by decide)
  refine ⟨?_, fun t ht => woutI_not (id := 1) t ht, ?_, ⟨f3.woutI _, h.now, ?_⟩⟩
  · have := look_self f3 m3
    simp only at this
    rw [show ((1 : Nat) : Int) = 1 from rfl] at this
    rw [this]; rfl
  · rcases o3 with ⟨_, hm, ho⟩ | ⟨h, _⟩
    · exact .inl ⟨rfl, List.mem_filter.2 ⟨hm, by simp⟩, fun t ht => ho t (List.mem_filter.1 ht).1⟩
    · cases h
  · have := woutI_len (setL (setL (setL s.l 1 (g1 : Int)) 2 (g1 : Int)) 2 (g2 : Int)) 1
    have := h.len
    simp only
    omega

/-! ## A wheel beside a row -/
def PlX (w wr : World) (B : Nat) (s : St) (X : Nat) (o : Obj) : Prop := ∃ F, Wh wr F B s.now s.l s.l ∧ (∀ i, F i → w.heap.size ≤ i) ∧ Below w.heap.size w wr ∧ ¬ F X ∧ wr.heap[X]? = some o
section
variable {w wr : World} {B X : Nat} {s : St} {o : Obj}
theorem plx_of (h : Pl w wr B s) (o : Obj) : PlX w (wr.alloc o) B s wr.heap.size o := by
  obtain ⟨F, hW, hF, hb⟩ := h
  have hb2 : Below wr.heap.size wr (wr.alloc o) := below_alloc (Below.refl _ _) _
  refine ⟨F, hW.below hb2, hF, hb.trans (hb2.mono hb.size), fun hx => ?_, heap_alloc_new wr o⟩
  obtain ⟨M, sl, hS⟩ := hW
  have := hS.lt _ hx
  omega
theorem plx_below (h : PlX w wr B s X o) : Below w.heap.size w wr := by
  obtain ⟨F, _, _, hb, _⟩ := h
  exact hb
theorem plx_move {x : Int} (h : PlX w wr B s X o) (ok : OkS s 1000) : Calls Try.prog 17 #[.pointer (some ⟨B, 0, none⟩), .int .i64 x] wr fun e w' => ∃ v, e = .returned v ∧ w'.ownsRow wr.heap.size 3 1 v (mvD s.l s.now x).length (icells (mvD s.l s.now x)) ∧ PlX w w' B ⟨mvN s.now x, mvL s.l s.now x⟩ X o := by
  obtain ⟨F, hW, hF, hb, hX, hx⟩ := h
  refine (move_any hW ok).mono fun e w' ⟨v, F', he, hr, hv, h1, h2, h3⟩ => ⟨v, he, hr, F', h1, fun i hi => ?_, hb.trans (h3.below hb.size hF), fun hfx => ?_, ?_⟩
  · rcases h2 i hi with h | h
    · exact hF i h
    · exact Nat.le_trans hb.size h
  · have hlt := (Array.getElem?_eq_some_iff.1 hx).1
    rcases h2 X hfx with h | h
    · exact hX h
    · omega
  · rw [h3.block X (Array.getElem?_eq_some_iff.1 hx).1 hX]; exact hx
theorem plx_now (h : PlX w wr B s X o) : Calls Try.prog 16 #[.pointer (some ⟨B, 0, none⟩)] wr fun e w' => e = .returned (.int .i64 s.now) ∧ wr = w' := by
  obtain ⟨F, hW, _⟩ := h
  exact now_any hW
theorem plx_len (h : PlX w wr B s X o) : Calls Try.prog 18 #[.pointer (some ⟨B, 0, none⟩)] wr fun e w' => e = .returned (.int .i64 s.l.length) ∧ wr = w' := by
  obtain ⟨F, hW, _⟩ := h
  exact len_any hW
theorem plx_len_grow (h : PlX w wr B s X o) (hn : s.l = []) (W : World) (hb : Below wr.heap.size wr W) : Calls Try.prog 18 #[.pointer (some ⟨B, 0, none⟩)] W fun e w' => e = .returned (.int .i64 0) ∧ W = w' := by
  obtain ⟨F, hW, _⟩ := h
  have := len_any (hW.below hb)
  rw [hn] at this
  exact this
theorem plx_cell {cs : Array Value} {t : TypeId} (h : PlX w wr B s X (.cells cs t (0, 0))) {q : Nat} : wr.cell? ⟨X, q, none⟩ = cs[q]? := by
  obtain ⟨F, _, _, _, _, hx⟩ := h
  exact cell_of_row wr X q cs t (0, 0) hx
end

def fourC (N0 g1 g2 : Nat) : Array Value := #[.int .i64 (N0 : Int), .int .i64 (g1 : Int), .int .i64 (g2 : Int), .int .i64 1099511627776]
theorem four (N0 g1 g2 : Nat) {q : Nat} (h : q < 4) : ∃ x : Int, (fourC N0 g1 g2)[q]? = some (.int .i64 x) ∧ (q = 3 → x = 1099511627776) := by
  rcases (show q = 0 ∨ q = 1 ∨ q = 2 ∨ q = 3 by omega) with rfl | rfl | rfl | rfl
  · exact ⟨_, rfl, fun h => by omega⟩
  · exact ⟨_, rfl, fun h => by omega⟩
  · exact ⟨_, rfl, fun h => by omega⟩
  · exact ⟨_, rfl, fun _ => rfl⟩

def CaRel (w : World) (B X N0 g1 g2 gg : Nat) (s10 s11 s83 : Value) (wr : World) : Prop :=
  ∃ q : Nat, q + gg = 4 ∧ s83 = .int .i64 q ∧ s10 = .int .i64 0 ∧ ∃ (told : Bool) (s : St), s11 = .int .i64 (if told = true then 1 else 0 : Int) ∧ PlX w wr B s X (.cells (fourC N0 g1 g2) 3 (0, 0)) ∧ OkS s 303 ∧ Onc s.l 2 g2 told ∧ (∀ t ∈ s.l, t.id ≠ 1) ∧ (q = 4 → s.l = [])

end Go.Proofs.Ythddphgeepgidaa
