/-
  What advert.Decode does with a packet with which something is amiss; an advertisement's block in memory.
-/
import Derived.Test.YthhomfchoomelaaAiter
namespace Go.Proofs.Ythhomfchoomelaa
open Go.RowKit
set_option linter.unusedVariables false
set_option maxRecDepth 10000

theorem below4 {B : Nat} {w W : World} (h : Below B w W) {N : Nat} (hN : B ≤ N) {v0 v1 v2 v3 : Value} :
    Below B w ((((W.setCell ⟨N, 0, none⟩ v0).setCell ⟨N, 1, none⟩ v1).setCell ⟨N, 2, none⟩ v2).setCell ⟨N, 3, none⟩ v3) :=
  (((h.setCell hN _).setCell hN _).setCell hN _).setCell hN _
/-- No cell of a block is frozen. -/
def Free (W : World) (N : Nat) : Prop := ∀ o, W.frozen? ⟨N, o, none⟩ = false
theorem Free.below {W W' : World} {N B : Nat} (h : Free W N) (hb : Below B W W') (hN : N < B) : Free W' N := fun o => (hb.frozen (p := ⟨N, o, none⟩) hN).trans (h o)
theorem Free.new (w : World) (c : Array Value) (t : TypeId) : Free (w.alloc (.cells c t)) w.heap.size := fun o => by simp [go_sem]

/-- An advertisement lies in a block of the call's own. -/
def BoxA (W : World) (B : Nat) (i p e : Int) (v : Value) : Prop := W.heap[B]? = some (.cells #[.int .i64 i, .int .i64 p, .int .i64 e, v] 32 (0, 0))
section
variable {W W' : World} {B : Nat} {i p e : Int} {v : Value}
theorem BoxA.lt (h : BoxA W B i p e v) : B < W.heap.size := (Array.getElem?_eq_some_iff.1 h).1
theorem BoxA.cells (h : BoxA W B i p e v) : W.cell? ⟨B, 0, none⟩ = some (.int .i64 i) ∧ W.cell? ⟨B, 1, none⟩ = some (.int .i64 p) ∧ W.cell? ⟨B, 2, none⟩ = some (.int .i64 e) ∧ W.cell? ⟨B, 3, none⟩ = some v := by
  simp [World.cell?, show W.heap[B]? = _ from h]
theorem BoxA.free (h : BoxA W B i p e v) : Free W B := fun o => by simp [World.frozen?, show W.heap[B]? = _ from h]
theorem BoxA.new (W : World) (i p e : Int) (v : Value) : BoxA (W.alloc (.cells #[.int .i64 i, .int .i64 p, .int .i64 e, v] 32)) W.heap.size i p e v := World.alloc_heap_new W _
theorem BoxA.kept {row : Option Nat} (h : BoxA W B i p e v) (hg : W.grownBy W' row) (hne : some B ≠ row) : BoxA W' B i p e v := (hg.block B h.lt hne).trans h
theorem BoxA.alloc (h : BoxA W B i p e v) (o : Obj) : BoxA (W.alloc o) B i p e v := h.kept (World.grownBy_alloc W o none) (by simp)
theorem BoxA.below {C : Nat} (h : BoxA W B i p e v) (hb : Below C W W') (hB : B < C) : BoxA W' B i p e v := (hb.block B hB).trans h
theorem BoxA.set (v' : Value) (h : BoxA W B i p e v) : BoxA (W.setCell ⟨B, 3, none⟩ v') B i p e v' := by
  obtain ⟨hlt, hk⟩ := Array.getElem?_eq_some_iff.1 h
  show (W.heap.modify B _)[B]? = _
  rw [Array.getElem?_eq_getElem (by rw [Array.size_modify]; exact hlt), Array.getElem_modify_self, hk]
  rfl
theorem grown_set (W : World) (b o : Nat) (v : Value) : W.grownBy (W.setCell ⟨b, o, none⟩ v) (some b) :=
  ⟨rfl, rfl, rfl, by simp, fun k _ hk => heap_setCell_other W ⟨b, o, none⟩ k _ (fun e => hk (by simp [e]))⟩
theorem BoxA.not_row (h : BoxA W B i p e v) {t : TypeId} (hte : 32 ≠ t) {base size k : Nat} {u : Value} {xs : List Value} (hr : W.ownsRow base t size u k xs) : some B ≠ u.ownBlock := by
  rcases hr.2 with ⟨rfl, _⟩ | ⟨g, cap, cur, rfl, _, hgb, _⟩
  · simp [Value.ownBlock]
  · intro e'
    obtain rfl : B = g := by simpa [Value.ownBlock] using e'
    have := (show W.heap[B]? = _ from h).symm.trans hgb
    simp at this
    exact hte this.2
theorem holdsA_own {β : Type} (n₀ B : Nat) (i p e : Int) (t : TypeId) (size : Nat) (k : β → Nat) (f : β → List Value) : Go.Own (fun s W => ∃ v, BoxA W B i p e v ∧ W.ownsRow n₀ t size v (k s) (f s)) := by
  rintro s X Y row ⟨v, hv, hr⟩ hg hrow
  refine ⟨v, hv.kept hg (fun e' => ?_), hr.kept hg ?_⟩
  · obtain ⟨o, ho, hc⟩ := hrow B e'.symm
    rw [show X.heap[B]? = _ from hv] at ho; cases ho; cases hc
  · rcases hr.2 with ⟨rfl, _⟩ | ⟨g, cap, cur, rfl, _, hgb, _⟩
    · exact .inl rfl
    · refine .inr fun e' => ?_
      obtain ⟨o, ho, hc⟩ := hrow g (by simpa [Value.ownBlock] using e'.symm)
      rw [hgb] at ho; cases ho; cases hc
theorem BoxA.appended {w1 : World} {n₀ : Nat} {t : TypeId} {size : Nat} {v' : Value} {k m : Nat} {xs ys : List Value} {tmp : Obj}
    (hv : BoxA W B i p e v) (hte : 32 ≠ t) (hrow : W.ownsRow n₀ t size v k xs) (hn₀ : n₀ ≤ W.heap.size) (hB : n₀ ≤ B)
    (hown' : w1.ownsRow n₀ t size v' m ys) (hgrow : (W.alloc tmp).grownBy w1 v.ownBlock) :
    BoxA w1 B i p e v ∧ BoxA (w1.setCell ⟨B, 3, none⟩ v') B i p e v' ∧ (w1.setCell ⟨B, 3, none⟩ v').ownsRow n₀ t size v' m ys ∧ KeepsOthers W (w1.setCell ⟨B, 3, none⟩ v') ∧ Below n₀ W (w1.setCell ⟨B, 3, none⟩ v') ∧ (∀ C, C < W.heap.size → C ≠ B → some C ≠ v.ownBlock → (w1.setCell ⟨B, 3, none⟩ v').heap[C]? = W.heap[C]?) := by
  have hv1 : BoxA w1 B i p e v := (hv.alloc tmp).kept hgrow (hv.not_row hte hrow)
  refine ⟨hv1, hv1.set v', hown'.kept (grown_set w1 B 3 v') (.inr (hv1.not_row hte hown').symm), ?_, ?_, ?_⟩
  · refine ((KeepsOthers.alloc W tmp).trans (KeepsOthers.of_grownBy hgrow fun j o ej hj => ?_)).trans (KeepsOthers.setCell _ _ _)
    rcases (hrow.alloc tmp).2 with ⟨rfl, _⟩ | ⟨g, cap, cur, rfl, _, hgb, _⟩
    · simp [Value.ownBlock] at ej
    · obtain rfl : g = j := by simpa [Value.ownBlock] using ej
      rw [hgb] at hj; cases hj; rfl
  · refine (((Below.refl n₀ W).alloc hn₀ tmp).grown hgrow (by simp; omega) fun j ej => ?_).setCell (p := ⟨B, 3, none⟩) hB v'
    rcases hrow.2 with ⟨rfl, _⟩ | ⟨g, cap, cur, rfl, hb, _, _⟩
    · simp [Value.ownBlock] at ej
    · obtain rfl : g = j := by simpa [Value.ownBlock] using ej
      exact hb
  · intro C hC hCB hne
    refine ((grown_set w1 B 3 v').block C ?_ (by simpa using hCB)).trans ((hgrow.block C (by simp; omega) hne).trans (heap_alloc_old W tmp hC))
    have h1 := hgrow.size
    simp at h1
    omega
end

set_option maxHeartbeats 400000 in
/-- advert.Decode of what is amiss. -/
theorem decode_bad (f t : ByteArray) (p l : Int) (s : ByteArray) (v : Int) (w : World) (hf : f.size ≤ 140737488351232) (ht : t.size ≤ 140737488351232) (hs : s.size ≤ 140737488351232) (ha : amiss f t p l s = v) (hv : v ≠ 0) :
    Calls Try.prog 14 #[.agg #[.string f, .string t, .int .i64 p, .int .i64 l, .string s]] w fun e w' => e = .returned (.tuple #[.agg #[.int .i64 0, .int .i64 0, .int .i64 0, .slice none 0 0], .int .i64 v]) ∧ Below w.heap.size w w' := by
  have HA := Lib.hid (fun w => first_any f t p l s w hf ht hs)
  rw [ha] at HA
  have h0 : (v != 0) = true := by simpa using hv
  clear ha
  go_enter Try.func14, Try.ntmps14
  go_wp2_with fail
  refine (HA.out _).mono ?_
  rintro e w1 ⟨rfl, hb1⟩
  have HB1 := Lib.hid ((((Below.refl _ w).alloc (Nat.le_refl _) _).alloc (by simp) _).trans (hb1.out.mono (by simp; omega)))
  have hbb : Below (w.heap.size + 1 + 1) ((w.alloc (.cells #[.string f, .string t, .int .i64 p, .int .i64 l, .string s] 28)).alloc (.cells #[.int .i64 0, .int .i64 0, .int .i64 0, .slice none 0 0] 32)) w1 := by simpa using hb1.out
  have hA := (BoxA.new (w.alloc (.cells #[.string f, .string t, .int .i64 p, .int .i64 l, .string s] 28)) 0 0 0 (.slice none 0 0)).below hbb (by simp)
  simp only [World.size_alloc] at hA
  obtain ⟨a0, a1, a2, a3⟩ := hA.cells
  have af : ∀ o, w1.frozen? ⟨w.heap.size + 1, o, none⟩ = false := hA.free
  have n1 : w.heap.size + 1 < w1.heap.size := hA.lt
  clear hb1 hA hbb
  go_wp2
  exact bodyPost_ret (v := .tuple #[.agg #[.int .i64 0, .int .i64 0, .int .i64 0, .slice none 0 0], .int .i64 v]) (by simp [results, Try.results14, go_sem, *]) rfl ⟨rfl, below4 HB1.out (by omega)⟩

end Go.Proofs.Ythhomfchoomelaa
