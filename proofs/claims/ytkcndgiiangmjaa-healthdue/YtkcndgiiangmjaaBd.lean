/-
  A board in memory: its rule, its probes, its wheel.
-/
import Derived.Test.YtkcndgiiangmjaaPb
namespace Go.Proofs.Ytkcndgiiangmjaa
open Go.RowKit Go.Maps
set_option linter.unusedVariables false
set_option linter.unusedSimpArgs false
set_option maxRecDepth 10000

/-! ## What a board does -/
structure Bo where
  ps : List Pr
  s : St
def isB (b : Bo) (k : Int) : Bool := decide (0 ≤ k ∧ k < (b.ps.length : Int))
def tellB (r : Ru) (b : Bo) (k : Int) (g : Bool) : Bo := if isB b k = true then ⟨b.ps.set k.toNat (tellP r b.ps[k.toNat]! g), b.s⟩ else b
def tellBC (r : Ru) (b : Bo) (k : Int) (g : Bool) : Bool := if isB b k = true then tellC r b.ps[k.toNat]! g else false
def setAll (L : List Tm) (D : List Int) (a : Int) : List Tm := D.foldl (fun L x => setL L x a) L
def farB (x : Int) : Bool := decide (x > 1099511617776)
def bmD (s : St) (x : Int) : List Int := if farB x = true then [] else mvD s.l s.now x
def bmS (r : Ru) (s : St) (x : Int) : St := if farB x = true then s else ⟨mvN s.now x, setAll (mvL s.l s.now x) (mvD s.l s.now x) (x + r.every)⟩
def layS (n : Nat) : St := ⟨0, (List.range n).foldl (fun (L : List Tm) (k : Nat) => setL L (k : Int) ((k : Int) + 1)) []⟩
theorem layS_next (n : Nat) : layS (n + 1) = ⟨0, setL (layS n).l (n : Int) ((n : Int) + 1)⟩ := by
  unfold layS
  rw [List.range_succ, List.foldl_append]
  rfl
theorem layS_ok : ∀ n, OkS (layS n) n
  | 0 => ⟨Fit.nil, by show (0 : Nat) ≤ _; omega, by show ([] : List Tm).length ≤ 0; simp⟩
  | n + 1 => by
    rw [layS_next]
    have h := layS_ok n
    exact ⟨setL_fit h.fit _ _, by show (0 : Nat) ≤ _; omega, Nat.le_trans (setL_len _ _ _) (by have := h.len; omega)⟩
theorem setAll_fit {L : List Tm} (h : Fit L) (D : List Int) (a : Int) : Fit (setAll L D a) := by
  unfold setAll
  induction D generalizing L with
  | nil => exact h
  | cons x r ih => exact ih (setL_fit h _ _)
theorem setAll_len (L : List Tm) (D : List Int) (a : Int) : (setAll L D a).length ≤ L.length + D.length := by
  unfold setAll
  induction D generalizing L with
  | nil => simp
  | cons x r ih =>
    refine Nat.le_trans (ih (setL L x a)) ?_
    have := setL_len L x a
    simp only [List.length_cons]
    omega
theorem setAll_next (L : List Tm) (D : List Int) (a : Int) {j : Nat} (h : j < D.length) : setAll L (D.take (j + 1)) a = setL (setAll L (D.take j) a) D[j]! a := by
  unfold setAll
  rw [List.take_add_one, List.getElem?_eq_getElem h, getElem!_pos D j h, List.foldl_append]
  rfl
theorem due_left (L : List Tm) (m : Nat) : (left L m).length + (due L m).length = L.length := by
  unfold left due
  induction L with
  | nil => rfl
  | cons x r ih =>
    rw [List.filter_cons, List.filter_cons]
    by_cases h : x.at_ ≤ m <;> simp [h] <;> omega
theorem mv_len (s : St) (x : Int) : (mvL s.l s.now x).length + (mvD s.l s.now x).length = s.l.length := by
  unfold mvL mvD
  split
  · unfold ids; rw [List.length_map]; exact due_left _ _
  · simp
theorem bm_ok {s : St} {n : Nat} (h : OkS s n) (r : Ru) (x : Int) : OkS (bmS r s x) n := by
  unfold bmS
  split
  · exact h
  · have h1 := h.move x
    refine ⟨setAll_fit h1.fit _ _, h1.now, Nat.le_trans (setAll_len _ _ _) ?_⟩
    have := mv_len s x
    have := h.len
    show (mvL s.l s.now x).length + _ ≤ n
    omega

/-- What is known of a board of so many. -/
structure OkB (r : Ru) (b : Bo) (n : Nat) : Prop where
  s : OkS b.s 16
  p : ∀ k, k < b.ps.length → okP r b.ps[k]!
  len : b.ps.length = n
  n16 : n ≤ 16
theorem set_at {l : List Pr} {k j : Nat} {p : Pr} (hj : j < l.length) : (l.set k p)[j]! = if k = j then p else l[j]! := by
  rw [getElem!_pos (l.set k p) j (by simpa using hj), List.getElem_set, getElem!_pos l j hj]
theorem OkB.tell {r : Ru} {b : Bo} {n : Nat} (h : OkB r b n) (hr : okR r = true) (k : Int) (g : Bool) : OkB r (tellB r b k g) n := by
  unfold tellB
  split
  · rename_i hk
    have hk2 := of_decide_eq_true hk
    refine ⟨h.s, fun j hj => ?_, by simpa using h.len, h.n16⟩
    have hj' : j < b.ps.length := by simpa using hj
    show okP r (b.ps.set k.toNat _)[j]!
    rw [set_at hj']
    split
    · exact okP_tell hr (h.p _ (by omega)) g
    · exact h.p j hj'
  · exact h
theorem OkB.move {r : Ru} {b : Bo} {n : Nat} (h : OkB r b n) (x : Int) : OkB r ⟨b.ps, bmS r b.s x⟩ n := ⟨bm_ok h.s r x, h.p, h.len, h.n16⟩
def laidB (n : Nat) : Bo := ⟨List.replicate n ⟨false, 0⟩, layS n⟩
theorem laidB_ok {r : Ru} (hr : okR r = true) {n : Nat} (hn : n ≤ 16) : OkB r (laidB n) n :=
  ⟨(layS_ok n).mono hn, fun k hk => by
    have hk' : k < n := by simpa [laidB] using hk
    show okP r (List.replicate n _)[k]!
    rw [getElem!_pos _ k (by simpa using hk'), List.getElem_replicate]
    exact okP_new hr _, by simp [laidB], hn⟩

/-! ## In memory -/
def ptrs (qs : List Nat) : List Value := qs.map fun b => .pointer (some ⟨b, 0, none⟩)
theorem ptrs_len (qs : List Nat) : (ptrs qs).length = qs.length := by simp [ptrs]
theorem prow_at {w : World} {base n g c : Nat} {qs : List Nat} (h : w.ownsRow base 25 1 (.slice (some ⟨g, 0, none⟩) n c) n (ptrs qs)) {i : Nat} (hi : i < n) : w.cell? ⟨g, i, none⟩ = some (.pointer (some ⟨qs[i]!, 0, none⟩)) := by
  have hl : qs.length = n := by have := h.1; rw [ptrs_len] at this; omega
  rw [h.cellAt i (by omega), ptrs, List.getElem?_map, List.getElem?_eq_getElem (by omega), getElem!_pos qs i (by omega)]
  rfl

structure BdS (w : World) (F : Nat → Prop) (B : Nat) (r : Ru) (ps : List Pr) (qs : List Nat) (v : Value) (W : Nat) (G : Nat → Prop) (s : St) : Prop where
  lt : ∀ i, F i → i < w.heap.size
  inB : F B
  c0 : w.cell? ⟨B, 0, none⟩ = some (.int .i64 r.rise)
  c1 : w.cell? ⟨B, 1, none⟩ = some (.int .i64 r.fall)
  c2 : w.cell? ⟨B, 2, none⟩ = some (.int .i64 r.every)
  c3 : w.cell? ⟨B, 3, none⟩ = some v
  c4 : w.cell? ⟨B, 4, none⟩ = some (.pointer (some ⟨W, 0, none⟩))
  frz : ∀ j, w.frozen? ⟨B, j, none⟩ = false
  row : w.ownsRow 0 25 1 v qs.length (ptrs qs)
  vF : ∀ g, v.ownBlock = some g → F g ∧ g ≠ B ∧ ¬ G g ∧ ∀ k, k < qs.length → qs[k]! ≠ g
  len : qs.length = ps.length
  pb : ∀ k, k < qs.length → PbAt w qs[k]! r ps[k]!
  pF : ∀ k, k < qs.length → F qs[k]! ∧ qs[k]! ≠ B ∧ ¬ G qs[k]!
  nod : ∀ j k, j < qs.length → k < qs.length → j ≠ k → qs[j]! ≠ qs[k]!
  wh : Wh w G W s.now s.l s.l
  gF : ∀ i, G i → F i ∧ i ≠ B

def Bd (w : World) (F : Nat → Prop) (B : Nat) (r : Ru) (b : Bo) : Prop := ∃ qs v W G, BdS w F B r b.ps qs v W G b.s

section
variable {w w' : World} {F F' : Nat → Prop} {B W : Nat} {r : Ru} {ps : List Pr} {qs : List Nat} {v : Value} {G G' : Nat → Prop} {s s' : St}

theorem BdS.only (h : BdS w F B r ps qs v W G s) (ho : Only F' w w') (hF : ∀ i, F i → ¬ F' i) : BdS w' F B r ps qs v W G s := by
  have e : ∀ j, w'.cell? ⟨B, j, none⟩ = w.cell? ⟨B, j, none⟩ := fun j => ho.cell (p := ⟨B, j, none⟩) (h.lt B h.inB) (hF B h.inB)
  have e2 : ∀ j, w'.frozen? ⟨B, j, none⟩ = w.frozen? ⟨B, j, none⟩ := fun j => ho.frozen (p := ⟨B, j, none⟩) (h.lt B h.inB) (hF B h.inB)
  exact ⟨fun i hi => Nat.lt_of_lt_of_le (h.lt i hi) ho.size, h.inB, (e 0).trans h.c0, (e 1).trans h.c1, (e 2).trans h.c2, (e 3).trans h.c3, (e 4).trans h.c4, fun j => (e2 j).trans (h.frz j),
    row_only h.row ho fun g hg => hF g (h.vF g hg).1, h.vF, h.len, fun k hk => (h.pb k hk).only ho (hF _ (h.pF k hk).1), h.pF, h.nod, h.wh.only ho fun i hi => hF i (h.gF i hi).1, h.gF⟩
theorem Bd.only {b : Bo} (h : Bd w F B r b) (ho : Only F' w w') (hF : ∀ i, F i → ¬ F' i) : Bd w' F B r b := by
  obtain ⟨qs, v, W, G, h⟩ := h
  exact ⟨qs, v, W, G, h.only ho hF⟩
theorem Bd.below {b : Bo} (h : Bd w F B r b) (hb : Below w.heap.size w w') : Bd w' F B r b :=
  h.only (F' := fun _ => False) (Only.of_below hb) fun _ _ h => h
theorem Bd.lt {b : Bo} (h : Bd w F B r b) : ∀ i, F i → i < w.heap.size := by
  obtain ⟨qs, v, W, G, h⟩ := h
  exact h.lt

/-- A probe is told something. -/
theorem BdS.told (h : BdS w F B r ps qs v W G s) {k : Nat} (hk : k < qs.length) {p : Pr} (hp : PbAt w' qs[k]! r p) (ho : Only (fun i => i = qs[k]!) w w') : BdS w' F B r (ps.set k p) qs v W G s := by
  have hpk := h.pF k hk
  have nB : B ≠ qs[k]! := Ne.symm hpk.2.1
  have e : ∀ j, w'.cell? ⟨B, j, none⟩ = w.cell? ⟨B, j, none⟩ := fun j => ho.cell (p := ⟨B, j, none⟩) (h.lt B h.inB) nB
  have e2 : ∀ j, w'.frozen? ⟨B, j, none⟩ = w.frozen? ⟨B, j, none⟩ := fun j => ho.frozen (p := ⟨B, j, none⟩) (h.lt B h.inB) nB
  refine ⟨fun i hi => Nat.lt_of_lt_of_le (h.lt i hi) ho.size, h.inB, (e 0).trans h.c0, (e 1).trans h.c1, (e 2).trans h.c2, (e 3).trans h.c3, (e 4).trans h.c4, fun j => (e2 j).trans (h.frz j),
    row_only h.row ho fun g hg e => (h.vF g hg).2.2.2 k hk e.symm, h.vF, by simpa using h.len, fun j hj => ?_, h.pF, h.nod, h.wh.only ho fun i hi e => hpk.2.2 (e ▸ hi), h.gF⟩
  rw [set_at (by rw [← h.len]; exact hj)]
  by_cases e : k = j
  · subst e
    rw [if_pos rfl]
    exact hp
  · rw [if_neg e]
    exact (h.pb j hj).only ho (h.nod j k hj hk (Ne.symm e))

/-- The wheel has gone on. -/
theorem BdS.wheel (h : BdS w F B r ps qs v W G s) (hW : Wh w' G' W s'.now s'.l s'.l) (hG : ∀ i, G' i → G i ∨ w.heap.size ≤ i) (ho : Only G w w') : BdS w' (fun i => F i ∨ G' i) B r ps qs v W G' s' := by
  have hGlt : ∀ i, G' i → i < w'.heap.size := by obtain ⟨M, sl, h⟩ := hW; exact h.lt
  have nG : ∀ i, F i → ¬ G i → ¬ G' i := fun i hi hn hg => by
    rcases hG i hg with h1 | h1
    · exact hn h1
    · have := h.lt i hi; omega
  have nB : ¬ G B := fun hg => (h.gF B hg).2 rfl
  have e : ∀ j, w'.cell? ⟨B, j, none⟩ = w.cell? ⟨B, j, none⟩ := fun j => ho.cell (p := ⟨B, j, none⟩) (h.lt B h.inB) nB
  have e2 : ∀ j, w'.frozen? ⟨B, j, none⟩ = w.frozen? ⟨B, j, none⟩ := fun j => ho.frozen (p := ⟨B, j, none⟩) (h.lt B h.inB) nB
  refine ⟨?_, .inl h.inB, (e 0).trans h.c0, (e 1).trans h.c1, (e 2).trans h.c2, (e 3).trans h.c3, (e 4).trans h.c4, fun j => (e2 j).trans (h.frz j),
    row_only h.row ho fun g hg => (h.vF g hg).2.2.1, fun g hg => ?_, h.len, fun k hk => (h.pb k hk).only ho (h.pF k hk).2.2, fun k hk => ?_, h.nod, hW, fun i hi => ⟨.inr hi, fun e => ?_⟩⟩
  · rintro i (hi | hi)
    · exact Nat.lt_of_lt_of_le (h.lt i hi) ho.size
    · exact hGlt i hi
  · have h1 := h.vF g hg
    exact ⟨.inl h1.1, h1.2.1, nG g h1.1 h1.2.2.1, h1.2.2.2⟩
  · have h1 := h.pF k hk
    exact ⟨.inl h1.1, h1.2.1, nG _ h1.1 h1.2.2⟩
  · subst e
    exact nG i h.inB nB hi
theorem BdS.wheel_in (h : BdS w F B r ps qs v W G s) (hG : ∀ i, G' i → G i ∨ w.heap.size ≤ i) : ∀ i, (F i ∨ G' i) → F i ∨ w.heap.size ≤ i := by
  rintro i (hi | hi)
  · exact .inl hi
  · rcases hG i hi with h1 | h1
    · exact .inl (h.gF i h1).1
    · exact .inr h1
theorem BdS.wheel_only (h : BdS w F B r ps qs v W G s) (ho : Only G w w') : Only F w w' := ho.mono fun i hi => (h.gF i hi).1

theorem info25 : (Try.prog.info? 25).map (fun i => (i.zero, i.size, i.bytes)) = some (some (.pointer none), 1, 8) := by kernel_rfl
theorem append_ptr {b x : Nat} {o : Value} {O : List Nat} (ho : w.ownsRow b 25 1 o O.length (ptrs O)) (hb : b ≤ w.heap.size) (hl : O.length ≤ 1000) :
    ∃ v' w', (Builtin.append_ #[75, 75] 75 #[o, .slice (some ⟨w.heap.size, 0, none⟩) 1 1]).run Try.prog (w.alloc (.cells #[.pointer (some ⟨x, 0, none⟩)] 25)) = .ok v' w' ∧ w'.ownsRow b 25 1 v' (O ++ [x]).length (ptrs (O ++ [x])) ∧ Only (fun i => o.ownBlock = some i) w w' ∧ (∀ g, v'.ownBlock = some g → o.ownBlock = some g ∨ w.heap.size ≤ g) := by
  have hb2 : Below w.heap.size w (w.alloc (.cells #[.pointer (some ⟨x, 0, none⟩)] 25)) := below_alloc (Below.refl _ _) _
  obtain ⟨i0, hi, hz0, hz1, hz2⟩ := info_parts info25
  obtain ⟨v', w', hr, h2, h3, _, h5⟩ := run_append_own_at (P := Try.prog) (w.alloc (.cells #[.pointer (some ⟨x, 0, none⟩)] 25)) b 75 75 25 i0 _ 1 8 Try.underlying75 hi hz0 hz1 hz2 rfl (by decide) o O.length _ (row_below ho hb2) ⟨w.heap.size, 0, none⟩ 1 1 [.pointer (some ⟨x, 0, none⟩)] rfl (cell_one_new _ _ _) (by simp [Value.oneCell']) (by simp only [maxLen]; omega) (by omega) (Nat.le_trans hb hb2.size)
  refine ⟨v', w', hr, ?_, ?_, fun g hg => ?_⟩
  · rw [List.length_append, ptrs, List.map_append]; exact h2
  · exact Only.trans (Only.of_below hb2) (Only.of_grown (F := fun i => o.ownBlock = some i) h3 fun i hi => hi) fun i hi => .inl hi
  · rcases h5 with h5 | h5
    · left; rw [← h5]; exact hg
    · right
      rw [h5] at hg
      have := Option.some.inj hg
      simp at this
      omega

theorem app_at {qs : List Nat} {x k : Nat} (hk : k < (qs ++ [x]).length) : (qs ++ [x])[k]! = if k < qs.length then qs[k]! else x := by
  rw [getElem!_pos _ k hk]
  split
  · rename_i h
    rw [List.getElem_append_left h, getElem!_pos qs k h]
  · rename_i h
    rw [List.getElem_append_right (by omega)]
    simp
theorem app_atP {qs : List Pr} {x : Pr} {k : Nat} (hk : k < (qs ++ [x]).length) : (qs ++ [x])[k]! = if k < qs.length then qs[k]! else x := by
  rw [getElem!_pos _ k hk]
  split
  · rename_i h
    rw [List.getElem_append_left h, getElem!_pos qs k h]
  · rename_i h
    rw [List.getElem_append_right (by omega)]
    simp

/-- One probe more. -/
theorem BdS.more (h : BdS w F B r ps qs v W G s) (hq : qs.length ≤ 100) (p : Pr) :
    ∃ v' w3, (Builtin.append_ #[75, 75] 75 #[v, .slice (some ⟨w.heap.size + 1, 0, none⟩) 1 1]).run Try.prog ((w.alloc (.cells #[.int .i64 r.rise, .int .i64 r.fall, .int .i64 r.every, .bool p.up, .int .i64 p.run] 69)).alloc (.cells #[.pointer (some ⟨w.heap.size, 0, none⟩)] 25)) = .ok v' w3 ∧
      B < w3.heap.size ∧ w3.cell? ⟨B, 3, none⟩ = some v ∧ w3.frozen? ⟨B, 3, none⟩ = false ∧
      ∃ F', BdS (w3.setCell ⟨B, 3, none⟩ v') F' B r (ps ++ [p]) (qs ++ [w.heap.size]) v' W G s ∧ (∀ i, F' i → F i ∨ w.heap.size ≤ i) ∧ Only F w (w3.setCell ⟨B, 3, none⟩ v') := by
  obtain ⟨w1, hw1⟩ : ∃ X, X = w.alloc (.cells #[.int .i64 r.rise, .int .i64 r.fall, .int .i64 r.every, .bool p.up, .int .i64 p.run] 69) := ⟨_, rfl⟩
  have hb1 : Below w.heap.size w w1 := by rw [hw1]; exact below_alloc (Below.refl _ _) _
  have hs1 : w1.heap.size = w.heap.size + 1 := by rw [hw1]; simp
  have hpn : PbAt w1 w.heap.size r p := by rw [hw1]; exact pb_new w r p
  obtain ⟨v', w3, hr, hrow, ho, hv⟩ := append_ptr (x := w.heap.size) (row_below h.row hb1) (Nat.zero_le _) (by omega)
  rw [hs1] at hr hv
  rw [← hw1]
  have ho2 : Only (fun i => v.ownBlock = some i) w w3 := (Only.of_below hb1).trans ho fun i hi => .inl hi
  have nB : ¬ v.ownBlock = some B := fun e => (h.vF B e).2.1 rfl
  have hBl := h.lt B h.inB
  have e : ∀ j, w3.cell? ⟨B, j, none⟩ = w.cell? ⟨B, j, none⟩ := fun j => ho2.cell (p := ⟨B, j, none⟩) hBl nB
  have e2 : ∀ j, w3.frozen? ⟨B, j, none⟩ = w.frozen? ⟨B, j, none⟩ := fun j => ho2.frozen (p := ⟨B, j, none⟩) hBl nB
  have hBl3 : B < w3.heap.size := Nat.lt_of_lt_of_le hBl ho2.size
  have hoB : Only (fun i => i = B) w3 (w3.setCell ⟨B, 3, none⟩ v') := Only.setCell (F := fun i => i = B) (Only.refl (fun i => i = B) w3) (p := ⟨B, 3, none⟩) (Or.inl rfl) v'
  have hvlt : ∀ g, v'.ownBlock = some g → g < w3.heap.size := fun g hg => (hrow.lt g hg).2
  have hvB : ∀ g, v'.ownBlock = some g → g ≠ B ∧ ¬ G g ∧ (∀ k, k < qs.length → qs[k]! ≠ g) ∧ g ≠ w.heap.size := fun g hg => by
    rcases hv g hg with e | e
    · have h1 := h.vF g e
      have := h.lt g h1.1
      exact ⟨h1.2.1, h1.2.2.1, h1.2.2.2, by omega⟩
    · refine ⟨by omega, fun hg2 => ?_, fun k hk e2 => ?_, by omega⟩
      · have := h.lt g (h.gF g hg2).1; omega
      · have := h.lt _ (h.pF k hk).1; omega
  have c3 := e 3
  rw [h.c3] at c3
  have f3 := e2 3
  rw [h.frz 3] at f3
  have k0 := (e 0).trans h.c0
  have k1 := (e 1).trans h.c1
  have k2 := (e 2).trans h.c2
  have k4 := (e 4).trans h.c4
  have kf := fun j => (e2 j).trans (h.frz j)
  refine ⟨v', w3, hr, hBl3, c3, f3, fun i => F i ∨ i = w.heap.size ∨ v'.ownBlock = some i, ⟨?_, .inl h.inB, ?_, ?_, ?_, ?_, ?_, ?_, ?_, ?_, ?_, ?_, ?_, ?_, ?_, ?_⟩, ?_, ?_⟩
  · rintro i (hi | hi | hi)
    · have := h.lt i hi; have := ho2.size; simp; omega
    · have := ho.size; simp; omega
    · simpa using hvlt i hi
  · simp [go_sem, k0]
  · simp [go_sem, k1]
  · simp [go_sem, k2]
  · simp [go_sem, c3, hBl3]
  · simp [go_sem, k4]
  · intro j; simp [go_sem, kf]
  · exact row_only hrow hoB fun g hg => (hvB g hg).1
  · intro g hg
    have h1 := hvB g hg
    refine ⟨.inr (.inr hg), h1.1, h1.2.1, fun k hk => ?_⟩
    rw [app_at hk]
    split
    · rename_i h2; exact h1.2.2.1 k h2
    · exact Ne.symm h1.2.2.2
  · simp [h.len]
  · intro k hk
    rw [app_at hk, app_atP (by rw [List.length_append] at hk ⊢; rw [← h.len]; exact hk), ← h.len]
    split
    · rename_i h2
      have hp := h.pF k h2
      exact ((h.pb k h2).only ho2 fun e => (h.vF _ e).2.2.2 k h2 rfl).only hoB hp.2.1
    · exact (hpn.only ho fun e => by have := h.lt _ (h.vF _ e).1; omega).only hoB (by omega)
  · intro k hk
    rw [app_at hk]
    split
    · rename_i h2
      have hp := h.pF k h2
      exact ⟨.inl hp.1, hp.2⟩
    · exact ⟨.inr (.inl rfl), by omega, fun hg => by have := h.lt _ (h.gF _ hg).1; omega⟩
  · intro j k hj hk hjk
    have hl : (qs ++ [w.heap.size]).length = qs.length + 1 := by simp
    rw [app_at hj, app_at hk]
    split
    · rename_i h2
      split
      · rename_i h3; exact h.nod j k h2 h3 hjk
      · have := h.lt _ (h.pF j h2).1; omega
    · split
      · rename_i h3; have := h.lt _ (h.pF k h3).1; omega
      · omega
  · exact (h.wh.only ho2 fun i hi e => (h.vF i e).2.2.1 hi).only hoB fun i hi => (h.gF i hi).2
  · exact fun i hi => ⟨.inl (h.gF i hi).1, (h.gF i hi).2⟩
  · rintro i (hi | hi | hi)
    · exact .inl hi
    · exact .inr (by omega)
    · rcases hv i hi with e | e
      · exact .inl (h.vF i e).1
      · exact .inr (by omega)
  · exact (ho2.mono fun i hi => (h.vF i hi).1).setCell (.inl h.inB) _
end

end Go.Proofs.Ytkcndgiiangmjaa
