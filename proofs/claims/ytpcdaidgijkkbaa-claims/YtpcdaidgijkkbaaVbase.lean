/-
  What stays as it was while a call works on blocks of its own; addresses, events and a machine in memory.
-/
import Derived.Test.YtpcdaidgijkkbaaRows
import Derived.Test.YtpcdaidgijkkbaaVmath
import Derived.Test.YtpcdaidgijkkbaaAdecb
import Derived.WalkKit
import Derived.WalkSpells
import Derived.WalkSmall
import Derived.BigQuiet
import Derived.Deep.QuietTactic
import Derived.Deep.Draws
import Derived.Deep.LoopGhost
import Derived.WalkMore
import Derived.Lib.Hide
import Derived.Lib.SliceRun
import Derived.Maps.AppendAt
import Derived.Maps.OwnSet
import Derived.Maps.RangeWalk
import Derived.Sort.KeysCollected
import Derived.Laws.MakeOwn
import Derived.Laws.OwnMore
import Derived.Laws.CopyRow
import Derived.Laws.CopyOwn
import Derived.Laws.IdiomCopy
import Derived.ArgAppend
import Derived.Deep.RegionLaw
import Derived.Deep.RegionHeld3
import Derived.StillTailTactics
import Derived.Deep.RegionHeldLaw
import Derived.Shelf.SlicesE.Clone
namespace Go.Proofs.Ytpcdaidgijkkbaa
open Go.RowKit
set_option linter.unusedVariables false
set_option linter.unusedSimpArgs false

theorem wp_region_tail {P : Program} {id : Nat} {Q : Exit → Act → World → Prop} {a : Act} {w : World} {l : List Oper} (n : Nat) (hm : P.follows .mixedOrders = true) (hB : Region.lexTailB .any l.toArray n = true)
    (h : wpStill P l.toArray w.drew (fun a' => wpList P l.toArray Q (l.drop n) a' w.drew) (l.take n) a) : (Code.region id l.toArray true).wp P Q a w := wp_region_still_tail n hm hB h
theorem same_turn {P : Program} {f : FuncId} {args : Array Value} {w : World} {v : Value} (h : Calls P f args w fun e w' => e = .returned v ∧ w = w') : Calls P f args w fun e w' => e = .returned v ∧ w' = w := h.mono fun _ _ h => ⟨h.1, h.2.symm⟩
theorem info22 : (Try.prog.info? 22).map (fun i => (i.zero, i.size, i.bytes)) = some (some (.string ⟨#[]⟩), 1, 16) := by kernel_rfl
theorem info58 : (Try.prog.info? 58).map (fun i => (i.zero, i.size, i.bytes)) = some (some (.agg #[.int .i64 0, .int .i64 0, .int .i64 0, .int .i64 0, .slice none 0 0]), 5, 56) := by kernel_rfl
theorem info78 : (Try.prog.info? 78).map (fun i => (i.zero, i.size, i.bytes)) = some (some (.agg #[.int .i64 0, .int .i64 0, .int .i64 0, .int .i64 0, .slice none 0 0]), 5, 56) := by kernel_rfl

/-! ## What a call may turn -/
/-- Of the blocks that were there only those in F are others. -/
structure Only (F : Nat → Prop) (w w' : World) : Prop where
  os : w'.os = w.os
  tape : w'.tape = w.tape
  output : w'.output = w.output
  size : w.heap.size ≤ w'.heap.size
  block : ∀ k, k < w.heap.size → ¬ F k → w'.heap[k]? = w.heap[k]?

theorem Only.refl (F : Nat → Prop) (w : World) : Only F w w := ⟨rfl, rfl, rfl, Nat.le_refl _, fun _ _ _ => rfl⟩
theorem Only.trans {F F' : Nat → Prop} {a b c : World} (h : Only F a b) (k : Only F' b c) (hF : ∀ i, F' i → F i ∨ a.heap.size ≤ i) : Only F a c :=
  ⟨k.os.trans h.os, k.tape.trans h.tape, k.output.trans h.output, Nat.le_trans h.size k.size, fun i hi hn => by
    rw [k.block i (Nat.lt_of_lt_of_le hi h.size) (fun hf => by rcases hF i hf with h1 | h1; exact hn h1; omega), h.block i hi hn]⟩
theorem Only.mono {F F' : Nat → Prop} {a b : World} (h : Only F a b) (hF : ∀ i, F i → F' i) : Only F' a b :=
  ⟨h.os, h.tape, h.output, h.size, fun i hi hn => h.block i hi fun hf => hn (hF i hf)⟩
theorem Only.below {F : Nat → Prop} {a b : World} (h : Only F a b) {B : Nat} (hB : B ≤ a.heap.size) (hF : ∀ i, F i → B ≤ i) : Below B a b :=
  ⟨h.os, h.tape, h.output, h.size, fun i hi => h.block i (by omega) fun hf => by have := hF i hf; omega⟩
theorem Only.of_below {F : Nat → Prop} {a b : World} (h : Below a.heap.size a b) : Only F a b := ⟨h.os, h.tape, h.output, h.size, fun i hi _ => h.block i hi⟩
theorem Only.of_grown {F : Nat → Prop} {a b : World} {row : Option Nat} (h : a.grownBy b row) (hF : ∀ i, row = some i → F i) : Only F a b :=
  ⟨h.os, h.tape, h.output, h.size, fun i hi hn => h.block i hi fun e => hn (hF i e.symm)⟩
theorem Only.drewN {F : Nat → Prop} {a b : World} (h : Only F a b) (n : Nat) : Only F a (b.drewN n) := ⟨h.os, h.tape, h.output, h.size, h.block⟩
theorem Only.drew {F : Nat → Prop} {a b : World} (h : Only F a b) : Only F a b.drew := ⟨h.os, h.tape, h.output, h.size, h.block⟩
theorem Only.alloc {F : Nat → Prop} {a b : World} (h : Only F a b) (o : Obj) : Only F a (b.alloc o) :=
  ⟨h.os, h.tape, h.output, by simp; exact Nat.le_succ_of_le h.size, fun i hi hn => by rw [Below.heap_alloc b o i (Nat.lt_of_lt_of_le hi h.size)]; exact h.block i hi hn⟩
theorem Only.setCell {F : Nat → Prop} {a b : World} (h : Only F a b) {p : Addr} (hp : F p.block ∨ a.heap.size ≤ p.block) (u : Value) : Only F a (b.setCell p u) :=
  ⟨h.os, h.tape, h.output, by simpa using h.size, fun i hi hn => by
    rw [Below.heap_setCell b p u i (fun e => by rcases hp with h1 | h1; exact hn (e ▸ h1); omega)]; exact h.block i hi hn⟩
theorem Only.cell {F : Nat → Prop} {a b : World} (h : Only F a b) {p : Addr} (hp : p.block < a.heap.size) (hF : ¬ F p.block) : b.cell? p = a.cell? p := World.cell?_of_block (h.block p.block hp hF)
theorem Only.frozen {F : Nat → Prop} {a b : World} (h : Only F a b) {p : Addr} (hp : p.block < a.heap.size) (hF : ¬ F p.block) : b.frozen? p = a.frozen? p := World.frozen?_of_block (h.block p.block hp hF)

theorem row_only {F : Nat → Prop} {w w' : World} {base e size n : Nat} {v : Value} {xs : List Value} (h : w.ownsRow base e size v n xs) (ho : Only F w w') (hF : ∀ g, v.ownBlock = some g → ¬ F g) : w'.ownsRow base e size v n xs := by
  refine ⟨h.1, ?_⟩
  rcases h.2 with hn | ⟨g, cap, cur, rfl, hb, hg, rest⟩
  · exact .inl hn
  · refine .inr ⟨g, cap, cur, rfl, hb, ?_, rest⟩
    rw [ho.block g (Array.getElem?_eq_some_iff.1 hg).1 (hF g rfl)]
    exact hg
theorem row_below {w w' : World} {base e size n : Nat} {v : Value} {xs : List Value} (h : w.ownsRow base e size v n xs) (ho : Below w.heap.size w w') : w'.ownsRow base e size v n xs :=
  row_only (F := fun _ => False) h (Only.of_below ho) fun _ _ h => h
theorem row_base {w : World} {base base' e size n : Nat} {v : Value} {xs : List Value} (h : w.ownsRow base e size v n xs) (hb : base' ≤ base) : w.ownsRow base' e size v n xs := by
  refine ⟨h.1, ?_⟩
  rcases h.2 with hn | ⟨g, cap, cur, rfl, hbg, rest⟩
  · exact .inl hn
  · exact .inr ⟨g, cap, cur, rfl, Nat.le_trans hb hbg, rest⟩
theorem row_slice {w : World} {base e size n : Nat} {v : Value} {xs : List Value} (h : w.ownsRow base e size v n xs) (hn : 0 < n) : ∃ g c, v = .slice (some ⟨g, 0, none⟩) n c ∧ n ≤ c ∧ c ≤ maxLen ∧ base ≤ g ∧ g < w.heap.size := by
  rcases h.2 with ⟨rfl, h0⟩ | ⟨g, cap, cur, rfl, hb, hg, hnc, hcm, _⟩
  · omega
  · exact ⟨g, cap, rfl, hnc, hcm, hb, (Array.getElem?_eq_some_iff.1 hg).1⟩
theorem row_any {w : World} {base e size n : Nat} {v : Value} {xs : List Value} (h : w.ownsRow base e size v n xs) : ∃ a c, v = .slice a n c ∧ n ≤ c ∧ c ≤ maxLen := by
  rcases h.2 with ⟨rfl, rfl⟩ | ⟨g, cap, cur, rfl, hb, hg, hnc, hcm, _⟩
  · exact ⟨none, 0, rfl, Nat.le_refl _, by simp [maxLen]⟩
  · exact ⟨_, cap, rfl, hnc, hcm⟩
/-- Of what type a row's block is, and where it lies. -/
theorem row_type {w : World} {base e size n : Nat} {v : Value} {xs : List Value} (h : w.ownsRow base e size v n xs) {g : Nat} (hg : v.ownBlock = some g) : base ≤ g ∧ ∃ cur, w.heap[g]? = some (.cells cur e (0, 0)) := by
  rcases h.2 with ⟨rfl, h0⟩ | ⟨g', cap, cur, rfl, hb, hg', _⟩
  · simp [Value.ownBlock] at hg
  · obtain rfl : g' = g := by simpa [Value.ownBlock] using hg
    exact ⟨hb, cur, hg'⟩

/-! ## Boxes -/
/-- A box: a block of just these cells. -/
def Cb (w : World) (b : Nat) (t : TypeId) (vs : List Value) : Prop := w.heap[b]? = some (.cells vs.toArray t (0, 0))
theorem Cb.below {w w' : World} {b : Nat} {t : TypeId} {vs : List Value} (h : Cb w b t vs) (hb : Below w.heap.size w w') : Cb w' b t vs := (hb.block b (Array.getElem?_eq_some_iff.1 h).1).trans h
theorem Cb.only {w w' : World} {F : Nat → Prop} {b : Nat} {t : TypeId} {vs : List Value} (h : Cb w b t vs) (hb : Only F w w') (hF : ¬ F b) : Cb w' b t vs := (hb.block b (Array.getElem?_eq_some_iff.1 h).1 hF).trans h
theorem Cb.low {w w' : World} {b n : Nat} {t : TypeId} {vs : List Value} (h : Cb w n t vs) (hb : Below b w w') (hn : n < b) : Cb w' n t vs := (hb.block n hn).trans h
theorem Cb.lt {w : World} {b : Nat} {t : TypeId} {vs : List Value} (h : Cb w b t vs) : b < w.heap.size := (Array.getElem?_eq_some_iff.1 h).1
theorem Cb.new (w : World) (vs : List Value) (t : TypeId) : Cb (w.alloc (.cells vs.toArray t)) w.heap.size t vs := heap_alloc_new _ _
theorem Cb.drew {w : World} {b : Nat} {t : TypeId} {vs : List Value} (h : Cb w b t vs) : Cb w.drew b t vs := h
theorem Cb.drewN {w : World} {b : Nat} {t : TypeId} {vs : List Value} (h : Cb w b t vs) (q : Nat) : Cb (w.drewN q) b t vs := h
theorem Cb.alloc {w : World} {b : Nat} {t : TypeId} {vs : List Value} (h : Cb w b t vs) (o : Obj) : Cb (w.alloc o) b t vs := h.below (below_alloc (Below.refl _ _) o)
theorem Cb.cell {w : World} {b : Nat} {t : TypeId} {vs : List Value} (h : Cb w b t vs) (j : Nat) : w.cell? ⟨b, j, none⟩ = vs[j]? := by
  rw [cell_of_row w b j vs.toArray t (0, 0) h]; simp
theorem Cb.free {w : World} {b : Nat} {t : TypeId} {vs : List Value} (h : Cb w b t vs) (j : Nat) : w.frozen? ⟨b, j, none⟩ = false := frozen_of_row w b j vs.toArray t h
theorem Cb.setAt {w : World} {b : Nat} {t : TypeId} {vs : List Value} (h : Cb w b t vs) (j : Nat) (v : Value) : Cb (w.setCell ⟨b, j, none⟩ v) b t (vs.set j v) := by
  unfold Cb
  rw [heap_setCell_same w b j vs.toArray t v h]
  congr 2
  simp

/-! ## Addresses -/
def laysClone_ren : Go.Shelf.Ren := ⟨fun | 41 => 32 | n => n, fun | 22 => 23 | 23 => 22 | 4 => 4 | n => n, fun | n => n⟩
theorem laysClone : Go.Proofs.SlLaysE0.n41 Try.prog laysClone_ren := {
  mixed := by kernel_rfl
  f41 := ⟨Try.f32.name, by decide, Try.func32.trans (congrArg some (by kernel_rfl))⟩
  t4 := Try.underlying4
  a4 := Try.isAgg4
  z4 := Try.sizeOf4
  v4 := Try.zeroValue4
  t22 := Try.underlying23
  a22 := Try.isAgg23
  z22 := Try.sizeOf23
  v22 := Try.zeroValue23 }

/-- A row of addresses of somebody's own. -/
def Adr (w : World) (base : Nat) (v : Value) (ss : List ByteArray) : Prop := w.ownsRow base 22 1 v ss.length (ss.map Value.string)
theorem Adr.below {w w' : World} {base : Nat} {v : Value} {ss : List ByteArray} (h : Adr w base v ss) (hb : Below w.heap.size w w') : Adr w' base v ss := row_below h hb
theorem Adr.base {w : World} {base base' : Nat} {v : Value} {ss : List ByteArray} (h : Adr w base v ss) (hb : base' ≤ base) : Adr w base' v ss := row_base h hb
theorem Adr.nil (w : World) (base : Nat) : Adr w base (.slice none 0 0) [] := World.ownsRow_nil w base 22 1
theorem Adr.strs {w : World} {base : Nat} {v : Value} {ss : List ByteArray} (h : Adr w base v ss) (hz : ∀ s ∈ ss, s.size ≤ 9223372036854775807) : ∃ A c, v = .slice A ss.length c ∧ Strs w A ss.length c ss := by
  rcases h.2 with ⟨rfl, h0⟩ | ⟨g, cap, cur, rfl, hb, hg, hnc, hcm, _⟩
  · refine ⟨none, 0, by rw [h0], rfl, by omega, by simp [maxLen], hz, fun h => by omega⟩
  · refine ⟨_, cap, rfl, rfl, hnc, hcm, hz, fun _ => ⟨g, 0, rfl, fun j s hj => ?_⟩⟩
    have := h.cells (g := g) rfl j (.string s) (by rw [List.getElem?_map, hj]; rfl)
    rwa [add_plain] at this

set_option maxHeartbeats 1000000 in
set_option maxRecDepth 100000 in
/-- slices.Clone of no address. -/
theorem clone_zero (a : Addr) (c : Nat) (w : World) : Calls Try.prog 32 #[.slice (some a) 0 c] w fun e w' => ∃ v', e = .returned v' ∧ w'.ownsRow w.heap.size 22 1 v' 0 [] ∧ Below w.heap.size w w' := by
  obtain ⟨i0, hi, hz0, hz1, hz2⟩ := info_parts info22
  have t22 := Try.underlying23
  have q22 : ∀ (w : World) (a : Option Addr) (n c n' c' : Nat), (binOp .eql 23 (.slice a n c) (.slice none n' c')).run Try.prog w = .ok (.bool a.isNone) w := fun w a n c n' c' => Lib.run_eql_slice_nil w _ _ a n c n' c' Try.underlying23
  go_enter Try.func32, Try.ntmps32
  go_wp2_with (at_builtin; refine wpList_append_own _ rfl _ _ 23 rfl w.heap.size 22 i0 _ 1 16 t22 hi hz0 hz1 hz2 rfl (by decide) _ _ _ rfl (World.ownsRow_made w #[] 0 (Nat.le_refl _) (Nat.zero_le _) (by simp)) a 0 c [] rfl rfl (fun j u hj => by simp at hj) (fun u hu => by simp at hu) (by simp [maxLen]) (by simp) (by simp) ?_)
  intro v' w1 hown hgrow hnil
  go_wp2
  go_ret
  exact ⟨v', rfl, by simpa using hown, ((Below.refl _ w).alloc (Nat.le_refl _) _).grown hgrow (by simp) (by intro k hk; simp [Value.ownBlock] at hk; omega)⟩

/-- slices.Clone of addresses. -/
theorem clone_any {w : World} {A : Option Addr} {n c : Nat} {ss : List ByteArray} (hS : Strs w A n c ss) (hn : n ≤ 8796093022208) :
    Calls Try.prog 32 #[.slice A n c] w fun e w' => ∃ v', e = .returned v' ∧ Adr w' w.heap.size v' ss ∧ Below w.heap.size w w' := by
  have hl := hS.1
  cases A with
  | none =>
    have h0 : n = 0 := by
      rcases Nat.eq_zero_or_pos n with h | h
      · exact h
      · obtain ⟨b, off, e, _⟩ := hS.2.2.2.2 h; cases e
    subst h0
    obtain rfl : ss = [] := List.eq_nil_of_length_eq_zero hl
    refine (AnyE.slices_Clone_nil laysClone 0 c w).mono ?_
    rintro e w' ⟨rfl, rfl⟩
    exact ⟨_, rfl, Adr.nil _ _, Below.refl _ _⟩
  | some a =>
    rcases Nat.eq_zero_or_pos n with h | h
    · subst h
      obtain rfl : ss = [] := List.eq_nil_of_length_eq_zero hl
      exact clone_zero a c w
    · obtain ⟨b, off, e, hc⟩ := hS.2.2.2.2 h
      cases e
      obtain ⟨i0, hi, hz0, hz1, hz2⟩ := info_parts info22
      refine (AnyE.slices_Clone laysClone i0 _ 1 16 hi hz0 hz1 hz2 rfl (by decide) Try.sizeOf22 b off n c (ss.map Value.string) w (by simp [hl]) (by simp only [maxLen]; omega) (by omega) (fun j u hu => by
        rw [List.getElem?_map] at hu
        obtain ⟨s, hs, rfl⟩ := Option.map_eq_some_iff.1 hu
        exact hc j s hs) (fun u hu => by
        obtain ⟨s, _, rfl⟩ := List.mem_map.1 hu
        rfl)).mono ?_
      rintro e w' ⟨v', rfl, hrow, _, hb⟩
      refine ⟨v', rfl, ?_, hb⟩
      unfold Adr
      rw [hl]
      exact hrow

/-! ## Events -/
def ecell (x : Vt × Value) : List Value := [.int .i64 x.1.kind, .int .i64 x.1.id, .int .i64 x.1.pr, .int .i64 x.1.ev, x.2]
def ecells : List (Vt × Value) → List Value
  | [] => []
  | x :: r => .int .i64 x.1.kind :: .int .i64 x.1.id :: .int .i64 x.1.pr :: .int .i64 x.1.ev :: x.2 :: ecells r
theorem ecells_len : ∀ l : List (Vt × Value), (ecells l).length = l.length * 5
  | [] => rfl
  | x :: r => by simp [ecells, ecells_len r]; omega
theorem ecells_app : ∀ (l m : List (Vt × Value)), ecells (l ++ m) = ecells l ++ ecells m
  | [], m => rfl
  | x :: r, m => by simp [ecells, ecells_app r m]
theorem ecells_at : ∀ (l : List (Vt × Value)) (i : Nat), i < l.length → (ecells l)[i * 5]? = some (.int .i64 (l[i]!).1.kind) ∧ (ecells l)[i * 5 + 1]? = some (.int .i64 (l[i]!).1.id) ∧ (ecells l)[i * 5 + 2]? = some (.int .i64 (l[i]!).1.pr) ∧ (ecells l)[i * 5 + 3]? = some (.int .i64 (l[i]!).1.ev) ∧ (ecells l)[i * 5 + 4]? = some (l[i]!).2
  | x :: r, 0, _ => by simp [ecells]
  | x :: r, i + 1, h => by
    have ih := ecells_at r i (by simpa using h)
    have e1 : (i + 1) * 5 = i * 5 + 5 := by omega
    rw [e1]
    simpa [ecells] using ih
theorem ecells_one : ∀ (l : List (Vt × Value)), (∀ x ∈ l, x.2.oneCell' = true) → ∀ u ∈ ecells l, u.oneCell' = true
  | [], _, u, hu => by simp [ecells] at hu
  | x :: r, h, u, hu => by
    simp only [ecells, List.mem_cons] at hu
    rcases hu with rfl | rfl | rfl | rfl | rfl | hu
    · rfl
    · rfl
    · rfl
    · rfl
    · exact h x (by simp)
    · exact ecells_one r (fun y hy => h y (by simp [hy])) u hu

/-! ## A machine -/
/-- What a machine's calls may turn: its block, and rows of events. -/
structure Kp (base B : Nat) (w w' : World) : Prop where
  os : w'.os = w.os
  tape : w'.tape = w.tape
  output : w'.output = w.output
  size : w.heap.size ≤ w'.heap.size
  block : ∀ k, k < w.heap.size → k ≠ B → (∀ cur, base ≤ k → w.heap[k]? ≠ some (.cells cur 58 (0, 0))) → w'.heap[k]? = w.heap[k]?
theorem Kp.refl (base B : Nat) (w : World) : Kp base B w w := ⟨rfl, rfl, rfl, Nat.le_refl _, fun _ _ _ _ => rfl⟩
theorem Kp.trans {base B : Nat} {a b c : World} (h : Kp base B a b) (k : Kp base B b c) : Kp base B a c :=
  ⟨k.os.trans h.os, k.tape.trans h.tape, k.output.trans h.output, Nat.le_trans h.size k.size, fun i hi hn ht => by
    have e := h.block i hi hn ht
    rw [k.block i (Nat.lt_of_lt_of_le hi h.size) hn (fun cur hb => by rw [e]; exact ht cur hb), e]⟩
theorem Kp.of_below {base B : Nat} {a b : World} (h : Below a.heap.size a b) : Kp base B a b := ⟨h.os, h.tape, h.output, h.size, fun i hi _ _ => h.block i hi⟩
theorem Kp.below {base B n : Nat} {a b : World} (h : Kp base B a b) (hb : n ≤ base) (hB : n ≤ B) (hs : n ≤ a.heap.size) : Below n a b :=
  ⟨h.os, h.tape, h.output, h.size, fun i hi => h.block i (by omega) (by omega) (fun cur hb' => by omega)⟩
theorem Kp.setCell {base B : Nat} {a b : World} (h : Kp base B a b) (j : Nat) (u : Value) : Kp base B a (b.setCell ⟨B, j, none⟩ u) :=
  ⟨h.os, h.tape, h.output, by simpa using h.size, fun i hi hn ht => by rw [Below.heap_setCell b ⟨B, j, none⟩ u i hn]; exact h.block i hi hn ht⟩
theorem Kp.drewN {base B : Nat} {a b : World} (h : Kp base B a b) (n : Nat) : Kp base B a (b.drewN n) := ⟨h.os, h.tape, h.output, h.size, h.block⟩
theorem Kp.cb {base B : Nat} {a b : World} (h : Kp base B a b) {k : Nat} {t : TypeId} {vs : List Value} (hc : Cb a k t vs) (hk : k ≠ B) (ht : base ≤ k → t ≠ 58) : Cb b k t vs :=
  (h.block k hc.lt hk fun cur hb e => by
    rw [show a.heap[k]? = _ from hc] at e
    simp at e
    exact ht hb e.2).trans hc
theorem Kp.row {base B : Nat} {a b : World} (h : Kp base B a b) {bs e size n : Nat} {v : Value} {xs : List Value} (hr : a.ownsRow bs e size v n xs) (he : e ≠ 58) (hB : ∀ t vs, Cb a B t vs → t ≠ e) (hBt : ∃ t vs, Cb a B t vs) : b.ownsRow bs e size v n xs := by
  refine ⟨hr.1, ?_⟩
  rcases hr.2 with hn | ⟨g, cap, cur, rfl, hb, hg, rest⟩
  · exact .inl hn
  · refine .inr ⟨g, cap, cur, rfl, hb, ?_, rest⟩
    rw [h.block g (Array.getElem?_eq_some_iff.1 hg).1 (fun e' => by
      subst e'
      obtain ⟨t, vs, hc⟩ := hBt
      have h1 := hc
      unfold Cb at h1
      rw [hg] at h1
      simp at h1
      exact hB t vs hc h1.2.symm) (fun cur' _ e' => by
      rw [hg] at e'
      simp at e'
      exact he e'.2)]
    exact hg

/-- A machine's cells. -/
def mcells (m : Mc) (va vo : Value) : List Value := [.int .i64 m.c.id, .int .i64 m.c.pr, .int .i64 m.c.ev, .bool m.c.pre, .string m.c.fr, va, .int .i64 m.st, .int .i64 m.pace, .int .i64 m.wt, vo]
/-- A machine in memory, all of it at or above base. -/
structure MmS (base : Nat) (w : World) (B : Nat) (m : Mc) (va vo : Value) (l : List (Vt × Value)) : Prop where
  blk : Cb w B 72 (mcells m va vo)
  adr : Adr w base va m.c.ads
  row : w.ownsRow base 58 5 vo l.length (ecells l)
  evs : ∀ x ∈ l, Adr w base x.2 x.1.ads
  lst : l.map Prod.fst = m.out
  lo : base ≤ B
  ok : OkM m
def Mm (base : Nat) (w : World) (B : Nat) (m : Mc) : Prop := ∃ va vo l, MmS base w B m va vo l

section
variable {base B : Nat} {w w' : World} {m : Mc} {va vo : Value} {l : List (Vt × Value)}
theorem MmS.below (h : MmS base w B m va vo l) (hb : Below w.heap.size w w') : MmS base w' B m va vo l :=
  ⟨h.blk.below hb, h.adr.below hb, row_below h.row hb, fun x hx => (h.evs x hx).below hb, h.lst, h.lo, h.ok⟩
theorem Mm.below (h : Mm base w B m) (hb : Below w.heap.size w w') : Mm base w' B m := by
  obtain ⟨va, vo, l, h⟩ := h
  exact ⟨va, vo, l, h.below hb⟩
theorem Mm.ok (h : Mm base w B m) : OkM m := by obtain ⟨va, vo, l, h⟩ := h; exact h.ok
theorem Mm.lo (h : Mm base w B m) : base ≤ B := by obtain ⟨va, vo, l, h⟩ := h; exact h.lo
theorem Mm.lt (h : Mm base w B m) : B < w.heap.size := by obtain ⟨va, vo, l, h⟩ := h; exact h.blk.lt
/-- A machine with no events stays, whatever another does. -/
theorem MmS.kept {B' base' : Nat} (h : MmS base w B m va (.slice none 0 0) []) (hk : Kp base' B' w w') (hne : B ≠ B') (hB' : ∃ vs, Cb w B' 72 vs) : MmS base w' B m va (.slice none 0 0) [] where
  blk := hk.cb h.blk hne (fun _ => by decide)
  adr := hk.row h.adr (by decide) (fun t vs hc => by
    obtain ⟨us, hu⟩ := hB'
    unfold Cb at hc hu
    rw [hc] at hu
    simp at hu
    rw [hu.2]
    decide) (by obtain ⟨us, hu⟩ := hB'; exact ⟨72, us, hu⟩)
  row := World.ownsRow_nil w' base 58 5
  evs := fun x hx => by simp at hx
  lst := h.lst
  lo := h.lo
  ok := h.ok
theorem MmS.not_blk (h : MmS base w B m va vo l) {bs e size n : Nat} {v : Value} {xs : List Value} (hr : w.ownsRow bs e size v n xs) (he : e ≠ 72) : ¬ v.ownBlock = some B := fun hg => by
  obtain ⟨_, cur, hcur⟩ := row_type hr hg
  have := h.blk
  unfold Cb at this
  rw [hcur] at this
  simp at this
  exact he this.2
/-- Cells of a machine's own block are others. -/
theorem MmS.stored (h : MmS base w B m va vo l) (m' : Mc) (hc : m'.c.ads = m.c.ads) (ho : m'.out = m.out) (hok : OkM m') (ho2 : Only (fun i => i = B) w w') (hb : Cb w' B 72 (mcells m' va vo)) : MmS base w' B m' va vo l where
  blk := hb
  adr := by rw [hc]; exact row_only h.adr ho2 fun g hg e => h.not_blk h.adr (by decide) (e ▸ hg)
  row := row_only h.row ho2 fun g hg e => h.not_blk h.row (by decide) (e ▸ hg)
  evs := fun x hx => row_only (h.evs x hx) ho2 fun g hg e => h.not_blk (h.evs x hx) (by decide) (e ▸ hg)
  lst := h.lst.trans ho.symm
  lo := h.lo
  ok := hok
theorem Kp.of_only (h : Only (fun i => i = B) w w') : Kp base B w w' := ⟨h.os, h.tape, h.output, h.size, fun i hi hn _ => h.block i hi hn⟩
/-- What is loaded of a machine. -/
theorem MmS.cells (h : MmS base w B m va vo l) : w.cell? ⟨B, 0, none⟩ = some (.int .i64 m.c.id) ∧ w.cell? ⟨B, 1, none⟩ = some (.int .i64 m.c.pr) ∧ w.cell? ⟨B, 2, none⟩ = some (.int .i64 m.c.ev) ∧ w.cell? ⟨B, 3, none⟩ = some (.bool m.c.pre) ∧ w.cell? ⟨B, 4, none⟩ = some (.string m.c.fr) ∧ w.cell? ⟨B, 5, none⟩ = some va ∧ w.cell? ⟨B, 6, none⟩ = some (.int .i64 m.st) ∧ w.cell? ⟨B, 7, none⟩ = some (.int .i64 m.pace) ∧ w.cell? ⟨B, 8, none⟩ = some (.int .i64 m.wt) ∧ w.cell? ⟨B, 9, none⟩ = some vo :=
  ⟨h.blk.cell 0, h.blk.cell 1, h.blk.cell 2, h.blk.cell 3, h.blk.cell 4, h.blk.cell 5, h.blk.cell 6, h.blk.cell 7, h.blk.cell 8, h.blk.cell 9⟩
end
end Go.Proofs.Ytpcdaidgijkkbaa
