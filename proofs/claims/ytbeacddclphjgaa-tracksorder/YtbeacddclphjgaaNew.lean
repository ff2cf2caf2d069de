/-
  tracks.New.
-/
import Derived.Test.YtbeacddclphjgaaTell
namespace Go.Proofs.Ytbeacddclphjgaa
open Go.RowKit Go.Maps
set_option linter.unusedVariables false
set_option linter.unusedSimpArgs false
set_option maxRecDepth 10000

/-! ## Which tracks may be -/
def Upto (l : List Bk) (k : Nat) : Prop := (∀ b ∈ l.take k, Fit b) ∧ Apart (l.take k)
theorem Upto.start (l : List Bk) : Upto l 0 := ⟨fun b hb => by simp at hb, by simp [Apart]⟩
theorem Upto.whole {l : List Bk} (h : Upto l l.length) (h8 : l.length ≤ 8) : Right l := by
  have e : l.take l.length = l := List.take_of_length_le (Nat.le_refl _)
  unfold Upto at h
  rw [e] at h
  exact ⟨h8, h.1, h.2⟩
theorem fresh_next {l : List Bk} {k : Nat} (hk : k < l.length) : fresh (l.take (k + 1)) = fresh (l.take k) ++ [⟨(l[k]!).name, (l[k]!).wt, false⟩] := by
  rw [take_next l k hk]
  simp [fresh, tk]
theorem look_fresh {l : List Bk} {x : ByteArray} : look (fresh l) x = none ↔ ∀ b ∈ l, b.name ≠ x := by
  constructor
  · intro h b hb
    exact look_none h (tk b false) (List.mem_map.2 ⟨b, hb, rfl⟩)
  · intro h
    unfold look
    rw [List.find?_eq_none]
    intro t ht
    obtain ⟨b, hb, rfl⟩ := List.mem_map.1 ht
    exact by
      have h1 : ¬ (tk b false).name = x := h b hb
      simpa using h1
theorem Upto.next {l : List Bk} {k : Nat} (h : Upto l k) (hk : k < l.length) (hf : Fit l[k]!) (hn : look (fresh (l.take k)) (l[k]!).name = none) : Upto l (k + 1) := by
  unfold Upto at h ⊢
  rw [take_next l k hk]
  refine ⟨fun b hb => ?_, ?_⟩
  · rcases List.mem_append.1 hb with hb | hb
    · exact h.1 b hb
    · simp at hb; rw [hb]; simpa using hf
  · unfold Apart
    rw [List.pairwise_append]
    refine ⟨h.2, by simp, fun b hb c hc => ?_⟩
    simp only [List.mem_singleton] at hc
    subst hc
    exact look_fresh.1 hn b hb
theorem not_twice {l : List Bk} {k : Nat} (hk : k < l.length) (hn : look (fresh (l.take k)) (l[k]!).name ≠ none) : ¬ Right l := fun h => hn (look_fresh.2 fun b hb => by
  have h1 : Apart (l.take (k + 1)) := List.Pairwise.sublist (List.take_sublist _ _) h.2.2
  unfold Apart at h1
  rw [take_next l k hk, List.pairwise_append] at h1
  exact h1.2.2 b hb _ (by simp))
theorem not_fit {l : List Bk} {k : Nat} (hk : k < l.length) (hf : ¬ Fit l[k]!) : ¬ Right l := fun h => hf (h.2.1 _ (by rw [getElem!_pos l k hk]; exact List.getElem_mem hk))

/-! ## In memory -/
structure NS (w : World) (B M N : Nat) (b : Int) (nm : ByteArray) (wt : Int) (T : List Tk) (X : World) : Prop where
  set : SetAt X B M b T
  c0 : X.cell? ⟨N, 0, none⟩ = some (.string nm)
  c1 : X.cell? ⟨N, 1, none⟩ = some (.int .i64 wt)
  bel : Below w.heap.size w X
  neB : B < N
  neM : M < N
  lt : N < X.heap.size
  low : w.heap.size ≤ N

theorem NS.only {w : World} {B M N : Nat} {b : Int} {nm : ByteArray} {wt : Int} {T : List Tk} {X X' : World} (h : NS w B M N b nm wt T X) (ho : Only (fun i => N < i) X X') : NS w B M N b nm wt T X' where
  set := h.set.only ho (by have := h.neB; simp; omega) (by have := h.neM; simp; omega)
  c0 := by rw [ho.cell (p := ⟨N, 0, none⟩) h.lt (by simp)]; exact h.c0
  c1 := by rw [ho.cell (p := ⟨N, 1, none⟩) h.lt (by simp)]; exact h.c1
  bel := h.bel.trans (ho.below (B := w.heap.size) h.bel.size fun i hi => by have := h.low; have h2 : N < i := hi; omega)
  neB := h.neB
  neM := h.neM
  lt := Nat.lt_of_lt_of_le h.lt ho.size
  low := h.low
theorem NS.alloc {w : World} {B M N : Nat} {b : Int} {nm : ByteArray} {wt : Int} {T : List Tk} {X : World} (h : NS w B M N b nm wt T X) (o : Obj) : NS w B M N b nm wt T (X.alloc o) := h.only ((Only.refl _ _).alloc o)
theorem NS.drew {w : World} {B M N : Nat} {b : Int} {nm : ByteArray} {wt : Int} {T : List Tk} {X : World} (h : NS w B M N b nm wt T X) : NS w B M N b nm wt T X.drew := h.only (Only.refl _ _).drew
theorem NS.put {w : World} {B M N : Nat} {b : Int} {nm : ByteArray} {wt : Int} {T : List Tk} {X : World} (h : NS w B M N b nm wt T X) {g : Nat} (hg : N < g) (j : Nat) (v : Value) : NS w B M N b nm wt T (X.setCell ⟨g, j, none⟩ v) :=
  h.only ((Only.refl _ _).setCell (p := ⟨g, j, none⟩) (.inl hg) v)
theorem NS.lk {w : World} {B M N : Nat} {b : Int} {nm : ByteArray} {wt : Int} {T : List Tk} {X : World} (h : NS w B M N b nm wt T X) (hx : nm.size ≤ maxLen) {a : Int} {u tw : Bool} (he : lv (look T nm) = ev a u) (ht : (look T nm).isSome = tw) :
    (Instr.lookup 55 (.map (some M)) (.string nm) true).run Try.prog X = .ok (.tuple #[.agg #[.int .i64 a, .bool u], .bool tw]) X := by
  have := h.set.map.look hx
  rw [he, ht] at this
  exact this

def NwRel (w : World) (l : List Bk) (n : Nat) (b : Int) (gg : Nat) (s25 : Value) (wr : World) : Prop :=
  ∃ k : Nat, k + gg = n ∧ s25 = .int .i64 k ∧ Upto l k ∧ SetAt wr (w.heap.size + 1) w.heap.size b (fresh (l.take k)) ∧ Below w.heap.size w wr

/-- What New tells. -/
def NewOk (b : Int) (l : List Bk) : Prop := isB b = true ∧ Right l
def NewIs (w : World) (b : Int) (l : List Bk) (pv ev : Value) (w' : World) : Prop :=
  (¬ NewOk b l ∧ pv = .pointer none ∧ ev = .int .i64 1) ∨
  (NewOk b l ∧ ∃ B M, pv = .pointer (some ⟨B, 0, none⟩) ∧ ev = .int .i64 0 ∧ SetAt w' B M b (fresh l) ∧ w.heap.size ≤ B ∧ w.heap.size ≤ M)

set_option maxHeartbeats 4000000 in
theorem new_right {w : World} {b : Int} {a : Option Addr} {n c : Nat} {l : List Bk} (h : Bks w a n c l) (hw : Wide l) (hb : isB b = true) (hn8 : n ≤ 8) :
    Calls Try.prog 8 #[.int .i64 b, .slice a n c] w fun e w' => ∃ pv ev, e = .returned (.tuple #[pv, ev]) ∧ NewIs w b l pv ev w' ∧ Below w.heap.size w w' := by
  have HI := fun w => Lib.hid (isBase_any (w := w) hb)
  have hmm := @run_makeMap Try.prog
  have HN := Lib.hid h.1
  have HW := Lib.hid hw
  have HH := Lib.hid h
  have HB := Lib.hid hb
  have hnc := h.2.1
  have hz8 : ¬ ((n : Int) > 8) := by omega
  have HST : Hid (SetAt ((w.alloc (.map #[] 0)).alloc (.cells #[.int .i64 b, .map (some w.heap.size)] 57)) (w.heap.size + 1) w.heap.size b (fresh (l.take 0))) := Lib.hid (by
    refine ⟨by omega, ?_, ?_⟩
    · have := heap_alloc_new (w.alloc (.map #[] 0)) (.cells #[.int .i64 b, .map (some w.heap.size)] 57)
      simpa using this
    · exact (made_map w).of_block (Below.heap_alloc _ _ _ (by simp)))
  have HBL := Lib.hid (below_alloc (below_alloc (Below.refl w.heap.size w) (.map #[] 0)) (.cells #[.int .i64 b, .map (some w.heap.size)] 57))
  clear h hw hb
  go_enter Try.func8, Try.ntmps8
  go_wp2_with (go_at_call 22; refine (HI _).out.mono ?_; rintro e w1 ⟨rfl, rfl⟩)
  go_loopg [8, 9, 10, 25] n (fun gg _ _ _ s25 wr => Hid (NwRel w l n b gg s25 wr))
  case atStart => exact Lib.hid ⟨0, by omega, rfl, Upto.start l, HST.out, HBL.out⟩
  case round =>
    obtain ⟨k, hk, rfl, hup, hset, hbl⟩ := hrel.out
    clear hrel
    by_cases hkn : k < n
    · have hkz : (k : Int) < (n : Int) := by omega
      obtain ⟨g, off, rfl, hgl, c0, c1⟩ := bk_at (HH.out.below hbl) hkn
      have hkl : k < l.length := by rw [← HN.out]; exact hkn
      have hnm := (HW.out k hkl).1
      obtain ⟨T, hT⟩ : ∃ T, fresh (l.take k) = T := ⟨_, rfl⟩
      have HNX := Lib.hid (fresh_next hkl)
      have HFI := fun h1 h2 => Lib.hid (Upto.next hup hkl h1 h2)
      have HTW := fun h1 => Lib.hid (not_twice hkl h1)
      have HFT := fun h1 => Lib.hid (not_fit hkl h1)
      rw [hT] at HNX HFI HTW hset
      have HTL : Hid (T.length ≤ 8) := Lib.hid (by rw [← hT]; simp [fresh]; omega)
      have hHO := fun W => Lib.hid (holds_any (l[k]!).name (l[k]!).wt W)
      have hbk : (⟨(l[k]!).name, (l[k]!).wt⟩ : Bk) = l[k]! := rfl
      rw [hbk] at hHO
      generalize (l[k]!).name = nm at c0 hnm HNX HFI HTW hHO
      generalize (l[k]!).wt = wt at c1 HNX HFI hHO
      obtain ⟨a0, u0, he⟩ : ∃ a u, lv (look T nm) = ev a u := by cases look T nm <;> exact ⟨_, _, rfl⟩
      obtain ⟨tw, htw⟩ : ∃ tw, (look T nm).isSome = tw := ⟨_, rfl⟩
      have HEV := Lib.hid (And.intro (show nm.size ≤ maxLen by simpa [maxLen] using hnm) (And.intro he htw))
      have hlow := hbl.size
      have hlt2 := hset.lt
      have HNS : Hid (NS w (w.heap.size + 1) w.heap.size wr.heap.size b nm wt T (wr.alloc (.cells #[.string nm, .int .i64 wt] 58))) := Lib.hid
        ⟨hset.below (below_alloc (Below.refl _ _) _), by simp [go_sem], by simp [go_sem], below_alloc hbl _, hlt2, by omega, by simp, hlow⟩
      clear hup hset hbl he htw hT hbk
      go_wp2
      refine wp_region_held_drew (S := NS w (w.heap.size + 1) w.heap.size wr.heap.size b nm wt T) (by kernel_rfl) HNS.out.drew (fun hHeld => ?_)
      refine wpAnyH_take (i := 0) (oi := ({ dst := some 30, op := Go.Op.move (Go.Operand.tmp 6), type := 24, pos := _, after := #[], guard := none } : Oper)) (v := ?_) rfl (by kernel_rfl) (by kernel_rfl) (by kernel_rfl) (fun _ _ _ h => h) (Or.inl ⟨by rfl, ?_⟩) (by assumption) ?_
      rotate_left
      · intro W' hSw
        try dsimp only at hSw
        go_simp
        try with_reducible rfl
      try simp only [Act.put, List.setIfInBounds_toArray, List.set_cons_zero, List.set_cons_succ]
      refine wpAnyH_take (i := 1) (oi := ({ dst := some 31, op := Go.Op.nilCheck (Go.Operand.tmp 30), type := 0, pos := _, after := #[{ on := 0, ground := Go.Ground.data }], guard := none } : Oper)) (v := ?_) rfl (by kernel_rfl) (by kernel_rfl) (by kernel_rfl) (fun _ _ _ h => h) (Or.inl ⟨by rfl, ?_⟩) (by assumption) ?_
      rotate_left
      · intro W' hSw
        try dsimp only at hSw
        go_simp
        try with_reducible rfl
      try simp only [Act.put, List.setIfInBounds_toArray, List.set_cons_zero, List.set_cons_succ]
      refine wpAnyH_take (i := 2) (oi := ({ dst := some 32, op := Go.Op.fieldAddr 57 (Go.Operand.tmp 31) 1, type := 0, pos := _, after := #[{ on := 1, ground := Go.Ground.data }], guard := none } : Oper)) (v := ?_) rfl (by kernel_rfl) (by kernel_rfl) (by kernel_rfl) (fun _ _ _ h => h) (Or.inl ⟨by rfl, ?_⟩) (by assumption) ?_
      rotate_left
      · intro W' hSw
        try dsimp only at hSw
        go_simp
        try with_reducible rfl
      try simp only [Act.put, List.setIfInBounds_toArray, List.set_cons_zero, List.set_cons_succ]
      refine wpAnyH_take (i := 3) (oi := ({ dst := some 33, op := Go.Op.load 55 (Go.Operand.tmp 32), type := 55, pos := _, after := #[{ on := 2, ground := Go.Ground.data }], guard := none } : Oper)) (v := ?_) rfl (by kernel_rfl) (by kernel_rfl) (by kernel_rfl) (fun _ _ _ h => h) (Or.inl ⟨by rfl, ?_⟩) (by assumption) ?_
      rotate_left
      · intro W' hSw
        try dsimp only at hSw
        have q0 := hSw.set.c1
        go_simp
        try with_reducible rfl
      try simp only [Act.put, List.setIfInBounds_toArray, List.set_cons_zero, List.set_cons_succ]
      refine wpAnyH_take (i := 4) (oi := ({ dst := some 34, op := Go.Op.fieldAddr 58 (Go.Operand.tmp 8) 0, type := 0, pos := _, after := #[], guard := none } : Oper)) (v := ?_) rfl (by kernel_rfl) (by kernel_rfl) (by kernel_rfl) (fun _ _ _ h => h) (Or.inl ⟨by rfl, ?_⟩) (by assumption) ?_
      rotate_left
      · intro W' hSw
        try dsimp only at hSw
        go_simp
        try with_reducible rfl
      try simp only [Act.put, List.setIfInBounds_toArray, List.set_cons_zero, List.set_cons_succ]
      refine wpAnyH_take (i := 5) (oi := ({ dst := some 35, op := Go.Op.load 9 (Go.Operand.tmp 34), type := 9, pos := _, after := #[{ on := 4, ground := Go.Ground.data }], guard := none } : Oper)) (v := ?_) rfl (by kernel_rfl) (by kernel_rfl) (by kernel_rfl) (fun _ _ _ h => h) (Or.inl ⟨by rfl, ?_⟩) (by assumption) ?_
      rotate_left
      · intro W' hSw
        try dsimp only at hSw
        have q0 := hSw.c0
        go_simp
        try with_reducible rfl
      try simp only [Act.put, List.setIfInBounds_toArray, List.set_cons_zero, List.set_cons_succ]
      refine wpAnyH_take (i := 6) (oi := ({ dst := some 36, op := Go.Op.lookup 55 (Go.Operand.tmp 33) (Go.Operand.tmp 35) true, type := 61, pos := _, after := #[{ on := 3, ground := Go.Ground.data }, { on := 5, ground := Go.Ground.data }], guard := none } : Oper)) (v := ?_) rfl (by kernel_rfl) (by kernel_rfl) (by kernel_rfl) (fun _ _ _ h => h) (Or.inl ⟨by rfl, ?_⟩) (by assumption) ?_
      rotate_left
      · intro W' hSw
        try dsimp only at hSw
        have q0 := hSw.lk HEV.out.1 HEV.out.2.1 HEV.out.2.2
        go_simp
        try with_reducible rfl
      try simp only [Act.put, List.setIfInBounds_toArray, List.set_cons_zero, List.set_cons_succ]
      refine wpAnyH_take (i := 7) (oi := ({ dst := some 29, op := Go.Op.move (Go.Operand.tmp 36), type := 61, pos := _, after := #[{ on := 6, ground := Go.Ground.data }], guard := none } : Oper)) (v := ?_) rfl (by kernel_rfl) (by kernel_rfl) (by kernel_rfl) (fun _ _ _ h => h) (Or.inl ⟨by rfl, ?_⟩) (by assumption) ?_
      rotate_left
      · intro W' hSw
        try dsimp only at hSw
        go_simp
        try with_reducible rfl
      try simp only [Act.put, List.setIfInBounds_toArray, List.set_cons_zero, List.set_cons_succ]
      refine wpAnyH_take (i := 8) (oi := ({ dst := some 37, op := Go.Op.extract (Go.Operand.tmp 29) 0, type := 60, pos := _, after := #[{ on := 7, ground := Go.Ground.data }], guard := none } : Oper)) (v := ?_) rfl (by kernel_rfl) (by kernel_rfl) (by kernel_rfl) (fun _ _ _ h => h) (Or.inl ⟨by rfl, ?_⟩) (by assumption) ?_
      rotate_left
      · intro W' hSw
        try dsimp only at hSw
        go_simp
        try with_reducible rfl
      try simp only [Act.put, List.setIfInBounds_toArray, List.set_cons_zero, List.set_cons_succ]
      refine wpAnyH_take (i := 9) (oi := ({ dst := some 38, op := Go.Op.extract (Go.Operand.tmp 29) 1, type := 4, pos := _, after := #[{ on := 7, ground := Go.Ground.data }, { on := 11, ground := Go.Ground.gcOnly Go.Departure.lateStores }], guard := none } : Oper)) (v := ?_) rfl (by kernel_rfl) (by kernel_rfl) (by kernel_rfl) (fun _ _ _ h => h) (Or.inl ⟨by rfl, ?_⟩) (by assumption) ?_
      rotate_left
      · intro W' hSw
        try dsimp only at hSw
        go_simp
        try with_reducible rfl
      try simp only [Act.put, List.setIfInBounds_toArray, List.set_cons_zero, List.set_cons_succ]
      refine wpAnyH_ready (rs := [10]) (by kernel_rfl) (by simp) ?_
      refine AllReadyH.cons (o := ({ dst := some 9, op := Go.Op.alloc 60, type := 0, pos := _, after := #[], guard := none } : Oper)) rfl (fun K hK => ?_) AllReadyH.nil
      go_simp
      refine hK.out _ _ ?_ (fun hHeld => ?_)
      · exact hHeld.alloc _
      clear hK K
      try simp only [Act.put, List.setIfInBounds_toArray, List.set_cons_zero, List.set_cons_succ]
      refine wpAnyH_ready (rs := [11]) (by kernel_rfl) (by simp) ?_
      refine AllReadyH.cons (o := ({ dst := none, op := Go.Op.store 60 (Go.Operand.tmp 9) (Go.Operand.tmp 37), type := 0, pos := _, after := #[{ on := 10, ground := Go.Ground.data }, { on := 8, ground := Go.Ground.data }, { on := 0, ground := Go.Ground.phase }, { on := 1, ground := Go.Ground.phase }, { on := 2, ground := Go.Ground.phase }, { on := 3, ground := Go.Ground.phase }, { on := 4, ground := Go.Ground.phase }, { on := 5, ground := Go.Ground.phase }, { on := 6, ground := Go.Ground.phase }, { on := 7, ground := Go.Ground.phase }, { on := 8, ground := Go.Ground.phase }, { on := 9, ground := Go.Ground.textOnly Go.Departure.lateStores }, { on := 10, ground := Go.Ground.phase }], guard := none } : Oper)) rfl (fun K hK => ?_) AllReadyH.nil
      go_simp
      refine hK.out _ _ ?_ (fun hHeld => ?_)
      · exact (HNS.out.alloc _).drew
      clear hK K
      try simp only [Act.put, List.setIfInBounds_toArray, List.set_cons_zero, List.set_cons_succ]
      refine wpAnyH_take (i := 12) (oi := ({ dst := some 10, op := Go.Op.assign (Go.Operand.tmp 38), type := 4, pos := _, after := #[{ on := 9, ground := Go.Ground.data }, { on := 11, ground := Go.Ground.chain }, { on := 0, ground := Go.Ground.phase }, { on := 1, ground := Go.Ground.phase }, { on := 2, ground := Go.Ground.phase }, { on := 3, ground := Go.Ground.phase }, { on := 4, ground := Go.Ground.phase }, { on := 5, ground := Go.Ground.phase }, { on := 6, ground := Go.Ground.phase }, { on := 7, ground := Go.Ground.phase }, { on := 8, ground := Go.Ground.phase }, { on := 9, ground := Go.Ground.phase }, { on := 10, ground := Go.Ground.phase }, { on := 11, ground := Go.Ground.phase }], guard := none } : Oper)) (v := ?_) rfl (by kernel_rfl) (by kernel_rfl) (by kernel_rfl) (fun _ _ _ h => h) (Or.inl ⟨by rfl, ?_⟩) (by assumption) ?_
      rotate_left
      · intro W' hSw
        try dsimp only at hSw
        go_simp
        try with_reducible rfl
      try simp only [Act.put, List.setIfInBounds_toArray, List.set_cons_zero, List.set_cons_succ]
      refine wpAnyH_done (by kernel_rfl) ?_ _
      have HX := Lib.hid hHeld
      have d1 := hHeld.set.c1
      have x0 := hHeld.c0
      have x1 := hHeld.c1
      generalize ((wr.alloc (Obj.cells #[Value.string nm, Value.int IntKind.i64 wt] 58)).alloc (Obj.cells #[Value.int IntKind.i64 a0, Value.bool u0] 60)).drew = X at *
      clear HNS hHeld c0 c1
      cases tw with
      | true =>
        go_wp2
        go_ret2
        refine ⟨_, _, rfl, .inl ⟨fun h => (HTW fun e => ?_).out h.2, rfl, rfl⟩, HX.out.bel⟩
        have := HEV.out.2.2
        rw [e] at this
        cases this
      | false =>
        by_cases hf : Fit l[k]!
        · rw [decide_eq_true hf] at hHO
          have HF := Lib.hid hf
          clear hf
          go_wp2_with fail
          refine (hHO _).out.mono ?_
          rintro e w2 ⟨rfl, hb2⟩
          have hX2 := HX.out.only (Only.of_below (F := fun i => wr.heap.size < i) hb2)
          have y0 := hX2.c0
          have y1 := hX2.c1
          have e1 := hX2.set.c1
          have hln : look T nm = none := by
            have := HEV.out.2.2
            cases hl : look T nm with
            | none => rfl
            | some t => rw [hl] at this; cases this
          obtain ⟨w3, hst, hT3, hg3⟩ := hX2.drew.set.map.add (t := ⟨nm, wt, false⟩) HEV.out.1 hln HTL.out
          obtain ⟨hs3, ho3⟩ := hX2.drew.set.remap hg3 hT3
          simp only [ev] at hst
          have HS3 := Lib.hid (And.intro hs3 (And.intro ((below_drew hX2.bel).trans (ho3.below (B := w.heap.size) hX2.drew.bel.size fun i hi => by have h3 : i = w.heap.size := hi; omega)) (HFI HF.out hln).out))
          clear hb2 hX2 hln hT3 hg3 hs3 ho3 x0 x1 d1
          go_wp2
          refine wp_region_tail 9 (by kernel_rfl) (by kernel_rfl) ?_
          simp only [List.take_succ_cons, List.take_zero, List.drop_succ_cons, List.drop_zero]
          repeat still_step
          refine wpStill_nil ?_
          go_wp2
          go_roundg (n - (k + 1))
          case measure => omega
          case rel => exact Lib.hid ⟨k + 1, by omega, by go_num, HS3.out.2.2, by rw [HNX.out]; exact HS3.out.1, HS3.out.2.1⟩
        · rw [decide_eq_false hf] at hHO
          have HNF := Lib.hid ((HFT hf).out)
          clear hf
          go_wp2_with (go_at_call 23; refine (hHO _).out.mono ?_; rintro e w2 ⟨rfl, hb2⟩; have HB2 := Lib.hid hb2; clear hb2)
          go_ret2
          exact ⟨_, _, rfl, .inl ⟨fun h => HNF.out h.2, rfl, rfl⟩, HX.out.bel.trans (HB2.out.mono HX.out.bel.size)⟩
    · have hkz : ¬ (k : Int) < (n : Int) := by omega
      obtain rfl : k = n := by omega
      have HR := Lib.hid (And.intro hup (And.intro hset hbl))
      clear hup hset hbl
      go_wp2
      go_ret2
      have hl := HN.out
      have hR : Right l := Upto.whole (by rw [← hl]; exact HR.out.1) (by omega)
      have hs := HR.out.2.1
      rw [List.take_of_length_le (by omega)] at hs
      exact ⟨_, _, rfl, .inr ⟨⟨HB.out, hR⟩, _, _, rfl, rfl, hs, by omega, Nat.le_refl _⟩, HR.out.2.2⟩
end Go.Proofs.Ytbeacddclphjgaa
