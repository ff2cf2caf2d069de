/-
  The document's Tell.
-/
import Derived.Test.YtbeacddclphjgaaRsm
import Derived.Test.YtbeacddclphjgaaTell
import Derived.Lib.AppendZeros
namespace Go.Proofs.Ytbeacddclphjgaa
open Go.RowKit Go.Maps
set_option linter.unusedVariables false
set_option linter.unusedSimpArgs false
set_option maxRecDepth 10000
attribute [local go_sem ↓] bigS32

theorem ucells_one (l : List Bool) : ∀ u ∈ ucells l, u.oneCell' = true := fun u hu => by
  unfold ucells at hu
  obtain ⟨x, _, rfl⟩ := List.mem_map.1 hu
  rfl
/-- 'append([]bool{}, ups...)'. -/
theorem append_all {w : World} {g n uc : Nat} {ups : List Bool} (h : w.ownsRow 0 4 1 (.slice (some ⟨g, 0, none⟩) n uc) n (ucells ups)) (hn : n ≤ 8) :
    ∃ v' w', (Builtin.append_ #[30, 30] 30 #[.slice (some ⟨w.heap.size, 0, none⟩) 0 0, .slice (some ⟨g, 0, none⟩) n uc]).run Try.prog (w.alloc (.cells #[] 4)) = .ok v' w' ∧ w'.ownsRow w.heap.size 4 1 v' n (ucells ups) ∧ Below w.heap.size w w' := by
  have hb2 : Below w.heap.size w (w.alloc (.cells #[] 4)) := below_alloc (Below.refl _ _) _
  have h2 := row_below h hb2
  have h0 : (w.alloc (.cells #[] 4)).ownsRow w.heap.size 4 1 (.slice (some ⟨w.heap.size, 0, none⟩) 0 0) 0 [] :=
    ⟨rfl, .inr ⟨w.heap.size, 0, #[], rfl, Nat.le_refl _, heap_alloc_new _ _, Nat.le_refl _, Nat.zero_le _, rfl, rfl⟩⟩
  have hl : (ucells ups).length = n * 1 := by have := h.1; omega
  obtain ⟨i0, hi, hz0, hz1, hz2⟩ := info_parts info4
  obtain ⟨v', w', hr, h3, h4, _, h5⟩ := run_append_own_at (P := Try.prog) (w.alloc (.cells #[] 4)) w.heap.size 30 30 4 i0 _ 1 1 Try.underlying30 hi hz0 hz1 hz2 rfl (by decide) _ 0 _ h0 ⟨g, 0, none⟩ n uc (ucells ups) hl
    (fun j u hj => by
      rw [add_plain, Nat.zero_add]
      have hjl : j < (ucells ups).length := by
        rcases Nat.lt_or_ge j (ucells ups).length with h | h
        · exact h
        · rw [List.getElem?_eq_none h] at hj; cases hj
      rw [h2.cellAt j (by omega)]
      exact hj) (ucells_one ups) (by simp only [maxLen]; omega) (by omega) hb2.size
  refine ⟨v', w', hr, by simpa using h3, hb2.trans (Only.below (F := fun i => i = w.heap.size) (Only.of_grown h4 fun i hi => ?_) hb2.size fun i hi => by have : i = w.heap.size := hi; omega)⟩
  simp [Value.ownBlock] at hi
  exact hi.symm

structure TS (w : World) (N3 N6 : Nat) (b : Int) (a : Option Addr) (n c : Nat) (v : Value) (l : List Bk) (ups : List Bool) (X : World) : Prop where
  c3 : Cb X N3 32 [.int .i64 b, .slice a n c, v]
  c6 : ∃ z0 z1 z2, Cb X N6 32 [z0, z1, z2]
  row : X.ownsRow 0 4 1 v n (ucells ups)
  bel : Below w.heap.size w X
  ne : N3 ≠ N6
  vne : ∀ g, v.ownBlock = some g → g ≠ N6
  low : w.heap.size ≤ N6
theorem TS.below {w : World} {N3 N6 : Nat} {b : Int} {a : Option Addr} {n c : Nat} {v : Value} {l : List Bk} {ups : List Bool} {X X' : World} (h : TS w N3 N6 b a n c v l ups X) (hb : Below X.heap.size X X') : TS w N3 N6 b a n c v l ups X' where
  c3 := h.c3.below hb
  c6 := by obtain ⟨z0, z1, z2, h6⟩ := h.c6; exact ⟨z0, z1, z2, h6.below hb⟩
  row := row_below h.row hb
  bel := below_then h.bel h.bel.size hb
  ne := h.ne
  vne := h.vne
  low := h.low
theorem TS.put {w : World} {N3 N6 : Nat} {b : Int} {a : Option Addr} {n c : Nat} {v : Value} {l : List Bk} {ups : List Bool} {X X' : World} (h : TS w N3 N6 b a n c v l ups X) {z0 z1 z2 : Value} (hc : Cb X' N6 32 [z0, z1, z2]) (ho : Only (· = N6) X X') : TS w N3 N6 b a n c v l ups X' where
  c3 := h.c3.only ho h.ne
  c6 := ⟨z0, z1, z2, hc⟩
  row := row_only h.row ho h.vne
  bel := only_below h.bel ho h.low
  ne := h.ne
  vne := h.vne
  low := h.low
theorem TS.rs {w : World} {N3 N6 : Nat} {b : Int} {a : Option Addr} {n c : Nat} {v : Value} {l : List Bk} {ups : List Bool} {X : World} (h : TS w N3 N6 b a n c v l ups X) (hb : Bks w a n c l) (hl : ups.length = n) : Rs X a n c v l ups := ⟨hb.below h.bel, hl, h.row⟩

set_option maxHeartbeats 4000000 in
theorem rtell_any {w : World} {b : Int} {a : Option Addr} {n c : Nat} {v : Value} {l : List Bk} {ups : List Bool} (h : Rs w a n c v l ups) (hR : Right l) (hb : 1 ≤ b ∧ b ≤ 255) (x : ByteArray) (u : Bool) :
    Calls Try.prog 13 #[rsv b a n c v, .string x, .bool u] w fun e w' => ∃ v' ups', e = .returned (.tuple #[rsv b a n c v', .bool (telC b (UT l ups) x u), .bool (isT (UT l ups) x)]) ∧ Rs w' a n c v' l ups' ∧ UT l ups' = tel (UT l ups) x u ∧ Below w.heap.size w w' ∧ (∀ g, v'.ownBlock = some g → v.ownBlock = some g ∨ w.heap.size ≤ g) := by
  obtain ⟨ua, uc, rfl, -, -⟩ := row_any h.row
  have HC3 : Hid (Cb ((w.alloc (.cells #[.int .i64 b, .slice a n c, .slice ua n uc] 32)).alloc (.cells #[.int .i64 0, .slice none 0 0, .slice none 0 0] 32)) w.heap.size 32 [.int .i64 b, .slice a n c, .slice ua n uc]) := Lib.hid ((Cb.new3 w (.int .i64 b) (.slice a n c) (.slice ua n uc) 32).alloc _)
  have HC6 : Hid (Cb ((w.alloc (.cells #[.int .i64 b, .slice a n c, .slice ua n uc] 32)).alloc (.cells #[.int .i64 0, .slice none 0 0, .slice none 0 0] 32)) (w.heap.size + 1) 32 Z32) := Lib.hid (by
    have h1 := Cb.new (w.alloc (.cells #[.int .i64 b, .slice a n c, .slice ua n uc] 32)) Z32 32
    rw [show (w.alloc (.cells #[.int .i64 b, .slice a n c, .slice ua n uc] 32)).heap.size = w.heap.size + 1 by simp] at h1
    exact h1)
  have HB0 := Lib.hid (below_alloc (below_alloc (Below.refl w.heap.size w) (.cells #[.int .i64 b, .slice a n c, .slice ua n uc] 32)) (.cells #[.int .i64 0, .slice none 0 0, .slice none 0 0] 32))
  have H := Lib.hid h
  have HR := Lib.hid hR
  have HBD := Lib.hid hb
  have hnl := h.bk.1
  have hn8 : n ≤ 8 := by rw [hnl]; exact hR.1
  have HN := Lib.hid hnl
  have HF := Lib.hid (rfind_any (b := b) (h.below HB0.out) hn8 x)
  obtain ⟨tc, htc⟩ : ∃ tc, telC b (UT l ups) x u = tc := ⟨_, rfl⟩
  obtain ⟨is, his⟩ : ∃ is, isT (UT l ups) x = is := ⟨_, rfl⟩
  have HTC := Lib.hid htc
  have HIS := Lib.hid his
  rw [htc, his]
  unfold rsv at HF ⊢
  clear h hR hb hnl htc his
  go_enter Try.func13, Try.ntmps13
  go_wp2_with fail
  refine HF.out.mono ?_
  rintro e w1 ⟨r, rfl, hr, hb1⟩
  have hc3 := HC3.out.below hb1
  have hc6 := HC6.out.below hb1
  obtain ⟨c0, c1, c2⟩ := hc3.three
  have HB1 := Lib.hid (HB0.out.trans (hb1.mono HB0.out.size))
  obtain ⟨rfl, hno⟩ | ⟨k, hkl, rfl, hnm⟩ := hr
  · have hl := UT_none (l := l) ups hno
    have HTE := Lib.hid (tel_none (x := x) u hl)
    obtain rfl : is = false := by rw [← HIS.out]; unfold isT; rw [hl]; rfl
    obtain rfl : tc = false := by rw [← HTC.out]; unfold telC; rw [HTE.out]; simp
    obtain ⟨w2, hst, hcb, ho⟩ := store32 hc6 rfl b (.slice a n c) (.slice ua n uc) rfl rfl
    obtain ⟨g0, g1, g2⟩ := hcb.three
    have HE := Lib.hid (only_below HB1.out ho (by omega))
    have HRW := Lib.hid (row_only ((H.out.row |> fun h => row_below h HB0.out) |> fun h => row_below h hb1) ho fun g hg e => by
      have h1 := (H.out.row.lt g hg).2
      have h2 : g = w.heap.size + 1 := e
      omega)
    clear hno hl hb1 hc3 hc6 hcb ho
    go_wp2
    refine bodyPost_ret (v := .tuple #[.agg #[.int .i64 b, .slice a n c, .slice ua n uc], .bool false, .bool false]) (by simp [results, Try.results13, go_sem, g0, g1, g2]) rfl ?_
    exact ⟨_, ups, rfl, ⟨H.out.bk.below HE.out, H.out.len, HRW.out⟩, HTE.out.symm, HE.out, fun g hg => .inl hg⟩
  · have hl := UT_look HR.out ups hkl
    rw [hnm] at hl
    have HTE := UT_tel HR.out.2.2 hkl (ups := ups) (by rw [H.out.len, HN.out]) u
    rw [hnm] at HTE
    replace HTE := Lib.hid HTE
    obtain rfl : is = true := by rw [← HIS.out]; unfold isT; rw [hl]; rfl
    have hkn : k < n := by rw [HN.out]; exact hkl
    have hkz : (k : Int) < (n : Int) := by omega
    have hkz2 : ¬ ((k : Int) < 0) := by omega
    have hrow1 := row_below (row_below H.out.row HB0.out) hb1
    obtain ⟨g, c', e, _⟩ := row_slice hrow1 (by omega)
    simp only [Value.slice.injEq, true_and] at e
    obtain ⟨rfl, rfl⟩ := e
    have HP := Lib.hid (rprio_any (b := b) ⟨H.out.bk.below HB1.out, H.out.len, hrow1⟩ HR.out HBD.out)
    generalize hp : prio b (UT l ups) = p at HP
    have HPP := Lib.hid hp
    unfold rsv at HP
    clear hp hl hnm
    go_wp2_with fail
    refine HP.out.mono ?_
    rintro e w2 ⟨rfl, hb2⟩
    have hc3' := hc3.below hb2
    have hc6' := hc6.below hb2
    have hrow2 := row_below hrow1 hb2
    have hbw2 := below_then HB1.out HB1.out.size hb2
    obtain ⟨v3, w3, happ, hown, hbw3⟩ := append_all hrow2 hn8
    obtain ⟨g3, c3', rfl, hnc3, -, hg3, hg3l⟩ := row_slice hown (by omega)
    have hc3'' := hc3'.below hbw3
    have hc6'' := hc6'.below hbw3
    have hN2 : w.heap.size + 1 < w2.heap.size := hc6'.lt
    have gne : g3 ≠ w.heap.size := by omega
    have gne2 : g3 ≠ w.heap.size + 1 := by omega
    have gne3 : w.heap.size ≠ g3 := by omega
    have st4 := (hown.stored k (.bool u)).1
    have ul : (ucells ups).set k (.bool u) = ucells (ups.set k u) := by unfold ucells; rw [List.map_set]
    rw [ul] at st4
    have ho4 : Only (fun i => i = g3) w3 (w3.setCell ⟨g3, k, none⟩ (.bool u)) := (Only.refl (fun i => i = g3) w3).setCell (p := ⟨g3, k, none⟩) (.inl rfl) _
    have cb4 := hc3''.only ho4 gne3
    have cb64 := hc6''.only ho4 (by show ¬ w.heap.size + 1 = g3; omega)
    have cb5 := cb4.setAt 2 (.slice (some ⟨g3, 0, none⟩) n c3')
    have ho5 : Only (fun i => i = w.heap.size) (w3.setCell ⟨g3, k, none⟩ (.bool u)) ((w3.setCell ⟨g3, k, none⟩ (.bool u)).setCell ⟨w.heap.size, 2, none⟩ (.slice (some ⟨g3, 0, none⟩) n c3')) := (Only.refl (fun i => i = w.heap.size) _).setCell (p := ⟨w.heap.size, 2, none⟩) (.inl rfl) _
    have hTS : TS w w.heap.size (w.heap.size + 1) b a n c (.slice (some ⟨g3, 0, none⟩) n c3') l (ups.set k u) ((w3.setCell ⟨g3, k, none⟩ (.bool u)).setCell ⟨w.heap.size, 2, none⟩ (.slice (some ⟨g3, 0, none⟩) n c3')) := {
      c3 := cb5
      c6 := ⟨_, _, _, cb64.only ho5 (by show ¬ w.heap.size + 1 = w.heap.size; omega)⟩
      row := row_only (row_base st4 (Nat.zero_le _)) ho5 (fun g hg e => by simp [Value.ownBlock] at hg; have e2 : g = w.heap.size := e; omega)
      bel := ((hbw2.trans (hbw3.mono hbw2.size)).setCell (p := ⟨g3, k, none⟩) (by show w.heap.size ≤ g3; omega) _).setCell (p := ⟨w.heap.size, 2, none⟩) (Nat.le_refl _) _
      ne := by omega
      vne := fun g hg e => by simp [Value.ownBlock] at hg; omega
      low := by omega }
    have x0 : ∃ z, w3.cell? ⟨g3, k, none⟩ = some z := ⟨_, urow_at hown hkn⟩
    obtain ⟨z, x0⟩ := x0
    have f0 := hown.frozenAt k
    obtain ⟨p0, p1, p2⟩ := (hc3'.alloc (.cells #[] 4)).three
    obtain ⟨q0, q1, q2⟩ := cb4.three
    have q2f := cb4.free 2
    have HT := Lib.hid hTS
    have HLN : Hid ((ups.set k u).length = n) := Lib.hid (by rw [List.length_set]; exact H.out.len)
    have hcells2 := q2
    clear hb1 hc3 hc6 hrow1 hb2 hc3' hc6' hrow2 hbw2 hown hbw3 hc3'' hc6'' st4 ul ho4 cb4 cb64 cb5 ho5 hTS c0 c1 c2 q0 q1 hcells2
    have HRUN := Lib.hid happ
    clear happ
    go_wp2_with (at_builtin; refine Lib.wpList_append_run _ rfl _ _ _ _ rfl _ _ rfl rfl _ _ HRUN.out ?_)
    refine wp_region_held_drew (S := TS w w.heap.size (w.heap.size + 1) b a n c (.slice (some ⟨g3, 0, none⟩) n c3') l (ups.set k u)) (by kernel_rfl) (HT.out.below (below_drew (Below.refl _ _))) (fun hHeld => ?_)
    refine wpAnyH_take (i := 0) (oi := ({ dst := some 30, op := Go.Op.load 32 (Go.Operand.tmp 3), type := 32, pos := _, after := #[], guard := none } : Oper)) (v := ?_) rfl (by kernel_rfl) (by kernel_rfl) (by kernel_rfl) (fun _ _ _ h => h) (Or.inl ⟨by rfl, ?_⟩) (by assumption) ?_
    rotate_left
    · intro W' hSw
      try dsimp only at hSw
      obtain ⟨q0, q1, q2⟩ := hSw.c3.three
      go_simp
      try with_reducible rfl
    try simp only [Act.put, List.setIfInBounds_toArray, List.set_cons_zero, List.set_cons_succ]
    refine wpAnyH_take (i := 1) (oi := ({ dst := some 31, op := Go.Op.load 32 (Go.Operand.tmp 3), type := 32, pos := _, after := #[], guard := none } : Oper)) (v := ?_) rfl (by kernel_rfl) (by kernel_rfl) (by kernel_rfl) (fun _ _ _ h => h) (Or.inl ⟨by rfl, ?_⟩) (by assumption) ?_
    rotate_left
    · intro W' hSw
      try dsimp only at hSw
      obtain ⟨q0, q1, q2⟩ := hSw.c3.three
      go_simp
      try with_reducible rfl
    try simp only [Act.put, List.setIfInBounds_toArray, List.set_cons_zero, List.set_cons_succ]
    refine wpAnyH_take (i := 3) (oi := ({ dst := some 33, op := Go.Op.move (Go.Operand.tmp 10), type := 3, pos := _, after := #[{ on := 5, ground := Go.Ground.gcOnly Go.Departure.lateStores }], guard := none } : Oper)) (v := ?_) rfl (by kernel_rfl) (by kernel_rfl) (by kernel_rfl) (fun _ _ _ h => h) (Or.inl ⟨by rfl, ?_⟩) (by assumption) ?_
    rotate_left
    · intro W' hSw
      try dsimp only at hSw
      go_simp
      try with_reducible rfl
    try simp only [Act.put, List.setIfInBounds_toArray, List.set_cons_zero, List.set_cons_succ]
    refine wpAnyH_ready (rs := [2]) (by kernel_rfl) (by simp) ?_
    refine AllReadyH.cons (o := ({ dst := some 32, op := Go.Op.call { callee := Go.Callee.value (Go.Operand.func 18), args := #[Go.Operand.tmp 31], argTypes := #[32] }, type := 3, pos := _, after := #[{ on := 1, ground := Go.Ground.data }], guard := none } : Oper)) rfl (fun K hK => ?_) AllReadyH.nil
    go_simp
    refine (rprio_any (b := b) (hHeld.rs H.out.bk HLN.out) HR.out HBD.out).mono ?_
    rintro e w6 ⟨rfl, hb6⟩
    go_wp2_with fail
    refine hK.out _ _ ?_ (fun hHeld => ?_)
    · exact hHeld.below hb6
    clear hK K
    try simp only [Act.put, List.setIfInBounds_toArray, List.set_cons_zero, List.set_cons_succ]
    have HB6 := Lib.hid hb6
    clear hb6
    obtain ⟨z0, z1, z2, hz⟩ := hHeld.c6
    obtain ⟨w7, hst, hcb7, ho7⟩ := store32 hz rfl b (.slice a n c) (.slice (some ⟨g3, 0, none⟩) n c3') rfl rfl
    clear hz
    refine wpAnyH_take (i := 4) (oi := ({ dst := some 34, op := Go.Op.binOp Go.BinOp.neq 3 (Go.Operand.tmp 32) (Go.Operand.tmp 33) 3, type := 4, pos := _, after := #[{ on := 2, ground := Go.Ground.data }, { on := 3, ground := Go.Ground.data }, { on := 5, ground := Go.Ground.gcOnly Go.Departure.lateStores }], guard := none } : Oper)) (v := ?_) rfl (by kernel_rfl) (by kernel_rfl) (by kernel_rfl) (fun _ _ _ h => h) (Or.inl ⟨by rfl, ?_⟩) (by assumption) ?_
    rotate_left
    · intro W' hSw
      try dsimp only at hSw
      go_simp
      try with_reducible rfl
    try simp only [Act.put, List.setIfInBounds_toArray, List.set_cons_zero, List.set_cons_succ]
    refine wpAnyH_ready (rs := [5]) (by kernel_rfl) (by simp) ?_
    refine AllReadyH.cons (o := ({ dst := none, op := Go.Op.store 32 (Go.Operand.tmp 6) (Go.Operand.tmp 30), type := 0, pos := _, after := #[{ on := 0, ground := Go.Ground.data }, { on := 2, ground := Go.Ground.chain }, { on := 0, ground := Go.Ground.phase }, { on := 1, ground := Go.Ground.textOnly Go.Departure.lateStores }, { on := 2, ground := Go.Ground.textOnly Go.Departure.lateStoresUnsure }, { on := 3, ground := Go.Ground.textOnly Go.Departure.lateStores }, { on := 4, ground := Go.Ground.textOnly Go.Departure.lateStores }], guard := none } : Oper)) rfl (fun K hK => ?_) AllReadyH.nil
    go_simp
    refine hK.out _ _ ?_ (fun hHeld => ?_)
    · exact hHeld.put hcb7 ho7
    clear hK K
    try simp only [Act.put, List.setIfInBounds_toArray, List.set_cons_zero, List.set_cons_succ]
    refine wpAnyH_take (i := 6) (oi := ({ dst := some 7, op := Go.Op.assign (Go.Operand.tmp 34), type := 4, pos := _, after := #[{ on := 4, ground := Go.Ground.data }, { on := 5, ground := Go.Ground.chain }, { on := 0, ground := Go.Ground.phase }, { on := 1, ground := Go.Ground.phase }, { on := 2, ground := Go.Ground.phase }, { on := 3, ground := Go.Ground.phase }, { on := 4, ground := Go.Ground.phase }, { on := 5, ground := Go.Ground.phase }], guard := none } : Oper)) (v := ?_) rfl (by kernel_rfl) (by kernel_rfl) (by kernel_rfl) (fun _ _ _ h => h) (Or.inl ⟨by rfl, ?_⟩) (by assumption) ?_
    rotate_left
    · intro W' hSw
      try dsimp only at hSw
      go_simp
      try with_reducible rfl
    try simp only [Act.put, List.setIfInBounds_toArray, List.set_cons_zero, List.set_cons_succ]
    refine wpAnyH_take (i := 7) (oi := ({ dst := some 8, op := Go.Op.assign (Go.Operand.const (Go.Value.bool true)), type := 4, pos := _, after := #[{ on := 6, ground := Go.Ground.chain }, { on := 0, ground := Go.Ground.phase }, { on := 1, ground := Go.Ground.phase }, { on := 2, ground := Go.Ground.phase }, { on := 3, ground := Go.Ground.phase }, { on := 4, ground := Go.Ground.phase }, { on := 5, ground := Go.Ground.phase }, { on := 6, ground := Go.Ground.phase }], guard := none } : Oper)) (v := ?_) rfl (by kernel_rfl) (by kernel_rfl) (by kernel_rfl) (fun _ _ _ h => h) (Or.inl ⟨by rfl, ?_⟩) (by assumption) ?_
    rotate_left
    · intro W' hSw
      try dsimp only at hSw
      go_simp
      try with_reducible rfl
    try simp only [Act.put, List.setIfInBounds_toArray, List.set_cons_zero, List.set_cons_succ]
    refine wpAnyH_done (by kernel_rfl) ?_ _
    have hq : (prio b (UT l (ups.set k u)) != p) = tc := by rw [← HTC.out]; unfold telC; rw [HTE.out, HPP.out]
    obtain ⟨g0, g1, g2⟩ := hcb7.three
    go_wp2
    refine bodyPost_ret (v := .tuple #[.agg #[.int .i64 b, .slice a n c, .slice (some ⟨g3, 0, none⟩) n c3'], .bool tc, .bool true]) (by simp [results, Try.results13, go_sem, g0, g1, g2, hq]) rfl ?_
    exact ⟨_, ups.set k u, rfl, hHeld.rs H.out.bk HLN.out, HTE.out.symm, hHeld.bel, fun g hg => .inr (by simp [Value.ownBlock] at hg; omega)⟩
end Go.Proofs.Ytbeacddclphjgaa
