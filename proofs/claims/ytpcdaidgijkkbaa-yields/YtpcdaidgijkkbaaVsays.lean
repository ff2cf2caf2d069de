/-
  What a machine says: Config.says, Machine.sent.
-/
import Derived.Test.YtpcdaidgijkkbaaVbox
namespace Go.Proofs.Ytpcdaidgijkkbaa
open Go.RowKit Go.Maps
set_option linter.unusedVariables false
set_option linter.unusedSimpArgs false
set_option maxRecDepth 40000
attribute [local go_sem ↓] bigS55 bigS58

theorem Cb.four {w : World} {b : Nat} {t : TypeId} {v0 v1 v2 v3 : Value} (h : Cb w b t [v0, v1, v2, v3]) : w.cell? ⟨b, 0, none⟩ = some v0 ∧ w.cell? ⟨b, 1, none⟩ = some v1 ∧ w.cell? ⟨b, 2, none⟩ = some v2 ∧ w.cell? ⟨b, 3, none⟩ = some v3 := ⟨h.cell 0, h.cell 1, h.cell 2, h.cell 3⟩
theorem Cb.five {w : World} {b : Nat} {t : TypeId} {v0 v1 v2 v3 v4 : Value} (h : Cb w b t [v0, v1, v2, v3, v4]) : w.cell? ⟨b, 0, none⟩ = some v0 ∧ w.cell? ⟨b, 1, none⟩ = some v1 ∧ w.cell? ⟨b, 2, none⟩ = some v2 ∧ w.cell? ⟨b, 3, none⟩ = some v3 ∧ w.cell? ⟨b, 4, none⟩ = some v4 := ⟨h.cell 0, h.cell 1, h.cell 2, h.cell 3, h.cell 4⟩
theorem Cb.six {w : World} {b : Nat} {t : TypeId} {v0 v1 v2 v3 v4 v5 : Value} (h : Cb w b t [v0, v1, v2, v3, v4, v5]) : w.cell? ⟨b, 0, none⟩ = some v0 ∧ w.cell? ⟨b, 1, none⟩ = some v1 ∧ w.cell? ⟨b, 2, none⟩ = some v2 ∧ w.cell? ⟨b, 3, none⟩ = some v3 ∧ w.cell? ⟨b, 4, none⟩ = some v4 ∧ w.cell? ⟨b, 5, none⟩ = some v5 := ⟨h.cell 0, h.cell 1, h.cell 2, h.cell 3, h.cell 4, h.cell 5⟩

structure SyS (w : World) (cf : List Value) (X : World) : Prop where
  b31 : Cb X w.heap.size 31 cf
  b55 : ∃ z0 z1 z2 z3, Cb X (w.heap.size + 1) 55 [z0, z1, z2, z3]
  bel : Below w.heap.size w X
theorem SyS.below {w : World} {cf : List Value} {X X' : World} (h : SyS w cf X) (hb : Below X.heap.size X X') : SyS w cf X' where
  b31 := h.b31.below hb
  b55 := by obtain ⟨z0, z1, z2, z3, h6⟩ := h.b55; exact ⟨z0, z1, z2, z3, h6.below hb⟩
  bel := below_then h.bel h.bel.size hb
theorem SyS.put {w : World} {cf : List Value} {X X' : World} (h : SyS w cf X) {z0 z1 z2 z3 : Value} (hc : Cb X' (w.heap.size + 1) 55 [z0, z1, z2, z3]) (ho : Only (· = w.heap.size + 1) X X') : SyS w cf X' where
  b31 := h.b31.only ho (by omega)
  b55 := ⟨z0, z1, z2, z3, hc⟩
  bel := only_below h.bel ho (by omega)

set_option maxHeartbeats 2000000 in
/-- Config.says. -/
theorem says_any {id pr ev : Int} {pre : Bool} {fr : ByteArray} {A : Option Addr} {n c : Nat} {ss : List ByteArray} {w : World} (hS : Strs w A n c ss) (hn : n ≤ 8796093022208) (p : Int) :
    Calls Try.prog 31 #[.agg #[.int .i64 id, .int .i64 pr, .int .i64 ev, .bool pre, .string fr, .slice A n c], .int .i64 p] w fun e w' => ∃ v, e = .returned (.agg #[.int .i64 id, .int .i64 p, .int .i64 ev, v]) ∧ Adr w' w.heap.size v ss ∧ Below w.heap.size w w' := by
  have HS := Lib.hid hS
  have HT : Hid (SyS w [.int .i64 id, .int .i64 pr, .int .i64 ev, .bool pre, .string fr, .slice A n c] ((w.alloc (.cells #[.int .i64 id, .int .i64 pr, .int .i64 ev, .bool pre, .string fr, .slice A n c] 31)).alloc (.cells #[.int .i64 0, .int .i64 0, .int .i64 0, .slice none 0 0] 55))) := Lib.hid {
    b31 := (Cb.new w [.int .i64 id, .int .i64 pr, .int .i64 ev, .bool pre, .string fr, .slice A n c] 31).alloc _
    b55 := ⟨_, _, _, _, by
      have h1 := Cb.new (w.alloc (.cells #[.int .i64 id, .int .i64 pr, .int .i64 ev, .bool pre, .string fr, .slice A n c] 31)) [.int .i64 0, .int .i64 0, .int .i64 0, .slice none 0 0] 55
      rw [show (w.alloc (.cells #[.int .i64 id, .int .i64 pr, .int .i64 ev, .bool pre, .string fr, .slice A n c] 31)).heap.size = w.heap.size + 1 by simp] at h1
      exact h1⟩
    bel := below_alloc (below_alloc (Below.refl w.heap.size w) _) _ }
  clear hS
  go_enter Try.func31, Try.ntmps31
  go_wp2
  refine wp_region_held_drew (S := SyS w [.int .i64 id, .int .i64 pr, .int .i64 ev, .bool pre, .string fr, .slice A n c]) (by kernel_rfl) (HT.out.below (below_drew (Below.refl _ _))) (fun hHeld => ?_)
  refine wpAnyH_take (i := 0) (oi := ({ dst := some 5, op := Go.Op.fieldAddr 31 (Go.Operand.tmp 2) 0, type := 0, pos := _, after := #[], guard := none } : Oper)) (v := ?_) rfl (by kernel_rfl) (by kernel_rfl) (by kernel_rfl) (fun _ _ _ h => h) (Or.inl ⟨by rfl, ?_⟩) (by assumption) ?_
  rotate_left
  · intro W' hSw
    try dsimp only at hSw
    go_simp
    try with_reducible rfl
  try simp only [Act.put, List.setIfInBounds_toArray, List.set_cons_zero, List.set_cons_succ]
  refine wpAnyH_take (i := 1) (oi := ({ dst := some 6, op := Go.Op.load 3 (Go.Operand.tmp 5), type := 3, pos := _, after := #[{ on := 0, ground := Go.Ground.data }], guard := none } : Oper)) (v := ?_) rfl (by kernel_rfl) (by kernel_rfl) (by kernel_rfl) (fun _ _ _ h => h) (Or.inl ⟨by rfl, ?_⟩) (by assumption) ?_
  rotate_left
  · intro W' hSw
    try dsimp only at hSw
    obtain ⟨q0, q1, q2, q3, q4, q5⟩ := hSw.b31.six
    go_simp
    try with_reducible rfl
  try simp only [Act.put, List.setIfInBounds_toArray, List.set_cons_zero, List.set_cons_succ]
  refine wpAnyH_take (i := 2) (oi := ({ dst := some 7, op := Go.Op.move (Go.Operand.tmp 1), type := 3, pos := _, after := #[], guard := none } : Oper)) (v := ?_) rfl (by kernel_rfl) (by kernel_rfl) (by kernel_rfl) (fun _ _ _ h => h) (Or.inl ⟨by rfl, ?_⟩) (by assumption) ?_
  rotate_left
  · intro W' hSw
    try dsimp only at hSw
    go_simp
    try with_reducible rfl
  try simp only [Act.put, List.setIfInBounds_toArray, List.set_cons_zero, List.set_cons_succ]
  refine wpAnyH_take (i := 3) (oi := ({ dst := some 8, op := Go.Op.fieldAddr 31 (Go.Operand.tmp 2) 2, type := 0, pos := _, after := #[], guard := none } : Oper)) (v := ?_) rfl (by kernel_rfl) (by kernel_rfl) (by kernel_rfl) (fun _ _ _ h => h) (Or.inl ⟨by rfl, ?_⟩) (by assumption) ?_
  rotate_left
  · intro W' hSw
    try dsimp only at hSw
    go_simp
    try with_reducible rfl
  try simp only [Act.put, List.setIfInBounds_toArray, List.set_cons_zero, List.set_cons_succ]
  refine wpAnyH_take (i := 4) (oi := ({ dst := some 9, op := Go.Op.load 3 (Go.Operand.tmp 8), type := 3, pos := _, after := #[{ on := 3, ground := Go.Ground.data }], guard := none } : Oper)) (v := ?_) rfl (by kernel_rfl) (by kernel_rfl) (by kernel_rfl) (fun _ _ _ h => h) (Or.inl ⟨by rfl, ?_⟩) (by assumption) ?_
  rotate_left
  · intro W' hSw
    try dsimp only at hSw
    obtain ⟨q0, q1, q2, q3, q4, q5⟩ := hSw.b31.six
    go_simp
    try with_reducible rfl
  try simp only [Act.put, List.setIfInBounds_toArray, List.set_cons_zero, List.set_cons_succ]
  refine wpAnyH_take (i := 5) (oi := ({ dst := some 10, op := Go.Op.fieldAddr 31 (Go.Operand.tmp 2) 5, type := 0, pos := _, after := #[], guard := none } : Oper)) (v := ?_) rfl (by kernel_rfl) (by kernel_rfl) (by kernel_rfl) (fun _ _ _ h => h) (Or.inl ⟨by rfl, ?_⟩) (by assumption) ?_
  rotate_left
  · intro W' hSw
    try dsimp only at hSw
    go_simp
    try with_reducible rfl
  try simp only [Act.put, List.setIfInBounds_toArray, List.set_cons_zero, List.set_cons_succ]
  refine wpAnyH_take (i := 6) (oi := ({ dst := some 11, op := Go.Op.load 23 (Go.Operand.tmp 10), type := 23, pos := _, after := #[{ on := 5, ground := Go.Ground.data }], guard := none } : Oper)) (v := ?_) rfl (by kernel_rfl) (by kernel_rfl) (by kernel_rfl) (fun _ _ _ h => h) (Or.inl ⟨by rfl, ?_⟩) (by assumption) ?_
  rotate_left
  · intro W' hSw
    try dsimp only at hSw
    obtain ⟨q0, q1, q2, q3, q4, q5⟩ := hSw.b31.six
    go_simp
    try with_reducible rfl
  try simp only [Act.put, List.setIfInBounds_toArray, List.set_cons_zero, List.set_cons_succ]
  refine wpAnyH_ready (rs := [7]) (by kernel_rfl) (by simp) ?_
  refine AllReadyH.cons (o := ({ dst := some 12, op := Go.Op.call { callee := Go.Callee.value (Go.Operand.func 32), args := #[Go.Operand.tmp 11], argTypes := #[23] }, type := 23, pos := _, after := #[{ on := 6, ground := Go.Ground.data }], guard := none } : Oper)) rfl (fun K hK => ?_) AllReadyH.nil
  go_simp
  refine (clone_any (HS.out.below hHeld.bel) hn).mono ?_
  rintro e w6 ⟨v', rfl, hadr, hb6⟩
  obtain ⟨a', c', rfl, -, -⟩ := row_any hadr
  have HL := Lib.hid hb6.size
  go_wp2_with fail
  refine hK.out _ _ ?_ (fun hHeld => ?_)
  · exact hHeld.below hb6
  clear hK K
  try simp only [Act.put, List.setIfInBounds_toArray, List.set_cons_zero, List.set_cons_succ]
  have HAD := Lib.hid (hadr.base (base' := w.heap.size + 2) (by simp))
  obtain ⟨z0, z1, z2, z3, hz⟩ := hHeld.b55
  obtain ⟨w7, hst, hcb7, ho7⟩ := store55 hz rfl id p ev (.slice a' ss.length c') rfl
  clear hz hadr
  refine wpAnyH_take (i := 8) (oi := ({ dst := some 13, op := Go.Op.build 55 #[(0, Go.Operand.tmp 6), (1, Go.Operand.tmp 7), (2, Go.Operand.tmp 9), (3, Go.Operand.tmp 12)], type := 55, pos := _, after := #[{ on := 1, ground := Go.Ground.data }, { on := 2, ground := Go.Ground.data }, { on := 4, ground := Go.Ground.data }, { on := 7, ground := Go.Ground.data }], guard := none } : Oper)) (v := ?_) rfl (by kernel_rfl) (by kernel_rfl) (by kernel_rfl) (fun _ _ _ h => h) (Or.inl ⟨by rfl, ?_⟩) (by assumption) ?_
  rotate_left
  · intro W' hSw
    try dsimp only at hSw
    go_simp
    try with_reducible rfl
  try simp only [Act.put, List.setIfInBounds_toArray, List.set_cons_zero, List.set_cons_succ]
  refine wpAnyH_ready (rs := [9]) (by kernel_rfl) (by simp) ?_
  refine AllReadyH.cons (o := ({ dst := none, op := Go.Op.store 55 (Go.Operand.tmp 4) (Go.Operand.tmp 13), type := 0, pos := _, after := #[{ on := 8, ground := Go.Ground.data }, { on := 7, ground := Go.Ground.chain }, { on := 0, ground := Go.Ground.phase }, { on := 1, ground := Go.Ground.phase }, { on := 2, ground := Go.Ground.phase }, { on := 3, ground := Go.Ground.phase }, { on := 4, ground := Go.Ground.phase }, { on := 5, ground := Go.Ground.phase }, { on := 6, ground := Go.Ground.phase }, { on := 7, ground := Go.Ground.phase }, { on := 8, ground := Go.Ground.phase }], guard := none } : Oper)) rfl (fun K hK => ?_) AllReadyH.nil
  go_simp
  refine hK.out _ _ ?_ (fun hHeld => ?_)
  · exact hHeld.put hcb7 ho7
  clear hK K
  try simp only [Act.put, List.setIfInBounds_toArray, List.set_cons_zero, List.set_cons_succ]
  refine wpAnyH_done (by kernel_rfl) ?_ _
  obtain ⟨g0, g1, g2, g3⟩ := hcb7.four
  go_wp2
  refine bodyPost_ret (v := .agg #[.int .i64 id, .int .i64 p, .int .i64 ev, .slice a' ss.length c']) (by simp [results, Try.results31, go_sem, g0, g1, g2, g3]) rfl ⟨_, rfl, ?_, hHeld.bel⟩
  exact row_base (row_only HAD.out ho7 fun g hg e => by
    have e' : g = w.heap.size + 1 := e
    have h1 := (row_type HAD.out hg).1
    omega) (by omega)

set_option maxHeartbeats 2000000 in
/-- Machine.sent. -/
theorem sent_any {base B : Nat} {w : World} {m : Mc} {va vo : Value} {l : List (Vt × Value)} (h : MmS base w B m va vo l) (p : Int) :
    Calls Try.prog 47 #[.pointer (some ⟨B, 0, none⟩), .int .i64 p] w fun e w' => ∃ v, e = .returned (.agg #[.int .i64 1, .int .i64 m.c.id, .int .i64 p, .int .i64 m.c.ev, v]) ∧ Adr w' w.heap.size v m.c.ads ∧ Below w.heap.size w w' := by
  obtain ⟨A, c, rfl, hS⟩ := h.adr.strs (fun s hs => by have := h.ok.adz s hs; omega)
  obtain ⟨c0, c1, c2, c3, c4, c5, -⟩ := h.cells
  have hlt := h.blk.lt
  have hb0 : Below w.heap.size w (w.alloc (.cells #[.int .i64 0, .int .i64 0, .int .i64 0, .int .i64 0, .slice none 0 0] 58)) := below_alloc (Below.refl _ _) _
  have HC : Hid (Cb (w.alloc (.cells #[.int .i64 0, .int .i64 0, .int .i64 0, .int .i64 0, .slice none 0 0] 58)) w.heap.size 58 [.int .i64 0, .int .i64 0, .int .i64 0, .int .i64 0, .slice none 0 0]) := Lib.hid (Cb.new _ _ _)
  have HB0 := Lib.hid hb0
  have hl8 : m.c.ads.length ≤ 8796093022208 := by have := h.ok.ads; omega
  have HY := Lib.hid (says_any (id := m.c.id) (pr := m.c.pr) (ev := m.c.ev) (pre := m.c.pre) (fr := m.c.fr) (hS.below hb0) hl8 p)
  clear h hS hb0 hl8
  generalize m.c.id = id at *
  generalize m.c.pr = pr at *
  generalize m.c.ev = ev at *
  generalize m.c.pre = pre at *
  generalize m.c.fr = fr at *
  generalize m.c.ads = ads at *
  go_enter Try.func47, Try.ntmps47
  go_wp2_with fail
  refine HY.out.mono ?_
  rintro e w1 ⟨v, rfl, hadr, hb1⟩
  obtain ⟨a', c', rfl, -, -⟩ := row_any hadr
  have HAD := Lib.hid (hadr.base (base' := w.heap.size + 1) (by simp))
  have hc1 := HC.out.below hb1
  obtain ⟨w7, hst, hcb7, ho7⟩ := store58 hc1 rfl 1 id p ev (.slice a' ads.length c') rfl
  obtain ⟨g0, g1, g2, g3, g4⟩ := hcb7.five
  have HB1 := Lib.hid (only_below (HB0.out.trans (hb1.mono HB0.out.size)) ho7 (Nat.le_refl _))
  clear hadr hb1 hc1
  go_wp2
  refine bodyPost_ret (v := .agg #[.int .i64 1, .int .i64 id, .int .i64 p, .int .i64 ev, .slice a' ads.length c']) (by simp [results, Try.results47, go_sem, g0, g1, g2, g3, g4]) rfl ⟨_, rfl, ?_, HB1.out⟩
  exact row_base (row_only HAD.out ho7 fun g hg e => by
    have e' : g = w.heap.size := e
    have h1 := (row_type HAD.out hg).1
    omega) (by omega)
end Go.Proofs.Ytpcdaidgijkkbaa
