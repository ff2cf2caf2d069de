/-
  The reference: what it says.
-/
import Derived.Test.YtpcdaidgijkkbaaRdoes
namespace Go.Proofs.Ytpcdaidgijkkbaa
open Go.RowKit Go.Maps
set_option linter.unusedVariables false
set_option linter.unusedSimpArgs false
set_option maxRecDepth 40000
attribute [local go_sem ↓] bigS34
attribute [local go_sem ↓] bigS78

section
variable {b : Nat} {A : Option Addr} {n c : Nat} {w : World} {m : Mc} {vo : Value}
theorem rdoes_say (hrow : Rw b w vo A n c m.out) (hb : b ≤ w.heap.size) (hlen : m.out.length ≤ 549755813888) (p : Int) :
    Calls Try.prog 69 #[.agg #[.int .i64 m.c.id, .int .i64 m.c.pr, .int .i64 m.c.ev, .bool m.c.pre, .string m.c.fr, .slice A n c, .int .i64 m.st, .int .i64 m.pace, .int .i64 m.wt, vo], .agg #[.int .i64 1, .int .i64 m.c.id, .int .i64 p, .int .i64 m.c.ev, .slice A n c]] w fun e w' => ∃ vo', e = .returned (.agg #[.int .i64 m.c.id, .int .i64 m.c.pr, .int .i64 m.c.ev, .bool m.c.pre, .string m.c.fr, .slice A n c, .int .i64 m.st, .int .i64 m.pace, .int .i64 m.wt, vo']) ∧ Rw b w' vo' A n c (m.out ++ [saysV m.c p]) ∧ Below w.heap.size w w' := rdoes_any hrow hb hlen (saysV m.c p)
theorem rdoes_claim (hrow : Rw b w vo A n c m.out) (hb : b ≤ w.heap.size) (hlen : m.out.length ≤ 549755813888) :
    Calls Try.prog 69 #[.agg #[.int .i64 m.c.id, .int .i64 m.c.pr, .int .i64 m.c.ev, .bool m.c.pre, .string m.c.fr, .slice A n c, .int .i64 m.st, .int .i64 m.pace, .int .i64 m.wt, vo], .agg #[.int .i64 2, .int .i64 0, .int .i64 0, .int .i64 0, .slice none 0 0]] w fun e w' => ∃ vo', e = .returned (.agg #[.int .i64 m.c.id, .int .i64 m.c.pr, .int .i64 m.c.ev, .bool m.c.pre, .string m.c.fr, .slice A n c, .int .i64 m.st, .int .i64 m.pace, .int .i64 m.wt, vo']) ∧ Rw b w' vo' A n c (m.out ++ [claimV]) ∧ Below w.heap.size w w' := rdoes_any hrow hb hlen claimV
end

/-- A box of a machine, and one behind it. -/
structure SyR (w : World) (m : Mc) (A : Option Addr) (n c : Nat) (X : World) : Prop where
  c : ∃ z, Cb X w.heap.size 34 [.int .i64 m.c.id, .int .i64 m.c.pr, .int .i64 m.c.ev, .bool m.c.pre, .string m.c.fr, .slice A n c, .int .i64 m.st, .int .i64 m.pace, .int .i64 m.wt, z]
  t : Cb X (w.heap.size + 1) 34 [.int .i64 0, .int .i64 0, .int .i64 0, .bool false, .string ⟨#[]⟩, .slice none 0 0, .int .i64 0, .int .i64 0, .int .i64 0, .slice none 0 0]
  bel : Below w.heap.size w X
theorem SyR.below {w : World} {m : Mc} {A : Option Addr} {n c : Nat} {X X' : World} (h : SyR w m A n c X) (hb : Below X.heap.size X X') : SyR w m A n c X' where
  c := by obtain ⟨z, h⟩ := h.c; exact ⟨z, h.below hb⟩
  t := h.t.below hb
  bel := below_then h.bel h.bel.size hb
theorem SyR.put {w : World} {m : Mc} {A : Option Addr} {n c : Nat} {X X' : World} {z : Value} (h : SyR w m A n c X) (hc : Cb X' w.heap.size 34 [.int .i64 m.c.id, .int .i64 m.c.pr, .int .i64 m.c.ev, .bool m.c.pre, .string m.c.fr, .slice A n c, .int .i64 m.st, .int .i64 m.pace, .int .i64 m.wt, z]) (ho : Only (· = w.heap.size) X X') : SyR w m A n c X' where
  c := ⟨z, hc⟩
  t := h.t.only ho (by omega)
  bel := only_below h.bel ho (Nat.le_refl _)

set_option maxHeartbeats 4000000 in
/-- The reference's say. -/
theorem rsay_any {b : Nat} {A : Option Addr} {n c : Nat} {w : World} {m : Mc} {vo : Value} (hrow : Rw b w vo A n c m.out) (hb : b ≤ w.heap.size) (hlen : m.out.length ≤ 549755813888) (p : Int) :
    Calls Try.prog 63 #[.agg #[.int .i64 m.c.id, .int .i64 m.c.pr, .int .i64 m.c.ev, .bool m.c.pre, .string m.c.fr, .slice A n c, .int .i64 m.st, .int .i64 m.pace, .int .i64 m.wt, vo], .int .i64 p] w fun e w' => ∃ vo', e = .returned (.agg #[.int .i64 (sayM m p).c.id, .int .i64 (sayM m p).c.pr, .int .i64 (sayM m p).c.ev, .bool (sayM m p).c.pre, .string (sayM m p).c.fr, .slice A n c, .int .i64 (sayM m p).st, .int .i64 (sayM m p).pace, .int .i64 (sayM m p).wt, vo']) ∧ Rw b w' vo' A n c (sayM m p).out ∧ Below w.heap.size w w' := by
  obtain ⟨A2, c2, rfl⟩ := hrow.any
  generalize hX : ((w.alloc (.cells #[.int .i64 m.c.id, .int .i64 m.c.pr, .int .i64 m.c.ev, .bool m.c.pre, .string m.c.fr, .slice A n c, .int .i64 m.st, .int .i64 m.pace, .int .i64 m.wt, .slice A2 m.out.length c2] 34)).alloc (.cells #[.int .i64 0, .int .i64 0, .int .i64 0, .bool false, .string ⟨#[]⟩, .slice none 0 0, .int .i64 0, .int .i64 0, .int .i64 0, .slice none 0 0] 34)) = X
  have hXs : X.heap.size = w.heap.size + 1 + 1 := by rw [← hX]; simp
  have hbX : Below w.heap.size w X := by rw [← hX]; exact below_alloc (below_alloc (Below.refl _ _) _) _
  have hc0 : Cb X w.heap.size 34 [.int .i64 m.c.id, .int .i64 m.c.pr, .int .i64 m.c.ev, .bool m.c.pre, .string m.c.fr, .slice A n c, .int .i64 m.st, .int .i64 m.pace, .int .i64 m.wt, .slice A2 m.out.length c2] := by rw [← hX]; exact (Cb.new w [.int .i64 m.c.id, .int .i64 m.c.pr, .int .i64 m.c.ev, .bool m.c.pre, .string m.c.fr, .slice A n c, .int .i64 m.st, .int .i64 m.pace, .int .i64 m.wt, .slice A2 m.out.length c2] 34).alloc _
  have hc1 : Cb X (w.heap.size + 1) 34 [.int .i64 0, .int .i64 0, .int .i64 0, .bool false, .string ⟨#[]⟩, .slice none 0 0, .int .i64 0, .int .i64 0, .int .i64 0, .slice none 0 0] := by
    have h1 := Cb.new (w.alloc (.cells #[.int .i64 m.c.id, .int .i64 m.c.pr, .int .i64 m.c.ev, .bool m.c.pre, .string m.c.fr, .slice A n c, .int .i64 m.st, .int .i64 m.pace, .int .i64 m.wt, .slice A2 m.out.length c2] 34)) [.int .i64 0, .int .i64 0, .int .i64 0, .bool false, .string ⟨#[]⟩, .slice none 0 0, .int .i64 0, .int .i64 0, .int .i64 0, .slice none 0 0] 34
    rw [show (w.alloc (.cells #[.int .i64 m.c.id, .int .i64 m.c.pr, .int .i64 m.c.ev, .bool m.c.pre, .string m.c.fr, .slice A n c, .int .i64 m.st, .int .i64 m.pace, .int .i64 m.wt, .slice A2 m.out.length c2] 34)).heap.size = w.heap.size + 1 by simp] at h1
    rw [← hX]; exact h1
  have HS : Hid (SyR w m A n c X) := Lib.hid ⟨⟨_, hc0⟩, hc1, hbX⟩
  have HCUR := Lib.hid hc0
  have HROW := Lib.hid (hrow.below hbX)
  have HBB : Hid (b ≤ w.heap.size) := Lib.hid hb
  have HLE := Lib.hid hlen
  subst hX
  clear hc0 hc1 hbX hrow hb hlen hXs
  go_enter Try.func63, Try.ntmps63
  go_wp2
  have hCUR := HCUR.out.drew
  have hROW : Rw b (World.drew _) _ A n c m.out := HROW.out.below (below_drew (Below.refl _ _))
  refine wp_region_held_drew (S := SyR w m A n c) (by kernel_rfl) (HS.out.below (below_drew (Below.refl _ _))) (fun hHeld => ?_)
  clear HCUR HROW HS
  obtain ⟨y0, y1, y2, y3, y4, y5, y6, y7, y8, y9⟩ := hCUR.ten
  generalize World.drew _ = W0 at *
  refine wpAnyH_take (i := 1) (oi := ({ dst := some 6, op := Go.Op.fieldAddr 34 (Go.Operand.tmp 2) 0, type := 0, pos := _, after := #[], guard := none } : Oper)) (v := ?_) rfl (by kernel_rfl) (by kernel_rfl) (by kernel_rfl) (fun _ _ _ h => h) (Or.inl ⟨by rfl, ?_⟩) (by assumption) ?_
  rotate_left
  · intro W' hSw
    try dsimp only at hSw
    go_simp
    try with_reducible rfl
  try simp only [Act.put, List.setIfInBounds_toArray, List.set_cons_zero, List.set_cons_succ]
  refine wpAnyH_take (i := 2) (oi := ({ dst := some 7, op := Go.Op.load 25 (Go.Operand.tmp 6), type := 25, pos := _, after := #[{ on := 1, ground := Go.Ground.data }], guard := none } : Oper)) (v := ?_) rfl (by kernel_rfl) (by kernel_rfl) (by kernel_rfl) (fun _ _ _ h => h) (Or.inl ⟨by rfl, ?_⟩) (by assumption) ?_
  rotate_left
  · intro W' hSw
    try dsimp only at hSw
    obtain ⟨z, hz⟩ := hSw.c
    obtain ⟨y0, y1, y2, y3, y4, y5, y6, y7, y8, y9⟩ := hz.ten
    go_simp
    try with_reducible rfl
  try simp only [Act.put, List.setIfInBounds_toArray, List.set_cons_zero, List.set_cons_succ]
  refine wpAnyH_take (i := 3) (oi := ({ dst := some 8, op := Go.Op.move (Go.Operand.tmp 1), type := 3, pos := _, after := #[], guard := none } : Oper)) (v := ?_) rfl (by kernel_rfl) (by kernel_rfl) (by kernel_rfl) (fun _ _ _ h => h) (Or.inl ⟨by rfl, ?_⟩) (by assumption) ?_
  rotate_left
  · intro W' hSw
    try dsimp only at hSw
    go_simp
    try with_reducible rfl
  try simp only [Act.put, List.setIfInBounds_toArray, List.set_cons_zero, List.set_cons_succ]
  refine wpAnyH_ready (rs := [0, 4]) (by kernel_rfl) (by simp) ?_
  refine (AllReadyH.cons (o := ({ dst := some 5, op := Go.Op.load 34 (Go.Operand.tmp 2), type := 34, pos := _, after := #[], guard := none } : Oper)) rfl (fun K hK => ?_) (AllReadyH.cons (o := ({ dst := some 9, op := Go.Op.call { callee := Go.Callee.value (Go.Operand.func 34), args := #[Go.Operand.tmp 7, Go.Operand.tmp 8], argTypes := #[25, 3] }, type := 39, pos := _, after := #[{ on := 2, ground := Go.Ground.data }, { on := 3, ground := Go.Ground.data }], guard := none } : Oper)) rfl (fun K hK => ?_) AllReadyH.nil))
  · go_simp
    refine hK.out _ _ ?_ (fun hHeld => ?_)
    · exact hHeld
    clear hK K
    try simp only [Act.put, List.setIfInBounds_toArray, List.set_cons_zero, List.set_cons_succ]
    refine wpAnyH_ready (rs := [4]) (by kernel_rfl) (by simp) ?_
    refine AllReadyH.cons (o := ({ dst := some 9, op := Go.Op.call { callee := Go.Callee.value (Go.Operand.func 34), args := #[Go.Operand.tmp 7, Go.Operand.tmp 8], argTypes := #[25, 3] }, type := 39, pos := _, after := #[{ on := 2, ground := Go.Ground.data }, { on := 3, ground := Go.Ground.data }], guard := none } : Oper)) rfl (fun K hK => ?_) AllReadyH.nil
    go_simp
    refine (rsays_any _).mono ?_
    rintro e w5 ⟨rfl, hb5⟩
    go_wp2_with fail
    refine hK.out _ _ ?_ (fun hHeld => ?_)
    · exact hHeld.below hb5
    clear hK K
    try simp only [Act.put, List.setIfInBounds_toArray, List.set_cons_zero, List.set_cons_succ]
    replace hCUR := hCUR.below hb5
    replace hROW := hROW.below hb5
    obtain ⟨y0, y1, y2, y3, y4, y5, y6, y7, y8, y9⟩ := hCUR.ten
    clear hb5
    refine wpAnyH_take (i := 5) (oi := ({ dst := some 10, op := Go.Op.build 78 #[(0, Go.Operand.const (Go.Value.int Go.IntKind.i64 1)), (1, Go.Operand.tmp 9)], type := 78, pos := _, after := #[{ on := 4, ground := Go.Ground.data }], guard := none } : Oper)) (v := ?_) rfl (by kernel_rfl) (by kernel_rfl) (by kernel_rfl) (fun _ _ _ h => h) (Or.inl ⟨by rfl, ?_⟩) (by assumption) ?_
    rotate_left
    · intro W' hSw
      try dsimp only at hSw
      go_simp
      try with_reducible rfl
    try simp only [Act.put, List.setIfInBounds_toArray, List.set_cons_zero, List.set_cons_succ]
    refine wpAnyH_ready (rs := [6]) (by kernel_rfl) (by simp) ?_
    refine AllReadyH.cons (o := ({ dst := some 11, op := Go.Op.call { callee := Go.Callee.value (Go.Operand.func 69), args := #[Go.Operand.tmp 5, Go.Operand.tmp 10], argTypes := #[34, 78] }, type := 34, pos := _, after := #[{ on := 0, ground := Go.Ground.data }, { on := 5, ground := Go.Ground.data }, { on := 4, ground := Go.Ground.chain }], guard := none } : Oper)) rfl (fun K hK => ?_) AllReadyH.nil
    go_simp
    refine (rdoes_say hROW (Nat.le_trans HBB.out hHeld.bel.size) HLE.out p).mono ?_
    rintro e w6 ⟨vo6, rfl, hr6, hb6⟩
    obtain ⟨a6, k6, c6, rfl⟩ := hr6.letters
    go_wp2_with fail
    refine hK.out _ _ ?_ (fun hHeld => ?_)
    · exact hHeld.below hb6
    clear hK K
    try simp only [Act.put, List.setIfInBounds_toArray, List.set_cons_zero, List.set_cons_succ]
    obtain ⟨z, hz⟩ := hHeld.c
    obtain ⟨w7, hst7, hcb7, ho7⟩ := store34 hz rfl m.c.id m.c.pr m.c.ev m.c.pre m.c.fr (.slice A n c) m.st m.pace m.wt (.slice a6 k6 c6) rfl rfl
    have HR7 := Lib.hid (hr6.put ho7 hz)
    clear hz hb6 hr6
    refine wpAnyH_ready (rs := [7]) (by kernel_rfl) (by simp) ?_
    refine AllReadyH.cons (o := ({ dst := none, op := Go.Op.store 34 (Go.Operand.tmp 2) (Go.Operand.tmp 11), type := 0, pos := _, after := #[{ on := 6, ground := Go.Ground.data }, { on := 6, ground := Go.Ground.chain }, { on := 0, ground := Go.Ground.phase }, { on := 1, ground := Go.Ground.phase }, { on := 2, ground := Go.Ground.phase }, { on := 3, ground := Go.Ground.phase }, { on := 4, ground := Go.Ground.phase }, { on := 5, ground := Go.Ground.phase }, { on := 6, ground := Go.Ground.phase }], guard := none } : Oper)) rfl (fun K hK => ?_) AllReadyH.nil
    go_simp
    refine hK.out _ _ ?_ (fun hHeld => ?_)
    · exact hHeld.put hcb7 ho7
    clear hK K
    try simp only [Act.put, List.setIfInBounds_toArray, List.set_cons_zero, List.set_cons_succ]
    refine wpAnyH_done (by kernel_rfl) ?_ _
    clear hst7
    have HB7 := Lib.hid hHeld.bel
    have HT7 := Lib.hid hHeld.t
    have HC8 : Hid (Cb (w7.setCell ⟨w.heap.size, 8, none⟩ (.int .i64 m.c.ev)) w.heap.size 34 [.int .i64 (sayM m p).c.id, .int .i64 (sayM m p).c.pr, .int .i64 (sayM m p).c.ev, .bool (sayM m p).c.pre, .string (sayM m p).c.fr, .slice A n c, .int .i64 (sayM m p).st, .int .i64 (sayM m p).pace, .int .i64 (sayM m p).wt, .slice a6 k6 c6]) := Lib.hid (hcb7.setAt 8 _)
    have hO8 : Only (· = w.heap.size) w7 (w7.setCell ⟨w.heap.size, 8, none⟩ (.int .i64 m.c.ev)) := (Only.refl (· = w.heap.size) w7).setCell (p := ⟨w.heap.size, 8, none⟩) (.inl rfl) _
    have HT8 := Lib.hid (HT7.out.only hO8 (by omega))
    have HB8 := Lib.hid (only_below HB7.out hO8 (Nat.le_refl _))
    have HR8 := Lib.hid (HR7.out.put hO8 hcb7)
    obtain ⟨y0, y1, y2, y3, y4, y5, y6, y7, y8, y9⟩ := hcb7.ten
    have hf8 := hcb7.free 8
    have hl8 := hcb7.lt
    clear hHeld hcb7 ho7 hO8 HT7 HB7 HR7 hCUR hROW
    go_upto_region 3 with fail
    clear y0 y1 y2 y3 y4 y5 y6 y7 y8 y9 hf8 hl8
    generalize w7.setCell ⟨w.heap.size, 8, none⟩ (.int .i64 m.c.ev) = w8 at *
    obtain ⟨y0, y1, y2, y3, y4, y5, y6, y7, y8, y9⟩ := HC8.out.ten
    obtain ⟨wz, hstz, hcbz, hoz⟩ := store34 HT8.out rfl (sayM m p).c.id (sayM m p).c.pr (sayM m p).c.ev (sayM m p).c.pre (sayM m p).c.fr (.slice A n c) (sayM m p).st (sayM m p).pace (sayM m p).wt (.slice a6 k6 c6) rfl rfl
    have HRZ := Lib.hid (HR8.out.put hoz HT8.out)
    have HBZ := Lib.hid (only_below HB8.out hoz (by omega))
    obtain ⟨g0, g1, g2, g3, g4, g5, g6, g7, g8, g9⟩ := hcbz.ten
    clear hcbz hoz 
    go_wp2
    refine bodyPost_ret (v := .agg #[.int .i64 (sayM m p).c.id, .int .i64 (sayM m p).c.pr, .int .i64 (sayM m p).c.ev, .bool (sayM m p).c.pre, .string (sayM m p).c.fr, .slice A n c, .int .i64 (sayM m p).st, .int .i64 (sayM m p).pace, .int .i64 (sayM m p).wt, (.slice a6 k6 c6)]) (by simp [results, Try.results63, go_sem, g0, g1, g2, g3, g4, g5, g6, g7, g8, g9]) rfl ⟨_, rfl, HRZ.out, HBZ.out⟩
  · go_simp
    refine (rsays_any _).mono ?_
    rintro e w5 ⟨rfl, hb5⟩
    go_wp2_with fail
    refine hK.out _ _ ?_ (fun hHeld => ?_)
    · exact hHeld.below hb5
    clear hK K
    try simp only [Act.put, List.setIfInBounds_toArray, List.set_cons_zero, List.set_cons_succ]
    replace hCUR := hCUR.below hb5
    replace hROW := hROW.below hb5
    obtain ⟨y0, y1, y2, y3, y4, y5, y6, y7, y8, y9⟩ := hCUR.ten
    clear hb5
    refine wpAnyH_take (i := 5) (oi := ({ dst := some 10, op := Go.Op.build 78 #[(0, Go.Operand.const (Go.Value.int Go.IntKind.i64 1)), (1, Go.Operand.tmp 9)], type := 78, pos := _, after := #[{ on := 4, ground := Go.Ground.data }], guard := none } : Oper)) (v := ?_) rfl (by kernel_rfl) (by kernel_rfl) (by kernel_rfl) (fun _ _ _ h => h) (Or.inl ⟨by rfl, ?_⟩) (by assumption) ?_
    rotate_left
    · intro W' hSw
      try dsimp only at hSw
      go_simp
      try with_reducible rfl
    try simp only [Act.put, List.setIfInBounds_toArray, List.set_cons_zero, List.set_cons_succ]
    refine wpAnyH_ready (rs := [0]) (by kernel_rfl) (by simp) ?_
    refine AllReadyH.cons (o := ({ dst := some 5, op := Go.Op.load 34 (Go.Operand.tmp 2), type := 34, pos := _, after := #[], guard := none } : Oper)) rfl (fun K hK => ?_) AllReadyH.nil
    go_simp
    refine hK.out _ _ ?_ (fun hHeld => ?_)
    · exact hHeld
    clear hK K
    try simp only [Act.put, List.setIfInBounds_toArray, List.set_cons_zero, List.set_cons_succ]
    refine wpAnyH_ready (rs := [6]) (by kernel_rfl) (by simp) ?_
    refine AllReadyH.cons (o := ({ dst := some 11, op := Go.Op.call { callee := Go.Callee.value (Go.Operand.func 69), args := #[Go.Operand.tmp 5, Go.Operand.tmp 10], argTypes := #[34, 78] }, type := 34, pos := _, after := #[{ on := 0, ground := Go.Ground.data }, { on := 5, ground := Go.Ground.data }, { on := 4, ground := Go.Ground.chain }], guard := none } : Oper)) rfl (fun K hK => ?_) AllReadyH.nil
    go_simp
    refine (rdoes_say hROW (Nat.le_trans HBB.out hHeld.bel.size) HLE.out p).mono ?_
    rintro e w6 ⟨vo6, rfl, hr6, hb6⟩
    obtain ⟨a6, k6, c6, rfl⟩ := hr6.letters
    go_wp2_with fail
    refine hK.out _ _ ?_ (fun hHeld => ?_)
    · exact hHeld.below hb6
    clear hK K
    try simp only [Act.put, List.setIfInBounds_toArray, List.set_cons_zero, List.set_cons_succ]
    obtain ⟨z, hz⟩ := hHeld.c
    obtain ⟨w7, hst7, hcb7, ho7⟩ := store34 hz rfl m.c.id m.c.pr m.c.ev m.c.pre m.c.fr (.slice A n c) m.st m.pace m.wt (.slice a6 k6 c6) rfl rfl
    have HR7 := Lib.hid (hr6.put ho7 hz)
    clear hz hb6 hr6
    refine wpAnyH_ready (rs := [7]) (by kernel_rfl) (by simp) ?_
    refine AllReadyH.cons (o := ({ dst := none, op := Go.Op.store 34 (Go.Operand.tmp 2) (Go.Operand.tmp 11), type := 0, pos := _, after := #[{ on := 6, ground := Go.Ground.data }, { on := 6, ground := Go.Ground.chain }, { on := 0, ground := Go.Ground.phase }, { on := 1, ground := Go.Ground.phase }, { on := 2, ground := Go.Ground.phase }, { on := 3, ground := Go.Ground.phase }, { on := 4, ground := Go.Ground.phase }, { on := 5, ground := Go.Ground.phase }, { on := 6, ground := Go.Ground.phase }], guard := none } : Oper)) rfl (fun K hK => ?_) AllReadyH.nil
    go_simp
    refine hK.out _ _ ?_ (fun hHeld => ?_)
    · exact hHeld.put hcb7 ho7
    clear hK K
    try simp only [Act.put, List.setIfInBounds_toArray, List.set_cons_zero, List.set_cons_succ]
    refine wpAnyH_done (by kernel_rfl) ?_ _
    clear hst7
    have HB7 := Lib.hid hHeld.bel
    have HT7 := Lib.hid hHeld.t
    have HC8 : Hid (Cb (w7.setCell ⟨w.heap.size, 8, none⟩ (.int .i64 m.c.ev)) w.heap.size 34 [.int .i64 (sayM m p).c.id, .int .i64 (sayM m p).c.pr, .int .i64 (sayM m p).c.ev, .bool (sayM m p).c.pre, .string (sayM m p).c.fr, .slice A n c, .int .i64 (sayM m p).st, .int .i64 (sayM m p).pace, .int .i64 (sayM m p).wt, .slice a6 k6 c6]) := Lib.hid (hcb7.setAt 8 _)
    have hO8 : Only (· = w.heap.size) w7 (w7.setCell ⟨w.heap.size, 8, none⟩ (.int .i64 m.c.ev)) := (Only.refl (· = w.heap.size) w7).setCell (p := ⟨w.heap.size, 8, none⟩) (.inl rfl) _
    have HT8 := Lib.hid (HT7.out.only hO8 (by omega))
    have HB8 := Lib.hid (only_below HB7.out hO8 (Nat.le_refl _))
    have HR8 := Lib.hid (HR7.out.put hO8 hcb7)
    obtain ⟨y0, y1, y2, y3, y4, y5, y6, y7, y8, y9⟩ := hcb7.ten
    have hf8 := hcb7.free 8
    have hl8 := hcb7.lt
    clear hHeld hcb7 ho7 hO8 HT7 HB7 HR7 hCUR hROW
    go_upto_region 3 with fail
    clear y0 y1 y2 y3 y4 y5 y6 y7 y8 y9 hf8 hl8
    generalize w7.setCell ⟨w.heap.size, 8, none⟩ (.int .i64 m.c.ev) = w8 at *
    obtain ⟨y0, y1, y2, y3, y4, y5, y6, y7, y8, y9⟩ := HC8.out.ten
    obtain ⟨wz, hstz, hcbz, hoz⟩ := store34 HT8.out rfl (sayM m p).c.id (sayM m p).c.pr (sayM m p).c.ev (sayM m p).c.pre (sayM m p).c.fr (.slice A n c) (sayM m p).st (sayM m p).pace (sayM m p).wt (.slice a6 k6 c6) rfl rfl
    have HRZ := Lib.hid (HR8.out.put hoz HT8.out)
    have HBZ := Lib.hid (only_below HB8.out hoz (by omega))
    obtain ⟨g0, g1, g2, g3, g4, g5, g6, g7, g8, g9⟩ := hcbz.ten
    clear hcbz hoz 
    go_wp2
    refine bodyPost_ret (v := .agg #[.int .i64 (sayM m p).c.id, .int .i64 (sayM m p).c.pr, .int .i64 (sayM m p).c.ev, .bool (sayM m p).c.pre, .string (sayM m p).c.fr, .slice A n c, .int .i64 (sayM m p).st, .int .i64 (sayM m p).pace, .int .i64 (sayM m p).wt, (.slice a6 k6 c6)]) (by simp [results, Try.results63, go_sem, g0, g1, g2, g3, g4, g5, g6, g7, g8, g9]) rfl ⟨_, rfl, HRZ.out, HBZ.out⟩

end Go.Proofs.Ytpcdaidgijkkbaa
