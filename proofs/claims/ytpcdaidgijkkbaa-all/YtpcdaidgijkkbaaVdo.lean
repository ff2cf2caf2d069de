/-
  What a machine does: becomeMaster, becomeBackup, sendAgain.
-/
import Derived.Test.YtpcdaidgijkkbaaVgive
namespace Go.Proofs.Ytpcdaidgijkkbaa
open Go.RowKit Go.Maps
set_option linter.unusedVariables false
set_option linter.unusedSimpArgs false
set_option maxRecDepth 40000

section
variable {base B : Nat} {w : World} {m : Mc} {va vo : Value} {l : List (Vt × Value)}
theorem MmS.len (h : MmS base w B m va vo l) : l.length = m.out.length := by rw [← h.lst, List.length_map]
theorem MmS.mm (h : MmS base w B m va vo l) : Mm base w B m := ⟨va, vo, l, h⟩
theorem MmS.stwt (h : MmS base w B m va vo l) (st wt : Int) (hok : OkM { m with st := st, wt := wt }) : MmS base ((w.setCell ⟨B, 6, none⟩ (.int .i64 st)).setCell ⟨B, 8, none⟩ (.int .i64 wt)) B { m with st := st, wt := wt } va vo l :=
  h.stored _ rfl rfl hok (((Only.refl (fun i => i = B) w).setCell (p := ⟨B, 6, none⟩) (.inl rfl) _).setCell (p := ⟨B, 8, none⟩) (.inl rfl) _) ((h.blk.setAt 6 _).setAt 8 _)
theorem MmS.wt (h : MmS base w B m va vo l) (wt : Int) (hok : OkM { m with wt := wt }) : MmS base (w.setCell ⟨B, 8, none⟩ (.int .i64 wt)) B { m with wt := wt } va vo l :=
  h.stored _ rfl rfl hok ((Only.refl (fun i => i = B) w).setCell (p := ⟨B, 8, none⟩) (.inl rfl) _) (h.blk.setAt 8 _)

/-- A row of events that a call laid, at which give stands. -/
theorem given_two (h : MmS base w B m va vo l) {w1 : World} {v : Value} (hv : Adr w1 w.heap.size v m.c.ads) (hb : Below w.heap.size w w1) (p : Int) (hlen : m.out.length ≤ 549755813888) :
    Calls Try.prog 46 #[.pointer (some ⟨B, 0, none⟩), .slice (some ⟨w1.heap.size, 0, none⟩) 2 2] (w1.alloc (.cells #[.int .i64 1, .int .i64 m.c.id, .int .i64 p, .int .i64 m.c.ev, v, .int .i64 2, .int .i64 0, .int .i64 0, .int .i64 0, .slice none 0 0] 58)) fun e w' => e = .returned (.tuple #[]) ∧ Mm base w' B { m with out := m.out ++ [saysV m.c p, claimV] } ∧ Kp base B w w' := by
  have hb2 : Below w.heap.size w (w1.alloc (.cells #[.int .i64 1, .int .i64 m.c.id, .int .i64 p, .int .i64 m.c.ev, v, .int .i64 2, .int .i64 0, .int .i64 0, .int .i64 0, .slice none 0 0] 58)) := below_alloc hb _
  have hbb : base ≤ w.heap.size := Nat.le_of_lt (Nat.lt_of_le_of_lt h.lo h.blk.lt)
  refine (give_any (h.below hb2) [(saysV m.c p, v), (claimV, .slice none 0 0)] w1.heap.size 2 2 rfl (fun j u hj => ?_) (fun x hx => ?_) (by have := h.len; omega)).mono ?_
  · rw [(Cb.new w1 [.int .i64 1, .int .i64 m.c.id, .int .i64 p, .int .i64 m.c.ev, v, .int .i64 2, .int .i64 0, .int .i64 0, .int .i64 0, .slice none 0 0] 58).cell j]
    exact hj
  · simp only [List.mem_cons, List.not_mem_nil, or_false] at hx
    rcases hx with rfl | rfl
    · exact ((hv.below (below_alloc (Below.refl _ _) _)).base hbb)
    · exact Adr.nil _ _
  · rintro e w' ⟨rfl, hm, hk⟩
    exact ⟨rfl, hm, (Kp.of_below hb2).trans hk⟩
theorem given_one (h : MmS base w B m va vo l) {w1 : World} {v : Value} (hv : Adr w1 w.heap.size v m.c.ads) (hb : Below w.heap.size w w1) (p : Int) (hlen : m.out.length ≤ 549755813888) :
    Calls Try.prog 46 #[.pointer (some ⟨B, 0, none⟩), .slice (some ⟨w1.heap.size, 0, none⟩) 1 1] (w1.alloc (.cells #[.int .i64 1, .int .i64 m.c.id, .int .i64 p, .int .i64 m.c.ev, v] 58)) fun e w' => e = .returned (.tuple #[]) ∧ Mm base w' B { m with out := m.out ++ [saysV m.c p] } ∧ Kp base B w w' := by
  have hb2 : Below w.heap.size w (w1.alloc (.cells #[.int .i64 1, .int .i64 m.c.id, .int .i64 p, .int .i64 m.c.ev, v] 58)) := below_alloc hb _
  have hbb : base ≤ w.heap.size := Nat.le_of_lt (Nat.lt_of_le_of_lt h.lo h.blk.lt)
  refine (give_any (h.below hb2) [(saysV m.c p, v)] w1.heap.size 1 1 rfl (fun j u hj => ?_) (fun x hx => ?_) (by have := h.len; omega)).mono ?_
  · rw [(Cb.new w1 [.int .i64 1, .int .i64 m.c.id, .int .i64 p, .int .i64 m.c.ev, v] 58).cell j]
    exact hj
  · simp only [List.mem_cons, List.not_mem_nil, or_false] at hx
    subst hx
    exact ((hv.below (below_alloc (Below.refl _ _) _)).base hbb)
  · rintro e w' ⟨rfl, hm, hk⟩
    exact ⟨rfl, hm, (Kp.of_below hb2).trans hk⟩

set_option maxHeartbeats 2000000 in
/-- Machine.becomeMaster. -/
theorem master_any (h : Mm base w B m) (hlen : m.out.length ≤ 549755813888) :
    Calls Try.prog 41 #[.pointer (some ⟨B, 0, none⟩)] w fun e w' => e = .returned (.tuple #[]) ∧ Mm base w' B (leadM m) ∧ Kp base B w w' := by
  obtain ⟨va, vo, l, h⟩ := h
  have HS := Lib.hid (sent_any h m.c.pr)
  have HG : Hid (∀ {w1 : World} {v : Value} (hv : Adr w1 w.heap.size v m.c.ads) (hb : Below w.heap.size w w1), Calls Try.prog 46 #[.pointer (some ⟨B, 0, none⟩), .slice (some ⟨w1.heap.size, 0, none⟩) 2 2] (w1.alloc (.cells #[.int .i64 1, .int .i64 m.c.id, .int .i64 m.c.pr, .int .i64 m.c.ev, v, .int .i64 2, .int .i64 0, .int .i64 0, .int .i64 0, .slice none 0 0] 58)) fun e w' => e = .returned (.tuple #[]) ∧ Mm base w' B { m with out := m.out ++ [saysV m.c m.c.pr, claimV] } ∧ Kp base B w w') := Lib.hid (fun hv hb => given_two h hv hb m.c.pr hlen)
  have HOK := Lib.hid h.ok.lead
  obtain ⟨c0, c1, c2, c3, c4, c5, c6, c7, c8, c9⟩ := h.cells
  have hlt := h.blk.lt
  clear c0 c2 c3 c4 c5 c6 c7 c8 c9 h
  go_enter Try.func41, Try.ntmps41
  go_wp2_with fail
  refine HS.out.mono ?_
  rintro e w1 ⟨v, rfl, hadr, hb1⟩
  obtain ⟨a', c', rfl, -, -⟩ := row_any hadr
  have HA := Lib.hid hadr
  have HB := Lib.hid hb1
  clear hadr hb1
  go_wp2_with fail
  refine (HG.out HA.out HB.out).mono ?_
  rintro e w2 ⟨rfl, ⟨va2, vo2, l2, h2⟩, hk2⟩
  obtain ⟨d0, d1, d2, d3, d4, d5, d6, d7, d8, d9⟩ := h2.cells
  have f6 := h2.blk.free 6
  have f8 := h2.blk.free 8
  have hlt2 := h2.blk.lt
  have HM : Hid (Mm base ((w2.setCell ⟨B, 6, none⟩ (.int .i64 3)).setCell ⟨B, 8, none⟩ (.int .i64 m.c.ev)) B (leadM m)) := Lib.hid (h2.stwt 3 m.c.ev HOK.out).mm
  have HK : Hid (Kp base B w ((w2.setCell ⟨B, 6, none⟩ (.int .i64 3)).setCell ⟨B, 8, none⟩ (.int .i64 m.c.ev))) := Lib.hid ((hk2.setCell 6 _).setCell 8 _)
  clear h2 hk2 d0 d1 d3 d4 d5 d7 d9
  go_wp2
  go_end0
  exact ⟨rfl, HM.out, HK.out⟩

set_option maxHeartbeats 2000000 in
/-- Machine.sendAgain. -/
theorem again_any (h : Mm base w B m) (h3 : OkM (sayM m m.c.pr)) (hlen : m.out.length ≤ 549755813888) :
    Calls Try.prog 45 #[.pointer (some ⟨B, 0, none⟩)] w fun e w' => e = .returned (.tuple #[]) ∧ Mm base w' B (sayM m m.c.pr) ∧ Kp base B w w' := by
  obtain ⟨va, vo, l, h⟩ := h
  have HS := Lib.hid (sent_any h m.c.pr)
  have HG : Hid (∀ {w1 : World} {v : Value} (hv : Adr w1 w.heap.size v m.c.ads) (hb : Below w.heap.size w w1), Calls Try.prog 46 #[.pointer (some ⟨B, 0, none⟩), .slice (some ⟨w1.heap.size, 0, none⟩) 1 1] (w1.alloc (.cells #[.int .i64 1, .int .i64 m.c.id, .int .i64 m.c.pr, .int .i64 m.c.ev, v] 58)) fun e w' => e = .returned (.tuple #[]) ∧ Mm base w' B { m with out := m.out ++ [saysV m.c m.c.pr] } ∧ Kp base B w w') := Lib.hid (fun hv hb => given_one h hv hb m.c.pr hlen)
  have HOK := Lib.hid h3
  obtain ⟨c0, c1, c2, c3, c4, c5, c6, c7, c8, c9⟩ := h.cells
  have hlt := h.blk.lt
  clear c0 c2 c3 c4 c5 c6 c7 c8 c9 h h3
  go_enter Try.func45, Try.ntmps45
  go_wp2_with fail
  refine HS.out.mono ?_
  rintro e w1 ⟨v, rfl, hadr, hb1⟩
  obtain ⟨a', c', rfl, -, -⟩ := row_any hadr
  have HA := Lib.hid hadr
  have HB := Lib.hid hb1
  clear hadr hb1
  go_wp2_with fail
  refine (HG.out HA.out HB.out).mono ?_
  rintro e w2 ⟨rfl, ⟨va2, vo2, l2, h2⟩, hk2⟩
  obtain ⟨d0, d1, d2, d3, d4, d5, d6, d7, d8, d9⟩ := h2.cells
  have f8 := h2.blk.free 8
  have hlt2 := h2.blk.lt
  have HM : Hid (Mm base (w2.setCell ⟨B, 8, none⟩ (.int .i64 m.c.ev)) B (sayM m m.c.pr)) := Lib.hid (h2.wt m.c.ev HOK.out).mm
  have HK : Hid (Kp base B w (w2.setCell ⟨B, 8, none⟩ (.int .i64 m.c.ev))) := Lib.hid (hk2.setCell 8 _)
  clear h2 hk2 d0 d1 d3 d4 d5 d7 d9
  go_wp2
  go_end0
  exact ⟨rfl, HM.out, HK.out⟩

theorem max_min (n : Int) : min (max n 1) 4095 = clamp n := by unfold clamp; split; omega; split <;> omega
set_option maxHeartbeats 2000000 in
/-- Machine.becomeBackup. -/
theorem backup_any (h : Mm base w B m) (n : Int) :
    Calls Try.prog 42 #[.pointer (some ⟨B, 0, none⟩), .int .i64 n] w fun e w' => e = .returned (.tuple #[]) ∧ Mm base w' B (followM m n) ∧ Kp base B w w' := by
  obtain ⟨va, vo, l, h⟩ := h
  obtain ⟨c0, c1, c2, c3, c4, c5, c6, c7, c8, c9⟩ := h.cells
  have hlt := h.blk.lt
  have f7 := h.blk.free 7
  have f6 := h.blk.free 6
  have f8 := h.blk.free 8
  have hcl := clamp_bd n
  have HD : Hid (Calls Try.prog 18 #[.pointer (some ⟨B, 0, none⟩)] (w.setCell ⟨B, 7, none⟩ (.int .i64 (clamp n))) fun x w' => x = .returned (.int .i64 (3 * clamp n + skewI m.c.pr (clamp n))) ∧ ∃ q, w' = (w.setCell ⟨B, 7, none⟩ (.int .i64 (clamp n))).drewN q) :=
    Lib.hid (down_any hcl ((h.blk.setAt 7 _).cell 1) ((h.blk.setAt 7 _).cell 7))
  have HM : ∀ q, Hid (Mm base ((((w.setCell ⟨B, 7, none⟩ (.int .i64 (clamp n))).drewN q).setCell ⟨B, 6, none⟩ (.int .i64 2)).setCell ⟨B, 8, none⟩ (.int .i64 (3 * clamp n + skewI m.c.pr (clamp n)))) B (followM m n)) := fun q =>
    Lib.hid (h.stored (followM m n) rfl rfl (h.ok.follow n) (((((Only.refl (fun i => i = B) w).setCell (p := ⟨B, 7, none⟩) (.inl rfl) _).drewN q).setCell (p := ⟨B, 6, none⟩) (.inl rfl) _).setCell (p := ⟨B, 8, none⟩) (.inl rfl) _) ((((h.blk.setAt 7 _).drewN q).setAt 6 _).setAt 8 _)).mm
  have HK : ∀ q, Hid (Kp base B w ((((w.setCell ⟨B, 7, none⟩ (.int .i64 (clamp n))).drewN q).setCell ⟨B, 6, none⟩ (.int .i64 2)).setCell ⟨B, 8, none⟩ (.int .i64 (3 * clamp n + skewI m.c.pr (clamp n))))) := fun q => Lib.hid (((((Kp.refl _ _ _).setCell 7 _).drewN q).setCell 6 _).setCell 8 _)
  have e1 := max_min n
  have E1 := Lib.hid e1
  generalize clamp n = k at *
  generalize 3 * k + skewI m.c.pr k = d at *
  clear c0 c1 c2 c3 c4 c5 c9 h e1 hcl
  go_enter Try.func42, Try.ntmps42
  go_wp2_with fail
  rw [E1.out]
  refine HD.out.mono ?_
  rintro e w1 ⟨rfl, q, rfl⟩
  go_wp2
  go_end0
  exact ⟨rfl, (HM q).out, (HK q).out⟩
end
end Go.Proofs.Ytpcdaidgijkkbaa
