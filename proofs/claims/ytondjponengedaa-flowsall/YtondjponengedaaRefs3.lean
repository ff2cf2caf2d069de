/-
  The reference's Do.
-/
import Derived.Test.YtondjponengedaaRefs2
import Derived.Deep.RegionHeld3
namespace Go.Proofs.Ytondjponengedaa
open Go.RowKit
set_option linter.unusedVariables false
set_option linter.unusedSimpArgs false
set_option maxRecDepth 10000
attribute [local go_sem ↓] bigS56 bigS42

set_option maxHeartbeats 4000000 in
theorem rdoA_any {w : World} {L : List En} {v : Value} (h : Rf w v L) (hn : L.length ≤ 64) (o : Opr) (hk : o.kind = 0) :
    Calls Try.prog 31 #[v, opv o] w fun e w' => RdTo w v (acts L o).1 (acts L o).2 e w' := by
  obtain ⟨a, c, rfl, -, -⟩ := row_any h
  obtain ⟨hd0, hb0⟩ := d0_start w o
  have HB0 := Lib.hid hb0
  have HD0 := Lib.hid hd0
  have HV := Lib.hid (fun g hg => (h.lt g hg).2)
  have hR0 := h.below hb0
  have HR0 := Lib.hid hR0
  have HS0 := Lib.hid (w0_size w o)
  have HAP := Lib.hid (fun v1 hl => Apart.of (o := o) (v1 := v1) HV.out hl)
  have HLI := Lib.hid (fun v1 hl => Lies.w0 (w := w) (o := o) (v := .slice a L.length c) (v1 := v1) hl)
  unfold acts
  rw [if_pos hk]
  have HC := Lib.hid (ropen_any hR0 hn o.e.fl o.e.bk 0 0 o.flags o.now)
  obtain ⟨kd, fl, now, ⟨⟨x1, x2, x3, x4, x5⟩, x6, x7, x8⟩⟩ := o
  simp only at hk
  subst hk
  simp only [W0, ocs, ecs, acells, Z, List.cons_append, List.nil_append, fv, ev, opv] at HC HB0 HD0 HR0 HS0 HAP HLI ⊢
  clear h hd0 hb0 hR0
  generalize (opn L ⟨x1, x2, x3, x4, x5⟩ x6 fl now).2 = er at *
  generalize (opn L ⟨x1, x2, x3, x4, x5⟩ x6 fl now).1 = L' at *
  obtain ⟨n, hln⟩ : ∃ n, L.length = n := ⟨_, rfl⟩
  rw [hln] at HC HV HAP HLI ⊢
  clear hln
  go_enter Try.func31, Try.ntmps31
  go_wp2_with fail
  refine HC.out.mono ?_
  rintro e w1 ⟨v1, rfl, hr1, hl1, hb1⟩
  have HD1 := Lib.hid (HD0.out.below hb1)
  have HB1 := Lib.hid (below_then HB0.out HB0.out.size hb1)
  have HAP1 := Lib.hid (HAP.out _ hl1)
  have HLI1 := Lib.hid (HLI.out _ hl1)
  have HR1 := Lib.hid hr1
  obtain ⟨b0, b1, b2, b3, b4, b5, b6, b7, b8, b9⟩ := HD1.out.ba.ten
  have f0 := HD1.out.ba.free 0
  clear hr1 hl1 hb1
  have HSA := Lib.hid (HD1.out.setA 0 (.int .i64 er))
  have HD2 := Lib.hid HSA.out.1
  have HB2 := Lib.hid (only_below HB1.out HSA.out.2 (by omega))
  have HR2 := Lib.hid (rf_apart (j := 0) HR1.out HAP1.out HSA.out.2)
  simp only [List.set_cons_zero, List.set_cons_succ] at HD2
  clear HSA
  go_wp2
  obtain ⟨w8, hst8, hbx8, ho8⟩ := store56 HD2.out.drew.br rfl er 0 0 0 0 0 0 {data := #[]} {data := #[]} (.slice none 0 0) rfl
  obtain ⟨c0, c1, c2, c3, c4, c5, c6, c7, c8, c9⟩ := hbx8.ten
  have HO8 := Lib.hid ho8
  have HB8 := Lib.hid (only_below (below_drew HB2.out) ho8 (by omega))
  have HR8 := Lib.hid (rf_apart1 HR2.out.drew HAP1.out ho8)
  have HDd := Lib.hid HD2.out.drew
  clear ho8 hbx8
  skip
  go_wp2
  refine wp_region_held_drew (S := fun W => Bx W (w.heap.size + 1 + 1) 56 [.int .i64 er, .int .i64 0, .string { data := #[] }, .string { data := #[] }, .int .i64 0, .int .i64 0, .int .i64 0, .int .i64 0, .int .i64 0, .slice none 0 0]) (by kernel_rfl) HDd.out.ba (fun hHeld => ?_)
  refine wpAnyH_take (i := 0) (oi := ({ dst := some 88, op := Go.Op.move (Go.Operand.tmp 0), type := 27, pos := _, after := #[], guard := none } : Oper)) (v := ?_) rfl (by kernel_rfl) (by kernel_rfl) (by kernel_rfl) (fun _ _ _ h => h) (Or.inl ⟨by rfl, ?_⟩) (by assumption) ?_
  rotate_left
  · intro W' hSw
    try dsimp only at hSw
    go_simp
    try with_reducible rfl
  try simp only [Act.put, List.setIfInBounds_toArray, List.set_cons_zero, List.set_cons_succ]
  refine wpAnyH_take (i := 1) (oi := ({ dst := some 89, op := Go.Op.load 56 (Go.Operand.tmp 6), type := 56, pos := _, after := #[{ on := 2, ground := Go.Ground.gcOnly Go.Departure.lateStores }], guard := none } : Oper)) (v := ?_) rfl (by kernel_rfl) (by kernel_rfl) (by kernel_rfl) (fun _ _ _ h => h) (Or.inl ⟨by rfl, ?_⟩) (by assumption) ?_
  rotate_left
  · intro W' hSw
    try dsimp only at hSw
    obtain ⟨b0, b1, b2, b3, b4, b5, b6, b7, b8, b9⟩ := Bx.ten hSw
    go_simp
    try with_reducible rfl
  try simp only [Act.put, List.setIfInBounds_toArray, List.set_cons_zero, List.set_cons_succ]
  refine wpAnyH_take (i := 2) (oi := ({ dst := some 4, op := Go.Op.assign (Go.Operand.tmp 88), type := 27, pos := _, after := #[{ on := 0, ground := Go.Ground.data }, { on := 0, ground := Go.Ground.phase }, { on := 1, ground := Go.Ground.textOnly Go.Departure.lateStores }], guard := none } : Oper)) (v := ?_) rfl (by kernel_rfl) (by kernel_rfl) (by kernel_rfl) (fun _ _ _ h => h) (Or.inl ⟨by rfl, ?_⟩) (by assumption) ?_
  rotate_left
  · intro W' hSw
    try dsimp only at hSw
    go_simp
    try with_reducible rfl
  try simp only [Act.put, List.setIfInBounds_toArray, List.set_cons_zero, List.set_cons_succ]
  refine wpAnyH_ready (rs := [3]) (by kernel_rfl) (by simp) ?_
  refine AllReadyH.cons (o := ({ dst := none, op := Go.Op.store 56 (Go.Operand.tmp 5) (Go.Operand.tmp 89), type := 0, pos := _, after := #[{ on := 1, ground := Go.Ground.data }, { on := 2, ground := Go.Ground.chain }, { on := 0, ground := Go.Ground.phase }, { on := 1, ground := Go.Ground.phase }, { on := 2, ground := Go.Ground.phase }], guard := none } : Oper)) rfl (fun K hK => ?_) AllReadyH.nil
  go_simp
  refine hK.out _ _ ?_ (fun hHeld => ?_)
  · exact hHeld.only HO8.out (by omega)
  clear hK K
  try simp only [Act.put, List.setIfInBounds_toArray, List.set_cons_zero, List.set_cons_succ]
  refine wpAnyH_done (by kernel_rfl) ?_ _
  go_wp2
  exact bodyPost_ret (v := .tuple #[v1, .agg #[.int .i64 er, .int .i64 0, .string { data := #[] }, .string { data := #[] }, .int .i64 0, .int .i64 0, .int .i64 0, .int .i64 0, .int .i64 0, .slice none 0 0]]) (by simp [results, Try.results31, go_sem, c0, c1, c2, c3, c4, c5, c6, c7, c8, c9]) rfl ⟨_, _, rfl, HR8.out, HLI1.out, World.ownsRow_nil _ _ 42 8, HB8.out⟩

end Go.Proofs.Ytondjponengedaa

namespace Go.Proofs.Ytondjponengedaa
open Go.RowKit
set_option linter.unusedVariables false
set_option linter.unusedSimpArgs false
set_option maxRecDepth 10000
attribute [local go_sem ↓] bigS56 bigS42

set_option maxHeartbeats 4000000 in
theorem rdoB_any {w : World} {L : List En} {v : Value} (h : Rf w v L) (hn : L.length ≤ 64) (o : Opr) (hk : o.kind = 1) :
    Calls Try.prog 31 #[v, opv o] w fun e w' => RdTo w v (acts L o).1 (acts L o).2 e w' := by
  obtain ⟨a, c, rfl, -, -⟩ := row_any h
  obtain ⟨hd0, hb0⟩ := d0_start w o
  have HB0 := Lib.hid hb0
  have HD0 := Lib.hid hd0
  have HV := Lib.hid (fun g hg => (h.lt g hg).2)
  have hR0 := h.below hb0
  have HR0 := Lib.hid hR0
  have HS0 := Lib.hid (w0_size w o)
  have HAP := Lib.hid (fun v1 hl => Apart.of (o := o) (v1 := v1) HV.out hl)
  have HLI := Lib.hid (fun v1 hl => Lies.w0 (w := w) (o := o) (v := .slice a L.length c) (v1 := v1) hl)
  unfold acts
  rw [if_neg (by omega), if_pos hk]
  have HC := Lib.hid (rsee_any hR0 hn o.e.fl o.flags o.now)
  obtain ⟨kd, fl, now, ⟨⟨x1, x2, x3, x4, x5⟩, x6, x7, x8⟩⟩ := o
  simp only at hk
  subst hk
  simp only [W0, ocs, ecs, acells, Z, List.cons_append, List.nil_append, fv, ev, opv] at HC HB0 HD0 HR0 HS0 HAP HLI ⊢
  clear h hd0 hb0 hR0
  generalize (see L ⟨x1, x2, x3, x4, x5⟩ fl now).2.1 = y at *
  generalize (see L ⟨x1, x2, x3, x4, x5⟩ fl now).2.2 = is at *
  generalize (see L ⟨x1, x2, x3, x4, x5⟩ fl now).1 = L' at *
  obtain ⟨n, hln⟩ : ∃ n, L.length = n := ⟨_, rfl⟩
  rw [hln] at HC HV HAP HLI ⊢
  clear hln
  go_enter Try.func31, Try.ntmps31
  go_wp2_with fail
  refine HC.out.mono ?_
  rintro e w1 ⟨v1, rfl, hr1, hl1, hb1⟩
  obtain ⟨⟨y1, y2, y3, y4, y5⟩, y6, y7, y8⟩ := y
  have HD1 := Lib.hid (HD0.out.below hb1)
  have HB1 := Lib.hid (below_then HB0.out HB0.out.size hb1)
  have HAP1 := Lib.hid (HAP.out _ hl1)
  have HLI1 := Lib.hid (HLI.out _ hl1)
  have HR1 := Lib.hid hr1
  have hs1 := HD1.out.ba.lt
  have hba := below_alloc (Below.refl w1.heap.size w1) (.cells #[.int .i64 0, .string { data := #[] }, .string { data := #[] }, .int .i64 0, .int .i64 0, .int .i64 0, .int .i64 0, .int .i64 0] 42)
  obtain ⟨w2, hst2, hbx2, ho2⟩ := store42 (show Bx (w1.alloc (.cells #[.int .i64 0, .string { data := #[] }, .string { data := #[] }, .int .i64 0, .int .i64 0, .int .i64 0, .int .i64 0, .int .i64 0] 42)) w1.heap.size 42 [.int .i64 0, .string { data := #[] }, .string { data := #[] }, .int .i64 0, .int .i64 0, .int .i64 0, .int .i64 0, .int .i64 0] from Bx.new w1 [.int .i64 0, .string { data := #[] }, .string { data := #[] }, .int .i64 0, .int .i64 0, .int .i64 0, .int .i64 0, .int .i64 0] 42) rfl y1 y4 y5 y6 y7 y8 y2 y3
  have HO2 := Lib.hid (Only.trans (F := fun _ => False) (Only.of_below hba) ho2 fun i hi => .inr (by omega))
  have HD2 : Hid (D0 w w2 _ _ _) := Lib.hid ⟨HD1.out.bo.only HO2.out (fun h => h), HD1.out.br.only HO2.out (fun h => h), HD1.out.ba.only HO2.out (fun h => h)⟩
  have HB2 := Lib.hid (HB1.out.trans (HO2.out.below HB1.out.size fun i h => h.elim))
  have HR2 : Hid (Rf w2 _ _) := Lib.hid (row_only HR1.out HO2.out fun g hg h => h)
  obtain ⟨e0, e1, e2, e3, e4, e5, e6, e7⟩ := hbx2.eight
  obtain ⟨w3, hst3, hd3, ho3⟩ := D0.storeE (m := [.int .i64 0, .string { data := #[] }, .string { data := #[] }, .int .i64 0, .int .i64 0, .int .i64 0, .int .i64 0, .int .i64 0]) HD2.out rfl y1 y4 y5 y6 y7 y8 y2 y3
  have HD3 := Lib.hid hd3
  have HB3 := Lib.hid (only_below HB2.out ho3 (by omega))
  have HR3 := Lib.hid (rf_apart (j := 0) HR2.out HAP1.out ho3)
  obtain ⟨b0, b1, b2, b3, b4, b5, b6, b7, b8, b9⟩ := HD3.out.ba.ten
  have f0 := HD3.out.ba.free 0
  clear hr1 hl1 hb1 hba hbx2 ho2 hd3 ho3
  simp only [ev]
  rcases is with _ | _
  · have HSA := Lib.hid (HD3.out.setA 0 (.int .i64 1))
    have HD4 := Lib.hid HSA.out.1
    have HB4 := Lib.hid (only_below HB3.out HSA.out.2 (by omega))
    have HR4 := Lib.hid (rf_apart (j := 0) HR3.out HAP1.out HSA.out.2)
    simp only [List.set_cons_zero, List.set_cons_succ] at HD4
    clear HSA
    go_wp2
    obtain ⟨w8, hst8, hbx8, ho8⟩ := store56 HD4.out.drew.br rfl 1 y1 y4 y5 y6 y7 y8 y2 y3 (.slice none 0 0) rfl
    obtain ⟨c0, c1, c2, c3, c4, c5, c6, c7, c8, c9⟩ := hbx8.ten
    have HO8 := Lib.hid ho8
    have HB8 := Lib.hid (only_below (below_drew HB4.out) ho8 (by omega))
    have HR8 := Lib.hid (rf_apart1 HR4.out.drew HAP1.out ho8)
    have HDd := Lib.hid HD4.out.drew
    clear ho8 hbx8
    skip
    go_wp2
    refine wp_region_held_drew (S := fun W => Bx W (w.heap.size + 1 + 1) 56 [.int .i64 1, .int .i64 y1, .string y2, .string y3, .int .i64 y4, .int .i64 y5, .int .i64 y6, .int .i64 y7, .int .i64 y8, .slice none 0 0]) (by kernel_rfl) HDd.out.ba (fun hHeld => ?_)
    refine wpAnyH_take (i := 0) (oi := ({ dst := some 88, op := Go.Op.move (Go.Operand.tmp 0), type := 27, pos := _, after := #[], guard := none } : Oper)) (v := ?_) rfl (by kernel_rfl) (by kernel_rfl) (by kernel_rfl) (fun _ _ _ h => h) (Or.inl ⟨by rfl, ?_⟩) (by assumption) ?_
    rotate_left
    · intro W' hSw
      try dsimp only at hSw
      go_simp
      try with_reducible rfl
    try simp only [Act.put, List.setIfInBounds_toArray, List.set_cons_zero, List.set_cons_succ]
    refine wpAnyH_take (i := 1) (oi := ({ dst := some 89, op := Go.Op.load 56 (Go.Operand.tmp 6), type := 56, pos := _, after := #[{ on := 2, ground := Go.Ground.gcOnly Go.Departure.lateStores }], guard := none } : Oper)) (v := ?_) rfl (by kernel_rfl) (by kernel_rfl) (by kernel_rfl) (fun _ _ _ h => h) (Or.inl ⟨by rfl, ?_⟩) (by assumption) ?_
    rotate_left
    · intro W' hSw
      try dsimp only at hSw
      obtain ⟨b0, b1, b2, b3, b4, b5, b6, b7, b8, b9⟩ := Bx.ten hSw
      go_simp
      try with_reducible rfl
    try simp only [Act.put, List.setIfInBounds_toArray, List.set_cons_zero, List.set_cons_succ]
    refine wpAnyH_take (i := 2) (oi := ({ dst := some 4, op := Go.Op.assign (Go.Operand.tmp 88), type := 27, pos := _, after := #[{ on := 0, ground := Go.Ground.data }, { on := 0, ground := Go.Ground.phase }, { on := 1, ground := Go.Ground.textOnly Go.Departure.lateStores }], guard := none } : Oper)) (v := ?_) rfl (by kernel_rfl) (by kernel_rfl) (by kernel_rfl) (fun _ _ _ h => h) (Or.inl ⟨by rfl, ?_⟩) (by assumption) ?_
    rotate_left
    · intro W' hSw
      try dsimp only at hSw
      go_simp
      try with_reducible rfl
    try simp only [Act.put, List.setIfInBounds_toArray, List.set_cons_zero, List.set_cons_succ]
    refine wpAnyH_ready (rs := [3]) (by kernel_rfl) (by simp) ?_
    refine AllReadyH.cons (o := ({ dst := none, op := Go.Op.store 56 (Go.Operand.tmp 5) (Go.Operand.tmp 89), type := 0, pos := _, after := #[{ on := 1, ground := Go.Ground.data }, { on := 2, ground := Go.Ground.chain }, { on := 0, ground := Go.Ground.phase }, { on := 1, ground := Go.Ground.phase }, { on := 2, ground := Go.Ground.phase }], guard := none } : Oper)) rfl (fun K hK => ?_) AllReadyH.nil
    go_simp
    refine hK.out _ _ ?_ (fun hHeld => ?_)
    · exact hHeld.only HO8.out (by omega)
    clear hK K
    try simp only [Act.put, List.setIfInBounds_toArray, List.set_cons_zero, List.set_cons_succ]
    refine wpAnyH_done (by kernel_rfl) ?_ _
    go_wp2
    exact bodyPost_ret (v := .tuple #[v1, .agg #[.int .i64 1, .int .i64 y1, .string y2, .string y3, .int .i64 y4, .int .i64 y5, .int .i64 y6, .int .i64 y7, .int .i64 y8, .slice none 0 0]]) (by simp [results, Try.results31, go_sem, c0, c1, c2, c3, c4, c5, c6, c7, c8, c9]) rfl ⟨_, _, rfl, HR8.out, HLI1.out, World.ownsRow_nil _ _ 42 8, HB8.out⟩
  · have HD4 := HD3
    have HB4 := HB3
    have HR4 := HR3
    go_wp2
    obtain ⟨w8, hst8, hbx8, ho8⟩ := store56 HD4.out.drew.br rfl 0 y1 y4 y5 y6 y7 y8 y2 y3 (.slice none 0 0) rfl
    obtain ⟨c0, c1, c2, c3, c4, c5, c6, c7, c8, c9⟩ := hbx8.ten
    have HO8 := Lib.hid ho8
    have HB8 := Lib.hid (only_below (below_drew HB4.out) ho8 (by omega))
    have HR8 := Lib.hid (rf_apart1 HR4.out.drew HAP1.out ho8)
    have HDd := Lib.hid HD4.out.drew
    clear ho8 hbx8
    skip
    go_wp2
    refine wp_region_held_drew (S := fun W => Bx W (w.heap.size + 1 + 1) 56 [.int .i64 0, .int .i64 y1, .string y2, .string y3, .int .i64 y4, .int .i64 y5, .int .i64 y6, .int .i64 y7, .int .i64 y8, .slice none 0 0]) (by kernel_rfl) HDd.out.ba (fun hHeld => ?_)
    refine wpAnyH_take (i := 0) (oi := ({ dst := some 88, op := Go.Op.move (Go.Operand.tmp 0), type := 27, pos := _, after := #[], guard := none } : Oper)) (v := ?_) rfl (by kernel_rfl) (by kernel_rfl) (by kernel_rfl) (fun _ _ _ h => h) (Or.inl ⟨by rfl, ?_⟩) (by assumption) ?_
    rotate_left
    · intro W' hSw
      try dsimp only at hSw
      go_simp
      try with_reducible rfl
    try simp only [Act.put, List.setIfInBounds_toArray, List.set_cons_zero, List.set_cons_succ]
    refine wpAnyH_take (i := 1) (oi := ({ dst := some 89, op := Go.Op.load 56 (Go.Operand.tmp 6), type := 56, pos := _, after := #[{ on := 2, ground := Go.Ground.gcOnly Go.Departure.lateStores }], guard := none } : Oper)) (v := ?_) rfl (by kernel_rfl) (by kernel_rfl) (by kernel_rfl) (fun _ _ _ h => h) (Or.inl ⟨by rfl, ?_⟩) (by assumption) ?_
    rotate_left
    · intro W' hSw
      try dsimp only at hSw
      obtain ⟨b0, b1, b2, b3, b4, b5, b6, b7, b8, b9⟩ := Bx.ten hSw
      go_simp
      try with_reducible rfl
    try simp only [Act.put, List.setIfInBounds_toArray, List.set_cons_zero, List.set_cons_succ]
    refine wpAnyH_take (i := 2) (oi := ({ dst := some 4, op := Go.Op.assign (Go.Operand.tmp 88), type := 27, pos := _, after := #[{ on := 0, ground := Go.Ground.data }, { on := 0, ground := Go.Ground.phase }, { on := 1, ground := Go.Ground.textOnly Go.Departure.lateStores }], guard := none } : Oper)) (v := ?_) rfl (by kernel_rfl) (by kernel_rfl) (by kernel_rfl) (fun _ _ _ h => h) (Or.inl ⟨by rfl, ?_⟩) (by assumption) ?_
    rotate_left
    · intro W' hSw
      try dsimp only at hSw
      go_simp
      try with_reducible rfl
    try simp only [Act.put, List.setIfInBounds_toArray, List.set_cons_zero, List.set_cons_succ]
    refine wpAnyH_ready (rs := [3]) (by kernel_rfl) (by simp) ?_
    refine AllReadyH.cons (o := ({ dst := none, op := Go.Op.store 56 (Go.Operand.tmp 5) (Go.Operand.tmp 89), type := 0, pos := _, after := #[{ on := 1, ground := Go.Ground.data }, { on := 2, ground := Go.Ground.chain }, { on := 0, ground := Go.Ground.phase }, { on := 1, ground := Go.Ground.phase }, { on := 2, ground := Go.Ground.phase }], guard := none } : Oper)) rfl (fun K hK => ?_) AllReadyH.nil
    go_simp
    refine hK.out _ _ ?_ (fun hHeld => ?_)
    · exact hHeld.only HO8.out (by omega)
    clear hK K
    try simp only [Act.put, List.setIfInBounds_toArray, List.set_cons_zero, List.set_cons_succ]
    refine wpAnyH_done (by kernel_rfl) ?_ _
    go_wp2
    exact bodyPost_ret (v := .tuple #[v1, .agg #[.int .i64 0, .int .i64 y1, .string y2, .string y3, .int .i64 y4, .int .i64 y5, .int .i64 y6, .int .i64 y7, .int .i64 y8, .slice none 0 0]]) (by simp [results, Try.results31, go_sem, c0, c1, c2, c3, c4, c5, c6, c7, c8, c9]) rfl ⟨_, _, rfl, HR8.out, HLI1.out, World.ownsRow_nil _ _ 42 8, HB8.out⟩

end Go.Proofs.Ytondjponengedaa

namespace Go.Proofs.Ytondjponengedaa
open Go.RowKit
set_option linter.unusedVariables false
set_option linter.unusedSimpArgs false
set_option maxRecDepth 10000
attribute [local go_sem ↓] bigS56 bigS42

set_option maxHeartbeats 4000000 in
theorem rdoC_any {w : World} {L : List En} {v : Value} (h : Rf w v L) (hn : L.length ≤ 64) (o : Opr) (hk : o.kind = 2) :
    Calls Try.prog 31 #[v, opv o] w fun e w' => RdTo w v (acts L o).1 (acts L o).2 e w' := by
  obtain ⟨a, c, rfl, -, -⟩ := row_any h
  obtain ⟨hd0, hb0⟩ := d0_start w o
  have HB0 := Lib.hid hb0
  have HD0 := Lib.hid hd0
  have HV := Lib.hid (fun g hg => (h.lt g hg).2)
  have hR0 := h.below hb0
  have HR0 := Lib.hid hR0
  have HS0 := Lib.hid (w0_size w o)
  have HAP := Lib.hid (fun v1 hl => Apart.of (o := o) (v1 := v1) HV.out hl)
  have HLI := Lib.hid (fun v1 hl => Lies.w0 (w := w) (o := o) (v := .slice a L.length c) (v1 := v1) hl)
  unfold acts
  rw [if_neg (by omega), if_neg (by omega), if_pos hk]
  have HC := Lib.hid (rput_any hR0 hn o.e o.now)
  obtain ⟨kd, fl, now, ⟨⟨x1, x2, x3, x4, x5⟩, x6, x7, x8⟩⟩ := o
  simp only at hk
  subst hk
  simp only [W0, ocs, ecs, acells, Z, List.cons_append, List.nil_append, fv, ev, opv] at HC HB0 HD0 HR0 HS0 HAP HLI ⊢
  clear h hd0 hb0 hR0
  generalize (put_ L ⟨⟨x1, x2, x3, x4, x5⟩, x6, x7, x8⟩ now).2 = er at *
  generalize (put_ L ⟨⟨x1, x2, x3, x4, x5⟩, x6, x7, x8⟩ now).1 = L' at *
  obtain ⟨n, hln⟩ : ∃ n, L.length = n := ⟨_, rfl⟩
  rw [hln] at HC HV HAP HLI ⊢
  clear hln
  go_enter Try.func31, Try.ntmps31
  go_wp2_with fail
  refine HC.out.mono ?_
  rintro e w1 ⟨v1, rfl, hr1, hl1, hb1⟩
  have HD1 := Lib.hid (HD0.out.below hb1)
  have HB1 := Lib.hid (below_then HB0.out HB0.out.size hb1)
  have HAP1 := Lib.hid (HAP.out _ hl1)
  have HLI1 := Lib.hid (HLI.out _ hl1)
  have HR1 := Lib.hid hr1
  obtain ⟨b0, b1, b2, b3, b4, b5, b6, b7, b8, b9⟩ := HD1.out.ba.ten
  have f0 := HD1.out.ba.free 0
  clear hr1 hl1 hb1
  have HSA := Lib.hid (HD1.out.setA 0 (.int .i64 er))
  have HD2 := Lib.hid HSA.out.1
  have HB2 := Lib.hid (only_below HB1.out HSA.out.2 (by omega))
  have HR2 := Lib.hid (rf_apart (j := 0) HR1.out HAP1.out HSA.out.2)
  simp only [List.set_cons_zero, List.set_cons_succ] at HD2
  clear HSA
  go_wp2
  obtain ⟨w8, hst8, hbx8, ho8⟩ := store56 HD2.out.drew.br rfl er 0 0 0 0 0 0 {data := #[]} {data := #[]} (.slice none 0 0) rfl
  obtain ⟨c0, c1, c2, c3, c4, c5, c6, c7, c8, c9⟩ := hbx8.ten
  have HO8 := Lib.hid ho8
  have HB8 := Lib.hid (only_below (below_drew HB2.out) ho8 (by omega))
  have HR8 := Lib.hid (rf_apart1 HR2.out.drew HAP1.out ho8)
  have HDd := Lib.hid HD2.out.drew
  clear ho8 hbx8
  skip
  go_wp2
  refine wp_region_held_drew (S := fun W => Bx W (w.heap.size + 1 + 1) 56 [.int .i64 er, .int .i64 0, .string { data := #[] }, .string { data := #[] }, .int .i64 0, .int .i64 0, .int .i64 0, .int .i64 0, .int .i64 0, .slice none 0 0]) (by kernel_rfl) HDd.out.ba (fun hHeld => ?_)
  refine wpAnyH_take (i := 0) (oi := ({ dst := some 88, op := Go.Op.move (Go.Operand.tmp 0), type := 27, pos := _, after := #[], guard := none } : Oper)) (v := ?_) rfl (by kernel_rfl) (by kernel_rfl) (by kernel_rfl) (fun _ _ _ h => h) (Or.inl ⟨by rfl, ?_⟩) (by assumption) ?_
  rotate_left
  · intro W' hSw
    try dsimp only at hSw
    go_simp
    try with_reducible rfl
  try simp only [Act.put, List.setIfInBounds_toArray, List.set_cons_zero, List.set_cons_succ]
  refine wpAnyH_take (i := 1) (oi := ({ dst := some 89, op := Go.Op.load 56 (Go.Operand.tmp 6), type := 56, pos := _, after := #[{ on := 2, ground := Go.Ground.gcOnly Go.Departure.lateStores }], guard := none } : Oper)) (v := ?_) rfl (by kernel_rfl) (by kernel_rfl) (by kernel_rfl) (fun _ _ _ h => h) (Or.inl ⟨by rfl, ?_⟩) (by assumption) ?_
  rotate_left
  · intro W' hSw
    try dsimp only at hSw
    obtain ⟨b0, b1, b2, b3, b4, b5, b6, b7, b8, b9⟩ := Bx.ten hSw
    go_simp
    try with_reducible rfl
  try simp only [Act.put, List.setIfInBounds_toArray, List.set_cons_zero, List.set_cons_succ]
  refine wpAnyH_take (i := 2) (oi := ({ dst := some 4, op := Go.Op.assign (Go.Operand.tmp 88), type := 27, pos := _, after := #[{ on := 0, ground := Go.Ground.data }, { on := 0, ground := Go.Ground.phase }, { on := 1, ground := Go.Ground.textOnly Go.Departure.lateStores }], guard := none } : Oper)) (v := ?_) rfl (by kernel_rfl) (by kernel_rfl) (by kernel_rfl) (fun _ _ _ h => h) (Or.inl ⟨by rfl, ?_⟩) (by assumption) ?_
  rotate_left
  · intro W' hSw
    try dsimp only at hSw
    go_simp
    try with_reducible rfl
  try simp only [Act.put, List.setIfInBounds_toArray, List.set_cons_zero, List.set_cons_succ]
  refine wpAnyH_ready (rs := [3]) (by kernel_rfl) (by simp) ?_
  refine AllReadyH.cons (o := ({ dst := none, op := Go.Op.store 56 (Go.Operand.tmp 5) (Go.Operand.tmp 89), type := 0, pos := _, after := #[{ on := 1, ground := Go.Ground.data }, { on := 2, ground := Go.Ground.chain }, { on := 0, ground := Go.Ground.phase }, { on := 1, ground := Go.Ground.phase }, { on := 2, ground := Go.Ground.phase }], guard := none } : Oper)) rfl (fun K hK => ?_) AllReadyH.nil
  go_simp
  refine hK.out _ _ ?_ (fun hHeld => ?_)
  · exact hHeld.only HO8.out (by omega)
  clear hK K
  try simp only [Act.put, List.setIfInBounds_toArray, List.set_cons_zero, List.set_cons_succ]
  refine wpAnyH_done (by kernel_rfl) ?_ _
  go_wp2
  exact bodyPost_ret (v := .tuple #[v1, .agg #[.int .i64 er, .int .i64 0, .string { data := #[] }, .string { data := #[] }, .int .i64 0, .int .i64 0, .int .i64 0, .int .i64 0, .int .i64 0, .slice none 0 0]]) (by simp [results, Try.results31, go_sem, c0, c1, c2, c3, c4, c5, c6, c7, c8, c9]) rfl ⟨_, _, rfl, HR8.out, HLI1.out, World.ownsRow_nil _ _ 42 8, HB8.out⟩

end Go.Proofs.Ytondjponengedaa

namespace Go.Proofs.Ytondjponengedaa
open Go.RowKit
set_option linter.unusedVariables false
set_option linter.unusedSimpArgs false
set_option maxRecDepth 10000
attribute [local go_sem ↓] bigS56 bigS42

set_option maxHeartbeats 4000000 in
theorem rdoD_any {w : World} {L : List En} {v : Value} (h : Rf w v L) (hn : L.length ≤ 64) (o : Opr) (hk : o.kind = 3) :
    Calls Try.prog 31 #[v, opv o] w fun e w' => RdTo w v (acts L o).1 (acts L o).2 e w' := by
  obtain ⟨a, c, rfl, -, -⟩ := row_any h
  obtain ⟨hd0, hb0⟩ := d0_start w o
  have HB0 := Lib.hid hb0
  have HD0 := Lib.hid hd0
  have HV := Lib.hid (fun g hg => (h.lt g hg).2)
  have hR0 := h.below hb0
  have HR0 := Lib.hid hR0
  have HS0 := Lib.hid (w0_size w o)
  have HAP := Lib.hid (fun v1 hl => Apart.of (o := o) (v1 := v1) HV.out hl)
  have HLI := Lib.hid (fun v1 hl => Lies.w0 (w := w) (o := o) (v := .slice a L.length c) (v1 := v1) hl)
  unfold acts
  rw [if_neg (by omega), if_neg (by omega), if_neg (by omega), if_pos hk]
  have HC := Lib.hid (rfind_any hR0 (by omega) o.e.fl)
  have HWO := Lib.hid (fun (W : World) (hr : Rf W (.slice a L.length c) L) => rwo_any hr (by omega) o.e.fl)
  obtain ⟨kd, fl, now, ⟨⟨x1, x2, x3, x4, x5⟩, x6, x7, x8⟩⟩ := o
  simp only at hk
  subst hk
  simp only [W0, ocs, ecs, acells, Z, List.cons_append, List.nil_append, fv, ev, opv] at HC HWO HB0 HD0 HR0 HS0 HAP HLI ⊢
  have HNN := Lib.hid hn
  clear h hd0 hb0 hR0
  generalize (getF L ⟨x1, x2, x3, x4, x5⟩).isSome = is at *
  generalize wo L ⟨x1, x2, x3, x4, x5⟩ = L' at *
  obtain ⟨n, hln⟩ : ∃ n, L.length = n := ⟨_, rfl⟩
  rw [hln] at HC HWO HR0 HV HAP HLI ⊢
  clear hln
  go_enter Try.func31, Try.ntmps31
  go_wp2_with fail
  refine HC.out.mono ?_
  rintro e w1 ⟨r, rfl, hr, -, hb1⟩
  have HD1 := Lib.hid (HD0.out.below hb1)
  have HB1 := Lib.hid (below_then HB0.out HB0.out.size hb1)
  have HAPV := Lib.hid (HAP.out _ (Lies.refl _ _))
  have HR1 := Lib.hid (HR0.out.below hb1)
  obtain ⟨b0, b1, b2, b3, b4, b5, b6, b7, b8, b9⟩ := HD1.out.ba.ten
  have k3 := HD1.out.bo.cell 3
  have k4 := HD1.out.bo.cell 4
  have k5 := HD1.out.bo.cell 5
  have k6 := HD1.out.bo.cell 6
  have k7 := HD1.out.bo.cell 7
  simp only [ocs, ecs, List.getElem?_cons_zero, List.getElem?_cons_succ] at k3 k4 k5 k6 k7
  have f0 := HD1.out.ba.free 0
  clear hb1
  rcases is with _ | _
  · have HSA := Lib.hid (HD1.out.setA 0 (.int .i64 1))
    have HD2 := Lib.hid HSA.out.1
    have HB2 := Lib.hid (only_below HB1.out HSA.out.2 (by omega))
    have HR2 := Lib.hid (rf_apart (j := 0) HR1.out HAPV.out HSA.out.2)
    simp only [List.set_cons_zero, List.set_cons_succ] at HD2
    clear HSA
    have HXW := Lib.hid (HWO.out _ HR2.out)
    go_wp2_with fail
    refine HXW.out.mono ?_
    rintro e w2 ⟨v2, rfl, hr2, hb2⟩
    have HD3 := Lib.hid (HD2.out.below hb2)
    have HB3 := Lib.hid (below_then HB2.out HB2.out.size hb2)
    have hs2 := HD2.out.ba.lt
    have HAP3 := Lib.hid (Apart.new (w := w) hr2 (by omega))
    have HLI3 := Lib.hid (Lies.new (v := .slice a n c) hr2 HB2.out.size)
    have HR3 : Hid (Rf w2 v2 _) := Lib.hid (row_base hr2 (Nat.zero_le _))
    clear hr2 hb2
    go_wp2
    obtain ⟨w8, hst8, hbx8, ho8⟩ := store56 HD3.out.drew.br rfl 1 0 0 0 0 0 0 {data := #[]} {data := #[]} (.slice none 0 0) rfl
    obtain ⟨c0, c1, c2, c3, c4, c5, c6, c7, c8, c9⟩ := hbx8.ten
    have HO8 := Lib.hid ho8
    have HB8 := Lib.hid (only_below (below_drew HB3.out) ho8 (by omega))
    have HR8 := Lib.hid (rf_apart1 HR3.out.drew HAP3.out ho8)
    have HDd := Lib.hid HD3.out.drew
    clear ho8 hbx8
    skip
    go_wp2
    refine wp_region_held_drew (S := fun W => Bx W (w.heap.size + 1 + 1) 56 [.int .i64 1, .int .i64 0, .string { data := #[] }, .string { data := #[] }, .int .i64 0, .int .i64 0, .int .i64 0, .int .i64 0, .int .i64 0, .slice none 0 0]) (by kernel_rfl) HDd.out.ba (fun hHeld => ?_)
    refine wpAnyH_take (i := 0) (oi := ({ dst := some 88, op := Go.Op.move (Go.Operand.tmp 0), type := 27, pos := _, after := #[], guard := none } : Oper)) (v := ?_) rfl (by kernel_rfl) (by kernel_rfl) (by kernel_rfl) (fun _ _ _ h => h) (Or.inl ⟨by rfl, ?_⟩) (by assumption) ?_
    rotate_left
    · intro W' hSw
      try dsimp only at hSw
      go_simp
      try with_reducible rfl
    try simp only [Act.put, List.setIfInBounds_toArray, List.set_cons_zero, List.set_cons_succ]
    refine wpAnyH_take (i := 1) (oi := ({ dst := some 89, op := Go.Op.load 56 (Go.Operand.tmp 6), type := 56, pos := _, after := #[{ on := 2, ground := Go.Ground.gcOnly Go.Departure.lateStores }], guard := none } : Oper)) (v := ?_) rfl (by kernel_rfl) (by kernel_rfl) (by kernel_rfl) (fun _ _ _ h => h) (Or.inl ⟨by rfl, ?_⟩) (by assumption) ?_
    rotate_left
    · intro W' hSw
      try dsimp only at hSw
      obtain ⟨b0, b1, b2, b3, b4, b5, b6, b7, b8, b9⟩ := Bx.ten hSw
      go_simp
      try with_reducible rfl
    try simp only [Act.put, List.setIfInBounds_toArray, List.set_cons_zero, List.set_cons_succ]
    refine wpAnyH_take (i := 2) (oi := ({ dst := some 4, op := Go.Op.assign (Go.Operand.tmp 88), type := 27, pos := _, after := #[{ on := 0, ground := Go.Ground.data }, { on := 0, ground := Go.Ground.phase }, { on := 1, ground := Go.Ground.textOnly Go.Departure.lateStores }], guard := none } : Oper)) (v := ?_) rfl (by kernel_rfl) (by kernel_rfl) (by kernel_rfl) (fun _ _ _ h => h) (Or.inl ⟨by rfl, ?_⟩) (by assumption) ?_
    rotate_left
    · intro W' hSw
      try dsimp only at hSw
      go_simp
      try with_reducible rfl
    try simp only [Act.put, List.setIfInBounds_toArray, List.set_cons_zero, List.set_cons_succ]
    refine wpAnyH_ready (rs := [3]) (by kernel_rfl) (by simp) ?_
    refine AllReadyH.cons (o := ({ dst := none, op := Go.Op.store 56 (Go.Operand.tmp 5) (Go.Operand.tmp 89), type := 0, pos := _, after := #[{ on := 1, ground := Go.Ground.data }, { on := 2, ground := Go.Ground.chain }, { on := 0, ground := Go.Ground.phase }, { on := 1, ground := Go.Ground.phase }, { on := 2, ground := Go.Ground.phase }], guard := none } : Oper)) rfl (fun K hK => ?_) AllReadyH.nil
    go_simp
    refine hK.out _ _ ?_ (fun hHeld => ?_)
    · exact hHeld.only HO8.out (by omega)
    clear hK K
    try simp only [Act.put, List.setIfInBounds_toArray, List.set_cons_zero, List.set_cons_succ]
    refine wpAnyH_done (by kernel_rfl) ?_ _
    go_wp2
    exact bodyPost_ret (v := .tuple #[v2, .agg #[.int .i64 1, .int .i64 0, .string { data := #[] }, .string { data := #[] }, .int .i64 0, .int .i64 0, .int .i64 0, .int .i64 0, .int .i64 0, .slice none 0 0]]) (by simp [results, Try.results31, go_sem, c0, c1, c2, c3, c4, c5, c6, c7, c8, c9]) rfl ⟨_, _, rfl, HR8.out, HLI3.out, World.ownsRow_nil _ _ 42 8, HB8.out⟩
  · have HD2 := HD1
    have HB2 := HB1
    have HR2 := HR1
    have HXW := Lib.hid (HWO.out _ HR2.out)
    go_wp2_with fail
    refine HXW.out.mono ?_
    rintro e w2 ⟨v2, rfl, hr2, hb2⟩
    have HD3 := Lib.hid (HD2.out.below hb2)
    have HB3 := Lib.hid (below_then HB2.out HB2.out.size hb2)
    have hs2 := HD2.out.ba.lt
    have HAP3 := Lib.hid (Apart.new (w := w) hr2 (by omega))
    have HLI3 := Lib.hid (Lies.new (v := .slice a n c) hr2 HB2.out.size)
    have HR3 : Hid (Rf w2 v2 _) := Lib.hid (row_base hr2 (Nat.zero_le _))
    clear hr2 hb2
    go_wp2
    obtain ⟨w8, hst8, hbx8, ho8⟩ := store56 HD3.out.drew.br rfl 0 0 0 0 0 0 0 {data := #[]} {data := #[]} (.slice none 0 0) rfl
    obtain ⟨c0, c1, c2, c3, c4, c5, c6, c7, c8, c9⟩ := hbx8.ten
    have HO8 := Lib.hid ho8
    have HB8 := Lib.hid (only_below (below_drew HB3.out) ho8 (by omega))
    have HR8 := Lib.hid (rf_apart1 HR3.out.drew HAP3.out ho8)
    have HDd := Lib.hid HD3.out.drew
    clear ho8 hbx8
    skip
    go_wp2
    refine wp_region_held_drew (S := fun W => Bx W (w.heap.size + 1 + 1) 56 [.int .i64 0, .int .i64 0, .string { data := #[] }, .string { data := #[] }, .int .i64 0, .int .i64 0, .int .i64 0, .int .i64 0, .int .i64 0, .slice none 0 0]) (by kernel_rfl) HDd.out.ba (fun hHeld => ?_)
    refine wpAnyH_take (i := 0) (oi := ({ dst := some 88, op := Go.Op.move (Go.Operand.tmp 0), type := 27, pos := _, after := #[], guard := none } : Oper)) (v := ?_) rfl (by kernel_rfl) (by kernel_rfl) (by kernel_rfl) (fun _ _ _ h => h) (Or.inl ⟨by rfl, ?_⟩) (by assumption) ?_
    rotate_left
    · intro W' hSw
      try dsimp only at hSw
      go_simp
      try with_reducible rfl
    try simp only [Act.put, List.setIfInBounds_toArray, List.set_cons_zero, List.set_cons_succ]
    refine wpAnyH_take (i := 1) (oi := ({ dst := some 89, op := Go.Op.load 56 (Go.Operand.tmp 6), type := 56, pos := _, after := #[{ on := 2, ground := Go.Ground.gcOnly Go.Departure.lateStores }], guard := none } : Oper)) (v := ?_) rfl (by kernel_rfl) (by kernel_rfl) (by kernel_rfl) (fun _ _ _ h => h) (Or.inl ⟨by rfl, ?_⟩) (by assumption) ?_
    rotate_left
    · intro W' hSw
      try dsimp only at hSw
      obtain ⟨b0, b1, b2, b3, b4, b5, b6, b7, b8, b9⟩ := Bx.ten hSw
      go_simp
      try with_reducible rfl
    try simp only [Act.put, List.setIfInBounds_toArray, List.set_cons_zero, List.set_cons_succ]
    refine wpAnyH_take (i := 2) (oi := ({ dst := some 4, op := Go.Op.assign (Go.Operand.tmp 88), type := 27, pos := _, after := #[{ on := 0, ground := Go.Ground.data }, { on := 0, ground := Go.Ground.phase }, { on := 1, ground := Go.Ground.textOnly Go.Departure.lateStores }], guard := none } : Oper)) (v := ?_) rfl (by kernel_rfl) (by kernel_rfl) (by kernel_rfl) (fun _ _ _ h => h) (Or.inl ⟨by rfl, ?_⟩) (by assumption) ?_
    rotate_left
    · intro W' hSw
      try dsimp only at hSw
      go_simp
      try with_reducible rfl
    try simp only [Act.put, List.setIfInBounds_toArray, List.set_cons_zero, List.set_cons_succ]
    refine wpAnyH_ready (rs := [3]) (by kernel_rfl) (by simp) ?_
    refine AllReadyH.cons (o := ({ dst := none, op := Go.Op.store 56 (Go.Operand.tmp 5) (Go.Operand.tmp 89), type := 0, pos := _, after := #[{ on := 1, ground := Go.Ground.data }, { on := 2, ground := Go.Ground.chain }, { on := 0, ground := Go.Ground.phase }, { on := 1, ground := Go.Ground.phase }, { on := 2, ground := Go.Ground.phase }], guard := none } : Oper)) rfl (fun K hK => ?_) AllReadyH.nil
    go_simp
    refine hK.out _ _ ?_ (fun hHeld => ?_)
    · exact hHeld.only HO8.out (by omega)
    clear hK K
    try simp only [Act.put, List.setIfInBounds_toArray, List.set_cons_zero, List.set_cons_succ]
    refine wpAnyH_done (by kernel_rfl) ?_ _
    go_wp2
    exact bodyPost_ret (v := .tuple #[v2, .agg #[.int .i64 0, .int .i64 0, .string { data := #[] }, .string { data := #[] }, .int .i64 0, .int .i64 0, .int .i64 0, .int .i64 0, .int .i64 0, .slice none 0 0]]) (by simp [results, Try.results31, go_sem, c0, c1, c2, c3, c4, c5, c6, c7, c8, c9]) rfl ⟨_, _, rfl, HR8.out, HLI3.out, World.ownsRow_nil _ _ 42 8, HB8.out⟩

end Go.Proofs.Ytondjponengedaa

namespace Go.Proofs.Ytondjponengedaa
open Go.RowKit
set_option linter.unusedVariables false
set_option linter.unusedSimpArgs false
set_option maxRecDepth 10000
attribute [local go_sem ↓] bigS56 bigS42

set_option maxHeartbeats 4000000 in
theorem rdoE_any {w : World} {L : List En} {v : Value} (h : Rf w v L) (hn : L.length ≤ 64) (o : Opr) (hk : o.kind = 4) :
    Calls Try.prog 31 #[v, opv o] w fun e w' => RdTo w v (acts L o).1 (acts L o).2 e w' := by
  obtain ⟨a, c, rfl, -, -⟩ := row_any h
  obtain ⟨hd0, hb0⟩ := d0_start w o
  have HB0 := Lib.hid hb0
  have HD0 := Lib.hid hd0
  have HV := Lib.hid (fun g hg => (h.lt g hg).2)
  have hR0 := h.below hb0
  have HR0 := Lib.hid hR0
  have HS0 := Lib.hid (w0_size w o)
  have HAP := Lib.hid (fun v1 hl => Apart.of (o := o) (v1 := v1) HV.out hl)
  have HLI := Lib.hid (fun v1 hl => Lies.w0 (w := w) (o := o) (v := .slice a L.length c) (v1 := v1) hl)
  unfold acts
  rw [if_neg (by omega), if_neg (by omega), if_neg (by omega), if_neg (by omega), if_pos hk]
  have HC := Lib.hid (rexpire_any hR0 hn o.now)
  obtain ⟨kd, fl, now, ⟨⟨x1, x2, x3, x4, x5⟩, x6, x7, x8⟩⟩ := o
  simp only at hk
  subst hk
  simp only [W0, ocs, ecs, acells, Z, List.cons_append, List.nil_append, fv, ev, opv] at HC HB0 HD0 HR0 HS0 HAP HLI ⊢
  clear h hd0 hb0 hR0
  generalize xpd now L = X at *
  generalize liv now L = L' at *
  obtain ⟨n, hln⟩ : ∃ n, L.length = n := ⟨_, rfl⟩
  rw [hln] at HC HV HAP HLI ⊢
  clear hln
  go_enter Try.func31, Try.ntmps31
  go_wp2_with fail
  refine HC.out.mono ?_
  rintro e w1 ⟨v1, u1, rfl, hr1, hu1, hb1⟩
  have HD1 := Lib.hid (HD0.out.below hb1)
  have HB1 := Lib.hid (below_then HB0.out HB0.out.size hb1)
  have HAP1 := Lib.hid (Apart.new (w := w) hr1 (by rw [HS0.out]; exact Nat.le_refl _))
  have HAU1 := Lib.hid (Apart.new (w := w) hu1 (by rw [HS0.out]; exact Nat.le_refl _))
  have HLI1 := Lib.hid (Lies.new (v := .slice a n c) hr1 HB0.out.size)
  have HR1 : Hid (Rf w1 v1 _) := Lib.hid (row_base hr1 (Nat.zero_le _))
  obtain ⟨va, vc, rfl, -, -⟩ := row_any hu1
  obtain ⟨vn, hvn⟩ : ∃ vn, X.length = vn := ⟨_, rfl⟩
  have HVN := Lib.hid hvn
  rw [hvn] at hu1 HAU1 ⊢
  have HU1 := Lib.hid (row_base hu1 HB0.out.size)
  obtain ⟨b0, b1, b2, b3, b4, b5, b6, b7, b8, b9⟩ := HD1.out.ba.ten
  have f0 := HD1.out.ba.free 9
  clear hr1 hu1 hb1 hvn
  have HU2 := Lib.hid (row_only HU1.out ((Only.refl (· = w.heap.size + 1 + 1) w1).setCell (p := ⟨w.heap.size + 1 + 1, 9, none⟩) (.inl rfl) (.slice va vn vc)) fun g hg e => (HAU1.out g hg).2 e)
  have HSA := Lib.hid (HD1.out.setA 9 (.slice va vn vc))
  have HD2 := Lib.hid HSA.out.1
  have HB2 := Lib.hid (only_below HB1.out HSA.out.2 (by omega))
  have HR2 := Lib.hid (rf_apart (j := 0) HR1.out HAP1.out HSA.out.2)
  simp only [List.set_cons_zero, List.set_cons_succ] at HD2
  clear HSA
  go_wp2
  obtain ⟨w8, hst8, hbx8, ho8⟩ := store56 HD2.out.drew.br rfl 0 0 0 0 0 0 0 {data := #[]} {data := #[]} (.slice va vn vc) rfl
  obtain ⟨c0, c1, c2, c3, c4, c5, c6, c7, c8, c9⟩ := hbx8.ten
  have HO8 := Lib.hid ho8
  have HB8 := Lib.hid (only_below (below_drew HB2.out) ho8 (by omega))
  have HR8 := Lib.hid (rf_apart1 HR2.out.drew HAP1.out ho8)
  have HDd := Lib.hid HD2.out.drew
  have HU8 : Hid (w8.ownsRow w.heap.size 42 8 (.slice va vn vc) X.length (ecells X)) := Lib.hid (by
    rw [HVN.out]
    exact row_only (row_below HU2.out (below_drew (Below.refl _ _))) ho8 fun g hg e => (HAU1.out g hg).1 e)
  clear ho8 hbx8
  skip
  go_wp2
  refine wp_region_held_drew (S := fun W => Bx W (w.heap.size + 1 + 1) 56 [.int .i64 0, .int .i64 0, .string { data := #[] }, .string { data := #[] }, .int .i64 0, .int .i64 0, .int .i64 0, .int .i64 0, .int .i64 0, .slice va vn vc]) (by kernel_rfl) HDd.out.ba (fun hHeld => ?_)
  refine wpAnyH_take (i := 0) (oi := ({ dst := some 88, op := Go.Op.move (Go.Operand.tmp 0), type := 27, pos := _, after := #[], guard := none } : Oper)) (v := ?_) rfl (by kernel_rfl) (by kernel_rfl) (by kernel_rfl) (fun _ _ _ h => h) (Or.inl ⟨by rfl, ?_⟩) (by assumption) ?_
  rotate_left
  · intro W' hSw
    try dsimp only at hSw
    go_simp
    try with_reducible rfl
  try simp only [Act.put, List.setIfInBounds_toArray, List.set_cons_zero, List.set_cons_succ]
  refine wpAnyH_take (i := 1) (oi := ({ dst := some 89, op := Go.Op.load 56 (Go.Operand.tmp 6), type := 56, pos := _, after := #[{ on := 2, ground := Go.Ground.gcOnly Go.Departure.lateStores }], guard := none } : Oper)) (v := ?_) rfl (by kernel_rfl) (by kernel_rfl) (by kernel_rfl) (fun _ _ _ h => h) (Or.inl ⟨by rfl, ?_⟩) (by assumption) ?_
  rotate_left
  · intro W' hSw
    try dsimp only at hSw
    obtain ⟨b0, b1, b2, b3, b4, b5, b6, b7, b8, b9⟩ := Bx.ten hSw
    go_simp
    try with_reducible rfl
  try simp only [Act.put, List.setIfInBounds_toArray, List.set_cons_zero, List.set_cons_succ]
  refine wpAnyH_take (i := 2) (oi := ({ dst := some 4, op := Go.Op.assign (Go.Operand.tmp 88), type := 27, pos := _, after := #[{ on := 0, ground := Go.Ground.data }, { on := 0, ground := Go.Ground.phase }, { on := 1, ground := Go.Ground.textOnly Go.Departure.lateStores }], guard := none } : Oper)) (v := ?_) rfl (by kernel_rfl) (by kernel_rfl) (by kernel_rfl) (fun _ _ _ h => h) (Or.inl ⟨by rfl, ?_⟩) (by assumption) ?_
  rotate_left
  · intro W' hSw
    try dsimp only at hSw
    go_simp
    try with_reducible rfl
  try simp only [Act.put, List.setIfInBounds_toArray, List.set_cons_zero, List.set_cons_succ]
  refine wpAnyH_ready (rs := [3]) (by kernel_rfl) (by simp) ?_
  refine AllReadyH.cons (o := ({ dst := none, op := Go.Op.store 56 (Go.Operand.tmp 5) (Go.Operand.tmp 89), type := 0, pos := _, after := #[{ on := 1, ground := Go.Ground.data }, { on := 2, ground := Go.Ground.chain }, { on := 0, ground := Go.Ground.phase }, { on := 1, ground := Go.Ground.phase }, { on := 2, ground := Go.Ground.phase }], guard := none } : Oper)) rfl (fun K hK => ?_) AllReadyH.nil
  go_simp
  refine hK.out _ _ ?_ (fun hHeld => ?_)
  · exact hHeld.only HO8.out (by omega)
  clear hK K
  try simp only [Act.put, List.setIfInBounds_toArray, List.set_cons_zero, List.set_cons_succ]
  refine wpAnyH_done (by kernel_rfl) ?_ _
  go_wp2
  exact bodyPost_ret (v := .tuple #[v1, .agg #[.int .i64 0, .int .i64 0, .string { data := #[] }, .string { data := #[] }, .int .i64 0, .int .i64 0, .int .i64 0, .int .i64 0, .int .i64 0, .slice va vn vc]]) (by simp [results, Try.results31, go_sem, c0, c1, c2, c3, c4, c5, c6, c7, c8, c9]) rfl ⟨_, _, rfl, HR8.out, HLI1.out, HU8.out, HB8.out⟩

end Go.Proofs.Ytondjponengedaa

namespace Go.Proofs.Ytondjponengedaa
open Go.RowKit
set_option linter.unusedVariables false
set_option linter.unusedSimpArgs false
set_option maxRecDepth 10000
attribute [local go_sem ↓] bigS56 bigS42

set_option maxHeartbeats 4000000 in
theorem rdoF_any {w : World} {L : List En} {v : Value} (h : Rf w v L) (hn : L.length ≤ 64) (o : Opr) (hk : o.kind ≠ 0 ∧ o.kind ≠ 1 ∧ o.kind ≠ 2 ∧ o.kind ≠ 3 ∧ o.kind ≠ 4) :
    Calls Try.prog 31 #[v, opv o] w fun e w' => RdTo w v (acts L o).1 (acts L o).2 e w' := by
  obtain ⟨a, c, rfl, -, -⟩ := row_any h
  obtain ⟨hd0, hb0⟩ := d0_start w o
  have HB0 := Lib.hid hb0
  have HD0 := Lib.hid hd0
  have HV := Lib.hid (fun g hg => (h.lt g hg).2)
  have hR0 := h.below hb0
  have HR0 := Lib.hid hR0
  have HS0 := Lib.hid (w0_size w o)
  have HAP := Lib.hid (fun v1 hl => Apart.of (o := o) (v1 := v1) HV.out hl)
  have HLI := Lib.hid (fun v1 hl => Lies.w0 (w := w) (o := o) (v := .slice a L.length c) (v1 := v1) hl)
  unfold acts
  obtain ⟨k0, k1, k2, k3, k4⟩ := hk
  rw [if_neg k0, if_neg k1, if_neg k2, if_neg k3, if_neg k4]
  have hk : o.kind = o.kind := rfl
  obtain ⟨kd, fl, now, ⟨⟨x1, x2, x3, x4, x5⟩, x6, x7, x8⟩⟩ := o
  simp only at hk
  simp only at k0 k1 k2 k3 k4
  obtain ⟨p1, p2, p3⟩ := eqz kd 0 k0
  obtain ⟨q1, q2, q3⟩ := eqz kd 1 k1
  obtain ⟨r1, r2, r3⟩ := eqz kd 2 k2
  obtain ⟨s1, s2, s3⟩ := eqz kd 3 k3
  obtain ⟨t1, t2, t3⟩ := eqz kd 4 k4
  clear k0 k1 k2 k3 k4
  simp only [W0, ocs, ecs, acells, Z, List.cons_append, List.nil_append, fv, ev, opv] at HB0 HB0 HD0 HR0 HS0 HAP HLI ⊢
  clear h hd0 hb0 hR0
  obtain ⟨n, hln⟩ : ∃ n, L.length = n := ⟨_, rfl⟩
  rw [hln] at HR0 HV HAP HLI ⊢
  clear hln
  go_enter Try.func31, Try.ntmps31
  obtain ⟨b0, b1, b2, b3, b4, b5, b6, b7, b8, b9⟩ := HD0.out.ba.ten
  have HAP1 := Lib.hid (HAP.out _ (Lies.refl _ _))
  have HLI1 := Lib.hid (HLI.out _ (Lies.refl _ _))
  go_wp2
  obtain ⟨w8, hst8, hbx8, ho8⟩ := store56 HD0.out.drew.br rfl 0 0 0 0 0 0 0 {data := #[]} {data := #[]} (.slice none 0 0) rfl
  obtain ⟨c0, c1, c2, c3, c4, c5, c6, c7, c8, c9⟩ := hbx8.ten
  have HO8 := Lib.hid ho8
  have HB8 := Lib.hid (only_below (below_drew HB0.out) ho8 (by omega))
  have HR8 := Lib.hid (rf_apart1 HR0.out.drew HAP1.out ho8)
  have HDd := Lib.hid HD0.out.drew
  have hem : ByteArray.empty = ({ data := #[] } : ByteArray) := rfl
  simp only [hem] at hst8
  clear hem
  clear ho8 hbx8
  skip
  go_wp2
  refine wp_region_held_drew (S := fun W => Bx W (w.heap.size + 1 + 1) 56 [.int .i64 0, .int .i64 0, .string { data := #[] }, .string { data := #[] }, .int .i64 0, .int .i64 0, .int .i64 0, .int .i64 0, .int .i64 0, .slice none 0 0]) (by kernel_rfl) HDd.out.ba (fun hHeld => ?_)
  refine wpAnyH_take (i := 0) (oi := ({ dst := some 88, op := Go.Op.move (Go.Operand.tmp 0), type := 27, pos := _, after := #[], guard := none } : Oper)) (v := ?_) rfl (by kernel_rfl) (by kernel_rfl) (by kernel_rfl) (fun _ _ _ h => h) (Or.inl ⟨by rfl, ?_⟩) (by assumption) ?_
  rotate_left
  · intro W' hSw
    try dsimp only at hSw
    go_simp
    try with_reducible rfl
  try simp only [Act.put, List.setIfInBounds_toArray, List.set_cons_zero, List.set_cons_succ]
  refine wpAnyH_take (i := 1) (oi := ({ dst := some 89, op := Go.Op.load 56 (Go.Operand.tmp 6), type := 56, pos := _, after := #[{ on := 2, ground := Go.Ground.gcOnly Go.Departure.lateStores }], guard := none } : Oper)) (v := ?_) rfl (by kernel_rfl) (by kernel_rfl) (by kernel_rfl) (fun _ _ _ h => h) (Or.inl ⟨by rfl, ?_⟩) (by assumption) ?_
  rotate_left
  · intro W' hSw
    try dsimp only at hSw
    obtain ⟨b0, b1, b2, b3, b4, b5, b6, b7, b8, b9⟩ := Bx.ten hSw
    go_simp
    try with_reducible rfl
  try simp only [Act.put, List.setIfInBounds_toArray, List.set_cons_zero, List.set_cons_succ]
  refine wpAnyH_take (i := 2) (oi := ({ dst := some 4, op := Go.Op.assign (Go.Operand.tmp 88), type := 27, pos := _, after := #[{ on := 0, ground := Go.Ground.data }, { on := 0, ground := Go.Ground.phase }, { on := 1, ground := Go.Ground.textOnly Go.Departure.lateStores }], guard := none } : Oper)) (v := ?_) rfl (by kernel_rfl) (by kernel_rfl) (by kernel_rfl) (fun _ _ _ h => h) (Or.inl ⟨by rfl, ?_⟩) (by assumption) ?_
  rotate_left
  · intro W' hSw
    try dsimp only at hSw
    go_simp
    try with_reducible rfl
  try simp only [Act.put, List.setIfInBounds_toArray, List.set_cons_zero, List.set_cons_succ]
  refine wpAnyH_ready (rs := [3]) (by kernel_rfl) (by simp) ?_
  refine AllReadyH.cons (o := ({ dst := none, op := Go.Op.store 56 (Go.Operand.tmp 5) (Go.Operand.tmp 89), type := 0, pos := _, after := #[{ on := 1, ground := Go.Ground.data }, { on := 2, ground := Go.Ground.chain }, { on := 0, ground := Go.Ground.phase }, { on := 1, ground := Go.Ground.phase }, { on := 2, ground := Go.Ground.phase }], guard := none } : Oper)) rfl (fun K hK => ?_) AllReadyH.nil
  go_simp
  refine hK.out _ _ ?_ (fun hHeld => ?_)
  · exact hHeld.only HO8.out (by omega)
  clear hK K
  try simp only [Act.put, List.setIfInBounds_toArray, List.set_cons_zero, List.set_cons_succ]
  refine wpAnyH_done (by kernel_rfl) ?_ _
  go_wp2
  exact bodyPost_ret (v := .tuple #[.slice a n c, .agg #[.int .i64 0, .int .i64 0, .string { data := #[] }, .string { data := #[] }, .int .i64 0, .int .i64 0, .int .i64 0, .int .i64 0, .int .i64 0, .slice none 0 0]]) (by simp [results, Try.results31, go_sem, c0, c1, c2, c3, c4, c5, c6, c7, c8, c9]) rfl ⟨_, _, rfl, HR8.out, HLI1.out, World.ownsRow_nil _ _ 42 8, HB8.out⟩

end Go.Proofs.Ytondjponengedaa
