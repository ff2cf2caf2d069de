/-
  What the reference's Two does.
-/
import Derived.Test.YtpkahjflhboddaaRsum
import Derived.Test.YtpkahjflhboddaaTxt
namespace Go.Proofs.Ytpkahjflhboddaa
open Go.RowKit
set_option linter.unusedVariables false
set_option maxRecDepth 10000

/-- What holds ahead of each byte that is turned. -/
def VRel (w : World) (k : List Int) (gg : Nat) (i : Value) (wr : World) : Prop :=
  ∃ j : Nat, j + gg = 16 ∧ i = .int .i64 j ∧ Below w.heap.size w wr ∧ Ar wr (w.heap.size + 1) (cel (trnTo k j)) ∧ Ar wr w.heap.size (cel k)

set_option maxHeartbeats 4000000 in
/-- outriderref07.Two. -/
theorem rtwo_any (k : List Int) (s : ByteArray) (w : World) (hk : Key k) (hs : s.size ≤ 140737488351232) :
    Calls Try.prog 29 #[kv k, .string s] w fun e w' => e = .returned (.tuple #[.int .u64 (hsh k (bts s)), .int .u64 (hsh (trn k) (bts s))]) ∧ Below w.heap.size w w' := by
  have HK := Lib.hid hk
  have hkt : Key (trn k) := ⟨by rw [trn_len]; exact hk.1, trn_byt hk.2⟩
  have H1 := Lib.hid (fun A n c w hp hn => rsum_any k A n c (bts s) w hk hp hn)
  have H2 := Lib.hid (fun A n c w hp hn => rsum_any (trn k) A n c (bts s) w hkt hp hn)
  obtain ⟨x, hx⟩ : ∃ x, hsh k (bts s) = x := ⟨_, rfl⟩
  obtain ⟨y, hy⟩ : ∃ x, hsh (trn k) (bts s) = x := ⟨_, rfl⟩
  rw [hx] at H1 ⊢
  rw [hy] at H2 ⊢
  have hst : Hid (VRel w k 16 (.int .i64 0) ((w.alloc (.cells (cel k).toArray 22)).alloc (.cells (cel k).toArray 22))) :=
    Lib.hid ⟨0, by omega, rfl, ((Below.refl _ _).alloc (Nat.le_refl _) _).alloc (by simp) _, by
      rw [trnTo_zero]
      have := ar_new (w.alloc (.cells (cel k).toArray 22)) k 22
      rwa [World.size_alloc] at this, (ar_new w k 22).alloc _⟩
  obtain ⟨t, ht⟩ : ∃ t, trn k = t := ⟨_, rfl⟩
  have HT : Hid (trnTo k 16 = t) := Lib.hid (by rw [trnTo_all k 16 (by rw [hk.1]; omega), ht])
  rw [ht] at hkt H2
  obtain ⟨t0, t1, t2, t3, t4, t5, t6, t7, t8, t9, t10, t11, t12, t13, t14, t15, rfl⟩ := hkt.letters
  obtain ⟨k0, k1, k2, k3, k4, k5, k6, k7, k8, k9, k10, k11, k12, k13, k14, k15, hl⟩ := hk.letters
  have hst' := hst
  have HKL := Lib.hid hl
  rw [hl] at hst'
  simp only [cel, List.map_cons, List.map_nil] at hst'
  rw [hl] at H1 ⊢
  rw [kv_lit] at H1 H2 ⊢
  clear hk hx hy hkt hst ht hl
  go_enter Try.func29, Try.ntmps29
  go_wp2
  go_loopg [7] 16 (fun gg i wr => VRel w k gg i wr)
  case atStart =>
    rw [HKL.out]
    exact hst'.out
  case round =>
    clear hst'
    obtain ⟨j, hj, rfl, hb, hc, hu⟩ := hrel
    have HB := Lib.hid hb
    have HC := Lib.hid hc
    have HU := Lib.hid hu
    clear hb hc hu
    rcases gk with _ | og
    · have hkl : ¬ (j : Int) < 16 := by omega
      obtain rfl : j = 16 := by omega
      rw [HT.out] at HC
      rw [HKL.out] at HU
      have HH : Hid (Ar wr.drew w.heap.size (cel [k0, k1, k2, k3, k4, k5, k6, k7, k8, k9, k10, k11, k12, k13, k14, k15]) ∧ Ar wr.drew (w.heap.size + 1) (cel [t0, t1, t2, t3, t4, t5, t6, t7, t8, t9, t10, t11, t12, t13, t14, t15])) := Lib.hid ⟨HU.out.drew, HC.out.drew⟩
      have HX0 : Hid (Below w.heap.size w wr.drew) := Lib.hid (below_drew HB.out)
      obtain ⟨cA, wA, hrA, hoA, hbA', -, -⟩ := conv_bytes wr.drew wr.heap.size s 9 Try.underlying9 (Nat.le_refl _) hs wr.heap.size rfl s.size rfl
      have HPA := Lib.hid (hoA.part (bts_byt s))
      have hbA := Lib.hid hbA'
      clear hoA hbA'
      go_wp2
      try rw [Exit.noGoto_ret]
      refine wp_region_held_drew (S := fun W => Ar W w.heap.size (cel [k0, k1, k2, k3, k4, k5, k6, k7, k8, k9, k10, k11, k12, k13, k14, k15]) ∧ Ar W (w.heap.size + 1) (cel [t0, t1, t2, t3, t4, t5, t6, t7, t8, t9, t10, t11, t12, t13, t14, t15])) (by kernel_rfl) HH.out (fun hHeld => ?_)
      refine wpAnyH_take (i := 0) (oi := ({ dst := some 19, op := Go.Op.load 22 (Go.Operand.tmp 2), type := 22, pos := _, after := #[], guard := none } : Oper)) (v := ?_) rfl (by kernel_rfl) (by kernel_rfl) (by kernel_rfl) (fun _ _ _ h => h) (Or.inl ⟨by rfl, ?_⟩) (by assumption) ?_
      rotate_left
      · intro W' hSw
        try dsimp only at hSw
        obtain ⟨c0, c1, c2, c3, c4, c5, c6, c7, c8, c9, c10, c11, c12, c13, c14, c15⟩ := ar16 hSw.1
        go_simp
        try with_reducible rfl
      try simp only [Act.put, List.setIfInBounds_toArray, List.set_cons_zero, List.set_cons_succ]
      refine wpAnyH_take (i := 1) (oi := ({ dst := some 20, op := Go.Op.move (Go.Operand.tmp 1), type := 9, pos := _, after := #[], guard := none } : Oper)) (v := ?_) rfl (by kernel_rfl) (by kernel_rfl) (by kernel_rfl) (fun _ _ _ h => h) (Or.inl ⟨by rfl, ?_⟩) (by assumption) ?_
      rotate_left
      · intro W' hSw
        try dsimp only at hSw
        go_simp
        try with_reducible rfl
      try simp only [Act.put, List.setIfInBounds_toArray, List.set_cons_zero, List.set_cons_succ]
      refine wpAnyH_take (i := 4) (oi := ({ dst := some 23, op := Go.Op.load 22 (Go.Operand.tmp 6), type := 22, pos := _, after := #[], guard := none } : Oper)) (v := ?_) rfl (by kernel_rfl) (by kernel_rfl) (by kernel_rfl) (fun _ _ _ h => h) (Or.inl ⟨by rfl, ?_⟩) (by assumption) ?_
      rotate_left
      · intro W' hSw
        try dsimp only at hSw
        obtain ⟨c0, c1, c2, c3, c4, c5, c6, c7, c8, c9, c10, c11, c12, c13, c14, c15⟩ := ar16 hSw.2
        go_simp
        try with_reducible rfl
      try simp only [Act.put, List.setIfInBounds_toArray, List.set_cons_zero, List.set_cons_succ]
      refine wpAnyH_take (i := 5) (oi := ({ dst := some 24, op := Go.Op.move (Go.Operand.tmp 1), type := 9, pos := _, after := #[], guard := none } : Oper)) (v := ?_) rfl (by kernel_rfl) (by kernel_rfl) (by kernel_rfl) (fun _ _ _ h => h) (Or.inl ⟨by rfl, ?_⟩) (by assumption) ?_
      rotate_left
      · intro W' hSw
        try dsimp only at hSw
        go_simp
        try with_reducible rfl
      try simp only [Act.put, List.setIfInBounds_toArray, List.set_cons_zero, List.set_cons_succ]
      refine wpAnyH_ready (rs := [2, 6]) (by kernel_rfl) (by simp) ?_
      refine (AllReadyH.cons (o := ({ dst := some 21, op := Go.Op.convert 9 77 (Go.Operand.tmp 20), type := 77, pos := _, after := #[{ on := 1, ground := Go.Ground.data }], guard := none } : Oper)) rfl (fun K hK => ?_) (AllReadyH.cons (o := ({ dst := some 25, op := Go.Op.convert 9 77 (Go.Operand.tmp 24), type := 77, pos := _, after := #[{ on := 5, ground := Go.Ground.data }], guard := none } : Oper)) rfl (fun K hK => ?_) AllReadyH.nil))
      · go_simp
        refine hK.out _ _ ?_ (fun hHeld => ?_)
        · exact ⟨hHeld.1.below hbA.out, hHeld.2.below hbA.out⟩
        clear hK K
        try simp only [Act.put, List.setIfInBounds_toArray, List.set_cons_zero, List.set_cons_succ]
        have HX1 := Lib.hid (below_then HX0.out HX0.out.size hbA.out)
        obtain ⟨cB, wB, hrB, hoB, hbB', -, -⟩ := conv_bytes wA wA.heap.size s 9 Try.underlying9 (Nat.le_refl _) hs wA.heap.size rfl s.size rfl
        have HPB := Lib.hid (hoB.part (bts_byt s))
        have hbB := Lib.hid hbB'
        clear hoB hbB'
        refine wpAnyH_ready (rs := [3, 6]) (by kernel_rfl) (by simp) ?_
        refine (AllReadyH.cons (o := ({ dst := some 22, op := Go.Op.call { callee := Go.Callee.value (Go.Operand.func 43), args := #[Go.Operand.tmp 19, Go.Operand.tmp 21], argTypes := #[22, 77] }, type := 41, pos := _, after := #[{ on := 0, ground := Go.Ground.data }, { on := 2, ground := Go.Ground.data }], guard := none } : Oper)) rfl (fun K hK => ?_) (AllReadyH.cons (o := ({ dst := some 25, op := Go.Op.convert 9 77 (Go.Operand.tmp 24), type := 77, pos := _, after := #[{ on := 5, ground := Go.Ground.data }], guard := none } : Oper)) rfl (fun K hK => ?_) AllReadyH.nil))
        · go_simp
          refine (H1.out _ _ _ _ HPA.out (by omega)).mono ?_
          rintro e w3 ⟨rfl, hb3'⟩
          go_wp2_with fail
          refine hK.out _ _ ?_ (fun hHeld => ?_)
          · exact ⟨hHeld.1.below hb3', hHeld.2.below hb3'⟩
          clear hK K
          try simp only [Act.put, List.setIfInBounds_toArray, List.set_cons_zero, List.set_cons_succ]
          have hb3 := Lib.hid hb3'
          clear hb3'
          have HX2 := Lib.hid (below_then HX1.out HX1.out.size hb3.out)
          obtain ⟨cC, wC, hrC, hoC, hbC', -, -⟩ := conv_bytes w3 w3.heap.size s 9 Try.underlying9 (Nat.le_refl _) hs w3.heap.size rfl s.size rfl
          have HPC := Lib.hid (hoC.part (bts_byt s))
          have hbC := Lib.hid hbC'
          clear hoC hbC'
          refine wpAnyH_ready (rs := [6]) (by kernel_rfl) (by simp) ?_
          refine AllReadyH.cons (o := ({ dst := some 25, op := Go.Op.convert 9 77 (Go.Operand.tmp 24), type := 77, pos := _, after := #[{ on := 5, ground := Go.Ground.data }], guard := none } : Oper)) rfl (fun K hK => ?_) AllReadyH.nil
          go_simp
          refine hK.out _ _ ?_ (fun hHeld => ?_)
          · exact ⟨hHeld.1.below hbC.out, hHeld.2.below hbC.out⟩
          clear hK K
          try simp only [Act.put, List.setIfInBounds_toArray, List.set_cons_zero, List.set_cons_succ]
          have HX3 := Lib.hid (below_then HX2.out HX2.out.size hbC.out)
          refine wpAnyH_ready (rs := [7]) (by kernel_rfl) (by simp) ?_
          refine AllReadyH.cons (o := ({ dst := some 26, op := Go.Op.call { callee := Go.Callee.value (Go.Operand.func 43), args := #[Go.Operand.tmp 23, Go.Operand.tmp 25], argTypes := #[22, 77] }, type := 41, pos := _, after := #[{ on := 4, ground := Go.Ground.data }, { on := 6, ground := Go.Ground.data }, { on := 3, ground := Go.Ground.chain }], guard := none } : Oper)) rfl (fun K hK => ?_) AllReadyH.nil
          go_simp
          refine (H2.out _ _ _ _ HPC.out (by omega)).mono ?_
          rintro e w4 ⟨rfl, hb4'⟩
          go_wp2_with fail
          refine hK.out _ _ ?_ (fun hHeld => ?_)
          · exact ⟨hHeld.1.below hb4', hHeld.2.below hb4'⟩
          clear hK K
          try simp only [Act.put, List.setIfInBounds_toArray, List.set_cons_zero, List.set_cons_succ]
          have hb4 := Lib.hid hb4'
          clear hb4'
          have HX4 := Lib.hid (below_then HX3.out HX3.out.size hb4.out)
          refine wpAnyH_take (i := 8) (oi := ({ dst := some 4, op := Go.Op.assign (Go.Operand.tmp 22), type := 41, pos := _, after := #[{ on := 3, ground := Go.Ground.data }, { on := 7, ground := Go.Ground.chain }, { on := 0, ground := Go.Ground.phase }, { on := 1, ground := Go.Ground.phase }, { on := 2, ground := Go.Ground.phase }, { on := 3, ground := Go.Ground.phase }, { on := 4, ground := Go.Ground.textOnly Go.Departure.lateStores }, { on := 5, ground := Go.Ground.textOnly Go.Departure.lateStores }, { on := 6, ground := Go.Ground.textOnly Go.Departure.lateStores }, { on := 7, ground := Go.Ground.textOnly Go.Departure.lateStoresUnsure }], guard := none } : Oper)) (v := ?_) rfl (by kernel_rfl) (by kernel_rfl) (by kernel_rfl) (fun _ _ _ h => h) (Or.inl ⟨by rfl, ?_⟩) (by assumption) ?_
          rotate_left
          · intro W' hSw
            try dsimp only at hSw
            go_simp
            try with_reducible rfl
          try simp only [Act.put, List.setIfInBounds_toArray, List.set_cons_zero, List.set_cons_succ]
          refine wpAnyH_take (i := 9) (oi := ({ dst := some 5, op := Go.Op.assign (Go.Operand.tmp 26), type := 41, pos := _, after := #[{ on := 7, ground := Go.Ground.data }, { on := 8, ground := Go.Ground.chain }, { on := 0, ground := Go.Ground.phase }, { on := 1, ground := Go.Ground.phase }, { on := 2, ground := Go.Ground.phase }, { on := 3, ground := Go.Ground.phase }, { on := 4, ground := Go.Ground.phase }, { on := 5, ground := Go.Ground.phase }, { on := 6, ground := Go.Ground.phase }, { on := 7, ground := Go.Ground.phase }, { on := 8, ground := Go.Ground.phase }], guard := none } : Oper)) (v := ?_) rfl (by kernel_rfl) (by kernel_rfl) (by kernel_rfl) (fun _ _ _ h => h) (Or.inl ⟨by rfl, ?_⟩) (by assumption) ?_
          rotate_left
          · intro W' hSw
            try dsimp only at hSw
            go_simp
            try with_reducible rfl
          try simp only [Act.put, List.setIfInBounds_toArray, List.set_cons_zero, List.set_cons_succ]
          refine wpAnyH_done (by kernel_rfl) ?_ _
          go_wp2
          exact bodyPost_ret (v := .tuple #[.int .u64 x, .int .u64 y]) (by simp [results, Try.results29, go_sem]) rfl ⟨rfl, HX4.out⟩
        · go_simp
          refine hK.out _ _ ?_ (fun hHeld => ?_)
          · exact ⟨hHeld.1.below hbB.out, hHeld.2.below hbB.out⟩
          clear hK K
          try simp only [Act.put, List.setIfInBounds_toArray, List.set_cons_zero, List.set_cons_succ]
          have HX2 := Lib.hid (below_then HX1.out HX1.out.size hbB.out)
          refine wpAnyH_ready (rs := [3]) (by kernel_rfl) (by simp) ?_
          refine AllReadyH.cons (o := ({ dst := some 22, op := Go.Op.call { callee := Go.Callee.value (Go.Operand.func 43), args := #[Go.Operand.tmp 19, Go.Operand.tmp 21], argTypes := #[22, 77] }, type := 41, pos := _, after := #[{ on := 0, ground := Go.Ground.data }, { on := 2, ground := Go.Ground.data }], guard := none } : Oper)) rfl (fun K hK => ?_) AllReadyH.nil
          go_simp
          refine (H1.out _ _ _ _ (HPA.out.below hbB.out) (by omega)).mono ?_
          rintro e w3 ⟨rfl, hb3'⟩
          go_wp2_with fail
          refine hK.out _ _ ?_ (fun hHeld => ?_)
          · exact ⟨hHeld.1.below hb3', hHeld.2.below hb3'⟩
          clear hK K
          try simp only [Act.put, List.setIfInBounds_toArray, List.set_cons_zero, List.set_cons_succ]
          have hb3 := Lib.hid hb3'
          clear hb3'
          have HX3 := Lib.hid (below_then HX2.out HX2.out.size hb3.out)
          refine wpAnyH_ready (rs := [7]) (by kernel_rfl) (by simp) ?_
          refine AllReadyH.cons (o := ({ dst := some 26, op := Go.Op.call { callee := Go.Callee.value (Go.Operand.func 43), args := #[Go.Operand.tmp 23, Go.Operand.tmp 25], argTypes := #[22, 77] }, type := 41, pos := _, after := #[{ on := 4, ground := Go.Ground.data }, { on := 6, ground := Go.Ground.data }, { on := 3, ground := Go.Ground.chain }], guard := none } : Oper)) rfl (fun K hK => ?_) AllReadyH.nil
          go_simp
          refine (H2.out _ _ _ _ (HPB.out.below hb3.out) (by omega)).mono ?_
          rintro e w4 ⟨rfl, hb4'⟩
          go_wp2_with fail
          refine hK.out _ _ ?_ (fun hHeld => ?_)
          · exact ⟨hHeld.1.below hb4', hHeld.2.below hb4'⟩
          clear hK K
          try simp only [Act.put, List.setIfInBounds_toArray, List.set_cons_zero, List.set_cons_succ]
          have hb4 := Lib.hid hb4'
          clear hb4'
          have HX4 := Lib.hid (below_then HX3.out HX3.out.size hb4.out)
          refine wpAnyH_take (i := 8) (oi := ({ dst := some 4, op := Go.Op.assign (Go.Operand.tmp 22), type := 41, pos := _, after := #[{ on := 3, ground := Go.Ground.data }, { on := 7, ground := Go.Ground.chain }, { on := 0, ground := Go.Ground.phase }, { on := 1, ground := Go.Ground.phase }, { on := 2, ground := Go.Ground.phase }, { on := 3, ground := Go.Ground.phase }, { on := 4, ground := Go.Ground.textOnly Go.Departure.lateStores }, { on := 5, ground := Go.Ground.textOnly Go.Departure.lateStores }, { on := 6, ground := Go.Ground.textOnly Go.Departure.lateStores }, { on := 7, ground := Go.Ground.textOnly Go.Departure.lateStoresUnsure }], guard := none } : Oper)) (v := ?_) rfl (by kernel_rfl) (by kernel_rfl) (by kernel_rfl) (fun _ _ _ h => h) (Or.inl ⟨by rfl, ?_⟩) (by assumption) ?_
          rotate_left
          · intro W' hSw
            try dsimp only at hSw
            go_simp
            try with_reducible rfl
          try simp only [Act.put, List.setIfInBounds_toArray, List.set_cons_zero, List.set_cons_succ]
          refine wpAnyH_take (i := 9) (oi := ({ dst := some 5, op := Go.Op.assign (Go.Operand.tmp 26), type := 41, pos := _, after := #[{ on := 7, ground := Go.Ground.data }, { on := 8, ground := Go.Ground.chain }, { on := 0, ground := Go.Ground.phase }, { on := 1, ground := Go.Ground.phase }, { on := 2, ground := Go.Ground.phase }, { on := 3, ground := Go.Ground.phase }, { on := 4, ground := Go.Ground.phase }, { on := 5, ground := Go.Ground.phase }, { on := 6, ground := Go.Ground.phase }, { on := 7, ground := Go.Ground.phase }, { on := 8, ground := Go.Ground.phase }], guard := none } : Oper)) (v := ?_) rfl (by kernel_rfl) (by kernel_rfl) (by kernel_rfl) (fun _ _ _ h => h) (Or.inl ⟨by rfl, ?_⟩) (by assumption) ?_
          rotate_left
          · intro W' hSw
            try dsimp only at hSw
            go_simp
            try with_reducible rfl
          try simp only [Act.put, List.setIfInBounds_toArray, List.set_cons_zero, List.set_cons_succ]
          refine wpAnyH_done (by kernel_rfl) ?_ _
          go_wp2
          exact bodyPost_ret (v := .tuple #[.int .u64 x, .int .u64 y]) (by simp [results, Try.results29, go_sem]) rfl ⟨rfl, HX4.out⟩
      · go_simp
        refine hK.out _ _ ?_ (fun hHeld => ?_)
        · exact ⟨hHeld.1.below hbA.out, hHeld.2.below hbA.out⟩
        clear hK K
        try simp only [Act.put, List.setIfInBounds_toArray, List.set_cons_zero, List.set_cons_succ]
        have HX1 := Lib.hid (below_then HX0.out HX0.out.size hbA.out)
        obtain ⟨cB, wB, hrB, hoB, hbB', -, -⟩ := conv_bytes wA wA.heap.size s 9 Try.underlying9 (Nat.le_refl _) hs wA.heap.size rfl s.size rfl
        have HPB := Lib.hid (hoB.part (bts_byt s))
        have hbB := Lib.hid hbB'
        clear hoB hbB'
        refine wpAnyH_ready (rs := [2]) (by kernel_rfl) (by simp) ?_
        refine AllReadyH.cons (o := ({ dst := some 21, op := Go.Op.convert 9 77 (Go.Operand.tmp 20), type := 77, pos := _, after := #[{ on := 1, ground := Go.Ground.data }], guard := none } : Oper)) rfl (fun K hK => ?_) AllReadyH.nil
        go_simp
        refine hK.out _ _ ?_ (fun hHeld => ?_)
        · exact ⟨hHeld.1.below hbB.out, hHeld.2.below hbB.out⟩
        clear hK K
        try simp only [Act.put, List.setIfInBounds_toArray, List.set_cons_zero, List.set_cons_succ]
        have HX2 := Lib.hid (below_then HX1.out HX1.out.size hbB.out)
        refine wpAnyH_ready (rs := [3]) (by kernel_rfl) (by simp) ?_
        refine AllReadyH.cons (o := ({ dst := some 22, op := Go.Op.call { callee := Go.Callee.value (Go.Operand.func 43), args := #[Go.Operand.tmp 19, Go.Operand.tmp 21], argTypes := #[22, 77] }, type := 41, pos := _, after := #[{ on := 0, ground := Go.Ground.data }, { on := 2, ground := Go.Ground.data }], guard := none } : Oper)) rfl (fun K hK => ?_) AllReadyH.nil
        go_simp
        refine (H1.out _ _ _ _ HPB.out (by omega)).mono ?_
        rintro e w3 ⟨rfl, hb3'⟩
        go_wp2_with fail
        refine hK.out _ _ ?_ (fun hHeld => ?_)
        · exact ⟨hHeld.1.below hb3', hHeld.2.below hb3'⟩
        clear hK K
        try simp only [Act.put, List.setIfInBounds_toArray, List.set_cons_zero, List.set_cons_succ]
        have hb3 := Lib.hid hb3'
        clear hb3'
        have HX3 := Lib.hid (below_then HX2.out HX2.out.size hb3.out)
        refine wpAnyH_ready (rs := [7]) (by kernel_rfl) (by simp) ?_
        refine AllReadyH.cons (o := ({ dst := some 26, op := Go.Op.call { callee := Go.Callee.value (Go.Operand.func 43), args := #[Go.Operand.tmp 23, Go.Operand.tmp 25], argTypes := #[22, 77] }, type := 41, pos := _, after := #[{ on := 4, ground := Go.Ground.data }, { on := 6, ground := Go.Ground.data }, { on := 3, ground := Go.Ground.chain }], guard := none } : Oper)) rfl (fun K hK => ?_) AllReadyH.nil
        go_simp
        refine (H2.out _ _ _ _ ((HPA.out.below hbB.out).below hb3.out) (by omega)).mono ?_
        rintro e w4 ⟨rfl, hb4'⟩
        go_wp2_with fail
        refine hK.out _ _ ?_ (fun hHeld => ?_)
        · exact ⟨hHeld.1.below hb4', hHeld.2.below hb4'⟩
        clear hK K
        try simp only [Act.put, List.setIfInBounds_toArray, List.set_cons_zero, List.set_cons_succ]
        have hb4 := Lib.hid hb4'
        clear hb4'
        have HX4 := Lib.hid (below_then HX3.out HX3.out.size hb4.out)
        refine wpAnyH_take (i := 8) (oi := ({ dst := some 4, op := Go.Op.assign (Go.Operand.tmp 22), type := 41, pos := _, after := #[{ on := 3, ground := Go.Ground.data }, { on := 7, ground := Go.Ground.chain }, { on := 0, ground := Go.Ground.phase }, { on := 1, ground := Go.Ground.phase }, { on := 2, ground := Go.Ground.phase }, { on := 3, ground := Go.Ground.phase }, { on := 4, ground := Go.Ground.textOnly Go.Departure.lateStores }, { on := 5, ground := Go.Ground.textOnly Go.Departure.lateStores }, { on := 6, ground := Go.Ground.textOnly Go.Departure.lateStores }, { on := 7, ground := Go.Ground.textOnly Go.Departure.lateStoresUnsure }], guard := none } : Oper)) (v := ?_) rfl (by kernel_rfl) (by kernel_rfl) (by kernel_rfl) (fun _ _ _ h => h) (Or.inl ⟨by rfl, ?_⟩) (by assumption) ?_
        rotate_left
        · intro W' hSw
          try dsimp only at hSw
          go_simp
          try with_reducible rfl
        try simp only [Act.put, List.setIfInBounds_toArray, List.set_cons_zero, List.set_cons_succ]
        refine wpAnyH_take (i := 9) (oi := ({ dst := some 5, op := Go.Op.assign (Go.Operand.tmp 26), type := 41, pos := _, after := #[{ on := 7, ground := Go.Ground.data }, { on := 8, ground := Go.Ground.chain }, { on := 0, ground := Go.Ground.phase }, { on := 1, ground := Go.Ground.phase }, { on := 2, ground := Go.Ground.phase }, { on := 3, ground := Go.Ground.phase }, { on := 4, ground := Go.Ground.phase }, { on := 5, ground := Go.Ground.phase }, { on := 6, ground := Go.Ground.phase }, { on := 7, ground := Go.Ground.phase }, { on := 8, ground := Go.Ground.phase }], guard := none } : Oper)) (v := ?_) rfl (by kernel_rfl) (by kernel_rfl) (by kernel_rfl) (fun _ _ _ h => h) (Or.inl ⟨by rfl, ?_⟩) (by assumption) ?_
        rotate_left
        · intro W' hSw
          try dsimp only at hSw
          go_simp
          try with_reducible rfl
        try simp only [Act.put, List.setIfInBounds_toArray, List.set_cons_zero, List.set_cons_succ]
        refine wpAnyH_done (by kernel_rfl) ?_ _
        go_wp2
        exact bodyPost_ret (v := .tuple #[.int .u64 x, .int .u64 y]) (by simp [results, Try.results29, go_sem]) rfl ⟨rfl, HX4.out⟩

    · have hkl : (j : Int) < 16 := by omega
      have hlen : k.length = 16 := HK.out.1
      obtain ⟨c0, f0⟩ := ar_byte HC.out j (by rw [trnTo_len k j (by omega)]; omega)
      rw [trnTo_at k j (by omega)] at c0
      have u0 := (ar_byte HU.out j (by omega)).1
      have HS := Lib.hid (ar_set HC.out j (by rw [trnTo_len k j (by omega)]; omega) (255 - k[j]?.getD 0))
      rw [trnTo_set k j (by omega)] at HS
      obtain ⟨x, hx⟩ : ∃ x, k[j]?.getD 0 = x := ⟨_, rfl⟩
      have hx0 := HK.out.2.get j
      rw [hx] at HS c0 u0 hx0
      clear hx
      go_wp2
      go_roundg og
      case measure => omega
      case rel =>
        exact ⟨j + 1, by omega, by simp, HB.out.setCell (Nat.le_succ _) _, HS.out, HU.out.other (by simp) _⟩

end Go.Proofs.Ytpkahjflhboddaa
