/-
  What the function of MaglevAgain does, whatever backends it is given.
-/
import Derived.Test.YtpkahjflhboddaaLaw
import Derived.Deep.RegionHeld3
namespace Go.Proofs.Ytpkahjflhboddaa
open Go.RowKit
set_option linter.unusedVariables false
set_option linter.unusedSimpArgs false
set_option maxRecDepth 10000
attribute [local go_sem ↓] big22

set_option maxHeartbeats 4000000 in
theorem again_walk (k : List Int) (a : Option Addr) (n c : Nat) (l : List Bk) (w : World) (hk : Key k) (hB : Bks w a n c l) (hw : Wide l) : Calls Try.prog 9 #[kv k, .slice a n c] w fun e w' => e = .returned (.bool true) ∧ Below w.heap.size w w' := by
  have HN := Lib.hid hB.1
  obtain ⟨A, hA⟩ : ∃ A, (cel k).toArray = A := ⟨_, rfl⟩
  have hAs : A.size = 16 := by rw [← hA, List.size_toArray, cel_len, hk.1]
  have hkA : kv k = .agg A := by rw [← hA]; rfl
  have HAS := Lib.hid hAs
  have HK := Lib.hid hk
  have HNEW := Lib.hid (fun W a n c (hB : Bks W a n c l) => new_is k hk hw hB)
  rw [hkA] at HNEW ⊢
  have HAL := Lib.hid (fun w => alive_any w)
  have hb0 : Below w.heap.size w (w.alloc (.cells A 22)).drew := ((Below.refl _ _).alloc (Nat.le_refl _) _).drew
  have hA0 : Ar (w.alloc (.cells A 22)) w.heap.size A.toList := by simpa using Ar.new w A.toList 22
  have HLS : Hid (LS w.heap.size A a n c l (w.alloc (.cells A 22)).drew) := Lib.hid ⟨hA0.drew, hB.below hb0⟩
  have HB0 := Lib.hid hb0
  clear hb0 hA0
  clear hk hw hB hA hAs hkA
  go_enter Try.func9, Try.ntmps9
  go_wp2
  refine wp_region_held_drew (S := (fun W => LS w.heap.size A a n c l W)) (by kernel_rfl) HLS.out (fun hHeld => ?_)
  refine wpAnyH_take (i := 0) (oi := ({ dst := some 11, op := Go.Op.load 22 (Go.Operand.tmp 2), type := 22, pos := _, after := #[], guard := none } : Oper)) (v := ?_) rfl (by kernel_rfl) (by kernel_rfl) (by kernel_rfl) (fun _ _ _ h => h) (Or.inl ⟨by rfl, ?_⟩) (by assumption) ?_
  rotate_left
  · intro W' hSw
    try dsimp only at hSw
    have hkey := load_key22 hSw.1 HAS.out
    go_simp
    try with_reducible rfl
  try simp only [Act.put, List.setIfInBounds_toArray, List.set_cons_zero, List.set_cons_succ]
  refine wpAnyH_take (i := 1) (oi := ({ dst := some 12, op := Go.Op.move (Go.Operand.tmp 1), type := 23, pos := _, after := #[], guard := none } : Oper)) (v := ?_) rfl (by kernel_rfl) (by kernel_rfl) (by kernel_rfl) (fun _ _ _ h => h) (Or.inl ⟨by rfl, ?_⟩) (by assumption) ?_
  rotate_left
  · intro W' hSw
    try dsimp only at hSw
    go_simp
    try with_reducible rfl
  try simp only [Act.put, List.setIfInBounds_toArray, List.set_cons_zero, List.set_cons_succ]
  refine wpAnyH_ready (rs := [2]) (by kernel_rfl) (by simp) ?_
  refine AllReadyH.cons (o := ({ dst := some 13, op := Go.Op.call { callee := Go.Callee.value (Go.Operand.func 12), args := #[Go.Operand.tmp 12], argTypes := #[23] }, type := 29, pos := _, after := #[{ on := 1, ground := Go.Ground.data }], guard := none } : Oper)) rfl (fun K hK => ?_) AllReadyH.nil
  go_simp
  refine (own_any hHeld.2).mono ?_
  rintro e v1 ⟨oa1, oc1, rfl, hob1, hb1a⟩
  go_wp2_with fail
  refine hK.out _ _ ?_ (fun hHeld => ?_)
  · exact hHeld.below hb1a
  clear hK K
  try simp only [Act.put, List.setIfInBounds_toArray, List.set_cons_zero, List.set_cons_succ]
  have HOB1 := Lib.hid hob1
  have HBA1 := Lib.hid hb1a
  clear hob1 hb1a
  refine wpAnyH_ready (rs := [3]) (by kernel_rfl) (by simp) ?_
  refine AllReadyH.cons (o := ({ dst := some 14, op := Go.Op.call { callee := Go.Callee.value (Go.Operand.func 11), args := #[Go.Operand.tmp 11, Go.Operand.tmp 13], argTypes := #[51, 29] }, type := 27, pos := _, after := #[{ on := 0, ground := Go.Ground.data }, { on := 2, ground := Go.Ground.data }, { on := 2, ground := Go.Ground.chain }], guard := none } : Oper)) rfl (fun K hK => ?_) AllReadyH.nil
  go_simp
  refine (HNEW.out _ _ _ _ HOB1.out).mono ?_
  rintro e w1 ⟨tv1, ev1, rfl, hni1, hb1b⟩
  go_wp2_with fail
  refine hK.out _ _ ?_ (fun hHeld => ?_)
  · exact hHeld.below hb1b
  clear hK K
  try simp only [Act.put, List.setIfInBounds_toArray, List.set_cons_zero, List.set_cons_succ]
  have HNI1 := Lib.hid hni1
  have HBB1 := Lib.hid (HBA1.out.trans (hb1b.mono HBA1.out.size))
  have HL1 := Lib.hid hHeld
  clear hni1 hb1b
  refine wpAnyH_take (i := 4) (oi := ({ dst := some 10, op := Go.Op.move (Go.Operand.tmp 14), type := 27, pos := _, after := #[{ on := 3, ground := Go.Ground.data }], guard := none } : Oper)) (v := ?_) rfl (by kernel_rfl) (by kernel_rfl) (by kernel_rfl) (fun _ _ _ h => h) (Or.inl ⟨by rfl, ?_⟩) (by assumption) ?_
  rotate_left
  · intro W' hSw
    try dsimp only at hSw
    go_simp
    try with_reducible rfl
  try simp only [Act.put, List.setIfInBounds_toArray, List.set_cons_zero, List.set_cons_succ]
  refine wpAnyH_take (i := 5) (oi := ({ dst := some 15, op := Go.Op.extract (Go.Operand.tmp 10) 0, type := 25, pos := _, after := #[{ on := 4, ground := Go.Ground.data }], guard := none } : Oper)) (v := ?_) rfl (by kernel_rfl) (by kernel_rfl) (by kernel_rfl) (fun _ _ _ h => h) (Or.inl ⟨by rfl, ?_⟩) (by assumption) ?_
  rotate_left
  · intro W' hSw
    try dsimp only at hSw
    go_simp
    try with_reducible rfl
  try simp only [Act.put, List.setIfInBounds_toArray, List.set_cons_zero, List.set_cons_succ]
  refine wpAnyH_take (i := 6) (oi := ({ dst := some 16, op := Go.Op.extract (Go.Operand.tmp 10) 1, type := 26, pos := _, after := #[{ on := 4, ground := Go.Ground.data }, { on := 7, ground := Go.Ground.gcOnly Go.Departure.lateStores }], guard := none } : Oper)) (v := ?_) rfl (by kernel_rfl) (by kernel_rfl) (by kernel_rfl) (fun _ _ _ h => h) (Or.inl ⟨by rfl, ?_⟩) (by assumption) ?_
  rotate_left
  · intro W' hSw
    try dsimp only at hSw
    go_simp
    try with_reducible rfl
  try simp only [Act.put, List.setIfInBounds_toArray, List.set_cons_zero, List.set_cons_succ]
  refine wpAnyH_take (i := 7) (oi := ({ dst := some 5, op := Go.Op.assign (Go.Operand.tmp 15), type := 25, pos := _, after := #[{ on := 5, ground := Go.Ground.data }, { on := 3, ground := Go.Ground.chain }, { on := 0, ground := Go.Ground.phase }, { on := 1, ground := Go.Ground.phase }, { on := 2, ground := Go.Ground.phase }, { on := 3, ground := Go.Ground.phase }, { on := 4, ground := Go.Ground.phase }, { on := 5, ground := Go.Ground.phase }, { on := 6, ground := Go.Ground.textOnly Go.Departure.lateStores }], guard := none } : Oper)) (v := ?_) rfl (by kernel_rfl) (by kernel_rfl) (by kernel_rfl) (fun _ _ _ h => h) (Or.inl ⟨by rfl, ?_⟩) (by assumption) ?_
  rotate_left
  · intro W' hSw
    try dsimp only at hSw
    go_simp
    try with_reducible rfl
  try simp only [Act.put, List.setIfInBounds_toArray, List.set_cons_zero, List.set_cons_succ]
  refine wpAnyH_take (i := 8) (oi := ({ dst := some 6, op := Go.Op.assign (Go.Operand.tmp 16), type := 26, pos := _, after := #[{ on := 6, ground := Go.Ground.data }, { on := 7, ground := Go.Ground.chain }, { on := 0, ground := Go.Ground.phase }, { on := 1, ground := Go.Ground.phase }, { on := 2, ground := Go.Ground.phase }, { on := 3, ground := Go.Ground.phase }, { on := 4, ground := Go.Ground.phase }, { on := 5, ground := Go.Ground.phase }, { on := 6, ground := Go.Ground.phase }, { on := 7, ground := Go.Ground.phase }], guard := none } : Oper)) (v := ?_) rfl (by kernel_rfl) (by kernel_rfl) (by kernel_rfl) (fun _ _ _ h => h) (Or.inl ⟨by rfl, ?_⟩) (by assumption) ?_
  rotate_left
  · intro W' hSw
    try dsimp only at hSw
    go_simp
    try with_reducible rfl
  try simp only [Act.put, List.setIfInBounds_toArray, List.set_cons_zero, List.set_cons_succ]
  refine wpAnyH_done (by kernel_rfl) ?_ _

  go_wp2
  refine wp_region_held_drew (S := (fun W => LS w.heap.size A a n c l W)) (by kernel_rfl) HL1.out (fun hHeld => ?_)
  refine wpAnyH_take (i := 0) (oi := ({ dst := some 18, op := Go.Op.load 22 (Go.Operand.tmp 2), type := 22, pos := _, after := #[], guard := none } : Oper)) (v := ?_) rfl (by kernel_rfl) (by kernel_rfl) (by kernel_rfl) (fun _ _ _ h => h) (Or.inl ⟨by rfl, ?_⟩) (by assumption) ?_
  rotate_left
  · intro W' hSw
    try dsimp only at hSw
    have hkey := load_key22 hSw.1 HAS.out
    go_simp
    try with_reducible rfl
  try simp only [Act.put, List.setIfInBounds_toArray, List.set_cons_zero, List.set_cons_succ]
  refine wpAnyH_take (i := 1) (oi := ({ dst := some 19, op := Go.Op.move (Go.Operand.tmp 1), type := 23, pos := _, after := #[], guard := none } : Oper)) (v := ?_) rfl (by kernel_rfl) (by kernel_rfl) (by kernel_rfl) (fun _ _ _ h => h) (Or.inl ⟨by rfl, ?_⟩) (by assumption) ?_
  rotate_left
  · intro W' hSw
    try dsimp only at hSw
    go_simp
    try with_reducible rfl
  try simp only [Act.put, List.setIfInBounds_toArray, List.set_cons_zero, List.set_cons_succ]
  refine wpAnyH_ready (rs := [2]) (by kernel_rfl) (by simp) ?_
  refine AllReadyH.cons (o := ({ dst := some 20, op := Go.Op.call { callee := Go.Callee.value (Go.Operand.func 12), args := #[Go.Operand.tmp 19], argTypes := #[23] }, type := 29, pos := _, after := #[{ on := 1, ground := Go.Ground.data }], guard := none } : Oper)) rfl (fun K hK => ?_) AllReadyH.nil
  go_simp
  refine (own_any hHeld.2).mono ?_
  rintro e v2 ⟨oa2, oc2, rfl, hob2, hb2a⟩
  go_wp2_with fail
  refine hK.out _ _ ?_ (fun hHeld => ?_)
  · exact hHeld.below hb2a
  clear hK K
  try simp only [Act.put, List.setIfInBounds_toArray, List.set_cons_zero, List.set_cons_succ]
  have HOB2 := Lib.hid hob2
  have HBA2 := Lib.hid hb2a
  clear hob2 hb2a
  refine wpAnyH_ready (rs := [3]) (by kernel_rfl) (by simp) ?_
  refine AllReadyH.cons (o := ({ dst := some 21, op := Go.Op.call { callee := Go.Callee.value (Go.Operand.func 11), args := #[Go.Operand.tmp 18, Go.Operand.tmp 20], argTypes := #[51, 29] }, type := 27, pos := _, after := #[{ on := 0, ground := Go.Ground.data }, { on := 2, ground := Go.Ground.data }, { on := 2, ground := Go.Ground.chain }], guard := none } : Oper)) rfl (fun K hK => ?_) AllReadyH.nil
  go_simp
  refine (HNEW.out _ _ _ _ HOB2.out).mono ?_
  rintro e w2 ⟨tv2, ev2, rfl, hni2, hb2b⟩
  go_wp2_with fail
  refine hK.out _ _ ?_ (fun hHeld => ?_)
  · exact hHeld.below hb2b
  clear hK K
  try simp only [Act.put, List.setIfInBounds_toArray, List.set_cons_zero, List.set_cons_succ]
  have HNI2 := Lib.hid hni2
  have HBB2 := Lib.hid (HBA2.out.trans (hb2b.mono HBA2.out.size))
  have HL2 := Lib.hid hHeld
  clear hni2 hb2b
  refine wpAnyH_take (i := 4) (oi := ({ dst := some 17, op := Go.Op.move (Go.Operand.tmp 21), type := 27, pos := _, after := #[{ on := 3, ground := Go.Ground.data }], guard := none } : Oper)) (v := ?_) rfl (by kernel_rfl) (by kernel_rfl) (by kernel_rfl) (fun _ _ _ h => h) (Or.inl ⟨by rfl, ?_⟩) (by assumption) ?_
  rotate_left
  · intro W' hSw
    try dsimp only at hSw
    go_simp
    try with_reducible rfl
  try simp only [Act.put, List.setIfInBounds_toArray, List.set_cons_zero, List.set_cons_succ]
  refine wpAnyH_take (i := 5) (oi := ({ dst := some 22, op := Go.Op.extract (Go.Operand.tmp 17) 0, type := 25, pos := _, after := #[{ on := 4, ground := Go.Ground.data }], guard := none } : Oper)) (v := ?_) rfl (by kernel_rfl) (by kernel_rfl) (by kernel_rfl) (fun _ _ _ h => h) (Or.inl ⟨by rfl, ?_⟩) (by assumption) ?_
  rotate_left
  · intro W' hSw
    try dsimp only at hSw
    go_simp
    try with_reducible rfl
  try simp only [Act.put, List.setIfInBounds_toArray, List.set_cons_zero, List.set_cons_succ]
  refine wpAnyH_take (i := 6) (oi := ({ dst := some 23, op := Go.Op.extract (Go.Operand.tmp 17) 1, type := 26, pos := _, after := #[{ on := 4, ground := Go.Ground.data }, { on := 7, ground := Go.Ground.gcOnly Go.Departure.lateStores }], guard := none } : Oper)) (v := ?_) rfl (by kernel_rfl) (by kernel_rfl) (by kernel_rfl) (fun _ _ _ h => h) (Or.inl ⟨by rfl, ?_⟩) (by assumption) ?_
  rotate_left
  · intro W' hSw
    try dsimp only at hSw
    go_simp
    try with_reducible rfl
  try simp only [Act.put, List.setIfInBounds_toArray, List.set_cons_zero, List.set_cons_succ]
  refine wpAnyH_take (i := 7) (oi := ({ dst := some 7, op := Go.Op.assign (Go.Operand.tmp 22), type := 25, pos := _, after := #[{ on := 5, ground := Go.Ground.data }, { on := 3, ground := Go.Ground.chain }, { on := 0, ground := Go.Ground.phase }, { on := 1, ground := Go.Ground.phase }, { on := 2, ground := Go.Ground.phase }, { on := 3, ground := Go.Ground.phase }, { on := 4, ground := Go.Ground.phase }, { on := 5, ground := Go.Ground.phase }, { on := 6, ground := Go.Ground.textOnly Go.Departure.lateStores }], guard := none } : Oper)) (v := ?_) rfl (by kernel_rfl) (by kernel_rfl) (by kernel_rfl) (fun _ _ _ h => h) (Or.inl ⟨by rfl, ?_⟩) (by assumption) ?_
  rotate_left
  · intro W' hSw
    try dsimp only at hSw
    go_simp
    try with_reducible rfl
  try simp only [Act.put, List.setIfInBounds_toArray, List.set_cons_zero, List.set_cons_succ]
  refine wpAnyH_take (i := 8) (oi := ({ dst := some 8, op := Go.Op.assign (Go.Operand.tmp 23), type := 26, pos := _, after := #[{ on := 6, ground := Go.Ground.data }, { on := 7, ground := Go.Ground.chain }, { on := 0, ground := Go.Ground.phase }, { on := 1, ground := Go.Ground.phase }, { on := 2, ground := Go.Ground.phase }, { on := 3, ground := Go.Ground.phase }, { on := 4, ground := Go.Ground.phase }, { on := 5, ground := Go.Ground.phase }, { on := 6, ground := Go.Ground.phase }, { on := 7, ground := Go.Ground.phase }], guard := none } : Oper)) (v := ?_) rfl (by kernel_rfl) (by kernel_rfl) (by kernel_rfl) (fun _ _ _ h => h) (Or.inl ⟨by rfl, ?_⟩) (by assumption) ?_
  rotate_left
  · intro W' hSw
    try dsimp only at hSw
    go_simp
    try with_reducible rfl
  try simp only [Act.put, List.setIfInBounds_toArray, List.set_cons_zero, List.set_cons_succ]
  refine wpAnyH_done (by kernel_rfl) ?_ _

  have HBB2 := Lib.hid (undrew HBB2.out)
  have hTot : Hid (Below w.heap.size w w2) := Lib.hid (below_next (below_next HB0.out HB0.out.size HBB1.out) (below_next HB0.out HB0.out.size HBB1.out).size HBB2.out)
  have hni1 := HNI1.out
  have hni2 := HNI2.out
  clear HNI1 HNI2 HNEW HOB1 HOB2 HBA1 HBA2 hHeld
  rcases hni1 with ⟨hnr, rfl, rfl⟩ | ⟨hR, tb1, rfl, rfl, o, t, pl, ho, ht, hlay, hT1⟩
  · rcases hni2 with ⟨-, rfl, rfl⟩ | ⟨hR, -⟩
    · go_wp2_with (go_at_call 10; refine (HAL.out _).mono ?_; rintro e w3 ⟨rfl, hb3⟩)
      go_ret
      exact ⟨by rfl, below_next hTot.out hTot.out.size hb3⟩
    · exact absurd hR hnr
  · rcases hni2 with ⟨hnr, -⟩ | ⟨-, tb2, rfl, rfl, o', t', pl', ho', ht', hlay', hT2⟩
    · exact absurd hR hnr
    · obtain ⟨rfl, rfl⟩ := same_tab hR ho ho' ht ht' hlay hlay'
      have HT1 := Lib.hid (hT1.below HBB2.out)
      have HT2 := Lib.hid hT2
      have HLN := Lib.hid (fun h : l.length = 1 => alone h ho hlay)
      have hn1 : 1 ≤ n := by rw [HN.out]; exact hR.1
      clear hT1 hT2 ho ho' ht ht' hlay hlay' hR HL1 HL2 HLS HBB1 HBB2
      go_wp2
      go_loopg [9, 45] 251 (fun gg _ s45 wr => Hid (∃ j : Nat, j + gg = 251 ∧ s45 = .int .i64 j ∧ wr = w2))
      case atStart => exact Lib.hid ⟨0, by omega, rfl, rfl⟩
      case round =>
        obtain ⟨j, hj, rfl, rfl⟩ := hrel.out
        clear hrel
        by_cases hlt : j < 251
        · have hltz : (j : Int) < 251 := by omega
          have c1 := Lib.hid (at_any HT1.out (j : Int))
          have c2 := Lib.hid (at_any HT2.out (j : Int))
          generalize atOf (lab o pl) (j : Int) = z at c1 c2
          go_wp2_with fail
          refine c1.out.mono ?_
          rintro e w3 ⟨rfl, rfl⟩
          go_wp2_with fail
          refine c2.out.mono ?_
          rintro e w3 ⟨rfl, rfl⟩
          go_wp2
          go_roundg (251 - (j + 1))
          case measure => omega
          case rel => exact Lib.hid ⟨j + 1, by omega, by go_num, rfl⟩
        · have hltz : ¬ (j : Int) < 251 := by omega
          by_cases hn : 1 < n
          · have hnz : (1 : Int) < (n : Int) := by omega
            go_wp2_with (go_at_call 10; refine (HAL.out _).mono ?_; rintro e w3 ⟨rfl, hb3⟩)
            go_ret
            exact ⟨by rfl, below_next hTot.out hTot.out.size hb3⟩
          · have hnz : ¬ (1 : Int) < (n : Int) := by omega
            have ha := HLN.out (by rw [← HN.out]; omega)
            have hT3 := HT1.out
            rw [ha] at hT3
            have HT3 := Lib.hid hT3
            clear hT3 ha
            go_wp2_with fail
            refine (HAL.out _).mono ?_
            rintro e w3 ⟨rfl, hb3⟩
            have c5 := count_any (HT3.out.below hb3) 0
            rw [show ((List.replicate 251 (0 : Int)).count 0 : Nat) = 251 by decide +kernel] at c5
            have C5 := Lib.hid c5
            clear c5
            have HB3 := Lib.hid (below_next hTot.out hTot.out.size hb3)
            clear hb3
            go_wp2_with fail
            refine C5.out.mono ?_
            rintro e w4 ⟨rfl, rfl⟩
            go_wp2
            go_ret
            exact ⟨by rfl, HB3.out⟩

end Go.Proofs.Ytpkahjflhboddaa
