/-
  What the function of MaglevFills does, whatever backends it is given.
-/
import Derived.Test.YtpkahjflhboddaaLaw
import Derived.Deep.RegionHeld3
import Derived.Test.YtpkahjflhboddaaRplaces
import Derived.Test.YtpkahjflhboddaaTurnsWalk
namespace Go.Proofs.Ytpkahjflhboddaa
open Go.RowKit
set_option linter.unusedVariables false
set_option linter.unusedSimpArgs false
set_option maxRecDepth 10000
attribute [local go_sem ↓] big22


set_option maxHeartbeats 8000000 in
theorem fills_walk (k : List Int) (a : Option Addr) (n c : Nat) (l : List Bk) (w : World) (hk : Key k) (hB : Bks w a n c l) (hw : Wide l) : Calls Try.prog 3 #[kv k, .slice a n c] w fun e w' => e = .returned (.bool true) ∧ Below w.heap.size w w' := by
  have HN := Lib.hid hB.1
  have HWD := Lib.hid hw
  obtain ⟨A, hA⟩ : ∃ A, (cel k).toArray = A := ⟨_, rfl⟩
  have hAs : A.size = 16 := by rw [← hA, List.size_toArray, cel_len, hk.1]
  have hkA : kv k = .agg A := by rw [← hA]; rfl
  have HAS := Lib.hid hAs
  have HK := Lib.hid hk
  have HNEW := Lib.hid (fun W a n c (hB : Bks W a n c l) => new_is k hk hw hB)
  rw [hkA] at HNEW ⊢
  have HAL := Lib.hid (fun w => alive_any w)
  have HKA := Lib.hid hkA
  have hb0 : Below w.heap.size w (w.alloc (.cells A 22)).drew := ((Below.refl _ _).alloc (Nat.le_refl _) _).drew
  have hA0 : Ar (w.alloc (.cells A 22)) w.heap.size A.toList := by simpa using Ar.new w A.toList 22
  have HLS : Hid (LS w.heap.size A a n c l (w.alloc (.cells A 22)).drew) := Lib.hid ⟨hA0.drew, hB.below hb0⟩
  have HB0 := Lib.hid hb0
  clear hb0 hA0
  clear hk hw hB hA hAs hkA
  by_cases h100 : (100 : Int) < (n : Int)
  · go_enter Try.func3, Try.ntmps3
    go_wp2_with (go_at_call 10; refine (HAL.out _).mono ?_; rintro e w3 ⟨rfl, hb3⟩)
    go_ret
    exact ⟨by rfl, below_next ((Below.refl w.heap.size w).alloc (Nat.le_refl _) _) (by simp) hb3⟩
  · go_enter Try.func3, Try.ntmps3
    go_wp2
    refine wp_region_held_drew (S := (fun W => LS w.heap.size A a n c l W)) (by kernel_rfl) HLS.out (fun hHeld => ?_)
    refine wpAnyH_take (i := 0) (oi := ({ dst := some 19, op := Go.Op.load 22 (Go.Operand.tmp 2), type := 22, pos := _, after := #[], guard := none } : Oper)) (v := ?_) rfl (by kernel_rfl) (by kernel_rfl) (by kernel_rfl) (fun _ _ _ h => h) (Or.inl ⟨by rfl, ?_⟩) (by assumption) ?_
    rotate_left
    · intro W' hSw
      try dsimp only at hSw
      have hkey := load_key22 hSw.1 HAS.out
      go_simp
      try with_reducible rfl
    try simp only [Act.put, List.setIfInBounds_toArray, List.set_cons_zero, List.set_cons_succ]
    refine wpAnyH_take (i := 1) (oi := ({ dst := some 20, op := Go.Op.move (Go.Operand.tmp 1), type := 23, pos := _, after := #[], guard := none } : Oper)) (v := ?_) rfl (by kernel_rfl) (by kernel_rfl) (by kernel_rfl) (fun _ _ _ h => h) (Or.inl ⟨by rfl, ?_⟩) (by assumption) ?_
    rotate_left
    · intro W' hSw
      try dsimp only at hSw
      go_simp
      try with_reducible rfl
    try simp only [Act.put, List.setIfInBounds_toArray, List.set_cons_zero, List.set_cons_succ]
    refine wpAnyH_ready (rs := [2]) (by kernel_rfl) (by simp) ?_
    refine AllReadyH.cons (o := ({ dst := some 21, op := Go.Op.call { callee := Go.Callee.value (Go.Operand.func 12), args := #[Go.Operand.tmp 20], argTypes := #[23] }, type := 29, pos := _, after := #[{ on := 1, ground := Go.Ground.data }], guard := none } : Oper)) rfl (fun K hK => ?_) AllReadyH.nil
    go_simp
    refine (own_any hHeld.2).mono ?_
    rintro e v1 ⟨oa1, oc1, rfl, hob1, hb1a⟩
    go_wp2_with fail
    refine hK.out _ _ ?_ (fun hHeld => ?_)
    · exact hHeld.below hb1a
    clear hK K
    try simp only [Act.put, List.setIfInBounds_toArray, List.set_cons_zero, List.set_cons_succ]
    have HOB1 := Lib.hid hob1
    have HBA1 := Lib.hid hb1a
    clear hob1 hb1a
    refine wpAnyH_ready (rs := [3]) (by kernel_rfl) (by simp) ?_
    refine AllReadyH.cons (o := ({ dst := some 22, op := Go.Op.call { callee := Go.Callee.value (Go.Operand.func 11), args := #[Go.Operand.tmp 19, Go.Operand.tmp 21], argTypes := #[51, 29] }, type := 27, pos := _, after := #[{ on := 0, ground := Go.Ground.data }, { on := 2, ground := Go.Ground.data }, { on := 2, ground := Go.Ground.chain }], guard := none } : Oper)) rfl (fun K hK => ?_) AllReadyH.nil
    go_simp
    refine (HNEW.out _ _ _ _ HOB1.out).mono ?_
    rintro e w1 ⟨tv1, ev1, rfl, hni1, hb1b⟩
    go_wp2_with fail
    refine hK.out _ _ ?_ (fun hHeld => ?_)
    · exact hHeld.below hb1b
    clear hK K
    try simp only [Act.put, List.setIfInBounds_toArray, List.set_cons_zero, List.set_cons_succ]
    have HNI1 := Lib.hid hni1
    have HBB1 := Lib.hid (HBA1.out.trans (hb1b.mono HBA1.out.size))
    have HL1 := Lib.hid hHeld
    clear hni1 hb1b
    refine wpAnyH_take (i := 4) (oi := ({ dst := some 18, op := Go.Op.move (Go.Operand.tmp 22), type := 27, pos := _, after := #[{ on := 3, ground := Go.Ground.data }], guard := none } : Oper)) (v := ?_) rfl (by kernel_rfl) (by kernel_rfl) (by kernel_rfl) (fun _ _ _ h => h) (Or.inl ⟨by rfl, ?_⟩) (by assumption) ?_
    rotate_left
    · intro W' hSw
      try dsimp only at hSw
      go_simp
      try with_reducible rfl
    try simp only [Act.put, List.setIfInBounds_toArray, List.set_cons_zero, List.set_cons_succ]
    refine wpAnyH_take (i := 5) (oi := ({ dst := some 23, op := Go.Op.extract (Go.Operand.tmp 18) 0, type := 25, pos := _, after := #[{ on := 4, ground := Go.Ground.data }], guard := none } : Oper)) (v := ?_) rfl (by kernel_rfl) (by kernel_rfl) (by kernel_rfl) (fun _ _ _ h => h) (Or.inl ⟨by rfl, ?_⟩) (by assumption) ?_
    rotate_left
    · intro W' hSw
      try dsimp only at hSw
      go_simp
      try with_reducible rfl
    try simp only [Act.put, List.setIfInBounds_toArray, List.set_cons_zero, List.set_cons_succ]
    refine wpAnyH_take (i := 6) (oi := ({ dst := some 24, op := Go.Op.extract (Go.Operand.tmp 18) 1, type := 26, pos := _, after := #[{ on := 4, ground := Go.Ground.data }, { on := 7, ground := Go.Ground.gcOnly Go.Departure.lateStores }], guard := none } : Oper)) (v := ?_) rfl (by kernel_rfl) (by kernel_rfl) (by kernel_rfl) (fun _ _ _ h => h) (Or.inl ⟨by rfl, ?_⟩) (by assumption) ?_
    rotate_left
    · intro W' hSw
      try dsimp only at hSw
      go_simp
      try with_reducible rfl
    try simp only [Act.put, List.setIfInBounds_toArray, List.set_cons_zero, List.set_cons_succ]
    refine wpAnyH_take (i := 7) (oi := ({ dst := some 5, op := Go.Op.assign (Go.Operand.tmp 23), type := 25, pos := _, after := #[{ on := 5, ground := Go.Ground.data }, { on := 3, ground := Go.Ground.chain }, { on := 0, ground := Go.Ground.phase }, { on := 1, ground := Go.Ground.phase }, { on := 2, ground := Go.Ground.phase }, { on := 3, ground := Go.Ground.phase }, { on := 4, ground := Go.Ground.phase }, { on := 5, ground := Go.Ground.phase }, { on := 6, ground := Go.Ground.textOnly Go.Departure.lateStores }], guard := none } : Oper)) (v := ?_) rfl (by kernel_rfl) (by kernel_rfl) (by kernel_rfl) (fun _ _ _ h => h) (Or.inl ⟨by rfl, ?_⟩) (by assumption) ?_
    rotate_left
    · intro W' hSw
      try dsimp only at hSw
      go_simp
      try with_reducible rfl
    try simp only [Act.put, List.setIfInBounds_toArray, List.set_cons_zero, List.set_cons_succ]
    refine wpAnyH_take (i := 8) (oi := ({ dst := some 6, op := Go.Op.assign (Go.Operand.tmp 24), type := 26, pos := _, after := #[{ on := 6, ground := Go.Ground.data }, { on := 7, ground := Go.Ground.chain }, { on := 0, ground := Go.Ground.phase }, { on := 1, ground := Go.Ground.phase }, { on := 2, ground := Go.Ground.phase }, { on := 3, ground := Go.Ground.phase }, { on := 4, ground := Go.Ground.phase }, { on := 5, ground := Go.Ground.phase }, { on := 6, ground := Go.Ground.phase }, { on := 7, ground := Go.Ground.phase }], guard := none } : Oper)) (v := ?_) rfl (by kernel_rfl) (by kernel_rfl) (by kernel_rfl) (fun _ _ _ h => h) (Or.inl ⟨by rfl, ?_⟩) (by assumption) ?_
    rotate_left
    · intro W' hSw
      try dsimp only at hSw
      go_simp
      try with_reducible rfl
    try simp only [Act.put, List.setIfInBounds_toArray, List.set_cons_zero, List.set_cons_succ]
    refine wpAnyH_done (by kernel_rfl) ?_ _

    have hTot : Hid (Below w.heap.size w w1) := Lib.hid (below_next HB0.out HB0.out.size HBB1.out)
    have hni1 := HNI1.out
    have HQ := Lib.hid HL1.out
    have HRR := Lib.hid (rright_any HL1.out.2 HWD.out)
    clear HNI1 HNEW HOB1 HBA1 hHeld HL1 HLS HB0 HBB1
    go_wp2_with fail
    refine HRR.out.mono ?_
    rintro e w2 ⟨⟨r, rfl, hr⟩, hb2⟩
    have HT2 := Lib.hid (below_next hTot.out hTot.out.size hb2)
    have HQ2 := Lib.hid (HQ.out.below hb2)
    rcases hni1 with ⟨hnr, rfl, rfl⟩ | ⟨hR, tb1, rfl, rfl, o, t, pl, ho, ht, hlay, hT1⟩
    · obtain rfl : r = false := by
        rcases r with _ | _
        · rfl
        · exact absurd (hr.1 rfl) hnr
      clear hr hnr hb2
      go_wp2_with (go_at_call 10; refine (HAL.out _).mono ?_; rintro e w3 ⟨rfl, hb3⟩)
      go_ret
      exact ⟨by rfl, below_next HT2.out HT2.out.size hb3⟩
    · obtain rfl : r = true := hr.2 hR
      obtain ⟨hll, hin⟩ := lab_in hR ho hlay
      have hn16 : n ≤ 16 := by rw [HN.out]; exact hR.2.1
      have hn1 : 1 ≤ n := by rw [HN.out]; exact hR.1
      obtain ⟨t', T, hG, ht'⟩ := good_of k hR ho
      obtain rfl : t = t' := by have := ht.same ht'; omega
      have HPLC := Lib.hid (rplaces_any k HK.out hR hG ht HQ2.out.2)
      rw [HKA.out] at HPLC
      have HLAY := Lib.hid hlay
      obtain ⟨la, hla⟩ : ∃ p, lab o pl = p := ⟨_, rfl⟩
      obtain ⟨rg, hrg⟩ : ∃ p, ring l o = p := ⟨_, rfl⟩
      rw [hla] at hll hin hT1
      rw [hrg] at hT1
      have HLA := Lib.hid hla
      have HLL := Lib.hid hll
      have HIN := Lib.hid hin
      have hT2 := hT1.below hb2
      have HTB2 := Lib.hid hT2
      have hlen := len_any hT2
      rw [← HN.out] at hlen
      have HLEN := Lib.hid hlen
      have hat1 := at_any hT2 (-1)
      rw [show atOf la (-1) = -1 by rfl] at hat1
      have HAT1 := Lib.hid hat1
      have hkey := load_key22 HQ2.out.1 HAS.out
      have HKEY := Lib.hid hkey
      clear hr hb2 hll hin hT1 hT2 ho ht ht' hG hlay hR hla hrg hlen hat1 hkey
      go_wp2_with fail
      refine HLEN.out.mono ?_
      rintro e w2' ⟨rfl, rfl⟩
      go_wp2_with fail
      refine HAT1.out.mono ?_
      rintro e w2' ⟨rfl, rfl⟩
      have hkey := HKEY.out
      go_wp2_with fail
      refine HPLC.out.mono ?_
      rintro e w3 ⟨g3, cap3, pl3, hlay3, rfl, hcap3, hA3, hb3⟩
      have hpe := lays_same hlay3 HLAY.out
      subst hpe
      rw [HLA.out] at hA3
      have HT3 := Lib.hid (below_next HT2.out HT2.out.size hb3)
      have HTB3 := Lib.hid (HTB2.out.below hb3)
      have HQ3 := Lib.hid (HQ2.out.below hb3)
      have hmkn := run_make_row' (P := Try.prog) 34 3 (.int .i64 0) 8 Try.underlying34 info3 rfl .i64 .i64 n (by omega) (by omega)
      rw [made_ints] at hmkn
      obtain ⟨MC, hMC⟩ : ∃ M, (vals (List.replicate n 0)).toArray = M := ⟨_, rfl⟩
      rw [hMC] at hmkn
      have hg3l := hA3.1
      have hst : Hid (∃ j : Nat, j + 251 = 251 ∧ (.int .i64 0 : Value) = .int .i64 j ∧ Below w3.heap.size w3 (w3.alloc (.cells MC 3)) ∧ Ar (w3.alloc (.cells MC 3)) g3 (vals la) ∧ Ar (w3.alloc (.cells MC 3)) w3.heap.size (vals (gots n la j))) := Lib.hid
        ⟨0, by omega, rfl, (Below.refl _ _).alloc (Nat.le_refl _) _, hA3.alloc _, by rw [gots_zero, ← hMC]; exact Ar.new w3 _ 3⟩
      obtain ⟨wv, rfl⟩ : ∃ W, W = w3 := ⟨_, rfl⟩
      clear hlay3 hA3 hb3 hkey hMC
      go_wp2
      go_loopg [9, 10, 63] 251 (fun gg _ _ s63 wr => Hid (∃ j : Nat, j + gg = 251 ∧ s63 = .int .i64 j ∧ Below wv.heap.size wv wr ∧ Ar wr g3 (vals la) ∧ Ar wr wv.heap.size (vals (gots n la j))))
      case atStart => exact hst
      case round =>
        clear hst hmkn
        obtain ⟨j, hj, rfl, hbr, hp, hg⟩ := hrel.out
        clear hrel
        by_cases hlt : j < 251
        · have hltz : (j : Int) < 251 := by omega
          obtain ⟨i, hi, hji⟩ := HIN.out j hlt
          rw [← HN.out] at hi
          have hjl : j < la.length := by rw [HLL.out]; exact hlt
          obtain ⟨e1, e2⟩ := ar_vals hp (x := j) (y := (i : Int)) (by rw [List.getElem?_eq_getElem hjl, ← hji, getElem!_pos la j hjl])
          have hat2 := at_any (HTB3.out.below hbr) (j : Int)
          rw [show atOf la (j : Int) = (i : Int) by rw [atOf, if_pos (by omega), Int.toNat_natCast, hji]] at hat2
          have HAT2 := Lib.hid hat2
          have hiz : (i : Int) < (n : Int) := by omega
          obtain ⟨d0, d1⟩ := ar_vals hg (x := i) (y := (((la.take j).count (i : Int) : Nat) : Int)) (gots_at n la j hi)
          have hcl : (la.take j).count (i : Int) ≤ 251 := Nat.le_trans List.count_le_length (by rw [List.length_take]; omega)
          have HGN := Lib.hid (gots_next n la (h := j) hi hjl hji)
          have HPUT := Lib.hid (ar_put hg (x := i) (by rw [gots_len]; exact hi) ((((la.take j).count (i : Int) : Nat) : Int) + 1))
          have hgl := hg.1
          generalize (la.take j).count (i : Int) = z at d0 hcl HGN HPUT
          have g1 : IntKind.i64.wrap ((z : Int) + 1) = (z : Int) + 1 := by rw [IntKind.wrap_i64]; omega
          have HP := Lib.hid (hp.other (p := ⟨wv.heap.size, i, none⟩) (by show wv.heap.size ≠ g3; omega) (.int .i64 ((z : Int) + 1)))
          have HBR := Lib.hid (hbr.setCell (p := ⟨wv.heap.size, i, none⟩) (Nat.le_refl _) (.int .i64 ((z : Int) + 1)))
          clear hbr hp hg hat2 hji
          go_wp2_with fail
          refine HAT2.out.mono ?_
          rintro e w5 ⟨rfl, rfl⟩
          go_wp2
          go_roundg (251 - (j + 1))
          case measure => omega
          case rel => exact Lib.hid ⟨j + 1, by omega, by go_num, HBR.out, HP.out, by rw [← HGN.out]; exact HPUT.out⟩
        · have hltz : ¬ (j : Int) < 251 := by omega
          obtain rfl : j = 251 := by omega
          have hT5 := HTB3.out.below hbr
          have hnm := names_any hT5 (by rw [← HN.out]; exact hn1) (by rw [← HN.out]; exact hn16)
          rw [← HN.out] at hnm
          have HNM := Lib.hid hnm
          have HT5 := Lib.hid hT5
          have HQ5 := Lib.hid (HQ3.out.below hbr)
          have HG5 := Lib.hid hg
          have HTo5 := Lib.hid (below_next HT3.out HT3.out.size hbr)
          clear hbr hp hg hT5 hnm
          go_wp2_with fail
          refine HNM.out.mono ?_
          rintro e w6 ⟨ng, nc, rfl, hnc, hna, hb6⟩
          have hst2 : Hid (∃ i : Nat, i + n = n ∧ (.int .i64 0 : Value) = .int .i64 i ∧ Below w.heap.size w w6 ∧ Tab w6 tb1 l la rg ∧ NamesAt w6 ng l ∧ Bks w6 a n c l ∧ Ar w6 wv.heap.size (vals (gots n la 251))) := Lib.hid
            ⟨0, by omega, rfl, below_next HTo5.out HTo5.out.size hb6, HT5.out.below hb6, hna, HQ5.out.2.below hb6, HG5.out.below hb6⟩
          clear hna hb6
          go_wp2
          go_loopg [12, 13, 84] n (fun gg _ _ s84 wr => Hid (∃ i : Nat, i + gg = n ∧ s84 = .int .i64 i ∧ Below w.heap.size w wr ∧ Tab wr tb1 l la rg ∧ NamesAt wr ng l ∧ Bks wr a n c l ∧ Ar wr wv.heap.size (vals (gots n la 251))))
          case atStart => exact hst2
          case round =>
            clear hst2
            obtain ⟨i, hi, rfl, hbr, hT, hna, hBk, hg⟩ := hrel.out
            clear hrel
            by_cases hlt2 : i < n
            · have hltz2 : (i : Int) < (n : Int) := by omega
              have hga := gots_at n la 251 hlt2
              rw [show la.take 251 = la by rw [← HLL.out]; exact List.take_length] at hga
              obtain ⟨d0, d1⟩ := ar_vals hg hga
              have hcn := count_any (w := wr.drew) (hT.below ((Below.refl _ _).drew)) (i : Int)
              generalize la.count (i : Int) = z at d0 hcn
              obtain ⟨b, off, rfl, hbb, c0, c1⟩ := bk_at hBk hlt2
              have f1 := hna.2 i (by rw [← HN.out]; exact hlt2)
              obtain ⟨nm, hnm⟩ : ∃ nm, (l[i]!).name = nm := ⟨_, rfl⟩
              rw [hnm] at f1 c0
              have HC18 := Lib.hid hcn
              have HF := Lib.hid (And.intro hbr (And.intro hT (And.intro hna (And.intro hBk hg))))
              have hS : wr.drew.cell? ⟨ng, i, none⟩ = some (.string nm) ∧ wr.drew.cell? ⟨b, off + i * 2, none⟩ = some (.string nm) := ⟨f1, c0⟩
              have HS := Lib.hid hS
              clear hbr hT hna hBk hg hcn hga f1 c0 c1 hS hnm
              go_wp2
              refine wp_region_held_drew (S := (fun W => W.cell? ⟨ng, i, none⟩ = some (.string nm) ∧ W.cell? ⟨b, off + i * 2, none⟩ = some (.string nm))) (by kernel_rfl) HS.out (fun hHeld => ?_)
              refine wpAnyH_take (i := 0) (oi := ({ dst := some 89, op := Go.Op.move (Go.Operand.tmp 5), type := 25, pos := _, after := #[], guard := none } : Oper)) (v := ?_) rfl (by kernel_rfl) (by kernel_rfl) (by kernel_rfl) (fun _ _ _ h => h) (Or.inl ⟨by rfl, ?_⟩) (by assumption) ?_
              rotate_left
              · intro W' hSw
                try dsimp only at hSw
                go_simp
                try with_reducible rfl
              try simp only [Act.put, List.setIfInBounds_toArray, List.set_cons_zero, List.set_cons_succ]
              refine wpAnyH_take (i := 1) (oi := ({ dst := some 90, op := Go.Op.move (Go.Operand.tmp 12), type := 3, pos := _, after := #[], guard := none } : Oper)) (v := ?_) rfl (by kernel_rfl) (by kernel_rfl) (by kernel_rfl) (fun _ _ _ h => h) (Or.inl ⟨by rfl, ?_⟩) (by assumption) ?_
              rotate_left
              · intro W' hSw
                try dsimp only at hSw
                go_simp
                try with_reducible rfl
              try simp only [Act.put, List.setIfInBounds_toArray, List.set_cons_zero, List.set_cons_succ]
              refine wpAnyH_take (i := 3) (oi := ({ dst := some 92, op := Go.Op.move (Go.Operand.tmp 13), type := 3, pos := _, after := #[], guard := none } : Oper)) (v := ?_) rfl (by kernel_rfl) (by kernel_rfl) (by kernel_rfl) (fun _ _ _ h => h) (Or.inl ⟨by rfl, ?_⟩) (by assumption) ?_
              rotate_left
              · intro W' hSw
                try dsimp only at hSw
                go_simp
                try with_reducible rfl
              try simp only [Act.put, List.setIfInBounds_toArray, List.set_cons_zero, List.set_cons_succ]
              refine wpAnyH_ready (rs := [2]) (by kernel_rfl) (by simp) ?_
              refine AllReadyH.cons (o := ({ dst := some 91, op := Go.Op.call { callee := Go.Callee.value (Go.Operand.func 18), args := #[Go.Operand.tmp 89, Go.Operand.tmp 90], argTypes := #[25, 3] }, type := 3, pos := _, after := #[{ on := 0, ground := Go.Ground.data }, { on := 1, ground := Go.Ground.data }], guard := none } : Oper)) rfl (fun K hK => ?_) AllReadyH.nil
              go_simp
              refine HC18.out.mono ?_
              rintro e w9 ⟨rfl, rfl⟩
              go_wp2_with fail
              refine hK.out _ _ ?_ (fun hHeld => ?_)
              · exact hHeld
              clear hK K
              try simp only [Act.put, List.setIfInBounds_toArray, List.set_cons_zero, List.set_cons_succ]
              refine wpAnyH_take (i := 4) (oi := ({ dst := some 93, op := Go.Op.binOp Go.BinOp.neq 3 (Go.Operand.tmp 91) (Go.Operand.tmp 92) 3, type := 4, pos := _, after := #[{ on := 2, ground := Go.Ground.data }, { on := 3, ground := Go.Ground.data }], guard := none } : Oper)) (v := ?_) rfl (by kernel_rfl) (by kernel_rfl) (by kernel_rfl) (fun _ _ _ h => h) (Or.inl ⟨by rfl, ?_⟩) (by assumption) ?_
              rotate_left
              · intro W' hSw
                try dsimp only at hSw
                go_simp
                try with_reducible rfl
              try simp only [Act.put, List.setIfInBounds_toArray, List.set_cons_zero, List.set_cons_succ]
              refine wpAnyH_take (i := 5) (oi := ({ dst := some 94, op := Go.Op.move (Go.Operand.tmp 93), type := 4, pos := _, after := #[{ on := 4, ground := Go.Ground.data }, { on := 2, ground := Go.Ground.chain }], guard := none } : Oper)) (v := ?_) rfl (by kernel_rfl) (by kernel_rfl) (by kernel_rfl) (fun _ _ _ h => h) (Or.inl ⟨by rfl, ?_⟩) (by assumption) ?_
              rotate_left
              · intro W' hSw
                try dsimp only at hSw
                go_simp
                try with_reducible rfl
              try simp only [Act.put, List.setIfInBounds_toArray, List.set_cons_zero, List.set_cons_succ]
              refine wpAnyH_take (i := 6) (oi := ({ dst := some 95, op := Go.Op.move (Go.Operand.tmp 11), type := 36, pos := _, after := #[{ on := 5, ground := Go.Ground.guard }], guard := some (5, false) } : Oper)) (v := ?_) rfl (by kernel_rfl) (by kernel_rfl) (by kernel_rfl) (fun _ _ _ h => h) (Or.inl ⟨by rfl, ?_⟩) (by assumption) ?_
              rotate_left
              · intro W' hSw
                try dsimp only at hSw
                go_simp
                try with_reducible rfl
              try simp only [Act.put, List.setIfInBounds_toArray, List.set_cons_zero, List.set_cons_succ]
              refine wpAnyH_take (i := 7) (oi := ({ dst := some 96, op := Go.Op.move (Go.Operand.tmp 12), type := 3, pos := _, after := #[{ on := 5, ground := Go.Ground.guard }], guard := some (5, false) } : Oper)) (v := ?_) rfl (by kernel_rfl) (by kernel_rfl) (by kernel_rfl) (fun _ _ _ h => h) (Or.inl ⟨by rfl, ?_⟩) (by assumption) ?_
              rotate_left
              · intro W' hSw
                try dsimp only at hSw
                go_simp
                try with_reducible rfl
              try simp only [Act.put, List.setIfInBounds_toArray, List.set_cons_zero, List.set_cons_succ]
              refine wpAnyH_take (i := 8) (oi := ({ dst := some 97, op := Go.Op.indexAddr 36 (Go.Operand.tmp 95) (Go.Operand.tmp 96), type := 0, pos := _, after := #[{ on := 6, ground := Go.Ground.data }, { on := 7, ground := Go.Ground.data }, { on := 5, ground := Go.Ground.guard }], guard := some (5, false) } : Oper)) (v := ?_) rfl (by kernel_rfl) (by kernel_rfl) (by kernel_rfl) (fun _ _ _ h => h) (Or.inl ⟨by rfl, ?_⟩) (by assumption) ?_
              rotate_left
              · intro W' hSw
                try dsimp only at hSw
                go_simp
                try with_reducible rfl
              try simp only [Act.put, List.setIfInBounds_toArray, List.set_cons_zero, List.set_cons_succ]
              refine wpAnyH_take (i := 9) (oi := ({ dst := some 98, op := Go.Op.load 9 (Go.Operand.tmp 97), type := 9, pos := _, after := #[{ on := 8, ground := Go.Ground.data }, { on := 5, ground := Go.Ground.guard }], guard := some (5, false) } : Oper)) (v := ?_) rfl (by kernel_rfl) (by kernel_rfl) (by kernel_rfl) (fun _ _ _ h => h) (Or.inl ⟨by rfl, ?_⟩) (by assumption) ?_
              rotate_left
              · intro W' hSw
                try dsimp only at hSw
                obtain ⟨f1, f2⟩ := hSw
                go_simp
                try with_reducible rfl
              try simp only [Act.put, List.setIfInBounds_toArray, List.set_cons_zero, List.set_cons_succ]
              refine wpAnyH_take (i := 10) (oi := ({ dst := some 99, op := Go.Op.move (Go.Operand.tmp 1), type := 23, pos := _, after := #[{ on := 5, ground := Go.Ground.guard }], guard := some (5, false) } : Oper)) (v := ?_) rfl (by kernel_rfl) (by kernel_rfl) (by kernel_rfl) (fun _ _ _ h => h) (Or.inl ⟨by rfl, ?_⟩) (by assumption) ?_
              rotate_left
              · intro W' hSw
                try dsimp only at hSw
                go_simp
                try with_reducible rfl
              try simp only [Act.put, List.setIfInBounds_toArray, List.set_cons_zero, List.set_cons_succ]
              refine wpAnyH_take (i := 11) (oi := ({ dst := some 100, op := Go.Op.move (Go.Operand.tmp 12), type := 3, pos := _, after := #[{ on := 5, ground := Go.Ground.guard }], guard := some (5, false) } : Oper)) (v := ?_) rfl (by kernel_rfl) (by kernel_rfl) (by kernel_rfl) (fun _ _ _ h => h) (Or.inl ⟨by rfl, ?_⟩) (by assumption) ?_
              rotate_left
              · intro W' hSw
                try dsimp only at hSw
                go_simp
                try with_reducible rfl
              try simp only [Act.put, List.setIfInBounds_toArray, List.set_cons_zero, List.set_cons_succ]
              refine wpAnyH_take (i := 12) (oi := ({ dst := some 101, op := Go.Op.indexAddr 23 (Go.Operand.tmp 99) (Go.Operand.tmp 100), type := 0, pos := _, after := #[{ on := 10, ground := Go.Ground.data }, { on := 11, ground := Go.Ground.data }, { on := 5, ground := Go.Ground.guard }], guard := some (5, false) } : Oper)) (v := ?_) rfl (by kernel_rfl) (by kernel_rfl) (by kernel_rfl) (fun _ _ _ h => h) (Or.inl ⟨by rfl, ?_⟩) (by assumption) ?_
              rotate_left
              · intro W' hSw
                try dsimp only at hSw
                go_simp
                try with_reducible rfl
              try simp only [Act.put, List.setIfInBounds_toArray, List.set_cons_zero, List.set_cons_succ]
              refine wpAnyH_take (i := 13) (oi := ({ dst := some 102, op := Go.Op.fieldAddr 39 (Go.Operand.tmp 101) 0, type := 0, pos := _, after := #[{ on := 12, ground := Go.Ground.data }, { on := 5, ground := Go.Ground.guard }], guard := some (5, false) } : Oper)) (v := ?_) rfl (by kernel_rfl) (by kernel_rfl) (by kernel_rfl) (fun _ _ _ h => h) (Or.inl ⟨by rfl, ?_⟩) (by assumption) ?_
              rotate_left
              · intro W' hSw
                try dsimp only at hSw
                go_simp
                try with_reducible rfl
              try simp only [Act.put, List.setIfInBounds_toArray, List.set_cons_zero, List.set_cons_succ]
              refine wpAnyH_take (i := 14) (oi := ({ dst := some 103, op := Go.Op.load 9 (Go.Operand.tmp 102), type := 9, pos := _, after := #[{ on := 13, ground := Go.Ground.data }, { on := 5, ground := Go.Ground.guard }], guard := some (5, false) } : Oper)) (v := ?_) rfl (by kernel_rfl) (by kernel_rfl) (by kernel_rfl) (fun _ _ _ h => h) (Or.inl ⟨by rfl, ?_⟩) (by assumption) ?_
              rotate_left
              · intro W' hSw
                try dsimp only at hSw
                obtain ⟨f1, f2⟩ := hSw
                go_simp
                try with_reducible rfl
              try simp only [Act.put, List.setIfInBounds_toArray, List.set_cons_zero, List.set_cons_succ]
              refine wpAnyH_take (i := 15) (oi := ({ dst := some 104, op := Go.Op.binOp Go.BinOp.neq 9 (Go.Operand.tmp 98) (Go.Operand.tmp 103) 9, type := 4, pos := _, after := #[{ on := 9, ground := Go.Ground.data }, { on := 14, ground := Go.Ground.data }, { on := 5, ground := Go.Ground.guard }], guard := some (5, false) } : Oper)) (v := ?_) rfl (by kernel_rfl) (by kernel_rfl) (by kernel_rfl) (fun _ _ _ h => h) (Or.inl ⟨by rfl, ?_⟩) (by assumption) ?_
              rotate_left
              · intro W' hSw
                try dsimp only at hSw
                go_simp
                try with_reducible rfl
              try simp only [Act.put, List.setIfInBounds_toArray, List.set_cons_zero, List.set_cons_succ]
              refine wpAnyH_take (i := 16) (oi := ({ dst := some 105, op := Go.Op.pick (Go.Operand.tmp 94) (Go.Operand.const (Go.Value.bool true)) (Go.Operand.tmp 104), type := 4, pos := _, after := #[{ on := 5, ground := Go.Ground.data }, { on := 15, ground := Go.Ground.data }], guard := none } : Oper)) (v := ?_) rfl (by kernel_rfl) (by kernel_rfl) (by kernel_rfl) (fun _ _ _ h => h) (Or.inl ⟨by rfl, ?_⟩) (by assumption) ?_
              rotate_left
              · intro W' hSw
                try dsimp only at hSw
                go_simp
                try with_reducible rfl
              try simp only [Act.put, List.setIfInBounds_toArray, List.set_cons_zero, List.set_cons_succ]
              refine wpAnyH_done (by kernel_rfl) ?_ _

              go_wp2
              go_roundg (n - (i + 1))
              case measure => omega
              case rel =>
                obtain ⟨hbr, hT, hna, hBk, hg⟩ := HF.out
                have hd : Below wr.heap.size wr wr.drew := (Below.refl _ _).drew
                exact Lib.hid ⟨i + 1, by omega, by go_num, hbr.drew, hT.below hd, hna.below hd, hBk.below hd, hg.drew⟩
            · have hltz2 : ¬ (i : Int) < (n : Int) := by omega
              have HBR := Lib.hid hbr
              clear hbr hT hna hBk hg
              go_wp2_with (go_at_call 10; refine (HAL.out _).mono ?_; rintro e w7 ⟨rfl, hb7⟩)
              go_ret
              exact ⟨by rfl, below_next HBR.out HBR.out.size hb7⟩

end Go.Proofs.Ytpkahjflhboddaa
