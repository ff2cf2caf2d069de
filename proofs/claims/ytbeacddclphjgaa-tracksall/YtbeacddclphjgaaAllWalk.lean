/-
  The statement TracksAll, walked: any set, whatever it is told, has the priority that the document says.
-/
import Derived.Test.YtbeacddclphjgaaAllPre
import Derived.Test.YtbeacddclphjgaaFrame
namespace Go.Proofs.Ytbeacddclphjgaa
open Go.RowKit Go.Maps
set_option linter.unusedVariables false
set_option linter.unusedSimpArgs false
set_option maxRecDepth 10000
attribute [local go_sem ↓] bigS32

set_option maxHeartbeats 8000000 in
theorem all_walk (b : Int) (a : Option Addr) (n c : Nat) (l : List Bk) (a2 : Option Addr) (n2 c2 : Nat) (s : List Opr) (w : World) (hbw : (Lit.int .i64 b).wf = true) (hBk : Bks w a n c l) (hW : Wide l) (hS : Scr w a2 n2 c2 s) :
    Calls Try.prog 3 #[.int .i64 b, .slice a n c, .slice a2 n2 c2] w fun e w' => e = .returned (.bool true) ∧ Below w.heap.size w w' := by
  clear hbw
  have HAL := Lib.hid (fun w => alive_any w)
  have HOWN := Lib.hid (own_any hBk)
  have HS := Lib.hid hS
  have HWD := Lib.hid hW
  have HBK := Lib.hid hBk
  have hnc2 := hS.2.1
  have hnc := hBk.2.1
  clear hBk hW hS
  go_enter Try.func3, Try.ntmps3
  go_wp2_with fail
  refine HOWN.out.mono ?_
  rintro e w1 ⟨a1, c1, rfl, hbk1, hb1⟩
  have HN := Lib.hid (new_any (b := b) hbk1 HWD.out)
  have HB1 := Lib.hid hb1
  clear hbk1 hb1
  go_wp2_with fail
  refine HN.out.mono ?_
  rintro e w2 ⟨pv, ev, rfl, hnew, hb2⟩
  have HB2 := Lib.hid (HB1.out.trans (hb2.mono HB1.out.size))
  have HNEW := Lib.hid hnew
  have HRN := Lib.hid (rnew_any (b := b) (HBK.out.below HB2.out) HWD.out)
  clear hb2 hnew
  go_wp2_with fail
  refine HRN.out.mono ?_
  rintro e w3 ⟨hrn, hb3⟩
  have HB3 := Lib.hid (below_then HB2.out HB2.out.size hb3)
  obtain ⟨hok, v, rfl, hrs, hloc⟩ | ⟨hno, rfl⟩ := hrn
  case inr =>
    obtain ⟨-, rfl, rfl⟩ | ⟨hok, _⟩ := HNEW.out
    case inr => exact absurd hok hno
    obtain ⟨w4, hst4, hcb4, hb4⟩ := box32 w3 0 (.slice none 0 0) (.slice none 0 0) rfl rfl
    have HB4 := Lib.hid (below_then HB3.out HB3.out.size hb4)
    clear hb3 hno hcb4 hb4 HNEW
    go_wp2_with (go_at_call 11; refine (HAL.out _).mono ?_; rintro e w9 ⟨rfl, hb9⟩; have HB9 := Lib.hid hb9; clear hb9)
    go_ret
    exact ⟨rfl, HB4.out.trans (HB9.out.mono HB4.out.size)⟩
  obtain ⟨hno, _⟩ | ⟨-, B, M, rfl, rfl, hs, hBg, hMg⟩ := HNEW.out
  · exact absurd hok hno
  obtain ⟨va, vc, rfl, -, -⟩ := row_any hrs.row
  obtain ⟨w4, hst4, hcb4, hb4⟩ := box32 w3 b (.slice a n c) (.slice va n vc) rfl rfl
  have HB4 := Lib.hid (below_then HB3.out HB3.out.size hb4)
  have hl1 := hs.lt
  have hl2 := hs.map.lt
  have hz1 := HB1.out.size
  have hz2 := HB2.out.size
  have hz3 := hb3.size
  have HGP : Hid (GP w B M w3.heap.size) := Lib.hid ⟨by omega, by omega, by omega, by omega, by omega⟩
  have HR := Lib.hid hok.2
  have HST : Hid (AL w B M w3.heap.size a n c l b (.slice va n vc) (List.replicate l.length false) w4) := Lib.hid
    ⟨by rw [UT_fresh]; exact (hs.below hb3).below hb4, hcb4, row_below hrs.row hb4, hrs.len, bound hok.1, HB4.out, fun g hg => by
      have h1 := hloc g hg
      have h2 := (hrs.row.lt g hg).2
      omega⟩
  obtain ⟨N, hN⟩ : ∃ N, w3.heap.size = N := ⟨_, rfl⟩
  rw [hN] at HGP HST hst4
  unfold rsv
  clear hs hBg hMg hok hl1 hl2 hz1 hz2 hz3 hb3 hb4 hcb4 hrs hloc HNEW HRN HN
  by_cases h500 : n2 ≤ 500
  case neg =>
    have hz5 : ((n2 : Int) > 500) := by omega
    go_wp2_with (go_at_call 11; refine (HAL.out _).mono ?_; rintro e w9 ⟨rfl, hb9⟩; have HB9 := Lib.hid hb9; clear hb9)
    go_ret
    exact ⟨rfl, HB4.out.trans (HB9.out.mono HB4.out.size)⟩
  have hz5 : ¬ ((n2 : Int) > 500) := by omega
  go_wp2
  go_loopg [12, 13, 14, 15, 16, 17, 18, 19, 20, 21, 22, 69] n2 (fun gg _ _ _ _ _ _ _ _ _ _ _ s69 wr => Hid (AlRel w B M N a n c l n2 gg s69 wr))
  case atStart => exact Lib.hid ⟨0, _, _, _, by omega, rfl, HST.out⟩
  case round =>
    obtain ⟨k, bq, vq, uq, hk, rfl, hal⟩ := hrel.out
    clear hrel
    by_cases hkn : k < n2
    · have hkz : (k : Int) < (n2 : Int) := by omega
      obtain ⟨g, off, rfl, hgl, c0, c1, c2, c3⟩ := (HS.out.below hal.bel).at hkn
      have hnm := HS.out.2.2.1 k (by rw [← HS.out.1]; exact hkn)
      generalize (s[k]!).name = nm at c2 hnm
      generalize (s[k]!).up = u at c3
      generalize (s[k]!).kind = kd at c0
      generalize (s[k]!).n = nn at c1
      have HNM := Lib.hid hnm
      have hob := Cb.new4 wr (.int .i64 kd) (.int .i64 nn) (.string nm) (.bool u) 37
      have ha1 := hal.below (below_alloc (Below.refl _ _) (.cells #[.int .i64 kd, .int .i64 nn, .string nm, .bool u] 37))
      have hoB : wr.heap.size ≠ B := by have := hal.set.lt; omega
      have hoM : wr.heap.size ≠ M := by have := hal.set.map.lt; omega
      have hoN : wr.heap.size ≠ N := by have := hal.cb.lt; omega
      have HA1 := Lib.hid ha1
      have HOB := Lib.hid hob
      obtain ⟨va, vc, rfl, -, -⟩ := row_any hal.row
      by_cases hkd : kd = 1
      · have HBA := Lib.hid (base_any ha1.set nn)
        subst hkd
        cases hgood : isB nn with
        | true =>
          rw [hgood] at HBA
          have hbb := bound hgood
          have hgB : bas bq nn = nn := by unfold bas; rw [hgood]; rfl
          rw [hgB] at HBA
          have z1 : nn ≥ 1 := by omega
          have z2 : nn ≤ 255 := by omega
          clear hal ha1 hob hnm hgB
          go_wp2_with fail
          refine HBA.out.mono ?_
          rintro e w5 ⟨rfl, hs5, ho5⟩
          have hal5 := HA1.out.based HGP.out hs5 ho5 hbb
          have hcb5 := HA1.out.cb.only ho5 HGP.out.nB
          obtain ⟨q0, q1, q2⟩ := hcb5.three
          have f0 := hcb5.free 0
          have hob5 := HOB.out.only ho5 hoB
          obtain ⟨y0, y1, y2, y3⟩ := hob5.four
          have hob6 := hob5.only ((Only.refl (fun i => i = N) w5).setCell (p := ⟨N, 0, none⟩) (.inl rfl) (.int .i64 nn)) hoN
          have HA := Lib.hid hal5
          have HO := Lib.hid hob6
          have HAX := HA.out.set
          obtain ⟨p0, p1, p2, p3⟩ := HO.out.four
          clear hs5 ho5 hal5 hcb5 hob5 hob6
          have HU := Lib.hid (up_any HA.out.set HNM.out)
          obtain ⟨ru, hru⟩ : ∃ r, upOf (UT l uq) nm = r := ⟨_, rfl⟩
          obtain ⟨ri, hri⟩ : ∃ r, isT (UT l uq) nm = r := ⟨_, rfl⟩
          rw [hru, hri] at HU
          have HRU1 := Lib.hid hru
          have HRI1 := Lib.hid hri
          clear hru hri
          go_wp2_with fail
          refine HU.out.mono ?_
          rintro e wA ⟨rfl, hbA⟩
          have hA := HA.out.below hbA
          have hob := HO.out.below hbA
          have HRU := Lib.hid (rup_any (b := nn) (hA.rs HBK.out) HR.out nm)
          rw [HRU1.out, HRI1.out] at HRU
          unfold rsv at HRU
          obtain ⟨n0, n1, n2'⟩ := hA.cb.three
          obtain ⟨o0, o1, o2, o3⟩ := hob.four
          have HAA := Lib.hid hA
          clear hA hob hbA
          go_wp2_with fail
          refine HRU.out.mono ?_
          rintro e wB ⟨rfl, hbB⟩
          have HC := Lib.hid (HAA.out.below hbB)
          have HOK := Lib.hid (upd_okay HR.out (fun i => (uq)[i]!))
          obtain ⟨pr, hpr⟩ : ∃ pr, prio nn (UT l uq) = pr := ⟨_, rfl⟩
          have HPA := Lib.hid (fun X (h : AL w B M N a n c l nn (.slice va n vc) uq X) => prio_any h.set HOK.out h.bd)
          have HRA := Lib.hid (fun X (h : AL w B M N a n c l nn (.slice va n vc) uq X) => rprio_any (h.rs HBK.out) HR.out h.bd)
          rw [hpr] at HPA
          rw [hpr] at HRA
          clear hpr hbB
          go_wp2
          refine wp_region_held_drew (S := AL w B M N a n c l nn (.slice va n vc) uq) (by kernel_rfl) HC.out.drew (fun hHeld => ?_)
          refine wpAnyH_take (i := 0) (oi := ({ dst := some 136, op := Go.Op.move (Go.Operand.tmp 7), type := 24, pos := _, after := #[], guard := none } : Oper)) (v := ?_) rfl (by kernel_rfl) (by kernel_rfl) (by kernel_rfl) (fun _ _ _ h => h) (Or.inl ⟨by rfl, ?_⟩) (by assumption) ?_
          rotate_left
          · intro W' hSw
            try dsimp only at hSw
            go_simp
            try with_reducible rfl
          try simp only [Act.put, List.setIfInBounds_toArray, List.set_cons_zero, List.set_cons_succ]
          refine wpAnyH_take (i := 2) (oi := ({ dst := some 138, op := Go.Op.load 32 (Go.Operand.tmp 9), type := 32, pos := _, after := #[], guard := none } : Oper)) (v := ?_) rfl (by kernel_rfl) (by kernel_rfl) (by kernel_rfl) (fun _ _ _ h => h) (Or.inl ⟨by rfl, ?_⟩) (by assumption) ?_
          rotate_left
          · intro W' hSw
            try dsimp only at hSw
            obtain ⟨e0, e1, e2⟩ := hSw.cb.three
            go_simp
            try with_reducible rfl
          try simp only [Act.put, List.setIfInBounds_toArray, List.set_cons_zero, List.set_cons_succ]
          refine wpAnyH_ready (rs := [1]) (by kernel_rfl) (by simp) ?_
          refine AllReadyH.cons (o := ({ dst := some 137, op := Go.Op.call { callee := Go.Callee.value (Go.Operand.func 17), args := #[Go.Operand.tmp 136], argTypes := #[24] }, type := 3, pos := _, after := #[{ on := 0, ground := Go.Ground.data }], guard := none } : Oper)) rfl (fun K hK => ?_) AllReadyH.nil
          go_simp
          refine (HPA.out _ hHeld).mono ?_
          rintro e w11 ⟨rfl, hb11⟩
          go_wp2_with fail
          refine hK.out _ _ ?_ (fun hHeld => ?_)
          · exact hHeld.below hb11
          clear hK K
          try simp only [Act.put, List.setIfInBounds_toArray, List.set_cons_zero, List.set_cons_succ]
          clear hb11
          refine wpAnyH_ready (rs := [3]) (by kernel_rfl) (by simp) ?_
          refine AllReadyH.cons (o := ({ dst := some 139, op := Go.Op.call { callee := Go.Callee.value (Go.Operand.func 18), args := #[Go.Operand.tmp 138], argTypes := #[32] }, type := 3, pos := _, after := #[{ on := 2, ground := Go.Ground.data }, { on := 1, ground := Go.Ground.chain }], guard := none } : Oper)) rfl (fun K hK => ?_) AllReadyH.nil
          go_simp
          refine (HRA.out _ hHeld).mono ?_
          rintro e w12 ⟨rfl, hb12⟩
          go_wp2_with fail
          refine hK.out _ _ ?_ (fun hHeld => ?_)
          · exact hHeld.below hb12
          clear hK K
          try simp only [Act.put, List.setIfInBounds_toArray, List.set_cons_zero, List.set_cons_succ]
          clear hb12
          refine wpAnyH_take (i := 4) (oi := ({ dst := some 140, op := Go.Op.binOp Go.BinOp.neq 3 (Go.Operand.tmp 137) (Go.Operand.tmp 139) 3, type := 4, pos := _, after := #[{ on := 1, ground := Go.Ground.data }, { on := 3, ground := Go.Ground.data }], guard := none } : Oper)) (v := ?_) rfl (by kernel_rfl) (by kernel_rfl) (by kernel_rfl) (fun _ _ _ h => h) (Or.inl ⟨by rfl, ?_⟩) (by assumption) ?_
          rotate_left
          · intro W' hSw
            try dsimp only at hSw
            go_simp
            try with_reducible rfl
          try simp only [Act.put, List.setIfInBounds_toArray, List.set_cons_zero, List.set_cons_succ]
          refine wpAnyH_take (i := 5) (oi := ({ dst := some 141, op := Go.Op.move (Go.Operand.tmp 140), type := 4, pos := _, after := #[{ on := 4, ground := Go.Ground.data }, { on := 3, ground := Go.Ground.chain }], guard := none } : Oper)) (v := ?_) rfl (by kernel_rfl) (by kernel_rfl) (by kernel_rfl) (fun _ _ _ h => h) (Or.inl ⟨by rfl, ?_⟩) (by assumption) ?_
          rotate_left
          · intro W' hSw
            try dsimp only at hSw
            go_simp
            try with_reducible rfl
          try simp only [Act.put, List.setIfInBounds_toArray, List.set_cons_zero, List.set_cons_succ]
          refine wpAnyH_take (i := 6) (oi := ({ dst := some 142, op := Go.Op.move (Go.Operand.tmp 19), type := 4, pos := _, after := #[{ on := 5, ground := Go.Ground.guard }], guard := some (5, false) } : Oper)) (v := ?_) rfl (by kernel_rfl) (by kernel_rfl) (by kernel_rfl) (fun _ _ _ h => h) (Or.inl ⟨by rfl, ?_⟩) (by assumption) ?_
          rotate_left
          · intro W' hSw
            try dsimp only at hSw
            go_simp
            try with_reducible rfl
          try simp only [Act.put, List.setIfInBounds_toArray, List.set_cons_zero, List.set_cons_succ]
          refine wpAnyH_take (i := 7) (oi := ({ dst := some 143, op := Go.Op.move (Go.Operand.tmp 21), type := 4, pos := _, after := #[{ on := 5, ground := Go.Ground.guard }], guard := some (5, false) } : Oper)) (v := ?_) rfl (by kernel_rfl) (by kernel_rfl) (by kernel_rfl) (fun _ _ _ h => h) (Or.inl ⟨by rfl, ?_⟩) (by assumption) ?_
          rotate_left
          · intro W' hSw
            try dsimp only at hSw
            go_simp
            try with_reducible rfl
          try simp only [Act.put, List.setIfInBounds_toArray, List.set_cons_zero, List.set_cons_succ]
          refine wpAnyH_take (i := 8) (oi := ({ dst := some 144, op := Go.Op.binOp Go.BinOp.neq 4 (Go.Operand.tmp 142) (Go.Operand.tmp 143) 4, type := 4, pos := _, after := #[{ on := 6, ground := Go.Ground.data }, { on := 7, ground := Go.Ground.data }, { on := 5, ground := Go.Ground.guard }], guard := some (5, false) } : Oper)) (v := ?_) rfl (by kernel_rfl) (by kernel_rfl) (by kernel_rfl) (fun _ _ _ h => h) (Or.inl ⟨by rfl, ?_⟩) (by assumption) ?_
          rotate_left
          · intro W' hSw
            try dsimp only at hSw
            go_simp
            try with_reducible rfl
          try simp only [Act.put, List.setIfInBounds_toArray, List.set_cons_zero, List.set_cons_succ]
          refine wpAnyH_take (i := 9) (oi := ({ dst := some 145, op := Go.Op.pick (Go.Operand.tmp 141) (Go.Operand.const (Go.Value.bool true)) (Go.Operand.tmp 144), type := 4, pos := _, after := #[{ on := 5, ground := Go.Ground.data }, { on := 8, ground := Go.Ground.data }], guard := none } : Oper)) (v := ?_) rfl (by kernel_rfl) (by kernel_rfl) (by kernel_rfl) (fun _ _ _ h => h) (Or.inl ⟨by rfl, ?_⟩) (by assumption) ?_
          rotate_left
          · intro W' hSw
            try dsimp only at hSw
            go_simp
            try with_reducible rfl
          try simp only [Act.put, List.setIfInBounds_toArray, List.set_cons_zero, List.set_cons_succ]
          refine wpAnyH_take (i := 10) (oi := ({ dst := some 146, op := Go.Op.move (Go.Operand.tmp 145), type := 4, pos := _, after := #[{ on := 9, ground := Go.Ground.data }, { on := 5, ground := Go.Ground.chain }], guard := none } : Oper)) (v := ?_) rfl (by kernel_rfl) (by kernel_rfl) (by kernel_rfl) (fun _ _ _ h => h) (Or.inl ⟨by rfl, ?_⟩) (by assumption) ?_
          rotate_left
          · intro W' hSw
            try dsimp only at hSw
            go_simp
            try with_reducible rfl
          try simp only [Act.put, List.setIfInBounds_toArray, List.set_cons_zero, List.set_cons_succ]
          refine wpAnyH_take (i := 11) (oi := ({ dst := some 147, op := Go.Op.move (Go.Operand.tmp 20), type := 4, pos := _, after := #[{ on := 10, ground := Go.Ground.guard }], guard := some (10, false) } : Oper)) (v := ?_) rfl (by kernel_rfl) (by kernel_rfl) (by kernel_rfl) (fun _ _ _ h => h) (Or.inl ⟨by rfl, ?_⟩) (by assumption) ?_
          rotate_left
          · intro W' hSw
            try dsimp only at hSw
            go_simp
            try with_reducible rfl
          try simp only [Act.put, List.setIfInBounds_toArray, List.set_cons_zero, List.set_cons_succ]
          refine wpAnyH_take (i := 12) (oi := ({ dst := some 148, op := Go.Op.move (Go.Operand.tmp 22), type := 4, pos := _, after := #[{ on := 10, ground := Go.Ground.guard }], guard := some (10, false) } : Oper)) (v := ?_) rfl (by kernel_rfl) (by kernel_rfl) (by kernel_rfl) (fun _ _ _ h => h) (Or.inl ⟨by rfl, ?_⟩) (by assumption) ?_
          rotate_left
          · intro W' hSw
            try dsimp only at hSw
            go_simp
            try with_reducible rfl
          try simp only [Act.put, List.setIfInBounds_toArray, List.set_cons_zero, List.set_cons_succ]
          refine wpAnyH_take (i := 13) (oi := ({ dst := some 149, op := Go.Op.binOp Go.BinOp.neq 4 (Go.Operand.tmp 147) (Go.Operand.tmp 148) 4, type := 4, pos := _, after := #[{ on := 11, ground := Go.Ground.data }, { on := 12, ground := Go.Ground.data }, { on := 10, ground := Go.Ground.guard }], guard := some (10, false) } : Oper)) (v := ?_) rfl (by kernel_rfl) (by kernel_rfl) (by kernel_rfl) (fun _ _ _ h => h) (Or.inl ⟨by rfl, ?_⟩) (by assumption) ?_
          rotate_left
          · intro W' hSw
            try dsimp only at hSw
            go_simp
            try with_reducible rfl
          try simp only [Act.put, List.setIfInBounds_toArray, List.set_cons_zero, List.set_cons_succ]
          refine wpAnyH_take (i := 14) (oi := ({ dst := some 150, op := Go.Op.pick (Go.Operand.tmp 146) (Go.Operand.const (Go.Value.bool true)) (Go.Operand.tmp 149), type := 4, pos := _, after := #[{ on := 10, ground := Go.Ground.data }, { on := 13, ground := Go.Ground.data }], guard := none } : Oper)) (v := ?_) rfl (by kernel_rfl) (by kernel_rfl) (by kernel_rfl) (fun _ _ _ h => h) (Or.inl ⟨by rfl, ?_⟩) (by assumption) ?_
          rotate_left
          · intro W' hSw
            try dsimp only at hSw
            go_simp
            try with_reducible rfl
          try simp only [Act.put, List.setIfInBounds_toArray, List.set_cons_zero, List.set_cons_succ]
          refine wpAnyH_take (i := 15) (oi := ({ dst := some 151, op := Go.Op.move (Go.Operand.tmp 150), type := 4, pos := _, after := #[{ on := 14, ground := Go.Ground.data }, { on := 10, ground := Go.Ground.chain }], guard := none } : Oper)) (v := ?_) rfl (by kernel_rfl) (by kernel_rfl) (by kernel_rfl) (fun _ _ _ h => h) (Or.inl ⟨by rfl, ?_⟩) (by assumption) ?_
          rotate_left
          · intro W' hSw
            try dsimp only at hSw
            go_simp
            try with_reducible rfl
          try simp only [Act.put, List.setIfInBounds_toArray, List.set_cons_zero, List.set_cons_succ]
          refine wpAnyH_take (i := 16) (oi := ({ dst := some 152, op := Go.Op.move (Go.Operand.tmp 7), type := 24, pos := _, after := #[{ on := 15, ground := Go.Ground.guard }], guard := some (15, false) } : Oper)) (v := ?_) rfl (by kernel_rfl) (by kernel_rfl) (by kernel_rfl) (fun _ _ _ h => h) (Or.inl ⟨by rfl, ?_⟩) (by assumption) ?_
          rotate_left
          · intro W' hSw
            try dsimp only at hSw
            go_simp
            try with_reducible rfl
          try simp only [Act.put, List.setIfInBounds_toArray, List.set_cons_zero, List.set_cons_succ]
          refine wpAnyH_take (i := 18) (oi := ({ dst := some 154, op := Go.Op.load 32 (Go.Operand.tmp 9), type := 32, pos := _, after := #[{ on := 15, ground := Go.Ground.guard }], guard := some (15, false) } : Oper)) (v := ?_) rfl (by kernel_rfl) (by kernel_rfl) (by kernel_rfl) (fun _ _ _ h => h) (Or.inl ⟨by rfl, ?_⟩) (by assumption) ?_
          rotate_left
          · intro W' hSw
            try dsimp only at hSw
            obtain ⟨e0, e1, e2⟩ := hSw.cb.three
            go_simp
            try with_reducible rfl
          try simp only [Act.put, List.setIfInBounds_toArray, List.set_cons_zero, List.set_cons_succ]
          refine wpAnyH_ready (rs := [17]) (by kernel_rfl) (by simp) ?_
          refine AllReadyH.cons (o := ({ dst := some 153, op := Go.Op.call { callee := Go.Callee.value (Go.Operand.func 20), args := #[Go.Operand.tmp 152], argTypes := #[24] }, type := 48, pos := _, after := #[{ on := 16, ground := Go.Ground.data }, { on := 15, ground := Go.Ground.chain }, { on := 15, ground := Go.Ground.guard }], guard := some (15, false) } : Oper)) rfl (fun K hK => ?_) AllReadyH.nil
          go_simp
          refine (down_any hHeld.set HOK.out).mono ?_
          rintro e w13 ⟨v1, rfl, hr1, hb13⟩
          go_wp2_with fail
          refine hK.out _ _ ?_ (fun hHeld => ?_)
          · exact hHeld.below hb13
          clear hK K
          try simp only [Act.put, List.setIfInBounds_toArray, List.set_cons_zero, List.set_cons_succ]
          have HV1 := Lib.hid hr1
          clear hb13 hr1
          refine wpAnyH_ready (rs := [19]) (by kernel_rfl) (by simp) ?_
          refine AllReadyH.cons (o := ({ dst := some 155, op := Go.Op.call { callee := Go.Callee.value (Go.Operand.func 21), args := #[Go.Operand.tmp 154], argTypes := #[32] }, type := 48, pos := _, after := #[{ on := 18, ground := Go.Ground.data }, { on := 17, ground := Go.Ground.chain }, { on := 15, ground := Go.Ground.guard }], guard := some (15, false) } : Oper)) rfl (fun K hK => ?_) AllReadyH.nil
          go_simp
          refine (rdown_any (hHeld.rs HBK.out) HR.out).mono ?_
          rintro e w14 ⟨v2, rfl, hr2, hb14⟩
          go_wp2_with fail
          refine hK.out _ _ ?_ (fun hHeld => ?_)
          · exact hHeld.below hb14
          clear hK K
          try simp only [Act.put, List.setIfInBounds_toArray, List.set_cons_zero, List.set_cons_succ]
          have HV2 := Lib.hid (And.intro (row_below HV1.out hb14) hr2)
          clear hb14 hr2
          refine wpAnyH_ready (rs := [20]) (by kernel_rfl) (by simp) ?_
          refine AllReadyH.cons (o := ({ dst := some 156, op := Go.Op.call { callee := Go.Callee.value (Go.Operand.func 19), args := #[Go.Operand.tmp 153, Go.Operand.tmp 155], argTypes := #[48, 48] }, type := 4, pos := _, after := #[{ on := 17, ground := Go.Ground.data }, { on := 19, ground := Go.Ground.data }, { on := 19, ground := Go.Ground.chain }, { on := 15, ground := Go.Ground.guard }], guard := some (15, false) } : Oper)) rfl (fun K hK => ?_) AllReadyH.nil
          go_simp
          refine (same_any HV2.out.1 HV2.out.2).mono ?_
          rintro e w15 ⟨rfl, hb15⟩
          go_wp2_with fail
          refine hK.out _ _ ?_ (fun hHeld => ?_)
          · exact hHeld.below hb15
          clear hK K
          try simp only [Act.put, List.setIfInBounds_toArray, List.set_cons_zero, List.set_cons_succ]
          clear hb15
          refine wpAnyH_take (i := 21) (oi := ({ dst := some 157, op := Go.Op.unOp Go.UnOp.not 4 (Go.Operand.tmp 156), type := 4, pos := _, after := #[{ on := 20, ground := Go.Ground.data }, { on := 15, ground := Go.Ground.guard }], guard := some (15, false) } : Oper)) (v := ?_) rfl (by kernel_rfl) (by kernel_rfl) (by kernel_rfl) (fun _ _ _ h => h) (Or.inl ⟨by rfl, ?_⟩) (by assumption) ?_
          rotate_left
          · intro W' hSw
            try dsimp only at hSw
            go_simp
            try with_reducible rfl
          try simp only [Act.put, List.setIfInBounds_toArray, List.set_cons_zero, List.set_cons_succ]
          refine wpAnyH_take (i := 22) (oi := ({ dst := some 158, op := Go.Op.pick (Go.Operand.tmp 151) (Go.Operand.const (Go.Value.bool true)) (Go.Operand.tmp 157), type := 4, pos := _, after := #[{ on := 15, ground := Go.Ground.data }, { on := 21, ground := Go.Ground.data }], guard := none } : Oper)) (v := ?_) rfl (by kernel_rfl) (by kernel_rfl) (by kernel_rfl) (fun _ _ _ h => h) (Or.inl ⟨by rfl, ?_⟩) (by assumption) ?_
          rotate_left
          · intro W' hSw
            try dsimp only at hSw
            go_simp
            try with_reducible rfl
          try simp only [Act.put, List.setIfInBounds_toArray, List.set_cons_zero, List.set_cons_succ]
          refine wpAnyH_done (by kernel_rfl) ?_ _
          go_wp2
          go_roundg (n2 - (k + 1))
          case measure => omega
          case rel => exact Lib.hid ⟨k + 1, nn, _, uq, by omega, by go_num, hHeld⟩
        | false =>
          rw [hgood] at HBA
          have hgB : bas bq nn = bq := by unfold bas; rw [hgood]; rfl
          rw [hgB] at HBA
          have hnn : ¬ (1 ≤ nn ∧ nn ≤ 255) := of_decide_eq_false hgood
          clear hal ha1 hob hnm hgB
          by_cases z1 : nn ≥ 1
          · have z2 : ¬ nn ≤ 255 := by omega
            go_wp2_with fail
            refine HBA.out.mono ?_
            rintro e w5 ⟨rfl, hs5, ho5⟩
            have hal5 := HA1.out.stay HGP.out hs5 ho5
            have hob5 := HOB.out.only ho5 hoB
            have HA := Lib.hid hal5
            have HO := Lib.hid hob5
            have HAX := HA.out.set
            obtain ⟨p0, p1, p2, p3⟩ := HO.out.four
            clear hs5 ho5 hal5 hob5
            have HU := Lib.hid (up_any HA.out.set HNM.out)
            obtain ⟨ru, hru⟩ : ∃ r, upOf (UT l uq) nm = r := ⟨_, rfl⟩
            obtain ⟨ri, hri⟩ : ∃ r, isT (UT l uq) nm = r := ⟨_, rfl⟩
            rw [hru, hri] at HU
            have HRU1 := Lib.hid hru
            have HRI1 := Lib.hid hri
            clear hru hri
            go_wp2_with fail
            refine HU.out.mono ?_
            rintro e wA ⟨rfl, hbA⟩
            have hA := HA.out.below hbA
            have hob := HO.out.below hbA
            have HRU := Lib.hid (rup_any (b := bq) (hA.rs HBK.out) HR.out nm)
            rw [HRU1.out, HRI1.out] at HRU
            unfold rsv at HRU
            obtain ⟨n0, n1, n2'⟩ := hA.cb.three
            obtain ⟨o0, o1, o2, o3⟩ := hob.four
            have HAA := Lib.hid hA
            clear hA hob hbA
            go_wp2_with fail
            refine HRU.out.mono ?_
            rintro e wB ⟨rfl, hbB⟩
            have HC := Lib.hid (HAA.out.below hbB)
            have HOK := Lib.hid (upd_okay HR.out (fun i => (uq)[i]!))
            obtain ⟨pr, hpr⟩ : ∃ pr, prio bq (UT l uq) = pr := ⟨_, rfl⟩
            have HPA := Lib.hid (fun X (h : AL w B M N a n c l bq (.slice va n vc) uq X) => prio_any h.set HOK.out h.bd)
            have HRA := Lib.hid (fun X (h : AL w B M N a n c l bq (.slice va n vc) uq X) => rprio_any (h.rs HBK.out) HR.out h.bd)
            rw [hpr] at HPA
            rw [hpr] at HRA
            clear hpr hbB
            go_wp2
            refine wp_region_held_drew (S := AL w B M N a n c l bq (.slice va n vc) uq) (by kernel_rfl) HC.out.drew (fun hHeld => ?_)
            refine wpAnyH_take (i := 0) (oi := ({ dst := some 136, op := Go.Op.move (Go.Operand.tmp 7), type := 24, pos := _, after := #[], guard := none } : Oper)) (v := ?_) rfl (by kernel_rfl) (by kernel_rfl) (by kernel_rfl) (fun _ _ _ h => h) (Or.inl ⟨by rfl, ?_⟩) (by assumption) ?_
            rotate_left
            · intro W' hSw
              try dsimp only at hSw
              go_simp
              try with_reducible rfl
            try simp only [Act.put, List.setIfInBounds_toArray, List.set_cons_zero, List.set_cons_succ]
            refine wpAnyH_take (i := 2) (oi := ({ dst := some 138, op := Go.Op.load 32 (Go.Operand.tmp 9), type := 32, pos := _, after := #[], guard := none } : Oper)) (v := ?_) rfl (by kernel_rfl) (by kernel_rfl) (by kernel_rfl) (fun _ _ _ h => h) (Or.inl ⟨by rfl, ?_⟩) (by assumption) ?_
            rotate_left
            · intro W' hSw
              try dsimp only at hSw
              obtain ⟨e0, e1, e2⟩ := hSw.cb.three
              go_simp
              try with_reducible rfl
            try simp only [Act.put, List.setIfInBounds_toArray, List.set_cons_zero, List.set_cons_succ]
            refine wpAnyH_ready (rs := [1]) (by kernel_rfl) (by simp) ?_
            refine AllReadyH.cons (o := ({ dst := some 137, op := Go.Op.call { callee := Go.Callee.value (Go.Operand.func 17), args := #[Go.Operand.tmp 136], argTypes := #[24] }, type := 3, pos := _, after := #[{ on := 0, ground := Go.Ground.data }], guard := none } : Oper)) rfl (fun K hK => ?_) AllReadyH.nil
            go_simp
            refine (HPA.out _ hHeld).mono ?_
            rintro e w11 ⟨rfl, hb11⟩
            go_wp2_with fail
            refine hK.out _ _ ?_ (fun hHeld => ?_)
            · exact hHeld.below hb11
            clear hK K
            try simp only [Act.put, List.setIfInBounds_toArray, List.set_cons_zero, List.set_cons_succ]
            clear hb11
            refine wpAnyH_ready (rs := [3]) (by kernel_rfl) (by simp) ?_
            refine AllReadyH.cons (o := ({ dst := some 139, op := Go.Op.call { callee := Go.Callee.value (Go.Operand.func 18), args := #[Go.Operand.tmp 138], argTypes := #[32] }, type := 3, pos := _, after := #[{ on := 2, ground := Go.Ground.data }, { on := 1, ground := Go.Ground.chain }], guard := none } : Oper)) rfl (fun K hK => ?_) AllReadyH.nil
            go_simp
            refine (HRA.out _ hHeld).mono ?_
            rintro e w12 ⟨rfl, hb12⟩
            go_wp2_with fail
            refine hK.out _ _ ?_ (fun hHeld => ?_)
            · exact hHeld.below hb12
            clear hK K
            try simp only [Act.put, List.setIfInBounds_toArray, List.set_cons_zero, List.set_cons_succ]
            clear hb12
            refine wpAnyH_take (i := 4) (oi := ({ dst := some 140, op := Go.Op.binOp Go.BinOp.neq 3 (Go.Operand.tmp 137) (Go.Operand.tmp 139) 3, type := 4, pos := _, after := #[{ on := 1, ground := Go.Ground.data }, { on := 3, ground := Go.Ground.data }], guard := none } : Oper)) (v := ?_) rfl (by kernel_rfl) (by kernel_rfl) (by kernel_rfl) (fun _ _ _ h => h) (Or.inl ⟨by rfl, ?_⟩) (by assumption) ?_
            rotate_left
            · intro W' hSw
              try dsimp only at hSw
              go_simp
              try with_reducible rfl
            try simp only [Act.put, List.setIfInBounds_toArray, List.set_cons_zero, List.set_cons_succ]
            refine wpAnyH_take (i := 5) (oi := ({ dst := some 141, op := Go.Op.move (Go.Operand.tmp 140), type := 4, pos := _, after := #[{ on := 4, ground := Go.Ground.data }, { on := 3, ground := Go.Ground.chain }], guard := none } : Oper)) (v := ?_) rfl (by kernel_rfl) (by kernel_rfl) (by kernel_rfl) (fun _ _ _ h => h) (Or.inl ⟨by rfl, ?_⟩) (by assumption) ?_
            rotate_left
            · intro W' hSw
              try dsimp only at hSw
              go_simp
              try with_reducible rfl
            try simp only [Act.put, List.setIfInBounds_toArray, List.set_cons_zero, List.set_cons_succ]
            refine wpAnyH_take (i := 6) (oi := ({ dst := some 142, op := Go.Op.move (Go.Operand.tmp 19), type := 4, pos := _, after := #[{ on := 5, ground := Go.Ground.guard }], guard := some (5, false) } : Oper)) (v := ?_) rfl (by kernel_rfl) (by kernel_rfl) (by kernel_rfl) (fun _ _ _ h => h) (Or.inl ⟨by rfl, ?_⟩) (by assumption) ?_
            rotate_left
            · intro W' hSw
              try dsimp only at hSw
              go_simp
              try with_reducible rfl
            try simp only [Act.put, List.setIfInBounds_toArray, List.set_cons_zero, List.set_cons_succ]
            refine wpAnyH_take (i := 7) (oi := ({ dst := some 143, op := Go.Op.move (Go.Operand.tmp 21), type := 4, pos := _, after := #[{ on := 5, ground := Go.Ground.guard }], guard := some (5, false) } : Oper)) (v := ?_) rfl (by kernel_rfl) (by kernel_rfl) (by kernel_rfl) (fun _ _ _ h => h) (Or.inl ⟨by rfl, ?_⟩) (by assumption) ?_
            rotate_left
            · intro W' hSw
              try dsimp only at hSw
              go_simp
              try with_reducible rfl
            try simp only [Act.put, List.setIfInBounds_toArray, List.set_cons_zero, List.set_cons_succ]
            refine wpAnyH_take (i := 8) (oi := ({ dst := some 144, op := Go.Op.binOp Go.BinOp.neq 4 (Go.Operand.tmp 142) (Go.Operand.tmp 143) 4, type := 4, pos := _, after := #[{ on := 6, ground := Go.Ground.data }, { on := 7, ground := Go.Ground.data }, { on := 5, ground := Go.Ground.guard }], guard := some (5, false) } : Oper)) (v := ?_) rfl (by kernel_rfl) (by kernel_rfl) (by kernel_rfl) (fun _ _ _ h => h) (Or.inl ⟨by rfl, ?_⟩) (by assumption) ?_
            rotate_left
            · intro W' hSw
              try dsimp only at hSw
              go_simp
              try with_reducible rfl
            try simp only [Act.put, List.setIfInBounds_toArray, List.set_cons_zero, List.set_cons_succ]
            refine wpAnyH_take (i := 9) (oi := ({ dst := some 145, op := Go.Op.pick (Go.Operand.tmp 141) (Go.Operand.const (Go.Value.bool true)) (Go.Operand.tmp 144), type := 4, pos := _, after := #[{ on := 5, ground := Go.Ground.data }, { on := 8, ground := Go.Ground.data }], guard := none } : Oper)) (v := ?_) rfl (by kernel_rfl) (by kernel_rfl) (by kernel_rfl) (fun _ _ _ h => h) (Or.inl ⟨by rfl, ?_⟩) (by assumption) ?_
            rotate_left
            · intro W' hSw
              try dsimp only at hSw
              go_simp
              try with_reducible rfl
            try simp only [Act.put, List.setIfInBounds_toArray, List.set_cons_zero, List.set_cons_succ]
            refine wpAnyH_take (i := 10) (oi := ({ dst := some 146, op := Go.Op.move (Go.Operand.tmp 145), type := 4, pos := _, after := #[{ on := 9, ground := Go.Ground.data }, { on := 5, ground := Go.Ground.chain }], guard := none } : Oper)) (v := ?_) rfl (by kernel_rfl) (by kernel_rfl) (by kernel_rfl) (fun _ _ _ h => h) (Or.inl ⟨by rfl, ?_⟩) (by assumption) ?_
            rotate_left
            · intro W' hSw
              try dsimp only at hSw
              go_simp
              try with_reducible rfl
            try simp only [Act.put, List.setIfInBounds_toArray, List.set_cons_zero, List.set_cons_succ]
            refine wpAnyH_take (i := 11) (oi := ({ dst := some 147, op := Go.Op.move (Go.Operand.tmp 20), type := 4, pos := _, after := #[{ on := 10, ground := Go.Ground.guard }], guard := some (10, false) } : Oper)) (v := ?_) rfl (by kernel_rfl) (by kernel_rfl) (by kernel_rfl) (fun _ _ _ h => h) (Or.inl ⟨by rfl, ?_⟩) (by assumption) ?_
            rotate_left
            · intro W' hSw
              try dsimp only at hSw
              go_simp
              try with_reducible rfl
            try simp only [Act.put, List.setIfInBounds_toArray, List.set_cons_zero, List.set_cons_succ]
            refine wpAnyH_take (i := 12) (oi := ({ dst := some 148, op := Go.Op.move (Go.Operand.tmp 22), type := 4, pos := _, after := #[{ on := 10, ground := Go.Ground.guard }], guard := some (10, false) } : Oper)) (v := ?_) rfl (by kernel_rfl) (by kernel_rfl) (by kernel_rfl) (fun _ _ _ h => h) (Or.inl ⟨by rfl, ?_⟩) (by assumption) ?_
            rotate_left
            · intro W' hSw
              try dsimp only at hSw
              go_simp
              try with_reducible rfl
            try simp only [Act.put, List.setIfInBounds_toArray, List.set_cons_zero, List.set_cons_succ]
            refine wpAnyH_take (i := 13) (oi := ({ dst := some 149, op := Go.Op.binOp Go.BinOp.neq 4 (Go.Operand.tmp 147) (Go.Operand.tmp 148) 4, type := 4, pos := _, after := #[{ on := 11, ground := Go.Ground.data }, { on := 12, ground := Go.Ground.data }, { on := 10, ground := Go.Ground.guard }], guard := some (10, false) } : Oper)) (v := ?_) rfl (by kernel_rfl) (by kernel_rfl) (by kernel_rfl) (fun _ _ _ h => h) (Or.inl ⟨by rfl, ?_⟩) (by assumption) ?_
            rotate_left
            · intro W' hSw
              try dsimp only at hSw
              go_simp
              try with_reducible rfl
            try simp only [Act.put, List.setIfInBounds_toArray, List.set_cons_zero, List.set_cons_succ]
            refine wpAnyH_take (i := 14) (oi := ({ dst := some 150, op := Go.Op.pick (Go.Operand.tmp 146) (Go.Operand.const (Go.Value.bool true)) (Go.Operand.tmp 149), type := 4, pos := _, after := #[{ on := 10, ground := Go.Ground.data }, { on := 13, ground := Go.Ground.data }], guard := none } : Oper)) (v := ?_) rfl (by kernel_rfl) (by kernel_rfl) (by kernel_rfl) (fun _ _ _ h => h) (Or.inl ⟨by rfl, ?_⟩) (by assumption) ?_
            rotate_left
            · intro W' hSw
              try dsimp only at hSw
              go_simp
              try with_reducible rfl
            try simp only [Act.put, List.setIfInBounds_toArray, List.set_cons_zero, List.set_cons_succ]
            refine wpAnyH_take (i := 15) (oi := ({ dst := some 151, op := Go.Op.move (Go.Operand.tmp 150), type := 4, pos := _, after := #[{ on := 14, ground := Go.Ground.data }, { on := 10, ground := Go.Ground.chain }], guard := none } : Oper)) (v := ?_) rfl (by kernel_rfl) (by kernel_rfl) (by kernel_rfl) (fun _ _ _ h => h) (Or.inl ⟨by rfl, ?_⟩) (by assumption) ?_
            rotate_left
            · intro W' hSw
              try dsimp only at hSw
              go_simp
              try with_reducible rfl
            try simp only [Act.put, List.setIfInBounds_toArray, List.set_cons_zero, List.set_cons_succ]
            refine wpAnyH_take (i := 16) (oi := ({ dst := some 152, op := Go.Op.move (Go.Operand.tmp 7), type := 24, pos := _, after := #[{ on := 15, ground := Go.Ground.guard }], guard := some (15, false) } : Oper)) (v := ?_) rfl (by kernel_rfl) (by kernel_rfl) (by kernel_rfl) (fun _ _ _ h => h) (Or.inl ⟨by rfl, ?_⟩) (by assumption) ?_
            rotate_left
            · intro W' hSw
              try dsimp only at hSw
              go_simp
              try with_reducible rfl
            try simp only [Act.put, List.setIfInBounds_toArray, List.set_cons_zero, List.set_cons_succ]
            refine wpAnyH_take (i := 18) (oi := ({ dst := some 154, op := Go.Op.load 32 (Go.Operand.tmp 9), type := 32, pos := _, after := #[{ on := 15, ground := Go.Ground.guard }], guard := some (15, false) } : Oper)) (v := ?_) rfl (by kernel_rfl) (by kernel_rfl) (by kernel_rfl) (fun _ _ _ h => h) (Or.inl ⟨by rfl, ?_⟩) (by assumption) ?_
            rotate_left
            · intro W' hSw
              try dsimp only at hSw
              obtain ⟨e0, e1, e2⟩ := hSw.cb.three
              go_simp
              try with_reducible rfl
            try simp only [Act.put, List.setIfInBounds_toArray, List.set_cons_zero, List.set_cons_succ]
            refine wpAnyH_ready (rs := [17]) (by kernel_rfl) (by simp) ?_
            refine AllReadyH.cons (o := ({ dst := some 153, op := Go.Op.call { callee := Go.Callee.value (Go.Operand.func 20), args := #[Go.Operand.tmp 152], argTypes := #[24] }, type := 48, pos := _, after := #[{ on := 16, ground := Go.Ground.data }, { on := 15, ground := Go.Ground.chain }, { on := 15, ground := Go.Ground.guard }], guard := some (15, false) } : Oper)) rfl (fun K hK => ?_) AllReadyH.nil
            go_simp
            refine (down_any hHeld.set HOK.out).mono ?_
            rintro e w13 ⟨v1, rfl, hr1, hb13⟩
            go_wp2_with fail
            refine hK.out _ _ ?_ (fun hHeld => ?_)
            · exact hHeld.below hb13
            clear hK K
            try simp only [Act.put, List.setIfInBounds_toArray, List.set_cons_zero, List.set_cons_succ]
            have HV1 := Lib.hid hr1
            clear hb13 hr1
            refine wpAnyH_ready (rs := [19]) (by kernel_rfl) (by simp) ?_
            refine AllReadyH.cons (o := ({ dst := some 155, op := Go.Op.call { callee := Go.Callee.value (Go.Operand.func 21), args := #[Go.Operand.tmp 154], argTypes := #[32] }, type := 48, pos := _, after := #[{ on := 18, ground := Go.Ground.data }, { on := 17, ground := Go.Ground.chain }, { on := 15, ground := Go.Ground.guard }], guard := some (15, false) } : Oper)) rfl (fun K hK => ?_) AllReadyH.nil
            go_simp
            refine (rdown_any (hHeld.rs HBK.out) HR.out).mono ?_
            rintro e w14 ⟨v2, rfl, hr2, hb14⟩
            go_wp2_with fail
            refine hK.out _ _ ?_ (fun hHeld => ?_)
            · exact hHeld.below hb14
            clear hK K
            try simp only [Act.put, List.setIfInBounds_toArray, List.set_cons_zero, List.set_cons_succ]
            have HV2 := Lib.hid (And.intro (row_below HV1.out hb14) hr2)
            clear hb14 hr2
            refine wpAnyH_ready (rs := [20]) (by kernel_rfl) (by simp) ?_
            refine AllReadyH.cons (o := ({ dst := some 156, op := Go.Op.call { callee := Go.Callee.value (Go.Operand.func 19), args := #[Go.Operand.tmp 153, Go.Operand.tmp 155], argTypes := #[48, 48] }, type := 4, pos := _, after := #[{ on := 17, ground := Go.Ground.data }, { on := 19, ground := Go.Ground.data }, { on := 19, ground := Go.Ground.chain }, { on := 15, ground := Go.Ground.guard }], guard := some (15, false) } : Oper)) rfl (fun K hK => ?_) AllReadyH.nil
            go_simp
            refine (same_any HV2.out.1 HV2.out.2).mono ?_
            rintro e w15 ⟨rfl, hb15⟩
            go_wp2_with fail
            refine hK.out _ _ ?_ (fun hHeld => ?_)
            · exact hHeld.below hb15
            clear hK K
            try simp only [Act.put, List.setIfInBounds_toArray, List.set_cons_zero, List.set_cons_succ]
            clear hb15
            refine wpAnyH_take (i := 21) (oi := ({ dst := some 157, op := Go.Op.unOp Go.UnOp.not 4 (Go.Operand.tmp 156), type := 4, pos := _, after := #[{ on := 20, ground := Go.Ground.data }, { on := 15, ground := Go.Ground.guard }], guard := some (15, false) } : Oper)) (v := ?_) rfl (by kernel_rfl) (by kernel_rfl) (by kernel_rfl) (fun _ _ _ h => h) (Or.inl ⟨by rfl, ?_⟩) (by assumption) ?_
            rotate_left
            · intro W' hSw
              try dsimp only at hSw
              go_simp
              try with_reducible rfl
            try simp only [Act.put, List.setIfInBounds_toArray, List.set_cons_zero, List.set_cons_succ]
            refine wpAnyH_take (i := 22) (oi := ({ dst := some 158, op := Go.Op.pick (Go.Operand.tmp 151) (Go.Operand.const (Go.Value.bool true)) (Go.Operand.tmp 157), type := 4, pos := _, after := #[{ on := 15, ground := Go.Ground.data }, { on := 21, ground := Go.Ground.data }], guard := none } : Oper)) (v := ?_) rfl (by kernel_rfl) (by kernel_rfl) (by kernel_rfl) (fun _ _ _ h => h) (Or.inl ⟨by rfl, ?_⟩) (by assumption) ?_
            rotate_left
            · intro W' hSw
              try dsimp only at hSw
              go_simp
              try with_reducible rfl
            try simp only [Act.put, List.setIfInBounds_toArray, List.set_cons_zero, List.set_cons_succ]
            refine wpAnyH_done (by kernel_rfl) ?_ _
            go_wp2
            go_roundg (n2 - (k + 1))
            case measure => omega
            case rel => exact Lib.hid ⟨k + 1, bq, _, uq, by omega, by go_num, hHeld⟩
          · go_wp2_with fail
            refine HBA.out.mono ?_
            rintro e w5 ⟨rfl, hs5, ho5⟩
            have hal5 := HA1.out.stay HGP.out hs5 ho5
            have hob5 := HOB.out.only ho5 hoB
            have HA := Lib.hid hal5
            have HO := Lib.hid hob5
            have HAX := HA.out.set
            obtain ⟨p0, p1, p2, p3⟩ := HO.out.four
            clear hs5 ho5 hal5 hob5
            have HU := Lib.hid (up_any HA.out.set HNM.out)
            obtain ⟨ru, hru⟩ : ∃ r, upOf (UT l uq) nm = r := ⟨_, rfl⟩
            obtain ⟨ri, hri⟩ : ∃ r, isT (UT l uq) nm = r := ⟨_, rfl⟩
            rw [hru, hri] at HU
            have HRU1 := Lib.hid hru
            have HRI1 := Lib.hid hri
            clear hru hri
            go_wp2_with fail
            refine HU.out.mono ?_
            rintro e wA ⟨rfl, hbA⟩
            have hA := HA.out.below hbA
            have hob := HO.out.below hbA
            have HRU := Lib.hid (rup_any (b := bq) (hA.rs HBK.out) HR.out nm)
            rw [HRU1.out, HRI1.out] at HRU
            unfold rsv at HRU
            obtain ⟨n0, n1, n2'⟩ := hA.cb.three
            obtain ⟨o0, o1, o2, o3⟩ := hob.four
            have HAA := Lib.hid hA
            clear hA hob hbA
            go_wp2_with fail
            refine HRU.out.mono ?_
            rintro e wB ⟨rfl, hbB⟩
            have HC := Lib.hid (HAA.out.below hbB)
            have HOK := Lib.hid (upd_okay HR.out (fun i => (uq)[i]!))
            obtain ⟨pr, hpr⟩ : ∃ pr, prio bq (UT l uq) = pr := ⟨_, rfl⟩
            have HPA := Lib.hid (fun X (h : AL w B M N a n c l bq (.slice va n vc) uq X) => prio_any h.set HOK.out h.bd)
            have HRA := Lib.hid (fun X (h : AL w B M N a n c l bq (.slice va n vc) uq X) => rprio_any (h.rs HBK.out) HR.out h.bd)
            rw [hpr] at HPA
            rw [hpr] at HRA
            clear hpr hbB
            go_wp2
            refine wp_region_held_drew (S := AL w B M N a n c l bq (.slice va n vc) uq) (by kernel_rfl) HC.out.drew (fun hHeld => ?_)
            refine wpAnyH_take (i := 0) (oi := ({ dst := some 136, op := Go.Op.move (Go.Operand.tmp 7), type := 24, pos := _, after := #[], guard := none } : Oper)) (v := ?_) rfl (by kernel_rfl) (by kernel_rfl) (by kernel_rfl) (fun _ _ _ h => h) (Or.inl ⟨by rfl, ?_⟩) (by assumption) ?_
            rotate_left
            · intro W' hSw
              try dsimp only at hSw
              go_simp
              try with_reducible rfl
            try simp only [Act.put, List.setIfInBounds_toArray, List.set_cons_zero, List.set_cons_succ]
            refine wpAnyH_take (i := 2) (oi := ({ dst := some 138, op := Go.Op.load 32 (Go.Operand.tmp 9), type := 32, pos := _, after := #[], guard := none } : Oper)) (v := ?_) rfl (by kernel_rfl) (by kernel_rfl) (by kernel_rfl) (fun _ _ _ h => h) (Or.inl ⟨by rfl, ?_⟩) (by assumption) ?_
            rotate_left
            · intro W' hSw
              try dsimp only at hSw
              obtain ⟨e0, e1, e2⟩ := hSw.cb.three
              go_simp
              try with_reducible rfl
            try simp only [Act.put, List.setIfInBounds_toArray, List.set_cons_zero, List.set_cons_succ]
            refine wpAnyH_ready (rs := [1]) (by kernel_rfl) (by simp) ?_
            refine AllReadyH.cons (o := ({ dst := some 137, op := Go.Op.call { callee := Go.Callee.value (Go.Operand.func 17), args := #[Go.Operand.tmp 136], argTypes := #[24] }, type := 3, pos := _, after := #[{ on := 0, ground := Go.Ground.data }], guard := none } : Oper)) rfl (fun K hK => ?_) AllReadyH.nil
            go_simp
            refine (HPA.out _ hHeld).mono ?_
            rintro e w11 ⟨rfl, hb11⟩
            go_wp2_with fail
            refine hK.out _ _ ?_ (fun hHeld => ?_)
            · exact hHeld.below hb11
            clear hK K
            try simp only [Act.put, List.setIfInBounds_toArray, List.set_cons_zero, List.set_cons_succ]
            clear hb11
            refine wpAnyH_ready (rs := [3]) (by kernel_rfl) (by simp) ?_
            refine AllReadyH.cons (o := ({ dst := some 139, op := Go.Op.call { callee := Go.Callee.value (Go.Operand.func 18), args := #[Go.Operand.tmp 138], argTypes := #[32] }, type := 3, pos := _, after := #[{ on := 2, ground := Go.Ground.data }, { on := 1, ground := Go.Ground.chain }], guard := none } : Oper)) rfl (fun K hK => ?_) AllReadyH.nil
            go_simp
            refine (HRA.out _ hHeld).mono ?_
            rintro e w12 ⟨rfl, hb12⟩
            go_wp2_with fail
            refine hK.out _ _ ?_ (fun hHeld => ?_)
            · exact hHeld.below hb12
            clear hK K
            try simp only [Act.put, List.setIfInBounds_toArray, List.set_cons_zero, List.set_cons_succ]
            clear hb12
            refine wpAnyH_take (i := 4) (oi := ({ dst := some 140, op := Go.Op.binOp Go.BinOp.neq 3 (Go.Operand.tmp 137) (Go.Operand.tmp 139) 3, type := 4, pos := _, after := #[{ on := 1, ground := Go.Ground.data }, { on := 3, ground := Go.Ground.data }], guard := none } : Oper)) (v := ?_) rfl (by kernel_rfl) (by kernel_rfl) (by kernel_rfl) (fun _ _ _ h => h) (Or.inl ⟨by rfl, ?_⟩) (by assumption) ?_
            rotate_left
            · intro W' hSw
              try dsimp only at hSw
              go_simp
              try with_reducible rfl
            try simp only [Act.put, List.setIfInBounds_toArray, List.set_cons_zero, List.set_cons_succ]
            refine wpAnyH_take (i := 5) (oi := ({ dst := some 141, op := Go.Op.move (Go.Operand.tmp 140), type := 4, pos := _, after := #[{ on := 4, ground := Go.Ground.data }, { on := 3, ground := Go.Ground.chain }], guard := none } : Oper)) (v := ?_) rfl (by kernel_rfl) (by kernel_rfl) (by kernel_rfl) (fun _ _ _ h => h) (Or.inl ⟨by rfl, ?_⟩) (by assumption) ?_
            rotate_left
            · intro W' hSw
              try dsimp only at hSw
              go_simp
              try with_reducible rfl
            try simp only [Act.put, List.setIfInBounds_toArray, List.set_cons_zero, List.set_cons_succ]
            refine wpAnyH_take (i := 6) (oi := ({ dst := some 142, op := Go.Op.move (Go.Operand.tmp 19), type := 4, pos := _, after := #[{ on := 5, ground := Go.Ground.guard }], guard := some (5, false) } : Oper)) (v := ?_) rfl (by kernel_rfl) (by kernel_rfl) (by kernel_rfl) (fun _ _ _ h => h) (Or.inl ⟨by rfl, ?_⟩) (by assumption) ?_
            rotate_left
            · intro W' hSw
              try dsimp only at hSw
              go_simp
              try with_reducible rfl
            try simp only [Act.put, List.setIfInBounds_toArray, List.set_cons_zero, List.set_cons_succ]
            refine wpAnyH_take (i := 7) (oi := ({ dst := some 143, op := Go.Op.move (Go.Operand.tmp 21), type := 4, pos := _, after := #[{ on := 5, ground := Go.Ground.guard }], guard := some (5, false) } : Oper)) (v := ?_) rfl (by kernel_rfl) (by kernel_rfl) (by kernel_rfl) (fun _ _ _ h => h) (Or.inl ⟨by rfl, ?_⟩) (by assumption) ?_
            rotate_left
            · intro W' hSw
              try dsimp only at hSw
              go_simp
              try with_reducible rfl
            try simp only [Act.put, List.setIfInBounds_toArray, List.set_cons_zero, List.set_cons_succ]
            refine wpAnyH_take (i := 8) (oi := ({ dst := some 144, op := Go.Op.binOp Go.BinOp.neq 4 (Go.Operand.tmp 142) (Go.Operand.tmp 143) 4, type := 4, pos := _, after := #[{ on := 6, ground := Go.Ground.data }, { on := 7, ground := Go.Ground.data }, { on := 5, ground := Go.Ground.guard }], guard := some (5, false) } : Oper)) (v := ?_) rfl (by kernel_rfl) (by kernel_rfl) (by kernel_rfl) (fun _ _ _ h => h) (Or.inl ⟨by rfl, ?_⟩) (by assumption) ?_
            rotate_left
            · intro W' hSw
              try dsimp only at hSw
              go_simp
              try with_reducible rfl
            try simp only [Act.put, List.setIfInBounds_toArray, List.set_cons_zero, List.set_cons_succ]
            refine wpAnyH_take (i := 9) (oi := ({ dst := some 145, op := Go.Op.pick (Go.Operand.tmp 141) (Go.Operand.const (Go.Value.bool true)) (Go.Operand.tmp 144), type := 4, pos := _, after := #[{ on := 5, ground := Go.Ground.data }, { on := 8, ground := Go.Ground.data }], guard := none } : Oper)) (v := ?_) rfl (by kernel_rfl) (by kernel_rfl) (by kernel_rfl) (fun _ _ _ h => h) (Or.inl ⟨by rfl, ?_⟩) (by assumption) ?_
            rotate_left
            · intro W' hSw
              try dsimp only at hSw
              go_simp
              try with_reducible rfl
            try simp only [Act.put, List.setIfInBounds_toArray, List.set_cons_zero, List.set_cons_succ]
            refine wpAnyH_take (i := 10) (oi := ({ dst := some 146, op := Go.Op.move (Go.Operand.tmp 145), type := 4, pos := _, after := #[{ on := 9, ground := Go.Ground.data }, { on := 5, ground := Go.Ground.chain }], guard := none } : Oper)) (v := ?_) rfl (by kernel_rfl) (by kernel_rfl) (by kernel_rfl) (fun _ _ _ h => h) (Or.inl ⟨by rfl, ?_⟩) (by assumption) ?_
            rotate_left
            · intro W' hSw
              try dsimp only at hSw
              go_simp
              try with_reducible rfl
            try simp only [Act.put, List.setIfInBounds_toArray, List.set_cons_zero, List.set_cons_succ]
            refine wpAnyH_take (i := 11) (oi := ({ dst := some 147, op := Go.Op.move (Go.Operand.tmp 20), type := 4, pos := _, after := #[{ on := 10, ground := Go.Ground.guard }], guard := some (10, false) } : Oper)) (v := ?_) rfl (by kernel_rfl) (by kernel_rfl) (by kernel_rfl) (fun _ _ _ h => h) (Or.inl ⟨by rfl, ?_⟩) (by assumption) ?_
            rotate_left
            · intro W' hSw
              try dsimp only at hSw
              go_simp
              try with_reducible rfl
            try simp only [Act.put, List.setIfInBounds_toArray, List.set_cons_zero, List.set_cons_succ]
            refine wpAnyH_take (i := 12) (oi := ({ dst := some 148, op := Go.Op.move (Go.Operand.tmp 22), type := 4, pos := _, after := #[{ on := 10, ground := Go.Ground.guard }], guard := some (10, false) } : Oper)) (v := ?_) rfl (by kernel_rfl) (by kernel_rfl) (by kernel_rfl) (fun _ _ _ h => h) (Or.inl ⟨by rfl, ?_⟩) (by assumption) ?_
            rotate_left
            · intro W' hSw
              try dsimp only at hSw
              go_simp
              try with_reducible rfl
            try simp only [Act.put, List.setIfInBounds_toArray, List.set_cons_zero, List.set_cons_succ]
            refine wpAnyH_take (i := 13) (oi := ({ dst := some 149, op := Go.Op.binOp Go.BinOp.neq 4 (Go.Operand.tmp 147) (Go.Operand.tmp 148) 4, type := 4, pos := _, after := #[{ on := 11, ground := Go.Ground.data }, { on := 12, ground := Go.Ground.data }, { on := 10, ground := Go.Ground.guard }], guard := some (10, false) } : Oper)) (v := ?_) rfl (by kernel_rfl) (by kernel_rfl) (by kernel_rfl) (fun _ _ _ h => h) (Or.inl ⟨by rfl, ?_⟩) (by assumption) ?_
            rotate_left
            · intro W' hSw
              try dsimp only at hSw
              go_simp
              try with_reducible rfl
            try simp only [Act.put, List.setIfInBounds_toArray, List.set_cons_zero, List.set_cons_succ]
            refine wpAnyH_take (i := 14) (oi := ({ dst := some 150, op := Go.Op.pick (Go.Operand.tmp 146) (Go.Operand.const (Go.Value.bool true)) (Go.Operand.tmp 149), type := 4, pos := _, after := #[{ on := 10, ground := Go.Ground.data }, { on := 13, ground := Go.Ground.data }], guard := none } : Oper)) (v := ?_) rfl (by kernel_rfl) (by kernel_rfl) (by kernel_rfl) (fun _ _ _ h => h) (Or.inl ⟨by rfl, ?_⟩) (by assumption) ?_
            rotate_left
            · intro W' hSw
              try dsimp only at hSw
              go_simp
              try with_reducible rfl
            try simp only [Act.put, List.setIfInBounds_toArray, List.set_cons_zero, List.set_cons_succ]
            refine wpAnyH_take (i := 15) (oi := ({ dst := some 151, op := Go.Op.move (Go.Operand.tmp 150), type := 4, pos := _, after := #[{ on := 14, ground := Go.Ground.data }, { on := 10, ground := Go.Ground.chain }], guard := none } : Oper)) (v := ?_) rfl (by kernel_rfl) (by kernel_rfl) (by kernel_rfl) (fun _ _ _ h => h) (Or.inl ⟨by rfl, ?_⟩) (by assumption) ?_
            rotate_left
            · intro W' hSw
              try dsimp only at hSw
              go_simp
              try with_reducible rfl
            try simp only [Act.put, List.setIfInBounds_toArray, List.set_cons_zero, List.set_cons_succ]
            refine wpAnyH_take (i := 16) (oi := ({ dst := some 152, op := Go.Op.move (Go.Operand.tmp 7), type := 24, pos := _, after := #[{ on := 15, ground := Go.Ground.guard }], guard := some (15, false) } : Oper)) (v := ?_) rfl (by kernel_rfl) (by kernel_rfl) (by kernel_rfl) (fun _ _ _ h => h) (Or.inl ⟨by rfl, ?_⟩) (by assumption) ?_
            rotate_left
            · intro W' hSw
              try dsimp only at hSw
              go_simp
              try with_reducible rfl
            try simp only [Act.put, List.setIfInBounds_toArray, List.set_cons_zero, List.set_cons_succ]
            refine wpAnyH_take (i := 18) (oi := ({ dst := some 154, op := Go.Op.load 32 (Go.Operand.tmp 9), type := 32, pos := _, after := #[{ on := 15, ground := Go.Ground.guard }], guard := some (15, false) } : Oper)) (v := ?_) rfl (by kernel_rfl) (by kernel_rfl) (by kernel_rfl) (fun _ _ _ h => h) (Or.inl ⟨by rfl, ?_⟩) (by assumption) ?_
            rotate_left
            · intro W' hSw
              try dsimp only at hSw
              obtain ⟨e0, e1, e2⟩ := hSw.cb.three
              go_simp
              try with_reducible rfl
            try simp only [Act.put, List.setIfInBounds_toArray, List.set_cons_zero, List.set_cons_succ]
            refine wpAnyH_ready (rs := [17]) (by kernel_rfl) (by simp) ?_
            refine AllReadyH.cons (o := ({ dst := some 153, op := Go.Op.call { callee := Go.Callee.value (Go.Operand.func 20), args := #[Go.Operand.tmp 152], argTypes := #[24] }, type := 48, pos := _, after := #[{ on := 16, ground := Go.Ground.data }, { on := 15, ground := Go.Ground.chain }, { on := 15, ground := Go.Ground.guard }], guard := some (15, false) } : Oper)) rfl (fun K hK => ?_) AllReadyH.nil
            go_simp
            refine (down_any hHeld.set HOK.out).mono ?_
            rintro e w13 ⟨v1, rfl, hr1, hb13⟩
            go_wp2_with fail
            refine hK.out _ _ ?_ (fun hHeld => ?_)
            · exact hHeld.below hb13
            clear hK K
            try simp only [Act.put, List.setIfInBounds_toArray, List.set_cons_zero, List.set_cons_succ]
            have HV1 := Lib.hid hr1
            clear hb13 hr1
            refine wpAnyH_ready (rs := [19]) (by kernel_rfl) (by simp) ?_
            refine AllReadyH.cons (o := ({ dst := some 155, op := Go.Op.call { callee := Go.Callee.value (Go.Operand.func 21), args := #[Go.Operand.tmp 154], argTypes := #[32] }, type := 48, pos := _, after := #[{ on := 18, ground := Go.Ground.data }, { on := 17, ground := Go.Ground.chain }, { on := 15, ground := Go.Ground.guard }], guard := some (15, false) } : Oper)) rfl (fun K hK => ?_) AllReadyH.nil
            go_simp
            refine (rdown_any (hHeld.rs HBK.out) HR.out).mono ?_
            rintro e w14 ⟨v2, rfl, hr2, hb14⟩
            go_wp2_with fail
            refine hK.out _ _ ?_ (fun hHeld => ?_)
            · exact hHeld.below hb14
            clear hK K
            try simp only [Act.put, List.setIfInBounds_toArray, List.set_cons_zero, List.set_cons_succ]
            have HV2 := Lib.hid (And.intro (row_below HV1.out hb14) hr2)
            clear hb14 hr2
            refine wpAnyH_ready (rs := [20]) (by kernel_rfl) (by simp) ?_
            refine AllReadyH.cons (o := ({ dst := some 156, op := Go.Op.call { callee := Go.Callee.value (Go.Operand.func 19), args := #[Go.Operand.tmp 153, Go.Operand.tmp 155], argTypes := #[48, 48] }, type := 4, pos := _, after := #[{ on := 17, ground := Go.Ground.data }, { on := 19, ground := Go.Ground.data }, { on := 19, ground := Go.Ground.chain }, { on := 15, ground := Go.Ground.guard }], guard := some (15, false) } : Oper)) rfl (fun K hK => ?_) AllReadyH.nil
            go_simp
            refine (same_any HV2.out.1 HV2.out.2).mono ?_
            rintro e w15 ⟨rfl, hb15⟩
            go_wp2_with fail
            refine hK.out _ _ ?_ (fun hHeld => ?_)
            · exact hHeld.below hb15
            clear hK K
            try simp only [Act.put, List.setIfInBounds_toArray, List.set_cons_zero, List.set_cons_succ]
            clear hb15
            refine wpAnyH_take (i := 21) (oi := ({ dst := some 157, op := Go.Op.unOp Go.UnOp.not 4 (Go.Operand.tmp 156), type := 4, pos := _, after := #[{ on := 20, ground := Go.Ground.data }, { on := 15, ground := Go.Ground.guard }], guard := some (15, false) } : Oper)) (v := ?_) rfl (by kernel_rfl) (by kernel_rfl) (by kernel_rfl) (fun _ _ _ h => h) (Or.inl ⟨by rfl, ?_⟩) (by assumption) ?_
            rotate_left
            · intro W' hSw
              try dsimp only at hSw
              go_simp
              try with_reducible rfl
            try simp only [Act.put, List.setIfInBounds_toArray, List.set_cons_zero, List.set_cons_succ]
            refine wpAnyH_take (i := 22) (oi := ({ dst := some 158, op := Go.Op.pick (Go.Operand.tmp 151) (Go.Operand.const (Go.Value.bool true)) (Go.Operand.tmp 157), type := 4, pos := _, after := #[{ on := 15, ground := Go.Ground.data }, { on := 21, ground := Go.Ground.data }], guard := none } : Oper)) (v := ?_) rfl (by kernel_rfl) (by kernel_rfl) (by kernel_rfl) (fun _ _ _ h => h) (Or.inl ⟨by rfl, ?_⟩) (by assumption) ?_
            rotate_left
            · intro W' hSw
              try dsimp only at hSw
              go_simp
              try with_reducible rfl
            try simp only [Act.put, List.setIfInBounds_toArray, List.set_cons_zero, List.set_cons_succ]
            refine wpAnyH_done (by kernel_rfl) ?_ _
            go_wp2
            go_roundg (n2 - (k + 1))
            case measure => omega
            case rel => exact Lib.hid ⟨k + 1, bq, _, uq, by omega, by go_num, hHeld⟩
      · have hkb : (kd == 1) = false := by simpa using hkd
        have HT := Lib.hid (rtell_any (b := bq) (ha1.rs HBK.out) HR.out ha1.bd nm u)
        obtain ⟨tc, htc⟩ : ∃ tc, telC bq (UT l uq) nm u = tc := ⟨_, rfl⟩
        obtain ⟨is, his⟩ : ∃ is, isT (UT l uq) nm = is := ⟨_, rfl⟩
        rw [htc, his] at HT
        have HTC := Lib.hid htc
        have HIS := Lib.hid his
        unfold rsv at HT
        obtain ⟨q0, q1, q2⟩ := ha1.cb.three
        clear hal ha1 hob hnm htc his hkd
        go_wp2_with fail
        refine HT.out.mono ?_
        rintro e w5 ⟨v', ups', rfl, hrs, hte, hb5, hloc⟩
        obtain ⟨va', vc', rfl, -, -⟩ := row_any hrs.row
        obtain ⟨w6, hst6, hcb6, hb6⟩ := box32 w5 bq (.slice a n c) (.slice va' n vc') rfl rfl
        have hA6 := (HA1.out.below hb5).below hb6
        obtain ⟨w7, hst7, hcb7, ho7⟩ := store32 hA6.cb rfl bq (.slice a n c) (.slice va' n vc') rfl rfl
        obtain ⟨r0, r1, r2⟩ := hcb6.three
        have hs7 := hA6.set.only ho7 (fun e => HGP.out.nB e.symm) (fun e => HGP.out.nM e.symm)
        have HT2 := Lib.hid (tell_any hs7 (upd_okay HR.out (fun i => uq[i]!)) HA1.out.bd HNM.out u)
        rw [HTC.out, HIS.out] at HT2
        have hob7 := ((HOB.out.below hb5).below hb6).only ho7 hoN
        obtain ⟨y0, y1, y2, y3⟩ := hob7.four
        have HX := Lib.hid (And.intro hrs (And.intro hte (And.intro hb5 (And.intro hloc (And.intro hb6 (And.intro hcb7 ho7))))))
        have HO7 := Lib.hid hob7
        clear hrs hte hb5 hloc hcb6 hb6 hA6 hcb7 ho7 hs7 hob7 q0 q1 q2
        go_wp2_with fail
        refine HT2.out.mono ?_
        rintro e w8 ⟨rfl, hs8, ho8⟩
        have hal8 := HA1.out.told HGP.out HX.out.1 HX.out.2.1 HX.out.2.2.1 HX.out.2.2.2.1 HX.out.2.2.2.2.1 HX.out.2.2.2.2.2.1 HX.out.2.2.2.2.2.2 hs8 ho8
        have HA := Lib.hid hal8
        have HO := Lib.hid (HO7.out.only ho8 hoM)
        obtain ⟨p0, p1, p2, p3⟩ := HO.out.four
        clear hs8 ho8 hal8 r0 r1 r2 y0 y1 y2 y3
        have HU := Lib.hid (up_any HA.out.set HNM.out)
        obtain ⟨ru, hru⟩ : ∃ r, upOf (UT l ups') nm = r := ⟨_, rfl⟩
        obtain ⟨ri, hri⟩ : ∃ r, isT (UT l ups') nm = r := ⟨_, rfl⟩
        rw [hru, hri] at HU
        have HRU1 := Lib.hid hru
        have HRI1 := Lib.hid hri
        clear hru hri
        go_wp2_with fail
        refine HU.out.mono ?_
        rintro e wA ⟨rfl, hbA⟩
        have hA := HA.out.below hbA
        have hob := HO.out.below hbA
        have HRU := Lib.hid (rup_any (b := bq) (hA.rs HBK.out) HR.out nm)
        rw [HRU1.out, HRI1.out] at HRU
        unfold rsv at HRU
        obtain ⟨n0, n1, n2'⟩ := hA.cb.three
        obtain ⟨o0, o1, o2, o3⟩ := hob.four
        have HAA := Lib.hid hA
        clear hA hob hbA
        go_wp2_with fail
        refine HRU.out.mono ?_
        rintro e wB ⟨rfl, hbB⟩
        have HC := Lib.hid (HAA.out.below hbB)
        have HOK := Lib.hid (upd_okay HR.out (fun i => (ups')[i]!))
        obtain ⟨pr, hpr⟩ : ∃ pr, prio bq (UT l ups') = pr := ⟨_, rfl⟩
        have HPA := Lib.hid (fun X (h : AL w B M N a n c l bq (.slice va' n vc') ups' X) => prio_any h.set HOK.out h.bd)
        have HRA := Lib.hid (fun X (h : AL w B M N a n c l bq (.slice va' n vc') ups' X) => rprio_any (h.rs HBK.out) HR.out h.bd)
        rw [hpr] at HPA
        rw [hpr] at HRA
        clear hpr hbB
        go_wp2
        refine wp_region_held_drew (S := AL w B M N a n c l bq (.slice va' n vc') ups') (by kernel_rfl) HC.out.drew (fun hHeld => ?_)
        refine wpAnyH_take (i := 0) (oi := ({ dst := some 136, op := Go.Op.move (Go.Operand.tmp 7), type := 24, pos := _, after := #[], guard := none } : Oper)) (v := ?_) rfl (by kernel_rfl) (by kernel_rfl) (by kernel_rfl) (fun _ _ _ h => h) (Or.inl ⟨by rfl, ?_⟩) (by assumption) ?_
        rotate_left
        · intro W' hSw
          try dsimp only at hSw
          go_simp
          try with_reducible rfl
        try simp only [Act.put, List.setIfInBounds_toArray, List.set_cons_zero, List.set_cons_succ]
        refine wpAnyH_take (i := 2) (oi := ({ dst := some 138, op := Go.Op.load 32 (Go.Operand.tmp 9), type := 32, pos := _, after := #[], guard := none } : Oper)) (v := ?_) rfl (by kernel_rfl) (by kernel_rfl) (by kernel_rfl) (fun _ _ _ h => h) (Or.inl ⟨by rfl, ?_⟩) (by assumption) ?_
        rotate_left
        · intro W' hSw
          try dsimp only at hSw
          obtain ⟨e0, e1, e2⟩ := hSw.cb.three
          go_simp
          try with_reducible rfl
        try simp only [Act.put, List.setIfInBounds_toArray, List.set_cons_zero, List.set_cons_succ]
        refine wpAnyH_ready (rs := [1]) (by kernel_rfl) (by simp) ?_
        refine AllReadyH.cons (o := ({ dst := some 137, op := Go.Op.call { callee := Go.Callee.value (Go.Operand.func 17), args := #[Go.Operand.tmp 136], argTypes := #[24] }, type := 3, pos := _, after := #[{ on := 0, ground := Go.Ground.data }], guard := none } : Oper)) rfl (fun K hK => ?_) AllReadyH.nil
        go_simp
        refine (HPA.out _ hHeld).mono ?_
        rintro e w11 ⟨rfl, hb11⟩
        go_wp2_with fail
        refine hK.out _ _ ?_ (fun hHeld => ?_)
        · exact hHeld.below hb11
        clear hK K
        try simp only [Act.put, List.setIfInBounds_toArray, List.set_cons_zero, List.set_cons_succ]
        clear hb11
        refine wpAnyH_ready (rs := [3]) (by kernel_rfl) (by simp) ?_
        refine AllReadyH.cons (o := ({ dst := some 139, op := Go.Op.call { callee := Go.Callee.value (Go.Operand.func 18), args := #[Go.Operand.tmp 138], argTypes := #[32] }, type := 3, pos := _, after := #[{ on := 2, ground := Go.Ground.data }, { on := 1, ground := Go.Ground.chain }], guard := none } : Oper)) rfl (fun K hK => ?_) AllReadyH.nil
        go_simp
        refine (HRA.out _ hHeld).mono ?_
        rintro e w12 ⟨rfl, hb12⟩
        go_wp2_with fail
        refine hK.out _ _ ?_ (fun hHeld => ?_)
        · exact hHeld.below hb12
        clear hK K
        try simp only [Act.put, List.setIfInBounds_toArray, List.set_cons_zero, List.set_cons_succ]
        clear hb12
        refine wpAnyH_take (i := 4) (oi := ({ dst := some 140, op := Go.Op.binOp Go.BinOp.neq 3 (Go.Operand.tmp 137) (Go.Operand.tmp 139) 3, type := 4, pos := _, after := #[{ on := 1, ground := Go.Ground.data }, { on := 3, ground := Go.Ground.data }], guard := none } : Oper)) (v := ?_) rfl (by kernel_rfl) (by kernel_rfl) (by kernel_rfl) (fun _ _ _ h => h) (Or.inl ⟨by rfl, ?_⟩) (by assumption) ?_
        rotate_left
        · intro W' hSw
          try dsimp only at hSw
          go_simp
          try with_reducible rfl
        try simp only [Act.put, List.setIfInBounds_toArray, List.set_cons_zero, List.set_cons_succ]
        refine wpAnyH_take (i := 5) (oi := ({ dst := some 141, op := Go.Op.move (Go.Operand.tmp 140), type := 4, pos := _, after := #[{ on := 4, ground := Go.Ground.data }, { on := 3, ground := Go.Ground.chain }], guard := none } : Oper)) (v := ?_) rfl (by kernel_rfl) (by kernel_rfl) (by kernel_rfl) (fun _ _ _ h => h) (Or.inl ⟨by rfl, ?_⟩) (by assumption) ?_
        rotate_left
        · intro W' hSw
          try dsimp only at hSw
          go_simp
          try with_reducible rfl
        try simp only [Act.put, List.setIfInBounds_toArray, List.set_cons_zero, List.set_cons_succ]
        refine wpAnyH_take (i := 6) (oi := ({ dst := some 142, op := Go.Op.move (Go.Operand.tmp 19), type := 4, pos := _, after := #[{ on := 5, ground := Go.Ground.guard }], guard := some (5, false) } : Oper)) (v := ?_) rfl (by kernel_rfl) (by kernel_rfl) (by kernel_rfl) (fun _ _ _ h => h) (Or.inl ⟨by rfl, ?_⟩) (by assumption) ?_
        rotate_left
        · intro W' hSw
          try dsimp only at hSw
          go_simp
          try with_reducible rfl
        try simp only [Act.put, List.setIfInBounds_toArray, List.set_cons_zero, List.set_cons_succ]
        refine wpAnyH_take (i := 7) (oi := ({ dst := some 143, op := Go.Op.move (Go.Operand.tmp 21), type := 4, pos := _, after := #[{ on := 5, ground := Go.Ground.guard }], guard := some (5, false) } : Oper)) (v := ?_) rfl (by kernel_rfl) (by kernel_rfl) (by kernel_rfl) (fun _ _ _ h => h) (Or.inl ⟨by rfl, ?_⟩) (by assumption) ?_
        rotate_left
        · intro W' hSw
          try dsimp only at hSw
          go_simp
          try with_reducible rfl
        try simp only [Act.put, List.setIfInBounds_toArray, List.set_cons_zero, List.set_cons_succ]
        refine wpAnyH_take (i := 8) (oi := ({ dst := some 144, op := Go.Op.binOp Go.BinOp.neq 4 (Go.Operand.tmp 142) (Go.Operand.tmp 143) 4, type := 4, pos := _, after := #[{ on := 6, ground := Go.Ground.data }, { on := 7, ground := Go.Ground.data }, { on := 5, ground := Go.Ground.guard }], guard := some (5, false) } : Oper)) (v := ?_) rfl (by kernel_rfl) (by kernel_rfl) (by kernel_rfl) (fun _ _ _ h => h) (Or.inl ⟨by rfl, ?_⟩) (by assumption) ?_
        rotate_left
        · intro W' hSw
          try dsimp only at hSw
          go_simp
          try with_reducible rfl
        try simp only [Act.put, List.setIfInBounds_toArray, List.set_cons_zero, List.set_cons_succ]
        refine wpAnyH_take (i := 9) (oi := ({ dst := some 145, op := Go.Op.pick (Go.Operand.tmp 141) (Go.Operand.const (Go.Value.bool true)) (Go.Operand.tmp 144), type := 4, pos := _, after := #[{ on := 5, ground := Go.Ground.data }, { on := 8, ground := Go.Ground.data }], guard := none } : Oper)) (v := ?_) rfl (by kernel_rfl) (by kernel_rfl) (by kernel_rfl) (fun _ _ _ h => h) (Or.inl ⟨by rfl, ?_⟩) (by assumption) ?_
        rotate_left
        · intro W' hSw
          try dsimp only at hSw
          go_simp
          try with_reducible rfl
        try simp only [Act.put, List.setIfInBounds_toArray, List.set_cons_zero, List.set_cons_succ]
        refine wpAnyH_take (i := 10) (oi := ({ dst := some 146, op := Go.Op.move (Go.Operand.tmp 145), type := 4, pos := _, after := #[{ on := 9, ground := Go.Ground.data }, { on := 5, ground := Go.Ground.chain }], guard := none } : Oper)) (v := ?_) rfl (by kernel_rfl) (by kernel_rfl) (by kernel_rfl) (fun _ _ _ h => h) (Or.inl ⟨by rfl, ?_⟩) (by assumption) ?_
        rotate_left
        · intro W' hSw
          try dsimp only at hSw
          go_simp
          try with_reducible rfl
        try simp only [Act.put, List.setIfInBounds_toArray, List.set_cons_zero, List.set_cons_succ]
        refine wpAnyH_take (i := 11) (oi := ({ dst := some 147, op := Go.Op.move (Go.Operand.tmp 20), type := 4, pos := _, after := #[{ on := 10, ground := Go.Ground.guard }], guard := some (10, false) } : Oper)) (v := ?_) rfl (by kernel_rfl) (by kernel_rfl) (by kernel_rfl) (fun _ _ _ h => h) (Or.inl ⟨by rfl, ?_⟩) (by assumption) ?_
        rotate_left
        · intro W' hSw
          try dsimp only at hSw
          go_simp
          try with_reducible rfl
        try simp only [Act.put, List.setIfInBounds_toArray, List.set_cons_zero, List.set_cons_succ]
        refine wpAnyH_take (i := 12) (oi := ({ dst := some 148, op := Go.Op.move (Go.Operand.tmp 22), type := 4, pos := _, after := #[{ on := 10, ground := Go.Ground.guard }], guard := some (10, false) } : Oper)) (v := ?_) rfl (by kernel_rfl) (by kernel_rfl) (by kernel_rfl) (fun _ _ _ h => h) (Or.inl ⟨by rfl, ?_⟩) (by assumption) ?_
        rotate_left
        · intro W' hSw
          try dsimp only at hSw
          go_simp
          try with_reducible rfl
        try simp only [Act.put, List.setIfInBounds_toArray, List.set_cons_zero, List.set_cons_succ]
        refine wpAnyH_take (i := 13) (oi := ({ dst := some 149, op := Go.Op.binOp Go.BinOp.neq 4 (Go.Operand.tmp 147) (Go.Operand.tmp 148) 4, type := 4, pos := _, after := #[{ on := 11, ground := Go.Ground.data }, { on := 12, ground := Go.Ground.data }, { on := 10, ground := Go.Ground.guard }], guard := some (10, false) } : Oper)) (v := ?_) rfl (by kernel_rfl) (by kernel_rfl) (by kernel_rfl) (fun _ _ _ h => h) (Or.inl ⟨by rfl, ?_⟩) (by assumption) ?_
        rotate_left
        · intro W' hSw
          try dsimp only at hSw
          go_simp
          try with_reducible rfl
        try simp only [Act.put, List.setIfInBounds_toArray, List.set_cons_zero, List.set_cons_succ]
        refine wpAnyH_take (i := 14) (oi := ({ dst := some 150, op := Go.Op.pick (Go.Operand.tmp 146) (Go.Operand.const (Go.Value.bool true)) (Go.Operand.tmp 149), type := 4, pos := _, after := #[{ on := 10, ground := Go.Ground.data }, { on := 13, ground := Go.Ground.data }], guard := none } : Oper)) (v := ?_) rfl (by kernel_rfl) (by kernel_rfl) (by kernel_rfl) (fun _ _ _ h => h) (Or.inl ⟨by rfl, ?_⟩) (by assumption) ?_
        rotate_left
        · intro W' hSw
          try dsimp only at hSw
          go_simp
          try with_reducible rfl
        try simp only [Act.put, List.setIfInBounds_toArray, List.set_cons_zero, List.set_cons_succ]
        refine wpAnyH_take (i := 15) (oi := ({ dst := some 151, op := Go.Op.move (Go.Operand.tmp 150), type := 4, pos := _, after := #[{ on := 14, ground := Go.Ground.data }, { on := 10, ground := Go.Ground.chain }], guard := none } : Oper)) (v := ?_) rfl (by kernel_rfl) (by kernel_rfl) (by kernel_rfl) (fun _ _ _ h => h) (Or.inl ⟨by rfl, ?_⟩) (by assumption) ?_
        rotate_left
        · intro W' hSw
          try dsimp only at hSw
          go_simp
          try with_reducible rfl
        try simp only [Act.put, List.setIfInBounds_toArray, List.set_cons_zero, List.set_cons_succ]
        refine wpAnyH_take (i := 16) (oi := ({ dst := some 152, op := Go.Op.move (Go.Operand.tmp 7), type := 24, pos := _, after := #[{ on := 15, ground := Go.Ground.guard }], guard := some (15, false) } : Oper)) (v := ?_) rfl (by kernel_rfl) (by kernel_rfl) (by kernel_rfl) (fun _ _ _ h => h) (Or.inl ⟨by rfl, ?_⟩) (by assumption) ?_
        rotate_left
        · intro W' hSw
          try dsimp only at hSw
          go_simp
          try with_reducible rfl
        try simp only [Act.put, List.setIfInBounds_toArray, List.set_cons_zero, List.set_cons_succ]
        refine wpAnyH_take (i := 18) (oi := ({ dst := some 154, op := Go.Op.load 32 (Go.Operand.tmp 9), type := 32, pos := _, after := #[{ on := 15, ground := Go.Ground.guard }], guard := some (15, false) } : Oper)) (v := ?_) rfl (by kernel_rfl) (by kernel_rfl) (by kernel_rfl) (fun _ _ _ h => h) (Or.inl ⟨by rfl, ?_⟩) (by assumption) ?_
        rotate_left
        · intro W' hSw
          try dsimp only at hSw
          obtain ⟨e0, e1, e2⟩ := hSw.cb.three
          go_simp
          try with_reducible rfl
        try simp only [Act.put, List.setIfInBounds_toArray, List.set_cons_zero, List.set_cons_succ]
        refine wpAnyH_ready (rs := [17]) (by kernel_rfl) (by simp) ?_
        refine AllReadyH.cons (o := ({ dst := some 153, op := Go.Op.call { callee := Go.Callee.value (Go.Operand.func 20), args := #[Go.Operand.tmp 152], argTypes := #[24] }, type := 48, pos := _, after := #[{ on := 16, ground := Go.Ground.data }, { on := 15, ground := Go.Ground.chain }, { on := 15, ground := Go.Ground.guard }], guard := some (15, false) } : Oper)) rfl (fun K hK => ?_) AllReadyH.nil
        go_simp
        refine (down_any hHeld.set HOK.out).mono ?_
        rintro e w13 ⟨v1, rfl, hr1, hb13⟩
        go_wp2_with fail
        refine hK.out _ _ ?_ (fun hHeld => ?_)
        · exact hHeld.below hb13
        clear hK K
        try simp only [Act.put, List.setIfInBounds_toArray, List.set_cons_zero, List.set_cons_succ]
        have HV1 := Lib.hid hr1
        clear hb13 hr1
        refine wpAnyH_ready (rs := [19]) (by kernel_rfl) (by simp) ?_
        refine AllReadyH.cons (o := ({ dst := some 155, op := Go.Op.call { callee := Go.Callee.value (Go.Operand.func 21), args := #[Go.Operand.tmp 154], argTypes := #[32] }, type := 48, pos := _, after := #[{ on := 18, ground := Go.Ground.data }, { on := 17, ground := Go.Ground.chain }, { on := 15, ground := Go.Ground.guard }], guard := some (15, false) } : Oper)) rfl (fun K hK => ?_) AllReadyH.nil
        go_simp
        refine (rdown_any (hHeld.rs HBK.out) HR.out).mono ?_
        rintro e w14 ⟨v2, rfl, hr2, hb14⟩
        go_wp2_with fail
        refine hK.out _ _ ?_ (fun hHeld => ?_)
        · exact hHeld.below hb14
        clear hK K
        try simp only [Act.put, List.setIfInBounds_toArray, List.set_cons_zero, List.set_cons_succ]
        have HV2 := Lib.hid (And.intro (row_below HV1.out hb14) hr2)
        clear hb14 hr2
        refine wpAnyH_ready (rs := [20]) (by kernel_rfl) (by simp) ?_
        refine AllReadyH.cons (o := ({ dst := some 156, op := Go.Op.call { callee := Go.Callee.value (Go.Operand.func 19), args := #[Go.Operand.tmp 153, Go.Operand.tmp 155], argTypes := #[48, 48] }, type := 4, pos := _, after := #[{ on := 17, ground := Go.Ground.data }, { on := 19, ground := Go.Ground.data }, { on := 19, ground := Go.Ground.chain }, { on := 15, ground := Go.Ground.guard }], guard := some (15, false) } : Oper)) rfl (fun K hK => ?_) AllReadyH.nil
        go_simp
        refine (same_any HV2.out.1 HV2.out.2).mono ?_
        rintro e w15 ⟨rfl, hb15⟩
        go_wp2_with fail
        refine hK.out _ _ ?_ (fun hHeld => ?_)
        · exact hHeld.below hb15
        clear hK K
        try simp only [Act.put, List.setIfInBounds_toArray, List.set_cons_zero, List.set_cons_succ]
        clear hb15
        refine wpAnyH_take (i := 21) (oi := ({ dst := some 157, op := Go.Op.unOp Go.UnOp.not 4 (Go.Operand.tmp 156), type := 4, pos := _, after := #[{ on := 20, ground := Go.Ground.data }, { on := 15, ground := Go.Ground.guard }], guard := some (15, false) } : Oper)) (v := ?_) rfl (by kernel_rfl) (by kernel_rfl) (by kernel_rfl) (fun _ _ _ h => h) (Or.inl ⟨by rfl, ?_⟩) (by assumption) ?_
        rotate_left
        · intro W' hSw
          try dsimp only at hSw
          go_simp
          try with_reducible rfl
        try simp only [Act.put, List.setIfInBounds_toArray, List.set_cons_zero, List.set_cons_succ]
        refine wpAnyH_take (i := 22) (oi := ({ dst := some 158, op := Go.Op.pick (Go.Operand.tmp 151) (Go.Operand.const (Go.Value.bool true)) (Go.Operand.tmp 157), type := 4, pos := _, after := #[{ on := 15, ground := Go.Ground.data }, { on := 21, ground := Go.Ground.data }], guard := none } : Oper)) (v := ?_) rfl (by kernel_rfl) (by kernel_rfl) (by kernel_rfl) (fun _ _ _ h => h) (Or.inl ⟨by rfl, ?_⟩) (by assumption) ?_
        rotate_left
        · intro W' hSw
          try dsimp only at hSw
          go_simp
          try with_reducible rfl
        try simp only [Act.put, List.setIfInBounds_toArray, List.set_cons_zero, List.set_cons_succ]
        refine wpAnyH_done (by kernel_rfl) ?_ _
        go_wp2
        go_roundg (n2 - (k + 1))
        case measure => omega
        case rel => exact Lib.hid ⟨k + 1, bq, _, ups', by omega, by go_num, hHeld⟩
    · have hkz : ¬ (k : Int) < (n2 : Int) := by omega
      have HB := Lib.hid hal.bel
      clear hal
      go_wp2_with (go_at_call 11; refine (HAL.out _).mono ?_; rintro e w9 ⟨rfl, hb9⟩; have HB9 := Lib.hid hb9; clear hb9)
      go_ret
      exact ⟨rfl, HB.out.trans (HB9.out.mono HB.out.size)⟩
end Go.Proofs.Ytbeacddclphjgaa
