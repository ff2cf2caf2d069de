/-
  What the function of HealthBoards does, whatever rule, number and script it is given.
-/
import Derived.Test.YtkcndgiiangmjaaBy
namespace Go.Proofs.Ytkcndgiiangmjaa
open Go.RowKit Go.Maps
set_option linter.unusedVariables false
set_option linter.unusedSimpArgs false
set_option maxRecDepth 10000
attribute [local go_sem ↓] bigS48

def ByRel (w : World) (N B : Nat) (r : Ru) (n m gg : Nat) (s65 : Value) (wr : World) : Prop :=
  ∃ j : Nat, j + gg = m ∧ s65 = .int .i64 (j : Int) ∧ ∃ F b vp vt, By w N B r n F b vp vt wr

set_option maxHeartbeats 8000000 in
theorem boards_walk (r : Ru) (m : Int) (a : Option Addr) (n c : Nat) (l : List Opr) (w : World) (hmw : (Lit.int .i64 m).wf = true) (hS : Scr w a n c l) :
    Calls Try.prog 4 #[ruv r, .int .i64 m, .slice a n c] w fun e w' => e = .returned (.bool true) ∧ Below w.heap.size w w' := by
  clear hmw
  have HS := Lib.hid hS
  have HAL := Lib.hid (fun w => alive_any w)
  have hb0 : Below w.heap.size w (w.alloc (.cells #[.int .i64 r.rise, .int .i64 r.fall, .int .i64 r.every] 23)) := below_alloc (Below.refl _ _) _
  have HCB0 := Lib.hid (Cb.new3 w (.int .i64 r.rise) (.int .i64 r.fall) (.int .i64 r.every) 23)
  have hlay := hlay_any (w.alloc (.cells #[.int .i64 r.rise, .int .i64 r.fall, .int .i64 r.every] 23)) r m
  have HB0 := Lib.hid hb0
  unfold ruv at hlay ⊢
  have HLAY := Lib.hid hlay
  have hnc := hS.2.1
  clear hlay hb0 hS
  by_cases hok : (okR r && inn m 16) = true
  · have HOK := Lib.hid hok
    have hok2 := hok
    rw [Bool.and_eq_true] at hok2
    have HOR := Lib.hid hok2.1
    have hm2 := of_decide_eq_true hok2.2
    obtain ⟨nb, rfl⟩ := Int.eq_ofNat_of_zero_le (show 0 ≤ m by omega)
    have hn16 : nb ≤ 16 := by omega
    have hrl := rlay_yes hok
    unfold ruv rbv at hrl
    have HRL := Lib.hid hrl
    clear hok hok2 hrl
    by_cases hbig : n > 500
    · have hbz : (n : Int) > 500 := by omega
      go_enter Try.func4, Try.ntmps4
      go_wp2_with fail
      refine HLAY.out.mono ?_
      rintro e w1 ⟨hbw, ⟨-, B, F, rfl, hBd, hF⟩ | ⟨h, -⟩⟩
      rotate_left
      · rw [HOK.out] at h; cases h
      have HB1 := Lib.hid (HB0.out.trans (hbw.mono HB0.out.size))
      obtain ⟨c0, c1, c2⟩ := (HCB0.out.below hbw).three
      clear hbw hBd hF
      go_wp2_with (first
        | (go_at_call 17; refine (HRL.out _).mono ?_; rintro e w2 ⟨vp, vt, rfl, hp2, ht2, hb2⟩; obtain ⟨ap, cp, rfl, -, -⟩ := row_any hp2; obtain ⟨at2, ct, rfl, -, -⟩ := row_any ht2; obtain ⟨w3, hst3, hcb3, hb3⟩ := box48 w2 r.rise r.fall r.every 0 (.slice ap nb cp) (.slice at2 (laidB nb).s.l.length ct) rfl rfl; have HB2 := Lib.hid hb2; have HB3 := Lib.hid hb3; clear hp2 ht2 hb2 hcb3 hb3)
        | (go_at_call 11; refine (HAL.out _).mono ?_; rintro e w4 ⟨rfl, hb4⟩; have HB4 := Lib.hid hb4; clear hb4))
      go_ret
      have b2 := HB1.out.trans (HB2.out.mono HB1.out.size)
      have b3 := b2.trans (HB3.out.mono b2.size)
      exact ⟨rfl, b3.trans (HB4.out.mono b3.size)⟩
    · have hbz : ¬ ((n : Int) > 500) := by omega
      go_enter Try.func4, Try.ntmps4
      go_wp2_with fail
      refine HLAY.out.mono ?_
      rintro e w1 ⟨hbw, ⟨-, B, F, rfl, hBd, hF⟩ | ⟨h, -⟩⟩
      rotate_left
      · rw [HOK.out] at h; cases h
      have HB1 := Lib.hid (HB0.out.trans (hbw.mono HB0.out.size))
      have HBD := Lib.hid hBd
      have HF : Hid (∀ i, F i → w.heap.size ≤ i) := Lib.hid fun i hi => by have := hF i hi; simp at this; omega
      obtain ⟨c0, c1, c2⟩ := (HCB0.out.below hbw).three
      clear hbw hBd hF HLAY HB0 HCB0
      go_wp2_with (go_at_call 17; refine (HRL.out _).mono ?_; rintro e w2 ⟨vp, vt, rfl, hp2, ht2, hb2⟩; obtain ⟨ap, cp, rfl, -, -⟩ := row_any hp2; obtain ⟨at2, ct, rfl, -, -⟩ := row_any ht2; obtain ⟨w3, hst3, hcb3, hb3⟩ := box48 w2 r.rise r.fall r.every 0 (.slice ap nb cp) (.slice at2 (laidB nb).s.l.length ct) rfl rfl; have HX2 := Lib.hid (And.intro hp2 (And.intro ht2 (And.intro hb2 (And.intro hcb3 hb3)))); clear hp2 ht2 hb2 hcb3 hb3)
      obtain ⟨N, hN⟩ : ∃ N, w2.heap.size = N := ⟨_, rfl⟩
      have HST : Hid (By w N B r nb F (laidB nb) (.slice ap nb cp) (.slice at2 (laidB nb).s.l.length ct) w3) := Lib.hid (by
        obtain ⟨hp2, ht2, hb2, hcb3, hb3⟩ := HX2.out
        have hFl := HBD.out.lt
        have hs2 := hb2.size
        have b2 := HB1.out.trans (hb2.mono HB1.out.size)
        rw [hN] at hcb3
        refine ⟨(HBD.out.below hb2).below hb3, laidB_ok HOR.out hn16, fun i hi => ⟨HF.out i hi, by have := hFl i hi; omega⟩, b2.trans (hb3.mono b2.size), hcb3, row_below (row_base hp2 (Nat.zero_le _)) hb3, row_below (row_base ht2 (Nat.zero_le _)) hb3, fun g hg => ?_, fun g hg => ?_, by have := b2.size; omega⟩
        · have h1 := hp2.lt g hg
          exact ⟨fun hf => by have := hFl g hf; omega, by omega⟩
        · have h1 := ht2.lt g hg
          exact ⟨fun hf => by have := hFl g hf; omega, by omega⟩)
      rw [hN]
      clear HX2 HBD HF HB1 HRL hst3 c0 c1 c2 hN
      go_loopg [65] n (fun gg s65 wr => Hid (ByRel w N B r nb n gg s65 wr))
      case atStart => exact Lib.hid ⟨0, by omega, rfl, F, laidB nb, _, _, HST.out⟩
      case round =>
        obtain ⟨j, hj, rfl, F1, b, vp, vt, hP⟩ := hrel.out
        clear hrel HST
        by_cases hjn : j < n
        · have hjz : (j : Int) < (n : Int) := by omega
          obtain ⟨bb, off, rfl, hbb, d0, d1, d2⟩ := (HS.out.below hP.bl).at hjn
          generalize l[j]! = o at d0 d1 d2
          obtain ⟨kd, x, good⟩ := o
          simp only at d0 d1 d2
          obtain ⟨av, cv, rfl, -, -⟩ := row_any hP.pr
          obtain ⟨at1, ct1, rfl, -, -⟩ := row_any hP.tr
          obtain ⟨q0, q1, q2, q3, q4, q5⟩ := hP.cb.six
          have hlN := hP.cb.lt
          have hba := below_alloc (Below.refl wr.heap.size wr) (.cells #[.int .i64 kd, .int .i64 x, .bool good] 52)
          have hop := Cb.new3 wr (.int .i64 kd) (.int .i64 x) (.bool good) 52
          have hPa := hP.below hba
          have HP := Lib.hid hP
          have HPA := Lib.hid hPa
          have HOPB := Lib.hid hop
          have HBA := Lib.hid hba
          clear hP hba hop hPa
          by_cases hk0 : kd = 0
          · have hkb : (kd == 0) = true := by simp [hk0]
            have hln := HPA.out.ok.len
            obtain ⟨m1, hm1⟩ : ∃ m1, b.s.l.length = m1 := ⟨_, rfl⟩
            obtain ⟨nw0, hnw0⟩ : ∃ nw, b.s.now = nw := ⟨_, rfl⟩
            have hto := rtellone_any (w := wr.alloc (.cells #[.int .i64 kd, .int .i64 x, .bool good] 52)) (now := nw0) (m2 := m1) (c2 := ct1) (a2 := at1) (by rw [hln]; exact HPA.out.pr) HOR.out HPA.out.ok x good
            rw [hln] at hto
            unfold rbv at hto
            have HTO := Lib.hid hto
            obtain ⟨tc, htc⟩ : ∃ tc, tellBC r b x good = tc := ⟨_, rfl⟩
            obtain ⟨ib, hib⟩ : ∃ ib, isB b x = ib := ⟨_, rfl⟩
            have HTP := Lib.hid (fun (X : World) (h : Bd X F1 B r b) => btell_any h HOR.out HPA.out.ok x good)
            rw [htc, hib] at HTO HTP
            rw [hnw0] at q4
            rw [hm1] at q5
            have HM1 := Lib.hid (And.intro hm1 hnw0)
            have z1 : (tc != tc) = false := by simp
            have z2 : (ib != ib) = false := by simp
            have hl1 : wr.heap.size < wr.heap.size + 1 := by omega
            clear hto hln htc hib hm1 hnw0
            subst hk0
            go_upto_region 22 with (first
              | (go_at_call 18; refine HTO.out.mono ?_; rintro e w2 ⟨vp2, rfl, hp2, hb2, hn2⟩; obtain ⟨a2, c2, rfl, -, -⟩ := row_any hp2; obtain ⟨w3, hst3, hcb3, hb3⟩ := box48 w2 r.rise r.fall r.every nw0 (.slice a2 nb c2) (.slice at1 m1 ct1) rfl rfl; have hcN3 := (HPA.out.cb.below hb2).below hb3; rw [HM1.out.1, HM1.out.2] at hcN3; obtain ⟨w4, hst4, hcb4, ho4⟩ := store48 hcN3 rfl r.rise r.fall r.every nw0 (.slice a2 nb c2) (.slice at1 m1 ct1) rfl rfl; obtain ⟨u0, u1, u2, u3, u4, u5⟩ := hcb3.six; have hl3 := hcb3.lt; have hb23 := HBA.out.trans ((hb2.trans (hb3.mono hb2.size)).mono HBA.out.size); obtain ⟨k0, k1, k2⟩ := (((HOPB.out.below hb2).below hb3).only ho4 (by show ¬ wr.heap.size = N; omega)).three; have hl4 := ((((HOPB.out.below hb2).below hb3).only ho4 (by show ¬ wr.heap.size = N; omega))).lt; have hes := tellB_s r b x good; have HMID : Hid (Mid w N B r nb F1 b (tellB r b x good) (.slice a2 nb c2) (.slice at1 m1 ct1) w4) := (Lib.hid (by_mid HP.out hb23 (row_below hp2 hb3) (by rw [hes]; have h := row_below HP.out.tr hb23; rw [HM1.out.1] at h ⊢; exact h) (fun g hg => by rcases hn2 g hg with h | h; exact .inl h; right; simp at h; omega) (fun g hg => .inl (by rw [HM1.out.1]; exact hg)) (by rw [hes, HM1.out.2]; exact hcb4) ho4)); have HT4 := Lib.hid (HTP.out w4 HMID.out.bd); clear hp2 hb2 hn2 hcb3 hb3 hcN3 hcb4 ho4 hb23 hes)
              | (go_at_call 19; refine HT4.out.mono ?_; rintro e w5 ⟨rfl, hbd5, ho5⟩; have HBY0 := Lib.hid (mid_end HMID.out hbd5 (HPA.out.ok.tell HOR.out x good) (fun i hi => .inl hi) ho5); clear hbd5 ho5))
            obtain ⟨b5, hb5⟩ : ∃ b5, tellB r b x good = b5 := ⟨_, rfl⟩
            obtain ⟨W5, hW5⟩ : ∃ X, w5 = X := ⟨_, rfl⟩
            rw [hW5]
            have HBY : Hid (By w N B r nb F1 b5 (.slice a2 nb c2) (.slice at1 m1 ct1) W5) := Lib.hid (by rw [← hb5, ← hW5]; exact HBY0.out)
            clear hb5 hW5 HBY0 HT4 HMID HTO HTP HPA HOPB HBA HP HM1 q0 q1 q2 q3 q4 q5 u0 u1 u2 u3 u4 u5 k0 k1 k2 hl3 hl4 hst3 hst4
            obtain ⟨nw, hnw⟩ : ∃ nw, b5.s.now = nw := ⟨_, rfl⟩
            have hcb5 := HBY.out.cb
            rw [hnw] at hcb5
            obtain ⟨U, hU⟩ : ∃ U, ups b5.ps = U := ⟨_, rfl⟩
            have hUl : U.length = nb := by rw [← hU]; simp [ups, HBY.out.ok.len]
            have hdU : decide (U = U) = true := by simp
            have HBU : Hid (∀ X, Bd X F1 B r b5 → Calls Try.prog 24 #[.pointer (some ⟨B, 0, none⟩)] X fun e w' => ∃ v, e = .returned v ∧ w'.ownsRow X.heap.size 4 1 v nb (bcells U) ∧ Below X.heap.size X w') := Lib.hid (fun X h => by
              have h1 := bup_any h (by rw [HBY.out.ok.len]; omega)
              rw [HBY.out.ok.len, hU] at h1
              exact h1)
            have HRU : Hid (∀ X, X.ownsRow 0 33 2 (.slice a2 nb c2) nb (pcells b5.ps) → Calls Try.prog 25 #[.agg #[.int .i64 r.rise, .int .i64 r.fall, .int .i64 r.every, .slice a2 nb c2, .int .i64 (nw : Int), .slice at1 m1 ct1]] X fun e w' => ∃ v, e = .returned v ∧ w'.ownsRow X.heap.size 4 1 v nb (bcells U) ∧ Below X.heap.size X w') := Lib.hid (fun X h => by
              have h1 := rup_any (w := X) (r := r) (ps := b5.ps) (vt := .slice at1 m1 ct1) (now := nw) (by rw [HBY.out.ok.len]; exact h) (by rw [HBY.out.ok.len]; omega)
              rw [HBY.out.ok.len, hU] at h1
              exact h1)
            have HSU : Hid (∀ X b1 b2 v u, World.ownsRow X b1 4 1 v nb (bcells U) → World.ownsRow X b2 4 1 u nb (bcells U) → Calls Try.prog 23 #[v, u] X fun e w' => e = .returned (.bool true) ∧ ∃ q, w' = X.drewN q) := Lib.hid (fun X b1 b2 v u h1 h2 => by
              have h := sameup_any (w := X) (xs := U) (ys := U) (by rw [hUl]; exact h1) (by rw [hUl]; exact h2) (by omega)
              rw [hdU] at h
              exact h)
            have HC5 := Lib.hid hcb5.drew
            have HBD5 : Hid (Bd W5.drew F1 B r b5) := Lib.hid (HBY.out.bd.below (below_drew (Below.refl _ _)))
            have HPR5 : Hid (W5.drew.ownsRow 0 33 2 (.slice a2 nb c2) nb (pcells b5.ps)) := Lib.hid HBY.out.pr
            clear hcb5 hnw hU hUl hdU
            refine wp_region_held_drew (S := fun X => Cb X N 48 [.int .i64 r.rise, .int .i64 r.fall, .int .i64 r.every, .slice a2 nb c2, .int .i64 (nw : Int), .slice at1 m1 ct1]) (by kernel_rfl) HC5.out (fun hHeld => ?_)
            refine wpAnyH_take (i := 0) (oi := ({ dst := some 118, op := Go.Op.move (Go.Operand.tmp 7), type := 40, pos := _, after := #[], guard := none } : Oper)) (v := ?_) rfl (by kernel_rfl) (by kernel_rfl) (by kernel_rfl) (fun _ _ _ h => h) (Or.inl ⟨by rfl, ?_⟩) (by assumption) ?_
            rotate_left
            · intro W' hSw
              try dsimp only at hSw
              go_simp
              try with_reducible rfl
            try simp only [Act.put, List.setIfInBounds_toArray, List.set_cons_zero, List.set_cons_succ]
            refine wpAnyH_take (i := 2) (oi := ({ dst := some 120, op := Go.Op.load 48 (Go.Operand.tmp 9), type := 48, pos := _, after := #[], guard := none } : Oper)) (v := ?_) rfl (by kernel_rfl) (by kernel_rfl) (by kernel_rfl) (fun _ _ _ h => h) (Or.inl ⟨by rfl, ?_⟩) (by assumption) ?_
            rotate_left
            · intro W' hSw
              try dsimp only at hSw
              obtain ⟨y0, y1, y2, y3, y4, y5⟩ := hSw.six
              go_simp
              try with_reducible rfl
            try simp only [Act.put, List.setIfInBounds_toArray, List.set_cons_zero, List.set_cons_succ]
            refine wpAnyH_ready (rs := [1]) (by kernel_rfl) (by simp) ?_
            refine AllReadyH.cons (o := ({ dst := some 119, op := Go.Op.call { callee := Go.Callee.value (Go.Operand.func 24), args := #[Go.Operand.tmp 118], argTypes := #[40] }, type := 24, pos := _, after := #[{ on := 0, ground := Go.Ground.data }], guard := none } : Oper)) rfl (fun K hK => ?_) AllReadyH.nil
            go_simp
            refine (HBU.out _ HBD5.out).mono ?_
            rintro e w6 ⟨v6, rfl, hr6, hb6⟩
            obtain ⟨a6, c6, rfl, -, -⟩ := row_any hr6
            go_wp2_with fail
            refine hK.out _ _ ?_ (fun hHeld => ?_)
            · exact hHeld.below hb6
            clear hK K
            try simp only [Act.put, List.setIfInBounds_toArray, List.set_cons_zero, List.set_cons_succ]
            have HQ6 := Lib.hid hr6
            have HPR6 := Lib.hid (row_below HPR5.out hb6)
            have HB6 := Lib.hid hb6
            clear hr6 hb6
            refine wpAnyH_ready (rs := [3]) (by kernel_rfl) (by simp) ?_
            refine AllReadyH.cons (o := ({ dst := some 121, op := Go.Op.call { callee := Go.Callee.value (Go.Operand.func 25), args := #[Go.Operand.tmp 120], argTypes := #[48] }, type := 24, pos := _, after := #[{ on := 2, ground := Go.Ground.data }, { on := 1, ground := Go.Ground.chain }], guard := none } : Oper)) rfl (fun K hK => ?_) AllReadyH.nil
            go_simp
            refine (HRU.out _ HPR6.out).mono ?_
            rintro e w7 ⟨v7, rfl, hr7, hb7⟩
            obtain ⟨a7, c7, rfl, -, -⟩ := row_any hr7
            go_wp2_with fail
            refine hK.out _ _ ?_ (fun hHeld => ?_)
            · exact hHeld.below hb7
            clear hK K
            try simp only [Act.put, List.setIfInBounds_toArray, List.set_cons_zero, List.set_cons_succ]
            have HS7 := Lib.hid (HSU.out _ _ _ _ _ (row_below HQ6.out hb7) hr7)
            have HB7 := Lib.hid hb7
            clear hr7 hb7
            refine wpAnyH_ready (rs := [4]) (by kernel_rfl) (by simp) ?_
            refine AllReadyH.cons (o := ({ dst := some 122, op := Go.Op.call { callee := Go.Callee.value (Go.Operand.func 23), args := #[Go.Operand.tmp 119, Go.Operand.tmp 121], argTypes := #[24, 24] }, type := 4, pos := _, after := #[{ on := 1, ground := Go.Ground.data }, { on := 3, ground := Go.Ground.data }, { on := 3, ground := Go.Ground.chain }], guard := none } : Oper)) rfl (fun K hK => ?_) AllReadyH.nil
            go_simp
            refine HS7.out.mono ?_
            rintro e w8 ⟨rfl, q8, rfl⟩
            go_wp2_with fail
            refine hK.out _ _ ?_ (fun hHeld => ?_)
            · exact hHeld.drewN q8
            clear hK K
            try simp only [Act.put, List.setIfInBounds_toArray, List.set_cons_zero, List.set_cons_succ]
            refine wpAnyH_take (i := 5) (oi := ({ dst := some 123, op := Go.Op.unOp Go.UnOp.not 4 (Go.Operand.tmp 122), type := 4, pos := _, after := #[{ on := 4, ground := Go.Ground.data }], guard := none } : Oper)) (v := ?_) rfl (by kernel_rfl) (by kernel_rfl) (by kernel_rfl) (fun _ _ _ h => h) (Or.inl ⟨by rfl, ?_⟩) (by assumption) ?_
            rotate_left
            · intro W' hSw
              try dsimp only at hSw
              go_simp
              try with_reducible rfl
            try simp only [Act.put, List.setIfInBounds_toArray, List.set_cons_zero, List.set_cons_succ]
            refine wpAnyH_done (by kernel_rfl) ?_ _
            go_wp2
            go_roundg (n - (j + 1))
            case measure => omega
            case rel => exact Lib.hid ⟨j + 1, by omega, by go_num, F1, b5, _, _, HBY.out.below (below_drewN (Below.trans (b := W5.drew) (below_drew (Below.refl _ _)) (HB6.out.trans (HB7.out.mono HB6.out.size))) q8)⟩
          · by_cases hk1 : kd = 1
            · have hkb : (kd == 1) = true := by simp [hk1]
              have hkb0 : (kd == 0) = false := beq_eq_false_iff_ne.2 hk0
              obtain ⟨m1, hm1⟩ : ∃ m1, b.s.l.length = m1 := ⟨_, rfl⟩
              obtain ⟨nw0, hnw0⟩ : ∃ nw, b.s.now = nw := ⟨_, rfl⟩
              have hmb := rmoveb_any (w := wr.alloc (.cells #[.int .i64 kd, .int .i64 x, .bool good] 52)) (r := r) (s := b.s) (m1 := nb) (c1 := cv) (a1 := av) HPA.out.tr HOR.out HPA.out.ok.s x
              unfold rbv at hmb
              have HMP := Lib.hid (fun (X : World) (h : Bd X F1 B r b) => bmove_any h HOR.out HPA.out.ok x)
              obtain ⟨s5, hs5⟩ : ∃ s5, bmS r b.s x = s5 := ⟨_, rfl⟩
              have HOK5 : Hid (OkB r ⟨b.ps, s5⟩ nb) := Lib.hid (by rw [← hs5]; exact HPA.out.ok.move x)
              obtain ⟨D, hD⟩ : ∃ D, bmD b.s x = D := ⟨_, rfl⟩
              have hDl : D.length ≤ 100000 := by rw [← hD]; exact Nat.le_trans (bmD_le HPA.out.ok x) (by omega)
              rw [hs5, hD] at hmb HMP
              rw [hm1, hnw0] at hmb
              have HMB := Lib.hid hmb
              rw [hnw0] at q4
              rw [hm1] at q5
              have HM1 := Lib.hid (And.intro hm1 hnw0)
              have hl1 : wr.heap.size < wr.heap.size + 1 := by omega
              have HDD := Lib.hid (And.intro hDl hDl)
              clear hmb hm1 hnw0 hs5 hD hDl
              obtain ⟨dl, hdl⟩ : ∃ dl, D.length = dl := ⟨_, rfl⟩
              have HDL := Lib.hid hdl
              rw [hdl] at HMB HMP
              clear hdl
              subst hk1
              go_upto_region 22 with (first
                | (go_at_call 20; refine HMB.out.mono ?_; rintro e w2 ⟨vt2, u2, rfl, ht2, hu2, hb2, hn2⟩; obtain ⟨a2, c2, rfl, -, -⟩ := row_any ht2; obtain ⟨au, cu, rfl, -, -⟩ := row_any hu2; obtain ⟨w3, hst3, hcb3, hb3⟩ := box48 w2 r.rise r.fall r.every s5.now (.slice av nb cv) (.slice a2 s5.l.length c2) rfl rfl; have hcN3 := (HPA.out.cb.below hb2).below hb3; obtain ⟨w4, hst4, hcb4, ho4⟩ := store48 hcN3 rfl r.rise r.fall r.every s5.now (.slice av nb cv) (.slice a2 s5.l.length c2) rfl rfl; obtain ⟨u0, u1, u2', u3, u4, u5⟩ := hcb3.six; have hl3 := hcb3.lt; have hb23 := HBA.out.trans ((hb2.trans (hb3.mono hb2.size)).mono HBA.out.size); obtain ⟨k0, k1, k2⟩ := (((HOPB.out.below hb2).below hb3).only ho4 (by show ¬ wr.heap.size = N; omega)).three; have hl4 := ((((HOPB.out.below hb2).below hb3).only ho4 (by show ¬ wr.heap.size = N; omega))).lt; have HMID : Hid (Mid w N B r nb F1 b ⟨b.ps, s5⟩ (.slice av nb cv) (.slice a2 s5.l.length c2) w4) := (Lib.hid (by_mid HP.out hb23 (row_below HP.out.pr hb23) (row_below ht2 hb3) (fun g hg => .inl hg) (fun g hg => by rcases hn2 g hg with h | h; exact .inl (by rw [HM1.out.1]; exact h); right; simp at h; omega) hcb4 ho4)); have HU4 := Lib.hid (row_only (row_below hu2 hb3) ho4 (fun g hg e => by have h1 := (hu2.lt g hg).1; simp at h1; have h2 : g = N := e; omega)); have HUL := Lib.hid (fun g hg => (hu2.lt g hg).1); have HM4 := Lib.hid (HMP.out w4 HMID.out.bd); clear ht2 hu2 hb2 hn2 hcb3 hb3 hcN3 hcb4 ho4 hb23)
                | (go_at_call 22; refine HM4.out.mono ?_; rintro e w5 ⟨v5, F5, rfl, hr5, hv5, hbd5, hF5, ho5⟩; obtain ⟨a5, c5, rfl, -, -⟩ := row_any hr5; have HBY0 := Lib.hid (mid_end HMID.out hbd5 HOK5.out hF5 ho5); have hu5 := row_only HU4.out ho5 (fun g hg hf => by have h1 := HUL.out g hg; have h2 := HP.out.bd.lt g hf; simp at h1; omega); have hsm := same_any (w := w5) (xs := D) (ys := D) (by rw [HDL.out]; exact hr5) (by rw [HDL.out]; exact hu5) HDD.out.1; rw [show decide (D = D) = true from decide_eq_true rfl] at hsm; have HSM := Lib.hid hsm; clear hr5 hv5 hbd5 hF5 ho5 hu5 hsm)
                | (go_at_call 21; refine HSM.out.mono ?_; rintro e w6 ⟨rfl, q, rfl⟩))
              obtain ⟨b5, hb5⟩ : ∃ b5, (⟨b.ps, s5⟩ : Bo) = b5 := ⟨_, rfl⟩
              obtain ⟨m5, hm5⟩ : ∃ m5, s5.l.length = m5 := ⟨_, rfl⟩
              obtain ⟨W5, hW5⟩ : ∃ X, w5.drewN q = X := ⟨_, rfl⟩
              rw [hW5]
              have HBY : Hid (By w N B r nb F5 b5 (.slice av nb cv) (.slice a2 m5 c2) W5) := Lib.hid (by rw [← hb5, ← hW5, ← hm5]; exact HBY0.out.below (below_drewN (Below.refl _ _) q))
              clear hb5 hW5 HBY0 HMID HMB HMP HM4 HPA HOPB HBA HP HM1 HU4 HUL HSM HOK5 HDD HDL hm5 q0 q1 q2 q3 q4 q5 u0 u1 u2' u3 u4 u5 k0 k1 k2 hl3 hl4 hst3 hst4
              obtain ⟨nw, hnw⟩ : ∃ nw, b5.s.now = nw := ⟨_, rfl⟩
              have hcb5 := HBY.out.cb
              rw [hnw] at hcb5
              obtain ⟨U, hU⟩ : ∃ U, ups b5.ps = U := ⟨_, rfl⟩
              have hUl : U.length = nb := by rw [← hU]; simp [ups, HBY.out.ok.len]
              have hdU : decide (U = U) = true := by simp
              have HBU : Hid (∀ X, Bd X F5 B r b5 → Calls Try.prog 24 #[.pointer (some ⟨B, 0, none⟩)] X fun e w' => ∃ v, e = .returned v ∧ w'.ownsRow X.heap.size 4 1 v nb (bcells U) ∧ Below X.heap.size X w') := Lib.hid (fun X h => by
                have h1 := bup_any h (by rw [HBY.out.ok.len]; omega)
                rw [HBY.out.ok.len, hU] at h1
                exact h1)
              have HRU : Hid (∀ X, X.ownsRow 0 33 2 (.slice av nb cv) nb (pcells b5.ps) → Calls Try.prog 25 #[.agg #[.int .i64 r.rise, .int .i64 r.fall, .int .i64 r.every, .slice av nb cv, .int .i64 (nw : Int), .slice a2 m5 c2]] X fun e w' => ∃ v, e = .returned v ∧ w'.ownsRow X.heap.size 4 1 v nb (bcells U) ∧ Below X.heap.size X w') := Lib.hid (fun X h => by
                have h1 := rup_any (w := X) (r := r) (ps := b5.ps) (vt := .slice a2 m5 c2) (now := nw) (by rw [HBY.out.ok.len]; exact h) (by rw [HBY.out.ok.len]; omega)
                rw [HBY.out.ok.len, hU] at h1
                exact h1)
              have HSU : Hid (∀ X b1 b2 v u, World.ownsRow X b1 4 1 v nb (bcells U) → World.ownsRow X b2 4 1 u nb (bcells U) → Calls Try.prog 23 #[v, u] X fun e w' => e = .returned (.bool true) ∧ ∃ q, w' = X.drewN q) := Lib.hid (fun X b1 b2 v u h1 h2 => by
                have h := sameup_any (w := X) (xs := U) (ys := U) (by rw [hUl]; exact h1) (by rw [hUl]; exact h2) (by omega)
                rw [hdU] at h
                exact h)
              have HC5 := Lib.hid hcb5.drew
              have HBD5 : Hid (Bd W5.drew F5 B r b5) := Lib.hid (HBY.out.bd.below (below_drew (Below.refl _ _)))
              have HPR5 : Hid (W5.drew.ownsRow 0 33 2 (.slice av nb cv) nb (pcells b5.ps)) := Lib.hid HBY.out.pr
              clear hcb5 hnw hU hUl hdU
              refine wp_region_held_drew (S := fun X => Cb X N 48 [.int .i64 r.rise, .int .i64 r.fall, .int .i64 r.every, .slice av nb cv, .int .i64 (nw : Int), .slice a2 m5 c2]) (by kernel_rfl) HC5.out (fun hHeld => ?_)
              refine wpAnyH_take (i := 0) (oi := ({ dst := some 118, op := Go.Op.move (Go.Operand.tmp 7), type := 40, pos := _, after := #[], guard := none } : Oper)) (v := ?_) rfl (by kernel_rfl) (by kernel_rfl) (by kernel_rfl) (fun _ _ _ h => h) (Or.inl ⟨by rfl, ?_⟩) (by assumption) ?_
              rotate_left
              · intro W' hSw
                try dsimp only at hSw
                go_simp
                try with_reducible rfl
              try simp only [Act.put, List.setIfInBounds_toArray, List.set_cons_zero, List.set_cons_succ]
              refine wpAnyH_take (i := 2) (oi := ({ dst := some 120, op := Go.Op.load 48 (Go.Operand.tmp 9), type := 48, pos := _, after := #[], guard := none } : Oper)) (v := ?_) rfl (by kernel_rfl) (by kernel_rfl) (by kernel_rfl) (fun _ _ _ h => h) (Or.inl ⟨by rfl, ?_⟩) (by assumption) ?_
              rotate_left
              · intro W' hSw
                try dsimp only at hSw
                obtain ⟨y0, y1, y2, y3, y4, y5⟩ := hSw.six
                go_simp
                try with_reducible rfl
              try simp only [Act.put, List.setIfInBounds_toArray, List.set_cons_zero, List.set_cons_succ]
              refine wpAnyH_ready (rs := [1]) (by kernel_rfl) (by simp) ?_
              refine AllReadyH.cons (o := ({ dst := some 119, op := Go.Op.call { callee := Go.Callee.value (Go.Operand.func 24), args := #[Go.Operand.tmp 118], argTypes := #[40] }, type := 24, pos := _, after := #[{ on := 0, ground := Go.Ground.data }], guard := none } : Oper)) rfl (fun K hK => ?_) AllReadyH.nil
              go_simp
              refine (HBU.out _ HBD5.out).mono ?_
              rintro e w6 ⟨v6, rfl, hr6, hb6⟩
              obtain ⟨a6, c6, rfl, -, -⟩ := row_any hr6
              go_wp2_with fail
              refine hK.out _ _ ?_ (fun hHeld => ?_)
              · exact hHeld.below hb6
              clear hK K
              try simp only [Act.put, List.setIfInBounds_toArray, List.set_cons_zero, List.set_cons_succ]
              have HQ6 := Lib.hid hr6
              have HPR6 := Lib.hid (row_below HPR5.out hb6)
              have HB6 := Lib.hid hb6
              clear hr6 hb6
              refine wpAnyH_ready (rs := [3]) (by kernel_rfl) (by simp) ?_
              refine AllReadyH.cons (o := ({ dst := some 121, op := Go.Op.call { callee := Go.Callee.value (Go.Operand.func 25), args := #[Go.Operand.tmp 120], argTypes := #[48] }, type := 24, pos := _, after := #[{ on := 2, ground := Go.Ground.data }, { on := 1, ground := Go.Ground.chain }], guard := none } : Oper)) rfl (fun K hK => ?_) AllReadyH.nil
              go_simp
              refine (HRU.out _ HPR6.out).mono ?_
              rintro e w7 ⟨v7, rfl, hr7, hb7⟩
              obtain ⟨a7, c7, rfl, -, -⟩ := row_any hr7
              go_wp2_with fail
              refine hK.out _ _ ?_ (fun hHeld => ?_)
              · exact hHeld.below hb7
              clear hK K
              try simp only [Act.put, List.setIfInBounds_toArray, List.set_cons_zero, List.set_cons_succ]
              have HS7 := Lib.hid (HSU.out _ _ _ _ _ (row_below HQ6.out hb7) hr7)
              have HB7 := Lib.hid hb7
              clear hr7 hb7
              refine wpAnyH_ready (rs := [4]) (by kernel_rfl) (by simp) ?_
              refine AllReadyH.cons (o := ({ dst := some 122, op := Go.Op.call { callee := Go.Callee.value (Go.Operand.func 23), args := #[Go.Operand.tmp 119, Go.Operand.tmp 121], argTypes := #[24, 24] }, type := 4, pos := _, after := #[{ on := 1, ground := Go.Ground.data }, { on := 3, ground := Go.Ground.data }, { on := 3, ground := Go.Ground.chain }], guard := none } : Oper)) rfl (fun K hK => ?_) AllReadyH.nil
              go_simp
              refine HS7.out.mono ?_
              rintro e w8 ⟨rfl, q8, rfl⟩
              go_wp2_with fail
              refine hK.out _ _ ?_ (fun hHeld => ?_)
              · exact hHeld.drewN q8
              clear hK K
              try simp only [Act.put, List.setIfInBounds_toArray, List.set_cons_zero, List.set_cons_succ]
              refine wpAnyH_take (i := 5) (oi := ({ dst := some 123, op := Go.Op.unOp Go.UnOp.not 4 (Go.Operand.tmp 122), type := 4, pos := _, after := #[{ on := 4, ground := Go.Ground.data }], guard := none } : Oper)) (v := ?_) rfl (by kernel_rfl) (by kernel_rfl) (by kernel_rfl) (fun _ _ _ h => h) (Or.inl ⟨by rfl, ?_⟩) (by assumption) ?_
              rotate_left
              · intro W' hSw
                try dsimp only at hSw
                go_simp
                try with_reducible rfl
              try simp only [Act.put, List.setIfInBounds_toArray, List.set_cons_zero, List.set_cons_succ]
              refine wpAnyH_done (by kernel_rfl) ?_ _
              go_wp2
              go_roundg (n - (j + 1))
              case measure => omega
              case rel => exact Lib.hid ⟨j + 1, by omega, by go_num, F5, b5, _, _, HBY.out.below (below_drewN (Below.trans (b := W5.drew) (below_drew (Below.refl _ _)) (HB6.out.trans (HB7.out.mono HB6.out.size))) q8)⟩
            · have hkb0 : (kd == 0) = false := beq_eq_false_iff_ne.2 hk0
              have hkb1 : (kd == 1) = false := beq_eq_false_iff_ne.2 hk1
              go_upto_region 22 with fail
              obtain ⟨m1, hm1⟩ : ∃ m1, b.s.l.length = m1 := ⟨_, rfl⟩
              obtain ⟨b5, hb5⟩ : ∃ b5, b = b5 := ⟨_, rfl⟩
              obtain ⟨W5, hW5⟩ : ∃ X, wr.alloc (.cells #[.int .i64 kd, .int .i64 x, .bool good] 52) = X := ⟨_, rfl⟩
              rw [hW5]
              have HBY : Hid (By w N B r nb F1 b5 (.slice av nb cv) (.slice at1 m1 ct1) W5) := Lib.hid (by rw [← hb5, ← hW5, ← hm1]; exact HPA.out)
              clear hb5 hW5 HPA HOPB HBA HP hm1 q0 q1 q2 q3 q4 q5
              obtain ⟨nw, hnw⟩ : ∃ nw, b5.s.now = nw := ⟨_, rfl⟩
              have hcb5 := HBY.out.cb
              rw [hnw] at hcb5
              obtain ⟨U, hU⟩ : ∃ U, ups b5.ps = U := ⟨_, rfl⟩
              have hUl : U.length = nb := by rw [← hU]; simp [ups, HBY.out.ok.len]
              have hdU : decide (U = U) = true := by simp
              have HBU : Hid (∀ X, Bd X F1 B r b5 → Calls Try.prog 24 #[.pointer (some ⟨B, 0, none⟩)] X fun e w' => ∃ v, e = .returned v ∧ w'.ownsRow X.heap.size 4 1 v nb (bcells U) ∧ Below X.heap.size X w') := Lib.hid (fun X h => by
                have h1 := bup_any h (by rw [HBY.out.ok.len]; omega)
                rw [HBY.out.ok.len, hU] at h1
                exact h1)
              have HRU : Hid (∀ X, X.ownsRow 0 33 2 (.slice av nb cv) nb (pcells b5.ps) → Calls Try.prog 25 #[.agg #[.int .i64 r.rise, .int .i64 r.fall, .int .i64 r.every, .slice av nb cv, .int .i64 (nw : Int), .slice at1 m1 ct1]] X fun e w' => ∃ v, e = .returned v ∧ w'.ownsRow X.heap.size 4 1 v nb (bcells U) ∧ Below X.heap.size X w') := Lib.hid (fun X h => by
                have h1 := rup_any (w := X) (r := r) (ps := b5.ps) (vt := .slice at1 m1 ct1) (now := nw) (by rw [HBY.out.ok.len]; exact h) (by rw [HBY.out.ok.len]; omega)
                rw [HBY.out.ok.len, hU] at h1
                exact h1)
              have HSU : Hid (∀ X b1 b2 v u, World.ownsRow X b1 4 1 v nb (bcells U) → World.ownsRow X b2 4 1 u nb (bcells U) → Calls Try.prog 23 #[v, u] X fun e w' => e = .returned (.bool true) ∧ ∃ q, w' = X.drewN q) := Lib.hid (fun X b1 b2 v u h1 h2 => by
                have h := sameup_any (w := X) (xs := U) (ys := U) (by rw [hUl]; exact h1) (by rw [hUl]; exact h2) (by omega)
                rw [hdU] at h
                exact h)
              have HC5 := Lib.hid hcb5.drew
              have HBD5 : Hid (Bd W5.drew F1 B r b5) := Lib.hid (HBY.out.bd.below (below_drew (Below.refl _ _)))
              have HPR5 : Hid (W5.drew.ownsRow 0 33 2 (.slice av nb cv) nb (pcells b5.ps)) := Lib.hid HBY.out.pr
              clear hcb5 hnw hU hUl hdU
              refine wp_region_held_drew (S := fun X => Cb X N 48 [.int .i64 r.rise, .int .i64 r.fall, .int .i64 r.every, .slice av nb cv, .int .i64 (nw : Int), .slice at1 m1 ct1]) (by kernel_rfl) HC5.out (fun hHeld => ?_)
              refine wpAnyH_take (i := 0) (oi := ({ dst := some 118, op := Go.Op.move (Go.Operand.tmp 7), type := 40, pos := _, after := #[], guard := none } : Oper)) (v := ?_) rfl (by kernel_rfl) (by kernel_rfl) (by kernel_rfl) (fun _ _ _ h => h) (Or.inl ⟨by rfl, ?_⟩) (by assumption) ?_
              rotate_left
              · intro W' hSw
                try dsimp only at hSw
                go_simp
                try with_reducible rfl
              try simp only [Act.put, List.setIfInBounds_toArray, List.set_cons_zero, List.set_cons_succ]
              refine wpAnyH_take (i := 2) (oi := ({ dst := some 120, op := Go.Op.load 48 (Go.Operand.tmp 9), type := 48, pos := _, after := #[], guard := none } : Oper)) (v := ?_) rfl (by kernel_rfl) (by kernel_rfl) (by kernel_rfl) (fun _ _ _ h => h) (Or.inl ⟨by rfl, ?_⟩) (by assumption) ?_
              rotate_left
              · intro W' hSw
                try dsimp only at hSw
                obtain ⟨y0, y1, y2, y3, y4, y5⟩ := hSw.six
                go_simp
                try with_reducible rfl
              try simp only [Act.put, List.setIfInBounds_toArray, List.set_cons_zero, List.set_cons_succ]
              refine wpAnyH_ready (rs := [1]) (by kernel_rfl) (by simp) ?_
              refine AllReadyH.cons (o := ({ dst := some 119, op := Go.Op.call { callee := Go.Callee.value (Go.Operand.func 24), args := #[Go.Operand.tmp 118], argTypes := #[40] }, type := 24, pos := _, after := #[{ on := 0, ground := Go.Ground.data }], guard := none } : Oper)) rfl (fun K hK => ?_) AllReadyH.nil
              go_simp
              refine (HBU.out _ HBD5.out).mono ?_
              rintro e w6 ⟨v6, rfl, hr6, hb6⟩
              obtain ⟨a6, c6, rfl, -, -⟩ := row_any hr6
              go_wp2_with fail
              refine hK.out _ _ ?_ (fun hHeld => ?_)
              · exact hHeld.below hb6
              clear hK K
              try simp only [Act.put, List.setIfInBounds_toArray, List.set_cons_zero, List.set_cons_succ]
              have HQ6 := Lib.hid hr6
              have HPR6 := Lib.hid (row_below HPR5.out hb6)
              have HB6 := Lib.hid hb6
              clear hr6 hb6
              refine wpAnyH_ready (rs := [3]) (by kernel_rfl) (by simp) ?_
              refine AllReadyH.cons (o := ({ dst := some 121, op := Go.Op.call { callee := Go.Callee.value (Go.Operand.func 25), args := #[Go.Operand.tmp 120], argTypes := #[48] }, type := 24, pos := _, after := #[{ on := 2, ground := Go.Ground.data }, { on := 1, ground := Go.Ground.chain }], guard := none } : Oper)) rfl (fun K hK => ?_) AllReadyH.nil
              go_simp
              refine (HRU.out _ HPR6.out).mono ?_
              rintro e w7 ⟨v7, rfl, hr7, hb7⟩
              obtain ⟨a7, c7, rfl, -, -⟩ := row_any hr7
              go_wp2_with fail
              refine hK.out _ _ ?_ (fun hHeld => ?_)
              · exact hHeld.below hb7
              clear hK K
              try simp only [Act.put, List.setIfInBounds_toArray, List.set_cons_zero, List.set_cons_succ]
              have HS7 := Lib.hid (HSU.out _ _ _ _ _ (row_below HQ6.out hb7) hr7)
              have HB7 := Lib.hid hb7
              clear hr7 hb7
              refine wpAnyH_ready (rs := [4]) (by kernel_rfl) (by simp) ?_
              refine AllReadyH.cons (o := ({ dst := some 122, op := Go.Op.call { callee := Go.Callee.value (Go.Operand.func 23), args := #[Go.Operand.tmp 119, Go.Operand.tmp 121], argTypes := #[24, 24] }, type := 4, pos := _, after := #[{ on := 1, ground := Go.Ground.data }, { on := 3, ground := Go.Ground.data }, { on := 3, ground := Go.Ground.chain }], guard := none } : Oper)) rfl (fun K hK => ?_) AllReadyH.nil
              go_simp
              refine HS7.out.mono ?_
              rintro e w8 ⟨rfl, q8, rfl⟩
              go_wp2_with fail
              refine hK.out _ _ ?_ (fun hHeld => ?_)
              · exact hHeld.drewN q8
              clear hK K
              try simp only [Act.put, List.setIfInBounds_toArray, List.set_cons_zero, List.set_cons_succ]
              refine wpAnyH_take (i := 5) (oi := ({ dst := some 123, op := Go.Op.unOp Go.UnOp.not 4 (Go.Operand.tmp 122), type := 4, pos := _, after := #[{ on := 4, ground := Go.Ground.data }], guard := none } : Oper)) (v := ?_) rfl (by kernel_rfl) (by kernel_rfl) (by kernel_rfl) (fun _ _ _ h => h) (Or.inl ⟨by rfl, ?_⟩) (by assumption) ?_
              rotate_left
              · intro W' hSw
                try dsimp only at hSw
                go_simp
                try with_reducible rfl
              try simp only [Act.put, List.setIfInBounds_toArray, List.set_cons_zero, List.set_cons_succ]
              refine wpAnyH_done (by kernel_rfl) ?_ _
              go_wp2
              go_roundg (n - (j + 1))
              case measure => omega
              case rel => exact Lib.hid ⟨j + 1, by omega, by go_num, F1, b5, _, _, HBY.out.below (below_drewN (Below.trans (b := W5.drew) (below_drew (Below.refl _ _)) (HB6.out.trans (HB7.out.mono HB6.out.size))) q8)⟩
        · obtain rfl : j = n := by omega
          have HBR := Lib.hid hP.bl
          clear hP
          go_wp2_with (go_at_call 11; refine (HAL.out _).mono ?_; rintro e w3 ⟨rfl, hb3⟩; have HB3 := Lib.hid hb3; clear hb3)
          go_ret
          exact ⟨rfl, HBR.out.trans (HB3.out.mono HBR.out.size)⟩
  · have hof : (okR r && inn m 16) = false := by simpa using hok
    have HOF := Lib.hid hof
    have hrl := rlay_no hof
    unfold ruv rbv at hrl
    have HRL := Lib.hid hrl
    clear hok hof hrl
    go_enter Try.func4, Try.ntmps4
    go_wp2_with fail
    refine HLAY.out.mono ?_
    rintro e w1 ⟨hbw, ⟨h, -⟩ | ⟨-, rfl⟩⟩
    · rw [HOF.out] at h; cases h
    have HB1 := Lib.hid (HB0.out.trans (hbw.mono HB0.out.size))
    obtain ⟨c0, c1, c2⟩ := (HCB0.out.below hbw).three
    clear hbw
    go_wp2_with (first
      | (go_at_call 17; refine (HRL.out _).mono ?_; rintro e w2 ⟨rfl, hb2⟩; obtain ⟨w3, hst3, hcb3, hb3⟩ := box48 w2 r.rise r.fall r.every 0 (.slice none 0 0) (.slice none 0 0) rfl rfl; have HB2 := Lib.hid hb2; have HB3 := Lib.hid hb3; clear hb2 hcb3 hb3)
      | (go_at_call 11; refine (HAL.out _).mono ?_; rintro e w4 ⟨rfl, hb4⟩; have HB4 := Lib.hid hb4; clear hb4))
    go_ret
    have b2 := HB1.out.trans (HB2.out.mono HB1.out.size)
    have b3 := b2.trans (HB3.out.mono b2.size)
    exact ⟨rfl, b3.trans (HB4.out.mono b3.size)⟩

end Go.Proofs.Ytkcndgiiangmjaa
