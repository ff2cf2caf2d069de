/-
  What the function of WheelSteps does, whatever script, time and steps it is given.
-/
import Derived.Test.YthddphgeepgidaaStepsPre
namespace Go.Proofs.Ythddphgeepgidaa
open Go.RowKit Go.Maps
set_option linter.unusedVariables false
set_option linter.unusedSimpArgs false
set_option maxRecDepth 10000


theorem Nums.at {w : World} {a : Option Addr} {n c : Nat} {l : List Int} (h : Nums w a n c l) {j : Nat} (hj : j < n) : ∃ b off, a = some ⟨b, off, none⟩ ∧ b < w.heap.size ∧ w.cell? ⟨b, off + j, none⟩ = some (.int .i64 l[j]!) ∧ I64 l[j]! := by
  obtain ⟨b, off, e, hb, hat⟩ := h.2.2.2 (by omega)
  have hl : j < l.length := by rw [← h.1]; exact hj
  exact ⟨b, off, e, hb, hat j hl, h.2.2.1 j hl⟩
theorem mv_yes {s : St} {m : Nat} (h1 : s.now ≤ m) (h2 : m ≤ 1099511627776) : mvD s.l s.now (m : Int) = ids (due s.l m) ∧ mvN s.now (m : Int) = m ∧ mvL s.l s.now (m : Int) = left s.l m := by
  have e1 : okM s.now (m : Int) = true := decide_eq_true (by omega)
  refine ⟨?_, ?_, ?_⟩
  · unfold mvD; rw [if_pos e1]; rfl
  · unfold mvN; rw [if_pos e1]; rfl
  · unfold mvL; rw [if_pos e1]; rfl
theorem count_next (D : List Int) (y : Int) {k : Nat} (h : k < D.length) : (D.take (k + 1)).count y = (D.take k).count y + (if D[k]! = y then 1 else 0) := by
  rw [List.take_add_one, List.getElem?_eq_getElem h, getElem!_pos D k h, Option.toList_some, List.count_append, List.count_cons, List.count_nil]
  by_cases e : D[k] = y
  · simp [e]
  · simp [e]

section
variable {w wr : World} {Ba Bb : Nat} {sa sb : St} {vl vm : Value} {D M : List Int}
theorem plt_does_keep {k i a : Int} (o : Obj) (h : PlT w wr Ba Bb sa sb) (ok : OkS sa 990) (hi : I64 i) : Calls Try.prog 14 #[.pointer (some ⟨Ba, 0, none⟩), .agg #[.int .i64 k, .int .i64 i, .int .i64 a]] (wr.alloc o) fun e w' => ∃ v, e = .returned (.tuple #[.bool (ans sa k i a), v]) ∧ PlT w w' Ba Bb (stp sa k i a) sb ∧ w'.heap[wr.heap.size]? = some o := by
  have hb : Below wr.heap.size wr (wr.alloc o) := below_alloc (Below.refl _ _) _
  obtain ⟨Fa, Fb, h1, h2, h3, h4, h5, h6⟩ := h
  have h7 : Below w.heap.size w (wr.alloc o) := h6.trans (hb.mono h6.size)
  have h8 := h2.below hb
  refine (does_any (h1.below hb) ok hi).mono fun e w' ⟨v, F', he, _, _, g1, g2, g3⟩ => ⟨v, he, ⟨F', Fb, g1, h8.only g3 (fun j hj hja => h3 j hja hj), fun j hj hjb => ?_, fun j hj => ?_, h5, h7.trans (g3.below h7.size h4)⟩, ?_⟩
  · rcases g2 j hj with h | h
    · exact h3 j h hjb
    · have := h8.lt j hjb; omega
  · rcases g2 j hj with h | h
    · exact h4 j h
    · exact Nat.le_trans h7.size h
  · rw [g3.block wr.heap.size (by simp) (fun hf => by have := h1.lt _ hf; omega)]
    exact heap_alloc_new wr o
theorem p2_below (h : P2 w wr Ba Bb sa sb vl D vm M) : Below w.heap.size w wr := by
  obtain ⟨_, _, _, _, _, _, _, h6, _⟩ := h
  exact h6
theorem p2_rows (h : P2 w wr Ba Bb sa sb vl D vm M) : wr.ownsRow 0 3 1 vl D.length (icells D) ∧ wr.ownsRow 0 3 1 vm M.length (icells M) := by
  obtain ⟨_, _, _, _, _, _, _, _, h7, h8, _⟩ := h
  exact ⟨h7, h8⟩
theorem p2_lens (h : P2 w wr Ba Bb sa sb vl D vm M) (W : World) (hb : Below wr.heap.size wr W) :
    (Calls Try.prog 18 #[.pointer (some ⟨Ba, 0, none⟩)] W fun e w' => e = .returned (.int .i64 sa.l.length) ∧ W = w') ∧ (Calls Try.prog 18 #[.pointer (some ⟨Bb, 0, none⟩)] W fun e w' => e = .returned (.int .i64 sb.l.length) ∧ W = w') ∧
    (Calls Try.prog 16 #[.pointer (some ⟨Ba, 0, none⟩)] W fun e w' => e = .returned (.int .i64 sa.now) ∧ W = w') ∧ (Calls Try.prog 16 #[.pointer (some ⟨Bb, 0, none⟩)] W fun e w' => e = .returned (.int .i64 sb.now) ∧ W = w') := by
  obtain ⟨Fa, Fb, h1, h2, _⟩ := h
  exact ⟨len_any (h1.below hb), len_any (h2.below hb), now_any (h1.below hb), now_any (h2.below hb)⟩
end

def ScT (w : World) (Ba Bb n : Nat) (l : List Opr) (gg : Nat) (sj : Value) (wr : World) : Prop :=
  ∃ j : Nat, j + gg = n ∧ sj = .int .i64 j ∧ PlT w wr Ba Bb (runS (l.take j)) (runS (l.take j))
def StRel (w : World) (Ba Bb n2 m : Nat) (s : St) (vl : Value) (D : List Int) (gg : Nat) (s12 s74 : Value) (wr : World) : Prop :=
  ∃ q : Nat, q + gg = n2 ∧ s74 = .int .i64 q ∧ ∃ vm M N L, s12 = vm ∧ P2 w wr Ba Bb ⟨m, left s.l m⟩ ⟨N, L⟩ vl D vm M ∧ StI s.l m N L M ∧ OkS ⟨N, L⟩ 300

set_option maxHeartbeats 8000000 in
theorem steps_walk (a : Option Addr) (n c : Nat) (l : List Opr) (now : Int) (a2 : Option Addr) (n2 c2 : Nat) (ms : List Int) (w : World) (hS : Scr w a n c l) (hat : (Lit.int .i64 now).wf = true) (hM : Nums w a2 n2 c2 ms) :
    Calls Try.prog 6 #[.slice a n c, .int .i64 now, .slice a2 n2 c2] w fun e w' => e = .returned (.bool true) ∧ Below w.heap.size w w' := by
  have HS := Lib.hid hS
  have HN := Lib.hid hS.1
  have hnc := hS.2.1
  have HMS := Lib.hid hM
  have hnc2 := hM.2.1
  have HAL := Lib.hid (fun w => alive_any w)
  have HNEW := Lib.hid (pl_new w)
  clear hS hM hat
  by_cases hbig : n > 300
  · have hbz : (n : Int) > 300 := by omega
    go_enter Try.func6, Try.ntmps6
    go_wp2_with fail
    refine HNEW.out.mono ?_
    rintro e w0 ⟨Ba, rfl, hP⟩
    have HNB := Lib.hid (plt_new hP)
    clear hP
    go_wp2_with fail
    refine HNB.out.mono ?_
    rintro e wz ⟨Bb, rfl, hPT⟩
    have HPT := Lib.hid hPT
    clear hPT
    go_wp2_with (go_at_call 10; refine (HAL.out _).mono ?_; rintro e w1 ⟨rfl, hb1⟩; have HB1 := Lib.hid hb1; clear hb1)
    go_ret
    exact ⟨rfl, HPT.out.below.trans (HB1.out.mono HPT.out.below.size)⟩
  · have hbz : ¬ ((n : Int) > 300) := by omega
    by_cases hbig2 : n2 > 300
    · have hbz2 : (n2 : Int) > 300 := by omega
      go_enter Try.func6, Try.ntmps6
      go_wp2_with fail
      refine HNEW.out.mono ?_
      rintro e w0 ⟨Ba, rfl, hP⟩
      have HNB := Lib.hid (plt_new hP)
      clear hP
      go_wp2_with fail
      refine HNB.out.mono ?_
      rintro e wz ⟨Bb, rfl, hPT⟩
      have HPT := Lib.hid hPT
      clear hPT
      go_wp2_with (go_at_call 10; refine (HAL.out _).mono ?_; rintro e w1 ⟨rfl, hb1⟩; have HB1 := Lib.hid hb1; clear hb1)
      go_ret
      exact ⟨rfl, HPT.out.below.trans (HB1.out.mono HPT.out.below.size)⟩
    · have hbz2 : ¬ ((n2 : Int) > 300) := by omega
      go_enter Try.func6, Try.ntmps6
      go_wp2_with fail
      refine HNEW.out.mono ?_
      rintro e w0 ⟨Ba, rfl, hP⟩
      have HNB := Lib.hid (plt_new hP)
      clear hP
      go_wp2_with fail
      refine HNB.out.mono ?_
      rintro e wz ⟨Bb, rfl, hPT⟩
      have HPT := Lib.hid hPT
      clear hPT
      go_wp2_with fail
      go_loopg [49] n (fun gg sj wr => Hid (ScT w Ba Bb n l gg sj wr))
      case atStart => exact Lib.hid ⟨0, by omega, rfl, HPT.out⟩
      case round =>
        obtain ⟨j, hj, rfl, hP⟩ := hrel.out
        clear hrel
        by_cases hjn : j < n
        · have hjz : (j : Int) < (n : Int) := by omega
          obtain ⟨b, off, rfl, hbb, d0, d1, d2, hi⟩ := (HS.out.below hP.below).at hjn
          have HNX := Lib.hid (runS_next l (by rw [← HN.out]; exact hjn))
          have hok : OkS (runS (l.take j)) 990 := (runS_ok l j (by rw [← HN.out]; omega)).mono (by omega)
          generalize hX : l[j]! = X at d0 d1 d2 hi HNX
          obtain ⟨xk, xi, xa⟩ := X
          have HDO := Lib.hid (plt_does_keep (k := xk) (i := xi) (a := xa) (.cells #[.int .i64 xk, .int .i64 xi, .int .i64 xa] 38) hP hok hi)
          have HDO2 := Lib.hid (fun W (h : PlT w W Ba Bb (stp (runS (l.take j)) xk xi xa) (runS (l.take j))) => plt_does (k := xk) (i := xi) (a := xa) h.swap hok hi)
          simp only at d0 d1 d2 HDO HDO2
          clear hX hP hok hi
          go_wp2_with fail
          refine HDO.out.mono ?_
          rintro e w1 ⟨v, rfl, hP1, hbx⟩
          have HP1 := Lib.hid hP1
          have b0 : w1.cell? ⟨wr.heap.size, 0, none⟩ = some (.int .i64 xk) := by rw [cell_of_row w1 _ _ _ _ _ hbx]; rfl
          have b1 : w1.cell? ⟨wr.heap.size, 1, none⟩ = some (.int .i64 xi) := by rw [cell_of_row w1 _ _ _ _ _ hbx]; rfl
          have b2 : w1.cell? ⟨wr.heap.size, 2, none⟩ = some (.int .i64 xa) := by rw [cell_of_row w1 _ _ _ _ _ hbx]; rfl
          clear hP1 hbx
          go_wp2_with fail
          refine (HDO2.out _ HP1.out).mono ?_
          rintro e w2 ⟨v2, rfl, hP2⟩
          have HP2 := Lib.hid hP2.swap
          clear hP2
          go_wp2_with fail
          go_roundg (n - (j + 1))
          case measure => omega
          case rel => exact Lib.hid ⟨j + 1, by omega, by go_num, by rw [HNX.out]; exact HP2.out⟩
        · obtain rfl : j = n := by omega
          have hok := runS_ok l j (by rw [← HN.out]; exact Nat.le_refl _)
          generalize runS (l.take j) = s at hP hok
          have HP := Lib.hid hP
          have HOK := Lib.hid (hok.mono (show j ≤ 300 by omega))
          clear hP hok
          by_cases hx : (s.now : Int) ≤ now ∧ now ≤ 1099511627776
          · obtain ⟨m, rfl⟩ := Int.eq_ofNat_of_zero_le (show 0 ≤ now by omega)
            have HPT2 := Lib.hid (p2_first (x := (m : Int)) HP.out (HOK.out.mono (by omega)))
            obtain ⟨e1, e2, e3⟩ := mv_yes (s := s) (m := m) (by omega) (by omega)
            rw [e1, e2, e3] at HPT2
            have HNA := Lib.hid (plt_now HP.out)
            have p1 : decide ((m : Int) < (s.now : Int)) = false := decide_eq_false (by omega)
            have p1' : decide (m < s.now) = false := decide_eq_false (by omega)
            have p2 : decide (1099511627776 < (m : Int)) = false := decide_eq_false (by omega)
            have p2' : decide (1099511627776 < m) = false := decide_eq_false (by omega)
            have hm2 : m ≤ 1099511627776 := by omega
            have HNM : Hid (s.now ≤ m) := Lib.hid (by omega)
            obtain ⟨D, hD⟩ : ∃ D, ids (due s.l m) = D := ⟨_, rfl⟩
            rw [hD] at HPT2
            have HDD := Lib.hid hD
            clear e1 e2 e3 hx hD
            go_wp2_with fail
            refine HNA.out.mono ?_
            rintro e w1 ⟨rfl, rfl⟩
            go_wp2_with fail
            refine HPT2.out.mono ?_
            rintro e w1 ⟨vl, rfl, hP2⟩
            have hrl0 := (p2_rows hP2).1
            obtain ⟨al, cl, rfl, hlc, -⟩ := row_any hrl0
            obtain ⟨d, hd⟩ : ∃ d, d = D.length := ⟨_, rfl⟩
            rw [← hd] at hP2 hlc ⊢
            have HDL := Lib.hid hd
            have hDl : d ≤ 300 := by
              rw [hd, ← HDD.out, ids_len]
              exact Nat.le_trans (List.length_filter_le _ _) HOK.out.len
            have HQ0 := Lib.hid hP2
            clear hP2 p1 p1' p2 p2' hrl0 hd
            go_wp2_with fail
            go_loopg [12, 74] n2 (fun gg s12 s74 wr => Hid (StRel w Ba Bb n2 m s (.slice al d cl) D gg s12 s74 wr))
            case atStart => exact Lib.hid ⟨0, by omega, rfl, _, [], s.now, s.l, rfl, HQ0.out, StI.start HNM.out, HOK.out⟩
            case round =>
              obtain ⟨q, hq, rfl, vm, M, N, L, hvm, hP2, hst, hok2⟩ := hrel.out
              clear hrel
              obtain rfl : vm = _ := hvm.symm
              have HP2 := Lib.hid hP2
              have HST := Lib.hid hst
              have HOK2 := Lib.hid hok2
              clear hst hok2
              by_cases hqn : q < n2
              · have hqz : (q : Int) < (n2 : Int) := by omega
                obtain ⟨mb, moff, rfl, hmb, d0, -⟩ := (HMS.out.below (p2_below hP2)).at hqn
                generalize ms[q]! = x2 at d0
                clear hP2
                by_cases hle : x2 ≤ (m : Int)
                · have HSP := Lib.hid (HST.out.step hle)
                  have HMV := Lib.hid (OkS.move HOK2.out x2)
                  have HM := Lib.hid (p2_move (x := x2) HP2.out (HOK2.out.mono (by omega)))
                  go_wp2_with fail
                  refine HM.out.mono ?_
                  rintro e w2 ⟨v, rfl, hP3, hr, -, -⟩
                  obtain ⟨vm', w3, hap, hP4⟩ := p2_append hP3 hr (by
                    have h1 := HST.out.len
                    have h2 := mvD_len (s := ⟨N, L⟩) HOK2.out x2
                    have h3 := HOK.out.len
                    try simp only at h2 ⊢
                    omega)
                  have HAP := Lib.hid hap
                  have HP4 := Lib.hid hP4
                  clear hP3 hr hap hP4
                  go_wp2_with (at_builtin; refine Lib.wpList_append_run _ rfl _ _ _ _ rfl _ _ rfl rfl _ _ HAP.out ?_)
                  go_roundg (n2 - (q + 1))
                  case measure => omega
                  case rel => exact Lib.hid ⟨q + 1, by omega, by go_num, vm', _, _, _, rfl, HP4.out, HSP.out, HMV.out⟩
                · go_wp2_with fail
                  go_roundg (n2 - (q + 1))
                  case measure => omega
                  case rel => exact Lib.hid ⟨q + 1, by omega, by go_num, vm, M, N, L, rfl, HP2.out, HST.out, HOK2.out⟩
              · obtain rfl : q = n2 := by omega
                obtain ⟨f1, f2, f3, f4⟩ := HST.out.last hm2 HOK.out.fit
                have HF := Lib.hid (And.intro f1 (And.intro f2 (And.intro f3 f4)))
                clear hP2 f1 f2 f3 f4
                have HM := Lib.hid (p2_move (x := (m : Int)) HP2.out (HOK2.out.mono (by omega)))
                go_wp2_with fail
                refine HM.out.mono ?_
                rintro e w2 ⟨v, rfl, hP3, hr, -, -⟩
                obtain ⟨vm', w3, hap, hP4⟩ := p2_append hP3 hr (by
                  have h1 := HST.out.len
                  have h2 := mvD_len (s := ⟨N, L⟩) HOK2.out (m : Int)
                  have h3 := HOK.out.len
                  try simp only at h2 ⊢
                  omega)
                have HAP := Lib.hid hap
                have HP4 := Lib.hid hP4
                clear hP3 hr hap hP4
                go_wp2_with (at_builtin; refine Lib.wpList_append_run _ rfl _ _ _ _ rfl _ _ rfl rfl _ _ HAP.out ?_)
                obtain ⟨M2, hM2⟩ : ∃ M2, M ++ mvD L N (m : Int) = M2 := ⟨_, rfl⟩
                have hPF := HP4.out
                have hF := HF.out
                try simp only at hPF
                rw [hF.1, hF.2.1, hM2] at hPF
                rw [hM2, HDD.out] at hF
                obtain ⟨hrl, hrm⟩ := p2_rows hPF
                have hlen : M2.length = D.length := by rw [hF.2.2.1, ← HDD.out, ids_len]
                rw [hlen] at hrm
                obtain ⟨am, cm, rfl, hmc, -⟩ := row_any hrm
                rw [← HDL.out] at hrl hrm hmc ⊢
                have HPF := Lib.hid hPF
                have HRL := Lib.hid hrl
                have HRM := Lib.hid hrm
                have HML : Hid (M2.length = d) := Lib.hid (hlen.trans HDL.out.symm)
                have HC1 := Lib.hid hF.2.2.2
                clear hPF hF hrl hrm hlen hM2
                go_wp2_with fail
                go_loopg [94] d (fun gg s94 wr => (∃ i : Nat, i + gg = d ∧ s94 = .int .i64 i) ∧ wr = w3)
                case atStart => exact ⟨⟨0, by omega, rfl⟩, rfl⟩
                case round =>
                  obtain ⟨⟨i, hi, rfl⟩, hwr⟩ := hrel
                  rw [hwr]
                  clear hwr
                  by_cases hid : i < d
                  · have hiz : (i : Int) < (d : Int) := by omega
                    have hr := HRL.out
                    obtain ⟨g', c', e, _⟩ := row_slice hr (by omega)
                    simp only [Value.slice.injEq, true_and] at e
                    obtain ⟨rfl, rfl⟩ := e
                    have d0 := irow_at hr hid
                    have hc1 := HC1.out i (by rw [← HDL.out]; exact hid)
                    generalize D[i]! = y at d0 hc1
                    have HCY := Lib.hid hc1
                    clear hr hc1
                    go_wp2_with fail
                    go_loopg [17, 100] d (fun gg s17 s100 wr => (∃ j : Nat, j + gg = d ∧ s100 = .int .i64 j ∧ Hid (s17 = .int .i64 (((M2.take j).count y : Nat) : Int))) ∧ wr = w3)
                    case atStart => exact ⟨⟨0, by omega, rfl, Lib.hid (by simp)⟩, rfl⟩
                    case round =>
                      obtain ⟨⟨j, hj, rfl, hs17⟩, hwr⟩ := hrel
                      rw [hwr]
                      clear hwr
                      have hs := hs17.out
                      have hcn := count_next M2 y (k := j)
                      have hcb : (M2.take j).count y ≤ d := by
                        have h1 := List.count_le_length (a := y) (l := M2.take j)
                        rw [List.length_take] at h1
                        have := HML.out
                        omega
                      obtain ⟨cn, hce⟩ : ∃ cn, (M2.take j).count y = cn := ⟨_, rfl⟩
                      rw [hce] at hs hcb hcn
                      have HCN := Lib.hid hcn
                      have HCE := Lib.hid hce
                      subst hs
                      clear hs17 hcn hce
                      by_cases hjd : j < d
                      · have hjz : (j : Int) < (d : Int) := by omega
                        have hr := HRM.out
                        obtain ⟨g2, c2, e, _⟩ := row_slice hr (by omega)
                        simp only [Value.slice.injEq, true_and] at e
                        obtain ⟨rfl, rfl⟩ := e
                        have d1 := irow_at hr hjd
                        have hcn2 := HCN.out (by rw [HML.out]; exact hjd)
                        generalize M2[j]! = z at d1 hcn2
                        clear hr
                        by_cases hzy : z = y
                        · subst hzy
                          rw [if_pos rfl] at hcn2
                          have HCN2 := Lib.hid hcn2
                          clear hcn2
                          go_wp2_with fail
                          go_roundg (d - (j + 1))
                          case measure => omega
                          case rel => exact ⟨⟨j + 1, by omega, by go_num, Lib.hid (by rw [HCN2.out]; go_num)⟩, rfl⟩
                        · rw [if_neg hzy] at hcn2
                          have HCN2 := Lib.hid hcn2
                          have hzb : (z == y) = false := by simpa using hzy
                          clear hcn2
                          go_wp2_with fail
                          go_roundg (d - (j + 1))
                          case measure => omega
                          case rel => exact ⟨⟨j + 1, by omega, by go_num, Lib.hid (by rw [HCN2.out]; rfl)⟩, rfl⟩
                      · obtain rfl : j = d := by omega
                        have e1 : cn = 1 := by
                          rw [← HCE.out, List.take_of_length_le (by rw [HML.out]; exact Nat.le_refl _)]
                          exact HCY.out
                        subst e1
                        go_wp2_with fail
                        go_roundg (j - (i + 1))
                        case measure => omega
                        case rel => exact ⟨⟨i + 1, by omega, by go_num⟩, rfl⟩
                  · obtain rfl : i = d := by omega
                    have HLA := Lib.hid (fun W hb => p2_lens HPF.out W hb)
                    go_wp2_with fail
                    refine (HAL.out _).mono ?_
                    rintro e w6 ⟨rfl, hb3⟩
                    have HB3 := Lib.hid hb3
                    clear hb3
                    go_wp2_with fail
                    refine ((HLA.out _ HB3.out).1).mono ?_
                    rintro e w7 ⟨rfl, rfl⟩
                    go_wp2_with fail
                    refine ((HLA.out _ HB3.out).2.1).mono ?_
                    rintro e w7 ⟨rfl, rfl⟩
                    go_wp2_with fail
                    refine ((HLA.out _ HB3.out).2.2.1).mono ?_
                    rintro e w7 ⟨rfl, rfl⟩
                    go_wp2_with fail
                    refine ((HLA.out _ HB3.out).2.2.2).mono ?_
                    rintro e w7 ⟨rfl, rfl⟩
                    go_wp2_with fail
                    go_ret
                    exact ⟨rfl, (p2_below HPF.out).trans (HB3.out.mono (p2_below HPF.out).size)⟩
          · by_cases h1 : now < (s.now : Int)
            · have p1 : decide (now < (s.now : Int)) = true := decide_eq_true h1
              have HNA := Lib.hid (plt_now HP.out)
              clear hx
              go_wp2_with fail
              refine HNA.out.mono ?_
              rintro e w1 ⟨rfl, rfl⟩
              go_wp2_with fail
              refine (HAL.out _).mono ?_
              rintro e w3 ⟨rfl, hb3⟩
              have HB3 := Lib.hid hb3
              clear hb3
              go_wp2_with fail
              go_ret
              exact ⟨rfl, HP.out.below.trans (HB3.out.mono HP.out.below.size)⟩
            · have h2 : 1099511627776 < now := by omega
              have p1 : decide (now < (s.now : Int)) = false := decide_eq_false h1
              have p2 : decide (1099511627776 < now) = true := decide_eq_true h2
              have HNA := Lib.hid (plt_now HP.out)
              clear hx
              go_wp2_with fail
              refine HNA.out.mono ?_
              rintro e w1 ⟨rfl, rfl⟩
              go_wp2_with fail
              refine (HAL.out _).mono ?_
              rintro e w3 ⟨rfl, hb3⟩
              have HB3 := Lib.hid hb3
              clear hb3
              go_wp2_with fail
              go_ret
              exact ⟨rfl, HP.out.below.trans (HB3.out.mono HP.out.below.size)⟩

end Go.Proofs.Ythddphgeepgidaa
