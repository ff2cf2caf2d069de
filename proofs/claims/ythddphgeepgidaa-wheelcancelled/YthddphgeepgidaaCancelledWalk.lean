/-
  What the function of WheelCancelled does, whatever script and times it is given.
-/
import Derived.Test.YthddphgeepgidaaCancPre
namespace Go.Proofs.Ythddphgeepgidaa
open Go.RowKit Go.Maps
set_option linter.unusedVariables false
set_option linter.unusedSimpArgs false
set_option maxRecDepth 10000


set_option maxHeartbeats 8000000 in
theorem cancelled_walk (a : Option Addr) (n c : Nat) (l : List Opr) (at_ again : Int) (w : World) (hS : Scr w a n c l) (hat : (Lit.int .i64 at_).wf = true) (hag : (Lit.int .i64 again).wf = true) :
    Calls Try.prog 7 #[.slice a n c, .int .i64 at_, .int .i64 again] w fun e w' => e = .returned (.bool true) ∧ Below w.heap.size w w' := by
  have HS := Lib.hid hS
  have HN := Lib.hid hS.1
  have hnc := hS.2.1
  have HAL := Lib.hid (fun w => alive_any w)
  have HNEW := Lib.hid (pl_new w)
  clear hS hat hag
  by_cases hbig : n > 300
  · have hbz : (n : Int) > 300 := by omega
    go_enter Try.func7, Try.ntmps7
    go_wp2_with fail
    refine HNEW.out.mono ?_
    rintro e w0 ⟨B, rfl, hP⟩
    have HP := Lib.hid hP
    clear hP
    go_wp2_with (go_at_call 10; refine (HAL.out _).mono ?_; rintro e w1 ⟨rfl, hb1⟩; have HB1 := Lib.hid hb1; clear hb1)
    go_ret
    exact ⟨rfl, HP.out.below.trans (HB1.out.mono HP.out.below.size)⟩
  · have hbz : ¬ ((n : Int) > 300) := by omega
    go_enter Try.func7, Try.ntmps7
    go_wp2_with fail
    refine HNEW.out.mono ?_
    rintro e w0 ⟨B, rfl, hP⟩
    have HP := Lib.hid hP
    clear hP
    go_wp2_with fail
    go_loopg [31] n (fun gg sj wr => Hid (ScRel w B n l gg sj wr))
    case atStart => exact Lib.hid ⟨0, by omega, rfl, HP.out⟩
    case round =>
      obtain ⟨j, hj, rfl, hP⟩ := hrel.out
      clear hrel
      by_cases hjn : j < n
      · have hjz : (j : Int) < (n : Int) := by omega
        obtain ⟨b, off, rfl, hbb, d0, d1, d2, hi⟩ := (HS.out.below hP.below).at hjn
        have HNX := Lib.hid (runS_next l (by rw [← HN.out]; exact hjn))
        have hok : OkS (runS (l.take j)) 990 := (runS_ok l j (by rw [← HN.out]; omega)).mono (by omega)
        generalize hX : l[j]! = X at d0 d1 d2 hi HNX
        obtain ⟨xk, xi, xa⟩ := X
        have HDO := Lib.hid (pl_does (k := xk) (i := xi) (a := xa) (hP.grow (below_alloc (Below.refl _ _) (.cells #[.int .i64 xk, .int .i64 xi, .int .i64 xa] 38))) hok hi)
        simp only at d0 d1 d2 HDO
        clear hX hP hok hi
        go_wp2_with (go_at_call 14; refine HDO.out.mono ?_; rintro e w1 ⟨v, rfl, hP1⟩; have HP1 := Lib.hid hP1; clear hP1)
        go_roundg (n - (j + 1))
        case measure => omega
        case rel => exact Lib.hid ⟨j + 1, by omega, by go_num, by rw [HNX.out]; exact HP1.out⟩
      · obtain rfl : j = n := by omega
        have hok := runS_ok l j (by rw [← HN.out]; exact Nat.le_refl _)
        generalize runS (l.take j) = s at hP hok
        have HP := Lib.hid hP
        have HOK := Lib.hid (hok.mono (show j ≤ 300 by omega))
        clear hP hok
        by_cases ha1 : 0 ≤ at_
        · by_cases ha2 : at_ ≤ 1099511627776
          · have HIN1 : Hid (inR 1 at_ = true) := Lib.hid (decide_eq_true (by omega))
            have HIN2 : Hid (inR 2 at_ = true) := Lib.hid (decide_eq_true (by omega))
            by_cases hb1 : 0 ≤ again
            · by_cases hb2 : again ≤ 1099511627776
              · clear HIN1 HIN2
                obtain ⟨g1, rfl⟩ := Int.eq_ofNat_of_zero_le ha1
                obtain ⟨g2, rfl⟩ := Int.eq_ofNat_of_zero_le hb1
                have HC1 := Lib.hid (pl_set (x := 1) (a := (g1 : Int)) HP.out (HOK.out.mono (by omega)))
                have hi1 : inR 1 (g1 : Int) = true := decide_eq_true (by omega)
                have hi2 : inR 2 (g1 : Int) = true := decide_eq_true (by omega)
                have hi3 : inR 2 (g2 : Int) = true := decide_eq_true (by omega)
                obtain ⟨hlk, hno1, honc, hok4⟩ := canc_state HOK.out (g1 := g1) (g2 := g2) (by omega) (by omega)
                have HOK1 : Hid (OkS ⟨s.now, setL s.l 1 (g1 : Int)⟩ 301) := Lib.hid ⟨setL_fit HOK.out.fit _ _, HOK.out.now, Nat.le_trans (setL_len _ _ _) (by have := HOK.out.len; omega)⟩
                generalize setL s.l 1 (g1 : Int) = l1 at *
                have HOK2 : Hid (OkS ⟨s.now, setL l1 2 (g1 : Int)⟩ 302) := Lib.hid ⟨setL_fit HOK1.out.fit _ _, HOK1.out.now, Nat.le_trans (setL_len _ _ _) (by have := HOK1.out.len; simp only at this; omega)⟩
                have HC2 := Lib.hid (fun W (h : Pl w W B ⟨s.now, l1⟩) => pl_set (x := 2) (a := (g1 : Int)) h (HOK1.out.mono (by omega)))
                simp only at HC2
                generalize setL l1 2 (g1 : Int) = l2 at *
                have HOK3 : Hid (OkS ⟨s.now, setL l2 2 (g2 : Int)⟩ 303) := Lib.hid ⟨setL_fit HOK2.out.fit _ _, HOK2.out.now, Nat.le_trans (setL_len _ _ _) (by have := HOK2.out.len; simp only at this; omega)⟩
                have HC3 := Lib.hid (fun W (h : Pl w W B ⟨s.now, l2⟩) => pl_set (x := 2) (a := (g2 : Int)) h (HOK2.out.mono (by omega)))
                simp only at HC3
                generalize setL l2 2 (g2 : Int) = l3 at *
                have HC4 := Lib.hid (fun W (h : Pl w W B ⟨s.now, l3⟩) => pl_cancel (x := 1) h (HOK3.out.mono (by omega)) ⟨by omega, by omega⟩)
                simp only [hlk] at HC4
                have hbd := HOK.out.now
                generalize woutI l3 1 = l4 at *
                rw [hi1] at HC1
                rw [hi2] at HC2
                rw [hi3] at HC3
                have HNOA := Lib.hid hno1
                have HONA := Lib.hid honc
                have HOKA := Lib.hid hok4
                have hg1 : g1 ≤ 1099511627776 := by omega
                have hg2 : g2 ≤ 1099511627776 := by omega
                clear hi1 hi2 hi3 hlk hno1 honc hok4 ha1 ha2 hb1 hb2
                go_wp2_with fail
                refine HC1.out.mono ?_
                rintro e w1 ⟨rfl, hP1⟩
                have HP1 := Lib.hid hP1
                clear hP1
                go_wp2_with fail
                refine (HC2.out _ HP1.out).mono ?_
                rintro e w2 ⟨rfl, hP1⟩
                have HP2 := Lib.hid hP1
                clear hP1
                go_wp2_with fail
                refine (HC3.out _ HP2.out).mono ?_
                rintro e w3 ⟨rfl, hP1⟩
                have HP3 := Lib.hid hP1
                clear hP1
                go_wp2_with fail
                refine (HC4.out _ HP3.out).mono ?_
                rintro e w4 ⟨rfl, hP1⟩
                have HP4 := Lib.hid hP1
                have HNO4 := Lib.hid (pl_now hP1)
                simp only at HNO4
                clear hP1
                go_wp2_with fail
                refine HNO4.out.mono ?_
                rintro e w5 ⟨rfl, rfl⟩
                generalize hN0 : s.now = N0 at *
                clear hN0
                go_wp2_with fail
                go_loopg [10, 11, 83] 4 (fun gg s10 s11 s83 wr => Hid (CaRel w B w4.heap.size N0 g1 g2 gg s10 s11 s83 wr))
                case atStart => exact Lib.hid ⟨0, by omega, rfl, rfl, false, ⟨N0, l4⟩, rfl, plx_of HP4.out _, HOKA.out, HONA.out, HNOA.out, fun h => by omega⟩
                case round =>
                  obtain ⟨q, hq, rfl, rfl, told, s2, rfl, hPQ, hok2, hon, hno, hlast⟩ := hrel.out
                  clear hrel
                  have HPQ := Lib.hid hPQ
                  have HOKQ := Lib.hid hok2
                  have HON := Lib.hid hon
                  have HNO := Lib.hid hno
                  by_cases hqn : q < 4
                  · have hqz : (q : Int) < 4 := by omega
                    obtain ⟨x, hx, hxl⟩ := four N0 g1 g2 hqn
                    have d0 : wr.cell? ⟨w4.heap.size, q, none⟩ = some (.int .i64 x) := by rw [plx_cell hPQ]; exact hx
                    have HLAST : Hid (q + 1 = 4 → mvL s2.l s2.now x = []) := Lib.hid (fun h => by rw [hxl (by omega)]; exact all_due hok2)
                    have HOND := Lib.hid hon
                    clear hPQ hok2 hon hno hlast hx hxl
                    cases told with
                    | true =>
                      have hdd : decide (((2 : Nat) : Int) ∈ mvD s2.l s2.now x) = false := by rw [(onc_move HON.out x).1]; simp
                      have HM := Lib.hid (plx_move (x := x) HPQ.out (HOKQ.out.mono (by omega)))
                      obtain ⟨o1, o2⟩ := onc_move HON.out x
                      have HLE : Hid (q + 1 = 4 → mvL s2.l s2.now x = []) := Lib.hid (fun h => HLAST.out h)
                      have HL1 : Hid (∀ t ∈ mvL s2.l s2.now x, t.id ≠ 1) := Lib.hid (fun t ht => HNO.out t (mvL_sub _ _ _ ht))
                      obtain ⟨D, hD⟩ : ∃ D, mvD s2.l s2.now x = D := ⟨_, rfl⟩
                      rw [hD] at o2 hdd
                      rw [hD] at HM
                      have HND : Hid (D.Nodup) := Lib.hid (by rw [← hD]; exact mvD_nodup HOKQ.out x)
                      have HNO1 : Hid (∀ i, i < D.length → D[i]! ≠ 1) := Lib.hid (by rw [← hD]; exact mvD_not HNO.out x)
                      rw [hdd] at o2
                      have HO2 := Lib.hid o2
                      have HDD : Hid (seen D 2 D.length = false) := Lib.hid (by rw [seen_all]; exact hdd)
                      have HMV := Lib.hid (HOKQ.out.move x)
                      have hDn : D.length ≤ 303 := by rw [← hD]; exact mvD_len HOKQ.out x
                      clear o1 o2 hdd hD
                      go_wp2_with fail
                      refine HM.out.mono ?_
                      rintro e w1 ⟨v, rfl, hr, hP1⟩
                      obtain ⟨av, cv, rfl, hnv, -⟩ := row_any hr
                      have HP1 := Lib.hid hP1
                      have HR := Lib.hid hr
                      obtain ⟨d, hdl⟩ : ∃ d, d = D.length := ⟨_, rfl⟩
                      rw [← hdl] at HR HDD hnv ⊢
                      have HDL := Lib.hid hdl
                      have hd1000 : d ≤ 100000 := by omega
                      clear hr hP1 hdl hDn
                      go_wp2_with fail
                      go_loopg [10, 11, 91] d (fun gg s10 s11 s91 wr => (∃ i : Nat, i + gg = d ∧ s91 = .int .i64 i ∧ s10 = .int .i64 0 ∧ Hid (s11 = .int .i64 (1 : Int))) ∧ wr = w1)
                      case atStart => exact ⟨⟨0, by omega, rfl, rfl, Lib.hid (rfl)⟩, rfl⟩
                      case round =>
                        obtain ⟨⟨i, hi, rfl, rfl, hs11⟩, hwr⟩ := hrel
                        subst hwr
                        have hs := hs11.out
                        subst hs
                        clear hs11
                        by_cases hid : i < d
                        · have hiz : (i : Int) < (d : Int) := by omega
                          have hr := HR.out
                          obtain ⟨g', c', e, _⟩ := row_slice hr (by omega)
                          simp only [Value.slice.injEq, true_and] at e
                          obtain ⟨rfl, rfl⟩ := e
                          have d0 := irow_at hr hid
                          have HN1 := Lib.hid (HNO1.out i (by rw [← HDL.out]; exact hid))
                          have HN2 := Lib.hid (seen_never (by rw [← HDL.out]; exact HDD.out) i (by rw [← HDL.out]; exact hid))
                          generalize D[i]! = y at d0 HN1 HN2
                          clear hr
                          have hy1 : ¬ y = 1 := HN1.out
                          have hyb1 : (y == 1) = false := by simpa using hy1
                          have hy2 : ¬ y = 2 := HN2.out
                          have hyb2 : (y == 2) = false := by simpa using hy2
                          go_wp2_with fail
                          go_roundg (d - (i + 1))
                          case measure => omega
                          case rel => exact ⟨⟨i + 1, by omega, by go_num, rfl, Lib.hid rfl⟩, rfl⟩
                        · obtain rfl : i = d := by omega
                          go_wp2_with fail
                          go_roundg (4 - (q + 1))
                          case measure => omega
                          case rel => exact Lib.hid ⟨q + 1, by omega, by go_num, rfl, true, ⟨_, _⟩, rfl, HP1.out, HMV.out, HO2.out, HL1.out, HLE.out⟩
                    | false =>
                      cases hdd : decide (((2 : Nat) : Int) ∈ mvD s2.l s2.now x) with
                      | true =>
                        have HM := Lib.hid (plx_move (x := x) HPQ.out (HOKQ.out.mono (by omega)))
                        obtain ⟨o1, o2⟩ := onc_move HON.out x
                        have HLE : Hid (q + 1 = 4 → mvL s2.l s2.now x = []) := Lib.hid (fun h => HLAST.out h)
                        have HL1 : Hid (∀ t ∈ mvL s2.l s2.now x, t.id ≠ 1) := Lib.hid (fun t ht => HNO.out t (mvL_sub _ _ _ ht))
                        obtain ⟨D, hD⟩ : ∃ D, mvD s2.l s2.now x = D := ⟨_, rfl⟩
                        rw [hD] at o2 hdd
                        rw [hD] at HM
                        have HND : Hid (D.Nodup) := Lib.hid (by rw [← hD]; exact mvD_nodup HOKQ.out x)
                        have HNO1 : Hid (∀ i, i < D.length → D[i]! ≠ 1) := Lib.hid (by rw [← hD]; exact mvD_not HNO.out x)
                        have hgn : g2 ≤ mvN s2.now x := onc_now HOND.out (by rw [hD]; exact hdd)
                        rw [hdd] at o2
                        have HO2 := Lib.hid o2
                        have HDD : Hid (seen D 2 D.length = true) := Lib.hid (by rw [seen_all]; exact hdd)
                        have HMV := Lib.hid (HOKQ.out.move x)
                        have hDn : D.length ≤ 303 := by rw [← hD]; exact mvD_len HOKQ.out x
                        clear o1 o2 hdd hD
                        go_wp2_with fail
                        refine HM.out.mono ?_
                        rintro e w1 ⟨v, rfl, hr, hP1⟩
                        obtain ⟨av, cv, rfl, hnv, -⟩ := row_any hr
                        have HP1 := Lib.hid hP1
                        have HR := Lib.hid hr
                        have HNW := Lib.hid (plx_now hP1)
                        simp only at HNW
                        generalize hn1 : mvN s2.now x = N1 at HNW hgn HMV HP1
                        have hgz : ¬ ((N1 : Int) < (g2 : Int)) := by omega
                        have hgd : decide (N1 < g2) = false := decide_eq_false (by omega)
                        clear hn1
                        obtain ⟨d, hdl⟩ : ∃ d, d = D.length := ⟨_, rfl⟩
                        rw [← hdl] at HR HDD hnv ⊢
                        have HDL := Lib.hid hdl
                        have hd1000 : d ≤ 100000 := by omega
                        clear hr hP1 hdl hDn
                        go_wp2_with fail
                        go_loopg [10, 11, 91] d (fun gg s10 s11 s91 wr => (∃ i : Nat, i + gg = d ∧ s91 = .int .i64 i ∧ s10 = .int .i64 0 ∧ Hid (s11 = .int .i64 (if seen D 2 i = true then 1 else 0 : Int))) ∧ wr = w1)
                        case atStart => exact ⟨⟨0, by omega, rfl, rfl, Lib.hid (by rw [seen_zero]; rfl)⟩, rfl⟩
                        case round =>
                          obtain ⟨⟨i, hi, rfl, rfl, hs11⟩, hwr⟩ := hrel
                          subst hwr
                          obtain ⟨sn, hsn⟩ : ∃ sn, seen D 2 i = sn := ⟨_, rfl⟩
                          have hs := hs11.out
                          rw [hsn] at hs
                          subst hs
                          clear hs11
                          have HSN := Lib.hid hsn
                          clear hsn
                          by_cases hid : i < d
                          · have hiz : (i : Int) < (d : Int) := by omega
                            have hr := HR.out
                            obtain ⟨g', c', e, _⟩ := row_slice hr (by omega)
                            simp only [Value.slice.injEq, true_and] at e
                            obtain ⟨rfl, rfl⟩ := e
                            have d0 := irow_at hr hid
                            have HSX := Lib.hid (seen_next D 2 (show i < D.length by rw [← HDL.out]; exact hid))
                            have HFR := Lib.hid (fun h2 => seen_fresh HND.out (show i < D.length by rw [← HDL.out]; exact hid) (i := 2) h2)
                            have HN1 := Lib.hid (HNO1.out i (by rw [← HDL.out]; exact hid))
                            generalize D[i]! = y at d0 HSX HFR HN1
                            clear hr
                            have hy1 : ¬ y = 1 := HN1.out
                            have hyb1 : (y == 1) = false := by simpa using hy1
                            by_cases hy : y = 2
                            · have hsf : sn = false := by rw [← HSN.out]; exact HFR.out hy
                              have HY : Hid (decide (y = 2) = true) := Lib.hid (decide_eq_true hy)
                              subst hsf
                              subst hy
                              clear hyb1 hy1
                              go_wp2_with fail
                              refine (HNW.out).mono ?_
                              rintro e w2 ⟨rfl, rfl⟩
                              go_wp2_with fail
                              go_roundg (d - (i + 1))
                              case measure => omega
                              case rel => exact ⟨⟨i + 1, by omega, by go_num, rfl, Lib.hid (by rw [HSX.out, HSN.out, HY.out]; rfl)⟩, rfl⟩
                            · have hyb : (y == 2) = false := by simpa using hy
                              have HY : Hid (decide (y = 2) = false) := Lib.hid (decide_eq_false hy)
                              cases sn with
                              | true =>
                                go_wp2_with fail
                                go_roundg (d - (i + 1))
                                case measure => omega
                                case rel => exact ⟨⟨i + 1, by omega, by go_num, rfl, Lib.hid (by rw [HSX.out, HSN.out]; rfl)⟩, rfl⟩
                              | false =>
                                go_wp2_with fail
                                go_roundg (d - (i + 1))
                                case measure => omega
                                case rel => exact ⟨⟨i + 1, by omega, by go_num, rfl, Lib.hid (by rw [HSX.out, HSN.out, HY.out]; rfl)⟩, rfl⟩
                          · obtain rfl : i = d := by omega
                            have e : sn = true := by rw [← HSN.out]; exact HDD.out
                            subst e
                            go_wp2_with fail
                            go_roundg (4 - (q + 1))
                            case measure => omega
                            case rel => exact Lib.hid ⟨q + 1, by omega, by go_num, rfl, true, ⟨_, _⟩, rfl, HP1.out, HMV.out, HO2.out, HL1.out, HLE.out⟩
                      | false =>
                        have HM := Lib.hid (plx_move (x := x) HPQ.out (HOKQ.out.mono (by omega)))
                        obtain ⟨o1, o2⟩ := onc_move HON.out x
                        have HLE : Hid (q + 1 = 4 → mvL s2.l s2.now x = []) := Lib.hid (fun h => HLAST.out h)
                        have HL1 : Hid (∀ t ∈ mvL s2.l s2.now x, t.id ≠ 1) := Lib.hid (fun t ht => HNO.out t (mvL_sub _ _ _ ht))
                        obtain ⟨D, hD⟩ : ∃ D, mvD s2.l s2.now x = D := ⟨_, rfl⟩
                        rw [hD] at o2 hdd
                        rw [hD] at HM
                        have HND : Hid (D.Nodup) := Lib.hid (by rw [← hD]; exact mvD_nodup HOKQ.out x)
                        have HNO1 : Hid (∀ i, i < D.length → D[i]! ≠ 1) := Lib.hid (by rw [← hD]; exact mvD_not HNO.out x)
                        rw [hdd] at o2
                        have HO2 := Lib.hid o2
                        have HDD : Hid (seen D 2 D.length = false) := Lib.hid (by rw [seen_all]; exact hdd)
                        have HMV := Lib.hid (HOKQ.out.move x)
                        have hDn : D.length ≤ 303 := by rw [← hD]; exact mvD_len HOKQ.out x
                        clear o1 o2 hdd hD
                        go_wp2_with fail
                        refine HM.out.mono ?_
                        rintro e w1 ⟨v, rfl, hr, hP1⟩
                        obtain ⟨av, cv, rfl, hnv, -⟩ := row_any hr
                        have HP1 := Lib.hid hP1
                        have HR := Lib.hid hr
                        obtain ⟨d, hdl⟩ : ∃ d, d = D.length := ⟨_, rfl⟩
                        rw [← hdl] at HR HDD hnv ⊢
                        have HDL := Lib.hid hdl
                        have hd1000 : d ≤ 100000 := by omega
                        clear hr hP1 hdl hDn
                        go_wp2_with fail
                        go_loopg [10, 11, 91] d (fun gg s10 s11 s91 wr => (∃ i : Nat, i + gg = d ∧ s91 = .int .i64 i ∧ s10 = .int .i64 0 ∧ Hid (s11 = .int .i64 (0 : Int))) ∧ wr = w1)
                        case atStart => exact ⟨⟨0, by omega, rfl, rfl, Lib.hid (rfl)⟩, rfl⟩
                        case round =>
                          obtain ⟨⟨i, hi, rfl, rfl, hs11⟩, hwr⟩ := hrel
                          subst hwr
                          have hs := hs11.out
                          subst hs
                          clear hs11
                          by_cases hid : i < d
                          · have hiz : (i : Int) < (d : Int) := by omega
                            have hr := HR.out
                            obtain ⟨g', c', e, _⟩ := row_slice hr (by omega)
                            simp only [Value.slice.injEq, true_and] at e
                            obtain ⟨rfl, rfl⟩ := e
                            have d0 := irow_at hr hid
                            have HN1 := Lib.hid (HNO1.out i (by rw [← HDL.out]; exact hid))
                            have HN2 := Lib.hid (seen_never (by rw [← HDL.out]; exact HDD.out) i (by rw [← HDL.out]; exact hid))
                            generalize D[i]! = y at d0 HN1 HN2
                            clear hr
                            have hy1 : ¬ y = 1 := HN1.out
                            have hyb1 : (y == 1) = false := by simpa using hy1
                            have hy2 : ¬ y = 2 := HN2.out
                            have hyb2 : (y == 2) = false := by simpa using hy2
                            go_wp2_with fail
                            go_roundg (d - (i + 1))
                            case measure => omega
                            case rel => exact ⟨⟨i + 1, by omega, by go_num, rfl, Lib.hid rfl⟩, rfl⟩
                          · obtain rfl : i = d := by omega
                            go_wp2_with fail
                            go_roundg (4 - (q + 1))
                            case measure => omega
                            case rel => exact Lib.hid ⟨q + 1, by omega, by go_num, rfl, false, ⟨_, _⟩, rfl, HP1.out, HMV.out, HO2.out, HL1.out, HLE.out⟩
                  · obtain rfl : q = 4 := by omega
                    have hnil := hlast rfl
                    have htt : told = true := by
                      rw [hnil] at hon
                      rcases hon with ⟨_, hm, _⟩ | ⟨h, _⟩
                      · simp at hm
                      · exact h
                    subst htt
                    have hle := plx_len hPQ
                    rw [hnil] at hle
                    have HLEN := Lib.hid (fun W hb => plx_len_grow hPQ hnil W hb)
                    clear hPQ hok2 hon hno hlast hnil hle
                    go_wp2_with fail
                    refine (HAL.out _).mono ?_
                    rintro e w6 ⟨rfl, hb3⟩
                    have HB3 := Lib.hid hb3
                    clear hb3
                    go_wp2_with fail
                    refine (HLEN.out _ HB3.out).mono ?_
                    rintro e w7 ⟨rfl, rfl⟩
                    go_wp2_with fail
                    go_ret
                    exact ⟨rfl, (plx_below HPQ.out).trans (HB3.out.mono (plx_below HPQ.out).size)⟩
              · have HBAD3 : Hid (inR 2 again = false) := Lib.hid (decide_eq_false (by omega))
                have p1 : decide (at_ < 0) = false := decide_eq_false (by omega)
                have p2 : decide (1099511627776 < at_) = false := decide_eq_false (by omega)
                have p3 : decide (again < 0) = false := decide_eq_false (by omega)
                have p4 : decide (1099511627776 < again) = true := decide_eq_true (by omega)
                go_wp2_with fail
                refine (pl_set (x := 1) (a := at_) HP.out (HOK.out.mono (by omega))).mono ?_
                rintro e w1 ⟨he, hP1⟩
                rw [show inR 1 at_ = true from HIN1.out] at he
                subst he
                have HP1 := Lib.hid hP1
                have HOK1 : Hid (OkS ⟨s.now, setL s.l 1 at_⟩ 301) := Lib.hid ⟨setL_fit HOK.out.fit _ _, HOK.out.now, Nat.le_trans (setL_len _ _ _) (by have := HOK.out.len; omega)⟩
                clear hP1
                go_wp2_with fail
                refine (pl_set (x := 2) (a := at_) HP1.out (HOK1.out.mono (by omega))).mono ?_
                rintro e w1 ⟨he, hP1⟩
                rw [show inR 2 at_ = true from HIN2.out] at he
                subst he
                have HP2 := Lib.hid hP1
                have HOK2 : Hid (OkS ⟨s.now, setL _ 2 at_⟩ 302) := Lib.hid ⟨setL_fit HOK1.out.fit _ _, HOK1.out.now, Nat.le_trans (setL_len _ _ _) (Nat.succ_le_succ HOK1.out.len)⟩
                clear hP1
                go_wp2_with fail
                refine (pl_set (x := 2) (a := again) HP2.out (HOK2.out.mono (by omega))).mono ?_
                rintro e w1 ⟨he, hP1⟩
                rw [show inR 2 again = false from HBAD3.out] at he
                subst he
                have HP3 := Lib.hid hP1
                have HOK3 : Hid (OkS ⟨s.now, setL _ 2 again⟩ 303) := Lib.hid ⟨setL_fit HOK2.out.fit _ _, HOK2.out.now, Nat.le_trans (setL_len _ _ _) (Nat.succ_le_succ HOK2.out.len)⟩
                clear hP1
                go_wp2_with fail
                refine (HAL.out _).mono ?_
                rintro e w3 ⟨rfl, hb3⟩
                have HB3 := Lib.hid hb3
                clear hb3
                go_wp2_with fail
                go_ret
                exact ⟨rfl, HP3.out.below.trans (HB3.out.mono HP3.out.below.size)⟩
            · have HBAD3 : Hid (inR 2 again = false) := Lib.hid (decide_eq_false (by omega))
              have p1 : decide (at_ < 0) = false := decide_eq_false (by omega)
              have p2 : decide (1099511627776 < at_) = false := decide_eq_false (by omega)
              have p3 : decide (again < 0) = true := decide_eq_true (by omega)
              go_wp2_with fail
              refine (pl_set (x := 1) (a := at_) HP.out (HOK.out.mono (by omega))).mono ?_
              rintro e w1 ⟨he, hP1⟩
              rw [show inR 1 at_ = true from HIN1.out] at he
              subst he
              have HP1 := Lib.hid hP1
              have HOK1 : Hid (OkS ⟨s.now, setL s.l 1 at_⟩ 301) := Lib.hid ⟨setL_fit HOK.out.fit _ _, HOK.out.now, Nat.le_trans (setL_len _ _ _) (by have := HOK.out.len; omega)⟩
              clear hP1
              go_wp2_with fail
              refine (pl_set (x := 2) (a := at_) HP1.out (HOK1.out.mono (by omega))).mono ?_
              rintro e w1 ⟨he, hP1⟩
              rw [show inR 2 at_ = true from HIN2.out] at he
              subst he
              have HP2 := Lib.hid hP1
              have HOK2 : Hid (OkS ⟨s.now, setL _ 2 at_⟩ 302) := Lib.hid ⟨setL_fit HOK1.out.fit _ _, HOK1.out.now, Nat.le_trans (setL_len _ _ _) (Nat.succ_le_succ HOK1.out.len)⟩
              clear hP1
              go_wp2_with fail
              refine (pl_set (x := 2) (a := again) HP2.out (HOK2.out.mono (by omega))).mono ?_
              rintro e w1 ⟨he, hP1⟩
              rw [show inR 2 again = false from HBAD3.out] at he
              subst he
              have HP3 := Lib.hid hP1
              have HOK3 : Hid (OkS ⟨s.now, setL _ 2 again⟩ 303) := Lib.hid ⟨setL_fit HOK2.out.fit _ _, HOK2.out.now, Nat.le_trans (setL_len _ _ _) (Nat.succ_le_succ HOK2.out.len)⟩
              clear hP1
              go_wp2_with fail
              refine (HAL.out _).mono ?_
              rintro e w3 ⟨rfl, hb3⟩
              have HB3 := Lib.hid hb3
              clear hb3
              go_wp2_with fail
              go_ret
              exact ⟨rfl, HP3.out.below.trans (HB3.out.mono HP3.out.below.size)⟩
          · have HBAD1 : Hid (inR 1 at_ = false) := Lib.hid (decide_eq_false (by omega))
            have p1 : decide (at_ < 0) = false := decide_eq_false (by omega)
            have p2 : decide (1099511627776 < at_) = true := decide_eq_true (by omega)
            go_wp2_with fail
            refine (pl_set (x := 1) (a := at_) HP.out (HOK.out.mono (by omega))).mono ?_
            rintro e w1 ⟨he, hP1⟩
            rw [show inR 1 at_ = false from HBAD1.out] at he
            subst he
            have HP1 := Lib.hid hP1
            have HOK1 : Hid (OkS ⟨s.now, setL s.l 1 at_⟩ 301) := Lib.hid ⟨setL_fit HOK.out.fit _ _, HOK.out.now, Nat.le_trans (setL_len _ _ _) (by have := HOK.out.len; omega)⟩
            clear hP1
            go_wp2_with fail
            refine (HAL.out _).mono ?_
            rintro e w3 ⟨rfl, hb3⟩
            have HB3 := Lib.hid hb3
            clear hb3
            go_wp2_with fail
            go_ret
            exact ⟨rfl, HP1.out.below.trans (HB3.out.mono HP1.out.below.size)⟩
        · have HBAD1 : Hid (inR 1 at_ = false) := Lib.hid (decide_eq_false (by omega))
          have p1 : decide (at_ < 0) = true := decide_eq_true (by omega)
          go_wp2_with fail
          refine (pl_set (x := 1) (a := at_) HP.out (HOK.out.mono (by omega))).mono ?_
          rintro e w1 ⟨he, hP1⟩
          rw [show inR 1 at_ = false from HBAD1.out] at he
          subst he
          have HP1 := Lib.hid hP1
          have HOK1 : Hid (OkS ⟨s.now, setL s.l 1 at_⟩ 301) := Lib.hid ⟨setL_fit HOK.out.fit _ _, HOK.out.now, Nat.le_trans (setL_len _ _ _) (by have := HOK.out.len; omega)⟩
          clear hP1
          go_wp2_with fail
          refine (HAL.out _).mono ?_
          rintro e w3 ⟨rfl, hb3⟩
          have HB3 := Lib.hid hb3
          clear hb3
          go_wp2_with fail
          go_ret
          exact ⟨rfl, HP1.out.below.trans (HB3.out.mono HP1.out.below.size)⟩

end Go.Proofs.Ythddphgeepgidaa
