/-
  What the function of WheelOnce does, whatever script, time and moves it is given.
-/
import Derived.Test.YthddphgeepgidaaOncePre
namespace Go.Proofs.Ythddphgeepgidaa
open Go.RowKit Go.Maps
set_option linter.unusedVariables false
set_option linter.unusedSimpArgs false
set_option maxRecDepth 10000


theorem Nums.at {w : World} {a : Option Addr} {n c : Nat} {l : List Int} (h : Nums w a n c l) {j : Nat} (hj : j < n) : ∃ b off, a = some ⟨b, off, none⟩ ∧ b < w.heap.size ∧ w.cell? ⟨b, off + j, none⟩ = some (.int .i64 l[j]!) ∧ I64 l[j]! := by
  obtain ⟨b, off, e, hb, hat⟩ := h.2.2.2 (by omega)
  have hl : j < l.length := by rw [← h.1]; exact hj
  exact ⟨b, off, e, hb, hat j hl, h.2.2.1 j hl⟩
theorem mvD_len {s : St} {n : Nat} (h : OkS s n) (x : Int) : (mvD s.l s.now x).length ≤ n := by
  unfold mvD
  split
  · rw [ids_len]; exact Nat.le_trans (List.length_filter_le _ _) h.len
  · simp

def OnRel (w : World) (B n2 g gg : Nat) (s10 s63 : Value) (wr : World) : Prop :=
  ∃ q : Nat, q + gg = n2 ∧ s63 = .int .i64 q ∧ ∃ (told : Bool) (s : St), s10 = .bool told ∧ Pl w wr B s ∧ OkS s 301 ∧ Onc s.l 1 g told

set_option maxHeartbeats 8000000 in
theorem once_walk (a : Option Addr) (n c : Nat) (l : List Opr) (at_ : Int) (a2 : Option Addr) (n2 c2 : Nat) (ms : List Int) (w : World) (hS : Scr w a n c l) (hat : (Lit.int .i64 at_).wf = true) (hM : Nums w a2 n2 c2 ms) :
    Calls Try.prog 5 #[.slice a n c, .int .i64 at_, .slice a2 n2 c2] w fun e w' => e = .returned (.bool true) ∧ Below w.heap.size w w' := by
  have HS := Lib.hid hS
  have HN := Lib.hid hS.1
  have hnc := hS.2.1
  have HMS := Lib.hid hM
  have hnc2 := hM.2.1
  have HAL := Lib.hid (fun w => alive_any w)
  have HNEW := Lib.hid (pl_new w)
  have hat2 := bounds_i64 hat
  have HAT := Lib.hid hat2
  clear hS hM hat hat2
  by_cases hbig : n > 300
  · have hbz : (n : Int) > 300 := by omega
    go_enter Try.func5, Try.ntmps5
    go_wp2_with fail
    refine HNEW.out.mono ?_
    rintro e w0 ⟨B, rfl, hP⟩
    have HP := Lib.hid hP
    clear hP
    go_wp2_with (go_at_call 10; refine (HAL.out _).mono ?_; rintro e w1 ⟨rfl, hb1⟩; have HB1 := Lib.hid hb1; clear hb1)
    go_ret
    exact ⟨rfl, HP.out.below.trans (HB1.out.mono HP.out.below.size)⟩
  · have hbz : ¬ ((n : Int) > 300) := by omega
    by_cases hbig2 : n2 > 300
    · have hbz2 : (n2 : Int) > 300 := by omega
      go_enter Try.func5, Try.ntmps5
      go_wp2_with fail
      refine HNEW.out.mono ?_
      rintro e w0 ⟨B, rfl, hP⟩
      have HP := Lib.hid hP
      clear hP
      go_wp2_with (go_at_call 10; refine (HAL.out _).mono ?_; rintro e w1 ⟨rfl, hb1⟩; have HB1 := Lib.hid hb1; clear hb1)
      go_ret
      exact ⟨rfl, HP.out.below.trans (HB1.out.mono HP.out.below.size)⟩
    · have hbz2 : ¬ ((n2 : Int) > 300) := by omega
      go_enter Try.func5, Try.ntmps5
      go_wp2_with fail
      refine HNEW.out.mono ?_
      rintro e w0 ⟨B, rfl, hP⟩
      have HP := Lib.hid hP
      clear hP
      go_wp2_with fail
      go_loopg [40] n (fun gg sj wr => Hid (ScRel w B n l gg sj wr))
      case atStart => exact Lib.hid ⟨0, by omega, rfl, HP.out⟩
      case round =>
        obtain ⟨j, hj, rfl, hP⟩ := hrel.out
        clear hrel
        by_cases hjn : j < n
        · have hjz : (j : Int) < (n : Int) := by omega
          obtain ⟨b, off, rfl, hbb, d0, d1, d2, hi⟩ := (HS.out.below hP.below).at hjn
          have HNX := Lib.hid (runS_next l (by rw [← HN.out]; exact hjn))
          have hok : OkS (runS (l.take j)) 990 := (runS_ok l j (by rw [← HN.out]; omega)).mono (by omega)
          generalize hX : l[j]! = X at d0 d1 d2 hi HNX
          obtain ⟨xk, xi, xa⟩ := X
          have HDO := Lib.hid (pl_does (k := xk) (i := xi) (a := xa) (hP.grow (below_alloc (Below.refl _ _) (.cells #[.int .i64 xk, .int .i64 xi, .int .i64 xa] 38))) hok hi)
          simp only at d0 d1 d2 HDO
          clear hX hP hok hi
          go_wp2_with (go_at_call 14; refine HDO.out.mono ?_; rintro e w1 ⟨v, rfl, hP1⟩; have HP1 := Lib.hid hP1; clear hP1)
          go_roundg (n - (j + 1))
          case measure => omega
          case rel => exact Lib.hid ⟨j + 1, by omega, by go_num, by rw [HNX.out]; exact HP1.out⟩
        · obtain rfl : j = n := by omega
          have hok := runS_ok l j (by rw [← HN.out]; exact Nat.le_refl _)
          generalize runS (l.take j) = s at hP hok
          have HP := Lib.hid hP
          have HOK := Lib.hid (hok.mono (show j ≤ 300 by omega))
          clear hP hok
          by_cases hr : 0 ≤ at_ ∧ at_ ≤ 1099511627776
          · have hin : inR 1 at_ = true := decide_eq_true (by omega)
            have HSET := Lib.hid (pl_set (x := 1) (a := at_) HP.out (HOK.out.mono (by omega)))
            obtain ⟨g, rfl⟩ := Int.eq_ofNat_of_zero_le hr.1
            have HON := Lib.hid (onc_set s.l HOK.out.fit (i := 1) (g := g) (by omega) (by omega))
            have HOK1 : Hid (OkS ⟨s.now, setL s.l 1 (g : Int)⟩ 301) := Lib.hid ⟨setL_fit HOK.out.fit _ _, HOK.out.now, Nat.le_trans (setL_len _ _ _) (by have := HOK.out.len; omega)⟩
            simp only [hin] at HSET
            clear hin
            go_wp2_with fail
            refine HSET.out.mono ?_
            rintro e w1 ⟨rfl, hP1⟩
            have HP1 := Lib.hid hP1
            clear hP1
            go_wp2_with fail
            go_loopg [10, 63] n2 (fun gg s10 s63 wr => Hid (OnRel w B n2 g gg s10 s63 wr))
            case atStart => exact Lib.hid ⟨0, by omega, rfl, false, ⟨_, _⟩, rfl, HP1.out, HOK1.out, HON.out⟩
            case round =>
              obtain ⟨q, hq, rfl, told, s2, rfl, hPQ, hok2, hon⟩ := hrel.out
              clear hrel
              have HPQ := Lib.hid hPQ
              have HOKQ := Lib.hid hok2
              have HON := Lib.hid hon
              have HNO := Lib.hid (pl_now hPQ)
              by_cases hqn : q < n2
              · have hqz : (q : Int) < (n2 : Int) := by omega
                obtain ⟨mb, moff, rfl, hmb, d0, -⟩ := (HMS.out.below hPQ.below).at hqn
                generalize ms[q]! = x at d0
                clear hPQ hok2 hon
                cases told with
                | true =>
                  have h1 : True := trivial
                  have h2 : True := trivial
                  have h3 : True := trivial
                  have HM := Lib.hid (pl_move (x := x) HPQ.out (HOKQ.out.mono (by omega)))
                  obtain ⟨D, hD⟩ : ∃ D, mvD s2.l s2.now x = D := ⟨_, rfl⟩
                  obtain ⟨o1, o2⟩ := onc_move HON.out x
                  rw [hD] at o1 o2
                  rw [hD] at HM
                  have hdd : decide (((1 : Nat) : Int) ∈ D) = false := by rw [o1]; simp [h1, h2, h3, okM]
                  rw [hdd] at o2
                  have HO2 := Lib.hid o2
                  have HDD : Hid (seen D 1 D.length = false) := Lib.hid (by rw [seen_all]; exact hdd)
                  have HMV := Lib.hid (HOKQ.out.move x)
                  have hDn : D.length ≤ 301 := by rw [← hD]; exact mvD_len HOKQ.out x
                  clear o1 o2 hdd hD
                  go_wp2_with fail
                  refine (HNO.out).mono ?_
                  rintro e w1 ⟨rfl, rfl⟩
                  go_wp2_with fail
                  refine HM.out.mono ?_
                  rintro e w1 ⟨v, rfl, hr, hP1⟩
                  obtain ⟨av, cv, rfl, hnv, -⟩ := row_any hr
                  have HP1 := Lib.hid hP1
                  have HR := Lib.hid hr
                  obtain ⟨d, hdl⟩ : ∃ d, d = D.length := ⟨_, rfl⟩
                  rw [← hdl] at HR HDD hnv ⊢
                  have HDL := Lib.hid hdl
                  have hd1000 : d ≤ 100000 := by omega
                  clear hr hP1 hdl hDn
                  go_wp2_with fail
                  go_loopg [15, 89] d (fun gg s15 s89 wr => (∃ i : Nat, i + gg = d ∧ s89 = .int .i64 i ∧ Hid (s15 = .bool (seen D 1 i))) ∧ wr = w1)
                  case atStart => exact ⟨⟨0, by omega, rfl, Lib.hid (by rw [seen_zero])⟩, rfl⟩
                  case round =>
                    obtain ⟨⟨i, hi, rfl, hs15⟩, hwr⟩ := hrel
                    subst hwr
                    obtain ⟨sn, hsn⟩ : ∃ sn, seen D 1 i = sn := ⟨_, rfl⟩
                    have hs := hs15.out
                    rw [hsn] at hs
                    subst hs
                    clear hs15
                    have HSN := Lib.hid hsn
                    clear hsn
                    by_cases hid : i < d
                    · have hiz : (i : Int) < (d : Int) := by omega
                      have hr := HR.out
                      obtain ⟨g', c', e, _⟩ := row_slice hr (by omega)
                      simp only [Value.slice.injEq, true_and] at e
                      obtain ⟨rfl, rfl⟩ := e
                      have d0 := irow_at hr hid
                      have HSX := Lib.hid (seen_next D 1 (show i < D.length by rw [← HDL.out]; exact hid))
                      generalize D[i]! = y at d0 HSX
                      clear hr
                      cases sn with
                      | true =>
                        go_wp2_with fail
                        go_roundg (d - (i + 1))
                        case measure => omega
                        case rel => exact ⟨⟨i + 1, by omega, by go_num, Lib.hid (by rw [HSX.out, HSN.out]; rfl)⟩, rfl⟩
                      | false =>
                        by_cases hy : y = 1
                        · have hyd : decide (y = 1) = true := decide_eq_true hy
                          have HY := Lib.hid hyd
                          clear hy hyd
                          have hyb : (y == 1) = true := by have := HY.out; simpa using this
                          go_wp2_with fail
                          go_roundg (d - (i + 1))
                          case measure => omega
                          case rel => exact ⟨⟨i + 1, by omega, by go_num, Lib.hid (by rw [HSX.out, HSN.out, HY.out]; rfl)⟩, rfl⟩
                        · have hyd : decide (y = 1) = false := decide_eq_false hy
                          have HY := Lib.hid hyd
                          have hyb : (y == 1) = false := by simpa using hy
                          go_wp2_with fail
                          go_roundg (d - (i + 1))
                          case measure => omega
                          case rel => exact ⟨⟨i + 1, by omega, by go_num, Lib.hid (by rw [HSX.out, HSN.out, HY.out]; rfl)⟩, rfl⟩
                    · obtain rfl : i = d := by omega
                      have e : sn = false := by rw [← HSN.out]; exact HDD.out
                      subst e
                      go_wp2_with fail
                      go_roundg (n2 - (q + 1))
                      case measure => omega
                      case rel => exact Lib.hid ⟨q + 1, by omega, by go_num, true, ⟨_, _⟩, rfl, HP1.out, HMV.out, HO2.out⟩
                | false =>
                  by_cases h1 : (s2.now : Int) ≤ x
                  · by_cases h2 : x ≤ 1099511627776
                    · by_cases h3 : (g : Int) ≤ x
                      · have p1 : decide ((s2.now : Int) ≤ x) = true := decide_eq_true h1
                        have p2 : decide (x ≤ 1099511627776) = true := decide_eq_true h2
                        have p3 : decide ((g : Int) ≤ x) = true := decide_eq_true h3
                        have HM := Lib.hid (pl_move (x := x) HPQ.out (HOKQ.out.mono (by omega)))
                        obtain ⟨D, hD⟩ : ∃ D, mvD s2.l s2.now x = D := ⟨_, rfl⟩
                        obtain ⟨o1, o2⟩ := onc_move HON.out x
                        rw [hD] at o1 o2
                        rw [hD] at HM
                        have hdd : decide (((1 : Nat) : Int) ∈ D) = true := by rw [o1]; simp [h1, h2, h3, okM]
                        rw [hdd] at o2
                        have HO2 := Lib.hid o2
                        have HDD : Hid (seen D 1 D.length = true) := Lib.hid (by rw [seen_all]; exact hdd)
                        have HMV := Lib.hid (HOKQ.out.move x)
                        have hDn : D.length ≤ 301 := by rw [← hD]; exact mvD_len HOKQ.out x
                        clear o1 o2 hdd hD
                        go_wp2_with fail
                        refine (HNO.out).mono ?_
                        rintro e w1 ⟨rfl, rfl⟩
                        go_wp2_with fail
                        refine HM.out.mono ?_
                        rintro e w1 ⟨v, rfl, hr, hP1⟩
                        obtain ⟨av, cv, rfl, hnv, -⟩ := row_any hr
                        have HP1 := Lib.hid hP1
                        have HR := Lib.hid hr
                        obtain ⟨d, hdl⟩ : ∃ d, d = D.length := ⟨_, rfl⟩
                        rw [← hdl] at HR HDD hnv ⊢
                        have HDL := Lib.hid hdl
                        have hd1000 : d ≤ 100000 := by omega
                        clear hr hP1 hdl hDn
                        go_wp2_with fail
                        go_loopg [15, 89] d (fun gg s15 s89 wr => (∃ i : Nat, i + gg = d ∧ s89 = .int .i64 i ∧ Hid (s15 = .bool (seen D 1 i))) ∧ wr = w1)
                        case atStart => exact ⟨⟨0, by omega, rfl, Lib.hid (by rw [seen_zero])⟩, rfl⟩
                        case round =>
                          obtain ⟨⟨i, hi, rfl, hs15⟩, hwr⟩ := hrel
                          subst hwr
                          obtain ⟨sn, hsn⟩ : ∃ sn, seen D 1 i = sn := ⟨_, rfl⟩
                          have hs := hs15.out
                          rw [hsn] at hs
                          subst hs
                          clear hs15
                          have HSN := Lib.hid hsn
                          clear hsn
                          by_cases hid : i < d
                          · have hiz : (i : Int) < (d : Int) := by omega
                            have hr := HR.out
                            obtain ⟨g', c', e, _⟩ := row_slice hr (by omega)
                            simp only [Value.slice.injEq, true_and] at e
                            obtain ⟨rfl, rfl⟩ := e
                            have d0 := irow_at hr hid
                            have HSX := Lib.hid (seen_next D 1 (show i < D.length by rw [← HDL.out]; exact hid))
                            generalize D[i]! = y at d0 HSX
                            clear hr
                            cases sn with
                            | true =>
                              go_wp2_with fail
                              go_roundg (d - (i + 1))
                              case measure => omega
                              case rel => exact ⟨⟨i + 1, by omega, by go_num, Lib.hid (by rw [HSX.out, HSN.out]; rfl)⟩, rfl⟩
                            | false =>
                              by_cases hy : y = 1
                              · have hyd : decide (y = 1) = true := decide_eq_true hy
                                have HY := Lib.hid hyd
                                clear hy hyd
                                have hyb : (y == 1) = true := by have := HY.out; simpa using this
                                go_wp2_with fail
                                go_roundg (d - (i + 1))
                                case measure => omega
                                case rel => exact ⟨⟨i + 1, by omega, by go_num, Lib.hid (by rw [HSX.out, HSN.out, HY.out]; rfl)⟩, rfl⟩
                              · have hyd : decide (y = 1) = false := decide_eq_false hy
                                have HY := Lib.hid hyd
                                have hyb : (y == 1) = false := by simpa using hy
                                go_wp2_with fail
                                go_roundg (d - (i + 1))
                                case measure => omega
                                case rel => exact ⟨⟨i + 1, by omega, by go_num, Lib.hid (by rw [HSX.out, HSN.out, HY.out]; rfl)⟩, rfl⟩
                          · obtain rfl : i = d := by omega
                            have e : sn = true := by rw [← HSN.out]; exact HDD.out
                            subst e
                            go_wp2_with fail
                            go_roundg (n2 - (q + 1))
                            case measure => omega
                            case rel => exact Lib.hid ⟨q + 1, by omega, by go_num, true, ⟨_, _⟩, rfl, HP1.out, HMV.out, HO2.out⟩
                      · have p1 : decide ((s2.now : Int) ≤ x) = true := decide_eq_true h1
                        have p2 : decide (x ≤ 1099511627776) = true := decide_eq_true h2
                        have p3 : decide ((g : Int) ≤ x) = false := decide_eq_false h3
                        have HM := Lib.hid (pl_move (x := x) HPQ.out (HOKQ.out.mono (by omega)))
                        obtain ⟨D, hD⟩ : ∃ D, mvD s2.l s2.now x = D := ⟨_, rfl⟩
                        obtain ⟨o1, o2⟩ := onc_move HON.out x
                        rw [hD] at o1 o2
                        rw [hD] at HM
                        have hdd : decide (((1 : Nat) : Int) ∈ D) = false := by rw [o1]; simp [h1, h2, h3, okM]
                        rw [hdd] at o2
                        have HO2 := Lib.hid o2
                        have HDD : Hid (seen D 1 D.length = false) := Lib.hid (by rw [seen_all]; exact hdd)
                        have HMV := Lib.hid (HOKQ.out.move x)
                        have hDn : D.length ≤ 301 := by rw [← hD]; exact mvD_len HOKQ.out x
                        clear o1 o2 hdd hD
                        go_wp2_with fail
                        refine (HNO.out).mono ?_
                        rintro e w1 ⟨rfl, rfl⟩
                        go_wp2_with fail
                        refine HM.out.mono ?_
                        rintro e w1 ⟨v, rfl, hr, hP1⟩
                        obtain ⟨av, cv, rfl, hnv, -⟩ := row_any hr
                        have HP1 := Lib.hid hP1
                        have HR := Lib.hid hr
                        obtain ⟨d, hdl⟩ : ∃ d, d = D.length := ⟨_, rfl⟩
                        rw [← hdl] at HR HDD hnv ⊢
                        have HDL := Lib.hid hdl
                        have hd1000 : d ≤ 100000 := by omega
                        clear hr hP1 hdl hDn
                        go_wp2_with fail
                        go_loopg [15, 89] d (fun gg s15 s89 wr => (∃ i : Nat, i + gg = d ∧ s89 = .int .i64 i ∧ Hid (s15 = .bool (seen D 1 i))) ∧ wr = w1)
                        case atStart => exact ⟨⟨0, by omega, rfl, Lib.hid (by rw [seen_zero])⟩, rfl⟩
                        case round =>
                          obtain ⟨⟨i, hi, rfl, hs15⟩, hwr⟩ := hrel
                          subst hwr
                          obtain ⟨sn, hsn⟩ : ∃ sn, seen D 1 i = sn := ⟨_, rfl⟩
                          have hs := hs15.out
                          rw [hsn] at hs
                          subst hs
                          clear hs15
                          have HSN := Lib.hid hsn
                          clear hsn
                          by_cases hid : i < d
                          · have hiz : (i : Int) < (d : Int) := by omega
                            have hr := HR.out
                            obtain ⟨g', c', e, _⟩ := row_slice hr (by omega)
                            simp only [Value.slice.injEq, true_and] at e
                            obtain ⟨rfl, rfl⟩ := e
                            have d0 := irow_at hr hid
                            have HSX := Lib.hid (seen_next D 1 (show i < D.length by rw [← HDL.out]; exact hid))
                            generalize D[i]! = y at d0 HSX
                            clear hr
                            cases sn with
                            | true =>
                              go_wp2_with fail
                              go_roundg (d - (i + 1))
                              case measure => omega
                              case rel => exact ⟨⟨i + 1, by omega, by go_num, Lib.hid (by rw [HSX.out, HSN.out]; rfl)⟩, rfl⟩
                            | false =>
                              by_cases hy : y = 1
                              · have hyd : decide (y = 1) = true := decide_eq_true hy
                                have HY := Lib.hid hyd
                                clear hy hyd
                                have hyb : (y == 1) = true := by have := HY.out; simpa using this
                                go_wp2_with fail
                                go_roundg (d - (i + 1))
                                case measure => omega
                                case rel => exact ⟨⟨i + 1, by omega, by go_num, Lib.hid (by rw [HSX.out, HSN.out, HY.out]; rfl)⟩, rfl⟩
                              · have hyd : decide (y = 1) = false := decide_eq_false hy
                                have HY := Lib.hid hyd
                                have hyb : (y == 1) = false := by simpa using hy
                                go_wp2_with fail
                                go_roundg (d - (i + 1))
                                case measure => omega
                                case rel => exact ⟨⟨i + 1, by omega, by go_num, Lib.hid (by rw [HSX.out, HSN.out, HY.out]; rfl)⟩, rfl⟩
                          · obtain rfl : i = d := by omega
                            have e : sn = false := by rw [← HSN.out]; exact HDD.out
                            subst e
                            go_wp2_with fail
                            go_roundg (n2 - (q + 1))
                            case measure => omega
                            case rel => exact Lib.hid ⟨q + 1, by omega, by go_num, false, ⟨_, _⟩, rfl, HP1.out, HMV.out, HO2.out⟩
                    · have h3 : True := trivial
                      have p1 : decide ((s2.now : Int) ≤ x) = true := decide_eq_true h1
                      have p2 : decide (x ≤ 1099511627776) = false := decide_eq_false h2
                      have HM := Lib.hid (pl_move (x := x) HPQ.out (HOKQ.out.mono (by omega)))
                      obtain ⟨D, hD⟩ : ∃ D, mvD s2.l s2.now x = D := ⟨_, rfl⟩
                      obtain ⟨o1, o2⟩ := onc_move HON.out x
                      rw [hD] at o1 o2
                      rw [hD] at HM
                      have hdd : decide (((1 : Nat) : Int) ∈ D) = false := by rw [o1]; simp [h1, h2, h3, okM]
                      rw [hdd] at o2
                      have HO2 := Lib.hid o2
                      have HDD : Hid (seen D 1 D.length = false) := Lib.hid (by rw [seen_all]; exact hdd)
                      have HMV := Lib.hid (HOKQ.out.move x)
                      have hDn : D.length ≤ 301 := by rw [← hD]; exact mvD_len HOKQ.out x
                      clear o1 o2 hdd hD
                      go_wp2_with fail
                      refine (HNO.out).mono ?_
                      rintro e w1 ⟨rfl, rfl⟩
                      go_wp2_with fail
                      refine HM.out.mono ?_
                      rintro e w1 ⟨v, rfl, hr, hP1⟩
                      obtain ⟨av, cv, rfl, hnv, -⟩ := row_any hr
                      have HP1 := Lib.hid hP1
                      have HR := Lib.hid hr
                      obtain ⟨d, hdl⟩ : ∃ d, d = D.length := ⟨_, rfl⟩
                      rw [← hdl] at HR HDD hnv ⊢
                      have HDL := Lib.hid hdl
                      have hd1000 : d ≤ 100000 := by omega
                      clear hr hP1 hdl hDn
                      go_wp2_with fail
                      go_loopg [15, 89] d (fun gg s15 s89 wr => (∃ i : Nat, i + gg = d ∧ s89 = .int .i64 i ∧ Hid (s15 = .bool (seen D 1 i))) ∧ wr = w1)
                      case atStart => exact ⟨⟨0, by omega, rfl, Lib.hid (by rw [seen_zero])⟩, rfl⟩
                      case round =>
                        obtain ⟨⟨i, hi, rfl, hs15⟩, hwr⟩ := hrel
                        subst hwr
                        obtain ⟨sn, hsn⟩ : ∃ sn, seen D 1 i = sn := ⟨_, rfl⟩
                        have hs := hs15.out
                        rw [hsn] at hs
                        subst hs
                        clear hs15
                        have HSN := Lib.hid hsn
                        clear hsn
                        by_cases hid : i < d
                        · have hiz : (i : Int) < (d : Int) := by omega
                          have hr := HR.out
                          obtain ⟨g', c', e, _⟩ := row_slice hr (by omega)
                          simp only [Value.slice.injEq, true_and] at e
                          obtain ⟨rfl, rfl⟩ := e
                          have d0 := irow_at hr hid
                          have HSX := Lib.hid (seen_next D 1 (show i < D.length by rw [← HDL.out]; exact hid))
                          generalize D[i]! = y at d0 HSX
                          clear hr
                          cases sn with
                          | true =>
                            go_wp2_with fail
                            go_roundg (d - (i + 1))
                            case measure => omega
                            case rel => exact ⟨⟨i + 1, by omega, by go_num, Lib.hid (by rw [HSX.out, HSN.out]; rfl)⟩, rfl⟩
                          | false =>
                            by_cases hy : y = 1
                            · have hyd : decide (y = 1) = true := decide_eq_true hy
                              have HY := Lib.hid hyd
                              clear hy hyd
                              have hyb : (y == 1) = true := by have := HY.out; simpa using this
                              go_wp2_with fail
                              go_roundg (d - (i + 1))
                              case measure => omega
                              case rel => exact ⟨⟨i + 1, by omega, by go_num, Lib.hid (by rw [HSX.out, HSN.out, HY.out]; rfl)⟩, rfl⟩
                            · have hyd : decide (y = 1) = false := decide_eq_false hy
                              have HY := Lib.hid hyd
                              have hyb : (y == 1) = false := by simpa using hy
                              go_wp2_with fail
                              go_roundg (d - (i + 1))
                              case measure => omega
                              case rel => exact ⟨⟨i + 1, by omega, by go_num, Lib.hid (by rw [HSX.out, HSN.out, HY.out]; rfl)⟩, rfl⟩
                        · obtain rfl : i = d := by omega
                          have e : sn = false := by rw [← HSN.out]; exact HDD.out
                          subst e
                          go_wp2_with fail
                          go_roundg (n2 - (q + 1))
                          case measure => omega
                          case rel => exact Lib.hid ⟨q + 1, by omega, by go_num, false, ⟨_, _⟩, rfl, HP1.out, HMV.out, HO2.out⟩
                  · have h2 : True := trivial
                    have h3 : True := trivial
                    have p1 : decide ((s2.now : Int) ≤ x) = false := decide_eq_false h1
                    have HM := Lib.hid (pl_move (x := x) HPQ.out (HOKQ.out.mono (by omega)))
                    obtain ⟨D, hD⟩ : ∃ D, mvD s2.l s2.now x = D := ⟨_, rfl⟩
                    obtain ⟨o1, o2⟩ := onc_move HON.out x
                    rw [hD] at o1 o2
                    rw [hD] at HM
                    have hdd : decide (((1 : Nat) : Int) ∈ D) = false := by rw [o1]; simp [h1, h2, h3, okM]
                    rw [hdd] at o2
                    have HO2 := Lib.hid o2
                    have HDD : Hid (seen D 1 D.length = false) := Lib.hid (by rw [seen_all]; exact hdd)
                    have HMV := Lib.hid (HOKQ.out.move x)
                    have hDn : D.length ≤ 301 := by rw [← hD]; exact mvD_len HOKQ.out x
                    clear o1 o2 hdd hD
                    go_wp2_with fail
                    refine (HNO.out).mono ?_
                    rintro e w1 ⟨rfl, rfl⟩
                    go_wp2_with fail
                    refine HM.out.mono ?_
                    rintro e w1 ⟨v, rfl, hr, hP1⟩
                    obtain ⟨av, cv, rfl, hnv, -⟩ := row_any hr
                    have HP1 := Lib.hid hP1
                    have HR := Lib.hid hr
                    obtain ⟨d, hdl⟩ : ∃ d, d = D.length := ⟨_, rfl⟩
                    rw [← hdl] at HR HDD hnv ⊢
                    have HDL := Lib.hid hdl
                    have hd1000 : d ≤ 100000 := by omega
                    clear hr hP1 hdl hDn
                    go_wp2_with fail
                    go_loopg [15, 89] d (fun gg s15 s89 wr => (∃ i : Nat, i + gg = d ∧ s89 = .int .i64 i ∧ Hid (s15 = .bool (seen D 1 i))) ∧ wr = w1)
                    case atStart => exact ⟨⟨0, by omega, rfl, Lib.hid (by rw [seen_zero])⟩, rfl⟩
                    case round =>
                      obtain ⟨⟨i, hi, rfl, hs15⟩, hwr⟩ := hrel
                      subst hwr
                      obtain ⟨sn, hsn⟩ : ∃ sn, seen D 1 i = sn := ⟨_, rfl⟩
                      have hs := hs15.out
                      rw [hsn] at hs
                      subst hs
                      clear hs15
                      have HSN := Lib.hid hsn
                      clear hsn
                      by_cases hid : i < d
                      · have hiz : (i : Int) < (d : Int) := by omega
                        have hr := HR.out
                        obtain ⟨g', c', e, _⟩ := row_slice hr (by omega)
                        simp only [Value.slice.injEq, true_and] at e
                        obtain ⟨rfl, rfl⟩ := e
                        have d0 := irow_at hr hid
                        have HSX := Lib.hid (seen_next D 1 (show i < D.length by rw [← HDL.out]; exact hid))
                        generalize D[i]! = y at d0 HSX
                        clear hr
                        cases sn with
                        | true =>
                          go_wp2_with fail
                          go_roundg (d - (i + 1))
                          case measure => omega
                          case rel => exact ⟨⟨i + 1, by omega, by go_num, Lib.hid (by rw [HSX.out, HSN.out]; rfl)⟩, rfl⟩
                        | false =>
                          by_cases hy : y = 1
                          · have hyd : decide (y = 1) = true := decide_eq_true hy
                            have HY := Lib.hid hyd
                            clear hy hyd
                            have hyb : (y == 1) = true := by have := HY.out; simpa using this
                            go_wp2_with fail
                            go_roundg (d - (i + 1))
                            case measure => omega
                            case rel => exact ⟨⟨i + 1, by omega, by go_num, Lib.hid (by rw [HSX.out, HSN.out, HY.out]; rfl)⟩, rfl⟩
                          · have hyd : decide (y = 1) = false := decide_eq_false hy
                            have HY := Lib.hid hyd
                            have hyb : (y == 1) = false := by simpa using hy
                            go_wp2_with fail
                            go_roundg (d - (i + 1))
                            case measure => omega
                            case rel => exact ⟨⟨i + 1, by omega, by go_num, Lib.hid (by rw [HSX.out, HSN.out, HY.out]; rfl)⟩, rfl⟩
                      · obtain rfl : i = d := by omega
                        have e : sn = false := by rw [← HSN.out]; exact HDD.out
                        subst e
                        go_wp2_with fail
                        go_roundg (n2 - (q + 1))
                        case measure => omega
                        case rel => exact Lib.hid ⟨q + 1, by omega, by go_num, false, ⟨_, _⟩, rfl, HP1.out, HMV.out, HO2.out⟩
              · obtain rfl : q = n2 := by omega
                have hwn := pl_when (x := 1) hPQ ⟨by omega, by omega⟩
                have hlk := onc_look hon
                rw [show ((1 : Nat) : Int) = 1 from rfl] at hlk
                rw [hlk] at hwn
                generalize ((look s2.l 1).getD 0 : Nat) = pp at hwn
                have HWN := Lib.hid hwn
                clear hPQ hok2 hon hwn hlk
                go_wp2_with fail
                refine HWN.out.mono ?_
                rintro e w2 ⟨rfl, rfl⟩
                go_wp2_with fail
                refine (HAL.out _).mono ?_
                rintro e w3 ⟨rfl, hb3⟩
                have HB3 := Lib.hid hb3
                clear hb3
                cases told with
                | true =>
                  go_wp2_with fail
                  go_ret
                  exact ⟨rfl, HPQ.out.below.trans (HB3.out.mono HPQ.out.below.size)⟩
                | false =>
                  go_wp2_with fail
                  go_ret
                  exact ⟨rfl, HPQ.out.below.trans (HB3.out.mono HPQ.out.below.size)⟩
          · have hin : inR 1 at_ = false := decide_eq_false (by omega)
            have HSET := Lib.hid (pl_set (x := 1) (a := at_) HP.out (HOK.out.mono (by omega)))
            simp only [hin] at HSET
            clear hin
            by_cases h0 : at_ < 0
            · have p0 : decide (at_ < 0) = true := decide_eq_true h0
              clear hr
              go_wp2_with fail
              refine HSET.out.mono ?_
              rintro e w1 ⟨rfl, hP1⟩
              have HP1 := Lib.hid hP1
              clear hP1
              go_wp2_with fail
              refine (HAL.out _).mono ?_
              rintro e w3 ⟨rfl, hb3⟩
              have HB3 := Lib.hid hb3
              clear hb3
              go_wp2_with fail
              go_ret
              exact ⟨rfl, HP1.out.below.trans (HB3.out.mono HP1.out.below.size)⟩
            · have h9 : 1099511627776 < at_ := by omega
              have p0 : decide (at_ < 0) = false := decide_eq_false h0
              have p9 : decide (1099511627776 < at_) = true := decide_eq_true h9
              clear hr
              go_wp2_with fail
              refine HSET.out.mono ?_
              rintro e w1 ⟨rfl, hP1⟩
              have HP1 := Lib.hid hP1
              clear hP1
              go_wp2_with fail
              refine (HAL.out _).mono ?_
              rintro e w3 ⟨rfl, hb3⟩
              have HB3 := Lib.hid hb3
              clear hb3
              go_wp2_with fail
              go_ret
              exact ⟨rfl, HP1.out.below.trans (HB3.out.mono HP1.out.below.size)⟩

end Go.Proofs.Ythddphgeepgidaa
