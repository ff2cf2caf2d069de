/-
  What the function of HealthSteady does, whatever rule and tellings it is given.
-/
import Derived.Test.YtkcndgiiangmjaaFrame
import Derived.Test.YtkcndgiiangmjaaAlive
namespace Go.Proofs.Ytkcndgiiangmjaa
open Go.RowKit Go.Maps
set_option linter.unusedVariables false
set_option linter.unusedSimpArgs false
set_option maxRecDepth 10000

theorem bool_not {a b : Bool} (h : ¬ a = b) : a = !b := by cases a <;> cases b <;> simp_all
def SdRel (w : World) (p : Nat) (r : Ru) (n gg : Nat) (s9 s33 : Value) (wr : World) : Prop :=
  ∃ (j : Nat) (P : Pr) (since : Int), j + gg = n ∧ s33 = .int .i64 (j : Int) ∧ s9 = .int .i64 since ∧ PbAt wr p r P ∧ okP r P ∧ P.run ≤ since ∧ since ≤ (j : Int) ∧ Below w.heap.size w wr ∧ Cb wr w.heap.size 23 [.int .i64 r.rise, .int .i64 r.fall, .int .i64 r.every]
def SlRel (w : World) (p : Nat) (r : Ru) (last : Bool) (gg : Nat) (s13 s74 : Value) (wr : World) : Prop :=
  ∃ (k : Nat) (P : Pr) (ch : Int), k + gg = 50 ∧ s74 = .int .i64 (k : Int) ∧ s13 = .int .i64 ch ∧ PbAt wr p r P ∧ okP r P ∧ ((ch = 0 ∧ P.up = last) ∨ (ch = 0 ∧ P.up = !last ∧ (k : Int) ≤ P.run) ∨ (ch = 1 ∧ P.up = last)) ∧ Below w.heap.size w wr

set_option maxHeartbeats 8000000 in
theorem steady_walk (r : Ru) (a : Option Addr) (n c : Nat) (l : List Bool) (last : Bool) (w : World) (hS : Told w a n c l) :
    Calls Try.prog 5 #[ruv r, .slice a n c, .bool last] w fun e w' => e = .returned (.bool true) ∧ Below w.heap.size w w' := by
  have HS := Lib.hid hS
  have HLN := Lib.hid hS.1
  have HAL := Lib.hid (fun w => alive_any w)
  have hb0 : Below w.heap.size w (w.alloc (.cells #[.int .i64 r.rise, .int .i64 r.fall, .int .i64 r.every] 23)) := below_alloc (Below.refl _ _) _
  have HCB0 := Lib.hid (Cb.new3 w (.int .i64 r.rise) (.int .i64 r.fall) (.int .i64 r.every) 23)
  have hnew := pnew_any (w.alloc (.cells #[.int .i64 r.rise, .int .i64 r.fall, .int .i64 r.every] 23)) r false
  have HB0 := Lib.hid hb0
  unfold ruv at hnew ⊢
  have HNEW := Lib.hid hnew
  have hnc := hS.2.1
  clear hnew hb0 hS
  by_cases hok : okR r = true
  · have HOK := Lib.hid hok
    clear hok
    by_cases hbig : n > 2000
    · have hbz : (n : Int) > 2000 := by omega
      go_enter Try.func5, Try.ntmps5
      go_wp2_with fail
      refine HNEW.out.mono ?_
      rintro e w1 ⟨hbw, ⟨-, p, rfl, hp, hP⟩ | ⟨h, -⟩⟩
      rotate_left
      · rw [HOK.out] at h; cases h
      have HB1 := Lib.hid (HB0.out.trans (hbw.mono HB0.out.size))
      clear hbw hP hp
      go_wp2_with (go_at_call 11; refine (HAL.out _).mono ?_; rintro e w3 ⟨rfl, hb3⟩; have HB3 := Lib.hid hb3; clear hb3)
      go_ret
      exact ⟨rfl, HB1.out.trans (HB3.out.mono HB1.out.size)⟩
    · have hbz : ¬ ((n : Int) > 2000) := by omega
      go_enter Try.func5, Try.ntmps5
      go_wp2_with fail
      refine HNEW.out.mono ?_
      rintro e w1 ⟨hbw, ⟨-, p, rfl, hp, hP⟩ | ⟨h, -⟩⟩
      rotate_left
      · rw [HOK.out] at h; cases h
      have hps : w.heap.size < p := by simp at hp; omega
      have HB1 := Lib.hid (HB0.out.trans (hbw.mono HB0.out.size))
      have HC1 := Lib.hid (HCB0.out.below hbw)
      have HP1 := Lib.hid hP
      clear hbw hP hp HNEW HB0 HCB0
      go_wp2_with fail
      go_loopg [9, 33] n (fun gg s9 s33 wr => Hid (SdRel w p r n gg s9 s33 wr))
      case atStart => exact Lib.hid ⟨0, ⟨false, 0⟩, 0, by omega, rfl, rfl, HP1.out, okP_new HOK.out _, by show (0 : Int) ≤ 0; omega, by omega, HB1.out, HC1.out⟩
      case round =>
        obtain ⟨j, P, since, hj, rfl, rfl, hP, hokp, hrs, hsj, hB, hC⟩ := hrel.out
        clear hrel HP1 HC1 HB1
        by_cases hjn : j < n
        · have hjz : (j : Int) < (n : Int) := by omega
          obtain ⟨b, off, rfl, hbb, d0⟩ := (HS.out.below hB).at hjn
          generalize l[j]! = good at d0
          have hr0 := hokp.1
          have hw1 : IntKind.i64.wrap (since + 1) = since + 1 := by rw [IntKind.wrap_i64]; omega
          have HU := Lib.hid (up_any hP)
          have HT := Lib.hid (tell_any hP HOK.out hokp good)
          have HX := Lib.hid (And.intro hB hC)
          have HOP := Lib.hid (okP_tell HOK.out hokp good)
          clear hP hB hC
          obtain ⟨up, run⟩ := P
          simp only at hr0 hrs
          by_cases hsame : good = up
          · obtain ⟨e1, e2⟩ := @tell_same r ⟨up, run⟩ good hsame
            rw [e1, e2] at HT
            rw [e1] at HOP
            clear e1 e2
            subst hsame
            go_wp2_with (first
              | (go_at_call 14; refine HU.out.mono ?_; rintro e w2 ⟨rfl, rfl⟩)
              | (go_at_call 13; refine HT.out.mono ?_; rintro e w2 ⟨rfl, hp2, ho2⟩; have HP2 := Lib.hid hp2; have HO2 := Lib.hid ho2; clear hp2 ho2))
            go_roundg (n - (j + 1))
            case measure => omega
            case rel => exact Lib.hid ⟨j + 1, ⟨good, 0⟩, since + 1, by omega, by go_num, by go_num, HP2.out, HOP.out, by show (0 : Int) ≤ since + 1; omega, by omega, HX.out.1.trans (Only.below HO2.out HX.out.1.size fun i hi => by have : i = p := hi; omega), HX.out.2.only HO2.out (by omega)⟩
          · have hgo : good = !up := bool_not hsame
            by_cases hless : run + 1 < enough r up
            · obtain ⟨e1, e2⟩ := @tell_less r ⟨up, run⟩ good hgo hless
              rw [e1, e2] at HT
              rw [e1] at HOP
              clear e1 e2
              subst hgo
              go_wp2_with (first
                | (go_at_call 14; refine HU.out.mono ?_; rintro e w2 ⟨rfl, rfl⟩)
                | (go_at_call 13; refine HT.out.mono ?_; rintro e w2 ⟨rfl, hp2, ho2⟩; have HP2 := Lib.hid hp2; have HO2 := Lib.hid ho2; clear hp2 ho2))
              go_roundg (n - (j + 1))
              case measure => omega
              case rel => exact Lib.hid ⟨j + 1, ⟨up, run + 1⟩, since + 1, by omega, by go_num, by go_num, HP2.out, HOP.out, by show run + 1 ≤ since + 1; omega, by omega, HX.out.1.trans (Only.below HO2.out HX.out.1.size fun i hi => by have : i = p := hi; omega), HX.out.2.only HO2.out (by omega)⟩
            · obtain ⟨e1, e2⟩ := @tell_turn r ⟨up, run⟩ good hgo hless
              rw [e1, e2] at HT
              rw [e1] at HOP
              clear e1 e2
              subst hgo
              cases up with
              | false =>
                have hen : enough r false = r.rise := rfl
                rw [hen] at hless
                have hs1 : ¬ (since + 1 < r.rise) := by omega
                simp only [Bool.not_false] at HT HOP
                go_wp2_with (first
                  | (go_at_call 13; refine HT.out.mono ?_; rintro e w2 ⟨rfl, hp2, ho2⟩; have HP2 := Lib.hid hp2; have HO2 := Lib.hid ho2; obtain ⟨c0, c1, c2⟩ := (HX.out.2.only ho2 (by omega)).three; have hl0 := (HX.out.2.only ho2 (by omega)).lt; have HU := Lib.hid (up_any hp2); clear hp2 ho2)
                  | (go_at_call 14; refine HU.out.mono ?_; rintro e w2 ⟨rfl, rfl⟩))
                go_roundg (n - (j + 1))
                case measure => omega
                case rel => exact Lib.hid ⟨j + 1, ⟨true, 0⟩, 0, by omega, by go_num, rfl, HP2.out, HOP.out, by show (0 : Int) ≤ 0; omega, by omega, HX.out.1.trans (Only.below HO2.out HX.out.1.size fun i hi => by have : i = p := hi; omega), HX.out.2.only HO2.out (by omega)⟩
              | true =>
                have hen : enough r true = r.fall := rfl
                rw [hen] at hless
                have hs1 : ¬ (since + 1 < r.fall) := by omega
                simp only [Bool.not_true] at HT HOP
                go_wp2_with (first
                  | (go_at_call 13; refine HT.out.mono ?_; rintro e w2 ⟨rfl, hp2, ho2⟩; have HP2 := Lib.hid hp2; have HO2 := Lib.hid ho2; obtain ⟨c0, c1, c2⟩ := (HX.out.2.only ho2 (by omega)).three; have hl0 := (HX.out.2.only ho2 (by omega)).lt; have HU := Lib.hid (up_any hp2); clear hp2 ho2)
                  | (go_at_call 14; refine HU.out.mono ?_; rintro e w2 ⟨rfl, rfl⟩))
                go_roundg (n - (j + 1))
                case measure => omega
                case rel => exact Lib.hid ⟨j + 1, ⟨false, 0⟩, 0, by omega, by go_num, rfl, HP2.out, HOP.out, by show (0 : Int) ≤ 0; omega, by omega, HX.out.1.trans (Only.below HO2.out HX.out.1.size fun i hi => by have : i = p := hi; omega), HX.out.2.only HO2.out (by omega)⟩
        · obtain rfl : j = n := by omega
          have HPE := Lib.hid hP
          have HBE := Lib.hid hB
          have HOE := Lib.hid hokp
          clear hP hB hC hokp hrs hsj
          go_wp2
          go_loopg [13, 74] 50 (fun gg s13 s74 wr => Hid (SlRel w p r last gg s13 s74 wr))
          case atStart =>
            refine Lib.hid ⟨0, P, 0, by omega, rfl, rfl, HPE.out, HOE.out, ?_, HBE.out⟩
            rcases hpu : P.up with _ | _ <;> cases last
            · exact .inl ⟨rfl, rfl⟩
            · exact .inr (.inl ⟨rfl, rfl, HOE.out.1⟩)
            · exact .inr (.inl ⟨rfl, rfl, HOE.out.1⟩)
            · exact .inl ⟨rfl, rfl⟩
          case round =>
            obtain ⟨k, P2, ch, hk, rfl, rfl, hP, hokp, hch, hB⟩ := hrel.out
            clear hrel HPE HBE HOE
            by_cases hk50 : k < 50
            · have hkz : (k : Int) < 50 := by omega
              have HT := Lib.hid (tell_any hP HOK.out hokp last)
              have HOP := Lib.hid (okP_tell HOK.out hokp last)
              have HB := Lib.hid hB
              have hw1 : IntKind.i64.wrap (ch + 1) = ch + 1 := by rw [IntKind.wrap_i64]; omega
              clear hP hokp hB
              obtain ⟨up, run⟩ := P2
              simp only at hch
              by_cases hsame : last = up
              · obtain ⟨e1, e2⟩ := @tell_same r ⟨up, run⟩ last hsame
                rw [e1, e2] at HT
                rw [e1] at HOP
                clear e1 e2
                have HCH : Hid (ch = 0 ∨ ch = 1) := Lib.hid (by omega)
                subst hsame
                go_wp2_with (go_at_call 13; refine HT.out.mono ?_; rintro e w2 ⟨rfl, hp2, ho2⟩; have HP2 := Lib.hid hp2; have HO2 := Lib.hid ho2; clear hp2 ho2)
                go_roundg (50 - (k + 1))
                case measure => omega
                case rel => exact Lib.hid ⟨k + 1, ⟨last, 0⟩, ch, by omega, by go_num, rfl, HP2.out, HOP.out, HCH.out.elim (fun h => .inl ⟨h, rfl⟩) (fun h => .inr (.inr ⟨h, rfl⟩)), HB.out.trans (Only.below HO2.out HB.out.size fun i hi => by have : i = p := hi; omega)⟩
              · have hgo : last = !up := bool_not hsame
                have hmid : ch = 0 ∧ (k : Int) ≤ run := by
                  rcases hch with h | h | h
                  · exact absurd h.2.symm hsame
                  · exact ⟨h.1, h.2.2⟩
                  · exact absurd h.2.symm hsame
                obtain ⟨hc0, hkr⟩ := hmid
                subst hc0
                clear hch
                by_cases hless : run + 1 < enough r up
                · obtain ⟨e1, e2⟩ := @tell_less r ⟨up, run⟩ last hgo hless
                  rw [e1, e2] at HT
                  rw [e1] at HOP
                  clear e1 e2
                  subst hgo
                  go_wp2_with (go_at_call 13; refine HT.out.mono ?_; rintro e w2 ⟨rfl, hp2, ho2⟩; have HP2 := Lib.hid hp2; have HO2 := Lib.hid ho2; clear hp2 ho2)
                  go_roundg (50 - (k + 1))
                  case measure => omega
                  case rel => exact Lib.hid ⟨k + 1, ⟨up, run + 1⟩, 0, by omega, by go_num, rfl, HP2.out, HOP.out, .inr (.inl ⟨rfl, by simp, by show ((k + 1 : Nat) : Int) ≤ run + 1; omega⟩), HB.out.trans (Only.below HO2.out HB.out.size fun i hi => by have : i = p := hi; omega)⟩
                · obtain ⟨e1, e2⟩ := @tell_turn r ⟨up, run⟩ last hgo hless
                  rw [e1, e2] at HT
                  rw [e1] at HOP
                  clear e1 e2
                  subst hgo
                  go_wp2_with (go_at_call 13; refine HT.out.mono ?_; rintro e w2 ⟨rfl, hp2, ho2⟩; have HP2 := Lib.hid hp2; have HO2 := Lib.hid ho2; clear hp2 ho2)
                  go_roundg (50 - (k + 1))
                  case measure => omega
                  case rel => exact Lib.hid ⟨k + 1, ⟨!up, 0⟩, 1, by omega, by go_num, by go_num, HP2.out, HOP.out, .inr (.inr ⟨rfl, rfl⟩), HB.out.trans (Only.below HO2.out HB.out.size fun i hi => by have : i = p := hi; omega)⟩
            · obtain rfl : k = 50 := by omega
              have hfin : ch ≤ 1 ∧ P2.up = last := by
                have h20 := enough_in HOK.out P2.up
                have h2 := hokp.2
                rcases hch with h | h | h
                · exact ⟨by omega, h.2⟩
                · exfalso; have := h.2.2; omega
                · exact ⟨by omega, h.2⟩
              obtain ⟨hc1, hup⟩ := hfin
              have HB := Lib.hid hB
              have HP := Lib.hid hP
              have hq : (last == last) = true := by simp
              clear hP hB hch hokp
              go_wp2_with (first
                | (go_at_call 11; refine (HAL.out _).mono ?_; rintro e w3 ⟨rfl, hb3⟩; have HB3 := Lib.hid hb3; have HU := Lib.hid (up_any (HP.out.below hb3)); rw [hup] at HU; clear hb3)
                | (go_at_call 14; refine HU.out.mono ?_; rintro e w4 ⟨rfl, rfl⟩))
              go_ret
              exact ⟨rfl, HB.out.trans (HB3.out.mono HB.out.size)⟩
  · have hof : okR r = false := by simpa using hok
    have HOF := Lib.hid hof
    clear hok hof
    go_enter Try.func5, Try.ntmps5
    go_wp2_with fail
    refine HNEW.out.mono ?_
    rintro e w1 ⟨hbw, ⟨h, -⟩ | ⟨-, rfl⟩⟩
    · rw [HOF.out] at h; cases h
    have HB1 := Lib.hid (HB0.out.trans (hbw.mono HB0.out.size))
    clear hbw
    go_wp2_with (go_at_call 11; refine (HAL.out _).mono ?_; rintro e w3 ⟨rfl, hb3⟩; have HB3 := Lib.hid hb3; clear hb3)
    go_ret
    exact ⟨rfl, HB1.out.trans (HB3.out.mono HB1.out.size)⟩

end Go.Proofs.Ytkcndgiiangmjaa
