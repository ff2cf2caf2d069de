/-
  What the function of WheelNexts does, whatever script it is given.
-/
import Derived.Test.YthddphgeepgidaaLaw
namespace Go.Proofs.Ythddphgeepgidaa
open Go.RowKit Go.Maps
set_option linter.unusedVariables false
set_option linter.unusedSimpArgs false
set_option maxRecDepth 10000

/-! ## What is next is due at its time -/
theorem head_least {t : Tm} {r : List Tm} (h : Fit (t :: r)) : ∀ x ∈ t :: r, t.at_ ≤ x.at_ := fun x hx => by
  rcases List.mem_cons.1 hx with rfl | hx
  · exact Nat.le_refl _
  · have := (List.pairwise_cons.1 h.srt).1 x hx
    rw [pre_iff] at this
    omega
theorem nothing_due {t : Tm} {r : List Tm} (h : Fit (t :: r)) {m : Nat} (hm : m < t.at_) : due (t :: r) m = [] ∧ left (t :: r) m = t :: r := by
  constructor
  · exact List.filter_eq_nil_iff.2 fun x hx => by have := head_least h x hx; simp; omega
  · exact List.filter_eq_self.2 fun x hx => by have := head_least h x hx; simp; omega
theorem first_due {t : Tm} {r : List Tm} {m : Nat} (hm : t.at_ ≤ m) : 0 < (due (t :: r) m).length ∧ (left (t :: r) m).length ≤ r.length := by
  unfold due left
  rw [List.filter_cons, List.filter_cons]
  simp only [hm, decide_true, if_true, Bool.not_true, Bool.false_eq_true, if_false]
  exact ⟨by simp, List.length_filter_le _ _⟩

def NxRel (w : World) (B gg : Nat) (sk : Value) (wr : World) : Prop :=
  ∃ k : Nat, k + gg = 400 ∧ sk = .int .i64 k ∧ ∃ s, Pl w wr B s ∧ OkS s 300 ∧ k + s.l.length ≤ 300

theorem mv_yes {s : St} {m : Nat} (h1 : s.now ≤ m) (h2 : m ≤ 1099511627776) : mvD s.l s.now (m : Int) = ids (due s.l m) ∧ mvN s.now (m : Int) = m ∧ mvL s.l s.now (m : Int) = left s.l m := by
  have e1 : okM s.now (m : Int) = true := decide_eq_true (by omega)
  refine ⟨?_, ?_, ?_⟩
  · unfold mvD; rw [if_pos e1]; rfl
  · unfold mvN; rw [if_pos e1]; rfl
  · unfold mvL; rw [if_pos e1]; rfl
/-- Move to a time that is taken. -/
theorem pl_moved {w wr : World} {B : Nat} {s : St} {m : Nat} (h : Pl w wr B s) (ok : OkS s 1000) (h1 : s.now ≤ m) (h2 : m ≤ 1099511627776) :
    Calls Try.prog 17 #[.pointer (some ⟨B, 0, none⟩), .int .i64 m] wr fun e w' => ∃ v, e = .returned v ∧ w'.ownsRow wr.heap.size 3 1 v (due s.l m).length (icells (ids (due s.l m))) ∧ Pl w w' B ⟨m, left s.l m⟩ := by
  have h3 := pl_move (x := (m : Int)) h ok
  obtain ⟨e1, e2, e3⟩ := mv_yes h1 h2
  rw [e1, e2, e3, ids_len] at h3
  exact h3

set_option maxHeartbeats 4000000 in
theorem nexts_walk (a : Option Addr) (n c : Nat) (l : List Opr) (w : World) (hS : Scr w a n c l) : Calls Try.prog 8 #[.slice a n c] w fun e w' => e = .returned (.bool true) ∧ Below w.heap.size w w' := by
  have HS := Lib.hid hS
  have HN := Lib.hid hS.1
  have hnc := hS.2.1
  have HAL := Lib.hid (fun w => alive_any w)
  have HNEW := Lib.hid (pl_new w)
  clear hS
  by_cases hbig : n > 300
  · have hbz : (n : Int) > 300 := by omega
    go_enter Try.func8, Try.ntmps8
    go_wp2_with fail
    refine HNEW.out.mono ?_
    rintro e w0 ⟨B, rfl, hP⟩
    have HP := Lib.hid hP
    clear hP
    go_wp2_with (go_at_call 10; refine (HAL.out _).mono ?_; rintro e w1 ⟨rfl, hb1⟩; have HB1 := Lib.hid hb1; clear hb1)
    go_ret
    exact ⟨rfl, HP.out.below.trans (HB1.out.mono HP.out.below.size)⟩
  · have hbz : ¬ ((n : Int) > 300) := by omega
    go_enter Try.func8, Try.ntmps8
    go_wp2_with fail
    refine HNEW.out.mono ?_
    rintro e w0 ⟨B, rfl, hP⟩
    have HP := Lib.hid hP
    clear hP
    go_wp2_with fail
    go_loopg [23] n (fun gg sj wr => Hid (ScRel w B n l gg sj wr))
    case atStart => exact Lib.hid ⟨0, by omega, rfl, HP.out⟩
    case round =>
      obtain ⟨j, hj, rfl, hP⟩ := hrel.out
      clear hrel
      by_cases hjn : j < n
      · have hjz : (j : Int) < (n : Int) := by omega
        obtain ⟨b, off, rfl, hbb, d0, d1, d2, hi⟩ := (HS.out.below hP.below).at hjn
        have HNX := Lib.hid (runS_next l (by rw [← HN.out]; exact hjn))
        have hok : OkS (runS (l.take j)) 990 := (runS_ok l j (by rw [← HN.out]; omega)).mono (by omega)
        generalize hX : l[j]! = X at d0 d1 d2 hi HNX
        obtain ⟨xk, xi, xa⟩ := X
        have HDO := Lib.hid (pl_does (k := xk) (i := xi) (a := xa) (hP.grow (below_alloc (Below.refl _ _) (.cells #[.int .i64 xk, .int .i64 xi, .int .i64 xa] 38))) hok hi)
        simp only at d0 d1 d2 HDO
        clear hX hP hok hi
        go_wp2_with (go_at_call 14; refine HDO.out.mono ?_; rintro e w1 ⟨v, rfl, hP1⟩; have HP1 := Lib.hid hP1; clear hP1)
        go_roundg (n - (j + 1))
        case measure => omega
        case rel => exact Lib.hid ⟨j + 1, by omega, by go_num, by rw [HNX.out]; exact HP1.out⟩
      · obtain rfl : j = n := by omega
        have hok := runS_ok l j (by rw [← HN.out]; exact Nat.le_refl _)
        generalize runS (l.take j) = s at hP hok
        have HP := Lib.hid hP
        have HOK := Lib.hid (hok.mono (show j ≤ 300 by omega))
        clear hP hok
        go_wp2_with fail
        go_loopg [31] 400 (fun gg sk wr => Hid (NxRel w B gg sk wr))
        case atStart => exact Lib.hid ⟨0, by omega, rfl, s, HP.out, HOK.out, by have := HOK.out.len; omega⟩
        case round =>
          obtain ⟨k, hk, rfl, s2, hP, hok, hks⟩ := hrel.out
          clear hrel
          have hkz : (k : Int) < 400 := by omega
          have HNE := Lib.hid (pl_next hP (hok.mono (by omega)))
          obtain ⟨N, L⟩ := s2
          cases L with
          | nil =>
            simp only [nx, nb] at HNE
            have HP := Lib.hid hP
            have HLE := Lib.hid (fun W hb => pl_len (hP.grow (w' := W) hb))
            simp only [List.length_nil] at HLE
            clear hP hok hks
            go_wp2_with fail
            refine HNE.out.mono ?_
            rintro e w1 ⟨rfl, rfl⟩
            go_wp2_with fail
            refine (HAL.out _).mono ?_
            rintro e w2 ⟨rfl, hb2⟩
            have HB2 := Lib.hid hb2
            clear hb2
            go_wp2_with fail
            refine (HLE.out _ HB2.out).mono ?_
            rintro e w3 ⟨rfl, rfl⟩
            go_wp2_with fail
            try rw [Exit.noGoto_ret]
            go_ret
            exact ⟨rfl, HP.out.below.trans (HB2.out.mono HP.out.below.size)⟩
          | cons t r =>
            simp only [nx, nb] at HNE
            have hfit := hok.fit
            simp only at hfit hks
            simp only [List.length_cons] at hks
            have hta : t.at_ ≤ 1099511627776 := (hfit.wide t (by simp)).2
            have hnow := hok.now
            simp only at hnow
            have HNO := Lib.hid (pl_now hP)
            simp only at HNO
            by_cases hgt : N < t.at_
            · obtain ⟨A, hA⟩ : ∃ A, t.at_ = A + 1 := ⟨t.at_ - 1, by omega⟩
              obtain ⟨e1, e2⟩ := nothing_due hfit (m := A) (by omega)
              have hm := pl_moved (m := A) hP (hok.mono (by omega)) (by simp only; omega) (by omega)
              simp only [e1, e2] at hm
              have HM := Lib.hid hm
              have hlen : r.length + 1 ≤ 300 := hok.len
              have hA2 : A ≤ 1099511627775 := by omega
              have hcast : ((A + 1 : Nat) : Int) = (A : Int) + 1 := by omega
              have HM2 := Lib.hid (fun W (h : Pl w W B ⟨A, t :: r⟩) => hcast ▸ pl_moved (m := A + 1) h ⟨hfit, by simp only; omega, show r.length + 1 ≤ 1000 by omega⟩ (by simp only; omega) (by omega))
              have HNO2 := Lib.hid (fun W (h : Pl w W B ⟨A, t :: r⟩) => pl_now h)
              obtain ⟨f1, f2⟩ := first_due (r := r) (m := A + 1) (t := t) (by omega)
              have HFD := Lib.hid f2
              have HFT := Lib.hid (show OkS ⟨A + 1, left (t :: r) (A + 1)⟩ 300 from ⟨show Fit (left (t :: r) (A + 1)) from hfit.filter _, by simp only; omega, by simp only; omega⟩)
              rw [hA] at HNE
              simp only at HM HM2 HNO2
              generalize hd : (due (t :: r) (A + 1)).length = d at HM2 f1
              have hz1 : (N : Int) < ((A + 1 : Nat) : Int) := by omega
              have hz2 : (((A + 1 : Nat) : Int) - 1) = (A : Int) := by omega
              have hz3 : ¬ ((d : Int) = 0) := by omega
              have hd2 : decide (N < A + 1) = true := decide_eq_true (by omega)
              have hmx : max ((A : Int) + 1) (A : Int) = (A : Int) + 1 := by omega
              clear hP hok hfit hlen hd f2 hm e1 e2 hA hcast
              go_wp2_with fail
              refine HNE.out.mono ?_
              rintro e w1 ⟨rfl, rfl⟩
              go_wp2_with fail
              refine HNO.out.mono ?_
              rintro e w1 ⟨rfl, rfl⟩
              go_wp2_with fail
              refine HM.out.mono ?_
              rintro e w1 ⟨v1, rfl, hr1, hP1⟩
              obtain ⟨a1, c1, rfl, -, -⟩ := row_any hr1
              have HP1 := Lib.hid hP1
              clear hr1 hP1
              simp only [List.length_nil]
              go_wp2_with fail
              refine (HNO2.out _ HP1.out).mono ?_
              rintro e w2 ⟨rfl, rfl⟩
              go_wp2_with fail
              refine (HM2.out _ HP1.out).mono ?_
              rintro e w2 ⟨v2, rfl, hr2, hP2⟩
              obtain ⟨a2, c2, rfl, -, -⟩ := row_any hr2
              have HP2 := Lib.hid hP2
              clear hr2 hP2
              go_wp2_with fail
              go_roundg (400 - (k + 1))
              case measure => omega
              case rel => exact Lib.hid ⟨k + 1, by omega, by go_num, ⟨A + 1, left (t :: r) (A + 1)⟩, HP2.out, HFT.out, by have := HFD.out; simp only; omega⟩
            · obtain ⟨A, hA⟩ : ∃ A, t.at_ = A := ⟨_, rfl⟩
              have hlen : r.length + 1 ≤ 300 := hok.len
              have HM2 := Lib.hid (pl_moved (m := N) hP (hok.mono (by omega)) (by simp only; omega) hnow)
              obtain ⟨f1, f2⟩ := first_due (r := r) (m := N) (t := t) (by omega)
              have HFD := Lib.hid f2
              have HFT := Lib.hid (show OkS ⟨N, left (t :: r) N⟩ 300 from ⟨show Fit (left (t :: r) N) from hfit.filter _, hnow, by simp only; omega⟩)
              rw [hA] at HNE hta hgt
              simp only at HM2
              generalize hd : (due (t :: r) N).length = d at HM2 f1
              have hz1 : ¬ ((N : Int) < (A : Int)) := by omega
              have hz3 : ¬ ((d : Int) = 0) := by omega
              have hd2 : decide (N < A) = false := decide_eq_false (by omega)
              have hmx : max (A : Int) (N : Int) = (N : Int) := by omega
              clear hP hok hfit hlen hd f2 hA
              go_wp2_with fail
              refine HNE.out.mono ?_
              rintro e w1 ⟨rfl, rfl⟩
              go_wp2_with fail
              refine HNO.out.mono ?_
              rintro e w1 ⟨rfl, rfl⟩
              go_wp2_with fail
              refine HNO.out.mono ?_
              rintro e w1 ⟨rfl, rfl⟩
              go_wp2_with fail
              refine HM2.out.mono ?_
              rintro e w2 ⟨v2, rfl, hr2, hP2⟩
              obtain ⟨a2, c2, rfl, -, -⟩ := row_any hr2
              have HP2 := Lib.hid hP2
              clear hr2 hP2
              go_wp2_with fail
              go_roundg (400 - (k + 1))
              case measure => omega
              case rel => exact Lib.hid ⟨k + 1, by omega, by go_num, ⟨N, left (t :: r) N⟩, HP2.out, HFT.out, by have := HFD.out; simp only; omega⟩

end Go.Proofs.Ythddphgeepgidaa
