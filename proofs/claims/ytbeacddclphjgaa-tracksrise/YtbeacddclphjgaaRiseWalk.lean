/-
  The statement TracksRise, walked: a track that comes up never makes the priority less, nor one that goes down greater.
-/
import Derived.Test.YtbeacddclphjgaaAlive
import Derived.Test.YtbeacddclphjgaaFrame
namespace Go.Proofs.Ytbeacddclphjgaa
open Go.RowKit Go.Maps
set_option linter.unusedVariables false
set_option linter.unusedSimpArgs false
set_option maxRecDepth 10000

def RiRel (w : World) (B M : Nat) (b : Int) (n gg : Nat) (s34 : Value) (wr : World) : Prop :=
  ∃ (k : Nat) (T : List Tk), k + gg = n ∧ s34 = .int .i64 k ∧ SetAt wr B M b T ∧ Okay T ∧ Below w.heap.size w wr
theorem prio_255 (b : Int) (T : List Tk) : (prio b T == 255) = (b == 255) := by
  by_cases h : b = 255
  · subst h; rfl
  · have h1 := prio_not (T := T) h
    have h2 : prio b T ≠ 255 := by omega
    rw [beq_eq_false_iff_ne.2 h2, beq_eq_false_iff_ne.2 h]

set_option maxHeartbeats 4000000 in
theorem rise_walk (b : Int) (a : Option Addr) (n c : Nat) (l : List Bk) (a2 : Option Addr) (n2 c2 : Nat) (s : List Opr) (w : World) (hbw : (Lit.int .i64 b).wf = true) (hBk : Bks w a n c l) (hW : Wide l) (hS : Scr w a2 n2 c2 s) :
    Calls Try.prog 5 #[.int .i64 b, .slice a n c, .slice a2 n2 c2] w fun e w' => e = .returned (.bool true) ∧ Below w.heap.size w w' := by
  clear hbw
  have HAL := Lib.hid (fun w => alive_any w)
  have HOWN := Lib.hid (own_any hBk)
  have HS := Lib.hid hS
  have HWD := Lib.hid hW
  have HBK := Lib.hid hBk
  have hnc2 := hS.2.1
  have hnc := hBk.2.1
  clear hBk hW hS
  go_enter Try.func5, Try.ntmps5
  go_wp2_with fail
  refine HOWN.out.mono ?_
  rintro e w1 ⟨a1, c1, rfl, hbk1, hb1⟩
  have HN := Lib.hid (new_any (b := b) hbk1 HWD.out)
  have HB1 := Lib.hid hb1
  clear hbk1 hb1
  go_wp2_with fail
  refine HN.out.mono ?_
  rintro e w2 ⟨pv, ev, rfl, hnew, hb2⟩
  have HB2 := Lib.hid (HB1.out.trans (hb2.mono HB1.out.size))
  clear hb2
  obtain ⟨-, rfl, rfl⟩ | ⟨hok, B, M, rfl, rfl, hs, hBg, hMg⟩ := hnew
  · go_wp2_with (go_at_call 11; refine (HAL.out _).mono ?_; rintro e w9 ⟨rfl, hb9⟩; have HB9 := Lib.hid hb9; clear hb9)
    go_ret
    exact ⟨rfl, HB2.out.trans (HB9.out.mono HB2.out.size)⟩
  have hBw : w.heap.size ≤ B := Nat.le_trans HB1.out.size hBg
  have hMw : w.heap.size ≤ M := Nat.le_trans HB1.out.size hMg
  have HST := Lib.hid (And.intro hs (okay_fresh hok.2))
  have HOK := Lib.hid hok
  have hbd := bound hok.1
  clear hs hBg hMg hok
  by_cases h500 : n2 ≤ 500
  case neg =>
    have hz5 : ((n2 : Int) > 500) := by omega
    go_wp2_with (go_at_call 11; refine (HAL.out _).mono ?_; rintro e w9 ⟨rfl, hb9⟩; have HB9 := Lib.hid hb9; clear hb9)
    go_ret
    exact ⟨rfl, HB2.out.trans (HB9.out.mono HB2.out.size)⟩
  have hz5 : ¬ ((n2 : Int) > 500) := by omega
  go_wp2
  go_loopg [10, 11, 12, 34] n2 (fun gg _ _ _ s34 wr => Hid (RiRel w B M b n2 gg s34 wr))
  case atStart => exact Lib.hid ⟨0, _, by omega, rfl, HST.out.1, HST.out.2, HB2.out⟩
  case round =>
    obtain ⟨k, T, hk, rfl, hs, ok, hb⟩ := hrel.out
    clear hrel
    by_cases hkn : k < n2
    · have hkz : (k : Int) < (n2 : Int) := by omega
      obtain ⟨g, off, rfl, hgl, c0, c1, c2, c3⟩ := (HS.out.below hb).at hkn
      have hnm := HS.out.2.2.1 k (by rw [← HS.out.1]; exact hkn)
      generalize (s[k]!).name = nm at c2 hnm
      generalize (s[k]!).up = u at c3
      generalize (s[k]!).kind = kd at c0
      generalize (s[k]!).n = nn at c1
      have hbx := below_alloc (Below.refl wr.heap.size wr) (.cells #[.int .i64 kd, .int .i64 nn, .string nm, .bool u] 37)
      have HP := Lib.hid (prio_any (hs.below hbx) ok hbd)
      have HBL := Lib.hid (below_alloc hb (.cells #[.int .i64 kd, .int .i64 nn, .string nm, .bool u] 37))
      have HX := Lib.hid (hs.below hbx)
      have HNM := Lib.hid hnm
      have HOK2 := Lib.hid ok
      have hMl := hs.map.lt
      have hszw := hb.size
      have hq := prio_ge (b := b) (T := tel T nm u)
      have hup : u = true → prio b T ≤ prio b (tel T nm u) := fun h => by subst h; exact prio_mono (tot_up T nm)
      have hdn : u = false → prio b (tel T nm u) ≤ prio b T := fun h => by subst h; exact prio_mono (tot_down T nm)
      have e1 := prio_255 b (tel T nm u)
      generalize hpe : prio b T = p at HP hup hdn
      generalize hqe : prio b (tel T nm u) = q at hq hup hdn e1
      have HQE := Lib.hid hqe
      generalize hr : (b == 255) = r at e1
      clear hs ok hb hnm hbx hpe hqe
      go_wp2_with fail
      refine HP.out.mono ?_
      rintro e w4 ⟨rfl, hb4⟩
      have d2 := hb4.cell (p := ⟨wr.heap.size, 2, none⟩) (by simp)
      have d3 := hb4.cell (p := ⟨wr.heap.size, 3, none⟩) (by simp)
      simp [go_sem] at d2 d3
      have hsz4 : wr.heap.size < w4.heap.size := by have := hb4.size; simp at this; omega
      have HT := Lib.hid (tell_any (HX.out.below hb4) HOK2.out hbd HNM.out u)
      have HB4 := Lib.hid (below_then HBL.out HBL.out.size hb4)
      clear hb4
      go_wp2_with fail
      refine HT.out.mono ?_
      rintro e w5 ⟨rfl, hs5, ho5⟩
      have d4 := ho5.cell (p := ⟨wr.heap.size, 3, none⟩) hsz4 (by show ¬ wr.heap.size = M; omega)
      rw [d3] at d4
      have hsz5 : wr.heap.size < w5.heap.size := Nat.lt_of_lt_of_le hsz4 ho5.size
      have HP2 := Lib.hid (prio_any hs5 (HOK2.out.tel nm u) hbd)
      rw [HQE.out] at HP2
      have HG := Lib.hid (And.intro hs5 (HB4.out.trans (ho5.below (B := w.heap.size) HB4.out.size fun i hi => by have h1 : i = M := hi; omega)))
      clear hs5 ho5 d2 d3
      go_wp2_with fail
      refine HP2.out.mono ?_
      rintro e w6 ⟨rfl, hb6⟩
      have d5 := hb6.cell (p := ⟨wr.heap.size, 3, none⟩) hsz5
      rw [d4] at d5
      have HE := Lib.hid (And.intro (HG.out.1.below hb6) (below_then HG.out.2 HG.out.2.size hb6))
      clear hb6 d4
      have hq1 : ¬ q < 1 := by omega
      have hq2 : ¬ q > 255 := by omega
      cases u with
      | true =>
        have hlt : ¬ q < p := by have := hup rfl; omega
        clear hup hdn hq
        go_wp2
        go_roundg (n2 - (k + 1))
        case measure => omega
        case rel => exact Lib.hid ⟨k + 1, _, by omega, by go_num, HE.out.1, HOK2.out.tel nm _, HE.out.2⟩
      | false =>
        have hlt : ¬ q > p := by have := hdn rfl; omega
        clear hup hdn hq
        go_wp2
        go_roundg (n2 - (k + 1))
        case measure => omega
        case rel => exact Lib.hid ⟨k + 1, _, by omega, by go_num, HE.out.1, HOK2.out.tel nm _, HE.out.2⟩
    · have hkz : ¬ (k : Int) < (n2 : Int) := by omega
      have HR := Lib.hid hb
      clear hs ok hb
      go_wp2_with (go_at_call 11; refine (HAL.out _).mono ?_; rintro e w9 ⟨rfl, hb9⟩; have HB9 := Lib.hid hb9; clear hb9)
      go_ret
      exact ⟨rfl, HR.out.trans (HB9.out.mono HR.out.size)⟩
end Go.Proofs.Ytbeacddclphjgaa
