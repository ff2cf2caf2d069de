/-
  The statement TracksOwner, walked: whatever tracks do, the owner stays the owner.
-/
import Derived.Test.YtbeacddclphjgaaAlive
import Derived.Test.YtbeacddclphjgaaFrame
namespace Go.Proofs.Ytbeacddclphjgaa
open Go.RowKit Go.Maps
set_option linter.unusedVariables false
set_option linter.unusedSimpArgs false
set_option maxRecDepth 10000

theorem telC_owner (T : List Tk) (x : ByteArray) (u : Bool) : telC 255 T x u = false := rfl
def OwRel (w : World) (B M n gg : Nat) (s42 : Value) (wr : World) : Prop :=
  ∃ (k : Nat) (T : List Tk), k + gg = n ∧ s42 = .int .i64 k ∧ SetAt wr B M 255 T ∧ Okay T ∧ Below w.heap.size w wr

set_option maxHeartbeats 4000000 in
theorem owner_walk (b : Int) (a : Option Addr) (n c : Nat) (l : List Bk) (a2 : Option Addr) (n2 c2 : Nat) (s : List Opr) (w : World) (hbw : (Lit.int .i64 b).wf = true) (hBk : Bks w a n c l) (hW : Wide l) (hS : Scr w a2 n2 c2 s) :
    Calls Try.prog 6 #[.int .i64 b, .slice a n c, .slice a2 n2 c2] w fun e w' => e = .returned (.bool true) ∧ Below w.heap.size w w' := by
  clear hbw
  have HAL := Lib.hid (fun w => alive_any w)
  have HOWN := Lib.hid (own_any hBk)
  have HS := Lib.hid hS
  have HWD := Lib.hid hW
  have HBK := Lib.hid hBk
  have hnc2 := hS.2.1
  have hnc := hBk.2.1
  clear hBk hW hS
  go_enter Try.func6, Try.ntmps6
  go_wp2_with fail
  refine HOWN.out.mono ?_
  rintro e w1 ⟨a1, c1, rfl, hbk1, hb1⟩
  have HN := Lib.hid (new_any (b := b) hbk1 HWD.out)
  have HB1 := Lib.hid hb1
  clear hbk1 hb1
  go_wp2_with fail
  refine HN.out.mono ?_
  rintro e w2 ⟨pv, ev, rfl, hnew, hb2⟩
  have HB2 := Lib.hid (HB1.out.trans (hb2.mono HB1.out.size))
  clear hb2
  obtain ⟨-, rfl, rfl⟩ | ⟨hok, B, M, rfl, rfl, hs, hBg, hMg⟩ := hnew
  · go_wp2_with (go_at_call 11; refine (HAL.out _).mono ?_; rintro e w9 ⟨rfl, hb9⟩; have HB9 := Lib.hid hb9; clear hb9)
    go_ret
    exact ⟨rfl, HB2.out.trans (HB9.out.mono HB2.out.size)⟩
  have hBw : w.heap.size ≤ B := Nat.le_trans HB1.out.size hBg
  have hMw : w.heap.size ≤ M := Nat.le_trans HB1.out.size hMg
  have HST := Lib.hid (And.intro hs (okay_fresh hok.2))
  have HOK := Lib.hid hok
  have hbd := bound hok.1
  clear hs hBg hMg hok
  by_cases h500 : n2 ≤ 500
  case neg =>
    have hz5 : ((n2 : Int) > 500) := by omega
    go_wp2_with (go_at_call 11; refine (HAL.out _).mono ?_; rintro e w9 ⟨rfl, hb9⟩; have HB9 := Lib.hid hb9; clear hb9)
    go_ret
    exact ⟨rfl, HB2.out.trans (HB9.out.mono HB2.out.size)⟩
  have hz5 : ¬ ((n2 : Int) > 500) := by omega
  have HBA := Lib.hid (base_any HST.out.1 255)
  go_wp2_with fail
  refine HBA.out.mono ?_
  rintro e w3 ⟨rfl, hs3, ho3⟩
  rw [show bas b 255 = 255 from rfl] at hs3
  have hb3 := HB2.out.trans (ho3.below (B := w.heap.size) HB2.out.size fun i hi => by have h1 : i = B := hi; omega)
  have HP3 := Lib.hid (prio_any hs3 HST.out.2 (by omega))
  rw [prio_owner] at HP3
  have HG3 := Lib.hid (And.intro hs3 hb3)
  clear hs3 ho3 hb3
  have hi255 : isB 255 = true := rfl
  rw [hi255]
  go_wp2_with fail
  refine HP3.out.mono ?_
  rintro e w4 ⟨rfl, hb4⟩
  have HG4 := Lib.hid (And.intro (HG3.out.1.below hb4) (below_then HG3.out.2 HG3.out.2.size hb4))
  clear hb4
  go_wp2
  go_loopg [10, 11, 12, 42] n2 (fun gg _ _ _ s42 wr => Hid (OwRel w B M n2 gg s42 wr))
  case atStart => exact Lib.hid ⟨0, _, by omega, rfl, HG4.out.1, HST.out.2, HG4.out.2⟩
  case round =>
    obtain ⟨k, T, hk, rfl, hs, ok, hb⟩ := hrel.out
    clear hrel
    by_cases hkn : k < n2
    · have hkz : (k : Int) < (n2 : Int) := by omega
      obtain ⟨g, off, rfl, hgl, c0, c1, c2, c3⟩ := (HS.out.below hb).at hkn
      have hnm := HS.out.2.2.1 k (by rw [← HS.out.1]; exact hkn)
      generalize (s[k]!).name = nm at c2 hnm
      generalize (s[k]!).up = u at c3
      generalize (s[k]!).kind = kd at c0
      generalize (s[k]!).n = nn at c1
      have HT := Lib.hid (tell_any (hs.below (below_alloc (Below.refl _ _) (.cells #[.int .i64 kd, .int .i64 nn, .string nm, .bool u] 37))) ok (by omega) hnm u)
      rw [telC_owner] at HT
      have HBL := Lib.hid (below_alloc hb (.cells #[.int .i64 kd, .int .i64 nn, .string nm, .bool u] 37))
      have HK := Lib.hid (ok.tel nm u)
      clear hs ok hb hnm
      go_wp2_with fail
      refine HT.out.mono ?_
      rintro e w5 ⟨rfl, hs5, ho5⟩
      have HP := Lib.hid (prio_any hs5 HK.out (by omega))
      rw [prio_owner] at HP
      have HG := Lib.hid (And.intro hs5 (HBL.out.trans (ho5.below (B := w.heap.size) HBL.out.size fun i hi => by have h1 : i = M := hi; omega)))
      clear hs5 ho5
      go_wp2_with fail
      refine HP.out.mono ?_
      rintro e w6 ⟨rfl, hb6⟩
      have HE := Lib.hid (And.intro (HG.out.1.below hb6) (below_then HG.out.2 HG.out.2.size hb6))
      clear hb6
      go_wp2
      go_roundg (n2 - (k + 1))
      case measure => omega
      case rel => exact Lib.hid ⟨k + 1, _, by omega, by go_num, HE.out.1, HK.out, HE.out.2⟩
    · have hkz : ¬ (k : Int) < (n2 : Int) := by omega
      have HR := Lib.hid (And.intro hs (And.intro ok hb))
      clear hs ok hb
      go_wp2_with fail
      refine (HAL.out _).mono ?_
      rintro e w5 ⟨rfl, hb5⟩
      have HA := Lib.hid (base_any (HR.out.1.below hb5) 254)
      have HB5 := Lib.hid (below_then HR.out.2.2 HR.out.2.2.size hb5)
      rw [show isB 254 = true from rfl, show bas 255 254 = 254 from rfl] at HA
      clear hb5
      go_wp2_with fail
      refine HA.out.mono ?_
      rintro e w6 ⟨rfl, hs6, ho6⟩
      have HP := Lib.hid (prio_any hs6 HR.out.2.1 (by omega))
      have hp : prio 254 T ≤ 254 := prio_not (by omega)
      have HG := Lib.hid (And.intro hs6 (HB5.out.trans (ho6.below (B := w.heap.size) HB5.out.size fun i hi => by have h1 : i = B := hi; omega)))
      generalize hpp : prio 254 T = p at HP hp
      have HPP := Lib.hid hpp
      clear hs6 ho6 hpp
      go_wp2_with fail
      refine HP.out.mono ?_
      rintro e w7 ⟨rfl, hb7⟩
      have HA2 := Lib.hid (base_any (HG.out.1.below hb7) 256)
      rw [show isB 256 = false from rfl, show bas 254 256 = 254 from rfl] at HA2
      have HB7 := Lib.hid (below_then HG.out.2 HG.out.2.size hb7)
      clear hb7
      go_wp2_with fail
      refine HA2.out.mono ?_
      rintro e w8 ⟨rfl, hs8, ho8⟩
      have HP2 := Lib.hid (prio_any hs8 HR.out.2.1 (by omega))
      rw [HPP.out] at HP2
      have HB8 := Lib.hid (HB7.out.trans (ho8.below (B := w.heap.size) HB7.out.size fun i hi => by have h1 : i = B := hi; omega))
      clear hs8 ho8
      go_wp2_with fail
      refine HP2.out.mono ?_
      rintro e w9 ⟨rfl, hb9⟩
      have HB9 := Lib.hid (below_then HB8.out HB8.out.size hb9)
      clear hb9
      go_wp2
      go_ret
      exact ⟨rfl, HB9.out⟩
end Go.Proofs.Ytbeacddclphjgaa
