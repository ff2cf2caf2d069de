/-
  The statement TracksOrder, walked: in which order tracks are told is not seen.
-/
import Derived.Test.YtbeacddclphjgaaAlive
import Derived.Test.YtbeacddclphjgaaFrame
namespace Go.Proofs.Ytbeacddclphjgaa
open Go.RowKit Go.Maps
set_option linter.unusedVariables false
set_option linter.unusedSimpArgs false
set_option maxRecDepth 10000

/-- What each is told. -/
def gd (us : List Bool) (i : Nat) : Bool := if i < us.length then us[i]! else false
def sF (us : List Bool) (k i : Nat) : Bool := if i < k then gd us i else false
def tF (us : List Bool) (n k i : Nat) : Bool := if n ≤ i + k then gd us i else false
theorem sF_next {l : List Bk} (h : Apart l) (us : List Bool) {k : Nat} (hk : k < l.length) : tel (upd l (sF us k)) (l[k]!).name (gd us k) = upd l (sF us (k + 1)) := by
  rw [upd_tel h hk]
  refine upd_congr fun i hi => ?_
  unfold sF
  by_cases e : i = k
  · subst e
    rw [if_pos rfl, if_pos (by omega)]
  · rw [if_neg e]
    by_cases h2 : i < k
    · rw [if_pos h2, if_pos (by omega)]
    · rw [if_neg h2, if_neg (by omega)]
theorem tF_next {l : List Bk} (h : Apart l) (us : List Bool) {k j : Nat} (hj : j + k + 1 = l.length) : tel (upd l (tF us l.length k)) (l[j]!).name (gd us j) = upd l (tF us l.length (k + 1)) := by
  rw [upd_tel h (by omega)]
  refine upd_congr fun i hi => ?_
  unfold tF
  by_cases e : i = j
  · subst e
    rw [if_pos rfl, if_pos (by omega)]
  · rw [if_neg e]
    by_cases h2 : l.length ≤ i + k
    · rw [if_pos h2, if_pos (by omega)]
    · rw [if_neg h2, if_neg (by omega)]
theorem both_end (l : List Bk) (us : List Bool) : upd l (sF us l.length) = upd l (tF us l.length l.length) := upd_congr fun i hi => by
  unfold sF tF
  rw [if_pos hi, if_pos (by omega)]
theorem both_start (l : List Bk) (us : List Bool) : upd l (sF us 0) = fresh l ∧ upd l (tF us l.length 0) = fresh l := by
  rw [← upd_fresh]
  constructor
  · refine upd_congr fun i hi => ?_
    unfold sF
    rw [if_neg (by omega)]
  · refine upd_congr fun i hi => ?_
    unfold tF
    rw [if_neg (by omega)]

structure Or (w : World) (B1 M1 B2 M2 : Nat) (b : Int) (T1 T2 : List Tk) (wr : World) : Prop where
  s1 : SetAt wr B1 M1 b T1
  s2 : SetAt wr B2 M2 b T2
  o1 : Okay T1
  o2 : Okay T2
  bel : Below w.heap.size w wr
theorem Or.below {w : World} {B1 M1 B2 M2 : Nat} {b : Int} {T1 T2 : List Tk} {wr w' : World} (h : Or w B1 M1 B2 M2 b T1 T2 wr) (hb : Below wr.heap.size wr w') : Or w B1 M1 B2 M2 b T1 T2 w' :=
  ⟨h.s1.below hb, h.s2.below hb, h.o1, h.o2, below_then h.bel h.bel.size hb⟩
theorem Or.drew {w : World} {B1 M1 B2 M2 : Nat} {b : Int} {T1 T2 : List Tk} {wr : World} (h : Or w B1 M1 B2 M2 b T1 T2 wr) : Or w B1 M1 B2 M2 b T1 T2 wr.drew := h.below (below_drew (Below.refl _ _))
structure Gap (w : World) (B1 M1 B2 M2 : Nat) : Prop where
  g1 : w.heap.size ≤ M1
  g2 : w.heap.size ≤ M2
  n1 : B1 ≠ M2
  n2 : M1 ≠ M2
  n3 : B2 ≠ M1
theorem Or.tell1 {w : World} {B1 M1 B2 M2 : Nat} {b : Int} {T1 T2 : List Tk} {wr w' : World} (h : Or w B1 M1 B2 M2 b T1 T2 wr) (g : Gap w B1 M1 B2 M2) {x : ByteArray} {u : Bool} (hs : SetAt w' B1 M1 b (tel T1 x u)) (ho : Only (fun i => i = M1) wr w') : Or w B1 M1 B2 M2 b (tel T1 x u) T2 w' :=
  ⟨hs, h.s2.only ho g.n3 (fun e => g.n2 e.symm), h.o1.tel x u, h.o2, h.bel.trans (ho.below (B := w.heap.size) h.bel.size fun i hi => by have h1 : i = M1 := hi; have := g.g1; omega)⟩
theorem Or.tell2 {w : World} {B1 M1 B2 M2 : Nat} {b : Int} {T1 T2 : List Tk} {wr w' : World} (h : Or w B1 M1 B2 M2 b T1 T2 wr) (g : Gap w B1 M1 B2 M2) {x : ByteArray} {u : Bool} (hs : SetAt w' B2 M2 b (tel T2 x u)) (ho : Only (fun i => i = M2) wr w') : Or w B1 M1 B2 M2 b T1 (tel T2 x u) w' :=
  ⟨h.s1.only ho g.n1 g.n2, hs, h.o1, h.o2.tel x u, h.bel.trans (ho.below (B := w.heap.size) h.bel.size fun i hi => by have h1 : i = M2 := hi; have := g.g2; omega)⟩

def OrRel (w : World) (B1 M1 B2 M2 : Nat) (b : Int) (l : List Bk) (us : List Bool) (n gg : Nat) (s50 : Value) (wr : World) : Prop :=
  ∃ k : Nat, k + gg = n ∧ s50 = .int .i64 k ∧ Or w B1 M1 B2 M2 b (upd l (sF us k)) (upd l (tF us l.length k)) wr

set_option maxHeartbeats 4000000 in
theorem order_walk (b : Int) (a : Option Addr) (n c : Nat) (l : List Bk) (a2 : Option Addr) (n2 c2 : Nat) (us : List Bool) (w : World) (hbw : (Lit.int .i64 b).wf = true) (hBk : Bks w a n c l) (hW : Wide l) (hS : Told w a2 n2 c2 us) :
    Calls Try.prog 4 #[.int .i64 b, .slice a n c, .slice a2 n2 c2] w fun e w' => e = .returned (.bool true) ∧ Below w.heap.size w w' := by
  clear hbw
  have HAL := Lib.hid (fun w => alive_any w)
  have HOWN := Lib.hid (own_any hBk)
  have HS := Lib.hid hS
  have HWD := Lib.hid hW
  have HBK := Lib.hid hBk
  have hnc2 := hS.2.1
  have hnc := hBk.2.1
  clear hBk hW hS
  go_enter Try.func4, Try.ntmps4
  go_wp2_with fail
  refine HOWN.out.mono ?_
  rintro e w1 ⟨a1, c1, rfl, hbk1, hb1⟩
  have HN := Lib.hid (new_any (b := b) hbk1 HWD.out)
  have HB1 := Lib.hid hb1
  clear hbk1 hb1
  go_wp2_with fail
  refine HN.out.mono ?_
  rintro e w2 ⟨pv, ev, rfl, hnew, hb2⟩
  have HB2 := Lib.hid (HB1.out.trans (hb2.mono HB1.out.size))
  have HNEW := Lib.hid hnew
  have HOWN2 := Lib.hid (own_any (HBK.out.below HB2.out))
  clear hb2 hnew
  go_wp2_with fail
  refine HOWN2.out.mono ?_
  rintro e w3 ⟨a3, c3, rfl, hbk3, hb3⟩
  have HN2 := Lib.hid (new_any (b := b) hbk3 HWD.out)
  have HB3 := Lib.hid hb3
  clear hbk3 hb3
  go_wp2_with fail
  refine HN2.out.mono ?_
  rintro e w4 ⟨pv2, ev2, rfl, hnew2, hb4⟩
  have hb24 := HB3.out.trans (hb4.mono HB3.out.size)
  have HB4 := Lib.hid (HB2.out.trans (hb24.mono HB2.out.size))
  have hnew := HNEW.out
  obtain ⟨hno, rfl, rfl⟩ | ⟨hok, B1, M1, rfl, rfl, hs1, hBg1, hMg1⟩ := hnew
  · obtain ⟨-, rfl, rfl⟩ | ⟨hok, _⟩ := hnew2
    · clear hb4 hb24 HNEW hno
      go_wp2_with (go_at_call 11; refine (HAL.out _).mono ?_; rintro e w9 ⟨rfl, hb9⟩; have HB9 := Lib.hid hb9; clear hb9)
      go_ret
      exact ⟨rfl, HB4.out.trans (HB9.out.mono HB4.out.size)⟩
    · exact absurd hok hno
  obtain ⟨hno, _⟩ | ⟨-, B2, M2, rfl, rfl, hs2, hBg2, hMg2⟩ := hnew2
  · exact absurd hok hno
  have hl1 := hs1.lt
  have hl2 := hs1.map.lt
  have hz1 := HB1.out.size
  have hz2 := HB2.out.size
  have hz3 := HB3.out.size
  have GAP : Hid (Gap w B1 M1 B2 M2) := Lib.hid ⟨by omega, by omega, by omega, by omega, by omega⟩
  have HST : Hid (Or w B1 M1 B2 M2 b (upd l (sF us 0)) (upd l (tF us l.length 0)) w4) := Lib.hid (by
    rw [(both_start l us).1, (both_start l us).2]
    exact ⟨hs1.below hb24, hs2, okay_fresh hok.2, okay_fresh hok.2, HB4.out⟩)
  have HAP := Lib.hid hok.2.2.2
  have hbd := bound hok.1
  have hln := HBK.out.1
  have hn8 : n ≤ 8 := by rw [hln]; exact hok.2.1
  clear hs1 hs2 hBg1 hMg1 hBg2 hMg2 hok hl1 hl2 hz1 hz2 hz3 hb4 hb24 HNEW HN HN2 hln
  go_wp2
  go_loopg [11, 12, 50] n (fun gg _ _ s50 wr => Hid (OrRel w B1 M1 B2 M2 b l us n gg s50 wr))
  case atStart => exact Lib.hid ⟨0, by omega, rfl, HST.out⟩
  case round =>
    obtain ⟨k, hk, rfl, hor⟩ := hrel.out
    clear hrel
    by_cases hkn : k < n
    · have hkz : (k : Int) < (n : Int) := by omega
      obtain ⟨j, hj⟩ : ∃ j, j + k + 1 = n := ⟨n - 1 - k, by omega⟩
      have hjn : j < n := by omega
      have hjz : (j : Int) < (n : Int) := by omega
      have W1 : IntKind.i64.wrap ((n : Int) - 1) = ((n : Int) - 1) := by rw [IntKind.wrap_i64]; omega
      have W2 : IntKind.i64.wrap ((n : Int) - 1 - (k : Int)) = (j : Int) := by rw [IntKind.wrap_i64]; omega
      obtain ⟨g, off, rfl, hg0, x0w, -⟩ := bk_at HBK.out hkn
      obtain ⟨g', off', e', -, y0w, -⟩ := bk_at HBK.out hjn
      simp only [Option.some.injEq, Addr.mk.injEq, and_true] at e'
      obtain ⟨rfl, rfl⟩ := e'
      have x0 := (hor.bel.cell (p := ⟨g, off + k * 2, none⟩) hg0).trans x0w
      have hkl : k < l.length := by rw [← HBK.out.1]; exact hkn
      have hjl : j < l.length := by rw [← HBK.out.1]; exact hjn
      have hnk := (HWD.out k hkl).1
      have hnj := (HWD.out j hjl).1
      have HNX1 := Lib.hid (sF_next HAP.out us hkl)
      have HNX2 := Lib.hid (tF_next HAP.out us (k := k) (j := j) (by rw [← HBK.out.1]; exact hj))
      generalize (l[k]!).name = nk at x0 x0w hnk HNX1
      generalize (l[j]!).name = nj at y0w hnj HNX2
      have HNK := Lib.hid (show nk.size ≤ maxLen by simpa [maxLen] using hnk)
      have HNJ := Lib.hid (show nj.size ≤ maxLen by simpa [maxLen] using hnj)
      have HT1 := Lib.hid (tell_any hor.drew.s1 hor.o1 hbd HNK.out (gd us k))
      have HOR := Lib.hid hor
      have hun := HS.out.1
      have HY := Lib.hid y0w
      have HBWR := Lib.hid hor.bel
      clear hor hnk hnj x0w y0w
      by_cases hku : k < n2
      · obtain ⟨g3, off3, rfl, hg3, u0w⟩ := HS.out.at hku
        have u0 := (HBWR.out.cell (p := ⟨g3, off3 + k, none⟩) hg3).trans u0w
        clear u0w
        have hgk : gd us k = us[k]! := by unfold gd; rw [if_pos (by omega)]
        rw [hgk] at HT1
        have HGK := Lib.hid hgk
        generalize us[k]! = uk at u0 HT1 HGK
        have z1 : (k : Int) < (n2 : Int) := by omega
        have z1a : decide ((k : Int) < (n2 : Int)) = true := decide_eq_true z1
        have z1b : decide (k < n2) = true := decide_eq_true hku
        clear hgk hun
        go_wp2
        refine wp_region_tail 16 (by kernel_rfl) (by kernel_rfl) ?_
        simp only [List.take_succ_cons, List.take_zero, List.drop_succ_cons, List.drop_zero]
        repeat still_step
        refine wpStill_nil ?_
        go_wp2_with fail
        refine HT1.out.mono ?_
        rintro e w5 ⟨rfl, hs5, ho5⟩
        have hor5 := HOR.out.drew.tell1 GAP.out hs5 ho5
        rw [← HGK.out, HNX1.out] at hor5
        have y5 := (hor5.bel.cell (p := ⟨g, off + j * 2, none⟩) hg0).trans HY.out
        have HT2 := Lib.hid (tell_any hor5.drew.s2 hor5.o2 hbd HNJ.out (gd us j))
        have hun2 := HS.out.1
        have HOR5 := Lib.hid hor5
        clear hs5 ho5 z1 z1a z1b x0
        by_cases hju : j < n2
        · obtain ⟨g4, off4, e4, hg4, v0⟩ := HS.out.at hju
          have v5 := (hor5.bel.cell (p := ⟨g4, off4 + j, none⟩) hg4).trans v0
          have hgj : gd us j = us[j]! := by unfold gd; rw [if_pos (by omega)]
          rw [hgj] at HT2
          have HGJ := Lib.hid hgj
          generalize us[j]! = uj at v5 HT2 HGJ
          have z2 : (j : Int) < (n2 : Int) := by omega
          have z2a : decide ((j : Int) < (n2 : Int)) = true := decide_eq_true z2
          have z2b : decide (j < n2) = true := decide_eq_true hju
          (simp only [Option.some.injEq, Addr.mk.injEq, and_true] at e4; obtain ⟨rfl, rfl⟩ := e4)
          clear hgj hun2 hor5 v0
          go_wp2
          refine wp_region_tail 16 (by kernel_rfl) (by kernel_rfl) ?_
          simp only [List.take_succ_cons, List.take_zero, List.drop_succ_cons, List.drop_zero]
          repeat still_step
          refine wpStill_nil ?_
          go_wp2_with fail
          refine HT2.out.mono ?_
          rintro e w6 ⟨rfl, hs6, ho6⟩
          have hor6 := HOR5.out.drew.tell2 GAP.out hs6 ho6
          rw [← HGJ.out, HNX2.out] at hor6
          have HE := Lib.hid hor6
          clear hs6 ho6 hor6
          go_wp2
          go_roundg (n - (k + 1))
          case measure => omega
          case rel => exact Lib.hid ⟨k + 1, by omega, by go_num, HE.out⟩
        · have hgj : gd us j = false := by unfold gd; rw [if_neg (by omega)]
          rw [hgj] at HT2
          have HGJ := Lib.hid hgj
          have z2 : ¬ (j : Int) < (n2 : Int) := by omega
          have z2a : decide ((j : Int) < (n2 : Int)) = false := decide_eq_false z2
          have z2b : decide (j < n2) = false := decide_eq_false hju
          clear hgj hun2 hor5
          go_wp2
          refine wp_region_tail 16 (by kernel_rfl) (by kernel_rfl) ?_
          simp only [List.take_succ_cons, List.take_zero, List.drop_succ_cons, List.drop_zero]
          repeat still_step
          refine wpStill_nil ?_
          go_wp2_with fail
          refine HT2.out.mono ?_
          rintro e w6 ⟨rfl, hs6, ho6⟩
          have hor6 := HOR5.out.drew.tell2 GAP.out hs6 ho6
          rw [← HGJ.out, HNX2.out] at hor6
          have HE := Lib.hid hor6
          clear hs6 ho6 hor6
          go_wp2
          go_roundg (n - (k + 1))
          case measure => omega
          case rel => exact Lib.hid ⟨k + 1, by omega, by go_num, HE.out⟩
      · have hgk : gd us k = false := by unfold gd; rw [if_neg (by omega)]
        rw [hgk] at HT1
        have HGK := Lib.hid hgk
        have z1 : ¬ (k : Int) < (n2 : Int) := by omega
        have z1a : decide ((k : Int) < (n2 : Int)) = false := decide_eq_false z1
        have z1b : decide (k < n2) = false := decide_eq_false hku
        clear hgk hun
        go_wp2
        refine wp_region_tail 16 (by kernel_rfl) (by kernel_rfl) ?_
        simp only [List.take_succ_cons, List.take_zero, List.drop_succ_cons, List.drop_zero]
        repeat still_step
        refine wpStill_nil ?_
        go_wp2_with fail
        refine HT1.out.mono ?_
        rintro e w5 ⟨rfl, hs5, ho5⟩
        have hor5 := HOR.out.drew.tell1 GAP.out hs5 ho5
        rw [← HGK.out, HNX1.out] at hor5
        have y5 := (hor5.bel.cell (p := ⟨g, off + j * 2, none⟩) hg0).trans HY.out
        have HT2 := Lib.hid (tell_any hor5.drew.s2 hor5.o2 hbd HNJ.out (gd us j))
        have hun2 := HS.out.1
        have HOR5 := Lib.hid hor5
        clear hs5 ho5 z1 z1a z1b x0
        by_cases hju : j < n2
        · obtain ⟨g4, off4, e4, hg4, v0⟩ := HS.out.at hju
          have v5 := (hor5.bel.cell (p := ⟨g4, off4 + j, none⟩) hg4).trans v0
          have hgj : gd us j = us[j]! := by unfold gd; rw [if_pos (by omega)]
          rw [hgj] at HT2
          have HGJ := Lib.hid hgj
          generalize us[j]! = uj at v5 HT2 HGJ
          have z2 : (j : Int) < (n2 : Int) := by omega
          have z2a : decide ((j : Int) < (n2 : Int)) = true := decide_eq_true z2
          have z2b : decide (j < n2) = true := decide_eq_true hju
          subst e4
          clear hgj hun2 hor5 v0
          go_wp2
          refine wp_region_tail 16 (by kernel_rfl) (by kernel_rfl) ?_
          simp only [List.take_succ_cons, List.take_zero, List.drop_succ_cons, List.drop_zero]
          repeat still_step
          refine wpStill_nil ?_
          go_wp2_with fail
          refine HT2.out.mono ?_
          rintro e w6 ⟨rfl, hs6, ho6⟩
          have hor6 := HOR5.out.drew.tell2 GAP.out hs6 ho6
          rw [← HGJ.out, HNX2.out] at hor6
          have HE := Lib.hid hor6
          clear hs6 ho6 hor6
          go_wp2
          go_roundg (n - (k + 1))
          case measure => omega
          case rel => exact Lib.hid ⟨k + 1, by omega, by go_num, HE.out⟩
        · have hgj : gd us j = false := by unfold gd; rw [if_neg (by omega)]
          rw [hgj] at HT2
          have HGJ := Lib.hid hgj
          have z2 : ¬ (j : Int) < (n2 : Int) := by omega
          have z2a : decide ((j : Int) < (n2 : Int)) = false := decide_eq_false z2
          have z2b : decide (j < n2) = false := decide_eq_false hju
          clear hgj hun2 hor5
          go_wp2
          refine wp_region_tail 16 (by kernel_rfl) (by kernel_rfl) ?_
          simp only [List.take_succ_cons, List.take_zero, List.drop_succ_cons, List.drop_zero]
          repeat still_step
          refine wpStill_nil ?_
          go_wp2_with fail
          refine HT2.out.mono ?_
          rintro e w6 ⟨rfl, hs6, ho6⟩
          have hor6 := HOR5.out.drew.tell2 GAP.out hs6 ho6
          rw [← HGJ.out, HNX2.out] at hor6
          have HE := Lib.hid hor6
          clear hs6 ho6 hor6
          go_wp2
          go_roundg (n - (k + 1))
          case measure => omega
          case rel => exact Lib.hid ⟨k + 1, by omega, by go_num, HE.out⟩
    · have hkz : ¬ (k : Int) < (n : Int) := by omega
      have ekn : k = l.length := by have := HBK.out.1; omega
      have hor2 := hor
      rw [ekn, both_end] at hor2
      have HOR := Lib.hid hor2
      generalize upd l (tF us l.length l.length) = T at HOR
      clear hor hor2 ekn
      go_wp2_with fail
      refine (HAL.out _).mono ?_
      rintro e w5 ⟨rfl, hb5⟩
      have h5 := HOR.out.below hb5
      have HP1 := Lib.hid (prio_any h5.s1 h5.o1 hbd)
      generalize hp : prio b T = p at HP1
      have HP := Lib.hid hp
      have H5 := Lib.hid h5
      clear hb5 h5 hp
      go_wp2_with fail
      refine HP1.out.mono ?_
      rintro e w6 ⟨rfl, hb6⟩
      have h6 := H5.out.below hb6
      have HP2 := Lib.hid (prio_any h6.s2 h6.o2 hbd)
      rw [HP.out] at HP2
      have H6 := Lib.hid h6
      clear hb6 h6
      go_wp2_with fail
      refine HP2.out.mono ?_
      rintro e w7 ⟨rfl, hb7⟩
      have h7 := H6.out.below hb7
      have HD1 := Lib.hid (down_any h7.s1 h7.o1)
      have H7 := Lib.hid h7
      clear hb7 h7
      go_wp2_with fail
      refine HD1.out.mono ?_
      rintro e w8 ⟨v1, rfl, hr1, hb8⟩
      have h8 := H7.out.below hb8
      have HD2 := Lib.hid (down_any h8.s2 h8.o2)
      have H8 := Lib.hid (And.intro h8 hr1)
      clear hb8 h8 hr1
      go_wp2_with fail
      refine HD2.out.mono ?_
      rintro e w9 ⟨v2, rfl, hr2, hb9⟩
      have HSM := Lib.hid (same_any (row_below H8.out.2 hb9) hr2)
      have H9 := Lib.hid (H8.out.1.below hb9)
      clear hb9 hr2
      go_wp2_with fail
      refine HSM.out.mono ?_
      rintro e w10 ⟨rfl, hb10⟩
      have H10 := Lib.hid (H9.out.below hb10)
      clear hb10
      go_wp2
      go_ret
      exact ⟨rfl, H10.out.bel⟩
end Go.Proofs.Ytbeacddclphjgaa
