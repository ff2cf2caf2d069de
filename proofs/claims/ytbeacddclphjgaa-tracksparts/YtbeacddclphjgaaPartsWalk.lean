/-
  The statement TracksParts, walked: who is down, and who is up, are together all tracks, each once.
-/
import Derived.Test.YtbeacddclphjgaaAlive
import Derived.Test.YtbeacddclphjgaaFrame
import Derived.Test.YtbeacddclphjgaaCmpS
namespace Go.Proofs.Ytbeacddclphjgaa
open Go.RowKit Go.Maps
set_option linter.unusedVariables false
set_option linter.unusedSimpArgs false
set_option maxRecDepth 10000

def PaRel (w : World) (B M : Nat) (b : Int) (l : List Bk) (n gg : Nat) (s42 : Value) (wr : World) : Prop :=
  ∃ (k : Nat) (T : List Tk), k + gg = n ∧ s42 = .int .i64 k ∧ SetAt wr B M b T ∧ Okay T ∧ bks T = l ∧ Below w.heap.size w wr
def Pb (w : World) (B M : Nat) (b : Int) (T : List Tk) (v : Value) (wr : World) : Prop := SetAt wr B M b T ∧ Nms wr w.heap.size v (dn T) ∧ Below w.heap.size w wr
theorem Pb.below {w : World} {B M : Nat} {b : Int} {T : List Tk} {v : Value} {wr w' : World} (h : Pb w B M b T v wr) (hb : Below wr.heap.size wr w') : Pb w B M b T v w' :=
  ⟨h.1.below hb, row_below h.2.1 hb, below_then h.2.2 h.2.2.size hb⟩
def downs (T : List Tk) (k : Nat) : Nat := (T.take k).countP fun t => !t.up
def PcRel (w : World) (B M : Nat) (b : Int) (T : List Tk) (v : Value) (n gg : Nat) (s12 s57 : Value) (wr : World) : Prop :=
  ∃ k : Nat, k + gg = n ∧ s57 = .int .i64 k ∧ s12 = .int .i64 (downs T k) ∧ Pb w B M b T v wr
def PdRel (w : World) (B M : Nat) (b : Int) (T : List Tk) (v : Value) (n gg : Nat) (s77 : Value) (wr : World) : Prop :=
  ∃ k : Nat, k + gg = n ∧ s77 = .int .i64 k ∧ Pb w B M b T v wr

theorem take_nextT (T : List Tk) (i : Nat) (h : i < T.length) : T.take (i + 1) = T.take i ++ [T[i]!] := by
  rw [List.take_add_one, List.getElem?_eq_getElem h, getElem!_pos T i h]; rfl
theorem downs_next {T : List Tk} {k : Nat} (hk : k < T.length) : downs T (k + 1) = downs T k + if (T[k]!).up then 0 else 1 := by
  unfold downs
  rw [take_nextT T k hk, List.countP_append]
  generalize T[k]! = t
  cases h : t.up <;> simp [h]
theorem downs_le (T : List Tk) (k : Nat) : downs T k ≤ T.length := by
  unfold downs
  exact Nat.le_trans List.countP_le_length (by rw [List.length_take]; exact Nat.min_le_right _ _)
theorem bks_at {T : List Tk} {l : List Bk} (h : bks T = l) {k : Nat} (hk : k < l.length) : k < T.length ∧ (l[k]!).name = (T[k]!).name := by
  subst h
  have hk2 : k < T.length := by simpa [bks] using hk
  refine ⟨hk2, ?_⟩
  rw [getElem!_pos (bks T) k hk, getElem!_pos T k hk2]
  simp [bks]
theorem up_at {T : List Tk} (h : Okay T) {k : Nat} (hk : k < T.length) : upOf T (T[k]!).name = (T[k]!).up ∧ isT T (T[k]!).name = true := by
  have := look_mem h.apart (t := T[k]!) (by rw [getElem!_pos T k hk]; exact List.getElem_mem hk)
  unfold upOf isT
  rw [this]
  exact ⟨rfl, rfl⟩
theorem dn_at {T : List Tk} (h : Okay T) {k : Nat} (hk : k < (dn T).length) : upOf T (dn T)[k]! = false ∧ isT T (dn T)[k]! = true ∧ ((dn T)[k]!).size ≤ maxLen := by
  have hm : (dn T)[k]! ∈ dn T := by rw [getElem!_pos (dn T) k hk]; exact List.getElem_mem hk
  obtain ⟨t, ht, hu⟩ := dn_up h hm
  unfold upOf isT
  rw [ht]
  obtain ⟨h1, h2⟩ := look_some ht
  have := h.fit t h1
  rw [← h2]
  exact ⟨hu, rfl, by simp only [maxLen]; omega⟩
theorem dn_lt {T : List Tk} (h : Okay T) {k : Nat} (hk : k + 1 < (dn T).length) : lt8 (dn T)[k]! (dn T)[k + 1]! = true := by
  have := List.pairwise_iff_getElem.1 (dn_srt h) k (k + 1) (by omega) hk (by omega)
  rwa [getElem!_pos (dn T) k (by omega), getElem!_pos (dn T) (k + 1) hk]

set_option maxHeartbeats 4000000 in
theorem parts_walk (b : Int) (a : Option Addr) (n c : Nat) (l : List Bk) (a2 : Option Addr) (n2 c2 : Nat) (s : List Opr) (w : World) (hbw : (Lit.int .i64 b).wf = true) (hBk : Bks w a n c l) (hW : Wide l) (hS : Scr w a2 n2 c2 s) :
    Calls Try.prog 7 #[.int .i64 b, .slice a n c, .slice a2 n2 c2] w fun e w' => e = .returned (.bool true) ∧ Below w.heap.size w w' := by
  clear hbw
  have HAL := Lib.hid (fun w => alive_any w)
  have HOWN := Lib.hid (own_any hBk)
  have HS := Lib.hid hS
  have HWD := Lib.hid hW
  have HBK := Lib.hid hBk
  have hnc2 := hS.2.1
  have hnc := hBk.2.1
  clear hBk hW hS
  go_enter Try.func7, Try.ntmps7
  go_wp2_with fail
  refine HOWN.out.mono ?_
  rintro e w1 ⟨a1, c1, rfl, hbk1, hb1⟩
  have HN := Lib.hid (new_any (b := b) hbk1 HWD.out)
  have HB1 := Lib.hid hb1
  clear hbk1 hb1
  go_wp2_with fail
  refine HN.out.mono ?_
  rintro e w2 ⟨pv, ev, rfl, hnew, hb2⟩
  have HB2 := Lib.hid (HB1.out.trans (hb2.mono HB1.out.size))
  clear hb2
  obtain ⟨-, rfl, rfl⟩ | ⟨hok, B, M, rfl, rfl, hs, hBg, hMg⟩ := hnew
  · go_wp2_with (go_at_call 11; refine (HAL.out _).mono ?_; rintro e w9 ⟨rfl, hb9⟩; have HB9 := Lib.hid hb9; clear hb9)
    go_ret
    exact ⟨rfl, HB2.out.trans (HB9.out.mono HB2.out.size)⟩
  have hBw : w.heap.size ≤ B := Nat.le_trans HB1.out.size hBg
  have hMw : w.heap.size ≤ M := Nat.le_trans HB1.out.size hMg
  have HST := Lib.hid (And.intro hs (okay_fresh hok.2))
  have HOK := Lib.hid hok
  have hbd := bound hok.1
  clear hs hBg hMg hok
  by_cases h500 : n2 ≤ 500
  case neg =>
    have hz5 : ((n2 : Int) > 500) := by omega
    go_wp2_with (go_at_call 11; refine (HAL.out _).mono ?_; rintro e w9 ⟨rfl, hb9⟩; have HB9 := Lib.hid hb9; clear hb9)
    go_ret
    exact ⟨rfl, HB2.out.trans (HB9.out.mono HB2.out.size)⟩
  have hz5 : ¬ ((n2 : Int) > 500) := by omega
  go_wp2
  go_loopg [10, 42] n2 (fun gg _ s42 wr => Hid (PaRel w B M b l n2 gg s42 wr))
  case atStart => exact Lib.hid ⟨0, _, by omega, rfl, HST.out.1, HST.out.2, bks_fresh l, HB2.out⟩
  case round =>
    obtain ⟨k, T, hk, rfl, hs, ok, hbk, hb⟩ := hrel.out
    clear hrel
    by_cases hkn : k < n2
    · have hkz : (k : Int) < (n2 : Int) := by omega
      obtain ⟨g, off, rfl, hgl, c0, c1, c2, c3⟩ := (HS.out.below hb).at hkn
      have hnm := HS.out.2.2.1 k (by rw [← HS.out.1]; exact hkn)
      generalize (s[k]!).name = nm at c2 hnm
      generalize (s[k]!).up = u at c3
      generalize (s[k]!).kind = kd at c0
      generalize (s[k]!).n = nn at c1
      have hbx := below_alloc (Below.refl wr.heap.size wr) (.cells #[.int .i64 kd, .int .i64 nn, .string nm, .bool u] 37)
      have HT := Lib.hid (tell_any (hs.below hbx) ok hbd hnm u)
      have HBL := Lib.hid (below_alloc hb (.cells #[.int .i64 kd, .int .i64 nn, .string nm, .bool u] 37))
      have HKK := Lib.hid (And.intro (ok.tel nm u) ((tel_bks T nm u).trans hbk))
      clear hs ok hb hnm hbx hbk
      go_wp2_with fail
      refine HT.out.mono ?_
      rintro e w5 ⟨rfl, hs5, ho5⟩
      have HG := Lib.hid (And.intro hs5 (HBL.out.trans (ho5.below (B := w.heap.size) HBL.out.size fun i hi => by have h1 : i = M := hi; omega)))
      clear hs5 ho5
      go_wp2
      go_roundg (n2 - (k + 1))
      case measure => omega
      case rel => exact Lib.hid ⟨k + 1, _, by omega, by go_num, HG.out.1, HKK.out.1, HKK.out.2, HG.out.2⟩
    · have hkz : ¬ (k : Int) < (n2 : Int) := by omega
      have HD := Lib.hid (down_any hs ok)
      have HOKT := Lib.hid ok
      have HBKS := Lib.hid hbk
      have HSB := Lib.hid (And.intro hs hb)
      clear hs ok hbk hb hkn hk
      go_wp2_with fail
      refine HD.out.mono ?_
      rintro e w6 ⟨v, rfl, hrow, hb6⟩
      have HPB : Hid (Pb w B M b T v w6) := Lib.hid ⟨HSB.out.1.below hb6, row_base hrow HSB.out.2.size, below_then HSB.out.2 HSB.out.2.size hb6⟩
      obtain ⟨m, hm⟩ : ∃ m, (dn T).length = m := ⟨_, rfl⟩
      have hm8 := dn_le HOKT.out
      unfold Nms at hrow
      rw [hm] at hrow hm8
      obtain ⟨a3, c3, rfl, -, -⟩ := row_any hrow
      have HM := Lib.hid hm
      clear hrow hb6 hm
      have hTl : l.length = T.length := by rw [← HBKS.out]; simp [bks]
      have hln := HBK.out.1
      have hn8 : n ≤ 8 := by rw [hln, hTl]; exact HOKT.out.len
      clear hTl hln
      go_wp2
      go_loopg [12, 14, 15, 16, 57] n (fun gg s12 _ _ _ s57 wr => Hid (PcRel w B M b T (.slice a3 m c3) n gg s12 s57 wr))
      case atStart => exact Lib.hid ⟨0, by omega, rfl, by simp [downs], HPB.out⟩
      case round =>
        obtain ⟨j, hj, rfl, rfl, hpb⟩ := hrel.out
        clear hrel
        by_cases hjn : j < n
        · have hjz : (j : Int) < (n : Int) := by omega
          obtain ⟨g, off, rfl, hgl, c0, c1⟩ := bk_at (HBK.out.below hpb.2.2) hjn
          have hjl : j < l.length := by rw [← HBK.out.1]; exact hjn
          obtain ⟨hjT, hnm⟩ := bks_at HBKS.out hjl
          obtain ⟨hu1, hu2⟩ := up_at HOKT.out hjT
          have hsz := (HWD.out j hjl).1
          rw [hnm] at c0 hsz
          have hbx := below_alloc (Below.refl wr.heap.size wr) (.cells #[.string (T[j]!).name, .int .i64 (l[j]!).wt] 53)
          have HU := Lib.hid (up_any (hpb.1.below hbx) (x := (T[j]!).name) (by simpa [maxLen] using hsz))
          rw [hu1, hu2] at HU
          have hdn := downs_next hjT
          have hdl := downs_le T j
          have hT8 := HOKT.out.len
          have HPX := Lib.hid (hpb.below hbx)
          generalize (T[j]!).name = nm at c0 HU HPX
          generalize (l[j]!).wt = wt at c1 HU HPX
          generalize (T[j]!).up = u at HU hdn
          obtain ⟨d, hd⟩ : ∃ d, downs T j = d := ⟨_, rfl⟩
          rw [hd] at hdn hdl
          have HDN := Lib.hid hdn
          have HDD := Lib.hid hd
          have hd8 : d ≤ 8 := by omega
          rw [hd]
          clear hpb hnm hu1 hu2 hsz hbx hdn hd hdl hT8 hjl
          go_wp2_with fail
          refine HU.out.mono ?_
          rintro e w7 ⟨rfl, hb7⟩
          have HP7 := Lib.hid (HPX.out.below hb7)
          clear hb7
          cases u with
          | true =>
            go_wp2
            go_roundg (n - (j + 1))
            case measure => omega
            case rel => exact Lib.hid ⟨j + 1, by omega, by go_num, by rw [HDN.out]; rfl, HP7.out⟩
          | false =>
            have HW : IntKind.i64.wrap ((d : Int) + 1) = ((d + 1 : Nat) : Int) := by rw [IntKind.wrap_i64]; omega
            go_wp2
            go_roundg (n - (j + 1))
            case measure => omega
            case rel => exact Lib.hid ⟨j + 1, by omega, by go_num, by rw [HDN.out]; first | rfl | (congr 1; simp; omega), HP7.out⟩
        · have hjz : ¬ (j : Int) < (n : Int) := by omega
          have hjT : j = T.length := by have h1 := HBK.out.1; have h2 : (bks T).length = T.length := by simp [bks]
                                        rw [HBKS.out] at h2; omega
          have hcnt : downs T j = m := by
            rw [← HM.out, dn_len, hjT]
            unfold downs
            rw [List.take_of_length_le (Nat.le_refl _)]
          have HPP := Lib.hid hpb
          rw [hcnt]
          clear hpb hcnt hjT
          go_wp2
          go_loopg [17, 18, 19, 20, 77] m (fun gg _ _ _ _ s77 wr => Hid (PdRel w B M b T (.slice a3 m c3) m gg s77 wr))
          case atStart => exact Lib.hid ⟨0, by omega, rfl, HPP.out⟩
          case round =>
            obtain ⟨i, hi, rfl, hpb⟩ := hrel.out
            clear hrel
            by_cases him : i < m
            · have hiz : (i : Int) < (m : Int) := by omega
              have hrow := hpb.2.1
              unfold Nms at hrow
              rw [HM.out] at hrow
              obtain ⟨g, c', e, _⟩ := row_slice hrow (by omega)
              simp only [Value.slice.injEq, true_and] at e
              obtain ⟨rfl, rfl⟩ := e
              have p1 := nrow_at hrow him
              obtain ⟨hu1, hu2, hsz⟩ := dn_at HOKT.out (by rw [HM.out]; exact him)
              have HU := Lib.hid (up_any hpb.1 hsz)
              rw [hu1, hu2] at HU
              have HPX := Lib.hid hpb
              cases i with
              | zero =>
                generalize (dn T)[0]! = nm at p1 HU
                clear hpb hrow hu1 hu2 hsz
                go_wp2_with fail
                refine HU.out.mono ?_
                rintro e w7 ⟨rfl, hb7⟩
                have HP7 := Lib.hid (HPX.out.below hb7)
                clear hb7
                go_wp2
                go_roundg (m - (0 + 1))
                case measure => omega
                case rel => exact Lib.hid ⟨0 + 1, by omega, by go_num, HP7.out⟩
              | succ i =>
                have p0 := nrow_at hrow (i := i) (by omega)
                have hlt := dn_lt HOKT.out (k := i) (by rw [HM.out]; exact him)
                have hgl := (hrow.lt g rfl).2
                generalize (dn T)[i + 1]! = nm at p1 HU hlt
                generalize (dn T)[i]! = nm0 at p0 hlt
                have hleq := fun w => leq_str hlt w
                have z1 : ((i + 1 : Nat) : Int) > 0 := by omega
                have z1a : decide (((i + 1 : Nat) : Int) > 0) = true := decide_eq_true z1
                have z1b : decide (0 < ((i + 1 : Nat) : Int)) = true := decide_eq_true z1
                have z1d : 0 < i + 1 := by omega
                have HW : IntKind.i64.wrap (((i + 1 : Nat) : Int) - 1) = (i : Int) := by rw [IntKind.wrap_i64]; omega
                have z3 : (i : Int) < (m : Int) := by omega
                generalize hI : i + 1 = I at *
                clear hpb hrow hu1 hu2 hsz hlt
                go_wp2_with fail
                refine HU.out.mono ?_
                rintro e w7 ⟨rfl, hb7⟩
                have p7 := hb7.cell (p := ⟨g, i, none⟩) hgl
                rw [p0] at p7
                have HP7 := Lib.hid (HPX.out.below hb7)
                clear hb7
                go_wp2
                go_roundg (m - (I + 1))
                case measure => omega
                case rel => exact Lib.hid ⟨I + 1, by omega, by go_num, HP7.out⟩
            · have hiz : ¬ (i : Int) < (m : Int) := by omega
              have HR := Lib.hid hpb.2.2
              clear hpb
              go_wp2_with (go_at_call 11; refine (HAL.out _).mono ?_; rintro e w9 ⟨rfl, hb9⟩; have HB9 := Lib.hid hb9; clear hb9)
              go_ret
              exact ⟨rfl, HR.out.trans (HB9.out.mono HR.out.size)⟩
end Go.Proofs.Ytbeacddclphjgaa
