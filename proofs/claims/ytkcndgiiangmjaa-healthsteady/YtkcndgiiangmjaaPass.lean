/-
  wheel.pass: what is in the slots up to that of a time is gone through, and they are cleared.
-/
import Derived.Test.YtkcndgiiangmjaaClos
import Derived.Lib.SliceRun
namespace Go.Proofs.Ytkcndgiiangmjaa
open Go.RowKit Go.Maps
set_option linter.unusedVariables false
set_option linter.unusedSimpArgs false
set_option maxRecDepth 10000

def rests (now : Nat) (L : List Tm) (k : Nat) : List Tm := L.filter fun t => !decide (pl now t.at_ < k)
theorem rests_zero (now : Nat) (L : List Tm) : rests now L 0 = L := List.filter_eq_self.2 fun x _ => by simp
theorem firsts_rests {now : Nat} {L : List Tm} (h : Fit L) (hn : now ≤ 1099511627776) (k : Nat) : firsts now L k ++ rests now L k = L := (filter_rest (fun t : Tm => pl now t.at_) k (slot_mono h hn)).symm
theorem rests_next {now : Nat} {L : List Tm} (h : Fit L) (hn : now ≤ 1099511627776) (k : Nat) : rests now L k = slot now L k ++ rests now L (k + 1) := by
  have e1 := firsts_rests h hn k
  have e2 := firsts_rests h hn (k + 1)
  rw [firsts_next h hn, List.append_assoc] at e2
  exact List.append_cancel_left (e1.trans e2.symm)

def PsRel (w : World) (F : Nat → Prop) (B M : Nat) (sl : Nat → Value) (now m : Nat) (L : List Tm) (p gg : Nat) (s21 : Value) (wr : World) : Prop :=
  ∃ k : Nat, k + gg = p + 1 ∧ s21 = .int .i64 k ∧ ∃ v5 v6, MS w wr F B M sl now m L (firsts now L k) (rests now L k) v5 v6
def PsRel2 (w : World) (F : Nat → Prop) (B M : Nat) (sl : Nat → Value) (now m : Nat) (L : List Tm) (k n gg : Nat) (s27 : Value) (wr : World) : Prop :=
  ∃ j : Nat, j + gg = n ∧ s27 = .int .i64 j ∧ ∃ v5 v6, MS w wr F B M sl now m L (firsts now L k ++ (slot now L k).take j) ((slot now L k).drop j ++ rests now L (k + 1)) v5 v6

set_option maxHeartbeats 4000000 in
theorem pass_any {w W : World} {F : Nat → Prop} {B M : Nat} {sl : Nat → Value} {now m : Nat} {L : List Tm} (h : MS w W F B M sl now m L [] L (.slice none 0 0) (.slice none 0 0)) (hF : ∀ i, F i → i < w.heap.size) (hf : Fit L) (hn : now ≤ m) (hm : m ≤ 1099511627776) (hlen : L.length ≤ 1000) :
    Calls Try.prog 38 #[.pointer (some ⟨B, 0, none⟩), .int .i64 m, .func (.func 39) #[] #[.pointer (some ⟨w.heap.size + 1, 0, none⟩), .pointer (some ⟨w.heap.size + 3, 0, none⟩), .pointer (some ⟨w.heap.size + 2, 0, none⟩), .pointer (some ⟨w.heap.size, 0, none⟩)]] W fun e W' =>
      e = .returned (.tuple #[]) ∧ ∃ v5 v6 W1, MS w W1 F B M sl now m L (firsts now L (pl now m + 1)) (rests now L (pl now m + 1)) v5 v6 ∧ W' = W1.setCells B 2 (List.replicate (pl now m + 1) (.slice none 0 0)) := by
  have hPL := fun n => place_any (w := W.drewN n) (at_ := m) ⟨M, sl, h.wh.below (below_drewN (Below.refl _ _) _)⟩ (Nat.le_trans hn hm) hm
  obtain ⟨p, hp⟩ : ∃ p, pl now m = p := ⟨_, rfl⟩
  have hp448 : p < 448 := by rw [← hp]; exact pl_lt _ _
  rw [hp] at hPL ⊢
  have HPL := Lib.hid hPL
  have H := Lib.hid h
  have HF := Lib.hid hF
  have HFit := Lib.hid hf
  have hn2 := Nat.le_trans hn hm
  clear hPL h hF hf hp hn
  have hpw : IntKind.i64.wrap ((p : Int) + 1) = (p : Int) + 1 := by rw [IntKind.wrap_i64]; omega
  have hp1 : (p : Int) + 1 ≤ 448 := by omega
  have hp2 : (0 : Int) ≤ (p : Int) + 1 := by omega
  go_enter Try.func38, Try.ntmps38
  go_wp2_with fail
  go_quiet (first | (go_at_call_of 41 (Value.pointer (some ⟨B, 0, none⟩)); exact Calls.quiet_of (HPL.out _)))
  go_wp2_with fail
  obtain ⟨wv, hwv⟩ : ∃ X, X = W.drewN nq := ⟨_, rfl⟩
  rw [← hwv]
  have HWV : Hid (MS w wv F B M sl now m L [] L (.slice none 0 0) (.slice none 0 0)) := Lib.hid (by rw [hwv]; exact H.out.below (below_drewN (Below.refl _ _) _))
  clear hwv
  go_loopg [21] (p + 1) (fun gg s21 wr => Hid (PsRel w F B M sl now m L p gg s21 wr))
  case atStart => exact Lib.hid ⟨0, by omega, rfl, _, _, by rw [firsts_zero, rests_zero]; exact HWV.out⟩
  case round =>
    obtain ⟨k, hk, rfl, v5, v6, hM⟩ := hrel.out
    clear hrel
    obtain ⟨wo, hwo⟩ : ∃ X, X = wr := ⟨_, rfl⟩
    rw [← hwo] at hM ⊢
    clear hwo
    by_cases hlt : k < p + 1
    · have hltz : (k : Int) < (p : Int) + 1 := by omega
      have hk448 : k < 448 := by omega
      have c2 := hM.wh.cells.2.2 k hk448
      have hrow := hM.wh.row k hk448
      obtain ⟨a, c, e, hnc, hcm⟩ := row_any hrow
      have HSL := Lib.hid e
      rw [e] at c2
      have HMS : Hid (MS w wo F B M sl now m L (firsts now L k) (slot now L k ++ rests now L (k + 1)) v5 v6) := Lib.hid (by rw [← rests_next HFit.out hn2]; exact hM)
      generalize hN : (slot now L k).length = n at c2 hnc
      have HN := Lib.hid hN
      have hn3 : n ≤ 1000 := by rw [← hN]; exact Nat.le_trans (slot_len_le now L k) hlen
      have hkp : k < p + 1 := hlt
      clear hM hrow e hN
      go_wp2_with fail
      go_loopg [27] n (fun gg s27 wr => Hid (PsRel2 w F B M sl now m L k n gg s27 wr))
      case atStart => exact Lib.hid ⟨0, by omega, rfl, v5, v6, by rw [List.take_zero, List.drop_zero, List.append_nil]; exact HMS.out⟩
      case round =>
        obtain ⟨j, hj, rfl, u5, u6, hM⟩ := hrel.out
        clear hrel
        by_cases hjn : j < n
        · have hjz : (j : Int) < (n : Int) := by omega
          have hjl : j < (slot now L k).length := by rw [HN.out]; exact hjn
          have hrow := hM.wh.row k hk448
          rw [HSL.out, HN.out] at hrow
          obtain ⟨g, c', e, _⟩ := row_slice hrow (by omega)
          simp only [Value.slice.injEq, true_and] at e
          obtain ⟨rfl, rfl⟩ := e
          obtain ⟨d0, d1⟩ := trow_at hrow hjn
          have hLP : firsts now L k ++ (slot now L k).take j ++ ((slot now L k).drop j ++ rests now L (k + 1)) = L := by
            rw [List.append_assoc, ← List.append_assoc ((slot now L k).take j), List.take_append_drop, ← rests_next HFit.out hn2, firsts_rests HFit.out hn2]
          have hdr : (slot now L k).drop j = (slot now L k)[j]! :: (slot now L k).drop (j + 1) := by
            rw [List.drop_eq_getElem_cons hjl, getElem!_pos _ j hjl]
          have htk : (slot now L k).take (j + 1) = (slot now L k).take j ++ [(slot now L k)[j]!] := by
            rw [List.take_add_one, List.getElem?_eq_getElem hjl, getElem!_pos _ j hjl]; rfl
          rw [hdr] at hM hLP
          generalize hT : (slot now L k)[j]! = t at d0 d1 hM hLP htk
          clear hT hdr hrow
          have hPl : (firsts now L k ++ (slot now L k).take j).length ≤ 1000 := by
            have := congrArg List.length hLP
            rw [List.length_append] at this
            omega
          have hfl : Fit ((firsts now L k ++ (slot now L k).take j) ++ t :: ((slot now L k).drop (j + 1) ++ rests now L (k + 1))) := by
            rw [List.cons_append] at hLP
            rw [hLP]
            exact HFit.out
          rw [List.cons_append] at hM
          obtain ⟨ti, ta⟩ := t
          have HCL := Lib.hid (clo_any (hM.below (below_alloc (Below.refl _ _) (.cells #[.int .i64 (ti : Int), .int .i64 (ta : Int)] 90))) HF.out hPl hfl)
          have HTK := Lib.hid htk
          simp only [tv] at HCL d0 d1
          clear hM hLP htk hPl hfl hjl
          go_wp2_with (go_at_call 39; refine HCL.out.mono ?_; rintro e w1 ⟨rfl, x5, x6, hM1⟩; have HM1 := Lib.hid hM1; clear hM1)
          go_roundg (n - (j + 1))
          case measure => omega
          case rel =>
            refine Lib.hid ⟨j + 1, by omega, by go_num, x5, x6, ?_⟩
            rw [HTK.out, ← List.append_assoc]
            exact HM1.out
        · obtain rfl : j = n := by omega
          have hM2 : MS w wr F B M sl now m L (firsts now L (k + 1)) (rests now L (k + 1)) u5 u6 := by
            rw [firsts_next HFit.out hn2]
            have e1 : (slot now L k).take j = slot now L k := List.take_of_length_le (by rw [HN.out]; exact Nat.le_refl _)
            have e2 : (slot now L k).drop j = [] := List.drop_eq_nil_of_le (by rw [HN.out]; exact Nat.le_refl _)
            rw [e1, e2, List.nil_append] at hM
            exact hM
          have HM2 := Lib.hid hM2
          clear hM hM2
          go_wp2_with fail
          go_roundg (p + 1 - (k + 1))
          case measure => omega
          case rel => exact Lib.hid ⟨k + 1, by omega, by go_num, u5, u6, HM2.out⟩
    · obtain rfl : k = p + 1 := by omega
      have hcl := fun ty => Lib.run_clear_slice (P := Try.prog) wo 101 83 ty (.slice none 0 0) Try.underlying101 Try.zeroValue83 rfl rfl B 2 (p + 1) 448 (by omega) (fun j hj => by rw [hM.wh.cells.2.2 j (by omega)]; rfl) (fun j hj => hM.wh.free (2 + j))
      have h0 := hcl 0
      have HM := Lib.hid hM
      clear hcl hM
      go_wp2_with fail
      go_end0
      exact ⟨rfl, v5, v6, wo, HM.out, rfl⟩

end Go.Proofs.Ytkcndgiiangmjaa
