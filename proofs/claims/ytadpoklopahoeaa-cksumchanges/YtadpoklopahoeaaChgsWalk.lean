/-
  The walk of CksumChanges.
-/
import Derived.Test.YtadpoklopahoeaaChg
namespace Go.Proofs.Ytadpoklopahoeaa
open Go.ChangeShapes Go.WideShapes Go.ChangeAt Go.RowKit
set_option linter.unusedVariables false

theorem below_then {w W w1 : World} (h : Below w.heap.size w W) (hb : Below W.heap.size W w1) : Below w.heap.size w w1 := h.trans (hb.mono h.size)

set_option maxHeartbeats 400000 in
theorem rchange_no (s : Int) (a1 a2 : Option Addr) (n1 c1 n2 c2 : Nat) (w : World) (h : n1 ≠ n2 ∨ n1 % 2 ≠ 0) :
    Calls Try.prog 23 #[.int .i64 s, .slice a1 n1 c1, .slice a2 n2 c2] w fun e w' => e = .returned (.tuple #[.int .i64 s, .bool false]) ∧ w = w' := by
  by_cases h0 : n1 = n2
  · have h1 : ((n1 : Int) != (n2 : Int)) = false := by simp; omega
    have h2 : ((n1 : Int) % 2 != 0) = true := by simp; omega
    clear h h0
    go_enter Try.func23, Try.ntmps23
    go_wp2
    go_ret2
    exact ⟨rfl, rfl⟩
  · have h1 : ((n1 : Int) != (n2 : Int)) = true := by simp; omega
    clear h
    go_enter Try.func23, Try.ntmps23
    go_wp2
    go_ret2
    exact ⟨rfl, rfl⟩

set_option maxHeartbeats 1000000 in
theorem rchange_yes (s : Int) (a1 a2 : Option Addr) (n c1 c2 : Nat) (l m : List Int) (w : World) (hs : 0 ≤ s ∧ s ≤ 65535) (hp : Part w ⟨a1, n, c1, l⟩) (hq : Part w ⟨a2, n, c2, m⟩) (h : n % 2 = 0) (hn : n ≤ 140737488355328) :
    Calls Try.prog 23 #[.int .i64 s, .slice a1 n c1, .slice a2 n c2] w fun e w' => e = .returned (.tuple #[.int .i64 (chg s l m), .bool true]) ∧ ∃ k, w' = w.drewN k := by
  have h1 : ((n : Int) != (n : Int)) = false := by simp
  have h2 : ((n : Int) % 2 != 0) = false := by simp; omega
  have hc1 : n ≤ c1 := hp.2.1
  have hc2 : n ≤ c2 := hq.2.1
  have HP := Lib.hid hp
  have HQ := Lib.hid hq
  clear hp hq
  go_enter Try.func23, Try.ntmps23
  go_wp2
  go_loopg [0, 8] n (fun gg sv i wr => ChRel .i64 w s l m n gg sv i wr)
  case atStart => exact ⟨0, s, by omega, rfl, rfl, rfl, hs.1, hs.2, by simp, 0, rfl⟩
  case round =>
    obtain ⟨k, S, hk, hk2, rfl, rfl, hS0, hS1, hch, hw⟩ := hrel
    have HC := Lib.hid hch
    have HW := Lib.hid hw
    clear hch hw
    by_cases hlt : k < n
    · obtain ⟨b1, o1, e1, d1⟩ := HP.out.2.2.2 (show 0 < n by omega)
      obtain ⟨b2, o2, e2, d2⟩ := HQ.out.2.2.2 (show 0 < n by omega)
      simp only at e1 e2
      subst e1 e2
      obtain ⟨x1, hx1⟩ : ∃ x, x = l[k]?.getD 0 := ⟨_, rfl⟩
      obtain ⟨y1, hy1⟩ : ∃ x, x = l[k + 1]?.getD 0 := ⟨_, rfl⟩
      obtain ⟨x2, hx2⟩ : ∃ x, x = m[k]?.getD 0 := ⟨_, rfl⟩
      obtain ⟨y2, hy2⟩ : ∃ x, x = m[k + 1]?.getD 0 := ⟨_, rfl⟩
      have f1 : wr.cell? ⟨b1, o1 + k, none⟩ = some (.int .u8 x1) := by obtain ⟨q, rfl⟩ := HW.out; rw [hx1]; exact d1 k (by simp; omega)
      have f2 : wr.cell? ⟨b1, o1 + (k + 1), none⟩ = some (.int .u8 y1) := by obtain ⟨q, rfl⟩ := HW.out; rw [hy1]; exact d1 (k + 1) (by simp; omega)
      have f3 : wr.cell? ⟨b2, o2 + k, none⟩ = some (.int .u8 x2) := by obtain ⟨q, rfl⟩ := HW.out; rw [hx2]; exact d2 k (by simp; omega)
      have f4 : wr.cell? ⟨b2, o2 + (k + 1), none⟩ = some (.int .u8 y2) := by obtain ⟨q, rfl⟩ := HW.out; rw [hy2]; exact d2 (k + 1) (by simp; omega)
      have r1 : 0 ≤ x1 ∧ x1 ≤ 255 := by rw [hx1]; exact HP.out.2.2.1.get k
      have r2 : 0 ≤ y1 ∧ y1 ≤ 255 := by rw [hy1]; exact HP.out.2.2.1.get (k + 1)
      have r3 : 0 ≤ x2 ∧ x2 ≤ 255 := by rw [hx2]; exact HQ.out.2.2.1.get k
      have r4 : 0 ≤ y2 ∧ y2 ≤ 255 := by rw [hy2]; exact HQ.out.2.2.1.get (k + 1)
      have hE : Hid (chg (upd S (x1 * 256 + y1) (x2 * 256 + y2)) (l.drop (k + 2)) (m.drop (k + 2)) = chg s l m) := by
        refine Lib.hid ?_
        rw [← HC.out, hx1, hy1, hx2, hy2]
        exact (chg_step (n := n) HP.out.1 HQ.out.1 (by omega)).symm
      clear hx1 hy1 hx2 hy2 d1 d2
      have i1 : (k : Int) < (n : Int) := by omega
      have i2 : (k : Int) + 1 < (n : Int) := by omega
      have i3 : (0 : Int) ≤ (k : Int) + 1 := by omega
      have hub := upd_bd S (x1 * 256 + y1) (x2 * 256 + y2)
      have b1' : 0 ≤ x1 * 256 + y1 ∧ x1 * 256 + y1 ≤ 65535 := by omega
      have b2' : 0 ≤ x2 * 256 + y2 ∧ x2 * 256 + y2 ≤ 65535 := by omega
      have j1 : IntKind.i64.wrap ((k : Int) + 1) = (k : Int) + 1 := IntWalk.i64_in _ (by omega)
      have j2 : ((k : Int) + 1).toNat = k + 1 := by omega
      have j3 : IntKind.i64.wrap (x1 * 256) = x1 * 256 := IntWalk.i64_in _ (by omega)
      have j4 : IntKind.i64.wrap (x2 * 256) = x2 * 256 := IntWalk.i64_in _ (by omega)
      have j5 : IntKind.i64.wrap (x1 * 256 + y1) = x1 * 256 + y1 := IntWalk.i64_in _ (by omega)
      have j6 : IntKind.i64.wrap (x2 * 256 + y2) = x2 * 256 + y2 := IntWalk.i64_in _ (by omega)
      go_wp2_with fail
      go_quiet ((go_at_call 19; exact quiet_left (rupd_c _ _ _ _ ⟨hS0, hS1⟩ b1' b2')))
      clear j1 j2 j3 j4 j5 j6
      go_wp2
      go_roundg (n - (k + 2))
      case measure => omega
      case rel =>
        obtain ⟨q, hq⟩ := HW.out
        exact ⟨k + 2, _, by omega, by omega, by simp, rfl, hub.1, hub.2, hE.out, _, by rw [hq, World.drewN_drewN]⟩
    · obtain rfl : k = n := by omega
      go_wp2
      go_ret2
      have e1 : l.drop k = [] := List.drop_eq_nil_of_le (by have := HP.out.1; simp at this; omega)
      have := HC.out
      rw [e1] at this
      simp only [chg] at this
      rw [this]
      exact ⟨rfl, HW.out⟩

set_option maxHeartbeats 400000 in
theorem changes_walk (s : Int) (a1 : Option Addr) (n1 c1 : Nat) (l : List Int) (a2 : Option Addr) (n2 c2 : Nat) (m : List Int) (w : World) (w0 : (Lit.int .u16 s).wf = true) (hp : Part w ⟨a1, n1, c1, l⟩) (k1 : c1 ≤ 140737488351232) (hq : Part w ⟨a2, n2, c2, m⟩) (k2 : c2 ≤ 140737488351232) :
    Calls Try.prog 5 #[.int .u16 s, .slice a1 n1 c1, .slice a2 n2 c2] w fun e w' => e = .returned (.bool true) ∧ Below w.heap.size w w' := by
  have hs := bounds_u16 w0
  have hb := chg_bd s l m hs
  have hc : n1 ≤ c1 := hp.2.1
  clear w0
  by_cases h : n1 ≠ n2 ∨ n1 % 2 ≠ 0
  · have H := Lib.hid h
    clear h hp hq
    go_enter Try.func5, Try.ntmps5
    go_wp2_with fail
    refine (change_no s a1 a2 n1 c1 n2 c2 _ H.out).mono ?_
    rintro e w1 ⟨rfl, rfl⟩
    go_wp2_with fail
    refine (rchange_no s a1 a2 n1 c1 n2 c2 _ H.out).mono ?_
    rintro e w1 ⟨rfl, rfl⟩
    go_wp2_with fail
    refine (alive_any _).mono ?_
    rintro e w1 ⟨rfl, hbel⟩
    go_wp2
    go_ret
    exact ⟨rfl, hbel⟩
  · obtain rfl : n1 = n2 := by omega
    have he := Lib.hid (show n1 % 2 = 0 by omega)
    have HP := Lib.hid hp
    have HQ := Lib.hid hq
    obtain ⟨r, hr⟩ : ∃ r, chg s l m = r := ⟨_, rfl⟩
    rw [hr] at hb
    have HR := Lib.hid hr
    clear h hp hq hr
    go_enter Try.func5, Try.ntmps5
    go_wp2_with fail
    refine (change_yes s a1 a2 n1 c1 c2 l m _ hs HP.out HQ.out he.out (by omega)).mono ?_
    rw [HR.out]
    rintro e w1 ⟨rfl, q1, rfl⟩
    go_wp2_with fail
    refine (rchange_yes s a1 a2 n1 c1 c2 l m _ hs (HP.out.drewN _) (HQ.out.drewN _) he.out (by omega)).mono ?_
    rw [HR.out]
    rintro e w1 ⟨rfl, q2, rfl⟩
    go_wp2_with fail
    refine (alive_any _).mono ?_
    rintro e w1 ⟨rfl, hbel⟩
    have HB1 : Hid (Below w.heap.size w w1) := Lib.hid (below_then (by repeat (first | exact Below.refl _ _ | refine below_alloc ?_ _ | refine below_drewN ?_ _)) hbel)
    clear hbel
    go_wp2
    go_ret
    exact ⟨rfl, HB1.out⟩


end Go.Proofs.Ytadpoklopahoeaa
