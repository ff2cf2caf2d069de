/-
  The walk of CksumBack.
-/
import Derived.Test.YtadpoklopahoeaaUpd
namespace Go.Proofs.Ytadpoklopahoeaa
open Go.ChangeShapes Go.WideShapes Go.ChangeAt Go.RowKit
set_option linter.unusedVariables false

theorem back_fd {T : Int} (h0 : 0 ≤ T) : fd (T + (65535 - fd T)) = 65535 := by
  have h1 := fd_bd T
  have h2 := @fd_mod T
  have h3 : fd T ≤ T := by unfold fd; split <;> omega
  generalize fd T = u at *
  unfold fd; split <;> omega

def ev (n : Nat) : Bool := !(((n : Int) % 2) != 0)

set_option maxHeartbeats 400000 in
theorem back_walk (a : Option Addr) (n c : Nat) (bs : List Int) (w : World) (hp : Part w ⟨a, n, c, bs⟩) (hn : c ≤ 140737488351232) :
    Calls Try.prog 6 #[.slice a n c] w fun e w' => e = .returned (.bool true) ∧ Below w.heap.size w w' := by
  have hnc : n ≤ c := hp.2.1
  obtain ⟨s, hs⟩ : ∃ s, fd (tot bs) = s := ⟨_, rfl⟩
  have hsb : 0 ≤ s ∧ s ≤ 65535 := by subst hs; exact fd_bd _
  obtain ⟨g, hg⟩ : ∃ g, fd (tot (bs ++ [(65535 - s) / 256, (65535 - s) % 256])) = g := ⟨_, rfl⟩
  have hev : n % 2 = 0 → g = 65535 := by
    intro he
    have hl : bs.length % 2 = 0 := by rw [hp.1]; exact he
    rw [← hg, tot_append_even _ _ hl, tot_pair, ← hs]
    have e : (65535 - fd (tot bs)) / 256 * 256 + (65535 - fd (tot bs)) % 256 = 65535 - fd (tot bs) := by omega
    rw [e]
    exact back_fd (tot_bd2 _ hp.2.2.1).1
  have HP := Lib.hid hp
  have HS := Lib.hid hs
  have HG := Lib.hid hg
  have HE := Lib.hid hev
  clear hp hs hg hev
  go_enter Try.func6, Try.ntmps6
  go_wp2_with fail
  refine (put_at (ps := [⟨a, n, c, bs⟩]) (s := s) (Parts.one (by simp [go_sem, PartV.val]) (HP.out.alloc _) (by simp; omega)) rfl (by simpa [flat] using HS.out)).mono ?_
  rintro e w1 ⟨rfl, k1, rfl⟩
  go_wp2_with fail
  refine (good_at (ps := [⟨a, n, c, bs⟩, ⟨some ⟨w.heap.size + 1, 0, none⟩, 2, 2, [(65535 - s) / 256, (65535 - s) % 256]⟩]) (s := g)
    (Parts.two (by simp [go_sem, PartV.val]) (by simp [go_sem, PartV.val]) ((((HP.out.alloc _).drewN _).alloc _).alloc _)
      ((part_at (t := 5) (zs := [(65535 - s) / 256, (65535 - s) % 256]) (by intro x hx; simp at hx; omega) (by simp)).alloc _) (by simp; omega) (by simp)) rfl (by simpa [flat] using HG.out)).mono ?_
  rintro e w1 ⟨rfl, k2, rfl⟩
  go_wp2_with fail
  refine (alive_any _).mono ?_
  rintro e w1 ⟨rfl, hbel⟩
  have hB : Below w.heap.size w w1 := Below.trans (below_drewN (((below_drewN ((Below.refl _ _).alloc (Nat.le_refl _) _) _).alloc (by simp) _).alloc (by simp; omega) _) _) (hbel.mono (by simp; omega))
  have HB := Lib.hid hB
  clear hbel hB
  by_cases he : n % 2 = 0
  · have hg' := HE.out he
    subst hg'
    have h1 : ((n : Int) % 2 != 0) = false := by simp; omega
    go_wp2
    go_ret
    exact ⟨rfl, HB.out⟩
  · have h1 : ((n : Int) % 2 != 0) = true := by simp; omega
    go_wp2
    go_ret
    exact ⟨rfl, HB.out⟩


end Go.Proofs.Ytadpoklopahoeaa
