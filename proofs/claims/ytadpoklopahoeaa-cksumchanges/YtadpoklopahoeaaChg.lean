/-
  What cksum.Change and the reference's Change do: Update, number by number.
-/
import Derived.Test.YtadpoklopahoeaaRegb
namespace Go.Proofs.Ytadpoklopahoeaa
open Go.RowKit

/-- Update for each two bytes, one behind the other. -/
def chg : Int → List Int → List Int → Int
  | s, a :: b :: r, c :: d :: r' => chg (upd s (a * 256 + b) (c * 256 + d)) r r'
  | s, _, _ => s

theorem chg_bd : ∀ (s : Int) (l m : List Int), 0 ≤ s ∧ s ≤ 65535 → 0 ≤ chg s l m ∧ chg s l m ≤ 65535
  | s, [], m, h => by simpa [chg] using h
  | s, [a], m, h => by simpa [chg] using h
  | s, a :: b :: r, [], h => by simpa [chg] using h
  | s, a :: b :: r, [c], h => by simpa [chg] using h
  | s, a :: b :: r, c :: d :: r', h => by rw [chg]; exact chg_bd _ r r' (upd_bd _ _ _)

theorem chg_step {s : Int} {l m : List Int} {k n : Nat} (hl : l.length = n) (hm : m.length = n) (hk : k + 2 ≤ n) :
    chg s (l.drop k) (m.drop k) = chg (upd s (l[k]?.getD 0 * 256 + l[k + 1]?.getD 0) (m[k]?.getD 0 * 256 + m[k + 1]?.getD 0)) (l.drop (k + 2)) (m.drop (k + 2)) := by
  have e : ∀ z : List Int, z.length = n → z.drop k = z[k]?.getD 0 :: z[k + 1]?.getD 0 :: z.drop (k + 2) := by
    intro z hz
    rw [List.drop_eq_getElem_cons (by omega), List.drop_eq_getElem_cons (by omega)]
    simp [List.getElem?_eq_getElem (show k < z.length by omega), List.getElem?_eq_getElem (show k + 1 < z.length by omega)]
  rw [e l hl, e m hm, chg]

/-- What holds ahead of each number. -/
def ChRel (kd : IntKind) (w : World) (s : Int) (l m : List Int) (n gg : Nat) (sv i : Value) (wr : World) : Prop :=
  ∃ (k : Nat) (S : Int), k + gg = n ∧ k % 2 = 0 ∧ i = .int .i64 k ∧ sv = .int kd S ∧ 0 ≤ S ∧ S ≤ 65535 ∧ chg S (l.drop k) (m.drop k) = chg s l m ∧ ∃ q, wr = w.drewN q

theorem quiet_more {P : Program} {f : FuncId} {args : Array Value} {w : World} {n : Nat} {v : Value}
    (h : Calls P f args (w.drewN n) fun e w' => e = .returned v ∧ ∃ m, w' = (w.drewN n).drewN m) : Calls P f args (w.drewN n) fun e w'' => e = .returned v ∧ ∃ m, w'' = w.drewN m := by
  refine h.mono ?_
  rintro e w' ⟨he, m, rfl⟩
  exact ⟨he, n + m, World.drewN_drewN _ _ _⟩

set_option maxHeartbeats 400000 in
theorem change_no (s : Int) (a1 a2 : Option Addr) (n1 c1 n2 c2 : Nat) (w : World) (h : n1 ≠ n2 ∨ n1 % 2 ≠ 0) :
    Calls Try.prog 22 #[.int .u16 s, .slice a1 n1 c1, .slice a2 n2 c2] w fun e w' => e = .returned (.tuple #[.int .u16 s, .bool false]) ∧ w = w' := by
  by_cases h0 : n1 = n2
  · have h1 : ((n1 : Int) != (n2 : Int)) = false := by simp; omega
    have h2 : ((n1 : Int) % 2 != 0) = true := by simp; omega
    clear h h0
    go_enter Try.func22, Try.ntmps22
    go_wp2
    go_ret2
    exact ⟨rfl, rfl⟩
  · have h1 : ((n1 : Int) != (n2 : Int)) = true := by simp; omega
    clear h
    go_enter Try.func22, Try.ntmps22
    go_wp2
    go_ret2
    exact ⟨rfl, rfl⟩

set_option maxHeartbeats 1000000 in
theorem change_yes (s : Int) (a1 a2 : Option Addr) (n c1 c2 : Nat) (l m : List Int) (w : World) (hs : 0 ≤ s ∧ s ≤ 65535) (hp : Part w ⟨a1, n, c1, l⟩) (hq : Part w ⟨a2, n, c2, m⟩) (h : n % 2 = 0) (hn : n ≤ 140737488355328) :
    Calls Try.prog 22 #[.int .u16 s, .slice a1 n c1, .slice a2 n c2] w fun e w' => e = .returned (.tuple #[.int .u16 (chg s l m), .bool true]) ∧ ∃ k, w' = w.drewN k := by
  have h1 : ((n : Int) != (n : Int)) = false := by simp
  have h2 : ((n : Int) % 2 != 0) = false := by simp; omega
  have hc1 : n ≤ c1 := hp.2.1
  have hc2 : n ≤ c2 := hq.2.1
  have HP := Lib.hid hp
  have HQ := Lib.hid hq
  clear hp hq
  go_enter Try.func22, Try.ntmps22
  go_wp2
  go_loopg [0, 8] n (fun gg sv i wr => ChRel .u16 w s l m n gg sv i wr)
  case atStart => exact ⟨0, s, by omega, rfl, rfl, rfl, hs.1, hs.2, by simp, 0, rfl⟩
  case round =>
    obtain ⟨k, S, hk, hk2, rfl, rfl, hS0, hS1, hch, hw⟩ := hrel
    have HC := Lib.hid hch
    have HW := Lib.hid hw
    clear hch hw
    by_cases hlt : k < n
    · obtain ⟨b1, o1, e1, d1⟩ := HP.out.2.2.2 (show 0 < n by omega)
      obtain ⟨b2, o2, e2, d2⟩ := HQ.out.2.2.2 (show 0 < n by omega)
      simp only at e1 e2
      subst e1 e2
      obtain ⟨x1, hx1⟩ : ∃ x, x = l[k]?.getD 0 := ⟨_, rfl⟩
      obtain ⟨y1, hy1⟩ : ∃ x, x = l[k + 1]?.getD 0 := ⟨_, rfl⟩
      obtain ⟨x2, hx2⟩ : ∃ x, x = m[k]?.getD 0 := ⟨_, rfl⟩
      obtain ⟨y2, hy2⟩ : ∃ x, x = m[k + 1]?.getD 0 := ⟨_, rfl⟩
      have f1 : wr.cell? ⟨b1, o1 + k, none⟩ = some (.int .u8 x1) := by obtain ⟨q, rfl⟩ := HW.out; rw [hx1]; exact d1 k (by simp; omega)
      have f2 : wr.cell? ⟨b1, o1 + k + 1, none⟩ = some (.int .u8 y1) := by obtain ⟨q, rfl⟩ := HW.out; rw [hy1]; exact d1 (k + 1) (by simp; omega)
      have f3 : wr.cell? ⟨b2, o2 + k, none⟩ = some (.int .u8 x2) := by obtain ⟨q, rfl⟩ := HW.out; rw [hx2]; exact d2 k (by simp; omega)
      have f4 : wr.cell? ⟨b2, o2 + k + 1, none⟩ = some (.int .u8 y2) := by obtain ⟨q, rfl⟩ := HW.out; rw [hy2]; exact d2 (k + 1) (by simp; omega)
      have r1 : 0 ≤ x1 ∧ x1 ≤ 255 := by rw [hx1]; exact HP.out.2.2.1.get k
      have r2 : 0 ≤ y1 ∧ y1 ≤ 255 := by rw [hy1]; exact HP.out.2.2.1.get (k + 1)
      have r3 : 0 ≤ x2 ∧ x2 ≤ 255 := by rw [hx2]; exact HQ.out.2.2.1.get k
      have r4 : 0 ≤ y2 ∧ y2 ≤ 255 := by rw [hy2]; exact HQ.out.2.2.1.get (k + 1)
      have hE : Hid (chg (upd S (x1 * 256 + y1) (x2 * 256 + y2)) (l.drop (k + 2)) (m.drop (k + 2)) = chg s l m) := by
        refine Lib.hid ?_
        rw [← HC.out, hx1, hy1, hx2, hy2]
        exact (chg_step (n := n) HP.out.1 HQ.out.1 (by omega)).symm
      clear hx1 hy1 hx2 hy2 d1 d2
      have i1 : (k : Int) < (n : Int) := by omega
      have i2 : (k : Int) ≤ (n : Int) := by omega
      have i3 : ¬ c1 = k := by omega
      have i4 : ¬ c2 = k := by omega
      have hub := upd_bd S (x1 * 256 + y1) (x2 * 256 + y2)
      have F := Lib.hid (show ((0 ≤ x1 ∧ x1 ≤ 255) ∧ (0 ≤ y1 ∧ y1 ≤ 255)) ∧ ((0 ≤ x2 ∧ x2 ≤ 255) ∧ (0 ≤ y2 ∧ y2 ≤ 255)) from ⟨⟨r1, r2⟩, r3, r4⟩)
      go_wp2_with fail
      go_quiet ((first
        | (go_at_call 18; exact quiet_left (upd_c _ _ _ _ ⟨hS0, hS1⟩ (by omega) (by omega)))
        | (go_at_call 25
           (with_reducible refine quiet_more (pair_any b1 _ _ _ x1 y1 _ ?_ r1 r2 ?_ ?_))
           · omega
           · exact f1
           · exact f2)
        | (go_at_call 25
           (with_reducible refine quiet_more (pair_any b2 _ _ _ x2 y2 _ ?_ r3 r4 ?_ ?_))
           · omega
           · exact f3
           · exact f4)))
      go_wp2
      go_roundg (n - (k + 2))
      case measure => omega
      case rel =>
        obtain ⟨q, hq⟩ := HW.out
        exact ⟨k + 2, _, by omega, by omega, by simp, rfl, hub.1, hub.2, hE.out, _, by rw [hq, World.drewN_drewN]⟩
    · obtain rfl : k = n := by omega
      go_wp2
      go_ret2
      have e1 : l.drop k = [] := List.drop_eq_nil_of_le (by have := HP.out.1; simp at this; omega)
      have := HC.out
      rw [e1] at this
      simp only [chg] at this
      rw [this]
      exact ⟨rfl, HW.out⟩

end Go.Proofs.Ytadpoklopahoeaa
