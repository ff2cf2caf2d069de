/-
  The walk of CksumTurned.
-/
import Derived.Test.YtadpoklopahoeaaApp
namespace Go.Proofs.Ytadpoklopahoeaa
open Go.ChangeShapes Go.WideShapes Go.ChangeAt Go.RowKit
set_option linter.unusedVariables false

theorem below_then {w W w1 : World} {B : Nat} (h : Below B w W) (hB : B ≤ W.heap.size) (hb : Below W.heap.size W w1) : Below B w w1 := h.trans (hb.mono hB)
theorem own_part {w : World} {B : Nat} {v : Value} {zs : List Int} (h : Own w B v zs) (hz : Byt zs) : ∃ A c N, v = .slice A N c ∧ Part w ⟨A, N, c, zs⟩ := by
  obtain ⟨A, c, e, hp⟩ := h.part hz
  exact ⟨A, c, zs.length, e, hp⟩

/-- What holds ahead of each two bytes, from behind. -/
def TuRel (w : World) (l : List Int) (j : Nat) (v k : Value) (wr : World) : Prop :=
  ∃ (zs : List Int) (K : Int), Own wr w.heap.size v zs ∧ Byt zs ∧ zs.length + 2 * j = l.length ∧ tot zs = tot (l.drop (2 * j)) ∧ k = .int .i64 K ∧ K = 2 * (j : Int) - 2 ∧ Below w.heap.size w wr

theorem tu_step {w w1 : World} {l zs : List Int} {j : Nat} {v' : Value} {x y : Int} (ho : Own w1 w.heap.size v' (zs ++ [x, y])) (hz : Byt zs) (hl : zs.length + 2 * (j + 1) = l.length) (ht : tot zs = tot (l.drop (2 * (j + 1)))) (he : l.length % 2 = 0)
    (hx : x = l[2 * j]?.getD 0) (hy : y = l[2 * j + 1]?.getD 0) (hxb : 0 ≤ x ∧ x ≤ 255) (hyb : 0 ≤ y ∧ y ≤ 255) (hb : Below w.heap.size w w1) : TuRel w l j v' (.int .i64 (2 * (j : Int) - 2)) w1 := by
  refine ⟨zs ++ [x, y], _, ho, hz.append ((Byt.nil.cons hyb).cons hxb), by simp; omega, ?_, rfl, rfl, hb⟩
  rw [tot_append_even _ _ (by omega), tot_pair, ht]
  have e : l.drop (2 * j) = x :: y :: l.drop (2 * (j + 1)) := by
    rw [List.drop_eq_getElem_cons (by omega), List.drop_eq_getElem_cons (by omega), hx, hy]
    simp [List.getElem?_eq_getElem (show 2 * j < l.length by omega), List.getElem?_eq_getElem (show 2 * j + 1 < l.length by omega), Nat.mul_add]
  rw [e]
  simp only [tot]; omega

attribute [local go_sem ↓] Go.wp_at_zero Go.wp_at_succ
set_option maxHeartbeats 1000000 in
theorem turned_walk (a : Option Addr) (n c : Nat) (bs : List Int) (w : World) (hp0 : Part w ⟨a, n, c, bs⟩) (hn : c ≤ 140737488351232) :
    Calls Try.prog 9 #[.slice a n c] w fun e w' => e = .returned (.bool true) ∧ Below w.heap.size w w' := by
  have hnc : n ≤ c := hp0.2.1
  obtain ⟨m, hm⟩ : ∃ m, m = n / 2 := ⟨_, rfl⟩
  obtain ⟨l, hl⟩ : ∃ l, l = bs.take (n / 2 * 2) := ⟨_, rfl⟩
  have hp : Part w ⟨a, n / 2 * 2, c, l⟩ := by
    have := hp0.sub 0 (n / 2 * 2) (by omega)
    have e : (if c = 0 then a else a.map (·.add 0)) = a := by
      split
      · rfl
      · cases a <;> simp [Addr.add]
    rw [e] at this
    rw [hl]
    simpa using this
  have hll : l.length = 2 * m := by have : l.length = n / 2 * 2 := hp.1; omega
  have g1 : (n : Int) / 2 * 2 ≤ (c : Int) := by omega
  have g2 : (0 : Int) ≤ (n : Int) / 2 * 2 := by omega
  have HP := Lib.hid hp
  have HLL := Lib.hid hll
  have HM := Lib.hid hm
  clear hp0 hl hp hll hm
  go_enter Try.func9, Try.ntmps9
  go_wp2_with fail
  go_loopg [3, 4] (n / 2) (fun j v k wr => TuRel w l j v k wr)
  case atStart => exact ⟨[], _, Own.none_ _ _, Byt.nil, by have := HLL.out; have := HM.out; simp; omega, by rw [List.drop_eq_nil_of_le (by have := HLL.out; have := HM.out; omega)], rfl, by omega, Below.refl _ _⟩
  case round =>
    obtain ⟨zs, K, ho, hz, hlen, htot, rfl, hK, hbel⟩ := hrel
    have HO := Lib.hid ho
    have HZ := Lib.hid hz
    have HLe := Lib.hid hlen
    have HT := Lib.hid htot
    have HK := Lib.hid hK
    have HB := Lib.hid hbel
    clear ho hz hlen htot hK hbel
    rcases gk with _ | j
    · have hk : K < 0 := by have := HK.out; omega
      have hzl : zs.length ≤ 140737488355328 := by have := HLe.out; have := HLL.out; have := HM.out; omega
      obtain ⟨A3, c3, N3, rfl, hp3⟩ := own_part HO.out HZ.out
      have HP3 := Lib.hid hp3
      have hN3 : N3 ≤ 140737488355328 := by have : zs.length = N3 := hp3.1; omega
      obtain ⟨s, hs⟩ : ∃ s, fd (tot l) = s := ⟨_, rfl⟩
      have HS := Lib.hid hs
      have HS2 := Lib.hid (show fd (tot zs) = s by rw [HT.out]; simpa using hs)
      have HP1 := Lib.hid (HP.out.below HB.out)
      clear hp3 hs
      have hn2 : n / 2 * 2 ≤ 140737488355328 := by omega
      go_wp2_with fail
      refine (alive_any _).mono ?_
      rintro e w4 ⟨rfl, hb4⟩
      have HB4 := Lib.hid (below_then HB.out HB.out.size hb4)
      have HP4 := Lib.hid (HP1.out.below hb4)
      have HP5 := Lib.hid (HP3.out.below hb4)
      clear hb4
      go_wp2_with fail
      refine (sum_one (bs := l) (s := s) ⟨(World.cell?_alloc_at _ _ _ _ rfl).trans rfl, HP4.out.alloc _⟩ hn2 HS.out).mono ?_
      rintro e w5 ⟨rfl, j1, rfl⟩
      go_wp2_with fail
      refine (sum_one (bs := zs) (s := s) ⟨(World.cell?_alloc_at _ _ _ _ (by simp)).trans rfl, ((HP5.out.alloc _).drewN _).alloc _⟩ hN3 HS2.out).mono ?_
      rintro e w5 ⟨rfl, j2, rfl⟩
      go_wp2
      go_ret
      refine ⟨by first | rfl | simp, ?_⟩
      repeat (first | exact HB4.out | refine below_alloc ?_ _ | refine below_drewN ?_ _)
    · obtain ⟨i, hi⟩ : ∃ i, i = 2 * j := ⟨_, rfl⟩
      obtain rfl : K = (i : Int) := by have := HK.out; omega
      have hin : i + 2 ≤ n / 2 * 2 := by have := HLe.out; have := HLL.out; have := HM.out; omega
      obtain ⟨b, off, e, d⟩ := HP.out.2.2.2 (show 0 < n / 2 * 2 by omega)
      simp only at e
      subst e
      obtain ⟨x, hx⟩ : ∃ x, x = l[i]?.getD 0 := ⟨_, rfl⟩
      obtain ⟨y, hy⟩ : ∃ x, x = l[i + 1]?.getD 0 := ⟨_, rfl⟩
      have f0 := d i (show i < n / 2 * 2 by omega)
      have f1 := d (i + 1) (show i + 1 < n / 2 * 2 by omega)
      have hbl : b < w.heap.size := World.block_lt_of_cell? _ _ f0
      have c0 : wr.cell? ⟨b, off + i, none⟩ = some (.int .u8 x) := by rw [hx]; exact (HB.out.cell hbl).trans f0
      have c1 : wr.cell? ⟨b, off + (i + 1), none⟩ = some (.int .u8 y) := by rw [hy]; exact (HB.out.cell hbl).trans f1
      have r0 : 0 ≤ x ∧ x ≤ 255 := by rw [hx]; exact HP.out.2.2.1.get i
      have r1 : 0 ≤ y ∧ y ≤ 255 := by rw [hy]; exact HP.out.2.2.1.get (i + 1)
      have HX := Lib.hid hx
      have HY := Lib.hid hy
      have HI := Lib.hid hi
      clear hx hy hi d f0 f1
      have i1 : (i : Int) < ((n / 2 * 2 : Nat) : Int) := by omega
      have i2 : (i : Int) + 1 < ((n / 2 * 2 : Nat) : Int) := by omega
      have i3 : (0 : Int) ≤ (i : Int) + 1 := by omega
      have i4 : (i : Int) < (n : Int) / 2 * 2 := by omega
      have i5 : (i : Int) + 1 < (n : Int) / 2 * 2 := by omega
      have i6 : (0 : Int) ≤ (i : Int) := by omega
      have j1 : IntKind.i64.wrap ((i : Int) + 1) = (i : Int) + 1 := IntWalk.i64_in _ (by omega)
      have j2 : ((i : Int) + 1).toNat = i + 1 := by omega
      have HZL := Lib.hid (show zs.length + 2 ≤ 140737488355328 by have := HLe.out; have := HLL.out; have := HM.out; omega)
      have HXY := Lib.hid (show Byt [x, y] from (Byt.nil.cons r1).cons r0)
      go_wp2_with fail
      go_region_held3 (fun w' => w'.cell? ⟨b, off + i, none⟩ = some (.int .u8 x) ∧ w'.cell? ⟨b, off + (i + 1), none⟩ = some (.int .u8 y))
        (first | go_keep | exact ⟨(hb1.cell hbl).trans (by simp [*, go_sem]), (hb1.cell hbl).trans (by simp [*, go_sem])⟩)
        ((refine step_append_part (by rfl) (.tmp 18) (.tmp 28) (by rfl) (by rfl) (by rfl) (HO.out.drew.alloc _) (part_at (t := 5) (zs := [x, y]) HXY.out (by simp)) (by have := HB.out.size; simp; omega) HZL.out ?_; intro v1 w1 ho1 hb1))
      have HR : Hid (TuRel w l j v1 (.int .i64 (2 * (j : Int) - 2)) w1) := Lib.hid (tu_step ho1 HZ.out HLe.out HT.out (by have := HLL.out; omega) (by rw [← HI.out]; exact HX.out) (by rw [← HI.out]; exact HY.out) r0 r1 ((below_drewN (HB.out.alloc HB.out.size _) 1).trans hb1))
      clear ho1 hb1 j1 j2
      go_wp2
      go_roundg j
      case measure => omega
      case rel =>
        have e : (i : Int) - 2 = 2 * (j : Int) - 2 := by have := HI.out; omega
        rw [e]
        exact HR.out


end Go.Proofs.Ytadpoklopahoeaa
