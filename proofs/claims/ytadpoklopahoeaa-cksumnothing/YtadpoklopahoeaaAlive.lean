/-
  What cksum.Put, cksum.Good and the statements' own alive do.
-/
import Derived.Test.YtadpoklopahoeaaSum
import Derived.WalkSmall
namespace Go.Proofs.Ytadpoklopahoeaa
open Go.RowKit

theorem Part.keep {w w' : World} {p : PartV} (h : Part w p) (hk : ∀ (a : Addr), a.block < w.heap.size → w'.cell? a = w.cell? a) : Part w' p := by
  obtain ⟨h1, h2, h3, h4⟩ := h
  refine ⟨h1, h2, h3, fun hn => ?_⟩
  obtain ⟨b, off, e, hc⟩ := h4 hn
  exact ⟨b, off, e, fun j hj => (hk _ (World.block_lt_of_cell? _ _ (hc j hj))).trans (hc j hj)⟩
theorem Part.alloc {w : World} {p : PartV} (h : Part w p) (o : Obj) : Part (w.alloc o) p := h.keep fun a ha => World.cell?_alloc_lt w o a ha
theorem Part.below {w w' : World} {p : PartV} (h : Part w p) (hb : Below w.heap.size w w') : Part w' p := h.keep fun _ ha => hb.cell ha

/-- The parts that a call is handed: their cells, what each holds, and that all together are not too many. -/
def Parts (w : World) (gb : Nat) (ps : List PartV) : Prop :=
  (∀ j p, ps[j]? = some p → w.cell? ⟨gb, j, none⟩ = some p.val) ∧ (∀ p ∈ ps, Part w p) ∧ ps.length ≤ 1000 ∧ (flat ps).length ≤ 422212465065984

theorem Parts.one {w : World} {gb : Nat} {p : PartV} (hc : w.cell? ⟨gb, 0, none⟩ = some p.val) (hp : Part w p) (hl : p.n ≤ 140737488355328) : Parts w gb [p] := by
  refine ⟨fun j q hq => ?_, fun q hq => ?_, by simp, ?_⟩
  · match j, hq with
    | 0, hq => simp at hq; subst hq; exact hc
  · simp at hq; subst hq; exact hp
  · simp [flat, hp.1]; omega
theorem Parts.two {w : World} {gb : Nat} {p q : PartV} (hc : w.cell? ⟨gb, 0, none⟩ = some p.val) (hd : w.cell? ⟨gb, 1, none⟩ = some q.val) (hp : Part w p) (hq : Part w q)
    (hl : p.n ≤ 140737488355328) (hm : q.n ≤ 140737488355328) : Parts w gb [p, q] := by
  refine ⟨fun j r hr => ?_, fun r hr => ?_, by simp, ?_⟩
  · match j, hr with
    | 0, hr => simp at hr; subst hr; exact hc
    | 1, hr => simp at hr; subst hr; exact hd
  · simp at hr; rcases hr with rfl | rfl <;> assumption
  · simp [flat, hp.1, hq.1]; omega
theorem Parts.three {w : World} {gb : Nat} {p q s : PartV} (hc : w.cell? ⟨gb, 0, none⟩ = some p.val) (hd : w.cell? ⟨gb, 1, none⟩ = some q.val) (he : w.cell? ⟨gb, 2, none⟩ = some s.val)
    (hp : Part w p) (hq : Part w q) (hs : Part w s)
    (hl : p.n ≤ 140737488355328) (hm : q.n ≤ 140737488355328) (hn : s.n ≤ 140737488355328) : Parts w gb [p, q, s] := by
  refine ⟨fun j r hr => ?_, fun r hr => ?_, by simp, ?_⟩
  · match j, hr with
    | 0, hr => simp at hr; subst hr; exact hc
    | 1, hr => simp at hr; subst hr; exact hd
    | 2, hr => simp at hr; subst hr; exact he
  · simp at hr; rcases hr with rfl | rfl | rfl <;> assumption
  · simp [flat, hp.1, hq.1, hs.1]; omega

/-- cksum.Sum, by the number of parts and the answer. -/
theorem sum_at {w : World} {gb m : Nat} {ps : List PartV} (h : Parts w gb ps) (hm : ps.length = m) {s : Int} (hs : fd (tot (flat ps)) = s) :
    Calls Try.prog 15 #[.slice (some ⟨gb, 0, none⟩) m m] w fun e w' => e = .returned (.int .u16 s) ∧ ∃ k, w' = w.drewN k := by
  subst hm; subst hs
  exact sum_any gb ps w h.1 h.2.1 h.2.2.1 h.2.2.2

set_option maxHeartbeats 400000 in
/-- cksum.Put. -/
theorem put_at {w : World} {gb m : Nat} {ps : List PartV} (h : Parts w gb ps) (hm : ps.length = m) {s : Int} (hs : fd (tot (flat ps)) = s) :
    Calls Try.prog 16 #[.slice (some ⟨gb, 0, none⟩) m m] w fun e w' => e = .returned (.int .u16 (65535 - s)) ∧ ∃ k, w' = w.drewN k := by
  have hb : 0 ≤ s ∧ s ≤ 65535 := by subst hs; exact fd_bd _
  have h3 := not_u16 _ hb
  have hg : IntKind.u16.signed = false := rfl
  have HH := Lib.hid (sum_at h hm hs)
  clear h hm hs
  go_enter Try.func16, Try.ntmps16
  go_wp2_with (go_at_call 15; refine HH.out.mono ?_; rintro e w' ⟨rfl, k, rfl⟩)
  go_ret
  exact ⟨rfl, _, rfl⟩

set_option maxHeartbeats 400000 in
/-- cksum.Good. -/
theorem good_at {w : World} {gb m : Nat} {ps : List PartV} (h : Parts w gb ps) (hm : ps.length = m) {s : Int} (hs : fd (tot (flat ps)) = s) :
    Calls Try.prog 17 #[.slice (some ⟨gb, 0, none⟩) m m] w fun e w' => e = .returned (.bool (s == 65535)) ∧ ∃ k, w' = w.drewN k := by
  have HH := Lib.hid (sum_at h hm hs)
  clear h hm hs
  go_enter Try.func17, Try.ntmps17
  go_wp2_with (go_at_call 15; refine HH.out.mono ?_; rintro e w' ⟨rfl, k, rfl⟩)
  go_ret
  exact ⟨rfl, _, rfl⟩

theorem update_at {s f t r : Int} {w : World} (hs : 0 ≤ s ∧ s ≤ 65535) (hf : 0 ≤ f ∧ f ≤ 65535) (ht : 0 ≤ t ∧ t ≤ 65535) (hr : 65535 - fd (65535 - s + (65535 - f) + t) = r) :
    Calls Try.prog 18 #[.int .u16 s, .int .u16 f, .int .u16 t] w fun e w' => e = .returned (.int .u16 r) ∧ w = w' := by
  subst hr; exact update_any s f t w hs hf ht

theorem part_new (w : World) (t : TypeId) (zs : List Int) (hb : Byt zs) :
    Part (w.alloc (.cells (zs.map (Value.int .u8)).toArray t)) ⟨some ⟨w.heap.size, 0, none⟩, zs.length, zs.length, zs⟩ := by
  refine ⟨rfl, Nat.le_refl _, hb, fun _ => ⟨_, _, rfl, fun j hj => ?_⟩⟩
  rw [World.cell?_alloc_at _ _ _ _ rfl]
  have hj' : j < zs.length := hj
  simp [List.getElem?_map, List.getElem?_eq_getElem hj']

theorem part_at {w : World} {t : TypeId} {zs : List Int} (hb : Byt zs) {N : Nat} (hN : N = w.heap.size) :
    Part (w.alloc (.cells (zs.map (Value.int .u8)).toArray t)) ⟨some ⟨N, 0, none⟩, zs.length, zs.length, zs⟩ := by
  subst hN; exact part_new w t zs hb

set_option maxHeartbeats 1000000 in
/-- outriderlaw01.alive. -/
theorem alive_any (w : World) : Calls Try.prog 14 #[] w fun e w' => e = .returned (.bool true) ∧ Below w.heap.size w w' := by
  have HP := Lib.hid (part_new w 5 [0, 1, 242, 3, 244, 245, 246, 247] (by simp [Byt]))
  go_enter Try.func14, Try.ntmps14
  go_wp2_with fail
  refine (sum_at (ps := [⟨some ⟨w.heap.size, 0, none⟩, 8, 8, [0, 1, 242, 3, 244, 245, 246, 247]⟩]) (s := 56818) (Parts.one (by simp [go_sem, PartV.val]) (HP.out.alloc _) (by simp)) rfl (by simp [flat, tot, fd])).mono ?_
  rintro e w1 ⟨rfl, k1, rfl⟩
  go_wp2_with fail
  refine (put_at (ps := [⟨some ⟨w.heap.size, 0, none⟩, 8, 8, [0, 1, 242, 3, 244, 245, 246, 247]⟩]) (s := 56818) (Parts.one (by simp [go_sem, PartV.val]) (((HP.out.alloc _).drewN _).alloc _) (by simp)) rfl (by simp [flat, tot, fd])).mono ?_
  rintro e w1 ⟨rfl, k2, rfl⟩
  clear HP
  go_wp2_with fail
  refine (update_at (r := 8716) (by omega) (by omega) (by omega) (by simp [fd])).mono ?_
  rintro e w1 ⟨rfl, rfl⟩
  go_wp2_with fail
  refine (sum_at (ps := [⟨some ⟨w.heap.size + 3, 0, none⟩, 1, 1, [1]⟩]) (s := 256) (Parts.one (by simp [go_sem, PartV.val]) ((part_at (t := 5) (zs := [1]) (by simp [Byt]) (by simp)).alloc _) (by simp)) rfl (by simp [flat, tot, fd])).mono ?_
  rintro e w1 ⟨rfl, k3, rfl⟩
  go_wp2
  go_ret
  refine ⟨rfl, ?_⟩
  exact below_drewN ((((below_drewN (((below_drewN (((Below.refl _ _).alloc (Nat.le_refl _) _).alloc (by simp) _) _)).alloc (by simp; omega) _) _)).alloc (by simp; omega) _).alloc (by simp; omega) _) _

end Go.Proofs.Ytadpoklopahoeaa
