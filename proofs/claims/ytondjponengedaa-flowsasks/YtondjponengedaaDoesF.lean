/-
  The law's does: any other kind.
-/
import Derived.Test.YtondjponengedaaDoes0
namespace Go.Proofs.Ytondjponengedaa
open Go.RowKit
set_option linter.unusedVariables false
set_option linter.unusedSimpArgs false
set_option maxRecDepth 10000
attribute [local go_sem ↓] bigS56 bigS42

set_option maxHeartbeats 4000000 in
theorem doesF_any {w : World} {B : Nat} {k : List Int} {L : List En} (h : Ta w B k L) (o : Opr) (hok : OkF o.e.fl) (hk : o.kind ≠ 0 ∧ o.kind ≠ 1 ∧ o.kind ≠ 2 ∧ o.kind ≠ 3 ∧ o.kind ≠ 4) :
    Calls Try.prog 24 #[.pointer (some ⟨B, 0, none⟩), opv o] w fun e w' => DoesTo w B k (acts L o).1 (acts L o).2 e w' := by
  have hBlt := h.lt
  obtain ⟨hd0, hb0⟩ := d0_start w o
  have HB0 := Lib.hid hb0
  have HD0 := Lib.hid hd0
  have hT0 := h.below hb0
  have HT0 := Lib.hid hT0
  unfold acts
  obtain ⟨k0, k1, k2, k3, k4⟩ := hk
  rw [if_neg k0, if_neg k1, if_neg k2, if_neg k3, if_neg k4]
  have hk : o.kind = o.kind := rfl
  have HO0 := Lib.hid (Only.of_below (F := (· = B)) hb0)
  obtain ⟨kd, fl, now, ⟨⟨x1, x2, x3, x4, x5⟩, x6, x7, x8⟩⟩ := o
  simp only at hk
  simp only at k0 k1 k2 k3 k4
  obtain ⟨p1, p2, p3⟩ := eqz kd 0 k0
  obtain ⟨q1, q2, q3⟩ := eqz kd 1 k1
  obtain ⟨r1, r2, r3⟩ := eqz kd 2 k2
  obtain ⟨s1, s2, s3⟩ := eqz kd 3 k3
  obtain ⟨t1, t2, t3⟩ := eqz kd 4 k4
  clear k0 k1 k2 k3 k4
  simp only [W0, ocs, ecs, acells, Z, List.cons_append, List.nil_append, fv, ev, opv] at HO0 HB0 HD0 HT0 ⊢
  clear h hd0 hb0 hT0
  go_enter Try.func24, Try.ntmps24
  obtain ⟨b0, b1, b2, b3, b4, b5, b6, b7, b8, b9⟩ := HD0.out.ba.ten
  obtain ⟨w8, hst8, hbx8, ho8⟩ := store56 HD0.out.br rfl 0 0 0 0 0 0 0 ByteArray.empty ByteArray.empty (.slice none 0 0) rfl
  obtain ⟨c0, c1, c2, c3, c4, c5, c6, c7, c8, c9⟩ := hbx8.ten
  have HO8 := Lib.hid (HO0.out.trans ho8 fun j hj => .inr (by omega))
  have HT8 := Lib.hid (HT0.out.only ho8 (by omega))
  clear ho8 hbx8
  have hem : ByteArray.empty = ({ data := #[] } : ByteArray) := rfl
  simp only [hem] at hst8
  clear hem
  go_wp2
  exact bodyPost_ret (v := .agg #[.int .i64 0, .int .i64 0, .string ByteArray.empty, .string ByteArray.empty, .int .i64 0, .int .i64 0, .int .i64 0, .int .i64 0, .int .i64 0, .slice none 0 0]) (by simp [results, Try.results24, go_sem, c0, c1, c2, c3, c4, c5, c6, c7, c8, c9]) rfl ⟨_, rfl, World.ownsRow_nil _ _ 42 8, HT8.out, HO8.out⟩

end Go.Proofs.Ytondjponengedaa
