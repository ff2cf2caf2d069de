/-
  The law's does: kind 2.
-/
import Derived.Test.YtondjponengedaaDoes0
namespace Go.Proofs.Ytondjponengedaa
open Go.RowKit
set_option linter.unusedVariables false
set_option linter.unusedSimpArgs false
set_option maxRecDepth 10000
attribute [local go_sem ↓] bigS56 bigS42

set_option maxHeartbeats 4000000 in
theorem doesC_any {w : World} {B : Nat} {k : List Int} {L : List En} (h : Ta w B k L) (o : Opr) (hok : OkF o.e.fl) (hk : o.kind = 2) :
    Calls Try.prog 24 #[.pointer (some ⟨B, 0, none⟩), opv o] w fun e w' => DoesTo w B k (acts L o).1 (acts L o).2 e w' := by
  have hBlt := h.lt
  obtain ⟨hd0, hb0⟩ := d0_start w o
  have HB0 := Lib.hid hb0
  have HD0 := Lib.hid hd0
  have hT0 := h.below hb0
  have HT0 := Lib.hid hT0
  unfold acts
  rw [if_neg (by omega), if_neg (by omega), if_pos hk]
  have HC := Lib.hid (put_any hT0 o.e o.now hok)
  obtain ⟨kd, fl, now, ⟨⟨x1, x2, x3, x4, x5⟩, x6, x7, x8⟩⟩ := o
  simp only at hk
  subst hk
  simp only [W0, ocs, ecs, acells, Z, List.cons_append, List.nil_append, fv, ev, opv] at HC HB0 HD0 HT0 ⊢
  clear h hd0 hb0 hT0
  generalize (put_ L ⟨⟨x1, x2, x3, x4, x5⟩, x6, x7, x8⟩ now).2 = er at *
  generalize (put_ L ⟨⟨x1, x2, x3, x4, x5⟩, x6, x7, x8⟩ now).1 = L' at *
  go_enter Try.func24, Try.ntmps24
  go_wp2_with fail
  refine HC.out.mono ?_
  rintro e w1 ⟨rfl, hT1, ho1⟩
  have HD1 := Lib.hid (HD0.out.only hBlt ho1)
  have HT1 := Lib.hid hT1
  have HO1 := Lib.hid ((Only.of_below (F := (· = B)) HB0.out).trans ho1 fun j hj => .inl hj)
  obtain ⟨b0, b1, b2, b3, b4, b5, b6, b7, b8, b9⟩ := HD1.out.ba.ten
  have f0 := HD1.out.ba.free 0
  clear hT1 ho1
  have HSA := Lib.hid (HD1.out.setA 0 (.int .i64 er))
  have HD2 := Lib.hid HSA.out.1
  have HO2 := Lib.hid (HO1.out.trans HSA.out.2 fun j hj => .inr (by omega))
  have HT2 := Lib.hid (HT1.out.only HSA.out.2 (by omega))
  simp only [List.set_cons_zero, List.set_cons_succ] at HD2
  clear HSA
  obtain ⟨w8, hst8, hbx8, ho8⟩ := store56 HD2.out.br rfl er 0 0 0 0 0 0 ByteArray.empty ByteArray.empty (.slice none 0 0) rfl
  obtain ⟨c0, c1, c2, c3, c4, c5, c6, c7, c8, c9⟩ := hbx8.ten
  have HO8 := Lib.hid (HO2.out.trans ho8 fun j hj => .inr (by omega))
  have HT8 := Lib.hid (HT2.out.only ho8 (by omega))
  clear ho8 hbx8
  go_wp2
  exact bodyPost_ret (v := .agg #[.int .i64 er, .int .i64 0, .string ByteArray.empty, .string ByteArray.empty, .int .i64 0, .int .i64 0, .int .i64 0, .int .i64 0, .int .i64 0, .slice none 0 0]) (by simp [results, Try.results24, go_sem, c0, c1, c2, c3, c4, c5, c6, c7, c8, c9]) rfl ⟨_, rfl, World.ownsRow_nil _ _ 42 8, HT8.out, HO8.out⟩

end Go.Proofs.Ytondjponengedaa
