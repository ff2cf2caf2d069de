/-
  Events as the reference's: plain.
-/
import Derived.Test.YtpcdaidgijkkbaaRev
import Derived.Test.YtpcdaidgijkkbaaSendsWalk
import Derived.Deep.Cut
namespace Go.Proofs.Ytpcdaidgijkkbaa
open Go.RowKit Go.Maps
set_option linter.unusedVariables false
set_option linter.unusedSimpArgs false
set_option maxRecDepth 40000
attribute [local go_sem ↓] bigS58
attribute [local go_sem ↓] bigS78

def PlRel (w : World) (l : List (Vt × Value)) (gg : Nat) (x3 x8 : Value) (wr : World) : Prop :=
  ∃ (k : Nat) (a3 : Option Addr) (c3 : Nat), k + gg = l.length ∧ x8 = .int .i64 (k : Int) ∧ x3 = .slice a3 k c3 ∧ wr.ownsRow w.heap.size 78 5 (.slice a3 k c3) k (ecells (l.take k)) ∧ Below w.heap.size w wr

set_option maxHeartbeats 4000000 in
/-- The law's plain. -/
theorem plain_any {w : World} {l : List (Vt × Value)} {b : Nat} {vo : Value} (hr : w.ownsRow b 58 5 vo l.length (ecells l)) (hs : ∀ x ∈ l, ∃ a k j, x.2 = .slice a k j) (hlen : l.length ≤ 549755813888) :
    Calls Try.prog 21 #[vo] w fun e w' => ∃ v', e = .returned v' ∧ w'.ownsRow w.heap.size 78 5 v' l.length (ecells l) ∧ Below w.heap.size w w' := by
  obtain ⟨a1, c1, rfl, -, -⟩ := row_any hr
  have HR := Lib.hid hr
  have HA := Lib.hid hs
  have HLE := Lib.hid hlen
  clear hr hs hlen
  go_enter Try.func21, Try.ntmps21
  go_wp2
  go_loopg [3, 8] l.length (fun gg x3 x8 wr => PlRel w l gg x3 x8 wr)
  case atStart => exact ⟨0, none, 0, by omega, rfl, rfl, World.ownsRow_nil _ _ _ _, Below.refl _ _⟩
  case round =>
    obtain ⟨k, a3, c3, hk, rfl, rfl, hrw, hb⟩ := hrel
    have HB := Lib.hid hb
    have HRW := Lib.hid hrw
    clear hb hrw
    by_cases hlt : k < l.length
    · have e4 : decide ((k : Int) < (l.length : Int)) = true := decide_eq_true (by omega)
      have hlk1 : (k : Int) < (l.length : Int) := by omega
      have hr8 := row_below HR.out HB.out
      obtain ⟨g, c9, heq, -, -⟩ := row_slice hr8 (by omega)
      obtain ⟨rfl, -, rfl⟩ : a1 = some ⟨g, 0, none⟩ ∧ True ∧ c1 = c9 := by
        simp at heq
        exact ⟨heq.1, trivial, heq.2⟩
      obtain ⟨r0, r1, r2, r3, r4⟩ := erow_at hr8 hlt
      have hmem : l[k]! ∈ l := by rw [getElem!_pos l k hlt]; exact List.getElem_mem hlt
      obtain ⟨a9, q9, k9, hv9⟩ := HA.out _ hmem
      have htk : l.take (k + 1) = l.take k ++ [l[k]!] := by rw [List.take_succ_eq_append_getElem hlt, getElem!_pos l k hlt]
      have HLT := Lib.hid (show (l.take k).length = k by rw [List.length_take]; omega)
      have HLT2 := Lib.hid (show (l.take (k + 1)).length = k + 1 by rw [List.length_take]; omega)
      clear hmem heq hr8
      generalize l[k]! = xx at *
      obtain ⟨⟨xk, xi, xp, xe, xs⟩, y9⟩ := xx
      simp only at hv9
      subst hv9
      simp only at r0 r1 r2 r3 r4
      have HTK := Lib.hid htk
      obtain ⟨w8, hst8, hcb8, hb8⟩ := box58 wr xk xi xp xe a9 q9 k9
      obtain ⟨g0, g1, g2, g3, g4⟩ := hcb8.five
      have hb9 : Below w8.heap.size w8 (w8.alloc (.cells #[.int .i64 xk, .int .i64 xi, .int .i64 xp, .int .i64 xe, .slice a9 q9 k9] 78)) := below_alloc (Below.refl _ _) _
      have hB8 := below_then HB.out HB.out.size hb8
      have ho : (w8.alloc (.cells #[.int .i64 xk, .int .i64 xi, .int .i64 xp, .int .i64 xe, .slice a9 q9 k9] 78)).ownsRow w.heap.size 78 5 (.slice a3 k c3) (l.take k).length (ecells (l.take k)) := by
        rw [HLT.out]; exact row_below (row_below HRW.out hb8) hb9
      have hn : (w8.alloc (.cells #[.int .i64 xk, .int .i64 xi, .int .i64 xp, .int .i64 xe, .slice a9 q9 k9] 78)).ownsRow w8.heap.size 78 5 (.slice (some ⟨w8.heap.size, 0, none⟩) 1 1) [((⟨xk, xi, xp, xe, xs⟩, .slice a9 q9 k9) : Vt × Value)].length (ecells [((⟨xk, xi, xp, xe, xs⟩, .slice a9 q9 k9) : Vt × Value)]) :=
        ⟨rfl, .inr ⟨w8.heap.size, 1, #[.int .i64 xk, .int .i64 xi, .int .i64 xp, .int .i64 xe, .slice a9 q9 k9], rfl, Nat.le_refl _, heap_top w8 _ 78 0, Nat.le_refl _, by decide, rfl, rfl⟩⟩
      obtain ⟨v7, w7, hrun, hrow7, hg7⟩ := append_two ho hn (fun x hx => by simp at hx; subst hx; rfl) (by have := hB8.size; have := hb9.size; omega) (by rw [HLT.out]; have := HLE.out; simp; omega)
      rw [← HTK.out, HLT2.out] at hrow7
      obtain ⟨a7, c7, rfl, -, -⟩ := row_any hrow7
      have HRUN := Lib.hid hrun
      have HROW7 := Lib.hid hrow7
      have HB7 : Hid (Below w.heap.size w w7) := Lib.hid ((hB8.trans (hb9.mono hB8.size)).trans (Only.below (Only.of_grown hg7 (F := fun i => w.heap.size ≤ i) fun i hi => (row_type ho hi).1) (by have := hB8.size; have := hb9.size; omega) fun i hi => hi))
      have HW : Hid (Value.int .i64 (wrap64 ((k : Int) + 1)) = .int .i64 ((k + 1 : Nat) : Int)) := Lib.hid (by congr 1; have := HLE.out; unfold wrap64; omega)
      have hls := hcb8.lt
      clear ho hn hrun hrow7 hg7 hb8 hb9 hB8 hcb8 htk
      go_wp2_with (at_builtin; refine Lib.wpList_append_run _ rfl _ _ _ _ rfl _ _ rfl rfl _ _ HRUN.out ?_)
      go_roundg (l.length - (k + 1))
      case measure => omega
      case rel => exact ⟨k + 1, _, _, by omega, HW.out, rfl, HROW7.out, HB7.out⟩
    · have e4 : decide ((k : Int) < (l.length : Int)) = false := decide_eq_false (by omega)
      have hlk1 : ¬ (k : Int) < (l.length : Int) := by omega
      obtain rfl : k = l.length := by omega
      have HRW2 := HRW.out
      rw [List.take_length] at HRW2
      have HRW3 := Lib.hid HRW2
      clear HRW2 HRW
      go_wp2
      go_ret
      exact ⟨_, rfl, HRW3.out, HB.out⟩
end Go.Proofs.Ytpcdaidgijkkbaa
