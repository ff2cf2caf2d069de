/-
  The walk of IpvBack.
-/
import Derived.Test.YtindajjcekgjeaaFrame
namespace Go.Proofs.Ytindajjcekgjeaa
open Go.ChangeShapes Go.WideShapes Go.ChangeAt Go.RowKit
set_option linter.unusedVariables false

attribute [local go_sem ↓] pk_eq

set_option maxHeartbeats 1000000 in
theorem back_no (f t : ByteArray) (p l : Int) (s : ByteArray) (A : Option Addr) (m k : Nat) (bs : List Int) (w : World) (hf : f.size ≤ 140737488351232) (ht : t.size ≤ 140737488351232) (hs : s.size ≤ 140737488351232) (h : ¬ Okp f t p l s) :
    Calls Try.prog 5 #[.agg #[.string f, .string t, .int .i64 p, .int .i64 l, .string s], .slice A m k] w fun e w' => e = .returned (.bool true) ∧ Below w.heap.size w w' := by
  go_enter Try.func5, Try.ntmps5
  go_wp2_with fail
  refine (encode_no f t p l s _ hf ht hs h).mono ?_
  rintro e w1 ⟨rfl, hb1⟩
  go_wp2_with fail
  refine (alive_any _).mono ?_
  rintro e w2 ⟨rfl, hb2⟩
  go_wp2
  go_ret
  exact ⟨rfl, below_then (below_then ((Below.refl _ _).alloc (Nat.le_refl _) _) (by simp) hb1) (by have := hb1.size; simp at this; omega) hb2⟩

set_option maxHeartbeats 1000000 in
theorem back_yes (f t : ByteArray) (p l : Int) (s : ByteArray) (A : Option Addr) (m k : Nat) (bs : List Int) (w : World) (hp : Part w ⟨A, m, k, bs⟩) (hm : m ≤ 140737488351232) (h : Okp f t p l s) :
    Calls Try.prog 5 #[.agg #[.string f, .string t, .int .i64 p, .int .i64 l, .string s], .slice A m k] w fun e w' => e = .returned (.bool true) ∧ Below w.heap.size w w' := by
  obtain ⟨n, hn⟩ : ∃ n, n = (if f.size = 16 then 40 else 20) + s.size := ⟨_, rfl⟩
  obtain ⟨o1, o2, o3, -⟩ := okp_small h
  have hn2 : n ≤ 1520 := by rw [hn]; split <;> omega
  have HK := Lib.hid h
  have HP := Lib.hid hp
  have HN := Lib.hid hn
  clear h hp hn
  go_enter Try.func5, Try.ntmps5
  go_wp2_with fail
  refine (encode_yes f t p l s _ HK.out n HN.out).mono ?_
  rintro e w1 ⟨g, c, rfl, ho, hb⟩
  have hb1 := hb.out
  have HB1 := Lib.hid hb1
  have HO := Lib.hid ho.out
  have hp1 : Part w1 ⟨A, m, k, bs⟩ := (HP.out.alloc _).below hb1
  obtain ⟨g2, c2, w2, hr2, hg2⟩ := append_part w1 (w.heap.size + 1) g n c _ A m k bs (by simpa using HO.out) hp1 (by have := hb1.size; simpa using this) (by omega) (n + m) rfl
  have HA := Lib.hid hr2
  have hb2 : Below (w.heap.size + 1) (w.alloc (.cells #[.string f, .string t, .int .i64 p, .int .i64 l, .string s] 24)) w2 := by
    have hq := hb1
    simp at hq
    exact hq.trans hg2.2.1
  have hz : Byt (wire f t p l s ++ bs) := (wire_byt HK.out).append HP.out.2.2.1
  have HP2 := Lib.hid (hg2.1.part hz)
  have HD := Lib.hid (dec_wire f t p l s bs HK.out)
  obtain ⟨x0, x1, x2, x3, x4⟩ := (Boxed.new w f t p l s).below hb2 (Nat.lt_succ_self _)
  have z2 := hb2.size
  simp at z2
  have HB2 := Lib.hid hb2
  clear ho hb hb1 hb2 hp1 hr2 hg2 hz
  go_wp2_with (at_builtin; (with_reducible refine wpList_append_run ?_ (.tmp 23) (.tmp 24) 25 25 ?_ ?_ ?_ 25 ?_ HA.out ?_); (focus rfl); (focus rfl); (focus rfl); (focus rfl); (focus rfl))
  refine (decode_any _ (n + m) c2 _ w2 HP2.out (by omega) f t p l s 0 HD.out).mono ?_
  rintro e w3 ⟨rfl, hb3⟩
  have z3 := hb3.size
  have HB3 := Lib.hid (below_then (B := w.heap.size + 1) HB2.out (by omega) hb3)
  clear hb3
  go_wp2_with fail
  refine (alive_any _).mono ?_
  rintro e w4 ⟨rfl, hb4⟩
  have hb5 := below_then (B := w3.heap.size) ((Below.refl w3.heap.size w3).alloc (Nat.le_refl _) (.cells #[.string f, .string t, .int .i64 p, .int .i64 l, .string s] 24)) (by simp) hb4
  obtain ⟨y0, y1, y2, y3, y4⟩ := (Boxed.new w3 f t p l s).below hb4 (by simp)
  obtain ⟨x0, x1, x2, x3, x4⟩ := (Boxed.new w f t p l s).below (below_then HB3.out (by omega) hb5) (Nat.lt_succ_self _)
  have z4 := hb4.size
  simp at z4
  have u1 : w.heap.size < w4.heap.size := by omega
  have u2 : w3.heap.size < w4.heap.size := by omega
  have HB5 := Lib.hid hb5
  clear hb4 hb5
  go_wp2
  go_ret
  exact ⟨by first | rfl | simp, below_box (below_then HB3.out (by omega) HB5.out)⟩

theorem back_walk (f t : ByteArray) (p l : Int) (s : ByteArray) (A : Option Addr) (m k : Nat) (bs : List Int) (w : World) (hp : (Lit.int .i64 p).wf = true) (hl : (Lit.int .i64 l).wf = true) (hb : f.size ≤ 140737488351232 ∧ t.size ≤ 140737488351232 ∧ s.size ≤ 140737488351232) (hq : Part w ⟨A, m, k, bs⟩) (hk : k ≤ 140737488351232) :
    Calls Try.prog 5 #[.agg #[.string f, .string t, .int .i64 p, .int .i64 l, .string s], .slice A m k] w fun e w' => e = .returned (.bool true) ∧ Below w.heap.size w w' := by
  by_cases h : Okp f t p l s
  · have : m ≤ k := hq.2.1
    exact back_yes f t p l s A m k bs w hq (by omega) h
  · exact back_no f t p l s A m k bs w hb.1 hb.2.1 hb.2.2 h

end Go.Proofs.Ytindajjcekgjeaa
