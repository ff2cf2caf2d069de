/-
  What AdvertWrites does.
-/
import Derived.Test.YthhomfchoomelaaAalive
import Derived.Test.YthhomfchoomelaaRencok
import Derived.Test.YthhomfchoomelaaRencad
namespace Go.Proofs.Ythhomfchoomelaa
open Go.RowKit
set_option linter.unusedVariables false
set_option maxRecDepth 10000

attribute [local go_sem ↓] pk_eq
section
variable {f : ByteArray} {i p e : Int} {A : Option Addr} {n c : Nat} {ss : List ByteArray} {w : World}
/-- outriderref06.Encode of what can't be. -/
theorem rencode_no (hS : Strs w A n c ss) (hf : f.size ≤ 140737488351232) (hn : n ≤ 140737488351232) (h : okA f i p e ss = false) :
    Calls Try.prog 11 #[.agg #[.int .i64 i, .int .i64 p, .int .i64 e, .slice A n c], .string f] w fun r w' => r = .returned (.tuple #[.agg #[.string ⟨#[]⟩, .string ⟨#[]⟩, .int .i64 0, .int .i64 0, .string ⟨#[]⟩], .int .i64 1]) ∧ Below w.heap.size w w' := by
  rcases hr : rightB f with _ | _
  · exact renc_right hf hn hr
  by_cases h0 : i < 1
  · exact renc_id0 hf hn hr  h0
  by_cases h1 : 255 < i
  · exact renc_id1 hf hn hr h0 h1
  by_cases h2 : p < 0
  · exact renc_pr0 hf hn hr h0 h1 h2
  by_cases h3 : 255 < p
  · exact renc_pr1 hf hn hr h0 h1 h2 h3
  by_cases h4 : e < 1
  · exact renc_ev0 hf hn hr h0 h1 h2 h3 h4
  by_cases h5 : 4095 < e
  · exact renc_ev1 hf hn hr h0 h1 h2 h3 h4 h5
  by_cases h6 : (n : Int) < 1
  · exact renc_n0 hf hn hr h0 h1 h2 h3 h4 h5 h6
  by_cases h7 : 8 < (n : Int)
  · exact renc_n1 hf hn hr h0 h1 h2 h3 h4 h5 h6 h7
  have hl : ss.length = n := hS.1
  refine renc_addr hS hf hr (by omega) (by omega) (by omega) (by omega) fun hall => ?_
  have : okA f i p e ss = true := by
    simp only [okA, hr, mayIdB, mayPriorityB, mayEveryB, addrsB, mayCountB, Bool.and_eq_true, decide_eq_true_eq, List.all_eq_true, Bool.true_and]
    exact ⟨by omega, by omega, by omega, by omega, fun s hs => hall s hs⟩
  rw [h] at this
  cases this
end

/-- An advertisement of the reference's lies in a block. -/
def BoxW (W : World) (B : Nat) (i p e : Int) (v : Value) : Prop := W.cell? ⟨B, 0, none⟩ = some (.int .i64 i) ∧ W.cell? ⟨B, 1, none⟩ = some (.int .i64 p) ∧ W.cell? ⟨B, 2, none⟩ = some (.int .i64 e) ∧ W.cell? ⟨B, 3, none⟩ = some v
theorem BoxW.below {W W' : World} {B C : Nat} {i p e : Int} {v : Value} (h : BoxW W B i p e v) (hb : Below C W W') (hB : B < C) : BoxW W' B i p e v :=
  ⟨(hb.cell (p := ⟨B, 0, none⟩) hB).trans h.1, (hb.cell (p := ⟨B, 1, none⟩) hB).trans h.2.1, (hb.cell (p := ⟨B, 2, none⟩) hB).trans h.2.2.1, (hb.cell (p := ⟨B, 3, none⟩) hB).trans h.2.2.2⟩

set_option maxHeartbeats 1000000 in
theorem writes_same (i p e : Int) (A : Option Addr) (n c : Nat) (ss : List ByteArray) (f : ByteArray) (w : World) (hS : Strs w A n c ss) (hn : n ≤ 300) (f1 t1 : ByteArray) (p1 l1 : Int) (s1 : ByteArray) (v : Int)
    (he : ∀ w : World, Strs w A n c ss → Calls Try.prog 10 #[.agg #[.int .i64 i, .int .i64 p, .int .i64 e, .slice A n c], .string f] w fun r w' => r = .returned (.tuple #[.agg #[.string f1, .string t1, .int .i64 p1, .int .i64 l1, .string s1], .int .i64 v]) ∧ Below w.heap.size w w')
    (hr : ∀ w : World, Strs w A n c ss → Calls Try.prog 11 #[.agg #[.int .i64 i, .int .i64 p, .int .i64 e, .slice A n c], .string f] w fun r w' => r = .returned (.tuple #[.agg #[.string f1, .string t1, .int .i64 p1, .int .i64 l1, .string s1], .int .i64 v]) ∧ Below w.heap.size w w') :
    Calls Try.prog 3 #[.agg #[.int .i64 i, .int .i64 p, .int .i64 e, .slice A n c], .string f] w fun r w' => r = .returned (.bool true) ∧ Below w.heap.size w w' := by
  have HS := Lib.hid (hS.alloc (.cells #[.int .i64 i, .int .i64 p, .int .i64 e, .slice A n c] 24))
  have B0 := Lib.hid ((Below.refl w.heap.size w).alloc (Nat.le_refl _) (.cells #[.int .i64 i, .int .i64 p, .int .i64 e, .slice A n c] 24))
  have HX0 : Hid (BoxW (w.alloc (.cells #[.int .i64 i, .int .i64 p, .int .i64 e, .slice A n c] 24)) w.heap.size i p e (.slice A n c)) := Lib.hid (by simp [BoxW, go_sem])
  have HE := Lib.hid (he _ HS.out)
  have HR := Lib.hid hr
  have HA := Lib.hid alive_any
  have hz : ¬ (300 : Int) < (n : Int) := by omega
  obtain ⟨g, hg⟩ : ∃ g, grp true = g := ⟨_, rfl⟩
  have HG := Lib.hid (group_any true)
  have HGR := Lib.hid (rgroup_any true)
  rw [hg] at HG HGR
  clear hS he hr hg
  go_enter Try.func3, Try.ntmps3
  go_wp2_with fail
  refine HE.out.mono ?_
  rintro r w1 ⟨rfl, hb1⟩
  have B1 := Lib.hid (B0.out.trans (hb1.mono (by simp)))
  obtain ⟨y0, y1, y2, y3⟩ := HX0.out.below hb1 (by simp)
  have m1 : w.heap.size < w1.heap.size := World.block_lt_of_cell? _ _ y0
  have HS1 := Lib.hid ((HS.out.below hb1).alloc (.cells #[.string f1, .string t1, .int .i64 p1, .int .i64 l1, .string s1] 28))
  clear hb1
  go_wp2_with fail
  refine (HR.out _ HS1.out).mono ?_
  rintro r w2 ⟨rfl, hb2⟩
  have B2 := Lib.hid ((B1.out.alloc (by omega) _).trans (hb2.mono (by simp; omega)))
  have HP1 := Lib.hid ((Boxed.new w1 f1 t1 p1 l1 s1).below hb2 (by simp))
  have m2 : w1.heap.size < w2.heap.size := World.block_lt_of_cell? _ _ HP1.out.1
  clear hb2 y0 y1 y2 y3
  go_wp2_with fail
  refine (HA.out _).mono ?_
  rintro r w3 ⟨rfl, hb3⟩
  have B3 := Lib.hid ((B2.out.alloc (by omega) _).trans (hb3.mono (by simp; omega)))
  have n3 := B3.out.size
  obtain ⟨u0, u1, u2, u3, u4⟩ := Boxed.below (W := w2.alloc (.cells #[.string f1, .string t1, .int .i64 p1, .int .i64 l1, .string s1] 28)) (N := w1.heap.size) (HP1.out.below ((Below.refl w2.heap.size w2).alloc (Nat.le_refl _) _) m2) hb3 (by simp; omega)
  obtain ⟨v0, v1, v2, v3, v4⟩ := (Boxed.new w2 f1 t1 p1 l1 s1).below hb3 (by simp)
  have m3 : w2.heap.size < w3.heap.size := World.block_lt_of_cell? _ _ v0
  have m4 : w1.heap.size < w3.heap.size := by omega
  clear hb3
  go_wp2_with (go_at_call 12; refine (HG.out _).mono ?_; rintro r w' ⟨rfl, rfl⟩)
  refine (HGR.out _).mono ?_
  rintro r w4 ⟨rfl, hb4⟩
  have B4 := Lib.hid (B3.out.trans (hb4.out.mono n3))
  clear hb4
  go_wp2
  go_ret
  exact ⟨by first | rfl | simp, B4.out⟩

set_option maxHeartbeats 400000 in
theorem writes_great (i p e : Int) (A : Option Addr) (n c : Nat) (f : ByteArray) (w : World) (hn : 300 < n) :
    Calls Try.prog 3 #[.agg #[.int .i64 i, .int .i64 p, .int .i64 e, .slice A n c], .string f] w fun r w' => r = .returned (.bool true) ∧ Below w.heap.size w w' := by
  have B0 := Lib.hid ((Below.refl w.heap.size w).alloc (Nat.le_refl _) (.cells #[.int .i64 i, .int .i64 p, .int .i64 e, .slice A n c] 24))
  have HA := Lib.hid alive_any
  have hz : (300 : Int) < (n : Int) := by omega
  go_enter Try.func3, Try.ntmps3
  go_wp2_with fail
  refine (HA.out _).mono ?_
  rintro r w1 ⟨rfl, hb1⟩
  have B1 := Lib.hid (B0.out.trans (hb1.mono (by simp)))
  clear hb1
  go_wp2
  go_ret
  exact ⟨rfl, B1.out⟩

theorem writes_walk (i p e : Int) (A : Option Addr) (n c : Nat) (ss : List ByteArray) (f : ByteArray) (w : World) (hS : Strs w A n c ss) (hn : n ≤ 140737488351232) (hf : f.size ≤ 140737488351232) :
    Calls Try.prog 3 #[.agg #[.int .i64 i, .int .i64 p, .int .i64 e, .slice A n c], .string f] w fun r w' => r = .returned (.bool true) ∧ Below w.heap.size w w' := by
  by_cases h3 : 300 < n
  · exact writes_great i p e A n c f w h3
  rcases h : okA f i p e ss with _ | _
  · exact writes_same i p e A n c ss f w hS (by omega) _ _ _ _ _ _ (fun w hS => encode_no hS hf hn h) (fun w hS => rencode_no hS hf hn h)
  · exact writes_same i p e A n c ss f w hS (by omega) _ _ _ _ _ _ (fun w hS => encode_yes hS h) (fun w hS => renc_ok hS h)

end Go.Proofs.Ythhomfchoomelaa
