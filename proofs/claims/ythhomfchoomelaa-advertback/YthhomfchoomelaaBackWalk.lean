/-
  What AdvertBack does.
-/
import Derived.Test.YthhomfchoomelaaAalive
import Derived.Test.YthhomfchoomelaaAsame
namespace Go.Proofs.Ythhomfchoomelaa
open Go.RowKit
set_option linter.unusedVariables false
set_option maxRecDepth 10000
attribute [local go_sem ↓] pk_eq

/-- An advertisement of the reference's lies in a block. -/
def BoxR (W : World) (B : Nat) (i p e : Int) (v : Value) : Prop := W.cell? ⟨B, 0, none⟩ = some (.int .i64 i) ∧ W.cell? ⟨B, 1, none⟩ = some (.int .i64 p) ∧ W.cell? ⟨B, 2, none⟩ = some (.int .i64 e) ∧ W.cell? ⟨B, 3, none⟩ = some v
theorem BoxR.below {W W' : World} {B C : Nat} {i p e : Int} {v : Value} (h : BoxR W B i p e v) (hb : Below C W W') (hB : B < C) : BoxR W' B i p e v :=
  ⟨(hb.cell (p := ⟨B, 0, none⟩) hB).trans h.1, (hb.cell (p := ⟨B, 1, none⟩) hB).trans h.2.1, (hb.cell (p := ⟨B, 2, none⟩) hB).trans h.2.2.1, (hb.cell (p := ⟨B, 3, none⟩) hB).trans h.2.2.2⟩

set_option maxHeartbeats 1000000 in
theorem back_walk (i p e : Int) (A : Option Addr) (n c : Nat) (ss : List ByteArray) (f : ByteArray) (w : World) (hS : Strs w A n c ss) (hn : n ≤ 140737488351232) (hf : f.size ≤ 140737488351232) :
    Calls Try.prog 5 #[.agg #[.int .i64 i, .int .i64 p, .int .i64 e, .slice A n c], .string f] w fun r w' => r = .returned (.bool true) ∧ Below w.heap.size w w' := by
  have hS1 := hS.alloc (.cells #[.int .i64 i, .int .i64 p, .int .i64 e, .slice A n c] 24)
  have B0 := Lib.hid ((Below.refl w.heap.size w).alloc (Nat.le_refl _) (.cells #[.int .i64 i, .int .i64 p, .int .i64 e, .slice A n c] 24))
  have HA := Lib.hid alive_any
  rcases h : okA f i p e ss with _ | _
  · have HE := Lib.hid (encode_no hS1 hf hn h)
    clear hS hS1 h
    go_enter Try.func5, Try.ntmps5
    go_wp2_with fail
    refine HE.out.mono ?_
    rintro r w1 ⟨rfl, hb1⟩
    have B1 := Lib.hid (B0.out.trans (hb1.mono (by simp)))
    have n1 := B1.out.size
    clear hb1
    go_wp2_with fail
    refine (HA.out _).mono ?_
    rintro r w2 ⟨rfl, hb2⟩
    have B2 := Lib.hid ((B1.out.alloc n1 _).trans (hb2.mono (by simp; omega)))
    obtain ⟨y0, y1, y2, y3, y4⟩ := (Boxed.new _ ⟨#[]⟩ ⟨#[]⟩ 0 0 ⟨#[]⟩).below hb2 (by simp)
    have m2 : w1.heap.size < w2.heap.size := World.block_lt_of_cell? _ _ y0
    clear hb2
    go_wp2
    go_ret
    exact ⟨ret_bool (by simp), B2.out⟩
  · have HE := Lib.hid (encode_yes hS1 h)
    have HD := Lib.hid (fun w => decode_written (w := w) h)
    have hl : ss.length = n := hS.1
    have hE : sameB i p e ss i p e ss = true := by simp [sameB]
    have HS := Lib.hid hS1.at
    obtain ⟨s, hs⟩ : ∃ s, bodyS f i p e ss = s := ⟨_, rfl⟩
    obtain ⟨t, htt⟩ : ∃ t, toA f = t := ⟨_, rfl⟩
    rw [hs, htt] at HE HD
    rw [hl] at HD
    have HQ := Lib.hid hE
    have hR : BoxR (w.alloc (.cells #[.int .i64 i, .int .i64 p, .int .i64 e, .slice A n c] 24)) w.heap.size i p e (.slice A n c) := by simp [BoxR, go_sem]
    have HR := Lib.hid hR
    clear hS hS1 h hs htt hl hE hR
    go_enter Try.func5, Try.ntmps5
    go_wp2_with fail
    refine HE.out.mono ?_
    rintro r w1 ⟨rfl, hb1⟩
    have hb1' : Below (w.heap.size + 1) (w.alloc (.cells #[.int .i64 i, .int .i64 p, .int .i64 e, .slice A n c] 24)) w1 := by simpa using hb1
    have n1 := hb1'.size
    simp only [World.size_alloc] at n1
    have B1 := Lib.hid hb1'
    clear hb1 hb1'
    go_wp2_with fail
    refine (HD.out _).mono ?_
    rintro r w2 ⟨A2, c2, rfl, hS2, hb2⟩
    have B2 := Lib.hid ((B1.out.alloc n1 _).trans (hb2.mono (by simp; omega)))
    have n2 := B2.out.size
    simp only [World.size_alloc] at n2
    have HS2 := Lib.hid (hS2.alloc (.cells #[.int .i64 i, .int .i64 p, .int .i64 e, .slice A2 n c2] 32))
    clear hb2 hS2
    go_wp2_with fail
    refine (HA.out _).mono ?_
    rintro r w3 ⟨rfl, hb3⟩
    have B3 := Lib.hid ((B2.out.alloc n2 _).trans (hb3.mono (by simp; omega)))
    have HS3 := Lib.hid (HS2.out.below hb3)
    obtain ⟨y0, y1, y2, y3⟩ := ((BoxA.new w2 i p e (.slice A2 n c2)).below hb3 (by simp)).cells
    have m3 : w2.heap.size < w3.heap.size := World.block_lt_of_cell? _ _ y0
    obtain ⟨z0, z1, z2, z3⟩ := HR.out.below B3.out (by omega)
    have HS0 := Lib.hid (StrsB.strs (HS.out.below (show Below _ _ w3 by simpa using B3.out)))
    clear hb3
    go_wp2_with fail
    refine (same_at HS3.out HS0.out hn HQ.out).mono ?_
    rintro r w4 ⟨rfl, hb4⟩
    have B4 := Lib.hid (B0.out.trans ((B3.out.mono (by omega)).trans (hb4.mono (by omega))))
    clear hb4
    go_wp2
    go_ret
    exact ⟨rfl, B4.out⟩

end Go.Proofs.Ythhomfchoomelaa
