/-
  What AdvertCut does.
-/
import Derived.Test.YthhomfchoomelaaAalive
import Derived.Test.YthhomfchoomelaaAsame
namespace Go.Proofs.Ythhomfchoomelaa
open Go.RowKit
set_option linter.unusedVariables false
set_option maxRecDepth 10000

/-- What is amiss with one that was cut. -/
theorem amiss_cut {f : ByteArray} {i p e : Int} {ss : List ByteArray} (h : okA f i p e ss = true) (k : Nat) (hk : k < (bodyS f i p e ss).size) : amiss f (toA f) 112 255 ((bodyS f i p e ss).extract 0 k) = if k < 8 then 60 else 63 := by
  have hz := bodyS_size h
  have hq := nq_le h
  have hl : ((bodyS f i p e ss).extract 0 k).size = k := by simp; omega
  have a1 : am1 112 255 = false := by decide
  by_cases hk8 : k < 8
  · have a2 : am2 f (toA f) ((bodyS f i p e ss).extract 0 k) = true := by simp [am2, hl, hk8]
    rw [if_pos hk8]
    simp [amiss, a1, a2]
  · have a2 : am2 f (toA f) ((bodyS f i p e ss).extract 0 k) = false := by simp [am2, alike_to h, hl]; omega
    have hb : ∀ j, j < 8 → byteAt (bts ((bodyS f i p e ss).extract 0 k)) j = byteAt (wireA f i p e ss) j := fun j hj => by
      rw [bts_extract, bodyS_bts h]
      simp only [byteAt, List.drop_zero, Nat.sub_zero]
      rw [List.getElem?_take_of_lt (by omega)]
    have c0 : byteAt (bts ((bodyS f i p e ss).extract 0 k)) 0 = 49 := (hb 0 (by omega)).trans (wire_at 0 (by omega))
    have c3 : byteAt (bts ((bodyS f i p e ss).extract 0 k)) 3 = (ss.length : Int) := (hb 3 (by omega)).trans (wire_at 3 (by omega))
    have a3 : am3 ((bodyS f i p e ss).extract 0 k) = false := by simp [am3, c0]
    have a4 : am4 ((bodyS f i p e ss).extract 0 k) = false := by simp [am4, c0]
    have a5 : am5 f ((bodyS f i p e ss).extract 0 k) = true := by
      simp only [am5, c3, hl, decide_eq_true_eq]
      right
      have : ((8 + ss.length * f.size : Nat) : Int) = 8 + (ss.length : Int) * (f.size : Int) := by simp
      omega
    rw [if_neg hk8]
    simp [amiss, a1, a2, a3, a4, a5]

set_option maxHeartbeats 1000000 in
theorem cut_walk (i p e : Int) (A : Option Addr) (n c : Nat) (ss : List ByteArray) (f : ByteArray) (x : Int) (w : World) (hS : Strs w A n c ss) (hn : n ≤ 140737488351232) (hf : f.size ≤ 140737488351232) (hx : (Lit.int .i64 x).wf = true) :
    Calls Try.prog 7 #[.agg #[.int .i64 i, .int .i64 p, .int .i64 e, .slice A n c], .string f, .int .i64 x] w fun r w' => r = .returned (.bool true) ∧ Below w.heap.size w w' := by
  have hS1 := hS.alloc (.cells #[.int .i64 i, .int .i64 p, .int .i64 e, .slice A n c] 24)
  have B0 := Lib.hid ((Below.refl w.heap.size w).alloc (Nat.le_refl _) (.cells #[.int .i64 i, .int .i64 p, .int .i64 e, .slice A n c] 24))
  have HA := Lib.hid alive_any
  rcases h : okA f i p e ss with _ | _
  · have HE := Lib.hid (encode_no hS1 hf hn h)
    clear hS hS1 h
    go_enter Try.func7, Try.ntmps7
    go_wp2_with fail
    refine HE.out.mono ?_
    rintro r w1 ⟨rfl, hb1⟩
    have B1 := Lib.hid (B0.out.trans (hb1.mono (by simp)))
    have n1 := B1.out.size
    clear hb1
    go_wp2_with fail
    refine (HA.out _).mono ?_
    rintro r w2 ⟨rfl, hb2⟩
    have B2 := Lib.hid ((B1.out.alloc n1 _).trans (hb2.mono (by simp; omega)))
    clear hb2
    go_wp2
    go_ret
    exact ⟨rfl, B2.out⟩
  · have HE := Lib.hid (encode_yes hS1 h)
    have hq := nq_le h
    have hz := bodyS_size h
    have ht := toA_size h
    have hcut := fun k => amiss_cut h k
    obtain ⟨s, hs⟩ : ∃ s, bodyS f i p e ss = s := ⟨_, rfl⟩
    obtain ⟨t, htt⟩ : ∃ t, toA f = t := ⟨_, rfl⟩
    rw [hs, htt] at HE
    rw [hs, htt] at hcut
    rw [hs] at hz
    rw [htt] at ht
    have HC := Lib.hid hcut
    have hs1 : s.size ≤ 1000 := by omega
    have ht1 : t.size ≤ 140737488351232 := by omega
    clear hS hS1 h hs htt hz ht hq hcut
    by_cases hx0 : x < 0
    · go_enter Try.func7, Try.ntmps7
      go_wp2_with fail
      refine HE.out.mono ?_
      rintro r w1 ⟨rfl, hb1⟩
      have B1 := Lib.hid (B0.out.trans (hb1.mono (by simp)))
      have n1 := B1.out.size
      clear hb1
      go_wp2_with fail
      refine (HA.out _).mono ?_
      rintro r w2 ⟨rfl, hb2⟩
      have B2 := Lib.hid ((B1.out.alloc n1 _).trans (hb2.mono (by simp; omega)))
      clear hb2
      go_wp2
      go_ret
      exact ⟨rfl, B2.out⟩
    by_cases hx1 : (s.size : Int) ≤ x
    · go_enter Try.func7, Try.ntmps7
      go_wp2_with fail
      refine HE.out.mono ?_
      rintro r w1 ⟨rfl, hb1⟩
      have B1 := Lib.hid (B0.out.trans (hb1.mono (by simp)))
      have n1 := B1.out.size
      clear hb1
      go_wp2_with fail
      refine (HA.out _).mono ?_
      rintro r w2 ⟨rfl, hb2⟩
      have B2 := Lib.hid ((B1.out.alloc n1 _).trans (hb2.mono (by simp; omega)))
      clear hb2
      go_wp2
      go_ret
      exact ⟨rfl, B2.out⟩
    obtain ⟨k, rfl⟩ : ∃ k : Nat, x = (k : Int) := ⟨x.toNat, by omega⟩
    have hk : k < s.size := by omega
    have hks : k ≤ s.size := by omega
    obtain ⟨u, hu⟩ : ∃ u, s.extract 0 k = u := ⟨_, rfl⟩
    have hus : u.size ≤ 140737488351232 := by rw [← hu]; simp; omega
    by_cases hk8 : k < 8
    · have e8 : (k : Int) < 8 := by omega
      have HD := Lib.hid (fun w => decode_bad f t 112 255 u 60 w hf ht1 hus (by rw [← hu, HC.out k hk, if_pos hk8]) (by omega))
      go_enter Try.func7, Try.ntmps7
      go_wp2_with fail
      refine HE.out.mono ?_
      rintro r w1 ⟨rfl, hb1⟩
      have B1 := Lib.hid (B0.out.trans (hb1.mono (by simp)))
      have n1 := B1.out.size
      clear hb1
      go_wp2_with fail
      refine (HD.out _).mono ?_
      rintro r w2 ⟨rfl, hb2⟩
      have B2 := Lib.hid ((B1.out.alloc n1 _).trans (hb2.mono (by simp; omega)))
      have n2 := B2.out.size
      clear hb2
      go_wp2_with fail
      refine (HA.out _).mono ?_
      rintro r w3 ⟨rfl, hb3⟩
      have B3 := Lib.hid ((B2.out.alloc n2 _).trans (hb3.mono (by simp; omega)))
      have n3 := B3.out.size
      obtain ⟨y0, y1, y2, y3⟩ := ((BoxA.new w2 0 0 0 (.slice none 0 0)).below hb3 (by simp)).cells
      have m3 : w2.heap.size < w3.heap.size := World.block_lt_of_cell? _ _ y0
      clear hb3
      go_wp2_with fail
      refine (same_at (Strs.nil _) (Strs.nil _) (by omega) (r := true) rfl).mono ?_
      rintro r w4 ⟨rfl, hb4⟩
      have B4 := Lib.hid (B3.out.trans (hb4.mono (by omega)))
      clear hb4
      go_wp2
      go_ret
      exact ⟨rfl, B4.out⟩
    · have e8 : ¬ (k : Int) < 8 := by omega
      have HD := Lib.hid (fun w => decode_bad f t 112 255 u 63 w hf ht1 hus (by rw [← hu, HC.out k hk, if_neg hk8]) (by omega))
      go_enter Try.func7, Try.ntmps7
      go_wp2_with fail
      refine HE.out.mono ?_
      rintro r w1 ⟨rfl, hb1⟩
      have B1 := Lib.hid (B0.out.trans (hb1.mono (by simp)))
      have n1 := B1.out.size
      clear hb1
      go_wp2_with fail
      refine (HD.out _).mono ?_
      rintro r w2 ⟨rfl, hb2⟩
      have B2 := Lib.hid ((B1.out.alloc n1 _).trans (hb2.mono (by simp; omega)))
      have n2 := B2.out.size
      clear hb2
      go_wp2_with fail
      refine (HA.out _).mono ?_
      rintro r w3 ⟨rfl, hb3⟩
      have B3 := Lib.hid ((B2.out.alloc n2 _).trans (hb3.mono (by simp; omega)))
      have n3 := B3.out.size
      obtain ⟨y0, y1, y2, y3⟩ := ((BoxA.new w2 0 0 0 (.slice none 0 0)).below hb3 (by simp)).cells
      have m3 : w2.heap.size < w3.heap.size := World.block_lt_of_cell? _ _ y0
      clear hb3
      go_wp2_with fail
      refine (same_at (Strs.nil _) (Strs.nil _) (by omega) (r := true) rfl).mono ?_
      rintro r w4 ⟨rfl, hb4⟩
      have B4 := Lib.hid (B3.out.trans (hb4.mono (by omega)))
      clear hb4
      go_wp2
      go_ret
      exact ⟨rfl, B4.out⟩

end Go.Proofs.Ythhomfchoomelaa
