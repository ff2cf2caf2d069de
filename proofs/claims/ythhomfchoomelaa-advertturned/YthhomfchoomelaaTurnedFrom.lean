/-
  The walk of AdvertTurned where a byte is turned.
-/
import Derived.Test.YthhomfchoomelaaTurnedNo
namespace Go.Proofs.Ythhomfchoomelaa
open Go.RowKit
set_option linter.unusedVariables false
set_option maxRecDepth 10000

set_option maxHeartbeats 4000000 in
theorem turned_from (i p e : Int) (A : Option Addr) (n c : Nat) (ss : List ByteArray) (f : ByteArray) (k : Nat) (y : Int) (w : World) (hS : Strs w A n c ss) (hn : n ≤ 140737488351232) (hf : f.size ≤ 140737488351232) (h : okA f i p e ss = true) (hk : k < f.size) (hy : 1 ≤ y ∧ y ≤ 255) :
    Calls Try.prog 6 #[.agg #[.int .i64 i, .int .i64 p, .int .i64 e, .slice A n c], .string f, .agg #[.int .i64 (((bodyS f i p e ss).size : Int) + (k : Int)), .int .i64 y]] w fun r w' => r = .returned (.bool true) ∧ Below w.heap.size w w' := by
  obtain ⟨s, hs⟩ : ∃ s, bodyS f i p e ss = s := ⟨_, rfl⟩
  obtain ⟨t, htt⟩ : ∃ t, toA f = t := ⟨_, rfl⟩
  rw [hs]
  have hS1 := (hS.alloc (.cells #[.int .i64 i, .int .i64 p, .int .i64 e, .slice A n c] 24)).alloc (.cells #[.int .i64 ((s.size : Int) + (k : Int)), .int .i64 y] 42)
  have B0 := Lib.hid (((Below.refl w.heap.size w).alloc (Nat.le_refl _) (.cells #[.int .i64 i, .int .i64 p, .int .i64 e, .slice A n c] 24)).alloc (by simp) (.cells #[.int .i64 ((s.size : Int) + (k : Int)), .int .i64 y] 42))
  have HX0 : Hid (((w.alloc (.cells #[.int .i64 i, .int .i64 p, .int .i64 e, .slice A n c] 24)).alloc (.cells #[.int .i64 ((s.size : Int) + (k : Int)), .int .i64 y] 42)).cell? ⟨w.heap.size + 1, 0, none⟩ = some (.int .i64 ((s.size : Int) + (k : Int))) ∧ ((w.alloc (.cells #[.int .i64 i, .int .i64 p, .int .i64 e, .slice A n c] 24)).alloc (.cells #[.int .i64 ((s.size : Int) + (k : Int)), .int .i64 y] 42)).cell? ⟨w.heap.size + 1, 1, none⟩ = some (.int .i64 y)) := Lib.hid (by simp [go_sem])
  have HE := Lib.hid (encode_yes hS1 h)
  have hq := nq_le h
  have hz := bodyS_size h
  have ht := toA_size h
  rw [htt] at ht
  rw [hs, htt] at HE
  rw [hs] at hz
  have hs1 : s.size ≤ 1000 := by omega
  have hf16 : f.size ≤ 16 := by omega
  have ht1 : t.size ≤ 140737488351232 := by omega
  obtain ⟨v, hv⟩ : ∃ v, v = byteAt (bts f) k := ⟨_, rfl⟩
  have hvb : 0 ≤ v ∧ v ≤ 255 := by rw [hv]; exact byteAt_bd (bts_byt f) k
  obtain ⟨z, hz1, hzb, hzx⟩ := xor_byte v y hvb hy
  have ham := amiss_turned_from h k z (by exact hk) hzb (by rw [← hv]; exact hzx)
  rw [hs, htt] at ham
  obtain ⟨B', hB'⟩ : ∃ B', B' = strOfNums ((bts f).set k z) := ⟨_, rfl⟩
  rw [← hB'] at ham
  have hB'z : B'.size ≤ 140737488351232 := by rw [hB', strOfNums_size, List.length_set, bts_len]; omega
  obtain ⟨r, hr⟩ : ∃ r, amiss B' t 112 255 s = r := ⟨_, rfl⟩
  rw [hr] at ham
  have HD := Lib.hid (fun w => decode_bad B' t 112 255 s r w hB'z ht1 (by omega) hr ham)
  have er : (r != 0) = true := by simpa using ham
  have HB' := Lib.hid hB'
  have HVV := Lib.hid hv
  have HZ := Lib.hid hzb
  clear hS hS1 h hs htt hz hq ht hB' hv hzb hzx ham hr hB'z
  have d2 : decide (y < 1) = false := decide_eq_false (by omega)
  have d3 : decide (255 < y) = false := decide_eq_false (by omega)
  have d1 : decide ((s.size : Int) + (k : Int) < 0) = false := decide_eq_false (by omega)
  have d4 : decide ((s.size : Int) ≤ (s.size : Int) + (k : Int)) = true := decide_eq_true (by omega)
  have d5 : decide ((f.size : Int) ≤ (k : Int)) = false := decide_eq_false (by omega)
  have d6 : decide (f.size ≤ k) = false := decide_eq_false (by omega)
  have i1 : (k : Int) < (f.size : Int) := by omega
  have i2 : (s.size : Int) + (k : Int) - (s.size : Int) = (k : Int) := by omega
  go_enter Try.func6, Try.ntmps6
  go_wp2_with fail
  refine HE.out.mono ?_
  rintro r w1 ⟨rfl, hb1'⟩
  have hb1 : Below (w.heap.size + 1 + 1) ((w.alloc (.cells #[.int .i64 i, .int .i64 p, .int .i64 e, .slice A n c] 24)).alloc (.cells #[.int .i64 ((s.size : Int) + (k : Int)), .int .i64 y] 42)) w1 := by simpa using hb1'
  have HB1 := Lib.hid (B0.out.trans (hb1.mono (by omega)))
  have cx : w1.cell? ⟨w.heap.size + 1, 0, none⟩ = some (.int .i64 ((s.size : Int) + (k : Int))) := (hb1.cell (p := ⟨_, 0, none⟩) (by simp)).trans HX0.out.1
  have cy : w1.cell? ⟨w.heap.size + 1, 1, none⟩ = some (.int .i64 y) := (hb1.cell (p := ⟨_, 1, none⟩) (by simp)).trans HX0.out.2
  have n1 : w.heap.size + 1 < w1.heap.size := World.block_lt_of_cell? _ _ cx
  have n0 : w.heap.size ≤ w1.heap.size := by omega
  clear hb1 hb1' HX0
  obtain ⟨c2, w2, hr2, ho2, hb2, -, -⟩ := conv_bytes (w1.alloc (.cells #[.string f, .string t, .int .i64 112, .int .i64 255, .string s] 28)) (w1.heap.size + 1) f 25 Try.underlying25 (by simp) (by omega) (w1.heap.size + 1) (by simp) f.size rfl
  have HO2 := Lib.hid ho2
  have HB2 := Lib.hid hb2
  have c0 : w2.cell? ⟨w.heap.size + 1, 0, none⟩ = some (.int .i64 ((s.size : Int) + (k : Int))) := (hb2.cell (p := ⟨_, 0, none⟩) (by simp; omega)).trans ((World.cell?_alloc_lt w1 _ ⟨w.heap.size + 1, 0, none⟩ n1).trans cx)
  have c1 : w2.cell? ⟨w.heap.size + 1, 1, none⟩ = some (.int .i64 y) := (hb2.cell (p := ⟨_, 1, none⟩) (by simp; omega)).trans ((World.cell?_alloc_lt w1 _ ⟨w.heap.size + 1, 1, none⟩ n1).trans cy)
  have ck : w2.cell? ⟨w1.heap.size + 1, k, none⟩ = some (.int .u8 v) := by rw [HVV.out]; exact ho2.cell k (by omega)
  have fk : w2.frozen? ⟨w1.heap.size + 1, k, none⟩ = false := ho2.free k (by omega)
  have n2 : w1.heap.size + 1 < w2.heap.size := ho2.lt
  have n3 : w.heap.size + 1 < w2.heap.size := by omega
  have n4 : w1.heap.size < w2.heap.size := by omega
  have HA2 := Lib.hid ((Boxed.new w1 f t 112 255 s).below hb2 (by omega))
  have af : ∀ o, w2.frozen? ⟨w1.heap.size, o, none⟩ = false := (Free.new w1 _ _).below hb2 (by omega)
  obtain ⟨a0, a1, a2, a3, a4⟩ := HA2.out
  clear ho2 hb2
  have hos := HO2.out.stored k z
  have hcv : (convert 43 25 (.slice (some ⟨w1.heap.size + 1, 0, none⟩) f.size c2)).run Try.prog (w2.setCell ⟨w1.heap.size + 1, k, none⟩ (.int .u8 z)).drew = .ok (.string B') (w2.setCell ⟨w1.heap.size + 1, k, none⟩ (.int .u8 z)).drew := by
    rw [HB'.out]
    exact convert_part (w := (w2.setCell ⟨w1.heap.size + 1, k, none⟩ (.int .u8 z)).drew) (hos.1.part (byt_set (bts_byt f) k HZ.out)) 25 Try.underlying25
  clear hos
  go_wp2_with fail
  go_region
  go_wp2_with fail
  refine (HD.out _).mono ?_
  rintro e' w3 ⟨rfl, hb3'⟩
  have hb3 : Below w2.heap.size (((w2.setCell ⟨w1.heap.size + 1, k, none⟩ (.int .u8 z)).setCell ⟨w1.heap.size, 0, none⟩ (.string B')).drew) w3 := by simpa using hb3'
  have HB3 := Lib.hid ((HB1.out.trans ((((Below.refl w1.heap.size w1).alloc (Nat.le_refl _) _).trans (HB2.out.mono (by omega))).mono n0)).trans ((below_drew (((Below.refl w.heap.size w2).setCell (p := ⟨w1.heap.size + 1, k, none⟩) (show w.heap.size ≤ w1.heap.size + 1 by omega) (.int .u8 z)).setCell (p := ⟨w1.heap.size, 0, none⟩) n0 (.string B'))).trans (hb3.mono (by omega))))
  have n5 : w.heap.size ≤ w3.heap.size := HB3.out.size
  clear hb3 hb3' c0 c1 ck fk a0 a1 a2 a3 a4 af cx cy
  go_wp2_with fail
  refine (alive_any _).mono ?_
  rintro e' w4 ⟨rfl, hb4⟩
  obtain ⟨g0, g1, g2, g3⟩ := ((BoxA.new w3 0 0 0 (.slice none 0 0)).below hb4 (by simp)).cells
  have n6 : w3.heap.size < w4.heap.size := World.block_lt_of_cell? _ _ g0
  have HB4 := Lib.hid ((HB3.out.alloc n5 _).trans (hb4.mono (by simp; omega)))
  clear hb4
  go_wp2_with fail
  refine (same_at (Strs.nil _) (Strs.nil _) (by omega) (r := true) rfl).mono ?_
  rintro e' w5 ⟨rfl, hb5⟩
  have HB5 := Lib.hid (HB4.out.trans (hb5.mono (by omega)))
  clear hb5
  go_wp2
  go_ret
  exact ⟨rfl, HB5.out⟩

end Go.Proofs.Ythhomfchoomelaa
