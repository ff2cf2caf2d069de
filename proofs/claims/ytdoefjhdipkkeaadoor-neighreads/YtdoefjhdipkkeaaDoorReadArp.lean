/-
  What neigh.readArp does.
-/
import Derived.Test.YtdoefjhdipkkeaaDoorReadBase
import Derived.Test.YtdoefjhdipkkeaaDoorPseudo
import Derived.Laws.Cover3
namespace Go.Proofs.YtdoefjhdipkkeaaDoor
open Go.RowKit
set_option linter.unusedVariables false
set_option maxRecDepth 10000


set_option maxHeartbeats 1000000 in
theorem readArp_short (s : ByteArray) (w : World) (h : s.size < 28) :
    Calls Tryd.prog 36 #[.string s] w (Told (Nt.zero, 40) w) := by
  have g1 : decide ((s.size : Int) < 28) = true := by simp; omega
  go_enter Tryd.func36, Tryd.ntmps36
  go_wp2
  exact bodyPost_ret (v := .tuple #[.agg #[.int .i64 0, .int .u8 0, .int .u8 0, .int .u8 0, .int .u8 0, .int .u8 0, .int .u8 0, .string ⟨#[]⟩, .string ⟨#[]⟩, .bool false], .int .i64 40]) (by simp [results, Tryd.results36, go_sem]) rfl ⟨rfl, (Below.refl _ _).alloc (Nat.le_refl _) _⟩
set_option maxHeartbeats 1000000 in
theorem readArp_pre (s : ByteArray) (w : World) (hs : s.size ≤ 140737488351232) (h : 28 ≤ s.size) (hp : (bts s).take 7 ≠ [0, 1, 8, 0, 6, 4, 0]) :
    Calls Tryd.prog 36 #[.string s] w (Told (Nt.zero, 40) w) := by
  have g1 : decide ((s.size : Int) < 28) = false := by simp; omega
  have HP := Lib.hid (show Lib.hasPrefix s.data.toList (ByteArray.mk #[0, 1, 8, 0, 6, 4, 0]).data.toList = false by rw [prefix_bts]; exact decide_eq_false hp)
  clear hp
  go_enter Tryd.func36, Tryd.ntmps36
  go_wp2_with fail
  refine (strings_HasPrefix s _ _).mono ?_
  rintro e w1 ⟨rfl, rfl⟩
  rw [HP.out]
  go_wp2
  exact bodyPost_ret (v := .tuple #[.agg #[.int .i64 0, .int .u8 0, .int .u8 0, .int .u8 0, .int .u8 0, .int .u8 0, .int .u8 0, .string ⟨#[]⟩, .string ⟨#[]⟩, .bool false], .int .i64 40]) (by simp [results, Tryd.results36, go_sem]) rfl ⟨rfl, (Below.refl _ _).alloc (Nat.le_refl _) _⟩

section
variable (s : ByteArray) (w : World) (hs : s.size ≤ 140737488351232) (h : 28 ≤ s.size) (hp : (bts s).take 7 = [0, 1, 8, 0, 6, 4, 0])
set_option maxHeartbeats 1000000 in
include hs h hp in
theorem readArp_kind (h1 : byteAt (bts s) 7 ≠ 1) (h2 : byteAt (bts s) 7 ≠ 2) :
    Calls Tryd.prog 36 #[.string s] w (Told (Nt.zero, 40) w) := by
  have g1 : decide ((s.size : Int) < 28) = false := by simp; omega
  have HP := Lib.hid (show Lib.hasPrefix s.data.toList (ByteArray.mk #[0, 1, 8, 0, 6, 4, 0]).data.toList = true by rw [prefix_bts]; exact decide_eq_true hp)
  obtain ⟨c1, w1, hr1, ho1, hb1, hz1, -⟩ := conv_bytes (w.alloc (.cells #[.int .i64 0, .int .u8 0, .int .u8 0, .int .u8 0, .int .u8 0, .int .u8 0, .int .u8 0, .string ⟨#[]⟩, .string ⟨#[]⟩, .bool false] 38)) (w.alloc (.cells #[.int .i64 0, .int .u8 0, .int .u8 0, .int .u8 0, .int .u8 0, .int .u8 0, .int .u8 0, .string ⟨#[]⟩, .string ⟨#[]⟩, .bool false] 38)).heap.size (s.extract 0 28) 9 Tryd.underlying9 (Nat.le_refl _) (by simp; omega) (w.heap.size + 1) (by simp) 28 (by simp; omega)
  obtain ⟨k, hk⟩ : ∃ k, byteAt (bts s) 7 = k := ⟨_, rfl⟩
  have bk := byteAt_bd (bts_byt s) 7
  rw [hk] at h1 h2 bk
  have x7 := ho1.cell 7 (by omega)
  rw [bts_extract, show ((List.take (28 - 0) (List.drop 0 (bts s)))[7]?.getD 0) = k by rw [← hk]; simp [byteAt]] at x7
  have n1 : (k != 1) = true := by simp [h1]
  have n2 : (k != 2) = true := by simp [h2]
  have HB1 := Lib.hid hb1
  obtain ⟨hc1, hf1⟩ := bcell hb1
  simp only [World.size_alloc] at hc1 hf1
  have z1 : w.heap.size + 1 ≤ w1.heap.size := by have := hb1.size; simpa using this
  have z2 : w.heap.size < w1.heap.size := z1
  clear hb1 hz1 ho1 hp hk
  go_enter Tryd.func36, Tryd.ntmps36
  go_wp2_with fail
  refine (strings_HasPrefix s _ _).mono ?_
  rintro e w2 ⟨rfl, rfl⟩
  rw [HP.out]
  go_wp2
  exact bodyPost_ret (v := .tuple #[.agg #[.int .i64 0, .int .u8 0, .int .u8 0, .int .u8 0, .int .u8 0, .int .u8 0, .int .u8 0, .string ⟨#[]⟩, .string ⟨#[]⟩, .bool false], .int .i64 40]) (by simp [results, Tryd.results36, go_sem, hc1]) rfl ⟨rfl, below10 (below_then ((Below.refl _ _).alloc (Nat.le_refl _) _) (by simp) HB1.out)⟩

set_option maxHeartbeats 2000000 in
include hs h hp in
theorem readArp_ok (hk : byteAt (bts s) 7 = 1 ∨ byteAt (bts s) 7 = 2) (m0 m1 m2 m3 m4 m5 : Int) (hm : byteAt (bts s) 8 = m0 ∧ byteAt (bts s) 9 = m1 ∧ byteAt (bts s) 10 = m2 ∧ byteAt (bts s) 11 = m3 ∧ byteAt (bts s) 12 = m4 ∧ byteAt (bts s) 13 = m5) (k : Int) (hkk : byteAt (bts s) 7 = k) (q : Bool) (hq : decide (byteAt (bts s) 7 = 2) = q) (u v : ByteArray) (hu : seg (bts s) 14 4 = u) (hv : seg (bts s) 24 4 = v) :
    Calls Tryd.prog 36 #[.string s] w (Told (⟨k, m0, m1, m2, m3, m4, m5, u, v, q⟩, 0) w) := by
  have g1 : decide ((s.size : Int) < 28) = false := by simp; omega
  have HP := Lib.hid (show Lib.hasPrefix s.data.toList (ByteArray.mk #[0, 1, 8, 0, 6, 4, 0]).data.toList = true by rw [prefix_bts]; exact decide_eq_true hp)
  obtain ⟨c1, w1, hr1, ho1, hb1, hz1, -⟩ := conv_bytes (w.alloc (.cells #[.int .i64 0, .int .u8 0, .int .u8 0, .int .u8 0, .int .u8 0, .int .u8 0, .int .u8 0, .string ⟨#[]⟩, .string ⟨#[]⟩, .bool false] 38)) (w.alloc (.cells #[.int .i64 0, .int .u8 0, .int .u8 0, .int .u8 0, .int .u8 0, .int .u8 0, .int .u8 0, .string ⟨#[]⟩, .string ⟨#[]⟩, .bool false] 38)).heap.size (s.extract 0 28) 9 Tryd.underlying9 (Nat.le_refl _) (by simp; omega) (w.heap.size + 1) (by simp) 28 (by simp; omega)
  have bk := byteAt_bd (bts_byt s) 7
  have hc28 : 28 ≤ c1 := ho1.2.2.1
  have eb : bts (s.extract 0 28) = (bts s).take 28 := by rw [bts_extract]; simp
  rw [eb] at ho1
  have HPt := Lib.hid (ho1.part ((bts_byt s).take 28))
  have at_ : ∀ j, j < 28 → w1.cell? ⟨w.heap.size + 1, j, none⟩ = some (.int .u8 (byteAt (bts s) j)) := fun j hj => by
    have := ho1.cell j hj
    rw [this]; simp [byteAt, hj]
  have x7 := at_ 7 (by omega)
  have x8 := at_ 8 (by omega)
  have x9 := at_ 9 (by omega)
  have x10 := at_ 10 (by omega)
  have x11 := at_ 11 (by omega)
  have x12 := at_ 12 (by omega)
  have x13 := at_ 13 (by omega)
  obtain ⟨e0, e1, e2, e3, e4, e5⟩ := hm
  rw [hkk] at x7 bk
  rw [e0] at x8
  rw [e1] at x9
  rw [e2] at x10
  rw [e3] at x11
  rw [e4] at x12
  rw [e5] at x13
  have su : ∀ (a b : Nat), a + b ≤ 28 → strOfNums ((((bts s).take 28).drop a).take b) = seg (bts s) a b := fun a b hab => by
    rw [seg, List.drop_take, List.take_take, Nat.min_eq_left (by omega)]
  have cu := convert_part (HPt.out.cut3 14 4 (c1 - 14) (by omega) (by omega)) 24 Tryd.underlying24
  have cv := convert_part (HPt.out.cut3 24 4 (c1 - 24) (by omega) (by omega)) 24 Tryd.underlying24
  rw [su 14 4 (by omega), hu, Nat.zero_add] at cu
  rw [su 24 4 (by omega), hv, Nat.zero_add] at cv
  have cu' : (convert 26 24 (.slice (some ⟨w.heap.size + 1, 14, none⟩) 4 (c1 - 14))).run Tryd.prog w1.drew = .ok (.string u) w1.drew := by
    have := convert_part (w := w1.drew) (HPt.out.cut3 14 4 (c1 - 14) (by omega) (by omega)) 24 Tryd.underlying24
    rw [su 14 4 (by omega), hu, Nat.zero_add] at this; exact this
  have cv' : (convert 26 24 (.slice (some ⟨w.heap.size + 1, 24, none⟩) 4 (c1 - 24))).run Tryd.prog w1.drew = .ok (.string v) w1.drew := by
    have := convert_part (w := w1.drew) (HPt.out.cut3 24 4 (c1 - 24) (by omega) (by omega)) 24 Tryd.underlying24
    rw [su 24 4 (by omega), hv, Nat.zero_add] at this; exact this
  rw [hkk] at hk hq
  have HB1 := Lib.hid hb1
  obtain ⟨hc1, hf1⟩ := bcell hb1
  simp only [World.size_alloc] at hc1 hf1
  have z1 : w.heap.size + 1 ≤ w1.heap.size := by have := hb1.size; simpa using this
  have z2 : w.heap.size < w1.heap.size := z1
  have i28 : (28 : Int) ≤ (c1 : Int) := by omega
  have i14 : (14 : Int) ≤ (c1 : Int) := by omega
  have i18 : (18 : Int) ≤ (c1 : Int) := by omega
  have n8 : ¬ (c1 = 8) := by omega
  have n14 : ¬ (c1 = 14) := by omega
  have n24 : ¬ (c1 = 24) := by omega
  clear hb1 hz1 ho1 hp hkk at_ su cu cv eb hu hv e0 e1 e2 e3 e4 e5 HPt
  have ha8 : ∀ W : World, (Instr.arrayAt 23 (.slice (some ⟨w.heap.size + 1, 8, none⟩) 6 (c1 - 8))).run Tryd.prog W = .ok (.pointer (some ⟨w.heap.size + 1, 8, none⟩)) W := fun W => run_arrayAt (w := W) (P := Tryd.prog) 23 5 6 _ 6 (c1 - 8) Tryd.underlying23 (by omega)
  rcases hk with rfl | rfl
  · obtain rfl : false = q := by simpa using hq
    clear hq
    go_enter Tryd.func36, Tryd.ntmps36
    go_wp2_with fail
    refine (strings_HasPrefix s _ _).mono ?_
    rintro e w2 ⟨rfl, rfl⟩
    rw [HP.out]
    go_wp2
    go_region
    go_wp2
    exact bodyPost_ret (v := .tuple #[.agg #[.int .i64 1, .int .u8 m0, .int .u8 m1, .int .u8 m2, .int .u8 m3, .int .u8 m4, .int .u8 m5, .string u, .string v, .bool false], .int .i64 0]) (by simp [results, Tryd.results36, go_sem, hc1]) rfl ⟨rfl, below_drew (below10 (below_then ((Below.refl _ _).alloc (Nat.le_refl _) _) (by simp) HB1.out))⟩
  · obtain rfl : true = q := by simpa using hq
    clear hq
    go_enter Tryd.func36, Tryd.ntmps36
    go_wp2_with fail
    refine (strings_HasPrefix s _ _).mono ?_
    rintro e w2 ⟨rfl, rfl⟩
    rw [HP.out]
    go_wp2
    go_region
    go_wp2
    exact bodyPost_ret (v := .tuple #[.agg #[.int .i64 2, .int .u8 m0, .int .u8 m1, .int .u8 m2, .int .u8 m3, .int .u8 m4, .int .u8 m5, .string u, .string v, .bool true], .int .i64 0]) (by simp [results, Tryd.results36, go_sem, hc1]) rfl ⟨rfl, below_drew (below10 (below_then ((Below.refl _ _).alloc (Nat.le_refl _) _) (by simp) HB1.out))⟩
end
/-- neigh.readArp. -/
theorem readArp_any (s : ByteArray) (w : World) (hs : s.size ≤ 140737488351232) : Calls Tryd.prog 36 #[.string s] w (Told (rdArp (bts s)) w) := by
  unfold rdArp
  by_cases h1 : (bts s).length < 28
  · rw [if_pos h1]; exact readArp_short s w (by rwa [bts_len] at h1)
  · rw [if_neg h1]
    rw [bts_len] at h1
    by_cases h2 : (bts s).take 7 ≠ [0, 1, 8, 0, 6, 4, 0]
    · rw [if_pos h2]; exact readArp_pre s w hs (by omega) h2
    · rw [if_neg h2]
      by_cases h3 : byteAt (bts s) 7 ≠ 1 ∧ byteAt (bts s) 7 ≠ 2
      · rw [if_pos h3]; exact readArp_kind s w hs (by omega) (by simpa using h2) h3.1 h3.2
      · rw [if_neg h3]
        exact readArp_ok s w hs (by omega) (by simpa using h2) (by omega) _ _ _ _ _ _ ⟨rfl, rfl, rfl, rfl, rfl, rfl⟩ _ rfl _ rfl _ _ rfl rfl

end Go.Proofs.YtdoefjhdipkkeaaDoor
