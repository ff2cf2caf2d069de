/-
  What neigh.readNd does where it refuses at first.
-/
import Derived.Test.YtdoefjhdipkkeaaDoorNdSizes
import Derived.Test.YtdoefjhdipkkeaaDoorPseudo
import Derived.Laws.Cover3
namespace Go.Proofs.YtdoefjhdipkkeaaDoor
open Go.RowKit
set_option linter.unusedVariables false
set_option maxRecDepth 10000


set_option linter.unusedSectionVars false
section
variable (s : ByteArray) (f t : ByteArray) (p l : Int) (bd : ByteArray) (r : Int) (w : World) (hs : s.size ≤ 140737488351232) (hd : dec (bts s) = (⟨f, t, p, l, bd⟩, r)) (hf16 : f.size ≤ 16)
include hs hd hf16
set_option maxHeartbeats 2000000 in
theorem readNd_n1 (hr : r ≠ 0) : Calls Tryd.prog 37 #[.string s] w (Told (Nt.zero, 40) w) := by
  have n1 : (r != 0) = true := by simp [hr]
  clear hr
  obtain ⟨c1, w1, hr1, ho1, hb1, hz1, -⟩ := conv_bytes (w.alloc (.cells #[.int .i64 0, .int .u8 0, .int .u8 0, .int .u8 0, .int .u8 0, .int .u8 0, .int .u8 0, .string ⟨#[]⟩, .string ⟨#[]⟩, .bool false] 38)) (w.alloc (.cells #[.int .i64 0, .int .u8 0, .int .u8 0, .int .u8 0, .int .u8 0, .int .u8 0, .int .u8 0, .string ⟨#[]⟩, .string ⟨#[]⟩, .bool false] 38)).heap.size s 9 Tryd.underlying9 (Nat.le_refl _) (by omega) (w.heap.size + 1) (by simp) s.size rfl
  have HD := Lib.hid (decode_any (some ⟨w.heap.size + 1, 0, none⟩) s.size c1 (bts s) w1 (ho1.part (bts_byt s)) (by omega) f t p l bd r hd)
  have HB1 := Lib.hid hb1
  have z1 : w.heap.size + 1 ≤ w1.heap.size := by have := hb1.size; simpa using this
  clear hb1 hz1 ho1 hd
  go_enter Tryd.func37, Tryd.ntmps37
  go_wp2_with fail
  refine HD.out.mono ?_
  rintro e w2 ⟨rfl, hb2⟩
  have HB2 := Lib.hid (below_then HB1.out (by simpa using z1) hb2)
  obtain ⟨hc1, hf1⟩ : (∀ b o, b < w.heap.size + 1 → w2.cell? ⟨b, o, none⟩ = (w.alloc (.cells #[.int .i64 0, .int .u8 0, .int .u8 0, .int .u8 0, .int .u8 0, .int .u8 0, .int .u8 0, .string ⟨#[]⟩, .string ⟨#[]⟩, .bool false] 38)).cell? ⟨b, o, none⟩) ∧ (∀ b o, b < w.heap.size + 1 → w2.frozen? ⟨b, o, none⟩ = (w.alloc (.cells #[.int .i64 0, .int .u8 0, .int .u8 0, .int .u8 0, .int .u8 0, .int .u8 0, .int .u8 0, .string ⟨#[]⟩, .string ⟨#[]⟩, .bool false] 38)).frozen? ⟨b, o, none⟩) :=
    ⟨fun b o h => HB2.out.cell (p := ⟨b, o, none⟩) (by simpa using h), fun b o h => HB2.out.frozen (p := ⟨b, o, none⟩) (by simpa using h)⟩
  have z2 : w.heap.size + 1 ≤ w2.heap.size := by have := HB2.out.size; simpa using this
  have z3 : w.heap.size < w2.heap.size := z2
  clear hb2 HD
  go_wp2
  exact bodyPost_ret (v := .tuple #[.agg #[.int .i64 0, .int .u8 0, .int .u8 0, .int .u8 0, .int .u8 0, .int .u8 0, .int .u8 0, .string ⟨#[]⟩, .string ⟨#[]⟩, .bool false], .int .i64 40]) (by simp [results, Tryd.results37, go_sem, hc1, World.cell?_alloc_lt, z3]) rfl ⟨rfl, Below.alloc (below10 (below_then ((Below.refl _ _).alloc (Nat.le_refl _) _) (by simp) HB2.out)) (by simp; omega) _⟩
set_option maxHeartbeats 2000000 in
theorem readNd_n2 (hr : r = 0) (h6 : f.size ≠ 16) : Calls Tryd.prog 37 #[.string s] w (Told (Nt.zero, 40) w) := by
  have n1 : (r != 0) = false := by simp [hr]
  have H6 := Lib.hid (show decide (f.size = 16) = false by simp [h6])
  clear h6 hr
  obtain ⟨c1, w1, hr1, ho1, hb1, hz1, -⟩ := conv_bytes (w.alloc (.cells #[.int .i64 0, .int .u8 0, .int .u8 0, .int .u8 0, .int .u8 0, .int .u8 0, .int .u8 0, .string ⟨#[]⟩, .string ⟨#[]⟩, .bool false] 38)) (w.alloc (.cells #[.int .i64 0, .int .u8 0, .int .u8 0, .int .u8 0, .int .u8 0, .int .u8 0, .int .u8 0, .string ⟨#[]⟩, .string ⟨#[]⟩, .bool false] 38)).heap.size s 9 Tryd.underlying9 (Nat.le_refl _) (by omega) (w.heap.size + 1) (by simp) s.size rfl
  have HD := Lib.hid (decode_any (some ⟨w.heap.size + 1, 0, none⟩) s.size c1 (bts s) w1 (ho1.part (bts_byt s)) (by omega) f t p l bd r hd)
  have HB1 := Lib.hid hb1
  have z1 : w.heap.size + 1 ≤ w1.heap.size := by have := hb1.size; simpa using this
  clear hb1 hz1 ho1 hd
  go_enter Tryd.func37, Tryd.ntmps37
  go_wp2_with fail
  refine HD.out.mono ?_
  rintro e w2 ⟨rfl, hb2⟩
  have HB2 := Lib.hid (below_then HB1.out (by simpa using z1) hb2)
  obtain ⟨hc1, hf1⟩ : (∀ b o, b < w.heap.size + 1 → w2.cell? ⟨b, o, none⟩ = (w.alloc (.cells #[.int .i64 0, .int .u8 0, .int .u8 0, .int .u8 0, .int .u8 0, .int .u8 0, .int .u8 0, .string ⟨#[]⟩, .string ⟨#[]⟩, .bool false] 38)).cell? ⟨b, o, none⟩) ∧ (∀ b o, b < w.heap.size + 1 → w2.frozen? ⟨b, o, none⟩ = (w.alloc (.cells #[.int .i64 0, .int .u8 0, .int .u8 0, .int .u8 0, .int .u8 0, .int .u8 0, .int .u8 0, .string ⟨#[]⟩, .string ⟨#[]⟩, .bool false] 38)).frozen? ⟨b, o, none⟩) :=
    ⟨fun b o h => HB2.out.cell (p := ⟨b, o, none⟩) (by simpa using h), fun b o h => HB2.out.frozen (p := ⟨b, o, none⟩) (by simpa using h)⟩
  have z2 : w.heap.size + 1 ≤ w2.heap.size := by have := HB2.out.size; simpa using this
  have z3 : w.heap.size < w2.heap.size := z2
  clear hb2 HD
  go_wp2_with fail
  refine (six_any f _ (by omega)).mono ?_
  rintro e w3 ⟨rfl, rfl⟩
  rw [H6.out]
  go_wp2
  exact bodyPost_ret (v := .tuple #[.agg #[.int .i64 0, .int .u8 0, .int .u8 0, .int .u8 0, .int .u8 0, .int .u8 0, .int .u8 0, .string ⟨#[]⟩, .string ⟨#[]⟩, .bool false], .int .i64 40]) (by simp [results, Tryd.results37, go_sem, hc1, World.cell?_alloc_lt, z3]) rfl ⟨rfl, Below.alloc (below10 (below_then ((Below.refl _ _).alloc (Nat.le_refl _) _) (by simp) HB2.out)) (by simp; omega) _⟩
set_option maxHeartbeats 2000000 in
theorem readNd_n3 (hr : r = 0) (h6 : f.size = 16) (hp : p ≠ 58) : Calls Tryd.prog 37 #[.string s] w (Told (Nt.zero, 40) w) := by
  have n1 : (r != 0) = false := by simp [hr]
  have H6 := Lib.hid (show decide (f.size = 16) = true by simp [h6])
  have n2 : (p != 58) = true := by simp [hp]
  clear h6 hr hp
  obtain ⟨c1, w1, hr1, ho1, hb1, hz1, -⟩ := conv_bytes (w.alloc (.cells #[.int .i64 0, .int .u8 0, .int .u8 0, .int .u8 0, .int .u8 0, .int .u8 0, .int .u8 0, .string ⟨#[]⟩, .string ⟨#[]⟩, .bool false] 38)) (w.alloc (.cells #[.int .i64 0, .int .u8 0, .int .u8 0, .int .u8 0, .int .u8 0, .int .u8 0, .int .u8 0, .string ⟨#[]⟩, .string ⟨#[]⟩, .bool false] 38)).heap.size s 9 Tryd.underlying9 (Nat.le_refl _) (by omega) (w.heap.size + 1) (by simp) s.size rfl
  have HD := Lib.hid (decode_any (some ⟨w.heap.size + 1, 0, none⟩) s.size c1 (bts s) w1 (ho1.part (bts_byt s)) (by omega) f t p l bd r hd)
  have HB1 := Lib.hid hb1
  have z1 : w.heap.size + 1 ≤ w1.heap.size := by have := hb1.size; simpa using this
  clear hb1 hz1 ho1 hd
  go_enter Tryd.func37, Tryd.ntmps37
  go_wp2_with fail
  refine HD.out.mono ?_
  rintro e w2 ⟨rfl, hb2⟩
  have HB2 := Lib.hid (below_then HB1.out (by simpa using z1) hb2)
  obtain ⟨hc1, hf1⟩ : (∀ b o, b < w.heap.size + 1 → w2.cell? ⟨b, o, none⟩ = (w.alloc (.cells #[.int .i64 0, .int .u8 0, .int .u8 0, .int .u8 0, .int .u8 0, .int .u8 0, .int .u8 0, .string ⟨#[]⟩, .string ⟨#[]⟩, .bool false] 38)).cell? ⟨b, o, none⟩) ∧ (∀ b o, b < w.heap.size + 1 → w2.frozen? ⟨b, o, none⟩ = (w.alloc (.cells #[.int .i64 0, .int .u8 0, .int .u8 0, .int .u8 0, .int .u8 0, .int .u8 0, .int .u8 0, .string ⟨#[]⟩, .string ⟨#[]⟩, .bool false] 38)).frozen? ⟨b, o, none⟩) :=
    ⟨fun b o h => HB2.out.cell (p := ⟨b, o, none⟩) (by simpa using h), fun b o h => HB2.out.frozen (p := ⟨b, o, none⟩) (by simpa using h)⟩
  have z2 : w.heap.size + 1 ≤ w2.heap.size := by have := HB2.out.size; simpa using this
  have z3 : w.heap.size < w2.heap.size := z2
  clear hb2 HD
  go_wp2_with fail
  refine (six_any f _ (by omega)).mono ?_
  rintro e w3 ⟨rfl, rfl⟩
  rw [H6.out]
  go_wp2
  exact bodyPost_ret (v := .tuple #[.agg #[.int .i64 0, .int .u8 0, .int .u8 0, .int .u8 0, .int .u8 0, .int .u8 0, .int .u8 0, .string ⟨#[]⟩, .string ⟨#[]⟩, .bool false], .int .i64 40]) (by simp [results, Tryd.results37, go_sem, hc1, World.cell?_alloc_lt, z3]) rfl ⟨rfl, Below.alloc (below10 (below_then ((Below.refl _ _).alloc (Nat.le_refl _) _) (by simp) HB2.out)) (by simp; omega) _⟩
set_option maxHeartbeats 2000000 in
theorem readNd_n4 (hr : r = 0) (h6 : f.size = 16) (hp : p = 58) (hl : l ≠ 255) : Calls Tryd.prog 37 #[.string s] w (Told (Nt.zero, 40) w) := by
  have n1 : (r != 0) = false := by simp [hr]
  have H6 := Lib.hid (show decide (f.size = 16) = true by simp [h6])
  have n2 : (p != 58) = false := by simp [hp]
  have n3 : (l != 255) = true := by simp [hl]
  clear h6 hr hp hl
  obtain ⟨c1, w1, hr1, ho1, hb1, hz1, -⟩ := conv_bytes (w.alloc (.cells #[.int .i64 0, .int .u8 0, .int .u8 0, .int .u8 0, .int .u8 0, .int .u8 0, .int .u8 0, .string ⟨#[]⟩, .string ⟨#[]⟩, .bool false] 38)) (w.alloc (.cells #[.int .i64 0, .int .u8 0, .int .u8 0, .int .u8 0, .int .u8 0, .int .u8 0, .int .u8 0, .string ⟨#[]⟩, .string ⟨#[]⟩, .bool false] 38)).heap.size s 9 Tryd.underlying9 (Nat.le_refl _) (by omega) (w.heap.size + 1) (by simp) s.size rfl
  have HD := Lib.hid (decode_any (some ⟨w.heap.size + 1, 0, none⟩) s.size c1 (bts s) w1 (ho1.part (bts_byt s)) (by omega) f t p l bd r hd)
  have HB1 := Lib.hid hb1
  have z1 : w.heap.size + 1 ≤ w1.heap.size := by have := hb1.size; simpa using this
  clear hb1 hz1 ho1 hd
  go_enter Tryd.func37, Tryd.ntmps37
  go_wp2_with fail
  refine HD.out.mono ?_
  rintro e w2 ⟨rfl, hb2⟩
  have HB2 := Lib.hid (below_then HB1.out (by simpa using z1) hb2)
  obtain ⟨hc1, hf1⟩ : (∀ b o, b < w.heap.size + 1 → w2.cell? ⟨b, o, none⟩ = (w.alloc (.cells #[.int .i64 0, .int .u8 0, .int .u8 0, .int .u8 0, .int .u8 0, .int .u8 0, .int .u8 0, .string ⟨#[]⟩, .string ⟨#[]⟩, .bool false] 38)).cell? ⟨b, o, none⟩) ∧ (∀ b o, b < w.heap.size + 1 → w2.frozen? ⟨b, o, none⟩ = (w.alloc (.cells #[.int .i64 0, .int .u8 0, .int .u8 0, .int .u8 0, .int .u8 0, .int .u8 0, .int .u8 0, .string ⟨#[]⟩, .string ⟨#[]⟩, .bool false] 38)).frozen? ⟨b, o, none⟩) :=
    ⟨fun b o h => HB2.out.cell (p := ⟨b, o, none⟩) (by simpa using h), fun b o h => HB2.out.frozen (p := ⟨b, o, none⟩) (by simpa using h)⟩
  have z2 : w.heap.size + 1 ≤ w2.heap.size := by have := HB2.out.size; simpa using this
  have z3 : w.heap.size < w2.heap.size := z2
  clear hb2 HD
  go_wp2_with fail
  refine (six_any f _ (by omega)).mono ?_
  rintro e w3 ⟨rfl, rfl⟩
  rw [H6.out]
  go_wp2
  exact bodyPost_ret (v := .tuple #[.agg #[.int .i64 0, .int .u8 0, .int .u8 0, .int .u8 0, .int .u8 0, .int .u8 0, .int .u8 0, .string ⟨#[]⟩, .string ⟨#[]⟩, .bool false], .int .i64 40]) (by simp [results, Tryd.results37, go_sem, hc1, World.cell?_alloc_lt, z3]) rfl ⟨rfl, Below.alloc (below10 (below_then ((Below.refl _ _).alloc (Nat.le_refl _) _) (by simp) HB2.out)) (by simp; omega) _⟩
set_option maxHeartbeats 2000000 in
theorem readNd_n5 (hr : r = 0) (h6 : f.size = 16) (hp : p = 58) (hl : l = 255) (hb : bd.size ≠ 32) : Calls Tryd.prog 37 #[.string s] w (Told (Nt.zero, 40) w) := by
  have n1 : (r != 0) = false := by simp [hr]
  have H6 := Lib.hid (show decide (f.size = 16) = true by simp [h6])
  have n2 : (p != 58) = false := by simp [hp]
  have n3 : (l != 255) = false := by simp [hl]
  have n4 : ((bd.size : Int) != 32) = true := by simp; omega
  clear h6 hr hp hl hb
  obtain ⟨c1, w1, hr1, ho1, hb1, hz1, -⟩ := conv_bytes (w.alloc (.cells #[.int .i64 0, .int .u8 0, .int .u8 0, .int .u8 0, .int .u8 0, .int .u8 0, .int .u8 0, .string ⟨#[]⟩, .string ⟨#[]⟩, .bool false] 38)) (w.alloc (.cells #[.int .i64 0, .int .u8 0, .int .u8 0, .int .u8 0, .int .u8 0, .int .u8 0, .int .u8 0, .string ⟨#[]⟩, .string ⟨#[]⟩, .bool false] 38)).heap.size s 9 Tryd.underlying9 (Nat.le_refl _) (by omega) (w.heap.size + 1) (by simp) s.size rfl
  have HD := Lib.hid (decode_any (some ⟨w.heap.size + 1, 0, none⟩) s.size c1 (bts s) w1 (ho1.part (bts_byt s)) (by omega) f t p l bd r hd)
  have HB1 := Lib.hid hb1
  have z1 : w.heap.size + 1 ≤ w1.heap.size := by have := hb1.size; simpa using this
  clear hb1 hz1 ho1 hd
  go_enter Tryd.func37, Tryd.ntmps37
  go_wp2_with fail
  refine HD.out.mono ?_
  rintro e w2 ⟨rfl, hb2⟩
  have HB2 := Lib.hid (below_then HB1.out (by simpa using z1) hb2)
  obtain ⟨hc1, hf1⟩ : (∀ b o, b < w.heap.size + 1 → w2.cell? ⟨b, o, none⟩ = (w.alloc (.cells #[.int .i64 0, .int .u8 0, .int .u8 0, .int .u8 0, .int .u8 0, .int .u8 0, .int .u8 0, .string ⟨#[]⟩, .string ⟨#[]⟩, .bool false] 38)).cell? ⟨b, o, none⟩) ∧ (∀ b o, b < w.heap.size + 1 → w2.frozen? ⟨b, o, none⟩ = (w.alloc (.cells #[.int .i64 0, .int .u8 0, .int .u8 0, .int .u8 0, .int .u8 0, .int .u8 0, .int .u8 0, .string ⟨#[]⟩, .string ⟨#[]⟩, .bool false] 38)).frozen? ⟨b, o, none⟩) :=
    ⟨fun b o h => HB2.out.cell (p := ⟨b, o, none⟩) (by simpa using h), fun b o h => HB2.out.frozen (p := ⟨b, o, none⟩) (by simpa using h)⟩
  have z2 : w.heap.size + 1 ≤ w2.heap.size := by have := HB2.out.size; simpa using this
  have z3 : w.heap.size < w2.heap.size := z2
  clear hb2 HD
  go_wp2_with fail
  refine (six_any f _ (by omega)).mono ?_
  rintro e w3 ⟨rfl, rfl⟩
  rw [H6.out]
  go_wp2
  exact bodyPost_ret (v := .tuple #[.agg #[.int .i64 0, .int .u8 0, .int .u8 0, .int .u8 0, .int .u8 0, .int .u8 0, .int .u8 0, .string ⟨#[]⟩, .string ⟨#[]⟩, .bool false], .int .i64 40]) (by simp [results, Tryd.results37, go_sem, hc1, World.cell?_alloc_lt, z3]) rfl ⟨rfl, Below.alloc (below10 (below_then ((Below.refl _ _).alloc (Nat.le_refl _) _) (by simp) HB2.out)) (by simp; omega) _⟩
end

end Go.Proofs.YtdoefjhdipkkeaaDoor
