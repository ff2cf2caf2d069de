/-
  What neigh.readNd does where the sum of an ND that tells is not good.
-/
import Derived.Test.YtdoefjhdipkkeaaDoorNdSizes
import Derived.Test.YtdoefjhdipkkeaaDoorLayNd
import Derived.Test.YtdoefjhdipkkeaaDoorPseudo
import Derived.Laws.Cover3
namespace Go.Proofs.YtdoefjhdipkkeaaDoor
open Go.RowKit
set_option linter.unusedVariables false
set_option maxRecDepth 10000


set_option linter.unusedSectionVars false
attribute [local go_sem ↓] form_eq

section
variable (s : ByteArray) (f t : ByteArray) (bd : ByteArray) (w : World) (hs : s.size ≤ 140737488351232) (hd : dec (bts s) = (⟨f, t, 58, 255, bd⟩, 0)) (hf16 : f.size ≤ 16) (h6 : f.size = 16) (ht6 : t.size = 16) (hb : bd.size = 32) (hG : Glob w) (hx : byteAt (bts bd) 0 = 136 ∧ byteAt (bts bd) 1 = 0 ∧ byteAt (bts bd) 24 = 2 ∧ byteAt (bts bd) 25 = 1)
include hs hd hf16 h6 ht6 hb hG hx
set_option maxHeartbeats 4000000 in
set_option maxRecDepth 100000 in
theorem readNd_badT (S : Int) (hS : fd (tot (pseu f t 58 32 ++ bts bd)) = S) (hg : S ≠ 65535) : Calls Tryd.prog 37 #[.string s] w (Told (Nt.zero, 41) w) := by
  have HSS := Lib.hid hS
  have HGD := Lib.hid (show (S == 65535) = false by simp [hg])
  clear hS hg
  have H6 := Lib.hid (show decide (f.size = 16) = true by simp [h6])
  have n4 : ((bd.size : Int) != 32) = false := by simp [hb]
  have HG := Lib.hid hG
  obtain ⟨e0, e1, e24, e25⟩ := hx
  obtain ⟨c1, w1, hr1, ho1, hb1, hz1, -⟩ := conv_bytes (w.alloc (.cells #[.int .i64 0, .int .u8 0, .int .u8 0, .int .u8 0, .int .u8 0, .int .u8 0, .int .u8 0, .string ⟨#[]⟩, .string ⟨#[]⟩, .bool false] 38)) (w.alloc (.cells #[.int .i64 0, .int .u8 0, .int .u8 0, .int .u8 0, .int .u8 0, .int .u8 0, .int .u8 0, .string ⟨#[]⟩, .string ⟨#[]⟩, .bool false] 38)).heap.size s 9 Tryd.underlying9 (Nat.le_refl _) (by omega) (w.heap.size + 1) (by simp) s.size rfl
  have HD := Lib.hid (decode_any (some ⟨w.heap.size + 1, 0, none⟩) s.size c1 (bts s) w1 (ho1.part (bts_byt s)) (by omega) f t 58 255 bd 0 hd)
  have HB1 := Lib.hid hb1
  have z1 : w.heap.size + 1 ≤ w1.heap.size := by have := hb1.size; simpa using this
  clear hb1 hz1 ho1 hd
  go_enter Tryd.func37, Tryd.ntmps37
  go_wp2_with fail
  refine HD.out.mono ?_
  rintro e w2 ⟨rfl, hb2⟩
  have HB2 := Lib.hid (below_then HB1.out (by simpa using z1) hb2)
  obtain ⟨hc1, hf1⟩ : (∀ b o, b < w.heap.size + 1 → w2.cell? ⟨b, o, none⟩ = (w.alloc (.cells #[.int .i64 0, .int .u8 0, .int .u8 0, .int .u8 0, .int .u8 0, .int .u8 0, .int .u8 0, .string ⟨#[]⟩, .string ⟨#[]⟩, .bool false] 38)).cell? ⟨b, o, none⟩) ∧ (∀ b o, b < w.heap.size + 1 → w2.frozen? ⟨b, o, none⟩ = (w.alloc (.cells #[.int .i64 0, .int .u8 0, .int .u8 0, .int .u8 0, .int .u8 0, .int .u8 0, .int .u8 0, .string ⟨#[]⟩, .string ⟨#[]⟩, .bool false] 38)).frozen? ⟨b, o, none⟩) :=
    ⟨fun b o h => HB2.out.cell (p := ⟨b, o, none⟩) (by simpa using h), fun b o h => HB2.out.frozen (p := ⟨b, o, none⟩) (by simpa using h)⟩
  have z2 : w.heap.size + 1 ≤ w2.heap.size := by have := HB2.out.size; simpa using this
  have z3 : w.heap.size < w2.heap.size := z2
  clear hb2 HD
  go_wp2_with fail
  refine (six_any f _ (by omega)).mono ?_
  rintro e w3 ⟨rfl, rfl⟩
  rw [H6.out]
  have HGW := Lib.hid (HG.out.below ((Below.refl _ _).alloc (Nat.le_refl _) (.cells #[.int .i64 0, .int .u8 0, .int .u8 0, .int .u8 0, .int .u8 0, .int .u8 0, .int .u8 0, .string ⟨#[]⟩, .string ⟨#[]⟩, .bool false] 38)) HG.out.size |>.below HB2.out (by have := HG.out.size; simp; omega))
  obtain ⟨c4, w4, hr4, ho4, hb4, hz4, -⟩ := conv_bytes (w2.alloc (.cells #[.string f, .string t, .int .i64 58, .int .i64 255, .string bd] 72)) (w2.alloc (.cells #[.string f, .string t, .int .i64 58, .int .i64 255, .string bd] 72)).heap.size bd 9 Tryd.underlying9 (Nat.le_refl _) (by omega) (w2.heap.size + 1) (by simp) 32 hb
  have HB4 := Lib.hid (below_then (HB2.out.alloc (by simpa using z2) (.cells #[.string f, .string t, .int .i64 58, .int .i64 255, .string bd] 72)) (by simp; omega) hb4)
  have HG4 := Lib.hid (HGW.out.alloc (.cells #[.string f, .string t, .int .i64 58, .int .i64 255, .string bd] 72) |>.below hb4 (HGW.out.alloc (.cells #[.string f, .string t, .int .i64 58, .int .i64 255, .string bd] 72)).size)
  have HX4 := Lib.hid ((Boxed.new w2 f t 58 255 bd).below hb4 (by simp))
  have HO4 := Lib.hid ho4
  have z4 : w2.heap.size + 1 < w4.heap.size := by have := ho4.lt; exact this
  have z5 : w2.heap.size < w4.heap.size := by omega
  have z6 : w.heap.size < w4.heap.size := by omega
  have hc32 : 32 ≤ c4 := ho4.2.2.1
  have at_ : ∀ j, j < 32 → w4.cell? ⟨w2.heap.size + 1, j, none⟩ = some (.int .u8 (byteAt (bts bd) j)) := fun j hj => by rw [HO4.out.cell j hj]; rfl
  have x_0 := at_ 0 (by omega)
  have x_1 := at_ 1 (by omega)
  have x_24 := at_ 24 (by omega)
  have x_25 := at_ 25 (by omega)
  rw [e0] at x_0
  rw [e1] at x_1
  rw [e24] at x_24
  rw [e25] at x_25
  have HAT := Lib.hid at_
  obtain ⟨hc4, hf4⟩ : (∀ b o, b < w.heap.size + 1 → w4.cell? ⟨b, o, none⟩ = (w.alloc (.cells #[.int .i64 0, .int .u8 0, .int .u8 0, .int .u8 0, .int .u8 0, .int .u8 0, .int .u8 0, .string ⟨#[]⟩, .string ⟨#[]⟩, .bool false] 38)).cell? ⟨b, o, none⟩) ∧ (∀ b o, b < w.heap.size + 1 → w4.frozen? ⟨b, o, none⟩ = (w.alloc (.cells #[.int .i64 0, .int .u8 0, .int .u8 0, .int .u8 0, .int .u8 0, .int .u8 0, .int .u8 0, .string ⟨#[]⟩, .string ⟨#[]⟩, .bool false] 38)).frozen? ⟨b, o, none⟩) :=
    ⟨fun b o h => HB4.out.cell (p := ⟨b, o, none⟩) (by simpa using h), fun b o h => HB4.out.frozen (p := ⟨b, o, none⟩) (by simpa using h)⟩
  clear at_ hb4 ho4 hz4
  obtain ⟨gg0, gg1, gg2, gg3, gg4, gg5, gg6, gg7⟩ := HG4.out.alloc (.cells #[.int .u8 136, .int .u8 0, .int .u8 2, .int .u8 1] 63)
  obtain ⟨p0, p1, -, -, -⟩ := HX4.out
  go_wp2_with fail
  go_region
  go_wp2_with fail
  refine (npseudo_any f t _ h6 ht6).mono ?_
  rintro e w6 ⟨g6, c6, rfl, ho6, hb6'⟩
  have hb6 := Lib.hid (show Below (w4.alloc (.cells #[.int .u8 136, .int .u8 0, .int .u8 2, .int .u8 1] 63)).heap.size (w4.alloc (.cells #[.int .u8 136, .int .u8 0, .int .u8 2, .int .u8 1] 63)) w6 from below_left hb6'.out)
  clear hb6'
  have HB6 := Lib.hid (below_then (HB4.out.alloc (by simp; omega) (.cells #[.int .u8 136, .int .u8 0, .int .u8 2, .int .u8 1] 63)) (by simp; omega) hb6.out)
  have HP4 := Lib.hid (((HO4.out.part (bts_byt bd)).alloc (.cells #[.int .u8 136, .int .u8 0, .int .u8 2, .int .u8 1] 63)).below hb6.out)
  have HP6 := Lib.hid (ho6.out.part (pseu_byt f t 58 32))
  have HG6 := Lib.hid ((HG4.out.alloc (.cells #[.int .u8 136, .int .u8 0, .int .u8 2, .int .u8 1] 63)).below hb6.out (HG4.out.alloc (.cells #[.int .u8 136, .int .u8 0, .int .u8 2, .int .u8 1] 63)).size)
  have HX6 := Lib.hid (HX4.out.below (((Below.refl _ _).alloc (Nat.le_refl _) (.cells #[.int .u8 136, .int .u8 0, .int .u8 2, .int .u8 1] 63)).trans (hb6.out.mono (by simp))) z5)
  have HQ := Lib.hid (show w6.cell? ⟨w4.heap.size, 0, none⟩ = some (.int .u8 136) ∧ w6.cell? ⟨w4.heap.size, 1, none⟩ = some (.int .u8 0) ∧ w6.cell? ⟨w4.heap.size, 2, none⟩ = some (.int .u8 2) ∧ w6.cell? ⟨w4.heap.size, 3, none⟩ = some (.int .u8 1) from ⟨(hb6.out.cell (by simp)).trans (by simp [go_sem]), (hb6.out.cell (by simp)).trans (by simp [go_sem]), (hb6.out.cell (by simp)).trans (by simp [go_sem]), (hb6.out.cell (by simp)).trans (by simp [go_sem])⟩)
  have zz : w4.heap.size < w6.heap.size := by have := hb6.out.size; simp at this; omega
  have z7 : w2.heap.size + 1 < w6.heap.size := by omega
  have z8 : w2.heap.size < w6.heap.size := by omega
  have z9 : w.heap.size < w6.heap.size := by omega
  obtain ⟨hc6, hf6⟩ : (∀ b o, b < w.heap.size + 1 → w6.cell? ⟨b, o, none⟩ = (w.alloc (.cells #[.int .i64 0, .int .u8 0, .int .u8 0, .int .u8 0, .int .u8 0, .int .u8 0, .int .u8 0, .string ⟨#[]⟩, .string ⟨#[]⟩, .bool false] 38)).cell? ⟨b, o, none⟩) ∧ (∀ b o, b < w.heap.size + 1 → w6.frozen? ⟨b, o, none⟩ = (w.alloc (.cells #[.int .i64 0, .int .u8 0, .int .u8 0, .int .u8 0, .int .u8 0, .int .u8 0, .int .u8 0, .string ⟨#[]⟩, .string ⟨#[]⟩, .bool false] 38)).frozen? ⟨b, o, none⟩) :=
    ⟨fun b o h => HB6.out.cell (p := ⟨b, o, none⟩) (by simpa using h), fun b o h => HB6.out.frozen (p := ⟨b, o, none⟩) (by simpa using h)⟩
  have HF := Lib.hid (below_then ((Below.refl w.heap.size w).alloc (Nat.le_refl _) (.cells #[.int .i64 0, .int .u8 0, .int .u8 0, .int .u8 0, .int .u8 0, .int .u8 0, .int .u8 0, .string ⟨#[]⟩, .string ⟨#[]⟩, .bool false] 38)) (by simp) HB6.out)
  clear hb6 ho6 hc4 hf4 hc1 hf1 x_0 x_1 x_24 x_25 gg0 gg1 gg2 gg3 gg4 gg5 gg6 gg7 p0 p1 z4 z5 z6
  go_wp2_with fail
  refine (good_at (ps := [⟨some ⟨g6, 0, none⟩, 40, c6, pseu f t 58 32⟩, ⟨some ⟨w2.heap.size + 1, 0, none⟩, 32, c4, bts bd⟩]) (Parts.two (by simp [go_sem, PartV.val]) (by simp [go_sem, PartV.val]) (HP6.out.alloc _) (HP4.out.alloc _) (by simp) (by simp)) (m := 2) rfl (s := S) (by rw [← HSS.out]; simp [flat])).mono ?_
  rintro e w7 ⟨rfl, k7, rfl⟩
  rw [HGD.out]
  go_wp2
  exact bodyPost_ret (v := .tuple #[.agg #[.int .i64 0, .int .u8 0, .int .u8 0, .int .u8 0, .int .u8 0, .int .u8 0, .int .u8 0, .string ⟨#[]⟩, .string ⟨#[]⟩, .bool false], .int .i64 41]) (by simp [results, Tryd.results37, go_sem, hc6, World.cell?_alloc_lt, z9]) rfl ⟨rfl, below10 (below_drewN (below_alloc HF.out _) k7)⟩
end

end Go.Proofs.YtdoefjhdipkkeaaDoor
