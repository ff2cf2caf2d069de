/-
  What neigh.Read does.
-/
import Derived.Test.YtdoefjhdipkkeaaDoorReadArp
import Derived.Test.YtdoefjhdipkkeaaDoorReadNdNo
import Derived.Test.YtdoefjhdipkkeaaDoorReadNdForm
import Derived.Test.YtdoefjhdipkkeaaDoorReadNdAsk
import Derived.Test.YtdoefjhdipkkeaaDoorReadNdTell
import Derived.Test.YtdoefjhdipkkeaaDoorReadNdBadA
import Derived.Test.YtdoefjhdipkkeaaDoorReadNdBadT
namespace Go.Proofs.YtdoefjhdipkkeaaDoor
open Go.RowKit
set_option linter.unusedVariables false
set_option maxRecDepth 10000


theorem below10a {B : Nat} {w W : World} (h : Below B w W) {v0 v1 v2 v3 v4 v5 v6 v7 v8 v9 : Value} :
    Below B w ((((((((((W.setCell ⟨B + 1, 0, none⟩ v0).setCell ⟨B + 1, 1, none⟩ v1).setCell ⟨B + 1, 2, none⟩ v2).setCell ⟨B + 1, 3, none⟩ v3).setCell ⟨B + 1, 4, none⟩ v4).setCell ⟨B + 1, 5, none⟩ v5).setCell ⟨B + 1, 6, none⟩ v6).setCell ⟨B + 1, 7, none⟩ v7).setCell ⟨B + 1, 8, none⟩ v8).setCell ⟨B + 1, 9, none⟩ v9) := ((((((((((h.setCell (Nat.le_succ _) _).setCell (Nat.le_succ _) _).setCell (Nat.le_succ _) _).setCell (Nat.le_succ _) _).setCell (Nat.le_succ _) _).setCell (Nat.le_succ _) _).setCell (Nat.le_succ _) _).setCell (Nat.le_succ _) _).setCell (Nat.le_succ _) _).setCell (Nat.le_succ _) _)
/-- neigh.readNd. -/
theorem readNd_any (s : ByteArray) (w : World) (hs : s.size ≤ 140737488351232) (hG : Glob w) : Calls Tryd.prog 37 #[.string s] w (Told (rdV6 (bts s)) w) := by
  have hz := dec_sizes (bts s)
  unfold rdV6
  rcases hd : dec (bts s) with ⟨⟨f, t, p, l, bd⟩, r⟩
  rw [hd] at hz
  obtain ⟨z1, z2, z3, z4⟩ := hz
  simp only at z1 z2 z3 z4
  by_cases h1 : r ≠ 0
  · rw [if_pos h1]; exact readNd_n1 s f t p l bd r w hs hd z1 h1
  rw [if_neg h1]
  have h1 : r = 0 := by omega
  unfold rdNd
  by_cases h2 : f.size ≠ 16 ∨ p ≠ 58 ∨ l ≠ 255 ∨ bd.size ≠ 32
  · rw [if_pos h2]
    by_cases a1 : f.size = 16
    · by_cases a2 : p = 58
      · by_cases a3 : l = 255
        · exact readNd_n5 s f t p l bd r w hs hd z1 h1 a1 a2 a3 (by omega)
        · exact readNd_n4 s f t p l bd r w hs hd z1 h1 a1 a2 a3
      · exact readNd_n3 s f t p l bd r w hs hd z1 h1 a1 a2
    · exact readNd_n2 s f t p l bd r w hs hd z1 h1 a1
  rw [if_neg h2]
  obtain ⟨a1, a2, a3, a4⟩ : f.size = 16 ∧ p = 58 ∧ l = 255 ∧ bd.size = 32 := by omega
  subst a2 a3 h1
  by_cases h3 : isF (bts bd) 135 1 = false ∧ isF (bts bd) 136 2 = false
  · rw [if_pos h3]
    exact readNd_form s f t bd w hs hd z1 a1 (z4 a1) a4 hG _ _ _ _ ⟨rfl, rfl, rfl, rfl⟩ h3.1 h3.2
  rw [if_neg h3]
  by_cases hA : isF (bts bd) 135 1 = true
  · have hx : byteAt (bts bd) 0 = 135 ∧ byteAt (bts bd) 1 = 0 ∧ byteAt (bts bd) 24 = 1 ∧ byteAt (bts bd) 25 = 1 := by simpa [isF, and_assoc] using hA
    by_cases hS : fd (tot (pseu f t 58 32 ++ bts bd)) ≠ 65535
    · rw [if_pos hS]; exact readNd_badA s f t bd w hs hd z1 a1 (z4 a1) a4 hG hx _ rfl hS
    · rw [if_neg hS, if_pos hA]
      exact readNd_ask s f t bd w hs hd z1 a1 (z4 a1) a4 hG hx _ rfl (by simpa using hS) _ _ _ _ _ _ ⟨rfl, rfl, rfl, rfl, rfl, rfl⟩ _ rfl
  · have hT : isF (bts bd) 136 2 = true := by
      rcases h : isF (bts bd) 136 2 with _ | _
      · exact absurd ⟨by simpa using hA, h⟩ h3
      · rfl
    have hx : byteAt (bts bd) 0 = 136 ∧ byteAt (bts bd) 1 = 0 ∧ byteAt (bts bd) 24 = 2 ∧ byteAt (bts bd) 25 = 1 := by simpa [isF, and_assoc] using hT
    by_cases hS : fd (tot (pseu f t 58 32 ++ bts bd)) ≠ 65535
    · rw [if_pos hS]; exact readNd_badT s f t bd w hs hd z1 a1 (z4 a1) a4 hG hx _ rfl hS
    · rw [if_neg hS, if_neg hA]
      exact readNd_tell s f t bd w hs hd z1 a1 (z4 a1) a4 hG hx _ rfl (by simpa using hS) _ _ _ _ _ _ ⟨rfl, rfl, rfl, rfl, rfl, rfl⟩ _ rfl _ rfl _ rfl

section
variable (a0 a1 a2 a3 a4 a5 b0 b1 b2 b3 b4 b5 ty : Int) (s : ByteArray) (w : World)
set_option maxHeartbeats 4000000 in
theorem read_arp (k : Int) (m0 m1 m2 m3 m4 m5 : Int) (u v : ByteArray) (q : Bool) (r : Int) (ht : ty = 2054) (hG : Glob w) (H : ∀ W, Glob W → Calls Tryd.prog 36 #[.string s] W (Told (⟨k, m0, m1, m2, m3, m4, m5, u, v, q⟩, r) W)) :
    Calls Tryd.prog 18 #[.agg #[.int .u8 a0, .int .u8 a1, .int .u8 a2, .int .u8 a3, .int .u8 a4, .int .u8 a5, .int .u8 b0, .int .u8 b1, .int .u8 b2, .int .u8 b3, .int .u8 b4, .int .u8 b5, .int .i64 ty, .string s]] w (Told (⟨k, m0, m1, m2, m3, m4, m5, u, v, q⟩, r) w) := by
  have g1 : (ty == 2054) = true := by simp [ht]
  clear ht
  have HH := Lib.hid (H _ ((hG.alloc (.cells #[.int .u8 a0, .int .u8 a1, .int .u8 a2, .int .u8 a3, .int .u8 a4, .int .u8 a5, .int .u8 b0, .int .u8 b1, .int .u8 b2, .int .u8 b3, .int .u8 b4, .int .u8 b5, .int .i64 ty, .string s] 41)).alloc (.cells #[.int .i64 0, .int .u8 0, .int .u8 0, .int .u8 0, .int .u8 0, .int .u8 0, .int .u8 0, .string ⟨#[]⟩, .string ⟨#[]⟩, .bool false] 38)))
  clear H
  go_enter Tryd.func18, Tryd.ntmps18
  go_wp2_with fail
  refine HH.out.mono ?_
  rintro e w1 ⟨rfl, hb1⟩
  simp only [Nt.val]
  obtain ⟨hc1, hf1⟩ : (∀ b o, b < w.heap.size + 2 → w1.cell? ⟨b, o, none⟩ = ((w.alloc (.cells #[.int .u8 a0, .int .u8 a1, .int .u8 a2, .int .u8 a3, .int .u8 a4, .int .u8 a5, .int .u8 b0, .int .u8 b1, .int .u8 b2, .int .u8 b3, .int .u8 b4, .int .u8 b5, .int .i64 ty, .string s] 41)).alloc (.cells #[.int .i64 0, .int .u8 0, .int .u8 0, .int .u8 0, .int .u8 0, .int .u8 0, .int .u8 0, .string ⟨#[]⟩, .string ⟨#[]⟩, .bool false] 38)).cell? ⟨b, o, none⟩) ∧ (∀ b o, b < w.heap.size + 2 → w1.frozen? ⟨b, o, none⟩ = ((w.alloc (.cells #[.int .u8 a0, .int .u8 a1, .int .u8 a2, .int .u8 a3, .int .u8 a4, .int .u8 a5, .int .u8 b0, .int .u8 b1, .int .u8 b2, .int .u8 b3, .int .u8 b4, .int .u8 b5, .int .i64 ty, .string s] 41)).alloc (.cells #[.int .i64 0, .int .u8 0, .int .u8 0, .int .u8 0, .int .u8 0, .int .u8 0, .int .u8 0, .string ⟨#[]⟩, .string ⟨#[]⟩, .bool false] 38)).frozen? ⟨b, o, none⟩) :=
    ⟨fun b o h => hb1.cell (p := ⟨b, o, none⟩) (by simpa using h), fun b o h => hb1.frozen (p := ⟨b, o, none⟩) (by simpa using h)⟩
  have z1 : w.heap.size + 2 ≤ w1.heap.size := by have := hb1.size; simpa using this
  have z2 : w.heap.size + 1 < w1.heap.size := z1
  have HB1 := Lib.hid (below_then (((Below.refl w.heap.size w).alloc (Nat.le_refl _) (.cells #[.int .u8 a0, .int .u8 a1, .int .u8 a2, .int .u8 a3, .int .u8 a4, .int .u8 a5, .int .u8 b0, .int .u8 b1, .int .u8 b2, .int .u8 b3, .int .u8 b4, .int .u8 b5, .int .i64 ty, .string s] 41)).alloc (by simp) (.cells #[.int .i64 0, .int .u8 0, .int .u8 0, .int .u8 0, .int .u8 0, .int .u8 0, .int .u8 0, .string ⟨#[]⟩, .string ⟨#[]⟩, .bool false] 38)) (by simp; omega) hb1)
  clear hb1
  go_wp2
  exact bodyPost_ret (v := .tuple #[.agg #[.int .i64 k, .int .u8 m0, .int .u8 m1, .int .u8 m2, .int .u8 m3, .int .u8 m4, .int .u8 m5, .string u, .string v, .bool q], .int .i64 r]) (by simp [results, Tryd.results18, go_sem, hc1]) rfl ⟨rfl, below10a HB1.out⟩

set_option maxHeartbeats 4000000 in
theorem read_nd (k : Int) (m0 m1 m2 m3 m4 m5 : Int) (u v : ByteArray) (q : Bool) (r : Int) (ht : ty = 34525) (hG : Glob w) (H : ∀ W, Glob W → Calls Tryd.prog 37 #[.string s] W (Told (⟨k, m0, m1, m2, m3, m4, m5, u, v, q⟩, r) W)) :
    Calls Tryd.prog 18 #[.agg #[.int .u8 a0, .int .u8 a1, .int .u8 a2, .int .u8 a3, .int .u8 a4, .int .u8 a5, .int .u8 b0, .int .u8 b1, .int .u8 b2, .int .u8 b3, .int .u8 b4, .int .u8 b5, .int .i64 ty, .string s]] w (Told (⟨k, m0, m1, m2, m3, m4, m5, u, v, q⟩, r) w) := by
  have g1 : (ty == 2054) = false := by simp [ht]
  have g2 : (ty == 34525) = true := by simp [ht]
  clear ht
  have HH := Lib.hid (H _ ((hG.alloc (.cells #[.int .u8 a0, .int .u8 a1, .int .u8 a2, .int .u8 a3, .int .u8 a4, .int .u8 a5, .int .u8 b0, .int .u8 b1, .int .u8 b2, .int .u8 b3, .int .u8 b4, .int .u8 b5, .int .i64 ty, .string s] 41)).alloc (.cells #[.int .i64 0, .int .u8 0, .int .u8 0, .int .u8 0, .int .u8 0, .int .u8 0, .int .u8 0, .string ⟨#[]⟩, .string ⟨#[]⟩, .bool false] 38)))
  clear H
  go_enter Tryd.func18, Tryd.ntmps18
  go_wp2_with fail
  refine HH.out.mono ?_
  rintro e w1 ⟨rfl, hb1⟩
  simp only [Nt.val]
  obtain ⟨hc1, hf1⟩ : (∀ b o, b < w.heap.size + 2 → w1.cell? ⟨b, o, none⟩ = ((w.alloc (.cells #[.int .u8 a0, .int .u8 a1, .int .u8 a2, .int .u8 a3, .int .u8 a4, .int .u8 a5, .int .u8 b0, .int .u8 b1, .int .u8 b2, .int .u8 b3, .int .u8 b4, .int .u8 b5, .int .i64 ty, .string s] 41)).alloc (.cells #[.int .i64 0, .int .u8 0, .int .u8 0, .int .u8 0, .int .u8 0, .int .u8 0, .int .u8 0, .string ⟨#[]⟩, .string ⟨#[]⟩, .bool false] 38)).cell? ⟨b, o, none⟩) ∧ (∀ b o, b < w.heap.size + 2 → w1.frozen? ⟨b, o, none⟩ = ((w.alloc (.cells #[.int .u8 a0, .int .u8 a1, .int .u8 a2, .int .u8 a3, .int .u8 a4, .int .u8 a5, .int .u8 b0, .int .u8 b1, .int .u8 b2, .int .u8 b3, .int .u8 b4, .int .u8 b5, .int .i64 ty, .string s] 41)).alloc (.cells #[.int .i64 0, .int .u8 0, .int .u8 0, .int .u8 0, .int .u8 0, .int .u8 0, .int .u8 0, .string ⟨#[]⟩, .string ⟨#[]⟩, .bool false] 38)).frozen? ⟨b, o, none⟩) :=
    ⟨fun b o h => hb1.cell (p := ⟨b, o, none⟩) (by simpa using h), fun b o h => hb1.frozen (p := ⟨b, o, none⟩) (by simpa using h)⟩
  have z1 : w.heap.size + 2 ≤ w1.heap.size := by have := hb1.size; simpa using this
  have z2 : w.heap.size + 1 < w1.heap.size := z1
  have HB1 := Lib.hid (below_then (((Below.refl w.heap.size w).alloc (Nat.le_refl _) (.cells #[.int .u8 a0, .int .u8 a1, .int .u8 a2, .int .u8 a3, .int .u8 a4, .int .u8 a5, .int .u8 b0, .int .u8 b1, .int .u8 b2, .int .u8 b3, .int .u8 b4, .int .u8 b5, .int .i64 ty, .string s] 41)).alloc (by simp) (.cells #[.int .i64 0, .int .u8 0, .int .u8 0, .int .u8 0, .int .u8 0, .int .u8 0, .int .u8 0, .string ⟨#[]⟩, .string ⟨#[]⟩, .bool false] 38)) (by simp; omega) hb1)
  clear hb1
  go_wp2
  exact bodyPost_ret (v := .tuple #[.agg #[.int .i64 k, .int .u8 m0, .int .u8 m1, .int .u8 m2, .int .u8 m3, .int .u8 m4, .int .u8 m5, .string u, .string v, .bool q], .int .i64 r]) (by simp [results, Tryd.results18, go_sem, hc1]) rfl ⟨rfl, below10a HB1.out⟩

set_option maxHeartbeats 4000000 in
theorem read_else (h1 : ty ≠ 2054) (h2 : ty ≠ 34525) : Calls Tryd.prog 18 #[.agg #[.int .u8 a0, .int .u8 a1, .int .u8 a2, .int .u8 a3, .int .u8 a4, .int .u8 a5, .int .u8 b0, .int .u8 b1, .int .u8 b2, .int .u8 b3, .int .u8 b4, .int .u8 b5, .int .i64 ty, .string s]] w (Told (Nt.zero, 40) w) := by
  have g1 : (ty == 2054) = false := by simp [h1]
  have g2 : (ty == 34525) = false := by simp [h2]
  go_enter Tryd.func18, Tryd.ntmps18
  go_wp2
  exact bodyPost_ret (v := .tuple #[.agg #[.int .i64 0, .int .u8 0, .int .u8 0, .int .u8 0, .int .u8 0, .int .u8 0, .int .u8 0, .string ⟨#[]⟩, .string ⟨#[]⟩, .bool false], .int .i64 40]) (by simp [results, Tryd.results18, go_sem]) rfl ⟨rfl, ((Below.refl _ _).alloc (Nat.le_refl _) _).alloc (by simp) _⟩
/-- neigh.Read. -/
theorem read_any (hs : s.size ≤ 140737488351232) (hG : Glob w) : Calls Tryd.prog 18 #[.agg #[.int .u8 a0, .int .u8 a1, .int .u8 a2, .int .u8 a3, .int .u8 a4, .int .u8 a5, .int .u8 b0, .int .u8 b1, .int .u8 b2, .int .u8 b3, .int .u8 b4, .int .u8 b5, .int .i64 ty, .string s]] w (Told (rd ty (bts s)) w) := by
  unfold rd
  by_cases h1 : ty = 2054
  · rw [if_pos h1]
    exact read_arp a0 a1 a2 a3 a4 a5 b0 b1 b2 b3 b4 b5 ty s w _ _ _ _ _ _ _ _ _ _ _ h1 hG (fun W hW => readArp_any s W hs)
  · rw [if_neg h1]
    by_cases h2 : ty = 34525
    · rw [if_pos h2]
      exact read_nd a0 a1 a2 a3 a4 a5 b0 b1 b2 b3 b4 b5 ty s w _ _ _ _ _ _ _ _ _ _ _ h2 hG (fun W hW => readNd_any s W hs hW)
    · rw [if_neg h2]
      exact read_else a0 a1 a2 a3 a4 a5 b0 b1 b2 b3 b4 b5 ty s w h1 h2
end

end Go.Proofs.YtdoefjhdipkkeaaDoor
