/-
  What is read of what was written.
-/
import Derived.Test.YtdoefjhdipkkeaaDoorReadBase
import Derived.Test.YtdoefjhdipkkeaaDoorSendNd
import Derived.Test.YtdoefjhdipkkeaaDoorWire
namespace Go.Proofs.YtdoefjhdipkkeaaDoor
open Go.RowKit
set_option linter.unusedVariables false
set_option maxRecDepth 10000


set_option linter.unusedSectionVars false
/-- An ARP is read, whatever stands behind it. -/
theorem rdArp_arpB (k : Int) (m0 m1 m2 m3 m4 m5 : Int) (s : ByteArray) (o0 o1 o2 o3 o4 o5 : Int) (t : ByteArray) (more : List Int) (hk : k = 1 ∨ k = 2) (h1 : s.size = 4) (h2 : t.size = 4) :
    rdArp (arpB k [m0, m1, m2, m3, m4, m5] s [o0, o1, o2, o3, o4, o5] t ++ more) = (⟨k, m0, m1, m2, m3, m4, m5, s, t, decide (k = 2)⟩, 0) := by
  obtain ⟨c0, c1, c2, c3, rfl⟩ := E.text4 s h1
  obtain ⟨d0, d1, d2, d3, rfl⟩ := E.text4 t h2
  have hl : ¬ (arpB k [m0, m1, m2, m3, m4, m5] ⟨#[c0, c1, c2, c3]⟩ [o0, o1, o2, o3, o4, o5] ⟨#[d0, d1, d2, d3]⟩ ++ more).length < 28 := by rw [List.length_append, arpB_len]; simp; omega
  have e1 : seg (arpB k [m0, m1, m2, m3, m4, m5] ⟨#[c0, c1, c2, c3]⟩ [o0, o1, o2, o3, o4, o5] ⟨#[d0, d1, d2, d3]⟩ ++ more) 14 4 = ⟨#[c0, c1, c2, c3]⟩ := strOfNums_bts ⟨#[c0, c1, c2, c3]⟩
  have e2 : seg (arpB k [m0, m1, m2, m3, m4, m5] ⟨#[c0, c1, c2, c3]⟩ [o0, o1, o2, o3, o4, o5] ⟨#[d0, d1, d2, d3]⟩ ++ more) 24 4 = ⟨#[d0, d1, d2, d3]⟩ := strOfNums_bts ⟨#[d0, d1, d2, d3]⟩
  have e7 : byteAt (arpB k [m0, m1, m2, m3, m4, m5] ⟨#[c0, c1, c2, c3]⟩ [o0, o1, o2, o3, o4, o5] ⟨#[d0, d1, d2, d3]⟩ ++ more) 7 = k := rfl
  unfold rdArp
  rw [if_neg hl, if_neg (show ¬ List.take 7 (arpB k [m0, m1, m2, m3, m4, m5] ⟨#[c0, c1, c2, c3]⟩ [o0, o1, o2, o3, o4, o5] ⟨#[d0, d1, d2, d3]⟩ ++ more) ≠ [0, 1, 8, 0, 6, 4, 0] from fun h => h rfl), e7, if_neg (show ¬ (k ≠ 1 ∧ k ≠ 2) by omega), e1, e2]
  rfl
/-- Cut, it says nothing. -/
theorem rdArp_cut (b : List Int) : rdArp (b.take 27) = (Nt.zero, 40) := by
  unfold rdArp
  rw [if_pos (by rw [List.length_take]; omega)]

theorem good_nd (f t : ByteArray) (f0 f1 fl : Int) (g : ByteArray) (f2 f3 : Int) (m : List Int) (hf : f.size = 16) (ht : t.size = 16) (h0 : Byt [f0, f1, f2, f3]) (hp : 0 < f0) (hl : 0 ≤ fl ∧ fl ≤ 255) (hm : Byt m) :
    fd (tot (pseu f t 58 32 ++ ndS f t f0 f1 fl g f2 f3 m)) = 65535 := by
  have hb : Byt (ndB f0 f1 0 0 fl g f2 f3 m) := ndB_byt (Byt.cons (h0 _ (by simp)) (Byt.cons (h0 _ (by simp)) (byt_of rfl))) hl (Byt.cons (h0 _ (by simp)) (Byt.cons (h0 _ (by simp)) Byt.nil)) hm
  have e : ∀ hi lo : Int, tot (pseu f t 58 32 ++ ndB f0 f1 hi lo fl g f2 f3 m) = tot (pseu f t 58 32) + ((f0 * 256 + f1) + ((hi * 256 + lo) + tot (ndR fl g f2 f3 m))) := fun hi lo => by
    rw [tot_append_even _ _ (by rw [pseu_len f t 58 32 hf ht])]
    simp [ndB, tot, Int.add_assoc]
  have p1 := (tot_bd _ (pseu_byt f t 58 32)).1
  have p2 := (tot_bd _ (ndR_byt hl (Byt.cons (h0 _ (by simp)) (Byt.cons (h0 _ (by simp)) Byt.nil)) hm : Byt (ndR fl g f2 f3 m))).1
  have p3 := h0 f1 (by simp)
  have hv : ndV f t f0 f1 fl g f2 f3 m = 65535 - fd (tot (pseu f t 58 32) + ((f0 * 256 + f1) + ((0 * 256 + 0) + tot (ndR fl g f2 f3 m)))) := by rw [ndV, e 0 0]
  obtain ⟨b1, b2⟩ := ndV_bd f t f0 f1 fl g f2 f3 m
  rw [ndS, e]
  generalize ndV f t f0 f1 fl g f2 f3 m = v at *
  generalize tot (pseu f t 58 32) = x at *
  generalize tot (ndR fl g f2 f3 m) = y at *
  have q := fd_mod (n := x + ((f0 * 256 + f1) + ((0 * 256 + 0) + y)))
  have q2 := fd_bd (x + ((f0 * 256 + f1) + ((0 * 256 + 0) + y)))
  have r := fd_mod (n := x + ((f0 * 256 + f1) + ((v / 256 * 256 + v % 256) + y)))
  have r2 := fd_bd (x + ((f0 * 256 + f1) + ((v / 256 * 256 + v % 256) + y)))
  have r3 := fd_pos (n := x + ((f0 * 256 + f1) + ((v / 256 * 256 + v % 256) + y))) (by omega)
  omega

section
variable (f t : ByteArray) (fl : Int) (g : ByteArray) (m0 m1 m2 m3 m4 m5 : Int) (hf : f.size = 16) (ht : t.size = 16) (hg : g.size = 16) (hl : 0 ≤ fl ∧ fl ≤ 255) (hm : Byt [m0, m1, m2, m3, m4, m5])
include hf ht hg hl hm
theorem rdV6_wire (f0 f1 f2 f3 : Int) (h0 : Byt [f0, f1, f2, f3]) : rdV6 (wire f t 58 255 (strOfNums (ndS f t f0 f1 fl g f2 f3 [m0, m1, m2, m3, m4, m5]))) = rdNd ⟨f, t, 58, 255, strOfNums (ndS f t f0 f1 fl g f2 f3 [m0, m1, m2, m3, m4, m5])⟩ := by
  have h := dec_wire f t 58 255 (strOfNums (ndS f t f0 f1 fl g f2 f3 [m0, m1, m2, m3, m4, m5])) [] (nd_okp f t f0 f1 fl g f2 f3 m0 m1 m2 m3 m4 m5 hf ht hg)
  rw [List.append_nil] at h
  unfold rdV6
  rw [h]
  rfl
theorem ndS_byt (f0 f1 f2 f3 : Int) (h0 : Byt [f0, f1, f2, f3]) : Byt (ndS f t f0 f1 fl g f2 f3 [m0, m1, m2, m3, m4, m5]) := by
  obtain ⟨b1, b2⟩ := ndV_bd f t f0 f1 fl g f2 f3 [m0, m1, m2, m3, m4, m5]
  exact ndB_byt (Byt.cons (h0 _ (by simp)) (Byt.cons (h0 _ (by simp)) (Byt.cons (by omega) (Byt.cons (by omega) Byt.nil)))) hl (Byt.cons (h0 _ (by simp)) (Byt.cons (h0 _ (by simp)) Byt.nil)) hm
theorem rd_ask : rdV6 (wire f t 58 255 (strOfNums (ndS f t 135 0 fl g 1 1 [m0, m1, m2, m3, m4, m5]))) = (⟨1, m0, m1, m2, m3, m4, m5, f, g, false⟩, 0) := by
  have h0 : Byt [135, 0, 1, 1] := byt_of rfl
  rw [rdV6_wire f t fl g m0 m1 m2 m3 m4 m5 hf ht hg hl hm _ _ _ _ h0]
  have hb := ndS_byt f t fl g m0 m1 m2 m3 m4 m5 hf ht hg hl hm _ _ _ _ h0
  have hs := good_nd f t 135 0 fl g 1 1 [m0, m1, m2, m3, m4, m5] hf ht h0 (by omega) hl hm
  obtain ⟨c0, c1, c2, c3, c4, c5, c6, c7, c8, c9, c10, c11, c12, c13, c14, c15, rfl⟩ := E.text16 g hg
  unfold rdNd
  rw [if_neg (by simp only; rw [ndS_size f t _ _ fl _ _ _ m0 m1 m2 m3 m4 m5 rfl, hf]; simp)]
  simp only
  rw [bts_strOfNums hb]
  rw [show isF (ndS f t 135 0 fl ⟨#[c0, c1, c2, c3, c4, c5, c6, c7, c8, c9, c10, c11, c12, c13, c14, c15]⟩ 1 1 [m0, m1, m2, m3, m4, m5]) 135 1 = true from rfl, show isF (ndS f t 135 0 fl ⟨#[c0, c1, c2, c3, c4, c5, c6, c7, c8, c9, c10, c11, c12, c13, c14, c15]⟩ 1 1 [m0, m1, m2, m3, m4, m5]) 136 2 = false from rfl, hs]
  rw [if_neg (by simp), if_neg (by simp), if_pos rfl, show seg (ndS f t 135 0 fl ⟨#[c0, c1, c2, c3, c4, c5, c6, c7, c8, c9, c10, c11, c12, c13, c14, c15]⟩ 1 1 [m0, m1, m2, m3, m4, m5]) 8 16 = ⟨#[c0, c1, c2, c3, c4, c5, c6, c7, c8, c9, c10, c11, c12, c13, c14, c15]⟩ from strOfNums_bts ⟨#[c0, c1, c2, c3, c4, c5, c6, c7, c8, c9, c10, c11, c12, c13, c14, c15]⟩]
  rfl
theorem rd_tell : rdV6 (wire f t 58 255 (strOfNums (ndS f t 136 0 fl g 2 1 [m0, m1, m2, m3, m4, m5]))) = (⟨2, m0, m1, m2, m3, m4, m5, g, t, decide (fl / 64 % 2 = 1)⟩, 0) := by
  have h0 : Byt [136, 0, 2, 1] := byt_of rfl
  rw [rdV6_wire f t fl g m0 m1 m2 m3 m4 m5 hf ht hg hl hm _ _ _ _ h0]
  have hb := ndS_byt f t fl g m0 m1 m2 m3 m4 m5 hf ht hg hl hm _ _ _ _ h0
  have hs := good_nd f t 136 0 fl g 2 1 [m0, m1, m2, m3, m4, m5] hf ht h0 (by omega) hl hm
  obtain ⟨c0, c1, c2, c3, c4, c5, c6, c7, c8, c9, c10, c11, c12, c13, c14, c15, rfl⟩ := E.text16 g hg
  unfold rdNd
  rw [if_neg (by simp only; rw [ndS_size f t _ _ fl _ _ _ m0 m1 m2 m3 m4 m5 rfl, hf]; simp)]
  simp only
  rw [bts_strOfNums hb]
  rw [show isF (ndS f t 136 0 fl ⟨#[c0, c1, c2, c3, c4, c5, c6, c7, c8, c9, c10, c11, c12, c13, c14, c15]⟩ 2 1 [m0, m1, m2, m3, m4, m5]) 135 1 = false from rfl, show isF (ndS f t 136 0 fl ⟨#[c0, c1, c2, c3, c4, c5, c6, c7, c8, c9, c10, c11, c12, c13, c14, c15]⟩ 2 1 [m0, m1, m2, m3, m4, m5]) 136 2 = true from rfl, hs]
  rw [if_neg (by simp), if_neg (by simp), if_neg (by simp), show seg (ndS f t 136 0 fl ⟨#[c0, c1, c2, c3, c4, c5, c6, c7, c8, c9, c10, c11, c12, c13, c14, c15]⟩ 2 1 [m0, m1, m2, m3, m4, m5]) 8 16 = ⟨#[c0, c1, c2, c3, c4, c5, c6, c7, c8, c9, c10, c11, c12, c13, c14, c15]⟩ from strOfNums_bts ⟨#[c0, c1, c2, c3, c4, c5, c6, c7, c8, c9, c10, c11, c12, c13, c14, c15]⟩]
  rfl
end

end Go.Proofs.YtdoefjhdipkkeaaDoor
