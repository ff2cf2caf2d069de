/-
  The bytes of an ND and its sum, an ND in memory, neigh.pseudo.
-/
import Derived.Test.YtdoefjhdipkkeaaDoorSmall
import Derived.Test.YtdoefjhdipkkeaaDoorPseudo
namespace Go.Proofs.YtdoefjhdipkkeaaDoor
open Go.RowKit
set_option linter.unusedVariables false
set_option maxRecDepth 10000


/-- An ND, with the addresses of its packet, lies in a block. -/
def BoxL (W : World) (N : Nat) (f0 f1 f2 f3 fl : Int) (f t g : ByteArray) (m0 m1 m2 m3 m4 m5 : Int) : Prop :=
  W.cell? ⟨N, 0, none⟩ = some (.int .u8 f0) ∧ W.cell? ⟨N, 1, none⟩ = some (.int .u8 f1) ∧ W.cell? ⟨N, 2, none⟩ = some (.int .u8 f2) ∧ W.cell? ⟨N, 3, none⟩ = some (.int .u8 f3) ∧ W.cell? ⟨N, 4, none⟩ = some (.int .u8 fl) ∧ W.cell? ⟨N, 5, none⟩ = some (.string f) ∧ W.cell? ⟨N, 6, none⟩ = some (.string t) ∧ W.cell? ⟨N, 7, none⟩ = some (.string g) ∧ W.cell? ⟨N, 8, none⟩ = some (.int .u8 m0) ∧ W.cell? ⟨N, 9, none⟩ = some (.int .u8 m1) ∧ W.cell? ⟨N, 10, none⟩ = some (.int .u8 m2) ∧ W.cell? ⟨N, 11, none⟩ = some (.int .u8 m3) ∧ W.cell? ⟨N, 12, none⟩ = some (.int .u8 m4) ∧ W.cell? ⟨N, 13, none⟩ = some (.int .u8 m5)
theorem BoxL.below {W W' : World} {N B : Nat} {f0 f1 f2 f3 fl : Int} {f t g : ByteArray} {m0 m1 m2 m3 m4 m5 : Int} (h : BoxL W N f0 f1 f2 f3 fl f t g m0 m1 m2 m3 m4 m5) (hb : Below B W W') (hN : N < B) : BoxL W' N f0 f1 f2 f3 fl f t g m0 m1 m2 m3 m4 m5 := by
  obtain ⟨h0, h1, h2, h3, h4, h5, h6, h7, h8, h9, h10, h11, h12, h13⟩ := h
  exact ⟨(hb.cell hN).trans h0, (hb.cell hN).trans h1, (hb.cell hN).trans h2, (hb.cell hN).trans h3, (hb.cell hN).trans h4, (hb.cell hN).trans h5, (hb.cell hN).trans h6, (hb.cell hN).trans h7, (hb.cell hN).trans h8, (hb.cell hN).trans h9, (hb.cell hN).trans h10, (hb.cell hN).trans h11, (hb.cell hN).trans h12, (hb.cell hN).trans h13⟩
theorem BoxL.new (w : World) (f0 f1 f2 f3 fl : Int) (f t g : ByteArray) (m0 m1 m2 m3 m4 m5 : Int) : BoxL (w.alloc (.cells #[.int .u8 f0, .int .u8 f1, .int .u8 f2, .int .u8 f3, .int .u8 fl, .string f, .string t, .string g, .int .u8 m0, .int .u8 m1, .int .u8 m2, .int .u8 m3, .int .u8 m4, .int .u8 m5] 65)) w.heap.size f0 f1 f2 f3 fl f t g m0 m1 m2 m3 m4 m5 := by
  refine ⟨?_, ?_, ?_, ?_, ?_, ?_, ?_, ?_, ?_, ?_, ?_, ?_, ?_, ?_⟩ <;> simp [go_sem]
theorem part2 {W : World} {N o c : Nat} {a b : Int} (h0 : W.cell? ⟨N, o, none⟩ = some (.int .u8 a)) (h1 : W.cell? ⟨N, o + 1, none⟩ = some (.int .u8 b)) (ha : 0 ≤ a ∧ a ≤ 255) (hb : 0 ≤ b ∧ b ≤ 255) (hc : 2 ≤ c) : Part W ⟨some ⟨N, o, none⟩, 2, c, [a, b]⟩ := by
  refine ⟨rfl, hc, Byt.cons ha (Byt.cons hb Byt.nil), fun _ => ⟨N, o, rfl, fun j hj => ?_⟩⟩
  match j, hj with
  | 0, _ => exact h0
  | 1, _ => exact h1
theorem part6 {W : World} {N o : Nat} {m0 m1 m2 m3 m4 m5 : Int} (h0 : W.cell? ⟨N, o + 0, none⟩ = some (.int .u8 m0)) (h1 : W.cell? ⟨N, o + 1, none⟩ = some (.int .u8 m1)) (h2 : W.cell? ⟨N, o + 2, none⟩ = some (.int .u8 m2)) (h3 : W.cell? ⟨N, o + 3, none⟩ = some (.int .u8 m3)) (h4 : W.cell? ⟨N, o + 4, none⟩ = some (.int .u8 m4)) (h5 : W.cell? ⟨N, o + 5, none⟩ = some (.int .u8 m5)) (hm : Byt [m0, m1, m2, m3, m4, m5]) : Part W ⟨some ⟨N, o, none⟩, 6, 6, [m0, m1, m2, m3, m4, m5]⟩ := by
  refine ⟨rfl, Nat.le_refl _, hm, fun _ => ⟨N, o, rfl, fun j hj => ?_⟩⟩
  match j, hj with
  | 0, _ => exact h0
  | 1, _ => exact h1
  | 2, _ => exact h2
  | 3, _ => exact h3
  | 4, _ => exact h4
  | 5, _ => exact h5
section
variable {W : World} {N : Nat} {f0 f1 f2 f3 fl : Int} {f t g : ByteArray} {m0 m1 m2 m3 m4 m5 : Int}
theorem BoxL.conv1 (h : BoxL W N f0 f1 f2 f3 fl f t g m0 m1 m2 m3 m4 m5) (hf : Byt [f0, f1, f2, f3]) : (convert 26 9 (.slice (some ⟨N, 0, none⟩) 2 4)).run Tryd.prog W = .ok (.string (strOfNums [f0, f1])) W := by
  obtain ⟨h0, h1, h2, h3, h4, h5, h6, h7, h8, h9, h10, h11, h12, h13⟩ := h
  exact convert_part (part2 (o := 0) h0 h1 (hf _ (by simp)) (hf _ (by simp)) (by omega)) 9 Tryd.underlying9
theorem BoxL.conv2 (h : BoxL W N f0 f1 f2 f3 fl f t g m0 m1 m2 m3 m4 m5) (hf : Byt [f0, f1, f2, f3]) : (convert 26 9 (.slice (some ⟨N, 2, none⟩) 2 2)).run Tryd.prog W = .ok (.string (strOfNums [f2, f3])) W := by
  obtain ⟨h0, h1, h2, h3, h4, h5, h6, h7, h8, h9, h10, h11, h12, h13⟩ := h
  exact convert_part (part2 (o := 2) h2 h3 (hf _ (by simp)) (hf _ (by simp)) (by omega)) 9 Tryd.underlying9
theorem BoxL.conv3 (h : BoxL W N f0 f1 f2 f3 fl f t g m0 m1 m2 m3 m4 m5) (hm : Byt [m0, m1, m2, m3, m4, m5]) : (convert 26 9 (.slice (some ⟨N, 8, none⟩) 6 6)).run Tryd.prog W = .ok (.string (strOfNums [m0, m1, m2, m3, m4, m5])) W := by
  obtain ⟨h0, h1, h2, h3, h4, h5, h6, h7, h8, h9, h10, h11, h12, h13⟩ := h
  exact convert_part (part6 (o := 8) h8 h9 h10 h11 h12 h13 hm) 9 Tryd.underlying9
end
/-- What of an ND stands behind its sum. -/
def ndR (fl : Int) (g : ByteArray) (f2 f3 : Int) (m : List Int) : List Int := [fl, 0, 0, 0] ++ bts g ++ [f2, f3] ++ m
/-- The bytes of an ND. -/
def ndB (f0 f1 hi lo fl : Int) (g : ByteArray) (f2 f3 : Int) (m : List Int) : List Int := [f0, f1, hi, lo] ++ ndR fl g f2 f3 m
theorem ndR_len (fl : Int) (g : ByteArray) (f2 f3 : Int) (m : List Int) : (ndR fl g f2 f3 m).length = 6 + g.size + m.length := by simp [ndR, bts_len]; omega
theorem ndB_len (f0 f1 hi lo fl : Int) (g : ByteArray) (f2 f3 : Int) (m : List Int) : (ndB f0 f1 hi lo fl g f2 f3 m).length = 10 + g.size + m.length := by simp [ndB, ndR_len]; omega
theorem ndR_byt {fl : Int} {g : ByteArray} {f2 f3 : Int} {m : List Int} (h1 : 0 ≤ fl ∧ fl ≤ 255) (h2 : Byt [f2, f3]) (h3 : Byt m) : Byt (ndR fl g f2 f3 m) :=
  (((Byt.append (Byt.cons h1 Byt.nil) (byt_of rfl : Byt [0, 0, 0])).append (bts_byt g)).append h2).append h3
theorem ndB_byt {f0 f1 hi lo fl : Int} {g : ByteArray} {f2 f3 : Int} {m : List Int} (h0 : Byt [f0, f1, hi, lo]) (h1 : 0 ≤ fl ∧ fl ≤ 255) (h2 : Byt [f2, f3]) (h3 : Byt m) : Byt (ndB f0 f1 hi lo fl g f2 f3 m) := h0.append (ndR_byt h1 h2 h3)
/-- The sum of an ND. -/
def ndV (f t : ByteArray) (f0 f1 fl : Int) (g : ByteArray) (f2 f3 : Int) (m : List Int) : Int := 65535 - fd (tot (pseu f t 58 32 ++ ndB f0 f1 0 0 fl g f2 f3 m))
/-- The bytes of an ND with its sum. -/
def ndS (f t : ByteArray) (f0 f1 fl : Int) (g : ByteArray) (f2 f3 : Int) (m : List Int) : List Int := ndB f0 f1 (ndV f t f0 f1 fl g f2 f3 m / 256) (ndV f t f0 f1 fl g f2 f3 m % 256) fl g f2 f3 m
theorem pseu_len (f t : ByteArray) (p x : Int) (hf : f.size = 16) (ht : t.size = 16) : (pseu f t p x).length = 40 := by simp [pseu, hf, bts_len, ht]
theorem ndV_bd (f t : ByteArray) (f0 f1 fl : Int) (g : ByteArray) (f2 f3 : Int) (m : List Int) : 0 ≤ ndV f t f0 f1 fl g f2 f3 m ∧ ndV f t f0 f1 fl g f2 f3 m ≤ 65535 := by
  have := fd_bd (tot (pseu f t 58 32 ++ ndB f0 f1 0 0 fl g f2 f3 m))
  unfold ndV
  omega

theorem Parts.two {w : World} {gb : Nat} {p q : PartV} (hc : w.cell? ⟨gb, 0, none⟩ = some p.val) (hd : w.cell? ⟨gb, 1, none⟩ = some q.val) (hp : Part w p) (hq : Part w q) (hl : p.n ≤ 140737488355328) (hm : q.n ≤ 140737488355328) : Parts w gb [p, q] := by
  refine ⟨fun j r hr => ?_, fun r hr => ?_, by simp, ?_⟩
  · match j, hr with
    | 0, hr => simp at hr; subst hr; exact hc
    | 1, hr => simp at hr; subst hr; exact hd
  · simp at hr
    rcases hr with rfl | rfl
    · exact hp
    · exact hq
  · simp [flat, hp.1, hq.1]; omega

set_option maxHeartbeats 400000 in
/-- neigh.pseudo. -/
theorem npseudo_any (f t : ByteArray) (w : World) (hf : f.size = 16) (ht : t.size = 16) :
    Calls Tryd.prog 55 #[.string f, .string t] w fun e w' => ∃ g c, e = .returned (.slice (some ⟨g, 0, none⟩) 40 c) ∧ Hid (Own w' w.heap.size g 40 c (pseu f t 58 32)) ∧ Hid (Below w.heap.size w w') := by
  go_enter Tryd.func55, Tryd.ntmps55
  go_wp2_with fail
  refine (pseudo_six f t 58 32 _ (by omega) (by omega) hf ht).mono ?_
  rintro e w' ⟨g, c, rfl, ho, hb⟩
  go_wp2
  go_ret
  exact ⟨g, c, rfl, ho, hb⟩

end Go.Proofs.YtdoefjhdipkkeaaDoor
