/-
  What outriderref06.Encode does, where an address is of another kind.
-/
import Derived.Test.YtpcdaidgijkkbaaRenc
namespace Go.Proofs.Ytpcdaidgijkkbaa
open Go.RowKit
set_option linter.unusedVariables false
set_option maxRecDepth 40000

def ERela (ss : List ByteArray) (f : ByteArray) (n : Nat) (W2 : World) (N : Nat) (gg : Nat) (v x : Value) (wr : World) : Prop :=
  ∃ (k : Nat) (B : ByteArray), k + gg = n ∧ v = .string B ∧ x = .int .i64 (k : Int) ∧ Hid (bts B = joined (ss.take k)) ∧ (∀ s ∈ ss.take k, s.size = f.size) ∧ B.size ≤ k * 16 ∧ Hid (Below N W2 wr)

section
variable {f : ByteArray} {i p e : Int} {A : Option Addr} {n c : Nat} {ss : List ByteArray} {w : World}
set_option maxHeartbeats 4000000 in
theorem renc_addr (hS : Strs w A n c ss) (hf : f.size ≤ 140737488351232) (hr : rightB f = true) (g2 : 1 ≤ i ∧ i ≤ 255) (g3 : 0 ≤ p ∧ p ≤ 255) (g4 : 1 ≤ e ∧ e ≤ 4095) (g5 : 1 ≤ ss.length ∧ ss.length ≤ 8) (g6 : ¬ ∀ s ∈ ss, s.size = f.size) : Calls Try.prog 33 #[.agg #[.int .i64 i, .int .i64 p, .int .i64 e, .slice A n c], .string f] w fun r w' => r = .returned (.tuple #[.agg #[.string ⟨#[]⟩, .string ⟨#[]⟩, .int .i64 0, .int .i64 0, .string ⟨#[]⟩], .int .i64 1]) ∧ Below w.heap.size w w' := by
  have hl : ss.length = n := hS.1
  rw [hl] at g5
  have HL := Lib.hid hl
  have HALL := Lib.hid g6
  have hf16 : f.size = 4 ∨ f.size = 16 := by simpa [rightB] using hr
  have HRT := Lib.hid (fun w => rright_any f w hf)
  rw [hr] at HRT
  have t0 : decide (i < 1) = false := decide_eq_false (by omega)
  have t1 : decide (255 < i) = false := decide_eq_false (by omega)
  have t2 : decide (p < 0) = false := decide_eq_false (by omega)
  have t3 : decide (255 < p) = false := decide_eq_false (by omega)
  have t4 : decide (e < 1) = false := decide_eq_false (by omega)
  have t5 : decide (4095 < e) = false := decide_eq_false (by omega)
  have t6 : decide ((n : Int) < 1) = false := decide_eq_false (by omega)
  have t7 : decide (8 < (n : Int)) = false := decide_eq_false (by omega)
  have HZ := Lib.hid hS.2.2.2.1
  obtain ⟨b, off, eA, hc⟩ := hS.2.2.2.2 (by omega)
  subst eA
  have HC := Lib.hid hc
  have n8 : n ≤ 8 := g5.2
  have hbl : b < w.heap.size := by
    have h0 : 0 < ss.length := by omega
    exact World.block_lt_of_cell? _ _ (hc 0 ss[0] (List.getElem?_eq_getElem h0))
  obtain ⟨sa, hsa⟩ : ∃ S, strOfNums [49, i, p, (n : Int), e / 256, e % 256] = S := ⟨_, rfl⟩
  have hby : Byt [49, i, p, (n : Int), e / 256, e % 256] := by intro x hx; simp at hx; omega
  have HSA := Lib.hid (show bts sa = [49, i, p, (n : Int), e / 256, e % 256] by rw [← hsa, bts_strOfNums hby])
  have zsa : sa.size = 6 := by rw [← hsa, strOfNums_size]; rfl
  have hcv : (convert 87 9 (.slice (some ⟨w.heap.size + 1 + 1, 0, none⟩) 6 6)).run Try.prog (((w.alloc (.cells #[.int .i64 i, .int .i64 p, .int .i64 e, .slice (some ⟨b, off, none⟩) n c] 39)).alloc (.cells #[.string ⟨#[]⟩, .string ⟨#[]⟩, .int .i64 0, .int .i64 0, .string ⟨#[]⟩] 66)).alloc (.cells #[.int .u8 49, .int .u8 i, .int .u8 p, .int .u8 (n : Int), .int .u8 (e / 256), .int .u8 (e % 256)] 5)) = .ok (.string sa) (((w.alloc (.cells #[.int .i64 i, .int .i64 p, .int .i64 e, .slice (some ⟨b, off, none⟩) n c] 39)).alloc (.cells #[.string ⟨#[]⟩, .string ⟨#[]⟩, .int .i64 0, .int .i64 0, .string ⟨#[]⟩] 66)).alloc (.cells #[.int .u8 49, .int .u8 i, .int .u8 p, .int .u8 (n : Int), .int .u8 (e / 256), .int .u8 (e % 256)] 5)) := by
    rw [← hsa]
    exact convert_part ((own_lit ((w.alloc (.cells #[.int .i64 i, .int .i64 p, .int .i64 e, .slice (some ⟨b, off, none⟩) n c] 39)).alloc (.cells #[.string ⟨#[]⟩, .string ⟨#[]⟩, .int .i64 0, .int .i64 0, .string ⟨#[]⟩] 66)) w.heap.size (w.heap.size + 1 + 1) [49, i, p, (n : Int), e / 256, e % 256] (by simp; omega) (by simp) (by simp)).part hby) 9 Try.underlying9
  have HB3 : Hid (Below (w.heap.size + 1 + 1) ((w.alloc (.cells #[.int .i64 i, .int .i64 p, .int .i64 e, .slice (some ⟨b, off, none⟩) n c] 39)).alloc (.cells #[.string ⟨#[]⟩, .string ⟨#[]⟩, .int .i64 0, .int .i64 0, .string ⟨#[]⟩] 66)) (((w.alloc (.cells #[.int .i64 i, .int .i64 p, .int .i64 e, .slice (some ⟨b, off, none⟩) n c] 39)).alloc (.cells #[.string ⟨#[]⟩, .string ⟨#[]⟩, .int .i64 0, .int .i64 0, .string ⟨#[]⟩] 66)).alloc (.cells #[.int .u8 49, .int .u8 i, .int .u8 p, .int .u8 (n : Int), .int .u8 (e / 256), .int .u8 (e % 256)] 5))) := Lib.hid ((Below.refl _ _).alloc (by simp) _)
  have HX : Hid ((((w.alloc (.cells #[.int .i64 i, .int .i64 p, .int .i64 e, .slice (some ⟨b, off, none⟩) n c] 39)).alloc (.cells #[.string ⟨#[]⟩, .string ⟨#[]⟩, .int .i64 0, .int .i64 0, .string ⟨#[]⟩] 66)).cell? ⟨w.heap.size, 0, none⟩ = some (.int .i64 i) ∧ ((w.alloc (.cells #[.int .i64 i, .int .i64 p, .int .i64 e, .slice (some ⟨b, off, none⟩) n c] 39)).alloc (.cells #[.string ⟨#[]⟩, .string ⟨#[]⟩, .int .i64 0, .int .i64 0, .string ⟨#[]⟩] 66)).cell? ⟨w.heap.size, 1, none⟩ = some (.int .i64 p) ∧ ((w.alloc (.cells #[.int .i64 i, .int .i64 p, .int .i64 e, .slice (some ⟨b, off, none⟩) n c] 39)).alloc (.cells #[.string ⟨#[]⟩, .string ⟨#[]⟩, .int .i64 0, .int .i64 0, .string ⟨#[]⟩] 66)).cell? ⟨w.heap.size, 2, none⟩ = some (.int .i64 e) ∧ ((w.alloc (.cells #[.int .i64 i, .int .i64 p, .int .i64 e, .slice (some ⟨b, off, none⟩) n c] 39)).alloc (.cells #[.string ⟨#[]⟩, .string ⟨#[]⟩, .int .i64 0, .int .i64 0, .string ⟨#[]⟩] 66)).cell? ⟨w.heap.size, 3, none⟩ = some (.slice (some ⟨b, off, none⟩) n c)) ∧ Boxed ((w.alloc (.cells #[.int .i64 i, .int .i64 p, .int .i64 e, .slice (some ⟨b, off, none⟩) n c] 39)).alloc (.cells #[.string ⟨#[]⟩, .string ⟨#[]⟩, .int .i64 0, .int .i64 0, .string ⟨#[]⟩] 66)) (w.heap.size + 1) ⟨#[]⟩ ⟨#[]⟩ 0 0 ⟨#[]⟩ ∧ Free ((w.alloc (.cells #[.int .i64 i, .int .i64 p, .int .i64 e, .slice (some ⟨b, off, none⟩) n c] 39)).alloc (.cells #[.string ⟨#[]⟩, .string ⟨#[]⟩, .int .i64 0, .int .i64 0, .string ⟨#[]⟩] 66)) (w.heap.size + 1)) :=
    Lib.hid ⟨by simp [go_sem], by simpa using Boxed.new (w.alloc (.cells #[.int .i64 i, .int .i64 p, .int .i64 e, .slice (some ⟨b, off, none⟩) n c] 39)) ⟨#[]⟩ ⟨#[]⟩ 0 0 ⟨#[]⟩, by simpa using Free.new (w.alloc (.cells #[.int .i64 i, .int .i64 p, .int .i64 e, .slice (some ⟨b, off, none⟩) n c] 39)) _ _⟩
  have HB0 : Hid (Below w.heap.size w ((w.alloc (.cells #[.int .i64 i, .int .i64 p, .int .i64 e, .slice (some ⟨b, off, none⟩) n c] 39)).alloc (.cells #[.string ⟨#[]⟩, .string ⟨#[]⟩, .int .i64 0, .int .i64 0, .string ⟨#[]⟩] 66))) := Lib.hid (((Below.refl _ _).alloc (Nat.le_refl _) _).alloc (by simp) _)
  have HCC : Hid (∀ j s, ss[j]? = some s → ((w.alloc (.cells #[.int .i64 i, .int .i64 p, .int .i64 e, .slice (some ⟨b, off, none⟩) n c] 39)).alloc (.cells #[.string ⟨#[]⟩, .string ⟨#[]⟩, .int .i64 0, .int .i64 0, .string ⟨#[]⟩] 66)).cell? ⟨b, off + j, none⟩ = some (.string s)) := Lib.hid fun j s hj => (HB0.out.cell (p := ⟨b, off + j, none⟩) hbl).trans (hc j s hj)
  clear hS hc hsa hby hl g6
  go_enter Try.func33, Try.ntmps33
  go_wp2_with (go_at_call 58; refine (HRT.out _).mono ?_; rintro e w' ⟨rfl, rfl⟩)
  go_loopg [7, 8] n (fun gg v x wr => ERela ss f n ((w.alloc (.cells #[.int .i64 i, .int .i64 p, .int .i64 e, .slice (some ⟨b, off, none⟩) n c] 39)).alloc (.cells #[.string ⟨#[]⟩, .string ⟨#[]⟩, .int .i64 0, .int .i64 0, .string ⟨#[]⟩] 66)) (w.heap.size + 1 + 1) gg v x wr)
  case atStart => exact ⟨0, ⟨#[]⟩, by omega, rfl, rfl, Lib.hid rfl, by simp, Nat.zero_le _, HB3⟩
  case round =>
    obtain ⟨k, B, hk, rfl, rfl, hB, hall, hBz, hW⟩ := hrel
    obtain ⟨⟨y0, y1, y2, y3⟩, ⟨r0, r1, r2, r3, r4⟩, rf⟩ := HX.out
    have y3' := (hW.out.cell (p := ⟨w.heap.size, 3, none⟩) (by simp; omega)).trans y3
    have hbx : Boxed wr (w.heap.size + 1) ⟨#[]⟩ ⟨#[]⟩ 0 0 ⟨#[]⟩ := Boxed.below ⟨r0, r1, r2, r3, r4⟩ hW.out (by omega)
    have hfr : Free wr (w.heap.size + 1) := Free.below rf hW.out (by omega)
    have HBX := Lib.hid hbx
    obtain ⟨q0, q1, q2, q3, q4⟩ := hbx
    have qf : ∀ o, wr.frozen? ⟨w.heap.size + 1, o, none⟩ = false := hfr
    have ql : w.heap.size + 1 < wr.heap.size := World.block_lt_of_cell? _ _ q0
    have HALK := Lib.hid hall
    clear y0 y1 y2 y3 r0 r1 r2 r3 r4 rf hfr hall
    by_cases hlt : k < n
    · have hk' : k < ss.length := by rw [HL.out]; exact hlt
      obtain ⟨s, hs⟩ : ∃ s, ss[k]? = some s := ⟨_, List.getElem?_eq_getElem hk'⟩
      have c1 : wr.cell? ⟨b, off + k, none⟩ = some (.string s) := (hW.out.cell (p := ⟨b, off + k, none⟩) (by simp; omega)).trans (HCC.out k s hs)
      have hz := HZ.out s (List.mem_of_getElem? hs)
      have HS := Lib.hid hs
      have hkn : (k : Int) < (n : Int) := by omega
      clear hs hk'
      by_cases he : s.size = f.size
      · have e1 : ((s.size : Int) != (f.size : Int)) = false := by simp; omega
        obtain ⟨B2, hB2⟩ : ∃ B2, B ++ s = B2 := ⟨_, rfl⟩
        have zB2 : (B ++ s).size ≤ (k + 1) * 16 := by rw [ByteArray.size_append]; omega
        have zB2' : B2.size ≤ (k + 1) * 16 := by rw [← hB2]; exact zB2
        have zBn : B2.size ≤ 128 := by omega
        have zBs : B.size + s.size ≤ 128 := by rw [ByteArray.size_append] at zB2; omega
        have HB2 := Lib.hid hB2
        clear zB2
        go_wp2
        go_roundg (n - (k + 1))
        case measure => omega
        case rel =>
          refine ⟨k + 1, B2, by omega, by simp, by simp, Lib.hid ?_, ?_, zB2', hW⟩
          · rw [← HB2.out, bts_append, hB.out, List.take_add_one, HS.out]
            simp [joined]
          · intro x hx
            rw [List.take_add_one, HS.out] at hx
            simp at hx
            rcases hx with hx | rfl
            · exact HALK.out x hx
            · exact he
      · have e1 : ((s.size : Int) != (f.size : Int)) = true := by simp; omega
        go_wp2
        exact bodyPost_ret (v := .tuple #[.agg #[.string ⟨#[]⟩, .string ⟨#[]⟩, .int .i64 0, .int .i64 0, .string ⟨#[]⟩], .int .i64 1]) (by simp [results, Try.results33, go_sem, *]) rfl ⟨rfl, below5 (HB0.out.trans (hW.out.mono (by omega))) (by omega)⟩
    · exact absurd (fun s hs => HALK.out s (by rw [List.take_of_length_le (by rw [HL.out]; omega)]; exact hs)) HALL.out

end
end Go.Proofs.Ytpcdaidgijkkbaa
