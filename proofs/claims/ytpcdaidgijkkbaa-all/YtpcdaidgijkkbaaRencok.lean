/-
  What outriderref06.Encode does, of an advertisement.
-/
import Derived.Test.YtpcdaidgijkkbaaRenc
namespace Go.Proofs.Ytpcdaidgijkkbaa
open Go.RowKit
set_option linter.unusedVariables false
set_option maxRecDepth 40000

def ERel (ss : List ByteArray) (f : ByteArray) (n : Nat) (W2 : World) (N : Nat) (gg : Nat) (v x : Value) (wr : World) : Prop :=
  ∃ (k : Nat) (B : ByteArray), k + gg = n ∧ v = .string B ∧ x = .int .i64 (k : Int) ∧ Hid (bts B = joined (ss.take k)) ∧ (∀ s ∈ ss.take k, s.size = f.size) ∧ B.size ≤ k * 16 ∧ Hid (Below N W2 wr)

section
variable {f : ByteArray} {i p e : Int} {A : Option Addr} {n c : Nat} {ss : List ByteArray} {w : World}
set_option maxHeartbeats 4000000 in
theorem renc_ok (hS : Strs w A n c ss) (h : okA f i p e ss = true) :
    Calls Try.prog 33 #[.agg #[.int .i64 i, .int .i64 p, .int .i64 e, .slice A n c], .string f] w fun r w' => r = .returned (.tuple #[.agg #[.string f, .string (toA f), .int .i64 112, .int .i64 255, .string (bodyS f i p e ss)], .int .i64 0]) ∧ Below w.heap.size w w' := by
  obtain ⟨g1, g2, g3, g4, g5, g6⟩ := okA_all h
  have hl : ss.length = n := hS.1
  have hf : f.size ≤ 140737488351232 := by omega
  have hr : rightB f = true := by simpa [rightB] using g1
  have HOK := Lib.hid h
  obtain ⟨t, hT⟩ : ∃ t, toA f = t := ⟨_, rfl⟩
  obtain ⟨BB, hBT⟩ : ∃ BB, bodyS f i p e ss = BB := ⟨_, rfl⟩
  rw [hT, hBT]
  have HT := Lib.hid hT
  have HBT := Lib.hid hBT
  clear hT hBT
  rw [hl] at g5
  have HL := Lib.hid hl
  have HALL := Lib.hid g6
  have hf16 : f.size = 4 ∨ f.size = 16 := by simpa [rightB] using hr
  have HRT := Lib.hid (fun w => rright_any f w hf)
  rw [hr] at HRT
  have t0 : decide (i < 1) = false := decide_eq_false (by omega)
  have t1 : decide (255 < i) = false := decide_eq_false (by omega)
  have t2 : decide (p < 0) = false := decide_eq_false (by omega)
  have t3 : decide (255 < p) = false := decide_eq_false (by omega)
  have t4 : decide (e < 1) = false := decide_eq_false (by omega)
  have t5 : decide (4095 < e) = false := decide_eq_false (by omega)
  have t6 : decide ((n : Int) < 1) = false := decide_eq_false (by omega)
  have t7 : decide (8 < (n : Int)) = false := decide_eq_false (by omega)
  have HZ := Lib.hid hS.2.2.2.1
  obtain ⟨b, off, eA, hc⟩ := hS.2.2.2.2 (by omega)
  subst eA
  have HC := Lib.hid hc
  have n8 : n ≤ 8 := g5.2
  have hbl : b < w.heap.size := by
    have h0 : 0 < ss.length := by omega
    exact World.block_lt_of_cell? _ _ (hc 0 ss[0] (List.getElem?_eq_getElem h0))
  obtain ⟨sa, hsa⟩ : ∃ S, strOfNums [49, i, p, (n : Int), e / 256, e % 256] = S := ⟨_, rfl⟩
  have hby : Byt [49, i, p, (n : Int), e / 256, e % 256] := by intro x hx; simp at hx; omega
  have HSA := Lib.hid (show bts sa = [49, i, p, (n : Int), e / 256, e % 256] by rw [← hsa, bts_strOfNums hby])
  have zsa : sa.size = 6 := by rw [← hsa, strOfNums_size]; rfl
  have hcv : (convert 87 9 (.slice (some ⟨w.heap.size + 1 + 1, 0, none⟩) 6 6)).run Try.prog (((w.alloc (.cells #[.int .i64 i, .int .i64 p, .int .i64 e, .slice (some ⟨b, off, none⟩) n c] 39)).alloc (.cells #[.string ⟨#[]⟩, .string ⟨#[]⟩, .int .i64 0, .int .i64 0, .string ⟨#[]⟩] 66)).alloc (.cells #[.int .u8 49, .int .u8 i, .int .u8 p, .int .u8 (n : Int), .int .u8 (e / 256), .int .u8 (e % 256)] 5)) = .ok (.string sa) (((w.alloc (.cells #[.int .i64 i, .int .i64 p, .int .i64 e, .slice (some ⟨b, off, none⟩) n c] 39)).alloc (.cells #[.string ⟨#[]⟩, .string ⟨#[]⟩, .int .i64 0, .int .i64 0, .string ⟨#[]⟩] 66)).alloc (.cells #[.int .u8 49, .int .u8 i, .int .u8 p, .int .u8 (n : Int), .int .u8 (e / 256), .int .u8 (e % 256)] 5)) := by
    rw [← hsa]
    exact convert_part ((own_lit ((w.alloc (.cells #[.int .i64 i, .int .i64 p, .int .i64 e, .slice (some ⟨b, off, none⟩) n c] 39)).alloc (.cells #[.string ⟨#[]⟩, .string ⟨#[]⟩, .int .i64 0, .int .i64 0, .string ⟨#[]⟩] 66)) w.heap.size (w.heap.size + 1 + 1) [49, i, p, (n : Int), e / 256, e % 256] (by simp; omega) (by simp) (by simp)).part hby) 9 Try.underlying9
  have HB3 : Hid (Below (w.heap.size + 1 + 1) ((w.alloc (.cells #[.int .i64 i, .int .i64 p, .int .i64 e, .slice (some ⟨b, off, none⟩) n c] 39)).alloc (.cells #[.string ⟨#[]⟩, .string ⟨#[]⟩, .int .i64 0, .int .i64 0, .string ⟨#[]⟩] 66)) (((w.alloc (.cells #[.int .i64 i, .int .i64 p, .int .i64 e, .slice (some ⟨b, off, none⟩) n c] 39)).alloc (.cells #[.string ⟨#[]⟩, .string ⟨#[]⟩, .int .i64 0, .int .i64 0, .string ⟨#[]⟩] 66)).alloc (.cells #[.int .u8 49, .int .u8 i, .int .u8 p, .int .u8 (n : Int), .int .u8 (e / 256), .int .u8 (e % 256)] 5))) := Lib.hid ((Below.refl _ _).alloc (by simp) _)
  have HX : Hid ((((w.alloc (.cells #[.int .i64 i, .int .i64 p, .int .i64 e, .slice (some ⟨b, off, none⟩) n c] 39)).alloc (.cells #[.string ⟨#[]⟩, .string ⟨#[]⟩, .int .i64 0, .int .i64 0, .string ⟨#[]⟩] 66)).cell? ⟨w.heap.size, 0, none⟩ = some (.int .i64 i) ∧ ((w.alloc (.cells #[.int .i64 i, .int .i64 p, .int .i64 e, .slice (some ⟨b, off, none⟩) n c] 39)).alloc (.cells #[.string ⟨#[]⟩, .string ⟨#[]⟩, .int .i64 0, .int .i64 0, .string ⟨#[]⟩] 66)).cell? ⟨w.heap.size, 1, none⟩ = some (.int .i64 p) ∧ ((w.alloc (.cells #[.int .i64 i, .int .i64 p, .int .i64 e, .slice (some ⟨b, off, none⟩) n c] 39)).alloc (.cells #[.string ⟨#[]⟩, .string ⟨#[]⟩, .int .i64 0, .int .i64 0, .string ⟨#[]⟩] 66)).cell? ⟨w.heap.size, 2, none⟩ = some (.int .i64 e) ∧ ((w.alloc (.cells #[.int .i64 i, .int .i64 p, .int .i64 e, .slice (some ⟨b, off, none⟩) n c] 39)).alloc (.cells #[.string ⟨#[]⟩, .string ⟨#[]⟩, .int .i64 0, .int .i64 0, .string ⟨#[]⟩] 66)).cell? ⟨w.heap.size, 3, none⟩ = some (.slice (some ⟨b, off, none⟩) n c)) ∧ Boxed ((w.alloc (.cells #[.int .i64 i, .int .i64 p, .int .i64 e, .slice (some ⟨b, off, none⟩) n c] 39)).alloc (.cells #[.string ⟨#[]⟩, .string ⟨#[]⟩, .int .i64 0, .int .i64 0, .string ⟨#[]⟩] 66)) (w.heap.size + 1) ⟨#[]⟩ ⟨#[]⟩ 0 0 ⟨#[]⟩ ∧ Free ((w.alloc (.cells #[.int .i64 i, .int .i64 p, .int .i64 e, .slice (some ⟨b, off, none⟩) n c] 39)).alloc (.cells #[.string ⟨#[]⟩, .string ⟨#[]⟩, .int .i64 0, .int .i64 0, .string ⟨#[]⟩] 66)) (w.heap.size + 1)) :=
    Lib.hid ⟨by simp [go_sem], by simpa using Boxed.new (w.alloc (.cells #[.int .i64 i, .int .i64 p, .int .i64 e, .slice (some ⟨b, off, none⟩) n c] 39)) ⟨#[]⟩ ⟨#[]⟩ 0 0 ⟨#[]⟩, by simpa using Free.new (w.alloc (.cells #[.int .i64 i, .int .i64 p, .int .i64 e, .slice (some ⟨b, off, none⟩) n c] 39)) _ _⟩
  have HB0 : Hid (Below w.heap.size w ((w.alloc (.cells #[.int .i64 i, .int .i64 p, .int .i64 e, .slice (some ⟨b, off, none⟩) n c] 39)).alloc (.cells #[.string ⟨#[]⟩, .string ⟨#[]⟩, .int .i64 0, .int .i64 0, .string ⟨#[]⟩] 66))) := Lib.hid (((Below.refl _ _).alloc (Nat.le_refl _) _).alloc (by simp) _)
  have HCC : Hid (∀ j s, ss[j]? = some s → ((w.alloc (.cells #[.int .i64 i, .int .i64 p, .int .i64 e, .slice (some ⟨b, off, none⟩) n c] 39)).alloc (.cells #[.string ⟨#[]⟩, .string ⟨#[]⟩, .int .i64 0, .int .i64 0, .string ⟨#[]⟩] 66)).cell? ⟨b, off + j, none⟩ = some (.string s)) := Lib.hid fun j s hj => (HB0.out.cell (p := ⟨b, off + j, none⟩) hbl).trans (hc j s hj)
  clear hS hc hsa hby hl g6 h
  go_enter Try.func33, Try.ntmps33
  go_wp2_with (go_at_call 58; refine (HRT.out _).mono ?_; rintro e w' ⟨rfl, rfl⟩)
  go_loopg [7, 8] n (fun gg v x wr => ERel ss f n ((w.alloc (.cells #[.int .i64 i, .int .i64 p, .int .i64 e, .slice (some ⟨b, off, none⟩) n c] 39)).alloc (.cells #[.string ⟨#[]⟩, .string ⟨#[]⟩, .int .i64 0, .int .i64 0, .string ⟨#[]⟩] 66)) (w.heap.size + 1 + 1) gg v x wr)
  case atStart => exact ⟨0, ⟨#[]⟩, by omega, rfl, rfl, Lib.hid rfl, by simp, Nat.zero_le _, HB3⟩
  case round =>
    obtain ⟨k, B, hk, rfl, rfl, hB, hall, hBz, hW⟩ := hrel
    obtain ⟨⟨y0, y1, y2, y3⟩, ⟨r0, r1, r2, r3, r4⟩, rf⟩ := HX.out
    have y3' := (hW.out.cell (p := ⟨w.heap.size, 3, none⟩) (by simp; omega)).trans y3
    have hbx : Boxed wr (w.heap.size + 1) ⟨#[]⟩ ⟨#[]⟩ 0 0 ⟨#[]⟩ := Boxed.below ⟨r0, r1, r2, r3, r4⟩ hW.out (by omega)
    have hfr : Free wr (w.heap.size + 1) := Free.below rf hW.out (by omega)
    have HBX := Lib.hid hbx
    obtain ⟨q0, q1, q2, q3, q4⟩ := hbx
    have qf : ∀ o, wr.frozen? ⟨w.heap.size + 1, o, none⟩ = false := hfr
    have ql : w.heap.size + 1 < wr.heap.size := World.block_lt_of_cell? _ _ q0
    have HALK := Lib.hid hall
    clear y0 y1 y2 y3 r0 r1 r2 r3 r4 rf hfr hall
    by_cases hlt : k < n
    · have hk' : k < ss.length := by rw [HL.out]; exact hlt
      obtain ⟨s, hs⟩ : ∃ s, ss[k]? = some s := ⟨_, List.getElem?_eq_getElem hk'⟩
      have c1 : wr.cell? ⟨b, off + k, none⟩ = some (.string s) := (hW.out.cell (p := ⟨b, off + k, none⟩) (by simp; omega)).trans (HCC.out k s hs)
      have hz := HZ.out s (List.mem_of_getElem? hs)
      have HS := Lib.hid hs
      have hkn : (k : Int) < (n : Int) := by omega
      clear hs hk'
      by_cases he : s.size = f.size
      · have e1 : ((s.size : Int) != (f.size : Int)) = false := by simp; omega
        obtain ⟨B2, hB2⟩ : ∃ B2, B ++ s = B2 := ⟨_, rfl⟩
        have zB2 : (B ++ s).size ≤ (k + 1) * 16 := by rw [ByteArray.size_append]; omega
        have zB2' : B2.size ≤ (k + 1) * 16 := by rw [← hB2]; exact zB2
        have zBn : B2.size ≤ 128 := by omega
        have zBs : B.size + s.size ≤ 128 := by rw [ByteArray.size_append] at zB2; omega
        have HB2 := Lib.hid hB2
        clear zB2
        go_wp2
        go_roundg (n - (k + 1))
        case measure => omega
        case rel =>
          refine ⟨k + 1, B2, by omega, by simp, by simp, Lib.hid ?_, ?_, zB2', hW⟩
          · rw [← HB2.out, bts_append, hB.out, List.take_add_one, HS.out]
            simp [joined]
          · intro x hx
            rw [List.take_add_one, HS.out] at hx
            simp at hx
            rcases hx with hx | rfl
            · exact HALK.out x hx
            · exact he
      · exact absurd (HALL.out s (List.mem_of_getElem? HS.out)) he
    · have hkn : ¬ ((k : Int) < (n : Int)) := by omega
      obtain ⟨bq, hbq⟩ : ∃ bq, decide (f.size = 16) = bq := ⟨_, rfl⟩
      have hbq2 : ((f.size : Int) == 16) = bq := by rw [← hbq, Bool.eq_iff_iff]; simp; omega
      have HG := Lib.hid (rgroup_any bq)
      have htA : toA f = t := HT.out
      have ht : grp bq = t := by rw [← htA, toA, hbq]
      rw [ht] at HG
      have htz : t.size ≤ 140737488351232 := by rw [← ht, grp_size]; split <;> omega
      have hBj : bts B = joined ss := by have h := hB.out; rw [List.take_of_length_le (by rw [HL.out]; omega)] at h; exact h
      have hBs : B.size = n * f.size := by have h := congrArg List.length hBj; rw [bts_len, joined_len ss f.size HALL.out, HL.out] at h; exact h
      have hb128 : B.size ≤ 128 := by omega
      have z0 : (sa ++ ⟨#[0, 0]⟩).size = 8 := by rw [ByteArray.size_append, zsa]; rfl
      obtain ⟨B0, hB0⟩ : ∃ B0, sa ++ ⟨#[0, 0]⟩ ++ B = B0 := ⟨_, rfl⟩
      have zB0 : B0.size = 8 + n * f.size := by rw [← hB0, ByteArray.size_append, z0, hBs]
      have bB0 : bts B0 = bodyL i p e ss 0 0 := by
        rw [← hB0, bts_append, bts_append, HSA.out, hBj, bodyL, HL.out]
        rfl
      obtain ⟨v, hv⟩ : ∃ v, fd (tot (psx f t 112 (B0.size : Int) ++ bts B0)) = v := ⟨_, rfl⟩
      have hvb : 0 ≤ v ∧ v ≤ 65535 := by rw [← hv]; exact fd_bd _
      have HR := Lib.hid (fun w => rsum_pk f t B0 v w hf htz (by omega) hv)
      obtain ⟨u, hu⟩ : ∃ u, 65535 - v = u := ⟨_, rfl⟩
      have hub : 0 ≤ u ∧ u ≤ 65535 := by omega
      have hus : sumA f i p e ss = u := by
        rw [sumA, ← hu, ← hv, bB0, zB0, HL.out]
        show 65535 - fd (tot (psx f (toA f) 112 _ ++ _)) = _
        rw [htA]
      have wu : IntKind.i64.wrap u = u := by rw [IntKind.wrap_i64]; omega
      obtain ⟨sv, hsv⟩ : ∃ S, strOfNums [u / 256, u % 256] = S := ⟨_, rfl⟩
      have hby : Byt [u / 256, u % 256] := by intro x hx; simp at hx; omega
      have zsv : sv.size = 2 := by rw [← hsv, strOfNums_size]; rfl
      have bsv : bts sv = [u / 256, u % 256] := by rw [← hsv, bts_strOfNums hby]
      have z1 : (sa ++ sv).size = 8 := by rw [ByteArray.size_append, zsa, zsv]
      have hBB : sa ++ sv ++ B = BB := by
        rw [← HBT.out]
        symm
        apply bts_inj
        rw [bodyS_bts HOK.out, bts_append, bts_append, HSA.out, hBj, bsv, wireA, hus, bodyL, HL.out]
        rfl
      have zBB : BB.size = 8 + n * f.size := by rw [← hBB, ByteArray.size_append, z1, hBs]
      have HSV := Lib.hid hsv
      have HBY := Lib.hid hby
      have HU := Lib.hid hu
      have HB0R := Lib.hid hB0
      have HBBR := Lib.hid hBB
      have HWU := Lib.hid wu
      have HZ0 := Lib.hid z0
      have HZ1 := Lib.hid z1
      clear hus hv bB0 hBj htA ht hsv hby bsv hB hBs zB0 zBB hu hB0 hBB wu z0 z1 hbq HBT
      go_wp2_with fail
      refine (HG.out _).mono ?_
      rintro r w4 ⟨rfl, hb4⟩
      have HW4 := Lib.hid (hW.out.trans (hb4.out.mono (by omega)))
      have n4 := HW4.out.size
      clear hb4 q0 q1 q2 q3 q4 qf ql y3'
      have hB0 := HB0R.out
      have z0 := HZ0.out
      go_wp2_with fail
      refine (HR.out _).mono ?_
      rintro r w5 ⟨rfl, hb5⟩
      clear hB0 z0
      have hu := HU.out
      have wu := HWU.out
      have hBB := HBBR.out
      have z1 := HZ1.out
      have HW5 := Lib.hid (HW4.out.trans (hb5.mono (by simp at n4; omega)))
      obtain ⟨-, ⟨r0, r1, r2, r3, r4⟩, rf⟩ := HX.out
      have hbx : Boxed w5 (w.heap.size + 1) ⟨#[]⟩ ⟨#[]⟩ 0 0 ⟨#[]⟩ := Boxed.below ⟨r0, r1, r2, r3, r4⟩ HW5.out (by omega)
      have hfr : Free w5 (w.heap.size + 1) := Free.below rf HW5.out (by omega)
      obtain ⟨q0, q1, q2, q3, q4⟩ := hbx
      have qf : ∀ o, w5.frozen? ⟨w.heap.size + 1, o, none⟩ = false := hfr
      have ql : w.heap.size + 1 < w5.heap.size := World.block_lt_of_cell? _ _ q0
      have HB5 := Lib.hid (HB0.out.trans (HW5.out.mono (by omega)))
      clear r0 r1 r2 r3 r4 rf hfr hb5
      have hcv2 : (convert 87 9 (.slice (some ⟨w5.heap.size, 0, none⟩) 2 2)).run Try.prog (w5.alloc (.cells #[.int .u8 (u / 256), .int .u8 (u % 256)] 5)) = .ok (.string sv) (w5.alloc (.cells #[.int .u8 (u / 256), .int .u8 (u % 256)] 5)) := by
        rw [← HSV.out]
        exact convert_part ((own_lit w5 w5.heap.size w5.heap.size [u / 256, u % 256] (Nat.le_refl _) rfl (by simp)).part HBY.out) 9 Try.underlying9
      go_wp2
      exact bodyPost_ret (v := .tuple #[.agg #[.string f, .string t, .int .i64 112, .int .i64 255, .string BB], .int .i64 0]) (by simp [results, Try.results33, go_sem, *]) rfl ⟨rfl, (below5 HB5.out (by omega)).alloc (by simp; omega) _⟩

end
end Go.Proofs.Ytpcdaidgijkkbaa
