/-
  NeighBack's walk at every input.
-/
import Derived.Test.YtdoefjhdipkkeaaDoorBackWalk
namespace Go.Proofs.YtdoefjhdipkkeaaDoor
open Go.RowKit
set_option linter.unusedVariables false
set_option maxRecDepth 10000


set_option maxHeartbeats 4000000 in
theorem back_no (m0 m1 m2 m3 m4 m5 a0 a1 a2 a3 a4 a5 : Int) (f t : ByteArray) (w : World) (hG : Glob w) (hf : f.size ≤ 140737488351232) (ht : t.size ≤ 140737488351232) (h : alikeB f t = false) :
    Calls Tryd.prog 5 #[.agg #[.int .u8 m0, .int .u8 m1, .int .u8 m2, .int .u8 m3, .int .u8 m4, .int .u8 m5], .agg #[.int .u8 a0, .int .u8 a1, .int .u8 a2, .int .u8 a3, .int .u8 a4, .int .u8 a5], .agg #[.string f, .string t]] w fun e w' => e = .returned (.bool true) ∧ Below w.heap.size w w' := by
  have HG0 := Lib.hid (((hG.alloc (.cells #[.int .u8 m0, .int .u8 m1, .int .u8 m2, .int .u8 m3, .int .u8 m4, .int .u8 m5] 23)).alloc (.cells #[.int .u8 a0, .int .u8 a1, .int .u8 a2, .int .u8 a3, .int .u8 a4, .int .u8 a5] 23)).alloc (.cells #[.string f, .string t] 25))
  have HH := Lib.hid h
  clear h hG
  go_enter Tryd.func5, Tryd.ntmps5
  go_wp2_with fail
  refine (ask_no m0 m1 m2 m3 m4 m5 f t _ hf ht HH.out).mono ?_
  rintro e w1 ⟨rfl, hb1⟩
  have HG1 := Lib.hid (HG0.out.below hb1 HG0.out.size)
  have HB1 := Lib.hid (below_then ((((Below.refl w.heap.size w).alloc (Nat.le_refl _) (.cells #[.int .u8 m0, .int .u8 m1, .int .u8 m2, .int .u8 m3, .int .u8 m4, .int .u8 m5] 23)).alloc (by simp) (.cells #[.int .u8 a0, .int .u8 a1, .int .u8 a2, .int .u8 a3, .int .u8 a4, .int .u8 a5] 23)).alloc (by simp; omega) (.cells #[.string f, .string t] 25)) (by simp; omega) hb1)
  clear hb1
  go_wp2_with fail
  refine (alive_any _ HG1.out).mono ?_
  rintro e w2 ⟨rfl, hb2⟩
  have HB2 := Lib.hid (below_then HB1.out HB1.out.size hb2)
  clear hb2
  go_wp2
  go_ret
  exact ⟨rfl, HB2.out⟩
theorem rd_of_arp (k : Int) (m0 m1 m2 m3 m4 m5 : Int) (s : ByteArray) (o0 o1 o2 o3 o4 o5 : Int) (t : ByteArray) (hk : k = 1 ∨ k = 2) (hm : Byt [m0, m1, m2, m3, m4, m5]) (ho : Byt [o0, o1, o2, o3, o4, o5]) (h1 : s.size = 4) (h2 : t.size = 4) :
    rd 2054 (bts (strOfNums (arpB k [m0, m1, m2, m3, m4, m5] s [o0, o1, o2, o3, o4, o5] t))) = (⟨k, m0, m1, m2, m3, m4, m5, s, t, decide (k = 2)⟩, 0) := by
  rw [bts_strOfNums (arpB_byt (by omega) hm ho)]
  have h := rdArp_arpB k m0 m1 m2 m3 m4 m5 s o0 o1 o2 o3 o4 o5 t [] hk h1 h2
  rw [List.append_nil] at h
  exact h
theorem back_walk (m0 m1 m2 m3 m4 m5 a0 a1 a2 a3 a4 a5 : Int) (f t : ByteArray) (w : World) (hG : Glob w) (hm : Byt [m0, m1, m2, m3, m4, m5]) (ha : Byt [a0, a1, a2, a3, a4, a5]) (hf : f.size ≤ 140737488351232) (ht : t.size ≤ 140737488351232) :
    Calls Tryd.prog 5 #[.agg #[.int .u8 m0, .int .u8 m1, .int .u8 m2, .int .u8 m3, .int .u8 m4, .int .u8 m5], .agg #[.int .u8 a0, .int .u8 a1, .int .u8 a2, .int .u8 a3, .int .u8 a4, .int .u8 a5], .agg #[.string f, .string t]] w fun e w' => e = .returned (.bool true) ∧ Below w.heap.size w w' := by
  by_cases h : alikeB f t = true
  · obtain ⟨h1 | h1, h2⟩ := alike_sizes h
    · have h3 : t.size = 4 := by omega
      exact back_four m0 m1 m2 m3 m4 m5 a0 a1 a2 a3 a4 a5 255 255 255 255 255 255 255 255 255 255 255 255 2054 f t (strOfNums (arpB 1 [m0, m1, m2, m3, m4, m5] f [0, 0, 0, 0, 0, 0] t)) (strOfNums (arpB 2 [m0, m1, m2, m3, m4, m5] f [a0, a1, a2, a3, a4, a5] t)) (strOfNums (arpB 1 [m0, m1, m2, m3, m4, m5] f [0, 0, 0, 0, 0, 0] f)) w hG hm ha (byt_of rfl) (byt_of rfl) h1 (by omega) (by omega) (by rw [strOfNums_size, arpB_len]; simp; omega) (by rw [strOfNums_size, arpB_len]; simp; omega) (by rw [strOfNums_size, arpB_len]; simp; omega)
        (fun W _ => ask_four m0 m1 m2 m3 m4 m5 f t W hm h1 h3) (fun W _ => tell_four m0 m1 m2 m3 m4 m5 f a0 a1 a2 a3 a4 a5 t W hm ha h1 h3) (fun W _ => claim_four m0 m1 m2 m3 m4 m5 f W hm h1)
        (rd_of_arp 1 m0 m1 m2 m3 m4 m5 f 0 0 0 0 0 0 t (.inl rfl) hm (byt_of rfl) h1 h3) (rd_of_arp 2 m0 m1 m2 m3 m4 m5 f a0 a1 a2 a3 a4 a5 t (.inr rfl) hm ha h1 h3) (rd_of_arp 1 m0 m1 m2 m3 m4 m5 f 0 0 0 0 0 0 f (.inl rfl) hm (byt_of rfl) h1 h1)
    · have h3 : t.size = 16 := by omega
      have hn := near_size t h3
      have he : everyS.size = 16 := rfl
      have e1 := wire_byt (nd_okp f (near t) 135 0 0 t 1 1 m0 m1 m2 m3 m4 m5 h1 hn h3)
      have e2 := wire_byt (nd_okp f t 136 0 96 f 2 1 m0 m1 m2 m3 m4 m5 h1 h3 h1)
      have e3 := wire_byt (nd_okp f everyS 136 0 32 f 2 1 m0 m1 m2 m3 m4 m5 h1 he h1)
      exact back_six m0 m1 m2 m3 m4 m5 a0 a1 a2 a3 a4 a5 51 51 255 (byteAt (bts t) 13) (byteAt (bts t) 14) (byteAt (bts t) 15) 51 51 0 0 0 1 34525 f t (strOfNums (wire f (near t) 58 255 (strOfNums (ndS f (near t) 135 0 0 t 1 1 [m0, m1, m2, m3, m4, m5])))) (strOfNums (wire f t 58 255 (strOfNums (ndS f t 136 0 96 f 2 1 [m0, m1, m2, m3, m4, m5])))) (strOfNums (wire f everyS 58 255 (strOfNums (ndS f everyS 136 0 32 f 2 1 [m0, m1, m2, m3, m4, m5])))) everyS w hG hm ha (byt_near t) (byt_of rfl) h1 (by omega) (by omega) (by rw [strOfNums_size, wire_len (nd_okp f (near t) 135 0 0 t 1 1 m0 m1 m2 m3 m4 m5 h1 hn h3), ndS_size f (near t) 135 0 0 t 1 1 m0 m1 m2 m3 m4 m5 h3, if_pos h1]; omega) (by rw [strOfNums_size, wire_len (nd_okp f t 136 0 96 f 2 1 m0 m1 m2 m3 m4 m5 h1 h3 h1), ndS_size f t 136 0 96 f 2 1 m0 m1 m2 m3 m4 m5 h1, if_pos h1]; omega) (by rw [strOfNums_size, wire_len (nd_okp f everyS 136 0 32 f 2 1 m0 m1 m2 m3 m4 m5 h1 he h1), ndS_size f everyS 136 0 32 f 2 1 m0 m1 m2 m3 m4 m5 h1, if_pos h1]; omega)
        (fun W hW => ask_six m0 m1 m2 m3 m4 m5 f t W hW hm h1 h3) (fun W hW => tell_six m0 m1 m2 m3 m4 m5 f a0 a1 a2 a3 a4 a5 t W hW hm ha h1 h3) (fun W hW => claim_six m0 m1 m2 m3 m4 m5 f W hW hm h1)
        (by rw [bts_strOfNums e1]; exact rd_ask f (near t) 0 t m0 m1 m2 m3 m4 m5 h1 hn h3 (by omega) hm) (by rw [bts_strOfNums e2]; exact rd_tell f t 96 f m0 m1 m2 m3 m4 m5 h1 h3 h1 (by omega) hm) (by rw [bts_strOfNums e3]; exact rd_tell f everyS 32 f m0 m1 m2 m3 m4 m5 h1 he h1 (by omega) hm)
  · exact back_no m0 m1 m2 m3 m4 m5 a0 a1 a2 a3 a4 a5 f t w hG hf ht (by simpa using h)

end Go.Proofs.YtdoefjhdipkkeaaDoor
