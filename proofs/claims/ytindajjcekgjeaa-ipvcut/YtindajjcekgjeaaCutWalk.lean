/-
  The walk of IpvCut.
-/
import Derived.Test.YtindajjcekgjeaaFrameF
namespace Go.Proofs.Ytindajjcekgjeaa
open Go.ChangeShapes Go.WideShapes Go.ChangeAt Go.RowKit
set_option linter.unusedVariables false

attribute [local go_sem ↓] pk_eq

set_option maxHeartbeats 1000000 in
theorem cut_no (f t : ByteArray) (p l : Int) (s : ByteArray) (k : Int) (w : World) (hf : f.size ≤ 140737488351232) (ht : t.size ≤ 140737488351232) (hs : s.size ≤ 140737488351232) (h : ¬ Okp f t p l s) :
    Calls Try.prog 8 #[.agg #[.string f, .string t, .int .i64 p, .int .i64 l, .string s], .int .i64 k] w fun e w' => e = .returned (.bool true) ∧ Below w.heap.size w w' := by
  go_enter Try.func8, Try.ntmps8
  go_wp2_with fail
  refine (encode_no f t p l s _ hf ht hs h).mono ?_
  rintro e w1 ⟨rfl, hb1⟩
  go_wp2_with fail
  refine (alive_any _).mono ?_
  rintro e w9 ⟨rfl, hb9⟩
  go_wp2
  go_ret
  exact ⟨rfl, below_then (below_then ((Below.refl _ _).alloc (Nat.le_refl _) _) (by simp) hb1) (by have := hb1.size; simp at this; omega) hb9⟩

set_option maxHeartbeats 1000000 in
theorem cut_neg (f t : ByteArray) (p l : Int) (s : ByteArray) (k : Int) (w : World) (h : Okp f t p l s) (hk : k < 0) :
    Calls Try.prog 8 #[.agg #[.string f, .string t, .int .i64 p, .int .i64 l, .string s], .int .i64 k] w fun e w' => e = .returned (.bool true) ∧ Below w.heap.size w w' := by
  obtain ⟨n, hn⟩ : ∃ n, n = (if f.size = 16 then 40 else 20) + s.size := ⟨_, rfl⟩
  obtain ⟨o1, o2, o3, -⟩ := okp_small h
  have hn2 : n ≤ 1520 := by rw [hn]; split <;> omega
  have hn3 : 20 ≤ n := by rw [hn]; split <;> omega
  have hwl := wire_len h
  rw [← hn] at hwl
  have d1 : decide (k < 0) = true := by simpa using hk
  have HK := Lib.hid h
  have HN := Lib.hid hn
  have HL := Lib.hid hwl
  clear h hn hwl
  go_enter Try.func8, Try.ntmps8
  go_wp2_with fail
  refine (encode_yes f t p l s _ HK.out n HN.out).mono ?_
  rintro e w1 ⟨g, c, rfl, ho, hb⟩
  have HB1 := Lib.hid (show Below (w.heap.size + 1) (w.alloc (.cells #[.string f, .string t, .int .i64 p, .int .i64 l, .string s] 24)) w1 by have := hb.out; simpa using this)
  have HO := Lib.hid (show Own w1 (w.heap.size + 1) g n c (wire f t p l s) by have := ho.out; simpa using this)
  obtain ⟨x0, x1, x2, x3, x4⟩ := (Boxed.new w f t p l s).below HB1.out (Nat.lt_succ_self _)
  have z1 : w.heap.size + 1 ≤ w1.heap.size := by have := HB1.out.size; simpa using this
  have y1 : w.heap.size < w1.heap.size := z1
  have hnc : n ≤ c := HO.out.2.2.1
  clear ho hb
  go_wp2_with fail
  refine (alive_any _).mono ?_
  rintro e w9 ⟨rfl, hb9⟩
  go_wp2
  go_ret
  exact ⟨rfl, below_box (below_then HB1.out z1 hb9)⟩

set_option maxHeartbeats 1000000 in
theorem cut_past (f t : ByteArray) (p l : Int) (s : ByteArray) (k : Int) (w : World) (h : Okp f t p l s) (hk0 : 0 ≤ k) (hk : ((wire f t p l s).length : Int) ≤ k) :
    Calls Try.prog 8 #[.agg #[.string f, .string t, .int .i64 p, .int .i64 l, .string s], .int .i64 k] w fun e w' => e = .returned (.bool true) ∧ Below w.heap.size w w' := by
  obtain ⟨n, hn⟩ : ∃ n, n = (if f.size = 16 then 40 else 20) + s.size := ⟨_, rfl⟩
  obtain ⟨o1, o2, o3, -⟩ := okp_small h
  have hn2 : n ≤ 1520 := by rw [hn]; split <;> omega
  have hn3 : 20 ≤ n := by rw [hn]; split <;> omega
  have hwl := wire_len h
  rw [← hn] at hwl
  have d1 : decide (k < 0) = false := by simp; omega
  rw [hwl] at hk
  have d2 : decide ((n : Int) ≤ k) = true := by simpa using hk
  have HK := Lib.hid h
  have HN := Lib.hid hn
  have HL := Lib.hid hwl
  clear h hn hwl
  go_enter Try.func8, Try.ntmps8
  go_wp2_with fail
  refine (encode_yes f t p l s _ HK.out n HN.out).mono ?_
  rintro e w1 ⟨g, c, rfl, ho, hb⟩
  have HB1 := Lib.hid (show Below (w.heap.size + 1) (w.alloc (.cells #[.string f, .string t, .int .i64 p, .int .i64 l, .string s] 24)) w1 by have := hb.out; simpa using this)
  have HO := Lib.hid (show Own w1 (w.heap.size + 1) g n c (wire f t p l s) by have := ho.out; simpa using this)
  obtain ⟨x0, x1, x2, x3, x4⟩ := (Boxed.new w f t p l s).below HB1.out (Nat.lt_succ_self _)
  have z1 : w.heap.size + 1 ≤ w1.heap.size := by have := HB1.out.size; simpa using this
  have y1 : w.heap.size < w1.heap.size := z1
  have hnc : n ≤ c := HO.out.2.2.1
  clear ho hb
  go_wp2_with fail
  refine (alive_any _).mono ?_
  rintro e w9 ⟨rfl, hb9⟩
  go_wp2
  go_ret
  exact ⟨rfl, below_box (below_then HB1.out z1 hb9)⟩

set_option maxHeartbeats 1000000 in
theorem cut_in (f t : ByteArray) (p l : Int) (s : ByteArray) (k : Nat) (w : World) (h : Okp f t p l s) (hk : k < (wire f t p l s).length) (r : Int) (hd : dec ((wire f t p l s).take k) = (Pk.zero, r)) (hr : r = 30 ∨ r = 33) :
    Calls Try.prog 8 #[.agg #[.string f, .string t, .int .i64 p, .int .i64 l, .string s], .int .i64 (k : Int)] w fun e w' => e = .returned (.bool true) ∧ Below w.heap.size w w' := by
  obtain ⟨n, hn⟩ : ∃ n, n = (if f.size = 16 then 40 else 20) + s.size := ⟨_, rfl⟩
  obtain ⟨o1, o2, o3, -⟩ := okp_small h
  have hn2 : n ≤ 1520 := by rw [hn]; split <;> omega
  have hn3 : 20 ≤ n := by rw [hn]; split <;> omega
  have hwl := wire_len h
  rw [← hn] at hwl
  rw [hwl] at hk
  have d1 : decide ((k : Int) < 0) = false := by simp
  have d2 : decide ((n : Int) ≤ (k : Int)) = false := by simp; omega
  have d3 : decide (n ≤ k) = false := by simp; omega
  have HD := Lib.hid hd
  clear hd
  have HK := Lib.hid h
  have HN := Lib.hid hn
  have HL := Lib.hid hwl
  clear h hn hwl
  go_enter Try.func8, Try.ntmps8
  go_wp2_with fail
  refine (encode_yes f t p l s _ HK.out n HN.out).mono ?_
  rintro e w1 ⟨g, c, rfl, ho, hb⟩
  have HB1 := Lib.hid (show Below (w.heap.size + 1) (w.alloc (.cells #[.string f, .string t, .int .i64 p, .int .i64 l, .string s] 24)) w1 by have := hb.out; simpa using this)
  have HO := Lib.hid (show Own w1 (w.heap.size + 1) g n c (wire f t p l s) by have := ho.out; simpa using this)
  obtain ⟨x0, x1, x2, x3, x4⟩ := (Boxed.new w f t p l s).below HB1.out (Nat.lt_succ_self _)
  have z1 : w.heap.size + 1 ≤ w1.heap.size := by have := HB1.out.size; simpa using this
  have y1 : w.heap.size < w1.heap.size := z1
  have hnc : n ≤ c := HO.out.2.2.1
  clear ho hb
  have hkc : k ≤ c := by omega
  have hkc' : (k : Int) ≤ (c : Int) := by omega
  have HP := Lib.hid ((HO.out.part (wire_byt HK.out)).first k (by omega))
  go_wp2_with fail
  refine (decode_any _ k c _ w1 HP.out (by omega) ⟨#[]⟩ ⟨#[]⟩ 0 0 ⟨#[]⟩ r HD.out).mono ?_
  rintro e w2 ⟨rfl, hb2⟩
  have z2 := hb2.size
  have HB2 := Lib.hid (below_then (B := w.heap.size + 1) HB1.out (by omega) hb2)
  clear hb2
  rcases hr with rfl | rfl
  all_goals (
    go_wp2_with fail
    refine (alive_any _).mono ?_
    rintro e w9 ⟨rfl, hb9⟩
    have hb5 := below_then (B := w2.heap.size) ((Below.refl w2.heap.size w2).alloc (Nat.le_refl _) (.cells #[.string ⟨#[]⟩, .string ⟨#[]⟩, .int .i64 0, .int .i64 0, .string ⟨#[]⟩] 24)) (by simp) hb9
    obtain ⟨y0, y1, y2, y3, y4⟩ := (Boxed.new w2 ⟨#[]⟩ ⟨#[]⟩ 0 0 ⟨#[]⟩).below hb9 (by simp)
    have z9 := hb9.size
    simp at z9
    have u2 : w2.heap.size < w9.heap.size := by omega
    have HB5 := Lib.hid hb5
    clear hb9 hb5
    go_wp2
    go_ret
    exact ⟨by first | rfl | simp, below_box (below_then HB2.out (by omega) HB5.out)⟩)

theorem cut_walk (f t : ByteArray) (p l : Int) (s : ByteArray) (k : Int) (w : World) (hp : (Lit.int .i64 p).wf = true) (hl : (Lit.int .i64 l).wf = true) (hb : f.size ≤ 140737488351232 ∧ t.size ≤ 140737488351232 ∧ s.size ≤ 140737488351232) (hk : (Lit.int .i64 k).wf = true) :
    Calls Try.prog 8 #[.agg #[.string f, .string t, .int .i64 p, .int .i64 l, .string s], .int .i64 k] w fun e w' => e = .returned (.bool true) ∧ Below w.heap.size w w' := by
  by_cases h : Okp f t p l s
  · by_cases h0 : k < 0
    · exact cut_neg f t p l s k w h h0
    by_cases h1 : ((wire f t p l s).length : Int) ≤ k
    · exact cut_past f t p l s k w h (by omega) h1
    obtain ⟨j, rfl⟩ := Int.eq_ofNat_of_zero_le (show 0 ≤ k by omega)
    obtain ⟨r, hd, hr⟩ := dec_cut f t p l s j h (by omega)
    exact cut_in f t p l s j w h (by omega) r hd hr
  · exact cut_no f t p l s k w hb.1 hb.2.1 hb.2.2 h

end Go.Proofs.Ytindajjcekgjeaa
