/-
  The walk of IpvTurned.
-/
import Derived.Test.YtindajjcekgjeaaFrameF
namespace Go.Proofs.Ytindajjcekgjeaa
open Go.ChangeShapes Go.WideShapes Go.ChangeAt Go.RowKit
set_option linter.unusedVariables false

attribute [local go_sem ↓] pk_eq

set_option maxHeartbeats 1000000 in
theorem turned_no (f t : ByteArray) (p l : Int) (s : ByteArray) (a u : Int) (w : World) (hf : f.size ≤ 140737488351232) (ht : t.size ≤ 140737488351232) (hs : s.size ≤ 140737488351232) (h : ¬ Okp f t p l s) :
    Calls Try.prog 9 #[.agg #[.string f, .string t, .int .i64 p, .int .i64 l, .string s], .int .i64 a, .int .i64 u] w fun e w' => e = .returned (.bool true) ∧ Below w.heap.size w w' := by
  go_enter Try.func9, Try.ntmps9
  go_wp2_with fail
  refine (encode_no f t p l s _ hf ht hs h).mono ?_
  rintro e w1 ⟨rfl, hb1⟩
  go_wp2_with fail
  refine (alive_any _).mono ?_
  rintro e w9 ⟨rfl, hb9⟩
  go_wp2
  go_ret
  exact ⟨rfl, below_then (below_then ((Below.refl _ _).alloc (Nat.le_refl _) _) (by simp) hb1) (by have := hb1.size; simp at this; omega) hb9⟩

set_option maxHeartbeats 1000000 in
theorem turned_six (f t : ByteArray) (p l : Int) (s : ByteArray) (a u : Int) (w : World) (h : Okp f t p l s) (h6 : f.size = 16) :
    Calls Try.prog 9 #[.agg #[.string f, .string t, .int .i64 p, .int .i64 l, .string s], .int .i64 a, .int .i64 u] w fun e w' => e = .returned (.bool true) ∧ Below w.heap.size w w' := by
  obtain ⟨n, hn⟩ : ∃ n, n = (if f.size = 16 then 40 else 20) + s.size := ⟨_, rfl⟩
  obtain ⟨o1, o2, o3, -⟩ := okp_small h
  have hn2 : n ≤ 1520 := by rw [hn]; split <;> omega
  have hn3 : 20 ≤ n := by rw [hn]; split <;> omega
  have hwl := wire_len h
  rw [← hn] at hwl
  have H6 := Lib.hid (show decide (f.size = 16) = true by simpa using h6)
  have HK := Lib.hid h
  have HN := Lib.hid hn
  have HL := Lib.hid hwl
  clear h hn hwl
  go_enter Try.func9, Try.ntmps9
  go_wp2_with fail
  refine (encode_yes f t p l s _ HK.out n HN.out).mono ?_
  rintro e w1 ⟨g, c, rfl, ho, hb⟩
  have HB1 := Lib.hid (show Below (w.heap.size + 1) (w.alloc (.cells #[.string f, .string t, .int .i64 p, .int .i64 l, .string s] 24)) w1 by have := hb.out; simpa using this)
  have HO := Lib.hid (show Own w1 (w.heap.size + 1) g n c (wire f t p l s) by have := ho.out; simpa using this)
  obtain ⟨x0, x1, x2, x3, x4⟩ := (Boxed.new w f t p l s).below HB1.out (Nat.lt_succ_self _)
  have z1 : w.heap.size + 1 ≤ w1.heap.size := by have := HB1.out.size; simpa using this
  have y1 : w.heap.size < w1.heap.size := z1
  have hnc : n ≤ c := HO.out.2.2.1
  clear ho hb
  go_wp2_with (go_at_call 19; refine (six_at (by omega) H6.out).mono ?_; rintro e w6 ⟨rfl, rfl⟩)
  refine (alive_any _).mono ?_
  rintro e w9 ⟨rfl, hb9⟩
  go_wp2
  go_ret
  exact ⟨rfl, below_box (below_then HB1.out z1 hb9)⟩

set_option maxHeartbeats 1000000 in
theorem turned_1 (f t : ByteArray) (p l : Int) (s : ByteArray) (a u : Int) (w : World) (h : Okp f t p l s) (h6 : f.size ≠ 16) (h1 : a < 1) :
    Calls Try.prog 9 #[.agg #[.string f, .string t, .int .i64 p, .int .i64 l, .string s], .int .i64 a, .int .i64 u] w fun e w' => e = .returned (.bool true) ∧ Below w.heap.size w w' := by
  obtain ⟨n, hn⟩ : ∃ n, n = (if f.size = 16 then 40 else 20) + s.size := ⟨_, rfl⟩
  obtain ⟨o1, o2, o3, -⟩ := okp_small h
  have hn2 : n ≤ 1520 := by rw [hn]; split <;> omega
  have hn3 : 20 ≤ n := by rw [hn]; split <;> omega
  have hwl := wire_len h
  rw [← hn] at hwl
  have H6 := Lib.hid (show decide (f.size = 16) = false by simpa using h6)
  have d1 : decide (a < 1) = true := by simp; omega
  have HK := Lib.hid h
  have HN := Lib.hid hn
  have HL := Lib.hid hwl
  clear h hn hwl
  go_enter Try.func9, Try.ntmps9
  go_wp2_with fail
  refine (encode_yes f t p l s _ HK.out n HN.out).mono ?_
  rintro e w1 ⟨g, c, rfl, ho, hb⟩
  have HB1 := Lib.hid (show Below (w.heap.size + 1) (w.alloc (.cells #[.string f, .string t, .int .i64 p, .int .i64 l, .string s] 24)) w1 by have := hb.out; simpa using this)
  have HO := Lib.hid (show Own w1 (w.heap.size + 1) g n c (wire f t p l s) by have := ho.out; simpa using this)
  obtain ⟨x0, x1, x2, x3, x4⟩ := (Boxed.new w f t p l s).below HB1.out (Nat.lt_succ_self _)
  have z1 : w.heap.size + 1 ≤ w1.heap.size := by have := HB1.out.size; simpa using this
  have y1 : w.heap.size < w1.heap.size := z1
  have hnc : n ≤ c := HO.out.2.2.1
  clear ho hb
  go_wp2_with (go_at_call 19; refine (six_at (by omega) H6.out).mono ?_; rintro e w6 ⟨rfl, rfl⟩)
  refine (alive_any _).mono ?_
  rintro e w9 ⟨rfl, hb9⟩
  go_wp2
  go_ret
  exact ⟨rfl, below_box (below_then HB1.out z1 hb9)⟩

set_option maxHeartbeats 1000000 in
theorem turned_2 (f t : ByteArray) (p l : Int) (s : ByteArray) (a u : Int) (w : World) (h : Okp f t p l s) (h6 : f.size ≠ 16) (h1 : 19 < a) :
    Calls Try.prog 9 #[.agg #[.string f, .string t, .int .i64 p, .int .i64 l, .string s], .int .i64 a, .int .i64 u] w fun e w' => e = .returned (.bool true) ∧ Below w.heap.size w w' := by
  obtain ⟨n, hn⟩ : ∃ n, n = (if f.size = 16 then 40 else 20) + s.size := ⟨_, rfl⟩
  obtain ⟨o1, o2, o3, -⟩ := okp_small h
  have hn2 : n ≤ 1520 := by rw [hn]; split <;> omega
  have hn3 : 20 ≤ n := by rw [hn]; split <;> omega
  have hwl := wire_len h
  rw [← hn] at hwl
  have H6 := Lib.hid (show decide (f.size = 16) = false by simpa using h6)
  have d1 : decide (a < 1) = false := by simp; omega
  have d2 : decide (19 < a) = true := by simp; omega
  have HK := Lib.hid h
  have HN := Lib.hid hn
  have HL := Lib.hid hwl
  clear h hn hwl
  go_enter Try.func9, Try.ntmps9
  go_wp2_with fail
  refine (encode_yes f t p l s _ HK.out n HN.out).mono ?_
  rintro e w1 ⟨g, c, rfl, ho, hb⟩
  have HB1 := Lib.hid (show Below (w.heap.size + 1) (w.alloc (.cells #[.string f, .string t, .int .i64 p, .int .i64 l, .string s] 24)) w1 by have := hb.out; simpa using this)
  have HO := Lib.hid (show Own w1 (w.heap.size + 1) g n c (wire f t p l s) by have := ho.out; simpa using this)
  obtain ⟨x0, x1, x2, x3, x4⟩ := (Boxed.new w f t p l s).below HB1.out (Nat.lt_succ_self _)
  have z1 : w.heap.size + 1 ≤ w1.heap.size := by have := HB1.out.size; simpa using this
  have y1 : w.heap.size < w1.heap.size := z1
  have hnc : n ≤ c := HO.out.2.2.1
  clear ho hb
  go_wp2_with (go_at_call 19; refine (six_at (by omega) H6.out).mono ?_; rintro e w6 ⟨rfl, rfl⟩)
  refine (alive_any _).mono ?_
  rintro e w9 ⟨rfl, hb9⟩
  go_wp2
  go_ret
  exact ⟨rfl, below_box (below_then HB1.out z1 hb9)⟩

set_option maxHeartbeats 1000000 in
theorem turned_3 (f t : ByteArray) (p l : Int) (s : ByteArray) (a u : Int) (w : World) (h : Okp f t p l s) (h6 : f.size ≠ 16) (h1 : 1 ≤ a) (h2 : a ≤ 19) (h3 : u < 1) :
    Calls Try.prog 9 #[.agg #[.string f, .string t, .int .i64 p, .int .i64 l, .string s], .int .i64 a, .int .i64 u] w fun e w' => e = .returned (.bool true) ∧ Below w.heap.size w w' := by
  obtain ⟨n, hn⟩ : ∃ n, n = (if f.size = 16 then 40 else 20) + s.size := ⟨_, rfl⟩
  obtain ⟨o1, o2, o3, -⟩ := okp_small h
  have hn2 : n ≤ 1520 := by rw [hn]; split <;> omega
  have hn3 : 20 ≤ n := by rw [hn]; split <;> omega
  have hwl := wire_len h
  rw [← hn] at hwl
  have H6 := Lib.hid (show decide (f.size = 16) = false by simpa using h6)
  have d1 : decide (a < 1) = false := by simp; omega
  have d2 : decide (19 < a) = false := by simp; omega
  have d3 : decide (u < 1) = true := by simp; omega
  have HK := Lib.hid h
  have HN := Lib.hid hn
  have HL := Lib.hid hwl
  clear h hn hwl
  go_enter Try.func9, Try.ntmps9
  go_wp2_with fail
  refine (encode_yes f t p l s _ HK.out n HN.out).mono ?_
  rintro e w1 ⟨g, c, rfl, ho, hb⟩
  have HB1 := Lib.hid (show Below (w.heap.size + 1) (w.alloc (.cells #[.string f, .string t, .int .i64 p, .int .i64 l, .string s] 24)) w1 by have := hb.out; simpa using this)
  have HO := Lib.hid (show Own w1 (w.heap.size + 1) g n c (wire f t p l s) by have := ho.out; simpa using this)
  obtain ⟨x0, x1, x2, x3, x4⟩ := (Boxed.new w f t p l s).below HB1.out (Nat.lt_succ_self _)
  have z1 : w.heap.size + 1 ≤ w1.heap.size := by have := HB1.out.size; simpa using this
  have y1 : w.heap.size < w1.heap.size := z1
  have hnc : n ≤ c := HO.out.2.2.1
  clear ho hb
  go_wp2_with (go_at_call 19; refine (six_at (by omega) H6.out).mono ?_; rintro e w6 ⟨rfl, rfl⟩)
  refine (alive_any _).mono ?_
  rintro e w9 ⟨rfl, hb9⟩
  go_wp2
  go_ret
  exact ⟨rfl, below_box (below_then HB1.out z1 hb9)⟩

set_option maxHeartbeats 1000000 in
theorem turned_4 (f t : ByteArray) (p l : Int) (s : ByteArray) (a u : Int) (w : World) (h : Okp f t p l s) (h6 : f.size ≠ 16) (h1 : 1 ≤ a) (h2 : a ≤ 19) (h3 : 255 < u) :
    Calls Try.prog 9 #[.agg #[.string f, .string t, .int .i64 p, .int .i64 l, .string s], .int .i64 a, .int .i64 u] w fun e w' => e = .returned (.bool true) ∧ Below w.heap.size w w' := by
  obtain ⟨n, hn⟩ : ∃ n, n = (if f.size = 16 then 40 else 20) + s.size := ⟨_, rfl⟩
  obtain ⟨o1, o2, o3, -⟩ := okp_small h
  have hn2 : n ≤ 1520 := by rw [hn]; split <;> omega
  have hn3 : 20 ≤ n := by rw [hn]; split <;> omega
  have hwl := wire_len h
  rw [← hn] at hwl
  have H6 := Lib.hid (show decide (f.size = 16) = false by simpa using h6)
  have d1 : decide (a < 1) = false := by simp; omega
  have d2 : decide (19 < a) = false := by simp; omega
  have d3 : decide (u < 1) = false := by simp; omega
  have d4 : decide (255 < u) = true := by simp; omega
  have HK := Lib.hid h
  have HN := Lib.hid hn
  have HL := Lib.hid hwl
  clear h hn hwl
  go_enter Try.func9, Try.ntmps9
  go_wp2_with fail
  refine (encode_yes f t p l s _ HK.out n HN.out).mono ?_
  rintro e w1 ⟨g, c, rfl, ho, hb⟩
  have HB1 := Lib.hid (show Below (w.heap.size + 1) (w.alloc (.cells #[.string f, .string t, .int .i64 p, .int .i64 l, .string s] 24)) w1 by have := hb.out; simpa using this)
  have HO := Lib.hid (show Own w1 (w.heap.size + 1) g n c (wire f t p l s) by have := ho.out; simpa using this)
  obtain ⟨x0, x1, x2, x3, x4⟩ := (Boxed.new w f t p l s).below HB1.out (Nat.lt_succ_self _)
  have z1 : w.heap.size + 1 ≤ w1.heap.size := by have := HB1.out.size; simpa using this
  have y1 : w.heap.size < w1.heap.size := z1
  have hnc : n ≤ c := HO.out.2.2.1
  clear ho hb
  go_wp2_with (go_at_call 19; refine (six_at (by omega) H6.out).mono ?_; rintro e w6 ⟨rfl, rfl⟩)
  refine (alive_any _).mono ?_
  rintro e w9 ⟨rfl, hb9⟩
  go_wp2
  go_ret
  exact ⟨rfl, below_box (below_then HB1.out z1 hb9)⟩

set_option maxHeartbeats 1000000 in
theorem turned_in (f t : ByteArray) (p l : Int) (s : ByteArray) (k : Nat) (u : Int) (w : World) (h : Okp f t p l s) (h6 : f.size ≠ 16) (hk1 : 1 ≤ k) (hk2 : k ≤ 19) (hu : 1 ≤ u ∧ u ≤ 255) :
    Calls Try.prog 9 #[.agg #[.string f, .string t, .int .i64 p, .int .i64 l, .string s], .int .i64 (k : Int), .int .i64 u] w fun e w' => e = .returned (.bool true) ∧ Below w.heap.size w w' := by
  obtain ⟨n, hn⟩ : ∃ n, n = (if f.size = 16 then 40 else 20) + s.size := ⟨_, rfl⟩
  obtain ⟨o1, o2, o3, -⟩ := okp_small h
  have hn2 : n ≤ 1520 := by rw [hn]; split <;> omega
  have hn3 : 20 ≤ n := by rw [hn]; split <;> omega
  have hwl := wire_len h
  rw [← hn] at hwl
  have H6 := Lib.hid (show decide (f.size = 16) = false by simpa using h6)
  have d1 : decide ((k : Int) < 1) = false := by simp; omega
  have d2 : decide ((19 : Int) < (k : Int)) = false := by simp; omega
  have d3 : decide (u < 1) = false := by simp; omega
  have d4 : decide (255 < u) = false := by simp; omega
  have d5 : decide ((n : Int) < 20) = false := by simp; omega
  have d6 : decide (n < 20) = false := by simp; omega
  have d7 : decide (19 < k) = false := by simp; omega
  obtain ⟨x, hx⟩ : ∃ x, x = byteAt (wire f t p l s) k := ⟨_, rfl⟩
  have hxb : 0 ≤ x ∧ x ≤ 255 := by rw [hx]; exact byteAt_bd (wire_byt h) k
  obtain ⟨z, hz, hzb, hzx⟩ := xor_byte x u hxb hu
  obtain ⟨r, hd, hr⟩ := dec_turn f t p l s k z h h6 hk1 hk2 hzb (by rw [← hx]; exact hzx)
  have dr : decide (r = 0) = false := by simpa using hr
  have dn : (r != 0) = true := by simpa using hr
  have HD := Lib.hid hd
  have HX := Lib.hid hx
  have HZ := Lib.hid hzb
  clear hd hx hzb hzx hr
  have hkn : (k : Int) < (n : Int) := by omega
  have HK := Lib.hid h
  have HN := Lib.hid hn
  have HL := Lib.hid hwl
  clear h hn hwl
  go_enter Try.func9, Try.ntmps9
  go_wp2_with fail
  refine (encode_yes f t p l s _ HK.out n HN.out).mono ?_
  rintro e w1 ⟨g, c, rfl, ho, hb⟩
  have HB1 := Lib.hid (show Below (w.heap.size + 1) (w.alloc (.cells #[.string f, .string t, .int .i64 p, .int .i64 l, .string s] 24)) w1 by have := hb.out; simpa using this)
  have HO := Lib.hid (show Own w1 (w.heap.size + 1) g n c (wire f t p l s) by have := ho.out; simpa using this)
  obtain ⟨x0, x1, x2, x3, x4⟩ := (Boxed.new w f t p l s).below HB1.out (Nat.lt_succ_self _)
  have z1 : w.heap.size + 1 ≤ w1.heap.size := by have := HB1.out.size; simpa using this
  have y1 : w.heap.size < w1.heap.size := z1
  have hnc : n ≤ c := HO.out.2.2.1
  clear ho hb
  have ck : w1.cell? ⟨g, k, none⟩ = some (.int .u8 x) := by rw [HX.out]; exact HO.out.cell k (by omega)
  have fk : w1.frozen? ⟨g, k, none⟩ = false := HO.out.free k (by omega)
  have hgB : w.heap.size + 1 ≤ g := HO.out.2.1
  have hgl : g < w1.heap.size := HO.out.lt
  have HP := Lib.hid ((HO.out.stored k z).1.part (fun y hy => by
    rcases List.mem_or_eq_of_mem_set hy with hy | rfl
    · exact wire_byt HK.out y hy
    · exact HZ.out))
  have HB2 := Lib.hid (show Below (w.heap.size + 1) (w.alloc (.cells #[.string f, .string t, .int .i64 p, .int .i64 l, .string s] 24)) (w1.setCell ⟨g, k, none⟩ (.int .u8 z)) from HB1.out.setCell hgB _)
  go_wp2_with (go_at_call 19; refine (six_at (by omega) H6.out).mono ?_; rintro e w6 ⟨rfl, rfl⟩)
  refine (decode_any _ n c _ _ HP.out (by omega) ⟨#[]⟩ ⟨#[]⟩ 0 0 ⟨#[]⟩ r HD.out).mono ?_
  rintro e w2 ⟨rfl, hb2⟩
  have z2 := hb2.size
  simp at z2
  have HB3 := Lib.hid (below_then (B := w.heap.size + 1) HB2.out (by simp; omega) hb2)
  clear hb2
  go_wp2_with fail
  refine (alive_any _).mono ?_
  rintro e w9 ⟨rfl, hb9⟩
  have hb5 := below_then (B := w2.heap.size) ((Below.refl w2.heap.size w2).alloc (Nat.le_refl _) (.cells #[.string ⟨#[]⟩, .string ⟨#[]⟩, .int .i64 0, .int .i64 0, .string ⟨#[]⟩] 24)) (by simp) hb9
  obtain ⟨y0, y1, y2, y3, y4⟩ := (Boxed.new w2 ⟨#[]⟩ ⟨#[]⟩ 0 0 ⟨#[]⟩).below hb9 (by simp)
  have z9 := hb9.size
  simp at z9
  have u2 : w2.heap.size < w9.heap.size := by omega
  have HB5 := Lib.hid hb5
  clear hb9 hb5
  go_wp2
  go_ret
  exact ⟨by first | rfl | (have hr0 := of_decide_eq_false dr; simp [hr0]), below_box (below_then HB3.out (by omega) HB5.out)⟩

theorem turned_walk (f t : ByteArray) (p l : Int) (s : ByteArray) (a u : Int) (w : World) (hp : (Lit.int .i64 p).wf = true) (hl : (Lit.int .i64 l).wf = true) (hb : f.size ≤ 140737488351232 ∧ t.size ≤ 140737488351232 ∧ s.size ≤ 140737488351232) (ha : (Lit.int .i64 a).wf = true) (hu : (Lit.int .i64 u).wf = true) :
    Calls Try.prog 9 #[.agg #[.string f, .string t, .int .i64 p, .int .i64 l, .string s], .int .i64 a, .int .i64 u] w fun e w' => e = .returned (.bool true) ∧ Below w.heap.size w w' := by
  by_cases h : Okp f t p l s
  · by_cases h6 : f.size = 16
    · exact turned_six f t p l s a u w h h6
    by_cases h1 : a < 1
    · exact turned_1 f t p l s a u w h h6 h1
    by_cases h2 : 19 < a
    · exact turned_2 f t p l s a u w h h6 h2
    by_cases h3 : u < 1
    · exact turned_3 f t p l s a u w h h6 (by omega) (by omega) h3
    by_cases h4 : 255 < u
    · exact turned_4 f t p l s a u w h h6 (by omega) (by omega) h4
    obtain ⟨j, rfl⟩ := Int.eq_ofNat_of_zero_le (show 0 ≤ a by omega)
    exact turned_in f t p l s j u w h h6 (by omega) (by omega) (by omega)
  · exact turned_no f t p l s a u w hb.1 hb.2.1 hb.2.2 h

end Go.Proofs.Ytindajjcekgjeaa
