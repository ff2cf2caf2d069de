/-
  What the small functions of neigh and of its reference do.
-/
import Derived.Test.YtdoefjhdipkkeaaDoorBase
import Derived.Test.YtdoefjhdipkkeaaDoorEEnc
import Derived.Test.YtdoefjhdipkkeaaDoorEManys
namespace Go.Proofs.YtdoefjhdipkkeaaDoor
open Go.RowKit
set_option linter.unusedVariables false
set_option maxRecDepth 10000


theorem byt8 {k : Int} (hk : 0 ≤ k ∧ k ≤ 255) : Byt [0, 1, 8, 0, 6, 4, 0, k] := Byt.append (byt_of rfl : Byt [0, 1, 8, 0, 6, 4, 0]) (Byt.cons hk Byt.nil)
set_option maxHeartbeats 400000 in
/-- neigh.alike. -/
theorem nalike_any (s t : ByteArray) (w : World) (hs : s.size ≤ 140737488351232) (ht : t.size ≤ 140737488351232) :
    Calls Tryd.prog 23 #[.string s, .string t] w fun e w' => e = .returned (.bool (alikeB s t)) ∧ w = w' := by
  go_enter Tryd.func23, Tryd.ntmps23
  rcases h : rightB s with _ | _
  · go_wp2_with fail
    refine (right_any s _ hs).mono ?_
    rintro e w' ⟨rfl, rfl⟩
    rw [h]
    go_wp2
    go_ret
    exact ⟨ret_bool (by simp [alikeB, h]), rfl⟩
  · go_wp2_with fail
    refine (right_any s _ hs).mono ?_
    rintro e w' ⟨rfl, rfl⟩
    rw [h]
    go_wp2
    go_ret
    exact ⟨ret_bool (by rw [alikeB, h, Bool.true_and, Bool.eq_iff_iff]; simp; omega), rfl⟩

theorem near_lit (s : ByteArray) (h : s.size = 16) : (ByteArray.mk #[255, 2, 0, 0, 0, 0, 0, 0, 0, 0, 0, 1, 255]) ++ s.extract 13 16 = near s := by
  apply bts_inj
  rw [bts_append, near, if_pos h, bts_strOfNums (Byt.append (byt_of rfl) ((bts_byt s).drop 13))]
  congr 1
  simp only [bts, ByteArray.data_extract, Array.toList_extract, List.extract, List.map_take, List.map_drop]
  exact List.take_of_length_le (by simp [h])

set_option maxHeartbeats 400000 in
/-- neigh.Near. -/
theorem near_any (s : ByteArray) (w : World) (hs : s.size ≤ 140737488351232) :
    Calls Tryd.prog 16 #[.string s] w fun e w' => e = .returned (.string (near s)) ∧ w = w' := by
  by_cases h : s.size = 16
  · have h' : (s.size : Int) = 16 := by omega
    have hn := near_lit s h
    go_enter Tryd.func16, Tryd.ntmps16
    go_wp2_with fail
    refine (six_any s _ hs).mono ?_
    rintro e w' ⟨rfl, rfl⟩
    rw [decide_eq_true h]
    go_wp2
    go_ret
    exact ⟨rfl, rfl⟩
  · have e0 : near s = ⟨#[]⟩ := by rw [near, if_neg h]
    rw [e0]
    go_enter Tryd.func16, Tryd.ntmps16
    go_wp2_with fail
    refine (six_any s _ hs).mono ?_
    rintro e w' ⟨rfl, rfl⟩
    rw [decide_eq_false h]
    go_wp2
    go_ret
    exact ⟨rfl, rfl⟩

set_option maxHeartbeats 400000 in
/-- outriderref04.kind. -/
def kindI (s t : ByteArray) : Int := if alikeB s t = true then s.size else 0
theorem kind_any (s t : ByteArray) (w : World) (hs : s.size ≤ 140737488351232) (ht : t.size ≤ 140737488351232) :
    Calls Tryd.prog 28 #[.string s, .string t] w fun e w' => e = .returned (.int .i64 (kindI s t)) ∧ w = w' := by
  by_cases h1 : s.size = t.size
  · rcases h : rightB s with _ | _
    · have e1 : ((s.size : Int) == (t.size : Int)) = true := by simp; omega
      go_enter Tryd.func28, Tryd.ntmps28
      go_wp2_with fail
      refine (rright_any s _ hs).mono ?_
      rintro e w' ⟨rfl, rfl⟩
      rw [h]
      go_wp2
      go_ret
      exact ⟨ret_int (by simp [kindI, alikeB, h]), rfl⟩
    · have e1 : ((s.size : Int) == (t.size : Int)) = true := by simp; omega
      go_enter Tryd.func28, Tryd.ntmps28
      go_wp2_with fail
      refine (rright_any s _ hs).mono ?_
      rintro e w' ⟨rfl, rfl⟩
      rw [h]
      go_wp2
      go_ret
      exact ⟨ret_int (by simp [kindI, alikeB, h, h1]), rfl⟩
  · have e1 : ((s.size : Int) == (t.size : Int)) = false := by simp; omega
    go_enter Tryd.func28, Tryd.ntmps28
    go_wp2
    go_ret
    exact ⟨ret_int (by simp [kindI, alikeB, h1]), rfl⟩

/-- outriderref04.all. -/
theorem rall_any (w : World) : Calls Tryd.prog 30 #[] w fun e w' => e = .returned (.agg #[.int .u8 255, .int .u8 255, .int .u8 255, .int .u8 255, .int .u8 255, .int .u8 255]) ∧ Below w.heap.size w w' := by
  go_enter Tryd.func30, Tryd.ntmps30
  go_wp2
  exact bodyPost_ret (v := .agg #[.int .u8 255, .int .u8 255, .int .u8 255, .int .u8 255, .int .u8 255, .int .u8 255]) (by simp [results, Tryd.results30, go_sem]) rfl ⟨rfl, (Below.refl _ _).alloc (Nat.le_refl _) _⟩

set_option maxHeartbeats 400000 in
/-- outriderref04.text. -/
theorem text_any (m0 m1 m2 m3 m4 m5 : Int) (w : World) (hm : Byt [m0, m1, m2, m3, m4, m5]) :
    Calls Tryd.prog 32 #[.agg #[.int .u8 m0, .int .u8 m1, .int .u8 m2, .int .u8 m3, .int .u8 m4, .int .u8 m5]] w fun e w' => e = .returned (.string (strOfNums [m0, m1, m2, m3, m4, m5])) ∧ Below w.heap.size w w' := by
  have hc := (Box6.new w m0 m1 m2 m3 m4 m5).conv hm
  go_enter Tryd.func32, Tryd.ntmps32
  go_wp2
  go_ret
  exact ⟨rfl, (Below.refl _ _).alloc (Nat.le_refl _) _⟩

set_option maxHeartbeats 400000 in
/-- outriderref04.arp. -/
theorem arp_any (k : Int) (s t : ByteArray) (w : World) (hk : 0 ≤ k ∧ k ≤ 255) (hs : s.size ≤ 1000) (ht : t.size ≤ 1000) :
    Calls Tryd.prog 31 #[.int .u8 k, .string s, .string t] w fun e w' => e = .returned (.string (strOfNums ([0, 1, 8, 0, 6, 4, 0, k] ++ bts s ++ bts t))) ∧ Below w.heap.size w w' := by
  have hc : (convert 26 9 (.slice (some ⟨w.heap.size, 0, none⟩) 1 1)).run Tryd.prog (w.alloc (.cells #[.int .u8 k] 5)) = .ok (.string (strOfNums [k])) (w.alloc (.cells #[.int .u8 k] 5)) := convert_part (part_new w 5 [k] (Byt.cons hk Byt.nil)) 9 Tryd.underlying9
  have hz := strOfNums_size [k]
  simp only [List.length_cons, List.length_nil] at hz
  have HE := Lib.hid (show (ByteArray.mk #[0, 1, 8, 0, 6, 4, 0]) ++ strOfNums [k] ++ s ++ t = strOfNums ([0, 1, 8, 0, 6, 4, 0, k] ++ bts s ++ bts t) by
    apply bts_inj
    rw [bts_append, bts_append, bts_append, bts_strOfNums (Byt.cons hk Byt.nil), bts_strOfNums (show Byt ([0, 1, 8, 0, 6, 4, 0, k] ++ bts s ++ bts t) from Byt.append (Byt.append (byt8 hk) (bts_byt s)) (bts_byt t))]
    rfl)
  go_enter Tryd.func31, Tryd.ntmps31
  go_wp2
  go_ret
  rw [HE.out]
  exact ⟨rfl, (Below.refl _ _).alloc (Nat.le_refl _) _⟩

theorem make16 (w : World) : (Instr.makeSlice 26 (.int .i64 16) (.int .i64 16)).run Tryd.prog w = .ok (.slice (some ⟨w.heap.size, 0, none⟩) 16 16) (w.alloc (.cells #[.int .u8 0, .int .u8 0, .int .u8 0, .int .u8 0, .int .u8 0, .int .u8 0, .int .u8 0, .int .u8 0, .int .u8 0, .int .u8 0, .int .u8 0, .int .u8 0, .int .u8 0, .int .u8 0, .int .u8 0, .int .u8 0] 5)) := E.make_bytes w 16 _ 16 rfl (by omega) rfl
theorem conv16 (w : World) (l : List Int) (hl : Byt l) (h : l.length = 16) : (convert 26 24 (.slice (some ⟨w.heap.size, 0, none⟩) 16 16)).run Tryd.prog (w.alloc (.cells (l.map (Value.int .u8)).toArray 5)) = .ok (.string (strOfNums l)) (w.alloc (.cells (l.map (Value.int .u8)).toArray 5)) := by
  have := convert_part (part_new w 5 l hl) 24 Tryd.underlying24
  rw [h] at this; exact this
set_option maxHeartbeats 1000000 in
/-- outriderref04.every. -/
theorem every_any (w : World) : Calls Tryd.prog 35 #[] w fun e w' => e = .returned (.string everyS) ∧ Below w.heap.size w w' := by
  have hmk := make16 w
  have hc : (convert 26 24 (.slice (some ⟨w.heap.size, 0, none⟩) 16 16)).run Tryd.prog (w.alloc (.cells #[.int .u8 255, .int .u8 2, .int .u8 0, .int .u8 0, .int .u8 0, .int .u8 0, .int .u8 0, .int .u8 0, .int .u8 0, .int .u8 0, .int .u8 0, .int .u8 0, .int .u8 0, .int .u8 0, .int .u8 0, .int .u8 1] 5)) = .ok (.string everyS) (w.alloc (.cells #[.int .u8 255, .int .u8 2, .int .u8 0, .int .u8 0, .int .u8 0, .int .u8 0, .int .u8 0, .int .u8 0, .int .u8 0, .int .u8 0, .int .u8 0, .int .u8 0, .int .u8 0, .int .u8 0, .int .u8 0, .int .u8 1] 5)) := (conv16 w [255, 2, 0, 0, 0, 0, 0, 0, 0, 0, 0, 0, 0, 0, 0, 1] (byt_of rfl) rfl)
  go_enter Tryd.func35, Tryd.ntmps35
  go_wp2
  go_ret
  exact ⟨rfl, (Below.refl _ _).alloc (Nat.le_refl _) _⟩

set_option maxHeartbeats 2000000 in
/-- outriderref04.Near. -/
theorem rnear_any (s : ByteArray) (w : World) (hs : s.size ≤ 140737488351232) :
    Calls Tryd.prog 17 #[.string s] w fun e w' => e = .returned (.string (near s)) ∧ Below w.heap.size w w' := by
  by_cases h : s.size = 16
  · obtain ⟨c0, c1, c2, c3, c4, c5, c6, c7, c8, c9, c10, c11, c12, c13, c14, c15, rfl⟩ := E.text16 s h
    have hmk := make16 w
    have hn : near ⟨#[c0, c1, c2, c3, c4, c5, c6, c7, c8, c9, c10, c11, c12, c13, c14, c15]⟩ = strOfNums [255, 2, 0, 0, 0, 0, 0, 0, 0, 0, 0, 1, 255, (c13.toNat : Int), (c14.toNat : Int), (c15.toNat : Int)] := rfl
    rw [hn]
    have hc : (convert 26 24 (.slice (some ⟨w.heap.size, 0, none⟩) 16 16)).run Tryd.prog (w.alloc (.cells #[.int .u8 255, .int .u8 2, .int .u8 0, .int .u8 0, .int .u8 0, .int .u8 0, .int .u8 0, .int .u8 0, .int .u8 0, .int .u8 0, .int .u8 0, .int .u8 1, .int .u8 255, .int .u8 (c13.toNat : Int), .int .u8 (c14.toNat : Int), .int .u8 (c15.toNat : Int)] 5)) = .ok (.string (strOfNums [255, 2, 0, 0, 0, 0, 0, 0, 0, 0, 0, 1, 255, (c13.toNat : Int), (c14.toNat : Int), (c15.toNat : Int)])) (w.alloc (.cells #[.int .u8 255, .int .u8 2, .int .u8 0, .int .u8 0, .int .u8 0, .int .u8 0, .int .u8 0, .int .u8 0, .int .u8 0, .int .u8 0, .int .u8 0, .int .u8 1, .int .u8 255, .int .u8 (c13.toNat : Int), .int .u8 (c14.toNat : Int), .int .u8 (c15.toNat : Int)] 5)) := (conv16 w [255, 2, 0, 0, 0, 0, 0, 0, 0, 0, 0, 1, 255, (c13.toNat : Int), (c14.toNat : Int), (c15.toNat : Int)] (Byt.append (byt_of rfl : Byt [255, 2, 0, 0, 0, 0, 0, 0, 0, 0, 0, 1, 255]) (Byt.cons (byte_le c13) (Byt.cons (byte_le c14) (Byt.cons (byte_le c15) Byt.nil)))) rfl)
    have i13 : (⟨#[c0, c1, c2, c3, c4, c5, c6, c7, c8, c9, c10, c11, c12, c13, c14, c15]⟩ : ByteArray)[13]'(by decide : 13 < 16) = c13 := rfl
    have i14 : (⟨#[c0, c1, c2, c3, c4, c5, c6, c7, c8, c9, c10, c11, c12, c13, c14, c15]⟩ : ByteArray)[14]'(by decide : 14 < 16) = c14 := rfl
    have i15 : (⟨#[c0, c1, c2, c3, c4, c5, c6, c7, c8, c9, c10, c11, c12, c13, c14, c15]⟩ : ByteArray)[15]'(by decide : 15 < 16) = c15 := rfl
    go_enter Tryd.func17, Tryd.ntmps17
    go_wp2
    go_ret
    exact ⟨rfl, (Below.refl _ _).alloc (Nat.le_refl _) _⟩
  · have e0 : near s = ⟨#[]⟩ := by rw [near, if_neg h]
    rw [e0]
    have g : ((s.size : Int) != 16) = true := by simp; omega
    go_enter Tryd.func17, Tryd.ntmps17
    go_wp2
    go_ret
    exact ⟨rfl, Below.refl _ _⟩

set_option maxHeartbeats 1000000 in
/-- outriderref04.card. -/
theorem card_any (c0 c1 c2 c3 c4 c5 : UInt8) (w : World) :
    Calls Tryd.prog 38 #[.string ⟨#[c0, c1, c2, c3, c4, c5]⟩] w fun e w' => e = .returned (.agg #[.int .u8 (c0.toNat : Int), .int .u8 (c1.toNat : Int), .int .u8 (c2.toNat : Int), .int .u8 (c3.toNat : Int), .int .u8 (c4.toNat : Int), .int .u8 (c5.toNat : Int)]) ∧ Below w.heap.size w w' := by
  go_enter Tryd.func38, Tryd.ntmps38
  go_wp2
  go_region
  go_wp2
  exact bodyPost_ret (v := .agg #[.int .u8 (c0.toNat : Int), .int .u8 (c1.toNat : Int), .int .u8 (c2.toNat : Int), .int .u8 (c3.toNat : Int), .int .u8 (c4.toNat : Int), .int .u8 (c5.toNat : Int)]) (by simp [results, Tryd.results38, go_sem]; exact ⟨rfl, rfl, rfl, rfl, rfl, rfl⟩) rfl ⟨rfl, below_drew ((Below.refl _ _).alloc (Nat.le_refl _) _)⟩

theorem text6 {s : ByteArray} {m0 m1 m2 m3 m4 m5 : Int} (h : bts s = [m0, m1, m2, m3, m4, m5]) : ∃ c0 c1 c2 c3 c4 c5 : UInt8, s = ⟨#[c0, c1, c2, c3, c4, c5]⟩ ∧ [m0, m1, m2, m3, m4, m5] = [(c0.toNat : Int), c1.toNat, c2.toNat, c3.toNat, c4.toNat, c5.toNat] := by
  obtain ⟨⟨l⟩⟩ := s
  have hl : l.length = 6 := by have := congrArg List.length h; simpa [bts] using this
  match l, hl with
  | [c0, c1, c2, c3, c4, c5], _ => exact ⟨c0, c1, c2, c3, c4, c5, rfl, h.symm⟩
theorem card_at {s : ByteArray} {m0 m1 m2 m3 m4 m5 : Int} (h : bts s = [m0, m1, m2, m3, m4, m5]) (w : World) :
    Calls Tryd.prog 38 #[.string s] w fun e w' => e = .returned (.agg #[.int .u8 m0, .int .u8 m1, .int .u8 m2, .int .u8 m3, .int .u8 m4, .int .u8 m5]) ∧ Below w.heap.size w w' := by
  obtain ⟨c0, c1, c2, c3, c4, c5, rfl, e⟩ := text6 h
  simp only [List.cons.injEq, and_true] at e
  obtain ⟨rfl, rfl, rfl, rfl, rfl, rfl⟩ := e
  exact card_any c0 c1 c2 c3 c4 c5 w

end Go.Proofs.YtdoefjhdipkkeaaDoor
