/-
  What ports.isError and isError6 do.
-/
import Derived.Test.YtomcniakffipfaaDoorQbase
namespace Go.Proofs.YtomcniakffipfaaDoor
open Go.RowKit
set_option linter.unusedVariables false
set_option maxRecDepth 10000

def er4 (f t : ByteArray) (p : Int) (s : ByteArray) : Bool := decide (p = 1) && (four2 f t && (decide (s.size ≠ 0) && decide (byteAt (bts s) 0 = 3 ∨ byteAt (bts s) 0 = 11)))
set_option maxHeartbeats 400000 in
theorem isError4_p (f t : ByteArray) (p l : Int) (s : ByteArray) (w : World) (h : p ≠ 1) :
    Calls Tryd.prog 15 #[.agg #[.string f, .string t, .int .i64 p, .int .i64 l, .string s]] w fun e w' => e = .returned (.bool false) ∧ Below w.heap.size w w' := by
  have d0 : (p != 1) = true := by simpa using h
  go_enter Tryd.func15, Tryd.ntmps15
  go_wp2
  go_ret
  exact ⟨rfl, (Below.refl _ _).alloc (Nat.le_refl _) _⟩
set_option maxHeartbeats 400000 in
theorem isError4_a (f t : ByteArray) (l : Int) (s : ByteArray) (w : World) (hf : f.size ≤ 140737488351232) (ht : t.size ≤ 140737488351232) (h : four2 f t = false) :
    Calls Tryd.prog 15 #[.agg #[.string f, .string t, .int .i64 1, .int .i64 l, .string s]] w fun e w' => e = .returned (.bool false) ∧ Below w.heap.size w w' := by
  have H := Lib.hid h
  clear h
  go_enter Tryd.func15, Tryd.ntmps15
  go_wp2_with fail
  refine (bothFour_at hf ht H.out).mono ?_
  rintro e w1 ⟨rfl, hb1⟩
  go_wp2
  go_ret
  exact ⟨rfl, ((Below.refl w.heap.size _).alloc (Nat.le_refl _) _).trans (hb1.mono (by simp))⟩
set_option maxHeartbeats 400000 in
theorem isError4_e (f t : ByteArray) (l : Int) (w : World) (hf : f.size ≤ 140737488351232) (ht : t.size ≤ 140737488351232) (h : four2 f t = true) :
    Calls Tryd.prog 15 #[.agg #[.string f, .string t, .int .i64 1, .int .i64 l, .string ⟨#[]⟩]] w fun e w' => e = .returned (.bool false) ∧ Below w.heap.size w w' := by
  have H := Lib.hid h
  clear h
  go_enter Tryd.func15, Tryd.ntmps15
  go_wp2_with fail
  refine (bothFour_at hf ht H.out).mono ?_
  rintro e w1 ⟨rfl, hb1⟩
  obtain ⟨x0, x1, x2, x3, x4⟩ := (Boxed.new w f t 1 l ⟨#[]⟩).below hb1 (by simp)
  have n1 : w.heap.size < w1.heap.size := World.block_lt_of_cell? _ _ x0
  have HB := Lib.hid (((Below.refl w.heap.size _).alloc (Nat.le_refl _) _).trans (hb1.mono (by simp)))
  clear hb1
  go_wp2
  go_ret
  exact ⟨rfl, HB.out⟩
set_option maxHeartbeats 400000 in
theorem isError4_y (f t : ByteArray) (l : Int) (s : ByteArray) (w : World) (hf : f.size ≤ 140737488351232) (ht : t.size ≤ 140737488351232) (h : four2 f t = true) (hs : 0 < s.size) (hs2 : s.size ≤ 140737488351232) (x : Int) (hx : byteAt (bts s) 0 = x) (r : Bool) (hr : decide (x = 3 ∨ x = 11) = r) :
    Calls Tryd.prog 15 #[.agg #[.string f, .string t, .int .i64 1, .int .i64 l, .string s]] w fun e w' => e = .returned (.bool r) ∧ Below w.heap.size w w' := by
  have H := Lib.hid h
  have hne : s.toList.isEmpty = false := by
    rcases e : s.toList with _ | ⟨c, r⟩
    · exfalso
      have h2 : (bts s).length = 0 := by simp only [bts, ← ByteArray.toList_eq, e]; rfl
      rw [bts_len] at h2
      omega
    · rfl
  have hx' : ((s[0]'(by omega)).toNat : Int) = x := by rw [← byteAt_text s 0 hs]; exact hx
  have i0 : (0 : Int) < (s.size : Int) := by omega
  have HX := Lib.hid hx'
  have HR := Lib.hid hr
  clear h hx hr
  by_cases g0 : x = 3
  · subst g0
    go_enter Tryd.func15, Tryd.ntmps15
    go_wp2_with fail
    refine (bothFour_at hf ht H.out).mono ?_
    rintro e w1 ⟨rfl, hb1⟩
    obtain ⟨x0, x1, x2, x3, x4⟩ := (Boxed.new w f t 1 l s).below hb1 (by simp)
    have n1 : w.heap.size < w1.heap.size := World.block_lt_of_cell? _ _ x0
    have HB := Lib.hid (((Below.refl w.heap.size _).alloc (Nat.le_refl _) _).trans (hb1.mono (by simp)))
    clear hb1
    go_wp2
    go_ret
    exact ⟨ret_bool (by rw [← HR.out]; simp), HB.out⟩
  have e0 : (x == 3) = false := by simpa using g0
  by_cases g1 : x = 11
  · subst g1
    go_enter Tryd.func15, Tryd.ntmps15
    go_wp2_with fail
    refine (bothFour_at hf ht H.out).mono ?_
    rintro e w1 ⟨rfl, hb1⟩
    obtain ⟨x0, x1, x2, x3, x4⟩ := (Boxed.new w f t 1 l s).below hb1 (by simp)
    have n1 : w.heap.size < w1.heap.size := World.block_lt_of_cell? _ _ x0
    have HB := Lib.hid (((Below.refl w.heap.size _).alloc (Nat.le_refl _) _).trans (hb1.mono (by simp)))
    clear hb1
    go_wp2
    go_ret
    exact ⟨ret_bool (by rw [← HR.out]; simp), HB.out⟩
  have e1 : (x == 11) = false := by simpa using g1
  go_enter Tryd.func15, Tryd.ntmps15
  go_wp2_with fail
  refine (bothFour_at hf ht H.out).mono ?_
  rintro e w1 ⟨rfl, hb1⟩
  obtain ⟨x0, x1, x2, x3, x4⟩ := (Boxed.new w f t 1 l s).below hb1 (by simp)
  have n1 : w.heap.size < w1.heap.size := World.block_lt_of_cell? _ _ x0
  have HB := Lib.hid (((Below.refl w.heap.size _).alloc (Nat.le_refl _) _).trans (hb1.mono (by simp)))
  clear hb1
  go_wp2
  go_ret
  exact ⟨ret_bool (by rw [← HR.out]; simp [g0, g1]), HB.out⟩
/-- ports.isError4. -/
theorem isError4_at {f t : ByteArray} {p l : Int} {s : ByteArray} {r : Bool} {w : World} (hf : f.size ≤ 140737488351232) (ht : t.size ≤ 140737488351232) (hs2 : s.size ≤ 140737488351232) (hr : er4 f t p s = r) :
    Calls Tryd.prog 15 #[.agg #[.string f, .string t, .int .i64 p, .int .i64 l, .string s]] w fun e w' => e = .returned (.bool r) ∧ Below w.heap.size w w' := by
  subst hr
  by_cases h1 : p = 1
  · subst h1
    rcases h2 : four2 f t with _ | _
    · rw [show er4 f t 1 s = false by simp [er4, h2]]
      exact isError4_a f t l s w hf ht h2
    · by_cases h3 : s.size = 0
      · obtain rfl : s = ⟨#[]⟩ := by apply bts_inj; rw [List.eq_nil_of_length_eq_zero ((bts_len s).trans h3)]; rfl
        rw [show er4 f t 1 ⟨#[]⟩ = false by simp [er4, show (ByteArray.mk #[]).size = 0 from rfl]]
        exact isError4_e f t l w hf ht h2
      · refine isError4_y f t l s w hf ht h2 (by omega) hs2 _ rfl _ ?_
        simp [er4, h2, h3]
  · rw [show er4 f t p s = false by simp [er4, h1]]
    exact isError4_p f t p l s w h1

def er6 (f t : ByteArray) (p : Int) (s : ByteArray) : Bool := decide (p = 58) && (six2 f t && (decide (s.size ≠ 0) && decide (byteAt (bts s) 0 = 1 ∨ byteAt (bts s) 0 = 2 ∨ byteAt (bts s) 0 = 3)))
set_option maxHeartbeats 400000 in
theorem isError6_p (f t : ByteArray) (p l : Int) (s : ByteArray) (w : World) (h : p ≠ 58) :
    Calls Tryd.prog 18 #[.agg #[.string f, .string t, .int .i64 p, .int .i64 l, .string s]] w fun e w' => e = .returned (.bool false) ∧ Below w.heap.size w w' := by
  have d0 : (p != 58) = true := by simpa using h
  go_enter Tryd.func18, Tryd.ntmps18
  go_wp2
  go_ret
  exact ⟨rfl, (Below.refl _ _).alloc (Nat.le_refl _) _⟩
set_option maxHeartbeats 400000 in
theorem isError6_a (f t : ByteArray) (l : Int) (s : ByteArray) (w : World) (hf : f.size ≤ 140737488351232) (ht : t.size ≤ 140737488351232) (h : six2 f t = false) :
    Calls Tryd.prog 18 #[.agg #[.string f, .string t, .int .i64 58, .int .i64 l, .string s]] w fun e w' => e = .returned (.bool false) ∧ Below w.heap.size w w' := by
  have H := Lib.hid h
  clear h
  go_enter Tryd.func18, Tryd.ntmps18
  go_wp2_with fail
  refine (bothSix_at hf ht H.out).mono ?_
  rintro e w1 ⟨rfl, hb1⟩
  go_wp2
  go_ret
  exact ⟨rfl, ((Below.refl w.heap.size _).alloc (Nat.le_refl _) _).trans (hb1.mono (by simp))⟩
set_option maxHeartbeats 400000 in
theorem isError6_e (f t : ByteArray) (l : Int) (w : World) (hf : f.size ≤ 140737488351232) (ht : t.size ≤ 140737488351232) (h : six2 f t = true) :
    Calls Tryd.prog 18 #[.agg #[.string f, .string t, .int .i64 58, .int .i64 l, .string ⟨#[]⟩]] w fun e w' => e = .returned (.bool false) ∧ Below w.heap.size w w' := by
  have H := Lib.hid h
  clear h
  go_enter Tryd.func18, Tryd.ntmps18
  go_wp2_with fail
  refine (bothSix_at hf ht H.out).mono ?_
  rintro e w1 ⟨rfl, hb1⟩
  obtain ⟨x0, x1, x2, x3, x4⟩ := (Boxed.new w f t 58 l ⟨#[]⟩).below hb1 (by simp)
  have n1 : w.heap.size < w1.heap.size := World.block_lt_of_cell? _ _ x0
  have HB := Lib.hid (((Below.refl w.heap.size _).alloc (Nat.le_refl _) _).trans (hb1.mono (by simp)))
  clear hb1
  go_wp2
  go_ret
  exact ⟨rfl, HB.out⟩
set_option maxHeartbeats 400000 in
theorem isError6_y (f t : ByteArray) (l : Int) (s : ByteArray) (w : World) (hf : f.size ≤ 140737488351232) (ht : t.size ≤ 140737488351232) (h : six2 f t = true) (hs : 0 < s.size) (hs2 : s.size ≤ 140737488351232) (x : Int) (hx : byteAt (bts s) 0 = x) (r : Bool) (hr : decide (x = 1 ∨ x = 2 ∨ x = 3) = r) :
    Calls Tryd.prog 18 #[.agg #[.string f, .string t, .int .i64 58, .int .i64 l, .string s]] w fun e w' => e = .returned (.bool r) ∧ Below w.heap.size w w' := by
  have H := Lib.hid h
  have hne : s.toList.isEmpty = false := by
    rcases e : s.toList with _ | ⟨c, r⟩
    · exfalso
      have h2 : (bts s).length = 0 := by simp only [bts, ← ByteArray.toList_eq, e]; rfl
      rw [bts_len] at h2
      omega
    · rfl
  have hx' : ((s[0]'(by omega)).toNat : Int) = x := by rw [← byteAt_text s 0 hs]; exact hx
  have i0 : (0 : Int) < (s.size : Int) := by omega
  have HX := Lib.hid hx'
  have HR := Lib.hid hr
  clear h hx hr
  by_cases g0 : x = 1
  · subst g0
    go_enter Tryd.func18, Tryd.ntmps18
    go_wp2_with fail
    refine (bothSix_at hf ht H.out).mono ?_
    rintro e w1 ⟨rfl, hb1⟩
    obtain ⟨x0, x1, x2, x3, x4⟩ := (Boxed.new w f t 58 l s).below hb1 (by simp)
    have n1 : w.heap.size < w1.heap.size := World.block_lt_of_cell? _ _ x0
    have HB := Lib.hid (((Below.refl w.heap.size _).alloc (Nat.le_refl _) _).trans (hb1.mono (by simp)))
    clear hb1
    go_wp2
    go_ret
    exact ⟨ret_bool (by rw [← HR.out]; simp), HB.out⟩
  have e0 : (x == 1) = false := by simpa using g0
  by_cases g1 : x = 2
  · subst g1
    go_enter Tryd.func18, Tryd.ntmps18
    go_wp2_with fail
    refine (bothSix_at hf ht H.out).mono ?_
    rintro e w1 ⟨rfl, hb1⟩
    obtain ⟨x0, x1, x2, x3, x4⟩ := (Boxed.new w f t 58 l s).below hb1 (by simp)
    have n1 : w.heap.size < w1.heap.size := World.block_lt_of_cell? _ _ x0
    have HB := Lib.hid (((Below.refl w.heap.size _).alloc (Nat.le_refl _) _).trans (hb1.mono (by simp)))
    clear hb1
    go_wp2
    go_ret
    exact ⟨ret_bool (by rw [← HR.out]; simp), HB.out⟩
  have e1 : (x == 2) = false := by simpa using g1
  by_cases g2 : x = 3
  · subst g2
    go_enter Tryd.func18, Tryd.ntmps18
    go_wp2_with fail
    refine (bothSix_at hf ht H.out).mono ?_
    rintro e w1 ⟨rfl, hb1⟩
    obtain ⟨x0, x1, x2, x3, x4⟩ := (Boxed.new w f t 58 l s).below hb1 (by simp)
    have n1 : w.heap.size < w1.heap.size := World.block_lt_of_cell? _ _ x0
    have HB := Lib.hid (((Below.refl w.heap.size _).alloc (Nat.le_refl _) _).trans (hb1.mono (by simp)))
    clear hb1
    go_wp2
    go_ret
    exact ⟨ret_bool (by rw [← HR.out]; simp), HB.out⟩
  have e2 : (x == 3) = false := by simpa using g2
  go_enter Tryd.func18, Tryd.ntmps18
  go_wp2_with fail
  refine (bothSix_at hf ht H.out).mono ?_
  rintro e w1 ⟨rfl, hb1⟩
  obtain ⟨x0, x1, x2, x3, x4⟩ := (Boxed.new w f t 58 l s).below hb1 (by simp)
  have n1 : w.heap.size < w1.heap.size := World.block_lt_of_cell? _ _ x0
  have HB := Lib.hid (((Below.refl w.heap.size _).alloc (Nat.le_refl _) _).trans (hb1.mono (by simp)))
  clear hb1
  go_wp2
  go_ret
  exact ⟨ret_bool (by rw [← HR.out]; simp [g0, g1, g2]), HB.out⟩
/-- ports.isError6. -/
theorem isError6_at {f t : ByteArray} {p l : Int} {s : ByteArray} {r : Bool} {w : World} (hf : f.size ≤ 140737488351232) (ht : t.size ≤ 140737488351232) (hs2 : s.size ≤ 140737488351232) (hr : er6 f t p s = r) :
    Calls Tryd.prog 18 #[.agg #[.string f, .string t, .int .i64 p, .int .i64 l, .string s]] w fun e w' => e = .returned (.bool r) ∧ Below w.heap.size w w' := by
  subst hr
  by_cases h1 : p = 58
  · subst h1
    rcases h2 : six2 f t with _ | _
    · rw [show er6 f t 58 s = false by simp [er6, h2]]
      exact isError6_a f t l s w hf ht h2
    · by_cases h3 : s.size = 0
      · obtain rfl : s = ⟨#[]⟩ := by apply bts_inj; rw [List.eq_nil_of_length_eq_zero ((bts_len s).trans h3)]; rfl
        rw [show er6 f t 58 ⟨#[]⟩ = false by simp [er6, show (ByteArray.mk #[]).size = 0 from rfl]]
        exact isError6_e f t l w hf ht h2
      · refine isError6_y f t l s w hf ht h2 (by omega) hs2 _ rfl _ ?_
        simp [er6, h2, h3]
  · rw [show er6 f t p s = false by simp [er6, h1]]
    exact isError6_p f t p l s w h1

end Go.Proofs.YtomcniakffipfaaDoor
