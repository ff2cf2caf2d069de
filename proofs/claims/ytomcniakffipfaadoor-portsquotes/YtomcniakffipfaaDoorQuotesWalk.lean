/-
  The walk of PortsQuotes.
-/
import Derived.Test.YtomcniakffipfaaDoorRq3
import Derived.Test.YtomcniakffipfaaDoorRq11
import Derived.Test.YtomcniakffipfaaDoorRq6
namespace Go.Proofs.YtomcniakffipfaaDoor
open Go.RowKit
set_option linter.unusedVariables false
set_option maxRecDepth 10000

set_option maxHeartbeats 400000 in
theorem quotes_big (f t : ByteArray) (p l : Int) (s : ByteArray) (w : World) (hs : 3000 < s.size) (hs2 : s.size ≤ 140737488351232) : Calls Tryd.prog 3 #[.agg #[.string f, .string t, .int .i64 p, .int .i64 l, .string s]] w fun e w' => e = .returned (.bool true) ∧ Below w.heap.size w w' := by
  have d0 : decide (3000 < (s.size : Int)) = true := by simp; omega
  have d1 : decide (3000 < s.size) = true := by simp; omega
  go_enter Tryd.func3, Tryd.ntmps3
  go_wp2_with fail
  refine (alive_any _).mono ?_
  rintro e w1 ⟨rfl, hb1⟩
  go_wp2
  go_ret
  exact ⟨rfl, ((Below.refl w.heap.size _).alloc (Nat.le_refl _) _).trans (hb1.mono (by simp))⟩

attribute [local go_sem ↓] flow_eq
set_option maxHeartbeats 1000000 in
/-- Where both answer the same. -/
theorem quotes_same (f t : ByteArray) (p l : Int) (s : ByteArray) (w : World) (hG : Glob w) (hs : s.size ≤ 3000) (g u : ByteArray) (q a c r : Int)
    (H1 : ∀ w : World, Glob w → Calls Tryd.prog 6 #[.agg #[.string f, .string t, .int .i64 p, .int .i64 l, .string s]] w fun e w' => e = .returned (.tuple #[.agg #[.int .i64 q, .string g, .string u, .int .i64 a, .int .i64 c], .int .i64 r]) ∧ Below w.heap.size w w')
    (H2 : ∀ w : World, Calls Tryd.prog 7 #[.agg #[.string f, .string t, .int .i64 p, .int .i64 l, .string s]] w fun e w' => e = .returned (.tuple #[.agg #[.int .i64 q, .string g, .string u, .int .i64 a, .int .i64 c], .int .i64 r]) ∧ Below w.heap.size w w') : Calls Tryd.prog 3 #[.agg #[.string f, .string t, .int .i64 p, .int .i64 l, .string s]] w fun e w' => e = .returned (.bool true) ∧ Below w.heap.size w w' := by
  have d0 : decide (3000 < (s.size : Int)) = false := by simp; omega
  have d1 : decide (3000 < s.size) = false := by simp; omega
  have G1 := Lib.hid (H1 _ (hG.alloc (.cells #[.string f, .string t, .int .i64 p, .int .i64 l, .string s] 24)))
  have G2 := Lib.hid H2
  clear H1 H2 hG
  go_enter Tryd.func3, Tryd.ntmps3
  go_wp2_with fail
  refine G1.out.mono ?_
  rintro e w1 ⟨rfl, hb1⟩
  have HB1 := Lib.hid (((Below.refl w.heap.size _).alloc (Nat.le_refl _) _).trans (hb1.mono (by simp)))
  obtain ⟨x0, x1, x2, x3, x4⟩ := (Boxed.new w f t p l s).below hb1 (by simp)
  have n1 : w.heap.size < w1.heap.size := World.block_lt_of_cell? _ _ x0
  clear hb1
  go_wp2_with fail
  refine (G2.out _).mono ?_
  rintro e w2 ⟨rfl, hb2⟩
  have HA2 := Lib.hid ((BoxF.new w1 g u q a c).below hb2 (by simp))
  have HB2 := Lib.hid ((HB1.out.alloc (by omega) _).trans (hb2.mono (by simp; omega)))
  have n3 : w1.heap.size < w2.heap.size := World.block_lt_of_cell? _ _ HA2.out.1
  clear hb2 x0 x1 x2 x3 x4
  go_wp2_with fail
  refine (alive_any _).mono ?_
  rintro e w3 ⟨rfl, hb3⟩
  obtain ⟨a0, a1, a2, a3, a4⟩ := (HA2.out.below ((Below.refl w2.heap.size _).alloc (Nat.le_refl _) (.cells #[.int .i64 q, .string g, .string u, .int .i64 a, .int .i64 c] 27)) n3).below hb3 (by simp; omega)
  obtain ⟨b0, b1, b2, b3, b4⟩ := (BoxF.new w2 g u q a c).below hb3 (by simp)
  have n4 : w1.heap.size < w3.heap.size := World.block_lt_of_cell? _ _ a0
  have n5 : w2.heap.size < w3.heap.size := World.block_lt_of_cell? _ _ b0
  have HB3 := Lib.hid ((HB2.out.alloc (by omega) _).trans (hb3.mono (by simp; omega)))
  clear hb3
  go_wp2
  go_ret
  exact ⟨by first | rfl | simp, HB3.out⟩

theorem rq4_3_ok (f t : ByteArray) (l : Int) (s : ByteArray) (w : World) (hf : f.size = 4) (ht : t.size = 4) (hs : 0 < s.size) (hs2 : s.size ≤ 3000) (hx : byteAt (bts s) 0 = 3) (hv : fd (tot (bts s)) = 65535) (q : Int) (h : qtfour s q) : Calls Tryd.prog 7 #[.agg #[.string f, .string t, .int .i64 1, .int .i64 l, .string s]] w fun e w' => e = .returned (.tuple #[.agg #[.int .i64 q, .string (s.extract 20 24), .string (s.extract 24 28), .int .i64 (twoAt (bts s) 28), .int .i64 (twoAt (bts s) 30)], .int .i64 0]) ∧ Below w.heap.size w w' := by
  obtain ⟨h1, ⟨y, hy, h0⟩, hq, hq2⟩ := h
  rcases ports_parts hq2 with rfl | rfl
  · exact rq4_3_yes6 f t l s w hf ht hs hs2 hx hv h1 y hy h0 hq _ _ _ _ _ _ rfl rfl rfl rfl (twoAt_seg s 28 30 (by omega) (by omega)) (twoAt_seg s 30 32 (by omega) (by omega))
  · exact rq4_3_yes17 f t l s w hf ht hs hs2 hx hv h1 y hy h0 hq _ _ _ _ _ _ rfl rfl rfl rfl (twoAt_seg s 28 30 (by omega) (by omega)) (twoAt_seg s 30 32 (by omega) (by omega))
theorem rq4_3_bad (f t : ByteArray) (l : Int) (s : ByteArray) (w : World) (hf : f.size = 4) (ht : t.size = 4) (hs : 0 < s.size) (hs2 : s.size ≤ 3000) (hx : byteAt (bts s) 0 = 3) (hv : fd (tot (bts s)) = 65535) (h : ¬ ∃ q, qtfour s q) : Calls Tryd.prog 7 #[.agg #[.string f, .string t, .int .i64 1, .int .i64 l, .string s]] w fun e w' => e = .returned (.tuple #[.agg #[.int .i64 0, .string ⟨#[]⟩, .string ⟨#[]⟩, .int .i64 0, .int .i64 0], .int .i64 53]) ∧ Below w.heap.size w w' := by
  by_cases h1 : s.size < 32
  · exact rq4_3_short f t l s w hf ht hs hs2 hx hv h1
  · obtain ⟨y, hy⟩ : ∃ y, byteAt (bts s) 8 = y := ⟨_, rfl⟩
    by_cases h0 : y = 69
    · refine rq4_3_proto f t l s w hf ht hs hs2 hx hv (by omega) y hy h0 _ rfl ?_
      rcases e : portsB (byteAt (bts s) 17) with _ | _
      · rfl
      · exact absurd ⟨_, by omega, ⟨y, hy, h0⟩, rfl, e⟩ h
    · exact rq4_3_first f t l s w hf ht hs hs2 hx hv (by omega) y hy h0

theorem rq4_11_ok (f t : ByteArray) (l : Int) (s : ByteArray) (w : World) (hf : f.size = 4) (ht : t.size = 4) (hs : 0 < s.size) (hs2 : s.size ≤ 3000) (hx : byteAt (bts s) 0 = 11) (hv : fd (tot (bts s)) = 65535) (q : Int) (h : qtfour s q) : Calls Tryd.prog 7 #[.agg #[.string f, .string t, .int .i64 1, .int .i64 l, .string s]] w fun e w' => e = .returned (.tuple #[.agg #[.int .i64 q, .string (s.extract 20 24), .string (s.extract 24 28), .int .i64 (twoAt (bts s) 28), .int .i64 (twoAt (bts s) 30)], .int .i64 0]) ∧ Below w.heap.size w w' := by
  obtain ⟨h1, ⟨y, hy, h0⟩, hq, hq2⟩ := h
  rcases ports_parts hq2 with rfl | rfl
  · exact rq4_11_yes6 f t l s w hf ht hs hs2 hx hv h1 y hy h0 hq _ _ _ _ _ _ rfl rfl rfl rfl (twoAt_seg s 28 30 (by omega) (by omega)) (twoAt_seg s 30 32 (by omega) (by omega))
  · exact rq4_11_yes17 f t l s w hf ht hs hs2 hx hv h1 y hy h0 hq _ _ _ _ _ _ rfl rfl rfl rfl (twoAt_seg s 28 30 (by omega) (by omega)) (twoAt_seg s 30 32 (by omega) (by omega))
theorem rq4_11_bad (f t : ByteArray) (l : Int) (s : ByteArray) (w : World) (hf : f.size = 4) (ht : t.size = 4) (hs : 0 < s.size) (hs2 : s.size ≤ 3000) (hx : byteAt (bts s) 0 = 11) (hv : fd (tot (bts s)) = 65535) (h : ¬ ∃ q, qtfour s q) : Calls Tryd.prog 7 #[.agg #[.string f, .string t, .int .i64 1, .int .i64 l, .string s]] w fun e w' => e = .returned (.tuple #[.agg #[.int .i64 0, .string ⟨#[]⟩, .string ⟨#[]⟩, .int .i64 0, .int .i64 0], .int .i64 53]) ∧ Below w.heap.size w w' := by
  by_cases h1 : s.size < 32
  · exact rq4_11_short f t l s w hf ht hs hs2 hx hv h1
  · obtain ⟨y, hy⟩ : ∃ y, byteAt (bts s) 8 = y := ⟨_, rfl⟩
    by_cases h0 : y = 69
    · refine rq4_11_proto f t l s w hf ht hs hs2 hx hv (by omega) y hy h0 _ rfl ?_
      rcases e : portsB (byteAt (bts s) 17) with _ | _
      · rfl
      · exact absurd ⟨_, by omega, ⟨y, hy, h0⟩, rfl, e⟩ h
    · exact rq4_11_first f t l s w hf ht hs hs2 hx hv (by omega) y hy h0

theorem rq6_ok (f t : ByteArray) (l : Int) (s : ByteArray) (w : World) (hf : f.size = 16) (ht : t.size = 16) (hs : 0 < s.size) (hs2 : s.size ≤ 3000) (x : Int) (hxb : 1 ≤ x ∧ x ≤ 3) (hx : byteAt (bts s) 0 = x) (hv : fd (tot (psx f t 58 (s.size : Int) ++ bts s)) = 65535) (q : Int) (h : qtsix s q) : Calls Tryd.prog 7 #[.agg #[.string f, .string t, .int .i64 58, .int .i64 l, .string s]] w fun e w' => e = .returned (.tuple #[.agg #[.int .i64 q, .string (s.extract 16 32), .string (s.extract 32 48), .int .i64 (twoAt (bts s) 48), .int .i64 (twoAt (bts s) 50)], .int .i64 0]) ∧ Below w.heap.size w w' := by
  obtain ⟨h1, ⟨y, hy, h0⟩, hq, hq2⟩ := h
  rcases ports_parts hq2 with rfl | rfl
  · exact rq6_yes6 f t l s w hf ht hs hs2 x hxb hx hv h1 y hy h0 hq _ _ _ _ _ _ rfl rfl rfl rfl (twoAt_seg s 48 50 (by omega) (by omega)) (twoAt_seg s 50 52 (by omega) (by omega))
  · exact rq6_yes17 f t l s w hf ht hs hs2 x hxb hx hv h1 y hy h0 hq _ _ _ _ _ _ rfl rfl rfl rfl (twoAt_seg s 48 50 (by omega) (by omega)) (twoAt_seg s 50 52 (by omega) (by omega))
theorem rq6_bad (f t : ByteArray) (l : Int) (s : ByteArray) (w : World) (hf : f.size = 16) (ht : t.size = 16) (hs : 0 < s.size) (hs2 : s.size ≤ 3000) (x : Int) (hxb : 1 ≤ x ∧ x ≤ 3) (hx : byteAt (bts s) 0 = x) (hv : fd (tot (psx f t 58 (s.size : Int) ++ bts s)) = 65535) (h : ¬ ∃ q, qtsix s q) : Calls Tryd.prog 7 #[.agg #[.string f, .string t, .int .i64 58, .int .i64 l, .string s]] w fun e w' => e = .returned (.tuple #[.agg #[.int .i64 0, .string ⟨#[]⟩, .string ⟨#[]⟩, .int .i64 0, .int .i64 0], .int .i64 53]) ∧ Below w.heap.size w w' := by
  by_cases h1 : s.size < 52
  · exact rq6_short f t l s w hf ht hs hs2 x hxb hx hv h1
  · obtain ⟨y, hy⟩ : ∃ y, byteAt (bts s) 8 = y := ⟨_, rfl⟩
    by_cases h0 : y / 16 = 6
    · refine rq6_proto f t l s w hf ht hs hs2 x hxb hx hv (by omega) y hy h0 _ rfl ?_
      rcases e : portsB (byteAt (bts s) 14) with _ | _
      · rfl
      · exact absurd ⟨_, by omega, ⟨y, hy, h0⟩, rfl, e⟩ h
    · exact rq6_first f t l s w hf ht hs hs2 x hxb hx hv (by omega) y hy h0

theorem er4_parts {f t : ByteArray} {p : Int} {s : ByteArray} (h : er4 f t p s = true) : p = 1 ∧ f.size = 4 ∧ t.size = 4 ∧ 0 < s.size ∧ (byteAt (bts s) 0 = 3 ∨ byteAt (bts s) 0 = 11) := by
  simp only [er4, four2, Bool.and_eq_true, decide_eq_true_eq] at h
  omega
theorem er6_parts {f t : ByteArray} {p : Int} {s : ByteArray} (h : er6 f t p s = true) : p = 58 ∧ f.size = 16 ∧ t.size = 16 ∧ 0 < s.size ∧ (1 ≤ byteAt (bts s) 0 ∧ byteAt (bts s) 0 ≤ 3) := by
  simp only [er6, six2, Bool.and_eq_true, decide_eq_true_eq] at h
  omega
theorem er6_not {f t : ByteArray} {p : Int} {s : ByteArray} (h : er6 f t p s = true) : er4 f t p s = false := by
  obtain ⟨rfl, _⟩ := er6_parts h
  simp [er4]

theorem quotes_walk (f t : ByteArray) (p l : Int) (s : ByteArray) (w : World) (hG : Glob w) (hp : -9223372036854775808 ≤ p ∧ p ≤ 9223372036854775807) (hb : f.size ≤ 140737488351232 ∧ t.size ≤ 140737488351232 ∧ s.size ≤ 140737488351232) : Calls Tryd.prog 3 #[.agg #[.string f, .string t, .int .i64 p, .int .i64 l, .string s]] w fun e w' => e = .returned (.bool true) ∧ Below w.heap.size w w' := by
  obtain ⟨hf, ht, hs0⟩ := hb
  by_cases h0 : 3000 < s.size
  · exact quotes_big f t p l s w h0 hs0
  have hs : s.size ≤ 3000 := by omega
  rcases h4 : er4 f t p s with _ | _
  · rcases h6 : er6 f t p s with _ | _
    · exact quotes_same f t p l s w hG hs _ _ _ _ _ _ (fun w _ => quoted_none f t p l s w hf ht hs h4 h6) (fun w => rq_none f t p l s w hf ht hs h4 h6)
    · obtain ⟨rfl, g1, g2, g3, g4⟩ := er6_parts h6
      by_cases hv : fd (tot (psx f t 58 (s.size : Int) ++ bts s)) = 65535
      · by_cases hq : ∃ q, qtsix s q
        · obtain ⟨q, hq⟩ := hq
          exact quotes_same f t 58 l s w hG hs _ _ _ _ _ _ (fun w hG => quoted_pass6 f t 58 l s w hf ht hs hp hG h4 h6 hv _ _ _ _ _ _ (fun w hG => quoted_six_yes s q w hG hs hq)) (fun w => rq6_ok f t l s w g1 g2 g3 hs _ g4 rfl hv q hq)
        · exact quotes_same f t 58 l s w hG hs _ _ _ _ _ _ (fun w hG => quoted_pass6 f t 58 l s w hf ht hs hp hG h4 h6 hv _ _ _ _ _ _ (fun w hG => quoted_six_no s w hG hs hq)) (fun w => rq6_bad f t l s w g1 g2 g3 hs _ g4 rfl hv hq)
      · exact quotes_same f t 58 l s w hG hs _ _ _ _ _ _ (fun w _ => quoted_sum6 f t 58 l s w hf ht hs hp h4 h6 _ rfl hv) (fun w => rq6_sum f t l s w g1 g2 g3 hs _ g4 rfl _ rfl hv)
  · obtain ⟨rfl, g1, g2, g3, g4⟩ := er4_parts h4
    by_cases hv : fd (tot (bts s)) = 65535
    · by_cases hq : ∃ q, qtfour s q
      · obtain ⟨q, hq⟩ := hq
        refine quotes_same f t 1 l s w hG hs _ _ _ _ _ _ (fun w hG => quoted_pass4 f t 1 l s w hf ht hs hG h4 hv _ _ _ _ _ _ (fun w hG => quoted_four_yes s q w hG hs hq)) (fun w => ?_)
        rcases g4 with g4 | g4
        · exact rq4_3_ok f t l s w g1 g2 g3 hs g4 hv q hq
        · exact rq4_11_ok f t l s w g1 g2 g3 hs g4 hv q hq
      · refine quotes_same f t 1 l s w hG hs _ _ _ _ _ _ (fun w hG => quoted_pass4 f t 1 l s w hf ht hs hG h4 hv _ _ _ _ _ _ (fun w hG => quoted_four_no s w hG hs hq)) (fun w => ?_)
        rcases g4 with g4 | g4
        · exact rq4_3_bad f t l s w g1 g2 g3 hs g4 hv hq
        · exact rq4_11_bad f t l s w g1 g2 g3 hs g4 hv hq
    · refine quotes_same f t 1 l s w hG hs _ _ _ _ _ _ (fun w _ => quoted_sum4 f t 1 l s w hf ht hs h4 _ rfl hv) (fun w => ?_)
      rcases g4 with g4 | g4
      · exact rq4_3_sum f t l s w g1 g2 g3 hs g4 _ rfl hv
      · exact rq4_11_sum f t l s w g1 g2 g3 hs g4 _ rfl hv

end Go.Proofs.YtomcniakffipfaaDoor
