/-
  The walk of IpvWrites.
-/
import Derived.Test.YtindajjcekgjeaaFrame
import Derived.Test.YtindajjcekgjeaaRencNo
import Derived.Test.YtindajjcekgjeaaRenc4
namespace Go.Proofs.Ytindajjcekgjeaa
open Go.ChangeShapes Go.WideShapes Go.ChangeAt Go.RowKit
set_option linter.unusedVariables false

theorem below_two {w w1 w2 w3 : World} {o : Obj} (h1 : Below (w.alloc o).heap.size (w.alloc o) w1) (h2 : Below w1.heap.size w1 w2) (h3 : Below w2.heap.size w2 w3) : Below w.heap.size w w3 := by
  have a0 : Below w.heap.size w (w.alloc o) := (Below.refl _ _).alloc (Nat.le_refl _) _
  have a1 := below_then a0 a0.size h1
  have a2 := below_then a1 a1.size h2
  exact below_then a2 a2.size h3

set_option maxHeartbeats 1000000 in
theorem writes_no (f t : ByteArray) (p l : Int) (s : ByteArray) (w : World) (hf : f.size ≤ 140737488351232) (ht : t.size ≤ 140737488351232) (hs : s.size ≤ 140737488351232) (h : ¬ Okp f t p l s) :
    Calls Try.prog 3 #[.agg #[.string f, .string t, .int .i64 p, .int .i64 l, .string s]] w fun e w' => e = .returned (.bool true) ∧ Below w.heap.size w w' := by
  go_enter Try.func3, Try.ntmps3
  go_wp2_with fail
  refine (encode_no f t p l s _ hf ht hs h).mono ?_
  rintro e w1 ⟨rfl, hb1⟩
  obtain ⟨hc1, hf1⟩ := bcell hb1
  go_wp2_with fail
  refine (renc_no f t p l s _ hf ht hs h).mono ?_
  rintro e w2 ⟨rfl, hb2⟩
  go_wp2_with fail
  refine (alive_any _).mono ?_
  rintro e w3 ⟨rfl, hb3⟩
  have hcv : (convert 25 9 (.slice none 0 0)).run Try.prog w3 = .ok (.string (strOfNums [])) w3 := convert_part (Part.gone rfl) 9 Try.underlying9
  go_wp2
  go_ret
  exact ⟨by first | rfl | simp, below_two hb1 hb2 hb3⟩

set_option maxHeartbeats 1000000 in
theorem writes_yes (f t : ByteArray) (p l : Int) (s : ByteArray) (w : World) (h : Okp f t p l s) :
    Calls Try.prog 3 #[.agg #[.string f, .string t, .int .i64 p, .int .i64 l, .string s]] w fun e w' => e = .returned (.bool true) ∧ Below w.heap.size w w' := by
  obtain ⟨n, hn⟩ : ∃ n, n = (if f.size = 16 then 40 else 20) + s.size := ⟨_, rfl⟩
  have HK := Lib.hid h
  have HN := Lib.hid hn
  clear h hn
  go_enter Try.func3, Try.ntmps3
  go_wp2_with fail
  refine (encode_yes f t p l s _ HK.out n HN.out).mono ?_
  rintro e w1 ⟨g1, c1, rfl, ho1, hb1'⟩
  have hb1 := hb1'.out
  obtain ⟨hc1, hf1⟩ := bcell hb1
  go_wp2_with fail
  refine (renc_yes f t p l s _ HK.out n HN.out).mono ?_
  rintro e w2 ⟨g2, c2, rfl, ho2, hb2'⟩
  have hb2 := hb2'.out
  have HP1 := Lib.hid ((ho1.out.part (wire_byt HK.out)).below hb2)
  have HP2 := Lib.hid (ho2.out.part (wire_byt HK.out))
  clear ho1 ho2 hb1' hb2'
  go_wp2_with fail
  refine (alive_any _).mono ?_
  rintro e w3 ⟨rfl, hb3⟩
  have hcv1 := convert_part (HP1.out.below hb3) 9 Try.underlying9
  have hcv2 := convert_part (HP2.out.below hb3) 9 Try.underlying9
  go_wp2
  go_ret
  exact ⟨by first | rfl | simp, below_two hb1 hb2 hb3⟩

theorem writes_walk (f t : ByteArray) (p l : Int) (s : ByteArray) (w : World) (hp : (Lit.int .i64 p).wf = true) (hl : (Lit.int .i64 l).wf = true) (hb : f.size ≤ 140737488351232 ∧ t.size ≤ 140737488351232 ∧ s.size ≤ 140737488351232) :
    Calls Try.prog 3 #[.agg #[.string f, .string t, .int .i64 p, .int .i64 l, .string s]] w fun e w' => e = .returned (.bool true) ∧ Below w.heap.size w w' := by
  by_cases h : Okp f t p l s
  · exact writes_yes f t p l s w h
  · exact writes_no f t p l s w hb.1 hb.2.1 hb.2.2 h

end Go.Proofs.Ytindajjcekgjeaa
