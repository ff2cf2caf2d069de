/-
  What the texts of ports share: texts as bytes, two parts of a sum, what ipv.Pseudo and the reference's tell of whatever addresses, a packet and a head in memory.
-/
import Derived.Test.YtpcdaidgijkkbaaPseudo
import Derived.Test.YtpcdaidgijkkbaaRpseudo
import Derived.Lib.BufferWrite
import Derived.Deep.RegionHeld3
namespace Go.Proofs.Ytpcdaidgijkkbaa
open Go.RowKit
set_option linter.unusedVariables false
set_option maxRecDepth 40000

theorem byt_of {l : List Int} (h : l.all (fun x => decide (0 ≤ x) && decide (x ≤ 255)) = true) : Byt l := fun x hx => by have := List.all_eq_true.1 h x hx; simpa using this
theorem bts_inj {s t : ByteArray} (h : bts s = bts t) : s = t := by rw [← strOfNums_bts s, h, strOfNums_bts]
theorem append_str (s t : ByteArray) : s ++ t = strOfNums (bts s ++ bts t) := by rw [← bts_append, strOfNums_bts]
theorem strOfNums_size (l : List Int) : (strOfNums l).size = l.length := by rw [strOfNums, ByteArray.size]; simp

theorem okp_small {f t s : ByteArray} {p l : Int} (h : Okp f t p l s) : f.size ≤ 16 ∧ t.size ≤ 16 ∧ s.size ≤ 1480 ∧ f.size = t.size ∧ (0 ≤ p ∧ p ≤ 255) ∧ (0 ≤ l ∧ l ≤ 255) := by
  obtain ⟨h1, h2, h3, h4⟩ := h
  simp [alikeB, rightB] at h1
  simp [byteB] at h2 h3
  unfold headI at h4
  refine ⟨by omega, by omega, ?_, by omega, h2, h3⟩
  split at h4 <;> omega

/-- Two packets are compared field by field. -/
theorem pk_eq (f t s f' t' s' : ByteArray) (p l p' l' : Int) (w : World) :
    (Op.equalIn 10000 66 (.agg #[.string f, .string t, .int .i64 p, .int .i64 l, .string s]) (.agg #[.string f', .string t', .int .i64 p', .int .i64 l', .string s'])).run Try.prog w = .ok ((f.toList == f'.toList) && ((t.toList == t'.toList) && ((p == p') && ((l == l') && (s.toList == s'.toList))))) w := by
  rw [show (10000 : Nat) = 9999 + 1 from rfl, run_equalIn_agg w 9999 66 _ _ (by kernel_rfl) (by kernel_rfl)]
  simp [Program.fieldsOf, Try.underlying66, Op.eqFields, part, isAgg, run_underlying Try.underlying22, run_underlying Try.underlying3, run_underlying Try.underlying9, run_equalIn_int w 9998 3 .i64 .i64 _ _ Try.underlying3, run_equalIn_string w 9998 9 _ _ Try.underlying9, run_equalIn_string w 9998 22 _ _ Try.underlying22]
  repeat' (split <;> simp_all)

theorem Parts.two {w : World} {gb : Nat} {p q : PartV} (hc : w.cell? ⟨gb, 0, none⟩ = some p.val) (hd : w.cell? ⟨gb, 1, none⟩ = some q.val) (hp : Part w p) (hq : Part w q) (hl : p.n ≤ 140737488355328) (hm : q.n ≤ 140737488355328) : Parts w gb [p, q] := by
  refine ⟨fun j r hr => ?_, fun r hr => ?_, by simp, ?_⟩
  · match j, hr with
    | 0, hr => simp at hr; subst hr; exact hc
    | 1, hr => simp at hr; subst hr; exact hd
  · simp at hr
    rcases hr with rfl | rfl
    · exact hp
    · exact hq
  · simp [flat, hp.1, hq.1]; omega

theorem put_v {w : World} {gb m : Nat} {ps : List PartV} (h : Parts w gb ps) (hm : ps.length = m) {v : Int} (hs : 65535 - fd (tot (flat ps)) = v) :
    Calls Try.prog 56 #[.slice (some ⟨gb, 0, none⟩) m m] w fun e w' => e = .returned (.int .u16 v) ∧ ∃ k, w' = w.drewN k := by subst hs; exact put_at h hm rfl

theorem wpAnyH_more {P : Program} {md : Region.Mode} {ops : Array Oper} {Q : Exit → Act → World → Prop} {S S' : World → Prop} (hS : ∀ w, S' w → S w) : ∀ (fuel : Nat) (listed : Array Bool) (a : Act) (w : World), wpAnyH P md ops Q S' fuel listed a w → wpAnyH P md ops Q S fuel listed a w
  | 0, _, _, _, h => h
  | fuel + 1, _, _, _, h => ⟨h.1, fun i hi => wpOp_mono (fun a' w' h' => ⟨hS _ h'.1, wpAnyH_more hS fuel _ a' w' h'.2⟩) (h.2 i hi)⟩

/-- What a sum goes over beside a body, of whatever addresses. -/
def psx (f t : ByteArray) (p x : Int) : List Int := if alikeB f t = true then pseu f t p x else []
theorem psx_byt (f t : ByteArray) (p x : Int) : Byt (psx f t p x) := by
  unfold psx
  split
  · exact pseu_byt f t p x
  · exact Byt.nil
theorem psx_even (f t : ByteArray) (p x : Int) : (psx f t p x).length % 2 = 0 ∧ (psx f t p x).length ≤ 40 := by
  unfold psx
  split
  · rename_i h
    simp [alikeB, rightB] at h
    unfold pseu
    split <;> (simp [bts_len]; omega)
  · simp

/-- ipv.Pseudo. -/
theorem pseudo_part (f t : ByteArray) (p x : Int) (w : World) (hf : f.size ≤ 140737488351232) (ht : t.size ≤ 140737488351232) (hp : -9223372036854775808 ≤ p ∧ p ≤ 9223372036854775807) (hx : -9223372036854775808 ≤ x ∧ x ≤ 9223372036854775807) :
    Calls Try.prog 66 #[.string f, .string t, .int .i64 p, .int .i64 x] w fun e w' => ∃ A n c, e = .returned (.slice A n c) ∧ n ≤ 40 ∧ Hid (Part w' ⟨A, n, c, psx f t p x⟩) ∧ Hid (Below w.heap.size w w') := by
  rcases h : alikeB f t with _ | _
  · refine (pseudo_no f t p x w hf ht h).mono ?_
    rintro e w' ⟨rfl, hb⟩
    exact ⟨_, _, _, rfl, by omega, Lib.hid (by rw [psx, h]; exact Part.gone rfl), Lib.hid hb⟩
  · have e1 : psx f t p x = pseu f t p x := by rw [psx, h]; rfl
    have h' := h
    simp [alikeB, rightB] at h'
    by_cases h4 : f.size = 4
    · refine (pseudo_four f t p x w hp hx h4 (by omega)).mono ?_
      rintro e w' ⟨g, c, rfl, ho, hb⟩
      exact ⟨_, _, _, rfl, by omega, Lib.hid (by rw [e1]; exact ho.out.part (pseu_byt f t p x)), hb⟩
    · refine (pseudo_six f t p x w hp hx (by omega) (by omega)).mono ?_
      rintro e w' ⟨g, c, rfl, ho, hb⟩
      exact ⟨_, _, _, rfl, by omega, Lib.hid (by rw [e1]; exact ho.out.part (pseu_byt f t p x)), hb⟩

/-- outriderref03.Pseudo. -/
theorem rpseudo_part (f t : ByteArray) (p x : Int) (w : World) (hf : f.size ≤ 140737488351232) (ht : t.size ≤ 140737488351232) (hp : -9223372036854775808 ≤ p ∧ p ≤ 9223372036854775807) (hx : -9223372036854775808 ≤ x ∧ x ≤ 9223372036854775807) :
    Calls Try.prog 68 #[.string f, .string t, .int .i64 p, .int .i64 x] w fun e w' => ∃ A n c, e = .returned (.slice A n c) ∧ n ≤ 40 ∧ Hid (Part w' ⟨A, n, c, psx f t p x⟩) ∧ Hid (Below w.heap.size w w') := by
  rcases h : alikeB f t with _ | _
  · have hz : Calls Try.prog 68 #[.string f, .string t, .int .i64 p, .int .i64 x] w fun e w' => e = .returned (.slice none 0 0) ∧ Below w.heap.size w w' := by
      rcases h1 : rightB f with _ | _
      · exact rpseudo_no1 f t p x w hf ht h1
      · exact rpseudo_no2 f t p x w hf ht h1 (fun h2 => by simp [alikeB, h1, h2] at h)
    refine hz.mono ?_
    rintro e w' ⟨rfl, hb⟩
    exact ⟨_, _, _, rfl, by omega, Lib.hid (by rw [psx, h]; exact Part.gone rfl), Lib.hid hb⟩
  · have e1 : psx f t p x = pseu f t p x := by rw [psx, h]; rfl
    have h' := h
    simp [alikeB, rightB] at h'
    by_cases h4 : f.size = 4
    · refine (rpseudo_four f t p x w hp hx h4 (by omega)).mono ?_
      rintro e w' ⟨g, c, rfl, ho, hb⟩
      exact ⟨_, _, _, rfl, by omega, Lib.hid (by rw [e1]; exact ho.out.part (pseu_byt f t p x)), hb⟩
    · refine (rpseudo_six f t p x w hp hx (by omega) (by omega)).mono ?_
      rintro e w' ⟨g, c, rfl, ho, hb⟩
      exact ⟨_, _, _, rfl, by omega, Lib.hid (by rw [e1]; exact ho.out.part (pseu_byt f t p x)), hb⟩

/-- A head lies in a block. -/
def BoxH (W : World) (N : Nat) (p a b l k : Int) : Prop :=
  W.cell? ⟨N, 0, none⟩ = some (.int .i64 p) ∧ W.cell? ⟨N, 1, none⟩ = some (.int .i64 a) ∧ W.cell? ⟨N, 2, none⟩ = some (.int .i64 b) ∧ W.cell? ⟨N, 3, none⟩ = some (.int .i64 l) ∧ W.cell? ⟨N, 4, none⟩ = some (.int .i64 k)
theorem BoxH.below {W W' : World} {N B : Nat} {p a b l k : Int} (h : BoxH W N p a b l k) (hb : Below B W W') (hN : N < B) : BoxH W' N p a b l k :=
  ⟨(hb.cell (p := ⟨N, 0, none⟩) hN).trans h.1, (hb.cell (p := ⟨N, 1, none⟩) hN).trans h.2.1, (hb.cell (p := ⟨N, 2, none⟩) hN).trans h.2.2.1, (hb.cell (p := ⟨N, 3, none⟩) hN).trans h.2.2.2.1, (hb.cell (p := ⟨N, 4, none⟩) hN).trans h.2.2.2.2⟩
end Go.Proofs.Ytpcdaidgijkkbaa
