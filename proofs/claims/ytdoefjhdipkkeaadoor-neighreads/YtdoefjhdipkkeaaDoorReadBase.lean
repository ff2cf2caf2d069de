/-
  What a frame says, as a function of its bytes.
-/
import Derived.Test.YtdoefjhdipkkeaaDoorAskBase
import Derived.Test.YtdoefjhdipkkeaaDoorDecAny
import Derived.Test.YtdoefjhdipkkeaaDoorFacts
import Derived.Test.YtdoefjhdipkkeaaDoorShelf
namespace Go.Proofs.YtdoefjhdipkkeaaDoor
open Go.RowKit
set_option linter.unusedVariables false
set_option maxRecDepth 10000


/-- What a frame says. -/
structure Nt where
  k : Int
  m0 : Int
  m1 : Int
  m2 : Int
  m3 : Int
  m4 : Int
  m5 : Int
  a : ByteArray
  t : ByteArray
  q : Bool
def Nt.zero : Nt := ⟨0, 0, 0, 0, 0, 0, 0, ⟨#[]⟩, ⟨#[]⟩, false⟩
def Nt.val (n : Nt) : Value := .agg #[.int .i64 n.k, .int .u8 n.m0, .int .u8 n.m1, .int .u8 n.m2, .int .u8 n.m3, .int .u8 n.m4, .int .u8 n.m5, .string n.a, .string n.t, .bool n.q]
/-- An ARP. -/
def rdArp (b : List Int) : Nt × Int :=
  if b.length < 28 then (Nt.zero, 40)
  else if b.take 7 ≠ [0, 1, 8, 0, 6, 4, 0] then (Nt.zero, 40)
  else if byteAt b 7 ≠ 1 ∧ byteAt b 7 ≠ 2 then (Nt.zero, 40)
  else (⟨byteAt b 7, byteAt b 8, byteAt b 9, byteAt b 10, byteAt b 11, byteAt b 12, byteAt b 13, seg b 14 4, seg b 24 4, decide (byteAt b 7 = 2)⟩, 0)
/-- Is an ND of the form? -/
def isF (b : List Int) (x y : Int) : Bool := ((byteAt b 0 == x) && (byteAt b 1 == 0) && (byteAt b 24 == y) && (byteAt b 25 == 1))
/-- An ND, out of its packet. -/
def rdNd (p : Pk) : Nt × Int :=
  if p.f.size ≠ 16 ∨ p.p ≠ 58 ∨ p.l ≠ 255 ∨ p.s.size ≠ 32 then (Nt.zero, 40)
  else if isF (bts p.s) 135 1 = false ∧ isF (bts p.s) 136 2 = false then (Nt.zero, 40)
  else if fd (tot (pseu p.f p.t 58 32 ++ bts p.s)) ≠ 65535 then (Nt.zero, 41)
  else if isF (bts p.s) 135 1 = true then (⟨1, byteAt (bts p.s) 26, byteAt (bts p.s) 27, byteAt (bts p.s) 28, byteAt (bts p.s) 29, byteAt (bts p.s) 30, byteAt (bts p.s) 31, p.f, seg (bts p.s) 8 16, false⟩, 0)
  else (⟨2, byteAt (bts p.s) 26, byteAt (bts p.s) 27, byteAt (bts p.s) 28, byteAt (bts p.s) 29, byteAt (bts p.s) 30, byteAt (bts p.s) 31, seg (bts p.s) 8 16, p.t, decide (byteAt (bts p.s) 4 / 64 % 2 = 1)⟩, 0)
def rdV6 (b : List Int) : Nt × Int := if (dec b).2 ≠ 0 then (Nt.zero, 40) else rdNd (dec b).1
/-- A frame. -/
def rd (ty : Int) (b : List Int) : Nt × Int := if ty = 2054 then rdArp b else if ty = 34525 then rdV6 b else (Nt.zero, 40)

theorem below10 {B : Nat} {w W : World} (h : Below B w W) {v0 v1 v2 v3 v4 v5 v6 v7 v8 v9 : Value} :
    Below B w ((((((((((W.setCell ⟨B, 0, none⟩ v0).setCell ⟨B, 1, none⟩ v1).setCell ⟨B, 2, none⟩ v2).setCell ⟨B, 3, none⟩ v3).setCell ⟨B, 4, none⟩ v4).setCell ⟨B, 5, none⟩ v5).setCell ⟨B, 6, none⟩ v6).setCell ⟨B, 7, none⟩ v7).setCell ⟨B, 8, none⟩ v8).setCell ⟨B, 9, none⟩ v9) := ((((((((((h.setCell (Nat.le_refl _) _).setCell (Nat.le_refl _) _).setCell (Nat.le_refl _) _).setCell (Nat.le_refl _) _).setCell (Nat.le_refl _) _).setCell (Nat.le_refl _) _).setCell (Nat.le_refl _) _).setCell (Nat.le_refl _) _).setCell (Nat.le_refl _) _).setCell (Nat.le_refl _) _)
theorem form_eq (a0 a1 a2 a3 b0 b1 b2 b3 : Int) (w : World) :
    (Op.equalIn 10000 63 (.agg #[.int .u8 a0, .int .u8 a1, .int .u8 a2, .int .u8 a3]) (.agg #[.int .u8 b0, .int .u8 b1, .int .u8 b2, .int .u8 b3])).run Tryd.prog w = .ok ((a0 == b0) && (a1 == b1) && (a2 == b2) && (a3 == b3)) w := by
  obtain ⟨i, hi, -, -, -⟩ := info_parts info5
  rw [show (10000 : Nat) = 9999 + 1 from rfl, run_equalIn_array w 9999 _ _ Tryd.underlying63 hi]
  have hc : Tryd.prog.cellsOf 5 = 1 := by kernel_rfl
  rw [hc]
  simp [List.range, List.range.loop, Op.eqItems, part, isAgg, run_underlying Tryd.underlying5, run_equalIn_int w 9998 5 .u8 .u8 _ _ Tryd.underlying5]
  repeat' (split <;> simp_all)

/-- An answer of Read. -/
def Told (x : Nt × Int) (w : World) (e : Ending) (w' : World) : Prop := e = .returned (.tuple #[x.1.val, .int .i64 x.2]) ∧ Below w.heap.size w w'

theorem prefix_bts (s p : ByteArray) : Lib.hasPrefix s.data.toList p.data.toList = decide ((bts s).take p.size = bts p) := by
  rw [Bool.eq_iff_iff, Lib.hasPrefix, List.isPrefixOf_iff_prefix, List.prefix_iff_eq_take, decide_eq_true_iff]
  have hp : p.size = p.data.toList.length := by simp
  constructor
  · intro h
    rw [bts, bts, ← List.map_take, hp, ← h]
  · intro h
    have h2 : bts ⟨(s.data.toList.take p.size).toArray⟩ = bts p := by rw [← h]; simp [bts, List.map_take]
    have h3 := congrArg (fun x : ByteArray => x.data.toList) (bts_inj h2)
    simp only at h3
    rw [← hp]
    exact h3.symm
theorem bts_extract (s : ByteArray) (i j : Nat) : bts (s.extract i j) = ((bts s).drop i).take (j - i) := by
  simp [bts, ByteArray.data_extract, Array.toList_extract, List.extract, List.map_take, List.map_drop]

end Go.Proofs.YtdoefjhdipkkeaaDoor
