/-
  The program's two variables; the groups' cards.
-/
import Derived.Test.YtdoefjhdipkkeaaDoorSendNd
import Derived.Test.YtdoefjhdipkkeaaDoorSendArp
import Derived.Test.YtdoefjhdipkkeaaDoorEManys
import Derived.Test.YtdoefjhdipkkeaaDoorDec
namespace Go.Proofs.YtdoefjhdipkkeaaDoor
open Go.RowKit
set_option linter.unusedVariables false
set_option maxRecDepth 10000


/-- The two forms of an ND, as the program's variables hold them. -/
def Glob (W : World) : Prop := W.cell? ⟨0, 0, none⟩ = some (.int .u8 135) ∧ W.cell? ⟨0, 1, none⟩ = some (.int .u8 0) ∧ W.cell? ⟨0, 2, none⟩ = some (.int .u8 1) ∧ W.cell? ⟨0, 3, none⟩ = some (.int .u8 1) ∧ W.cell? ⟨1, 0, none⟩ = some (.int .u8 136) ∧ W.cell? ⟨1, 1, none⟩ = some (.int .u8 0) ∧ W.cell? ⟨1, 2, none⟩ = some (.int .u8 2) ∧ W.cell? ⟨1, 3, none⟩ = some (.int .u8 1)
theorem Glob.size {W : World} (h : Glob W) : 2 ≤ W.heap.size := World.block_lt_of_cell? _ _ h.2.2.2.2.1
theorem Glob.below {W W' : World} {B : Nat} (h : Glob W) (hb : Below B W W') (hB : 2 ≤ B) : Glob W' := by
  obtain ⟨h0, h1, h2, h3, h4, h5, h6, h7⟩ := h
  exact ⟨(hb.cell (show 0 < B by omega)).trans h0, (hb.cell (show 0 < B by omega)).trans h1, (hb.cell (show 0 < B by omega)).trans h2, (hb.cell (show 0 < B by omega)).trans h3, (hb.cell (show 1 < B by omega)).trans h4, (hb.cell (show 1 < B by omega)).trans h5, (hb.cell (show 1 < B by omega)).trans h6, (hb.cell (show 1 < B by omega)).trans h7⟩
theorem Glob.alloc {W : World} (h : Glob W) (o : Obj) : Glob (W.alloc o) := h.below ((Below.refl _ _).alloc (Nat.le_refl _) o) h.size
theorem Glob.drew {W : World} (h : Glob W) : Glob W.drew := h

theorem near_lit16 (c0 c1 c2 c3 c4 c5 c6 c7 c8 c9 c10 c11 c12 c13 c14 c15 : UInt8) : near ⟨#[c0, c1, c2, c3, c4, c5, c6, c7, c8, c9, c10, c11, c12, c13, c14, c15]⟩ = ⟨#[255, 2, 0, 0, 0, 0, 0, 0, 0, 0, 0, 1, 255, c13, c14, c15]⟩ := by
  apply bts_inj
  rw [near, if_pos (show ByteArray.size ⟨#[c0, c1, c2, c3, c4, c5, c6, c7, c8, c9, c10, c11, c12, c13, c14, c15]⟩ = 16 from rfl), bts_strOfNums (Byt.append (byt_of rfl) ((bts_byt _).drop 13))]
  rfl
/-- ether.Many of the group that is asked. -/
theorem many_near (t : ByteArray) (h : t.size = 16) (W : World) : Calls Tryd.prog 21 #[.string (near t)] W fun e w' => e = .returned (.tuple #[.agg #[.int .u8 51, .int .u8 51, .int .u8 255, .int .u8 (byteAt (bts t) 13), .int .u8 (byteAt (bts t) 14), .int .u8 (byteAt (bts t) 15)], .bool true]) ∧ Below W.heap.size W w' := by
  obtain ⟨c0, c1, c2, c3, c4, c5, c6, c7, c8, c9, c10, c11, c12, c13, c14, c15, rfl⟩ := E.text16 t h
  rw [near_lit16]
  exact E.Many16_yes 255 2 0 0 0 0 0 0 0 0 0 1 255 c13 c14 c15 W rfl
theorem many_every (W : World) : Calls Tryd.prog 21 #[.string everyS] W fun e w' => e = .returned (.tuple #[.agg #[.int .u8 51, .int .u8 51, .int .u8 0, .int .u8 0, .int .u8 0, .int .u8 1], .bool true]) ∧ Below W.heap.size W w' :=
  E.Many16_yes 255 2 0 0 0 0 0 0 0 0 0 0 0 0 0 1 W rfl
theorem byt_near (t : ByteArray) : Byt [51, 51, 255, (byteAt (bts t) 13), (byteAt (bts t) 14), (byteAt (bts t) 15)] := Byt.append (byt_of rfl : Byt [51, 51, 255]) (Byt.cons (byteAt_bd (bts_byt t) 13) (Byt.cons (byteAt_bd (bts_byt t) 14) (Byt.cons (byteAt_bd (bts_byt t) 15) Byt.nil)))
theorem alike_sizes {f t : ByteArray} (h : alikeB f t = true) : (f.size = 4 ∨ f.size = 16) ∧ f.size = t.size := by simpa [alikeB, rightB] using h

/-- Nothing is sent. -/
def Refused (w : World) (e : Ending) (w' : World) : Prop := e = .returned (.tuple #[.slice none 0 0, .int .i64 1]) ∧ Below w.heap.size w w'

end Go.Proofs.YtdoefjhdipkkeaaDoor
