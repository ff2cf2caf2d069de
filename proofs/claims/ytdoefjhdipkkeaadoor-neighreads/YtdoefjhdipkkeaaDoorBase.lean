/-
  Texts laid one behind the other, a card's address in memory, the groups of addresses.
-/
import Derived.Test.YtdoefjhdipkkeaaDoorPut
import Derived.Test.YtdoefjhdipkkeaaDoorShelf
import Derived.Deep.RegionHeld3
namespace Go.Proofs.YtdoefjhdipkkeaaDoor
open Go.RowKit
set_option linter.unusedVariables false
set_option maxRecDepth 10000


theorem byt_of {l : List Int} (h : l.all (fun x => decide (0 ≤ x) && decide (x ≤ 255)) = true) : Byt l := fun x hx => by have := List.all_eq_true.1 h x hx; simpa using this
theorem bts_append (s t : ByteArray) : bts (s ++ t) = bts s ++ bts t := by simp [bts, ByteArray.data_append]
theorem append_str (s t : ByteArray) : s ++ t = strOfNums (bts s ++ bts t) := by rw [← bts_append, strOfNums_bts]
theorem bts_inj {s t : ByteArray} (h : bts s = bts t) : s = t := by rw [← strOfNums_bts s, h, strOfNums_bts]
theorem strOfNums_size (l : List Int) : (strOfNums l).size = l.length := by rw [strOfNums, ByteArray.size]; simp
/-- Texts, one behind the other. -/
def cat (xs : List ByteArray) : ByteArray := strOfNums (xs.map bts).flatten
theorem cat_size (xs : List ByteArray) : (cat xs).size = ((xs.map bts).flatten).length := strOfNums_size _
theorem join_flat (xs : List (List UInt8)) : Lib.join xs [] = xs.flatten := by
  cases xs with
  | nil => rfl
  | cons x r => rw [Lib.join_cons]; simp [Lib.joinTail]
theorem join_cat (xs : List ByteArray) : (⟨(Lib.join (xs.map (·.data.toList)) (ByteArray.mk #[]).data.toList).toArray⟩ : ByteArray) = cat xs := by
  apply bts_inj
  rw [show (ByteArray.mk #[]).data.toList = [] from rfl, join_flat]
  unfold cat
  rw [bts_strOfNums]
  · simp [bts, List.map_flatten, Function.comp_def]; rfl
  · intro x hx
    obtain ⟨l, hl, hx⟩ := List.mem_flatten.1 hx
    obtain ⟨s, _, rfl⟩ := List.mem_map.1 hl
    exact bts_byt s x hx

set_option maxHeartbeats 400000 in
/-- neigh.lay. -/
theorem lay_at {W : World} {gb m : Nat} {xs : List ByteArray} {s : ByteArray} (hc : ∀ (j : Nat) x, xs[j]? = some x → W.cell? ⟨gb, j, none⟩ = some (.string x)) (hb : gb < W.heap.size) (hm : xs.length = m) (hN : m ≤ 100) (hs : cat xs = s) (hl : s.size ≤ 140737488355328) :
    Calls Tryd.prog 45 #[.slice (some ⟨gb, 0, none⟩) m m] W fun e w' => e = .returned (.string s) ∧ Below W.heap.size W w' := by
  subst hm
  go_enter Tryd.func45, Tryd.ntmps45
  go_wp2_with fail
  refine (strings_Join gb 0 xs.length xs ⟨#[]⟩ _ (fun j x h => by rw [Nat.zero_add]; exact hc j x h) hb (by omega) (Nat.le_refl _) (by rw [← hs, cat_size] at hl; rw [show (ByteArray.mk #[]).data.toList = [] from rfl, join_flat]; simpa [bts, List.map_flatten, Function.comp_def] using hl)).mono ?_
  rintro e w' ⟨rfl, hb'⟩
  rw [join_cat, hs]
  go_wp2
  go_ret
  exact ⟨rfl, hb'⟩

theorem wpAnyH_more {P : Program} {md : Region.Mode} {ops : Array Oper} {Q : Exit → Act → World → Prop} {S S' : World → Prop} (hS : ∀ w, S' w → S w) : ∀ (fuel : Nat) (listed : Array Bool) (a : Act) (w : World), wpAnyH P md ops Q S' fuel listed a w → wpAnyH P md ops Q S fuel listed a w
  | 0, _, _, _, h => h
  | fuel + 1, _, _, _, h => ⟨h.1, fun i hi => wpOp_mono (fun a' w' h' => ⟨hS _ h'.1, wpAnyH_more hS fuel _ a' w' h'.2⟩) (h.2 i hi)⟩

/-- A card's address lies in a block. -/
def Box6 (W : World) (N : Nat) (m0 m1 m2 m3 m4 m5 : Int) : Prop :=
  W.cell? ⟨N, 0, none⟩ = some (.int .u8 m0) ∧ W.cell? ⟨N, 1, none⟩ = some (.int .u8 m1) ∧ W.cell? ⟨N, 2, none⟩ = some (.int .u8 m2) ∧ W.cell? ⟨N, 3, none⟩ = some (.int .u8 m3) ∧ W.cell? ⟨N, 4, none⟩ = some (.int .u8 m4) ∧ W.cell? ⟨N, 5, none⟩ = some (.int .u8 m5)
theorem Box6.below {W W' : World} {N B : Nat} {m0 m1 m2 m3 m4 m5 : Int} (h : Box6 W N m0 m1 m2 m3 m4 m5) (hb : Below B W W') (hN : N < B) : Box6 W' N m0 m1 m2 m3 m4 m5 :=
  ⟨(hb.cell hN).trans h.1, (hb.cell hN).trans h.2.1, (hb.cell hN).trans h.2.2.1, (hb.cell hN).trans h.2.2.2.1, (hb.cell hN).trans h.2.2.2.2.1, (hb.cell hN).trans h.2.2.2.2.2⟩
theorem Box6.new (w : World) (m0 m1 m2 m3 m4 m5 : Int) : Box6 (w.alloc (.cells #[.int .u8 m0, .int .u8 m1, .int .u8 m2, .int .u8 m3, .int .u8 m4, .int .u8 m5] 23)) w.heap.size m0 m1 m2 m3 m4 m5 := by
  refine ⟨?_, ?_, ?_, ?_, ?_, ?_⟩ <;> simp [go_sem]
theorem Box6.part {W : World} {N : Nat} {m0 m1 m2 m3 m4 m5 : Int} (h : Box6 W N m0 m1 m2 m3 m4 m5) (hm : Byt [m0, m1, m2, m3, m4, m5]) : Part W ⟨some ⟨N, 0, none⟩, 6, 6, [m0, m1, m2, m3, m4, m5]⟩ := by
  refine ⟨rfl, Nat.le_refl _, hm, fun _ => ⟨N, 0, rfl, fun j hj => ?_⟩⟩
  obtain ⟨h0, h1, h2, h3, h4, h5⟩ := h
  match j, hj with
  | 0, _ => exact h0
  | 1, _ => exact h1
  | 2, _ => exact h2
  | 3, _ => exact h3
  | 4, _ => exact h4
  | 5, _ => exact h5
theorem Box6.conv {W : World} {N : Nat} {m0 m1 m2 m3 m4 m5 : Int} (h : Box6 W N m0 m1 m2 m3 m4 m5) (hm : Byt [m0, m1, m2, m3, m4, m5]) : (convert 26 9 (.slice (some ⟨N, 0, none⟩) 6 6)).run Tryd.prog W = .ok (.string (strOfNums [m0, m1, m2, m3, m4, m5])) W := convert_part (h.part hm) 9 Tryd.underlying9

/-- The group that is asked. -/
def near (s : ByteArray) : ByteArray := if s.size = 16 then strOfNums ([255, 2, 0, 0, 0, 0, 0, 0, 0, 0, 0, 1, 255] ++ (bts s).drop 13) else ⟨#[]⟩
/-- The group of all. -/
def everyS : ByteArray := ⟨#[255, 2, 0, 0, 0, 0, 0, 0, 0, 0, 0, 0, 0, 0, 0, 1]⟩
theorem near_size (s : ByteArray) (h : s.size = 16) : (near s).size = 16 := by rw [near, if_pos h, strOfNums_size]; simp [bts_len, h]

end Go.Proofs.YtdoefjhdipkkeaaDoor
