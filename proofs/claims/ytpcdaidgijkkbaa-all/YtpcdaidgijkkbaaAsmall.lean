/-
  What the small functions of advert do: mayId, mayPriority, mayEvery, mayCount, Group, every, pseudo; slices of addresses in memory; advertisements in memory.
-/
import Derived.Test.YtpcdaidgijkkbaaPsmall
namespace Go.Proofs.Ytpcdaidgijkkbaa
open Go.RowKit
set_option linter.unusedVariables false
set_option maxRecDepth 40000

def mayIdB (n : Int) : Bool := decide (1 ≤ n ∧ n ≤ 255)
set_option maxHeartbeats 400000 in
/-- advert.mayId. -/
theorem mayId_at {n : Int} {r : Bool} {w : World} (hr : mayIdB n = r) : Calls Try.prog 49 #[.int .i64 n] w fun e w' => e = .returned (.bool r) ∧ w = w' := by
  subst hr
  by_cases h : 1 ≤ n
  · have h1 : decide (1 ≤ n) = true := by simpa using h
    go_enter Try.func49, Try.ntmps49
    go_wp2
    go_ret
    exact ⟨ret_bool (by rw [Bool.eq_iff_iff]; simp [mayIdB]; try omega), rfl⟩
  · have h1 : decide (1 ≤ n) = false := by simpa using h
    go_enter Try.func49, Try.ntmps49
    go_wp2
    go_ret
    exact ⟨ret_bool (by rw [Bool.eq_iff_iff]; simp [mayIdB]; try omega), rfl⟩

def mayPriorityB (n : Int) : Bool := decide (0 ≤ n ∧ n ≤ 255)
set_option maxHeartbeats 400000 in
/-- advert.mayPriority. -/
theorem mayPriority_at {n : Int} {r : Bool} {w : World} (hr : mayPriorityB n = r) : Calls Try.prog 50 #[.int .i64 n] w fun e w' => e = .returned (.bool r) ∧ w = w' := by
  subst hr
  by_cases h : 0 ≤ n
  · have h1 : decide (0 ≤ n) = true := by simpa using h
    go_enter Try.func50, Try.ntmps50
    go_wp2
    go_ret
    exact ⟨ret_bool (by rw [Bool.eq_iff_iff]; simp [mayPriorityB]; try omega), rfl⟩
  · have h1 : decide (0 ≤ n) = false := by simpa using h
    go_enter Try.func50, Try.ntmps50
    go_wp2
    go_ret
    exact ⟨ret_bool (by rw [Bool.eq_iff_iff]; simp [mayPriorityB]; try omega), rfl⟩

def mayEveryB (n : Int) : Bool := decide (1 ≤ n ∧ n ≤ 4095)
set_option maxHeartbeats 400000 in
/-- advert.mayEvery. -/
theorem mayEvery_at {n : Int} {r : Bool} {w : World} (hr : mayEveryB n = r) : Calls Try.prog 51 #[.int .i64 n] w fun e w' => e = .returned (.bool r) ∧ w = w' := by
  subst hr
  by_cases h : 1 ≤ n
  · have h1 : decide (1 ≤ n) = true := by simpa using h
    go_enter Try.func51, Try.ntmps51
    go_wp2
    go_ret
    exact ⟨ret_bool (by rw [Bool.eq_iff_iff]; simp [mayEveryB]; try omega), rfl⟩
  · have h1 : decide (1 ≤ n) = false := by simpa using h
    go_enter Try.func51, Try.ntmps51
    go_wp2
    go_ret
    exact ⟨ret_bool (by rw [Bool.eq_iff_iff]; simp [mayEveryB]; try omega), rfl⟩

def mayCountB (n : Int) : Bool := decide (1 ≤ n ∧ n ≤ 8)
set_option maxHeartbeats 400000 in
/-- advert.mayCount. -/
theorem mayCount_at {n : Int} {r : Bool} {w : World} (hr : mayCountB n = r) : Calls Try.prog 64 #[.int .i64 n] w fun e w' => e = .returned (.bool r) ∧ w = w' := by
  subst hr
  by_cases h : 1 ≤ n
  · have h1 : decide (1 ≤ n) = true := by simpa using h
    go_enter Try.func64, Try.ntmps64
    go_wp2
    go_ret
    exact ⟨ret_bool (by rw [Bool.eq_iff_iff]; simp [mayCountB]; try omega), rfl⟩
  · have h1 : decide (1 ≤ n) = false := by simpa using h
    go_enter Try.func64, Try.ntmps64
    go_wp2
    go_ret
    exact ⟨ret_bool (by rw [Bool.eq_iff_iff]; simp [mayCountB]; try omega), rfl⟩

theorem wr64 (n : Int) (h : -9223372036854775808 ≤ n ∧ n ≤ 9223372036854775807) : wrap64 n = n := by unfold wrap64; omega
def grp4 : ByteArray := ⟨#[224, 0, 0, 18]⟩
def grp6 : ByteArray := ⟨#[255, 2, 0, 0, 0, 0, 0, 0, 0, 0, 0, 0, 0, 0, 0, 18]⟩
/-- To whom advertisements go. -/
def grp (b : Bool) : ByteArray := if b then grp6 else grp4
theorem grp_size (b : Bool) : (grp b).size = if b then 16 else 4 := by cases b <;> rfl
set_option maxHeartbeats 400000 in
/-- advert.Group. -/
theorem group_any (b : Bool) (w : World) : Calls Try.prog 53 #[.bool b] w fun e w' => e = .returned (.string (grp b)) ∧ w = w' := by
  cases b
  · go_enter Try.func53, Try.ntmps53
    go_wp2
    go_ret
    exact ⟨rfl, rfl⟩
  · go_enter Try.func53, Try.ntmps53
    go_wp2
    go_ret
    exact ⟨rfl, rfl⟩

/-- A packet's Pseudo. -/
theorem apseudo_at {f t : ByteArray} {p l : Int} {s : ByteArray} {x : Int} {w : World} (hf : f.size ≤ 140737488351232) (ht : t.size ≤ 140737488351232) (hx : -9223372036854775808 ≤ x ∧ x ≤ 9223372036854775807) :
    Calls Try.prog 57 #[.agg #[.string f, .string t, .int .i64 p, .int .i64 l, .string s], .int .i64 x] w fun e w' => ∃ A n c, e = .returned (.slice A n c) ∧ n ≤ 40 ∧ Hid (Part w' ⟨A, n, c, psx f t 112 x⟩) ∧ Hid (Below w.heap.size w w') := by
  have HP := fun w => Lib.hid (pseudo_part f t 112 x w hf ht (by omega) hx)
  go_enter Try.func57, Try.ntmps57
  go_wp2_with fail
  refine (HP _).out.mono ?_
  rintro e w1 ⟨A, n, c, rfl, hn, hp, hb⟩
  go_wp2
  go_ret
  exact ⟨_, _, _, rfl, hn, hp, Lib.hid (((Below.refl _ _).alloc (Nat.le_refl _) _).trans (hb.out.mono (by simp)))⟩

/-- A slice of addresses. -/
def Strs (w : World) (A : Option Addr) (n c : Nat) (ss : List ByteArray) : Prop :=
  ss.length = n ∧ n ≤ c ∧ c ≤ maxLen ∧ (∀ s ∈ ss, s.size ≤ 9223372036854775807) ∧ (0 < n → ∃ b off, A = some ⟨b, off, none⟩ ∧ ∀ j s, ss[j]? = some s → w.cell? ⟨b, off + j, none⟩ = some (.string s))
theorem Strs.keep {w w' : World} {A : Option Addr} {n c : Nat} {ss : List ByteArray} (h : Strs w A n c ss) (hk : ∀ (a : Addr), a.block < w.heap.size → w'.cell? a = w.cell? a) : Strs w' A n c ss := by
  obtain ⟨h1, h2, h3, h4, h5⟩ := h
  refine ⟨h1, h2, h3, h4, fun hn => ?_⟩
  obtain ⟨b, off, e, hc⟩ := h5 hn
  exact ⟨b, off, e, fun j s hj => (hk _ (World.block_lt_of_cell? _ _ (hc j s hj))).trans (hc j s hj)⟩
theorem Strs.alloc {w : World} {A : Option Addr} {n c : Nat} {ss : List ByteArray} (h : Strs w A n c ss) (o : Obj) : Strs (w.alloc o) A n c ss := h.keep fun a ha => World.cell?_alloc_lt w o a ha
theorem Strs.below {w w' : World} {A : Option Addr} {n c : Nat} {ss : List ByteArray} (h : Strs w A n c ss) (hb : Below w.heap.size w w') : Strs w' A n c ss := h.keep fun _ ha => hb.cell ha
theorem Strs.drewN {w : World} {A : Option Addr} {n c : Nat} {ss : List ByteArray} (h : Strs w A n c ss) (k : Nat) : Strs (w.drewN k) A n c ss := h
theorem Strs.nil (w : World) : Strs w none 0 0 [] := ⟨rfl, Nat.le_refl _, by simp [maxLen], fun _ h => by simp at h, fun h => by simp at h⟩
/-- Its blocks lie below B. -/
def StrsB (w : World) (B : Nat) (A : Option Addr) (n c : Nat) (ss : List ByteArray) : Prop :=
  ss.length = n ∧ n ≤ c ∧ c ≤ maxLen ∧ (∀ s ∈ ss, s.size ≤ 9223372036854775807) ∧ (0 < n → ∃ b off, A = some ⟨b, off, none⟩ ∧ b < B ∧ ∀ j s, ss[j]? = some s → w.cell? ⟨b, off + j, none⟩ = some (.string s))
theorem Strs.at {w : World} {A : Option Addr} {n c : Nat} {ss : List ByteArray} (h : Strs w A n c ss) : StrsB w w.heap.size A n c ss := by
  obtain ⟨h1, h2, h3, h4, h5⟩ := h
  refine ⟨h1, h2, h3, h4, fun hn => ?_⟩
  obtain ⟨b, off, e, hc⟩ := h5 hn
  have h0 : 0 < ss.length := by omega
  exact ⟨b, off, e, World.block_lt_of_cell? _ _ (hc 0 ss[0] (List.getElem?_eq_getElem h0)), hc⟩
theorem StrsB.below {w w' : World} {B : Nat} {A : Option Addr} {n c : Nat} {ss : List ByteArray} (h : StrsB w B A n c ss) (hb : Below B w w') : StrsB w' B A n c ss := by
  obtain ⟨h1, h2, h3, h4, h5⟩ := h
  refine ⟨h1, h2, h3, h4, fun hn => ?_⟩
  obtain ⟨b, off, e, hlt, hc⟩ := h5 hn
  exact ⟨b, off, e, hlt, fun j s hj => (hb.cell (p := ⟨b, off + j, none⟩) hlt).trans (hc j s hj)⟩
theorem StrsB.strs {w : World} {B : Nat} {A : Option Addr} {n c : Nat} {ss : List ByteArray} (h : StrsB w B A n c ss) : Strs w A n c ss := by
  obtain ⟨h1, h2, h3, h4, h5⟩ := h
  refine ⟨h1, h2, h3, h4, fun hn => ?_⟩
  obtain ⟨b, off, e, hlt, hc⟩ := h5 hn
  exact ⟨b, off, e, hc⟩

end Go.Proofs.Ytpcdaidgijkkbaa
