/-
  tracks' Up and Base.
-/
import Derived.Test.YtbeacddclphjgaaSmall
namespace Go.Proofs.Ytbeacddclphjgaa
open Go.RowKit Go.Maps
set_option linter.unusedVariables false
set_option linter.unusedSimpArgs false
set_option maxRecDepth 10000

/-- Whether it is up. -/
def upOf (T : List Tk) (x : ByteArray) : Bool := match look T x with | some t => t.up | none => false
def isT (T : List Tk) (x : ByteArray) : Bool := (look T x).isSome

theorem ev_inj {a b : Int} {u v : Bool} (h : ev a u = ev b v) : a = b ∧ u = v := by
  unfold ev at h
  simpa using h
set_option maxHeartbeats 1000000 in
theorem up_any {w : World} {B M : Nat} {b : Int} {T : List Tk} (h : SetAt w B M b T) {x : ByteArray} (hx : x.size ≤ maxLen) :
    Calls Try.prog 15 #[.pointer (some ⟨B, 0, none⟩), .string x] w fun e w' => e = .returned (.tuple #[.bool (upOf T x), .bool (isT T x)]) ∧ Below w.heap.size w w' := by
  have hlk := h.map.look hx
  have d1 := h.c1
  have HX := Lib.hid hx
  obtain ⟨a, u, he⟩ : ∃ a u, lv (look T x) = ev a u := by cases look T x <;> exact ⟨_, _, rfl⟩
  have hu : upOf T x = u := by
    unfold upOf
    cases hl : look T x with
    | none => rw [hl] at he; exact (ev_inj he).2
    | some t => rw [hl] at he; exact (ev_inj he).2
  have hi : isT T x = (look T x).isSome := rfl
  rw [he, ← hi] at hlk
  rw [hu]
  generalize isT T x = i at hlk
  unfold ev at hlk
  clear h hx he hu hi
  go_enter Try.func15, Try.ntmps15
  go_wp2
  go_ret2
  exact ⟨rfl, (Below.refl _ _).alloc (Nat.le_refl _) _⟩

theorem base_no {w : World} {B : Nat} {n : Int} (hn : isB n = false) :
    Calls Try.prog 12 #[.pointer (some ⟨B, 0, none⟩), .int .i64 n] w fun e w' => e = .returned (.bool false) ∧ w' = w := by
  have HI := fun w => Lib.hid (isBase_any (w := w) hn)
  go_enter Try.func12, Try.ntmps12
  go_wp2_with (go_at_call 22; refine (HI _).out.mono ?_; rintro e w1 ⟨rfl, rfl⟩)
  go_ret
  exact ⟨rfl, rfl⟩
theorem base_yes {w : World} {B M : Nat} {b : Int} {T : List Tk} (h : SetAt w B M b T) {n : Int} (hn : isB n = true) :
    Calls Try.prog 12 #[.pointer (some ⟨B, 0, none⟩), .int .i64 n] w fun e w' => e = .returned (.bool true) ∧ SetAt w' B M n T ∧ Only (fun i => i = B) w w' := by
  have HI := fun w => Lib.hid (isBase_any (w := w) hn)
  have H := Lib.hid h
  have d0 := h.c0
  have f0 := h.f0
  clear h
  go_enter Try.func12, Try.ntmps12
  go_wp2_with (go_at_call 22; refine (HI _).out.mono ?_; rintro e w1 ⟨rfl, rfl⟩)
  go_ret
  have ho : Only (fun i => i = B) w (w.setCell ⟨B, 0, none⟩ (.int .i64 n)) := (Only.refl (fun i => i = B) w).setCell (p := ⟨B, 0, none⟩) (.inl rfl) _
  refine ⟨rfl, ⟨H.out.ne, ?_, H.out.map.of_block (ho.block M H.out.map.lt fun e => H.out.ne e.symm)⟩, ho⟩
  have := H.out.obj
  simp [World.setCell, Array.getElem?_modify, this]

/-- Base of whatever number. -/
def bas (b n : Int) : Int := if isB n then n else b
theorem base_any {w : World} {B M : Nat} {b : Int} {T : List Tk} (h : SetAt w B M b T) (n : Int) :
    Calls Try.prog 12 #[.pointer (some ⟨B, 0, none⟩), .int .i64 n] w fun e w' => e = .returned (.bool (isB n)) ∧ SetAt w' B M (bas b n) T ∧ Only (fun i => i = B) w w' := by
  unfold bas
  cases hn : isB n
  · refine (base_no hn).mono ?_
    rintro e w' ⟨rfl, rfl⟩
    exact ⟨rfl, h, Only.refl _ _⟩
  · exact base_yes h hn
end Go.Proofs.Ytbeacddclphjgaa
