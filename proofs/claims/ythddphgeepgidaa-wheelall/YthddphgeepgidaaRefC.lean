/-
  The reference's Cancel.
-/
import Derived.Test.YthddphgeepgidaaRef
import Derived.Test.YthddphgeepgidaaDoes
namespace Go.Proofs.Ythddphgeepgidaa
open Go.RowKit Go.Maps
set_option linter.unusedVariables false
set_option linter.unusedSimpArgs false
set_option maxRecDepth 10000

/-- The two boxes of a reference's function: the wheel that it was given, and its answer. -/
structure Bx (w : World) (N : Nat) (x y z u : Value) : Prop where
  c0 : w.cell? ⟨N, 0, none⟩ = some x
  c1 : w.cell? ⟨N, 1, none⟩ = some y
  r0 : w.cell? ⟨N + 1, 0, none⟩ = some z
  r1 : w.cell? ⟨N + 1, 1, none⟩ = some u
  f0 : w.frozen? ⟨N, 0, none⟩ = false
  f1 : w.frozen? ⟨N, 1, none⟩ = false
  g0 : w.frozen? ⟨N + 1, 0, none⟩ = false
  g1 : w.frozen? ⟨N + 1, 1, none⟩ = false

theorem bx_new (w : World) (x y z u : Value) : Bx ((w.alloc (.cells #[x, y] 28)).alloc (.cells #[z, u] 28)) w.heap.size x y z u := by
  constructor <;> simp [go_sem]
theorem Bx.below {w w' : World} {N : Nat} {x y z u : Value} (h : Bx w N x y z u) {B : Nat} (hb : Below B w w') (hB : N + 2 ≤ B) : Bx w' N x y z u := by
  have e : ∀ p : Addr, p.block < B → w'.cell? p = w.cell? p := fun p hp => World.cell?_of_block (hb.block p.block hp)
  have f : ∀ p : Addr, p.block < B → w'.frozen? p = w.frozen? p := fun p hp => World.frozen?_of_block (hb.block p.block hp)
  exact ⟨(e _ (by simp; omega)).trans h.c0, (e _ (by simp; omega)).trans h.c1, (e _ (by simp; omega)).trans h.r0, (e _ (by simp; omega)).trans h.r1, (f _ (by simp; omega)).trans h.f0, (f _ (by simp; omega)).trans h.f1, (f _ (by simp; omega)).trans h.g0, (f _ (by simp; omega)).trans h.g1⟩

theorem row_set {w : World} {base e size n : Nat} {v : Value} {xs : List Value} (h : w.ownsRow base e size v n xs) {p : Addr} (hp : p.block < base) (u : Value) : (w.setCell p u).ownsRow base e size v n xs :=
  row_only (F := fun g => g < base) h ((Only.refl _ _).setCell (.inl hp) u) (fun g hg hlt => by have := (h.lt g hg).1; omega)
theorem row_put {w : World} {base e size n : Nat} {v : Value} {xs : List Value} (h : w.ownsRow base e size v n xs) {p : Addr} (hp : v.ownBlock ≠ some p.block) (u : Value) : (w.setCell p u).ownsRow base e size v n xs := by
  have ho : Only (fun g => g = p.block) w (w.setCell p u) := Only.setCell (F := fun g => g = p.block) (Only.refl _ w) (Or.inl rfl) u
  exact row_only h ho (fun g hg e => hp (by rw [hg, e]))
theorem row_drew {w : World} {base e size n : Nat} {v : Value} {xs : List Value} (h : w.ownsRow base e size v n xs) : w.drew.ownsRow base e size v n xs := h
theorem row_drewN {w : World} {base e size n : Nat} {v : Value} {xs : List Value} (h : w.ownsRow base e size v n xs) (q : Nat) : (w.drewN q).ownsRow base e size v n xs := h

set_option maxHeartbeats 1000000 in
theorem rcancel_any {w : World} {now : Nat} {v : Value} {L : List Tm} {x : Int} (hrow : w.ownsRow 0 58 2 v L.length (tcells L)) (hlen : L.length ≤ 1000) :
    Calls Try.prog 29 #[rv now v, .int .i64 x] w fun e w' => ∃ v', e = .returned (.tuple #[rv now v', .bool (look L x).isSome]) ∧ w'.ownsRow w.heap.size 58 2 v' (woutI L x).length (tcells (woutI L x)) ∧ Below w.heap.size w w' := by
  obtain ⟨a, c, rfl, hnc, -⟩ := row_any hrow
  have hb0 : Below w.heap.size w ((w.alloc (.cells #[.int .i64 (now : Int), .slice a L.length c] 28)).alloc (.cells #[.int .i64 0, .slice none 0 0] 28)) := below_alloc (below_alloc (Below.refl _ _) _) _
  have hr0 := row_below hrow hb0
  have HW := Lib.hid (rwhen_any (now := now) (x := x) hr0 hlen)
  have HR0 := Lib.hid hr0
  have HB0 := Lib.hid hb0
  have HX0 := Lib.hid (bx_new w (.int .i64 (now : Int)) (.slice a L.length c) (.int .i64 0) (.slice none 0 0))
  have HLEN := Lib.hid hlen
  clear hr0 hb0 hrow
  obtain ⟨p, hp⟩ : ∃ p, ((look L x).getD 0 : Nat) = p := ⟨_, rfl⟩
  rw [hp] at HW
  generalize (look L x).isSome = r at HW ⊢
  clear hp hlen
  generalize hn : L.length = n at *
  have HN := Lib.hid hn
  clear hn
  simp only [rv] at HW ⊢
  go_enter Try.func29, Try.ntmps29
  go_wp2_with (first
    | (go_at_call 13; refine HW.out.mono ?_; rintro e w1 ⟨rfl, hb1⟩; have HB1 := Lib.hid hb1; have hr1 := row_below HR0.out hb1; have HW2 := Lib.hid (without_any (x := x) (L := L) (by rw [HN.out]; exact hr1) (by rw [HN.out]; exact HLEN.out)); have hx1 := HX0.out.below hb1 (by simp); have HX1 := Lib.hid hx1; have hs1 := hb1.size; obtain ⟨c0, c1, -, -, -, -, -, -⟩ := hx1; clear hr1 hb1)
    | (go_at_call 36; refine HW2.out.mono ?_; rintro e w2 ⟨v2, rfl, hr2, hb2⟩; obtain ⟨a2, m2, rfl, hnc2, -⟩ := row_any hr2; have HR2 := Lib.hid hr2; have HB2 := Lib.hid hb2; have hx2 := HX1.out.below hb2 (by simp at hs1; omega); clear c0 c1; obtain ⟨c0, c1, r0, r1, f0, f1, g0, g1⟩ := hx2; clear hr2 hb2))
  have hN : w.heap.size + 2 ≤ w1.heap.size := by simpa using hs1
  refine bodyPost_ret (v := .tuple #[.agg #[.int .i64 (now : Int), .slice a2 (woutI L x).length m2], .bool r]) (by simp [results, Try.results29, go_sem, c0, c1, r0, r1]) rfl ⟨_, rfl, ?_, ?_⟩
  · refine row_base (base := w1.heap.size) ?_ (by omega)
    repeat (first | exact HR2.out | with_reducible refine row_drewN ?_ _ | with_reducible refine row_drew ?_ | with_reducible refine row_set ?_ (by show _ < w1.heap.size; simp only []; omega) _)
  · repeat (first | exact below_then HB0.out (by simp; omega) (below_then HB1.out HB1.out.size HB2.out) | with_reducible refine below_drewN ?_ _ | with_reducible refine below_drew ?_ | with_reducible refine Below.setCell ?_ (by simp only []; omega) _)

end Go.Proofs.Ythddphgeepgidaa
