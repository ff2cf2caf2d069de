/-
  A board and the document's, in one state.
-/
import Derived.Test.YtkcndgiiangmjaaRb3
import Derived.Test.YtkcndgiiangmjaaRb4
import Derived.Test.YtkcndgiiangmjaaAlive
import Derived.Test.YtkcndgiiangmjaaFrame
namespace Go.Proofs.Ytkcndgiiangmjaa
open Go.RowKit Go.Maps
set_option linter.unusedVariables false
set_option linter.unusedSimpArgs false
set_option maxRecDepth 10000

structure By (w : World) (N B : Nat) (r : Ru) (n : Nat) (F : Nat → Prop) (b : Bo) (vp vt : Value) (wr : World) : Prop where
  bd : Bd wr F B r b
  ok : OkB r b n
  f : ∀ i, F i → w.heap.size ≤ i ∧ i ≠ N
  bl : Below w.heap.size w wr
  cb : Cb wr N 48 [.int .i64 r.rise, .int .i64 r.fall, .int .i64 r.every, vp, .int .i64 (b.s.now : Int), vt]
  pr : wr.ownsRow 0 33 2 vp n (pcells b.ps)
  tr : wr.ownsRow 0 93 2 vt b.s.l.length (tcells b.s.l)
  pF : ∀ g, vp.ownBlock = some g → ¬ F g ∧ g ≠ N
  tF : ∀ g, vt.ownBlock = some g → ¬ F g ∧ g ≠ N
  nn : w.heap.size ≤ N
theorem By.below {w wr wr' : World} {N B n : Nat} {r : Ru} {F : Nat → Prop} {b : Bo} {vp vt : Value} (h : By w N B r n F b vp vt wr) (hb : Below wr.heap.size wr wr') : By w N B r n F b vp vt wr' :=
  ⟨h.bd.below hb, h.ok, h.f, h.bl.trans (hb.mono h.bl.size), h.cb.below hb, row_below h.pr hb, row_below h.tr hb, h.pF, h.tF, h.nn⟩

/-- Behind the document's call and the stores of its board. -/
structure Mid (w : World) (N B : Nat) (r : Ru) (n : Nat) (F : Nat → Prop) (b b' : Bo) (vp vt : Value) (wr : World) : Prop where
  bd : Bd wr F B r b
  f : ∀ i, F i → w.heap.size ≤ i ∧ i ≠ N
  bl : Below w.heap.size w wr
  cb : Cb wr N 48 [.int .i64 r.rise, .int .i64 r.fall, .int .i64 r.every, vp, .int .i64 (b'.s.now : Int), vt]
  pr : wr.ownsRow 0 33 2 vp n (pcells b'.ps)
  tr : wr.ownsRow 0 93 2 vt b'.s.l.length (tcells b'.s.l)
  pF : ∀ g, vp.ownBlock = some g → ¬ F g ∧ g ≠ N
  tF : ∀ g, vt.ownBlock = some g → ¬ F g ∧ g ≠ N
  nn : w.heap.size ≤ N
theorem by_mid {w wr w3 w4 : World} {N B n : Nat} {r : Ru} {F : Nat → Prop} {b b' : Bo} {vp vt vp' vt' : Value} (h : By w N B r n F b vp vt wr) (hb : Below wr.heap.size wr w3)
    (hp : w3.ownsRow 0 33 2 vp' n (pcells b'.ps)) (ht : w3.ownsRow 0 93 2 vt' b'.s.l.length (tcells b'.s.l)) (op : ∀ g, vp'.ownBlock = some g → vp.ownBlock = some g ∨ wr.heap.size ≤ g) (ot : ∀ g, vt'.ownBlock = some g → vt.ownBlock = some g ∨ wr.heap.size ≤ g)
    (hc : Cb w4 N 48 [.int .i64 r.rise, .int .i64 r.fall, .int .i64 r.every, vp', .int .i64 (b'.s.now : Int), vt']) (ho : Only (· = N) w3 w4) : Mid w N B r n F b b' vp' vt' w4 := by
  have hF := h.bd.lt
  have hN := h.cb.lt
  have pF : ∀ g, vp'.ownBlock = some g → ¬ F g ∧ g ≠ N := fun g hg => by
    rcases op g hg with h1 | h1
    · exact h.pF g h1
    · exact ⟨fun hf => by have := hF g hf; omega, by omega⟩
  have tF : ∀ g, vt'.ownBlock = some g → ¬ F g ∧ g ≠ N := fun g hg => by
    rcases ot g hg with h1 | h1
    · exact h.tF g h1
    · exact ⟨fun hf => by have := hF g hf; omega, by omega⟩
  have b3 := h.bl.trans (hb.mono h.bl.size)
  exact ⟨(h.bd.below hb).only ho fun i hi => (h.f i hi).2, h.f, b3.trans (Only.below ho b3.size fun i hi => by have : i = N := hi; have := h.nn; omega), hc, row_only hp ho fun g hg => (pF g hg).2, row_only ht ho fun g hg => (tF g hg).2, pF, tF, h.nn⟩
theorem mid_end {w w4 w5 : World} {N B n : Nat} {r : Ru} {F F' : Nat → Prop} {b b' : Bo} {vp vt : Value} (h : Mid w N B r n F b b' vp vt w4) (hbd : Bd w5 F' B r b') (ok : OkB r b' n) (hF : ∀ i, F' i → F i ∨ w4.heap.size ≤ i) (ho : Only F w4 w5) : By w N B r n F' b' vp vt w5 := by
  have hN := h.cb.lt
  have hn := h.nn
  have hs := h.bl.size
  refine ⟨hbd, ok, fun i hi => ?_, h.bl.trans (Only.below ho h.bl.size fun i hi => (h.f i hi).1), h.cb.only ho fun hf => (h.f N hf).2 rfl, row_only h.pr ho fun g hg => (h.pF g hg).1, row_only h.tr ho fun g hg => (h.tF g hg).1, fun g hg => ⟨fun hf => ?_, (h.pF g hg).2⟩, fun g hg => ⟨fun hf => ?_, (h.tF g hg).2⟩, h.nn⟩
  · rcases hF i hi with h1 | h1
    · exact h.f i h1
    · exact ⟨by omega, by omega⟩
  · rcases hF g hf with h1 | h1
    · exact (h.pF g hg).1 h1
    · have := (h.pr.lt g hg).2; omega
  · rcases hF g hf with h1 | h1
    · exact (h.tF g hg).1 h1
    · have := (h.tr.lt g hg).2; omega

theorem bm_ps (r : Ru) (b : Bo) (x : Int) : (⟨b.ps, bmS r b.s x⟩ : Bo).ps = b.ps := rfl
theorem tellB_s (r : Ru) (b : Bo) (x : Int) (g : Bool) : (tellB r b x g).s = b.s := by
  unfold tellB
  split <;> rfl
theorem bmD_le {b : Bo} {r : Ru} {n : Nat} (h : OkB r b n) (x : Int) : (bmD b.s x).length ≤ 16 := by
  unfold bmD
  split
  · simp
  · have := mv_len b.s x
    have := h.s.len
    omega

theorem rlay_yes {r : Ru} {n : Nat} (h : (okR r && inn (n : Int) 16) = true) (w : World) : Calls Try.prog 17 #[ruv r, .int .i64 (n : Int)] w fun e w' => ∃ vp vt, e = .returned (.tuple #[rbv r vp 0 vt, .bool true]) ∧ w'.ownsRow w.heap.size 33 2 vp n (pcells (laidB n).ps) ∧ w'.ownsRow w.heap.size 93 2 vt (laidB n).s.l.length (tcells (laidB n).s.l) ∧ Below w.heap.size w w' := by
  refine (rlay_any w r (n : Int)).mono ?_
  rintro e w' ⟨hb, ⟨-, vp, vt, he, h1, h2⟩ | ⟨h3, -⟩⟩
  · exact ⟨vp, vt, he, h1, h2, hb⟩
  · rw [h] at h3; cases h3
theorem rlay_no {r : Ru} {m : Int} (h : (okR r && inn m 16) = false) (w : World) : Calls Try.prog 17 #[ruv r, .int .i64 m] w fun e w' => e = .returned (.tuple #[rbv r (.slice none 0 0) 0 (.slice none 0 0), .bool false]) ∧ Below w.heap.size w w' := by
  refine (rlay_any w r m).mono ?_
  rintro e w' ⟨hb, ⟨h3, -⟩ | ⟨-, he⟩⟩
  · rw [h] at h3; cases h3
  · exact ⟨he, hb⟩

end Go.Proofs.Ytkcndgiiangmjaa
