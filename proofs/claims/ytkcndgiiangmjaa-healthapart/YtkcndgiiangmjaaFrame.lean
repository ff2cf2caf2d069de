/-
  What the rows' steps of this seat share: how rules, rows of tellings and scripts of calls, that came in, are opened.
-/
import Derived.Test.YtkcndgiiangmjaaCb
import Derived.ProofKit
import Derived.OpenShut
import Derived.ShutString
import Derived.ChangeOld
import Derived.SizedLaws
import Derived.ChangeMaps5
namespace Go.Proofs.Ytkcndgiiangmjaa
open Go.ChangeShapes Go.WideShapes Go.ChangeAt Go.RowKit
set_option linter.unusedVariables false
set_option linter.unusedSimpArgs false
set_option maxRecDepth 10000

theorem own : ownKnob Try.prog.godebug = none := by kernel_rfl
theorem laidOut : laidOutB Try.prog = true := by kernel_rfl

structure Opr where
  kind : Int
  k : Int
  good : Bool
deriving Inhabited

/-- A script of calls, as it came in. -/
def Scr (w : World) (a : Option Addr) (n c : Nat) (l : List Opr) : Prop := n = l.length ∧ n ≤ c ∧
  (0 < n → ∃ b off, a = some ⟨b, off, none⟩ ∧ b < w.heap.size ∧ ∀ j, j < l.length → w.cell? ⟨b, off + j * 3, none⟩ = some (.int .i64 (l[j]!).kind) ∧ w.cell? ⟨b, off + j * 3 + 1, none⟩ = some (.int .i64 (l[j]!).k) ∧ w.cell? ⟨b, off + j * 3 + 2, none⟩ = some (.bool (l[j]!).good))
/-- A row of what is told, as it came in. -/
def Told (w : World) (a : Option Addr) (n c : Nat) (l : List Bool) : Prop := n = l.length ∧ n ≤ c ∧
  (0 < n → ∃ b off, a = some ⟨b, off, none⟩ ∧ b < w.heap.size ∧ ∀ j, j < l.length → w.cell? ⟨b, off + j, none⟩ = some (.bool l[j]!))

theorem Scr.below {w w' : World} {a : Option Addr} {n c : Nat} {l : List Opr} (h : Scr w a n c l) (hb : Below w.heap.size w w') : Scr w' a n c l :=
  ⟨h.1, h.2.1, fun hn => by
    obtain ⟨b, off, e, hlt, hat⟩ := h.2.2 hn
    refine ⟨b, off, e, Nat.lt_of_lt_of_le hlt hb.size, fun j hj => ?_⟩
    rw [hb.cell (p := ⟨b, off + j * 3, none⟩) hlt, hb.cell (p := ⟨b, off + j * 3 + 1, none⟩) hlt, hb.cell (p := ⟨b, off + j * 3 + 2, none⟩) hlt]
    exact hat j hj⟩
theorem Told.below {w w' : World} {a : Option Addr} {n c : Nat} {l : List Bool} (h : Told w a n c l) (hb : Below w.heap.size w w') : Told w' a n c l :=
  ⟨h.1, h.2.1, fun hn => by
    obtain ⟨b, off, e, hlt, hat⟩ := h.2.2 hn
    refine ⟨b, off, e, Nat.lt_of_lt_of_le hlt hb.size, fun j hj => ?_⟩
    rw [hb.cell (p := ⟨b, off + j, none⟩) hlt]
    exact hat j hj⟩
theorem Scr.at {w : World} {a : Option Addr} {n c : Nat} {l : List Opr} (h : Scr w a n c l) {j : Nat} (hj : j < n) : ∃ b off, a = some ⟨b, off, none⟩ ∧ b < w.heap.size ∧ w.cell? ⟨b, off + j * 3, none⟩ = some (.int .i64 (l[j]!).kind) ∧ w.cell? ⟨b, off + j * 3 + 1, none⟩ = some (.int .i64 (l[j]!).k) ∧ w.cell? ⟨b, off + j * 3 + 2, none⟩ = some (.bool (l[j]!).good) := by
  obtain ⟨b, off, e, hb, hat⟩ := h.2.2 (by omega)
  have hl : j < l.length := by rw [← h.1]; exact hj
  exact ⟨b, off, e, hb, hat j hl⟩
theorem Told.at {w : World} {a : Option Addr} {n c : Nat} {l : List Bool} (h : Told w a n c l) {j : Nat} (hj : j < n) : ∃ b off, a = some ⟨b, off, none⟩ ∧ b < w.heap.size ∧ w.cell? ⟨b, off + j, none⟩ = some (.bool l[j]!) := by
  obtain ⟨b, off, e, hb, hat⟩ := h.2.2 (by omega)
  have hl : j < l.length := by rw [← h.1]; exact hj
  exact ⟨b, off, e, hb, hat j hl⟩

section
variable {H : Type} {enc : TypeId × Value → H} {W : World}
theorem list3 {α : Type} (l : List α) (h : l.length = 3) : ∃ x0 x1 x2, l = [x0, x1, x2] := by
  match l, h with
  | [x0, x1, x2], _ => exact ⟨x0, x1, x2, rfl⟩

theorem trod_rule {fuel : Nat} {cs : List Value} {z : DataW H × List MemPlace} (h : DataW.trod enc Try.prog W 0 (fun _ => true) true fuel 23 cs = some z) :
    ∃ r : Ru, cs = [.int .i64 r.rise, .int .i64 r.fall, .int .i64 r.every] := by
  have hc : Try.prog.cellsOf 23 = 3 := by kernel_rfl
  have c3 : Try.prog.cellsOf 3 = 1 := by kernel_rfl
  obtain ⟨xs, n, _, hx, hl, hlen, hg⟩ := DataW.trod_struct Try.underlying23 h
  rw [hc] at hl
  obtain ⟨z0, z1, z2, rfl⟩ := list3 cs hl
  have g0 := hg 0 _ rfl
  have g1 := hg 1 _ rfl
  have g2 := hg 2 _ rfl
  obtain ⟨y0, y1, y2, rfl⟩ := list3 xs hlen
  simp [Value.cells, c3] at g0 g1 g2
  obtain ⟨s0, e0, x0, w0⟩ := DataW.trod_int Try.underlying3 g0
  obtain ⟨s1, e1, x1, w1⟩ := DataW.trod_int Try.underlying3 g1
  obtain ⟨s2, e2, x2, w2⟩ := DataW.trod_int Try.underlying3 g2
  simp at e0 e1 e2
  subst e0 e1 e2
  exact ⟨⟨s0, s1, s2⟩, rfl⟩
theorem open_rule {r : Reach} {b0 : Nat} {v : Value} {d : DataW H} {p : List MemPlace} (hv : Value.okWide Try.prog W r b0 23 v) (h : DataW.Trod enc Try.prog W 0 (fun _ => true) true 23 v d p) :
    ∃ u : Ru, v = ruv u := by
  obtain ⟨cs, rfl, hsz⟩ := okWide_struct Try.underlying23 hv
  obtain ⟨fuel, hf⟩ := h
  obtain ⟨u, h1⟩ := trod_rule (z := (d, p)) hf
  refine ⟨u, ?_⟩
  unfold ruv
  congr 1
  exact Array.toList_inj.1 h1

theorem trod_op {fuel : Nat} {cs : List Value} {z : DataW H × List MemPlace} (h : DataW.trod enc Try.prog W 0 (fun _ => true) true fuel 52 cs = some z) :
    ∃ b : Opr, cs = [.int .i64 b.kind, .int .i64 b.k, .bool b.good] := by
  have hc : Try.prog.cellsOf 52 = 3 := by kernel_rfl
  have c3 : Try.prog.cellsOf 3 = 1 := by kernel_rfl
  have c4 : Try.prog.cellsOf 4 = 1 := by kernel_rfl
  obtain ⟨xs, n, _, hx, hl, hlen, hg⟩ := DataW.trod_struct Try.underlying52 h
  rw [hc] at hl
  obtain ⟨z0, z1, z2, rfl⟩ := list3 cs hl
  have g0 := hg 0 _ rfl
  have g1 := hg 1 _ rfl
  have g2 := hg 2 _ rfl
  obtain ⟨y0, y1, y2, rfl⟩ := list3 xs hlen
  simp [Value.cells, c3, c4] at g0 g1 g2
  obtain ⟨s0, e0, x0, w0⟩ := DataW.trod_int Try.underlying3 g0
  obtain ⟨s1, e1, x1, w1⟩ := DataW.trod_int Try.underlying3 g1
  obtain ⟨s2, e2, x2⟩ := DataW.trod_bool Try.underlying4 g2
  simp at e0 e1 e2
  subst e0 e1 e2
  exact ⟨⟨s0, s1, s2⟩, rfl⟩

theorem scr_of_trod {fuel : Nat} {v : Value} {x : DataW H × List MemPlace} (h : DataW.trod enc Try.prog W 0 (fun _ => true) true fuel 39 [v] = some x) :
    ∃ a n c l, v = .slice a n c ∧ Scr W a n c l := by
  have hc : Try.prog.cellsOf 52 = 3 := by kernel_rfl
  rcases DataW.trod_slice Try.underlying39 h with ⟨hcs, rfl⟩ | ⟨a, len, cap, elems, rest, n, _, hcs, rfl, _, hlc, hm, hel, hcell, _, _⟩
  · simp at hcs
    subst hcs
    exact ⟨none, 0, 0, [], rfl, rfl, Nat.le_refl _, fun h => by omega⟩
  · simp at hcs
    subst hcs
    rw [hc] at hcell
    have key : ∀ i, i < len → ∃ b : Opr, W.cells? 0 (a.add (i * 3)) 3 = some [.int .i64 b.kind, .int .i64 b.k, .bool b.good] := fun i hi => by
      have h1 := hcell i hi
      rw [List.getElem?_eq_getElem (by omega)] at h1
      obtain ⟨cs, hcs, hz⟩ := Option.bind_eq_some_iff.1 h1
      obtain ⟨b, rfl⟩ := trod_op hz
      exact ⟨b, hcs⟩
    obtain ⟨f, hf⟩ : ∃ f : Nat → Opr, ∀ i, i < len → W.cells? 0 (a.add (i * 3)) 3 = some [.int .i64 (f i).kind, .int .i64 (f i).k, .bool (f i).good] :=
      ⟨fun i => if h : i < len then (key i h).choose else default, fun i hi => by simp only [hi, dif_pos]; exact (key i hi).choose_spec⟩
    have hat : ∀ i, i < ((List.range len).map f).length → ((List.range len).map f)[i]! = f i := fun i hi => by
      rw [getElem!_pos _ i hi]; simp
    refine ⟨some a, len, cap, (List.range len).map f, rfl, by simp, hlc, fun hn => ?_⟩
    obtain ⟨b, off, spot⟩ := a
    have h0 := World.cells?_some (hf 0 hn)
    have hspot : spot = none := by
      have := (h0.2.2 0 (by omega)).trans (show [Value.int .i64 (f 0).kind, .int .i64 (f 0).k, .bool (f 0).good][0]? = some (.int .i64 (f 0).kind) from rfl)
      simpa [Addr.add] using World.cell?_spot this
    subst hspot
    have hlt := World.cells?_block (hf 0 hn) (by omega)
    refine ⟨b, off, rfl, by simpa [Addr.add] using hlt, fun i hi => ?_⟩
    rw [hat i hi]
    have hi' : i < len := by simpa using hi
    have h1 := World.cells?_some (hf i hi')
    have p0 := (h1.2.2 0 (by omega)).trans (show [Value.int .i64 (f i).kind, .int .i64 (f i).k, .bool (f i).good][0]? = some (.int .i64 (f i).kind) from rfl)
    have p1 := (h1.2.2 1 (by omega)).trans (show [Value.int .i64 (f i).kind, .int .i64 (f i).k, .bool (f i).good][1]? = some (.int .i64 (f i).k) from rfl)
    have p2 := (h1.2.2 2 (by omega)).trans (show [Value.int .i64 (f i).kind, .int .i64 (f i).k, .bool (f i).good][2]? = some (.bool (f i).good) from rfl)
    rw [add_plain, add_plain] at p0 p1 p2
    exact ⟨p0, p1, p2⟩
theorem open_scr {r : Reach} {b0 : Nat} {v : Value} {d : DataW H} {p : List MemPlace} (hv : Value.okWide Try.prog W r b0 39 v) (h : DataW.Trod enc Try.prog W 0 (fun _ => true) true 39 v d p) :
    ∃ a n c l, v = .slice a n c ∧ Scr W a n c l := by
  obtain ⟨a, len, cap, rfl⟩ := okWide_slice Try.underlying39 hv
  obtain ⟨fuel, hf⟩ := h
  exact scr_of_trod (x := (d, p)) (by simpa [Value.cells] using hf)

theorem told_of_trod {fuel : Nat} {v : Value} {x : DataW H × List MemPlace} (h : DataW.trod enc Try.prog W 0 (fun _ => true) true fuel 24 [v] = some x) :
    ∃ a n c l, v = .slice a n c ∧ Told W a n c l := by
  have hc : Try.prog.cellsOf 4 = 1 := by kernel_rfl
  rcases DataW.trod_slice Try.underlying24 h with ⟨hcs, rfl⟩ | ⟨a, len, cap, elems, rest, n, _, hcs, rfl, _, hlc, hm, hel, hcell, _, _⟩
  · simp at hcs
    subst hcs
    exact ⟨none, 0, 0, [], rfl, rfl, Nat.le_refl _, fun h => by omega⟩
  · simp at hcs
    subst hcs
    rw [hc] at hcell
    have key : ∀ i, i < len → ∃ b : Bool, W.cells? 0 (a.add (i * 1)) 1 = some [.bool b] := fun i hi => by
      have h1 := hcell i hi
      rw [List.getElem?_eq_getElem (by omega)] at h1
      obtain ⟨cs, hcs, hz⟩ := Option.bind_eq_some_iff.1 h1
      obtain ⟨b, rfl, _⟩ := DataW.trod_bool Try.underlying4 hz
      exact ⟨b, hcs⟩
    obtain ⟨f, hf⟩ : ∃ f : Nat → Bool, ∀ i, i < len → W.cells? 0 (a.add (i * 1)) 1 = some [.bool (f i)] :=
      ⟨fun i => if h : i < len then (key i h).choose else default, fun i hi => by simp only [hi, dif_pos]; exact (key i hi).choose_spec⟩
    have hat : ∀ i, i < ((List.range len).map f).length → ((List.range len).map f)[i]! = f i := fun i hi => by
      rw [getElem!_pos _ i hi]; simp
    refine ⟨some a, len, cap, (List.range len).map f, rfl, by simp, hlc, fun hn => ?_⟩
    obtain ⟨b, off, spot⟩ := a
    have h0 := World.cells?_some (hf 0 hn)
    have hspot : spot = none := by
      have := (h0.2.2 0 (by omega)).trans (show [Value.bool (f 0)][0]? = some (.bool (f 0)) from rfl)
      simpa [Addr.add] using World.cell?_spot this
    subst hspot
    have hlt := World.cells?_block (hf 0 hn) (by omega)
    refine ⟨b, off, rfl, by simpa [Addr.add] using hlt, fun i hi => ?_⟩
    rw [hat i hi]
    have h1 := World.cells?_some (hf i (by simpa using hi))
    have p0 := (h1.2.2 0 (by omega)).trans (show [Value.bool (f i)][0]? = some (.bool (f i)) from rfl)
    rw [add_plain, add_plain] at p0
    simpa using p0
theorem open_told {r : Reach} {b0 : Nat} {v : Value} {d : DataW H} {p : List MemPlace} (hv : Value.okWide Try.prog W r b0 24 v) (h : DataW.Trod enc Try.prog W 0 (fun _ => true) true 24 v d p) :
    ∃ a n c l, v = .slice a n c ∧ Told W a n c l := by
  obtain ⟨a, len, cap, rfl⟩ := okWide_slice Try.underlying24 hv
  obtain ⟨fuel, hf⟩ := h
  exact told_of_trod (x := (d, p)) (by simpa [Value.cells] using hf)
end
end Go.Proofs.Ytkcndgiiangmjaa
