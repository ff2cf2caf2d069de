/-
  What the rows' steps of this seat share: how tracks, scripts of calls and rows of bools, that came in, are opened.
-/
import Derived.Test.YtbeacddclphjgaaBase
import Derived.ProofKit
import Derived.OpenShut
import Derived.ShutString
import Derived.ChangeOld
import Derived.SizedLaws
import Derived.ChangeMaps5
namespace Go.Proofs.Ytbeacddclphjgaa
open Go.ChangeShapes Go.WideShapes Go.ChangeAt Go.RowKit
set_option linter.unusedVariables false
set_option linter.unusedSimpArgs false
set_option maxRecDepth 10000

theorem own : ownKnob Try.prog.godebug = none := by kernel_rfl
theorem laidOut : laidOutB Try.prog = true := by kernel_rfl

structure Opr where
  kind : Int
  n : Int
  name : ByteArray
  up : Bool
deriving Inhabited

/-- A script of calls, as it came in. -/
def Scr (w : World) (a : Option Addr) (n c : Nat) (l : List Opr) : Prop := n = l.length ∧ n ≤ c ∧ (∀ j, j < l.length → (l[j]!).name.size ≤ maxLen) ∧
  (0 < n → ∃ b off, a = some ⟨b, off, none⟩ ∧ b < w.heap.size ∧ ∀ j, j < l.length → w.cell? ⟨b, off + j * 4, none⟩ = some (.int .i64 (l[j]!).kind) ∧ w.cell? ⟨b, off + j * 4 + 1, none⟩ = some (.int .i64 (l[j]!).n) ∧ w.cell? ⟨b, off + j * 4 + 2, none⟩ = some (.string (l[j]!).name) ∧ w.cell? ⟨b, off + j * 4 + 3, none⟩ = some (.bool (l[j]!).up))
/-- A row of what is told, as it came in. -/
def Told (w : World) (a : Option Addr) (n c : Nat) (l : List Bool) : Prop := n = l.length ∧ n ≤ c ∧
  (0 < n → ∃ b off, a = some ⟨b, off, none⟩ ∧ b < w.heap.size ∧ ∀ j, j < l.length → w.cell? ⟨b, off + j, none⟩ = some (.bool l[j]!))

theorem Scr.below {w w' : World} {a : Option Addr} {n c : Nat} {l : List Opr} (h : Scr w a n c l) (hb : Below w.heap.size w w') : Scr w' a n c l :=
  ⟨h.1, h.2.1, h.2.2.1, fun hn => by
    obtain ⟨b, off, e, hlt, hat⟩ := h.2.2.2 hn
    refine ⟨b, off, e, Nat.lt_of_lt_of_le hlt hb.size, fun j hj => ?_⟩
    rw [hb.cell (p := ⟨b, off + j * 4, none⟩) hlt, hb.cell (p := ⟨b, off + j * 4 + 1, none⟩) hlt, hb.cell (p := ⟨b, off + j * 4 + 2, none⟩) hlt, hb.cell (p := ⟨b, off + j * 4 + 3, none⟩) hlt]
    exact hat j hj⟩
theorem Told.below {w w' : World} {a : Option Addr} {n c : Nat} {l : List Bool} (h : Told w a n c l) (hb : Below w.heap.size w w') : Told w' a n c l :=
  ⟨h.1, h.2.1, fun hn => by
    obtain ⟨b, off, e, hlt, hat⟩ := h.2.2 hn
    refine ⟨b, off, e, Nat.lt_of_lt_of_le hlt hb.size, fun j hj => ?_⟩
    rw [hb.cell (p := ⟨b, off + j, none⟩) hlt]
    exact hat j hj⟩
theorem Scr.at {w : World} {a : Option Addr} {n c : Nat} {l : List Opr} (h : Scr w a n c l) {j : Nat} (hj : j < n) : ∃ b off, a = some ⟨b, off, none⟩ ∧ b < w.heap.size ∧ w.cell? ⟨b, off + j * 4, none⟩ = some (.int .i64 (l[j]!).kind) ∧ w.cell? ⟨b, off + j * 4 + 1, none⟩ = some (.int .i64 (l[j]!).n) ∧ w.cell? ⟨b, off + j * 4 + 2, none⟩ = some (.string (l[j]!).name) ∧ w.cell? ⟨b, off + j * 4 + 3, none⟩ = some (.bool (l[j]!).up) := by
  obtain ⟨b, off, e, hb, hat⟩ := h.2.2.2 (by omega)
  have hl : j < l.length := by rw [← h.1]; exact hj
  exact ⟨b, off, e, hb, hat j hl⟩
theorem Told.at {w : World} {a : Option Addr} {n c : Nat} {l : List Bool} (h : Told w a n c l) {j : Nat} (hj : j < n) : ∃ b off, a = some ⟨b, off, none⟩ ∧ b < w.heap.size ∧ w.cell? ⟨b, off + j, none⟩ = some (.bool l[j]!) := by
  obtain ⟨b, off, e, hb, hat⟩ := h.2.2 (by omega)
  have hl : j < l.length := by rw [← h.1]; exact hj
  exact ⟨b, off, e, hb, hat j hl⟩

section
variable {H : Type} {enc : TypeId × Value → H} {W : World}
theorem list4 {α : Type} (l : List α) (h : l.length = 4) : ∃ x0 x1 x2 x3, l = [x0, x1, x2, x3] := by
  match l, h with
  | [x0, x1, x2, x3], _ => exact ⟨x0, x1, x2, x3, rfl⟩
theorem bounds64 {x : Int} (h : (Lit.int .i64 x).wf = true) : -9223372036854775808 ≤ x ∧ x ≤ 9223372036854775807 := bounds_i64 h

theorem trod_op {fuel : Nat} {cs : List Value} {z : DataW H × List MemPlace} (h : DataW.trod enc Try.prog W 0 (fun _ => true) true fuel 37 cs = some z) :
    ∃ b : Opr, cs = [.int .i64 b.kind, .int .i64 b.n, .string b.name, .bool b.up] ∧ b.name.size ≤ maxLen := by
  have hc : Try.prog.cellsOf 37 = 4 := by kernel_rfl
  have c3 : Try.prog.cellsOf 3 = 1 := by kernel_rfl
  have c4 : Try.prog.cellsOf 4 = 1 := by kernel_rfl
  have c9 : Try.prog.cellsOf 9 = 1 := by kernel_rfl
  obtain ⟨xs, n, _, hx, hl, hlen, hg⟩ := DataW.trod_struct Try.underlying37 h
  rw [hc] at hl
  obtain ⟨z0, z1, z2, z3, rfl⟩ := list4 cs hl
  have g0 := hg 0 _ rfl
  have g1 := hg 1 _ rfl
  have g2 := hg 2 _ rfl
  have g3 := hg 3 _ rfl
  obtain ⟨y0, y1, y2, y3, rfl⟩ := list4 xs hlen
  simp [Value.cells, c3, c4, c9] at g0 g1 g2 g3
  obtain ⟨s0, e0, x0, w0⟩ := DataW.trod_int Try.underlying3 g0
  obtain ⟨s1, e1, x1, w1⟩ := DataW.trod_int Try.underlying3 g1
  obtain ⟨s2, e2, x2, w2⟩ := DataW.trod_string Try.underlying9 g2
  obtain ⟨s3, e3, x3⟩ := DataW.trod_bool Try.underlying4 g3
  simp at e0 e1 e2 e3
  subst e0 e1 e2 e3
  exact ⟨⟨s0, s1, s2, s3⟩, rfl, w2⟩

theorem scr_of_trod {fuel : Nat} {v : Value} {x : DataW H × List MemPlace} (h : DataW.trod enc Try.prog W 0 (fun _ => true) true fuel 23 [v] = some x) :
    ∃ a n c l, v = .slice a n c ∧ Scr W a n c l := by
  have hc : Try.prog.cellsOf 37 = 4 := by kernel_rfl
  rcases DataW.trod_slice Try.underlying23 h with ⟨hcs, rfl⟩ | ⟨a, len, cap, elems, rest, n, _, hcs, rfl, _, hlc, hm, hel, hcell, _, _⟩
  · simp at hcs
    subst hcs
    exact ⟨none, 0, 0, [], rfl, rfl, Nat.le_refl _, fun j hj => by simp at hj, fun h => by omega⟩
  · simp at hcs
    subst hcs
    rw [hc] at hcell
    have key : ∀ i, i < len → ∃ b : Opr, W.cells? 0 (a.add (i * 4)) 4 = some [.int .i64 b.kind, .int .i64 b.n, .string b.name, .bool b.up] ∧ b.name.size ≤ maxLen := fun i hi => by
      have h1 := hcell i hi
      rw [List.getElem?_eq_getElem (by omega)] at h1
      obtain ⟨cs, hcs, hz⟩ := Option.bind_eq_some_iff.1 h1
      obtain ⟨b, rfl, hb⟩ := trod_op hz
      exact ⟨b, hcs, hb⟩
    obtain ⟨f, hf⟩ : ∃ f : Nat → Opr, ∀ i, i < len → W.cells? 0 (a.add (i * 4)) 4 = some [.int .i64 (f i).kind, .int .i64 (f i).n, .string (f i).name, .bool (f i).up] ∧ (f i).name.size ≤ maxLen :=
      ⟨fun i => if h : i < len then (key i h).choose else default, fun i hi => by simp only [hi, dif_pos]; exact (key i hi).choose_spec⟩
    have hat : ∀ i, i < ((List.range len).map f).length → ((List.range len).map f)[i]! = f i := fun i hi => by
      rw [getElem!_pos _ i hi]; simp
    refine ⟨some a, len, cap, (List.range len).map f, rfl, by simp, hlc, fun i hi => ?_, fun hn => ?_⟩
    · rw [hat i hi]
      exact (hf i (by simpa using hi)).2
    obtain ⟨b, off, spot⟩ := a
    have h0 := World.cells?_some (hf 0 hn).1
    have hspot : spot = none := by
      have := (h0.2.2 0 (by omega)).trans (show [Value.int .i64 (f 0).kind, .int .i64 (f 0).n, .string (f 0).name, .bool (f 0).up][0]? = some (.int .i64 (f 0).kind) from rfl)
      simpa [Addr.add] using World.cell?_spot this
    subst hspot
    have hlt := World.cells?_block (hf 0 hn).1 (by omega)
    refine ⟨b, off, rfl, by simpa [Addr.add] using hlt, fun i hi => ?_⟩
    rw [hat i hi]
    have hi' : i < len := by simpa using hi
    have h1 := World.cells?_some (hf i hi').1
    have p0 := (h1.2.2 0 (by omega)).trans (show [Value.int .i64 (f i).kind, .int .i64 (f i).n, .string (f i).name, .bool (f i).up][0]? = some (.int .i64 (f i).kind) from rfl)
    have p1 := (h1.2.2 1 (by omega)).trans (show [Value.int .i64 (f i).kind, .int .i64 (f i).n, .string (f i).name, .bool (f i).up][1]? = some (.int .i64 (f i).n) from rfl)
    have p2 := (h1.2.2 2 (by omega)).trans (show [Value.int .i64 (f i).kind, .int .i64 (f i).n, .string (f i).name, .bool (f i).up][2]? = some (.string (f i).name) from rfl)
    have p3 := (h1.2.2 3 (by omega)).trans (show [Value.int .i64 (f i).kind, .int .i64 (f i).n, .string (f i).name, .bool (f i).up][3]? = some (.bool (f i).up) from rfl)
    rw [add_plain, add_plain] at p0 p1 p2 p3
    exact ⟨p0, p1, p2, p3⟩
theorem open_scr {r : Reach} {b0 : Nat} {v : Value} {d : DataW H} {p : List MemPlace} (hv : Value.okWide Try.prog W r b0 23 v) (h : DataW.Trod enc Try.prog W 0 (fun _ => true) true 23 v d p) :
    ∃ a n c l, v = .slice a n c ∧ Scr W a n c l := by
  obtain ⟨a, len, cap, rfl⟩ := okWide_slice Try.underlying23 hv
  obtain ⟨fuel, hf⟩ := h
  exact scr_of_trod (x := (d, p)) (by simpa [Value.cells] using hf)

theorem told_of_trod {fuel : Nat} {v : Value} {x : DataW H × List MemPlace} (h : DataW.trod enc Try.prog W 0 (fun _ => true) true fuel 30 [v] = some x) :
    ∃ a n c l, v = .slice a n c ∧ Told W a n c l := by
  have hc : Try.prog.cellsOf 4 = 1 := by kernel_rfl
  rcases DataW.trod_slice Try.underlying30 h with ⟨hcs, rfl⟩ | ⟨a, len, cap, elems, rest, n, _, hcs, rfl, _, hlc, hm, hel, hcell, _, _⟩
  · simp at hcs
    subst hcs
    exact ⟨none, 0, 0, [], rfl, rfl, Nat.le_refl _, fun h => by omega⟩
  · simp at hcs
    subst hcs
    rw [hc] at hcell
    have key : ∀ i, i < len → ∃ b : Bool, W.cells? 0 (a.add (i * 1)) 1 = some [.bool b] := fun i hi => by
      have h1 := hcell i hi
      rw [List.getElem?_eq_getElem (by omega)] at h1
      obtain ⟨cs, hcs, hz⟩ := Option.bind_eq_some_iff.1 h1
      obtain ⟨b, rfl, _⟩ := DataW.trod_bool Try.underlying4 hz
      exact ⟨b, hcs⟩
    obtain ⟨f, hf⟩ : ∃ f : Nat → Bool, ∀ i, i < len → W.cells? 0 (a.add (i * 1)) 1 = some [.bool (f i)] :=
      ⟨fun i => if h : i < len then (key i h).choose else default, fun i hi => by simp only [hi, dif_pos]; exact (key i hi).choose_spec⟩
    have hat : ∀ i, i < ((List.range len).map f).length → ((List.range len).map f)[i]! = f i := fun i hi => by
      rw [getElem!_pos _ i hi]; simp
    refine ⟨some a, len, cap, (List.range len).map f, rfl, by simp, hlc, fun hn => ?_⟩
    obtain ⟨b, off, spot⟩ := a
    have h0 := World.cells?_some (hf 0 hn)
    have hspot : spot = none := by
      have := (h0.2.2 0 (by omega)).trans (show [Value.bool (f 0)][0]? = some (.bool (f 0)) from rfl)
      simpa [Addr.add] using World.cell?_spot this
    subst hspot
    have hlt := World.cells?_block (hf 0 hn) (by omega)
    refine ⟨b, off, rfl, by simpa [Addr.add] using hlt, fun i hi => ?_⟩
    rw [hat i hi]
    have h1 := World.cells?_some (hf i (by simpa using hi))
    have p0 := (h1.2.2 0 (by omega)).trans (show [Value.bool (f i)][0]? = some (.bool (f i)) from rfl)
    rw [add_plain, add_plain] at p0
    simpa using p0
theorem open_told {r : Reach} {b0 : Nat} {v : Value} {d : DataW H} {p : List MemPlace} (hv : Value.okWide Try.prog W r b0 30 v) (h : DataW.Trod enc Try.prog W 0 (fun _ => true) true 30 v d p) :
    ∃ a n c l, v = .slice a n c ∧ Told W a n c l := by
  obtain ⟨a, len, cap, rfl⟩ := okWide_slice Try.underlying30 hv
  obtain ⟨fuel, hf⟩ := h
  exact told_of_trod (x := (d, p)) (by simpa [Value.cells] using hf)
theorem list2 {α : Type} (l : List α) (h : l.length = 2) : ∃ x0 x1, l = [x0, x1] := by
  match l, h with
  | [x0, x1], _ => exact ⟨x0, x1, rfl⟩

theorem trod_bk {fuel : Nat} {cs : List Value} {z : DataW H × List MemPlace} (h : DataW.trod enc Try.prog W 0 (fun _ => true) true fuel 53 cs = some z) :
    ∃ b : Bk, cs = [.string b.name, .int .i64 b.wt] ∧ b.name.size ≤ 9223372036854775807 ∧ -9223372036854775808 ≤ b.wt ∧ b.wt ≤ 9223372036854775807 := by
  have hc : Try.prog.cellsOf 53 = 2 := by kernel_rfl
  have c3 : Try.prog.cellsOf 3 = 1 := by kernel_rfl
  have c9 : Try.prog.cellsOf 9 = 1 := by kernel_rfl
  obtain ⟨xs, n, _, hx, hl, hlen, hg⟩ := DataW.trod_struct Try.underlying53 h
  rw [hc] at hl
  obtain ⟨z0, z1, rfl⟩ := list2 cs hl
  have g0 := hg 0 _ rfl
  have g1 := hg 1 _ rfl
  obtain ⟨y0, y1, rfl⟩ := list2 xs hlen
  simp [Value.cells, c3, c9] at g0 g1
  obtain ⟨s0, e0, x0, w0⟩ := DataW.trod_string Try.underlying9 g0
  obtain ⟨s1, e1, x1, w1⟩ := DataW.trod_int Try.underlying3 g1
  simp at e0 e1
  subst e0 e1
  refine ⟨⟨s0, s1⟩, rfl, by simpa [maxLen] using w0, ?_⟩
  have := bounds_i64 w1
  exact ⟨this.1, this.2⟩

theorem bks_of_trod {fuel : Nat} {v : Value} {x : DataW H × List MemPlace} (h : DataW.trod enc Try.prog W 0 (fun _ => true) true fuel 22 [v] = some x) :
    ∃ a n c l, v = .slice a n c ∧ n = l.length ∧ n ≤ c ∧ Wide l ∧ (0 < n → ∃ b off, a = some ⟨b, off, none⟩ ∧ b < W.heap.size ∧ BkAt W b off l) ∧ (x.1 = .nil ∧ n = 0 ∨ ∃ E S, x.1 = .slice E S ∧ E.length = n) := by
  have hc : Try.prog.cellsOf 53 = 2 := by kernel_rfl
  rcases DataW.trod_slice Try.underlying22 h with ⟨hcs, rfl⟩ | ⟨a, len, cap, elems, rest, n, _, hcs, rfl, _, hlc, hm, hel, hcell, _, _⟩
  · simp at hcs
    subst hcs
    exact ⟨none, 0, 0, [], rfl, rfl, Nat.le_refl _, fun i hi => by simp at hi, fun h => by omega, .inl ⟨rfl, rfl⟩⟩
  · simp at hcs
    subst hcs
    rw [hc] at hcell
    have key : ∀ i, i < len → ∃ b : Bk, W.cells? 0 (a.add (i * 2)) 2 = some [.string b.name, .int .i64 b.wt] ∧ b.name.size ≤ 9223372036854775807 ∧ -9223372036854775808 ≤ b.wt ∧ b.wt ≤ 9223372036854775807 := fun i hi => by
      have h1 := hcell i hi
      rw [List.getElem?_eq_getElem (by omega)] at h1
      obtain ⟨cs, hcs, hz⟩ := Option.bind_eq_some_iff.1 h1
      obtain ⟨b, rfl, hb⟩ := trod_bk hz
      exact ⟨b, hcs, hb⟩
    obtain ⟨f, hf⟩ : ∃ f : Nat → Bk, ∀ i, i < len → W.cells? 0 (a.add (i * 2)) 2 = some [.string (f i).name, .int .i64 (f i).wt] ∧ (f i).name.size ≤ 9223372036854775807 ∧ -9223372036854775808 ≤ (f i).wt ∧ (f i).wt ≤ 9223372036854775807 :=
      ⟨fun i => if h : i < len then (key i h).choose else default, fun i hi => by simp only [hi, dif_pos]; exact (key i hi).choose_spec⟩
    have hat : ∀ i, i < ((List.range len).map f).length → ((List.range len).map f)[i]! = f i := fun i hi => by
      rw [getElem!_pos _ i hi]; simp
    refine ⟨some a, len, cap, (List.range len).map f, rfl, by simp, hlc, fun i hi => ?_, fun hn => ?_, .inr ⟨_, _, rfl, by simp [hel]⟩⟩
    · rw [hat i hi]
      exact (hf i (by simpa using hi)).2
    · obtain ⟨b, off, spot⟩ := a
      have h0 := World.cells?_some (hf 0 hn).1
      have hspot : spot = none := by
        have := (h0.2.2 0 (by omega)).trans (show [Value.string (f 0).name, .int .i64 (f 0).wt][0]? = some (.string (f 0).name) from rfl)
        simpa [Addr.add] using World.cell?_spot this
      subst hspot
      have hlt := World.cells?_block (hf 0 hn).1 (by omega)
      refine ⟨b, off, rfl, by simpa [Addr.add] using hlt, fun i hi => ?_⟩
      rw [hat i hi]
      have hi' : i < len := by simpa using hi
      have h1 := World.cells?_some (hf i hi').1
      have p0 := (h1.2.2 0 (by omega)).trans (show [Value.string (f i).name, .int .i64 (f i).wt][0]? = some (.string (f i).name) from rfl)
      have p1 := (h1.2.2 1 (by omega)).trans (show [Value.string (f i).name, .int .i64 (f i).wt][1]? = some (.int .i64 (f i).wt) from rfl)
      rw [add_plain, add_plain] at p0 p1
      exact ⟨p0, p1⟩

theorem open_bks {r : Reach} {b0 : Nat} {v : Value} {d : DataW H} {p : List MemPlace} (hv : Value.okWide Try.prog W r b0 22 v) (h : DataW.Trod enc Try.prog W 0 (fun _ => true) true 22 v d p) :
    ∃ a n c l, v = .slice a n c ∧ n = l.length ∧ n ≤ c ∧ Wide l ∧ (0 < n → ∃ b off, a = some ⟨b, off, none⟩ ∧ b < W.heap.size ∧ BkAt W b off l) ∧ (d = .nil ∧ n = 0 ∨ ∃ E S, d = .slice E S ∧ E.length = n) := by
  obtain ⟨a, len, cap, rfl⟩ := okWide_slice Try.underlying22 hv
  obtain ⟨fuel, hf⟩ := h
  exact bks_of_trod (x := (d, p)) (by simpa [Value.cells] using hf)
theorem bks_reach {ts : List TypeId} {ds : List (DataW H)} (hsz : (DataW.weightsEach Try.prog ts ds).all (· ≤ reachBytes) = true) {j n : Nat} {d : DataW H}
    (ht : ts[j]? = some 22) (hd : ds[j]? = some d) (h4 : d = .nil ∧ n = 0 ∨ ∃ E S, d = .slice E S ∧ E.length = n) : n ≤ 5864062014634 := by
  rcases h4 with ⟨_, rfl⟩ | ⟨E, S, rfl, rfl⟩
  · omega
  · have := sized_slice hsz ht hd Try.underlying22
    rw [show Try.prog.bytesOf 53 = 24 by kernel_rfl] at this
    simp only [reachBytes] at this
    omega
theorem bks_mk {a : Option Addr} {n c : Nat} {l : List Bk} (h1 : n = l.length) (h2 : n ≤ c) (h3 : n ≤ 5864062014634) (h4 : 0 < n → ∃ b off, a = some ⟨b, off, none⟩ ∧ b < W.heap.size ∧ BkAt W b off l) : Bks W a n c l := ⟨h1, h2, by omega, h4⟩

end
end Go.Proofs.Ytbeacddclphjgaa
