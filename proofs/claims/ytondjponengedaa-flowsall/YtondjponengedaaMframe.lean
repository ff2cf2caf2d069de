/-
  What the rows' steps of this seat share: how flows, and scripts of calls, that came in, are opened.
-/
import Derived.Test.YtondjponengedaaFrame
import Derived.Test.YtondjponengedaaExpire
namespace Go.Proofs.Ytondjponengedaa
open Go.ChangeShapes Go.WideShapes Go.ChangeAt Go.RowKit
set_option linter.unusedVariables false
set_option linter.unusedSimpArgs false
set_option maxRecDepth 10000

/-- A call in memory. -/
def OpAt (w : World) (b o : Nat) (p : Opr) : Prop :=
  w.cell? ⟨b, o, none⟩ = some (.int .i64 p.kind) ∧ w.cell? ⟨b, o + 1, none⟩ = some (.int .i64 p.flags) ∧ w.cell? ⟨b, o + 2, none⟩ = some (.int .i64 p.now) ∧
  w.cell? ⟨b, o + 3, none⟩ = some (.int .i64 p.e.fl.proto) ∧ w.cell? ⟨b, o + 4, none⟩ = some (.string p.e.fl.frm) ∧ w.cell? ⟨b, o + 5, none⟩ = some (.string p.e.fl.to_) ∧ w.cell? ⟨b, o + 6, none⟩ = some (.int .i64 p.e.fl.port) ∧ w.cell? ⟨b, o + 7, none⟩ = some (.int .i64 p.e.fl.dest) ∧
  w.cell? ⟨b, o + 8, none⟩ = some (.int .i64 p.e.bk) ∧ w.cell? ⟨b, o + 9, none⟩ = some (.int .i64 p.e.st) ∧ w.cell? ⟨b, o + 10, none⟩ = some (.int .i64 p.e.ends)
def ocs (p : Opr) : List Value := .int .i64 p.kind :: .int .i64 p.flags :: .int .i64 p.now :: ecs p.e
def opv (p : Opr) : Value := .agg #[.int .i64 p.kind, .int .i64 p.flags, .int .i64 p.now, .int .i64 p.e.fl.proto, .string p.e.fl.frm, .string p.e.fl.to_, .int .i64 p.e.fl.port, .int .i64 p.e.fl.dest, .int .i64 p.e.bk, .int .i64 p.e.st, .int .i64 p.e.ends]
instance : Inhabited Opr := ⟨⟨0, 0, 0, Z⟩⟩

def Scr0 (w : World) (a : Option Addr) (n c : Nat) (l : List Opr) : Prop := n = l.length ∧ n ≤ c ∧ (0 < n → ∃ b off, a = some ⟨b, off, none⟩ ∧ b < w.heap.size ∧ ∀ j, j < l.length → OpAt w b (off + j * 11) l[j]!)
/-- A script of calls, as it came in. -/
def Scr (w : World) (a : Option Addr) (n c : Nat) (l : List Opr) : Prop := Scr0 w a n c l ∧ ∀ j, j < l.length → OkF (l[j]!).e.fl

theorem OpAt.below {w w' : World} {b o : Nat} {p : Opr} (h : OpAt w b o p) (hb : Below w.heap.size w w') (hlt : b < w.heap.size) : OpAt w' b o p := by
  obtain ⟨h0, h1, h2, h3, h4, h5, h6, h7, h8, h9, h10⟩ := h
  have hc : ∀ j, w'.cell? ⟨b, j, none⟩ = w.cell? ⟨b, j, none⟩ := fun j => hb.cell (p := ⟨b, j, none⟩) hlt
  unfold OpAt
  simp only [hc]
  exact ⟨h0, h1, h2, h3, h4, h5, h6, h7, h8, h9, h10⟩
theorem Scr0.below {w w' : World} {a : Option Addr} {n c : Nat} {l : List Opr} (h : Scr0 w a n c l) (hb : Below w.heap.size w w') : Scr0 w' a n c l :=
  ⟨h.1, h.2.1, fun hn => by
    obtain ⟨b, off, e, hlt, hat⟩ := h.2.2 hn
    exact ⟨b, off, e, Nat.lt_of_lt_of_le hlt hb.size, fun j hj => (hat j hj).below hb hlt⟩⟩
theorem Scr.below {w w' : World} {a : Option Addr} {n c : Nat} {l : List Opr} (h : Scr w a n c l) (hb : Below w.heap.size w w') : Scr w' a n c l := ⟨h.1.below hb, h.2⟩
theorem Scr.at {w : World} {a : Option Addr} {n c : Nat} {l : List Opr} (h : Scr w a n c l) {j : Nat} (hj : j < n) : ∃ b off, a = some ⟨b, off, none⟩ ∧ b < w.heap.size ∧ OpAt w b (off + j * 11) l[j]! ∧ OkF (l[j]!).e.fl := by
  obtain ⟨b, off, e, hb, hat⟩ := h.1.2.2 (by omega)
  have hl : j < l.length := by rw [← h.1.1]; exact hj
  exact ⟨b, off, e, hb, hat j hl, h.2 j hl⟩

section
variable {H : Type} {enc : TypeId × Value → H} {W : World}

def fld (f : Fl) : DataW H := .agg [.lit (.int .i64 f.proto), .lit (.string f.frm.data.toList), .lit (.string f.to_.data.toList), .lit (.int .i64 f.port), .lit (.int .i64 f.dest)]
def opd (p : Opr) : DataW H := .agg [.lit (.int .i64 p.kind), .lit (.int .i64 p.flags), .lit (.int .i64 p.now), .agg [fld p.e.fl, .lit (.int .i64 p.e.bk), .lit (.int .i64 p.e.st), .lit (.int .i64 p.e.ends)]]

theorem list5 {α : Type} (l : List α) (h : l.length = 5) : ∃ x0 x1 x2 x3 x4, l = [x0, x1, x2, x3, x4] := by
  match l, h with
  | [x0, x1, x2, x3, x4], _ => exact ⟨x0, x1, x2, x3, x4, rfl⟩
theorem list4 {α : Type} (l : List α) (h : l.length = 4) : ∃ x0 x1 x2 x3, l = [x0, x1, x2, x3] := by
  match l, h with
  | [x0, x1, x2, x3], _ => exact ⟨x0, x1, x2, x3, rfl⟩
theorem list8 {α : Type} (l : List α) (h : l.length = 8) : ∃ x0 x1 x2 x3 x4 x5 x6 x7, l = [x0, x1, x2, x3, x4, x5, x6, x7] := by
  match l, h with
  | [x0, x1, x2, x3, x4, x5, x6, x7], _ => exact ⟨x0, x1, x2, x3, x4, x5, x6, x7, rfl⟩
theorem list11 {α : Type} (l : List α) (h : l.length = 11) : ∃ x0 x1 x2 x3 x4 x5 x6 x7 x8 x9 x10, l = [x0, x1, x2, x3, x4, x5, x6, x7, x8, x9, x10] := by
  match l, h with
  | [x0, x1, x2, x3, x4, x5, x6, x7, x8, x9, x10], _ => exact ⟨x0, x1, x2, x3, x4, x5, x6, x7, x8, x9, x10, rfl⟩

theorem trod_flow {fuel : Nat} {cs : List Value} {z : DataW H × List MemPlace} (h : DataW.trod enc Try.prog W 0 (fun _ => true) true fuel 37 cs = some z) :
    ∃ f : Fl, cs = fcs f ∧ z.1 = fld f := by
  have hc : Try.prog.cellsOf 37 = 5 := by kernel_rfl
  have c3 : Try.prog.cellsOf 3 = 1 := by kernel_rfl
  have c35 : Try.prog.cellsOf 35 = 1 := by kernel_rfl
  obtain ⟨xs, n, _, hx, hl, hlen, hg⟩ := DataW.trod_struct Try.underlying37 h
  rw [hc] at hl
  obtain ⟨z0, z1, z2, z3, z4, rfl⟩ := list5 cs hl
  have g0 := hg 0 _ rfl
  have g1 := hg 1 _ rfl
  have g2 := hg 2 _ rfl
  have g3 := hg 3 _ rfl
  have g4 := hg 4 _ rfl
  obtain ⟨y0, y1, y2, y3, y4, rfl⟩ := list5 xs hlen
  simp [Value.cells, c3, c35] at g0 g1 g2 g3 g4
  obtain ⟨s0, e0, x0, w0⟩ := DataW.trod_int Try.underlying3 g0
  obtain ⟨s1, e1, x1, w1⟩ := DataW.trod_string Try.underlying35 g1
  obtain ⟨s2, e2, x2, w2⟩ := DataW.trod_string Try.underlying35 g2
  obtain ⟨s3, e3, x3, w3⟩ := DataW.trod_int Try.underlying3 g3
  obtain ⟨s4, e4, x4, w4⟩ := DataW.trod_int Try.underlying3 g4
  simp at e0 e1 e2 e3 e4
  subst e0 e1 e2 e3 e4 x0 x1 x2 x3 x4
  refine ⟨⟨s0, s1, s2, s3, s4⟩, rfl, ?_⟩
  rw [hx]; rfl
theorem trod_entry {fuel : Nat} {cs : List Value} {z : DataW H × List MemPlace} (h : DataW.trod enc Try.prog W 0 (fun _ => true) true fuel 42 cs = some z) :
    ∃ e : En, cs = ecs e ∧ z.1 = .agg [fld e.fl, .lit (.int .i64 e.bk), .lit (.int .i64 e.st), .lit (.int .i64 e.ends)] := by
  have hc : Try.prog.cellsOf 42 = 8 := by kernel_rfl
  have c3 : Try.prog.cellsOf 3 = 1 := by kernel_rfl
  have c37 : Try.prog.cellsOf 37 = 5 := by kernel_rfl
  obtain ⟨xs, n, _, hx, hl, hlen, hg⟩ := DataW.trod_struct Try.underlying42 h
  rw [hc] at hl
  obtain ⟨z0, z1, z2, z3, z4, z5, z6, z7, rfl⟩ := list8 cs hl
  have g0 := hg 0 _ rfl
  have g1 := hg 1 _ rfl
  have g2 := hg 2 _ rfl
  have g3 := hg 3 _ rfl
  obtain ⟨y0, y1, y2, y3, rfl⟩ := list4 xs hlen
  simp [Value.cells, c3, c37] at g0 g1 g2 g3
  obtain ⟨f, e0, x0⟩ := trod_flow g0
  obtain ⟨s1, e1, x1, w1⟩ := DataW.trod_int Try.underlying3 g1
  obtain ⟨s2, e2, x2, w2⟩ := DataW.trod_int Try.underlying3 g2
  obtain ⟨s3, e3, x3, w3⟩ := DataW.trod_int Try.underlying3 g3
  simp [fcs] at e0 e1 e2 e3
  obtain ⟨rfl, rfl, rfl, rfl, rfl⟩ := e0
  subst e1 e2 e3 x1 x2 x3
  refine ⟨⟨f, s1, s2, s3⟩, rfl, ?_⟩
  rw [hx]
  simp [x0]
theorem trod_op {fuel : Nat} {cs : List Value} {z : DataW H × List MemPlace} (h : DataW.trod enc Try.prog W 0 (fun _ => true) true fuel 53 cs = some z) :
    ∃ p : Opr, cs = ocs p ∧ z.1 = opd p := by
  have hc : Try.prog.cellsOf 53 = 11 := by kernel_rfl
  have c3 : Try.prog.cellsOf 3 = 1 := by kernel_rfl
  have c42 : Try.prog.cellsOf 42 = 8 := by kernel_rfl
  obtain ⟨xs, n, _, hx, hl, hlen, hg⟩ := DataW.trod_struct Try.underlying53 h
  rw [hc] at hl
  obtain ⟨z0, z1, z2, z3, z4, z5, z6, z7, z8, z9, z10, rfl⟩ := list11 cs hl
  have g0 := hg 0 _ rfl
  have g1 := hg 1 _ rfl
  have g2 := hg 2 _ rfl
  have g3 := hg 3 _ rfl
  obtain ⟨y0, y1, y2, y3, rfl⟩ := list4 xs hlen
  simp [Value.cells, c3, c42] at g0 g1 g2 g3
  obtain ⟨s0, e0, x0, w0⟩ := DataW.trod_int Try.underlying3 g0
  obtain ⟨s1, e1, x1, w1⟩ := DataW.trod_int Try.underlying3 g1
  obtain ⟨s2, e2, x2, w2⟩ := DataW.trod_int Try.underlying3 g2
  obtain ⟨e, e3, x3⟩ := trod_entry g3
  simp [ecs] at e0 e1 e2 e3
  obtain ⟨rfl, rfl, rfl, rfl, rfl, rfl, rfl, rfl⟩ := e3
  subst e0 e1 e2 x0 x1 x2
  refine ⟨⟨s0, s1, s2, e⟩, rfl, ?_⟩
  rw [hx]
  simp [x3, opd]

theorem open_flow {r : Reach} {b0 : Nat} {v : Value} {d : DataW H} {p : List MemPlace} (hv : Value.okWide Try.prog W r b0 37 v) (h : DataW.Trod enc Try.prog W 0 (fun _ => true) true 37 v d p) :
    ∃ f : Fl, v = fv f ∧ d = fld f := by
  obtain ⟨cs, rfl, hsz⟩ := okWide_struct Try.underlying37 hv
  obtain ⟨fuel, hf⟩ := h
  obtain ⟨f, h1, h2⟩ := trod_flow (z := (d, p)) hf
  refine ⟨f, ?_, h2⟩
  have : cs.toList = fcs f := h1
  unfold fv
  congr 1
  exact Array.toList_inj.1 this

theorem ops_of_trod {fuel : Nat} {v : Value} {x : DataW H × List MemPlace} (h : DataW.trod enc Try.prog W 0 (fun _ => true) true fuel 23 [v] = some x) :
    ∃ a n c l, v = .slice a n c ∧ Scr0 W a n c l ∧ (n = 0 ∨ ∃ E S, x.1 = .slice E S ∧ ∀ j, j < l.length → opd l[j]! ∈ E) := by
  have hc : Try.prog.cellsOf 53 = 11 := by kernel_rfl
  rcases DataW.trod_slice Try.underlying23 h with ⟨hcs, rfl⟩ | ⟨a, len, cap, elems, rest, n, _, hcs, rfl, _, hlc, hm, hel, hcell, _, _⟩
  · simp at hcs
    subst hcs
    exact ⟨none, 0, 0, [], rfl, ⟨rfl, Nat.le_refl _, fun h => by omega⟩, .inl rfl⟩
  · simp at hcs
    subst hcs
    rw [hc] at hcell
    have key : ∀ i, i < len → ∃ b : Opr, W.cells? 0 (a.add (i * 11)) 11 = some (ocs b) ∧ (opd b : DataW H) ∈ elems.map (·.1) := fun i hi => by
      have h1 := hcell i hi
      rw [List.getElem?_eq_getElem (by omega)] at h1
      obtain ⟨cs, hcs, hz⟩ := Option.bind_eq_some_iff.1 h1
      obtain ⟨b, rfl, hb⟩ := trod_op hz
      exact ⟨b, hcs, List.mem_map.2 ⟨_, List.getElem_mem (by omega), hb⟩⟩
    obtain ⟨f, hf⟩ : ∃ f : Nat → Opr, ∀ i, i < len → W.cells? 0 (a.add (i * 11)) 11 = some (ocs (f i)) ∧ (opd (f i) : DataW H) ∈ elems.map (·.1) :=
      ⟨fun i => if h : i < len then (key i h).choose else default, fun i hi => by simp only [hi, dif_pos]; exact (key i hi).choose_spec⟩
    have hat : ∀ i, i < ((List.range len).map f).length → ((List.range len).map f)[i]! = f i := fun i hi => by
      rw [getElem!_pos _ i hi]; simp
    refine ⟨some a, len, cap, (List.range len).map f, rfl, ⟨by simp, hlc, fun hn => ?_⟩, .inr ⟨_, _, rfl, fun i hi => ?_⟩⟩
    · obtain ⟨b, off, spot⟩ := a
      have h0 := World.cells?_some (hf 0 hn).1
      have hspot : spot = none := by
        have := (h0.2.2 0 (by omega)).trans (show (ocs (f 0))[0]? = some (.int .i64 (f 0).kind) from rfl)
        simpa [Addr.add] using World.cell?_spot this
      subst hspot
      have hlt := World.cells?_block (hf 0 hn).1 (by omega)
      refine ⟨b, off, rfl, by simpa [Addr.add] using hlt, fun i hi => ?_⟩
      rw [hat i hi]
      have hi' : i < len := by simpa using hi
      have h1 := World.cells?_some (hf i hi').1
      have p : ∀ j, j < 11 → W.cell? ⟨b, off + i * 11 + j, none⟩ = (ocs (f i))[j]? := fun j hj => by
        have := h1.2.2 j hj
        rw [add_plain, add_plain] at this
        exact this
      exact ⟨p 0 (by omega), p 1 (by omega), p 2 (by omega), p 3 (by omega), p 4 (by omega), p 5 (by omega), p 6 (by omega), p 7 (by omega), p 8 (by omega), p 9 (by omega), p 10 (by omega)⟩
    · rw [hat i hi]
      exact (hf i (by simpa using hi)).2
theorem open_ops {r : Reach} {b0 : Nat} {v : Value} {d : DataW H} {p : List MemPlace} (hv : Value.okWide Try.prog W r b0 23 v) (h : DataW.Trod enc Try.prog W 0 (fun _ => true) true 23 v d p) :
    ∃ a n c l, v = .slice a n c ∧ Scr0 W a n c l ∧ (n = 0 ∨ ∃ E S, d = .slice E S ∧ ∀ j, j < l.length → opd l[j]! ∈ E) := by
  obtain ⟨a, len, cap, rfl⟩ := okWide_slice Try.underlying23 hv
  obtain ⟨fuel, hf⟩ := h
  exact ops_of_trod (x := (d, p)) (by simpa [Value.cells] using hf)

theorem flow_weights (f : Fl) : f.frm.size ∈ DataW.weights Try.prog 37 (fld f : DataW H) ∧ f.to_.size ∈ DataW.weights Try.prog 37 (fld f : DataW H) := by
  constructor <;> simp [fld, DataW.weights, DataW.weightsEach, Try.underlying37]
theorem op_weights (p : Opr) : p.e.fl.frm.size ∈ DataW.weights Try.prog 53 (opd p : DataW H) ∧ p.e.fl.to_.size ∈ DataW.weights Try.prog 53 (opd p : DataW H) := by
  constructor <;> simp [opd, fld, DataW.weights, DataW.weightsEach, Try.underlying53, Try.underlying42, Try.underlying37]
theorem mem_weightsAll {P : Program} {e : TypeId} {n : Nat} : ∀ {l : List (DataW H)} {d : DataW H}, d ∈ l → n ∈ d.weights P e → n ∈ DataW.weightsAll P e l
  | x :: r, d, hd, hn => by
    rw [DataW.weightsAll, List.mem_append]
    rcases List.mem_cons.1 hd with rfl | hd
    · exact .inl hn
    · exact .inr (mem_weightsAll hd hn)
theorem flow_reach {ts : List TypeId} {ds : List (DataW H)} (hsz : (DataW.weightsEach Try.prog ts ds).all (· ≤ reachBytes) = true) {j : Nat} {f : Fl} (ht : ts[j]? = some 37) (hd : ds[j]? = some (fld f)) : OkF f := by
  constructor
  · have := of_decide_eq_true (List.all_eq_true.1 hsz _ (DataW.weights_mem_each ht hd _ (flow_weights f).1))
    simpa [reachBytes] using this
  · have := of_decide_eq_true (List.all_eq_true.1 hsz _ (DataW.weights_mem_each ht hd _ (flow_weights f).2))
    simpa [reachBytes] using this
theorem ops_reach {ts : List TypeId} {ds : List (DataW H)} (hsz : (DataW.weightsEach Try.prog ts ds).all (· ≤ reachBytes) = true) {j n : Nat} {d : DataW H} {l : List Opr}
    (ht : ts[j]? = some 23) (hd : ds[j]? = some d) (h4 : n = 0 ∨ ∃ E S, d = .slice E S ∧ ∀ j, j < l.length → opd l[j]! ∈ E) (hn : n = l.length) : ∀ j, j < l.length → OkF (l[j]!).e.fl := fun i hi => by
  rcases h4 with h0 | ⟨E, S, rfl, hE⟩
  · omega
  · have hin := hE i hi
    have hw : ∀ m, m ∈ DataW.weights Try.prog 53 (opd l[i]! : DataW H) → m ∈ DataW.weights Try.prog 23 (.slice E S : DataW H) := fun m hm => by
      rw [DataW.weights]
      simp only [Try.underlying23]
      exact List.mem_cons_of_mem _ (List.mem_append_left _ (mem_weightsAll hin hm))
    constructor
    · have := of_decide_eq_true (List.all_eq_true.1 hsz _ (DataW.weights_mem_each ht hd _ (hw _ (op_weights l[i]!).1)))
      simpa [reachBytes] using this
    · have := of_decide_eq_true (List.all_eq_true.1 hsz _ (DataW.weights_mem_each ht hd _ (hw _ (op_weights l[i]!).2)))
      simpa [reachBytes] using this
end

end Go.Proofs.Ytondjponengedaa
