/-
  What the rows' steps of this seat share: how configs, advertisements and scripts of calls that came in are opened.
-/
import Derived.Test.YtpcdaidgijkkbaaAsmall
import Derived.Test.YtpcdaidgijkkbaaVmath
import Derived.ProofKit
import Derived.OpenShut
import Derived.ShutString
import Derived.ChangeOld
import Derived.SizedLaws
import Derived.ChangeMaps5
import Derived.Deep.Strs
namespace Go.Proofs.Ytpcdaidgijkkbaa
open Go.ChangeShapes Go.WideShapes Go.ChangeAt Go.RowKit
set_option linter.unusedVariables false
set_option linter.unusedSimpArgs false
set_option maxRecDepth 10000

theorem own : ownKnob Try.prog.godebug = none := by kernel_rfl
theorem laidOut : laidOutB Try.prog = true := by kernel_rfl

/-- A call as it lies in memory: what it says, and the value of its addresses. -/
def opcells (o : Oq) (v : Value) : List Value := [.int .i64 o.kind, .int .i64 o.n, .string o.fr, .int .i64 o.a.id, .int .i64 o.a.pr, .int .i64 o.a.ev, v]
/-- A script of calls, as it came in. -/
def Scr (w : World) (a : Option Addr) (n c : Nat) (l : List Oq) : Prop := n = l.length ∧ n ≤ c ∧
  (0 < n → ∃ b off, a = some ⟨b, off, none⟩ ∧ b < w.heap.size ∧ ∀ j, j < l.length → ∃ A m k, ∀ q u, (opcells l[j]! (.slice A m k))[q]? = some u → w.cell? ⟨b, off + j * 7 + q, none⟩ = some u)
theorem Scr.below {w w' : World} {a : Option Addr} {n c : Nat} {l : List Oq} (h : Scr w a n c l) (hb : Below w.heap.size w w') : Scr w' a n c l :=
  ⟨h.1, h.2.1, fun hn => by
    obtain ⟨b, off, e, hlt, hat⟩ := h.2.2 hn
    refine ⟨b, off, e, Nat.lt_of_lt_of_le hlt hb.size, fun j hj => ?_⟩
    obtain ⟨A, m, k, hc⟩ := hat j hj
    exact ⟨A, m, k, fun q u hq => (hb.cell (p := ⟨b, off + j * 7 + q, none⟩) hlt).trans (hc q u hq)⟩⟩
theorem Scr.at {w : World} {a : Option Addr} {n c : Nat} {l : List Oq} (h : Scr w a n c l) {j : Nat} (hj : j < n) : ∃ b off A m k, a = some ⟨b, off, none⟩ ∧ b < w.heap.size ∧ w.cell? ⟨b, off + j * 7, none⟩ = some (.int .i64 (l[j]!).kind) ∧ w.cell? ⟨b, off + j * 7 + 1, none⟩ = some (.int .i64 (l[j]!).n) ∧ w.cell? ⟨b, off + j * 7 + 2, none⟩ = some (.string (l[j]!).fr) ∧ w.cell? ⟨b, off + j * 7 + 3, none⟩ = some (.int .i64 (l[j]!).a.id) ∧ w.cell? ⟨b, off + j * 7 + 4, none⟩ = some (.int .i64 (l[j]!).a.pr) ∧ w.cell? ⟨b, off + j * 7 + 5, none⟩ = some (.int .i64 (l[j]!).a.ev) ∧ w.cell? ⟨b, off + j * 7 + 6, none⟩ = some (.slice A m k) := by
  obtain ⟨b, off, e, hb, hat⟩ := h.2.2 (by omega)
  obtain ⟨A, m, k, hc⟩ := hat j (by rw [← h.1]; exact hj)
  exact ⟨b, off, A, m, k, e, hb, hc 0 _ rfl, hc 1 _ rfl, hc 2 _ rfl, hc 3 _ rfl, hc 4 _ rfl, hc 5 _ rfl, hc 6 _ rfl⟩

section
variable {H : Type} {enc : TypeId × Value → H} {P : Program} {W : World}
theorem text_reach {ts : List TypeId} {ds : List (DataW H)} (hsz : (DataW.weightsEach P ts ds).all (· ≤ reachBytes) = true) {j : Nat} {t : TypeId} {s : ByteArray}
    (ht : ts[j]? = some t) (hd : ds[j]? = some (.lit (.string s.data.toList))) : s.size ≤ 140737488351232 := by
  have := sized_string hsz ht hd
  simpa [reachBytes] using this
theorem list4 {α : Type} (l : List α) (h : l.length = 4) : ∃ x0 x1 x2 x3, l = [x0, x1, x2, x3] := by
  match l, h with
  | [x0, x1, x2, x3], _ => exact ⟨x0, x1, x2, x3, rfl⟩
theorem list2 {α : Type} (l : List α) (h : l.length = 2) : ∃ x0 x1, l = [x0, x1] := by
  match l, h with
  | [x0, x1], _ => exact ⟨x0, x1, rfl⟩
theorem list5 {α : Type} (l : List α) (h : l.length = 5) : ∃ x0 x1 x2 x3 x4, l = [x0, x1, x2, x3, x4] := by
  match l, h with
  | [x0, x1, x2, x3, x4], _ => exact ⟨x0, x1, x2, x3, x4, rfl⟩
theorem list6 {α : Type} (l : List α) (h : l.length = 6) : ∃ x0 x1 x2 x3 x4 x5, l = [x0, x1, x2, x3, x4, x5] := by
  match l, h with
  | [x0, x1, x2, x3, x4, x5], _ => exact ⟨x0, x1, x2, x3, x4, x5, rfl⟩
theorem list7 {α : Type} (l : List α) (h : l.length = 7) : ∃ x0 x1 x2 x3 x4 x5 x6, l = [x0, x1, x2, x3, x4, x5, x6] := by
  match l, h with
  | [x0, x1, x2, x3, x4, x5, x6], _ => exact ⟨x0, x1, x2, x3, x4, x5, x6, rfl⟩
end

section
variable {H : Type} {enc : TypeId × Value → H} {W : World}
theorem strs_of_trod {fuel : Nat} {v : Value} {x : DataW H × List MemPlace} (h : DataW.trod enc Try.prog W 0 (fun _ => true) true fuel 23 [v] = some x) :
    ∃ a n c ss, v = .slice a n c ∧ Strs W a n c ss ∧ (x.1 = .nil ∧ n = 0 ∨ ∃ E S, x.1 = .slice E S ∧ E.length = n) := by
  rcases Go.Deep.open_strs Try.underlying23 Try.underlying22 (by kernel_rfl) h with ⟨hcs, hx⟩ | ⟨a, len, cap, m, Sx, hcs, _, hl, hm, hmm, hx, hcell⟩
  · simp at hcs
    subst hcs hx
    exact ⟨none, 0, 0, [], rfl, Strs.nil W, .inl ⟨rfl, rfl⟩⟩
  · simp at hcs hmm
    subst hcs hx hmm
    refine ⟨some a, len, m, (List.range len).map Sx, rfl, ⟨by simp, hl, hm, ?_, fun hn => ?_⟩, .inr ⟨_, _, rfl, by simp⟩⟩
    · intro s hs
      simp at hs
      obtain ⟨k, hk, rfl⟩ := hs
      have := (hcell k (by omega)).2
      simpa [maxLen] using this
    · obtain ⟨b, off, spot⟩ := a
      have hspot : spot = none := by simpa [Addr.add] using World.cell?_spot (hcell 0 (by omega)).1
      subst hspot
      refine ⟨b, off, rfl, fun j s hj => ?_⟩
      have hj' : j < len := by have := (List.getElem?_eq_some_iff.1 hj).1; simpa using this
      have e : Sx j = s := by
        rw [List.getElem?_map, List.getElem?_range hj'] at hj
        simpa using hj
      have := (hcell j (by omega)).1
      rw [e] at this
      rw [← this]
      congr 1
      unfold Addr.add
      by_cases h0 : j = 0 <;> simp [h0]

theorem open_advert {r : Reach} {b0 : Nat} {v : Value} {d : DataW H} {p : List MemPlace} (hv : Value.okWide Try.prog W r b0 39 v) (h : DataW.Trod enc Try.prog W 0 (fun _ => true) true 39 v d p) :
    ∃ (i q e : Int) (a : Option Addr) (n c : Nat) (ss : List ByteArray) (d1 d2 d3 d4 : DataW H), v = .agg #[.int .i64 i, .int .i64 q, .int .i64 e, .slice a n c] ∧ d = .agg [d1, d2, d3, d4] ∧ Strs W a n c ss ∧ (d4 = .nil ∧ n = 0 ∨ ∃ E S, d4 = .slice E S ∧ E.length = n) ∧ (Lit.int .i64 i).wf = true ∧ (Lit.int .i64 q).wf = true ∧ (Lit.int .i64 e).wf = true := by
  obtain ⟨cs, rfl, hsz⟩ := okWide_struct Try.underlying39 hv
  have hc : Try.prog.cellsOf 39 = 4 := by kernel_rfl
  have c3 : Try.prog.cellsOf 3 = 1 := by kernel_rfl
  have c22 : Try.prog.cellsOf 23 = 1 := by kernel_rfl
  rw [hc] at hsz
  obtain ⟨l⟩ := cs
  obtain ⟨z0, z1, z2, z3, rfl⟩ := list4 l hsz
  obtain ⟨fuel, hf⟩ := h
  obtain ⟨xs, n, _, hx, _, hlen, hg⟩ := DataW.trod_struct Try.underlying39 hf
  have g0 := hg 0 _ rfl
  have g1 := hg 1 _ rfl
  have g2 := hg 2 _ rfl
  have g3 := hg 3 _ rfl
  obtain ⟨y0, y1, y2, y3, rfl⟩ := list4 xs hlen
  simp [Value.cells, c3, c22] at g0 g1 g2 g3
  obtain ⟨s0, e0, x0, w0⟩ := DataW.trod_int Try.underlying3 g0
  obtain ⟨s1, e1, x1, w1⟩ := DataW.trod_int Try.underlying3 g1
  obtain ⟨s2, e2, x2, w2⟩ := DataW.trod_int Try.underlying3 g2
  obtain ⟨a, m, c, ss, e3, hS, hd⟩ := strs_of_trod g3
  simp at e0 e1 e2
  subst e0 e1 e2 e3
  simp only [Prod.mk.injEq] at hx
  exact ⟨_, _, _, _, _, _, ss, _, _, _, _, rfl, hx.1, hS, hd, w0, w1, w2⟩

theorem open_cfg {r : Reach} {b0 : Nat} {v : Value} {d : DataW H} {p : List MemPlace} (hv : Value.okWide Try.prog W r b0 25 v) (h : DataW.Trod enc Try.prog W 0 (fun _ => true) true 25 v d p) :
    ∃ (f : Cf) (a : Option Addr) (n c : Nat) (d1 d2 d3 d4 d6 : DataW H), v = .agg #[.int .i64 f.id, .int .i64 f.pr, .int .i64 f.ev, .bool f.pre, .string f.fr, .slice a n c] ∧ d = .agg [d1, d2, d3, d4, .lit (.string f.fr.data.toList), d6] ∧ Strs W a n c f.ads ∧ (d6 = .nil ∧ n = 0 ∨ ∃ E S, d6 = .slice E S ∧ E.length = n) ∧ (Lit.int .i64 f.id).wf = true ∧ (Lit.int .i64 f.pr).wf = true ∧ (Lit.int .i64 f.ev).wf = true := by
  obtain ⟨cs, rfl, hsz⟩ := okWide_struct Try.underlying25 hv
  have hc : Try.prog.cellsOf 25 = 6 := by kernel_rfl
  have c3 : Try.prog.cellsOf 3 = 1 := by kernel_rfl
  have c4 : Try.prog.cellsOf 4 = 1 := by kernel_rfl
  have c22 : Try.prog.cellsOf 22 = 1 := by kernel_rfl
  have c23 : Try.prog.cellsOf 23 = 1 := by kernel_rfl
  rw [hc] at hsz
  obtain ⟨l⟩ := cs
  obtain ⟨z0, z1, z2, z3, z4, z5, rfl⟩ := list6 l hsz
  obtain ⟨fuel, hf⟩ := h
  obtain ⟨xs, n, _, hx, _, hlen, hg⟩ := DataW.trod_struct Try.underlying25 hf
  have g0 := hg 0 _ rfl
  have g1 := hg 1 _ rfl
  have g2 := hg 2 _ rfl
  have g3 := hg 3 _ rfl
  have g4 := hg 4 _ rfl
  have g5 := hg 5 _ rfl
  obtain ⟨y0, y1, y2, y3, y4, y5, rfl⟩ := list6 xs hlen
  simp [Value.cells, c3, c4, c22, c23] at g0 g1 g2 g3 g4 g5
  obtain ⟨s0, e0, x0, w0⟩ := DataW.trod_int Try.underlying3 g0
  obtain ⟨s1, e1, x1, w1⟩ := DataW.trod_int Try.underlying3 g1
  obtain ⟨s2, e2, x2, w2⟩ := DataW.trod_int Try.underlying3 g2
  obtain ⟨s3, e3, x3⟩ := DataW.trod_bool Try.underlying4 g3
  obtain ⟨s4, e4, x4, w4⟩ := DataW.trod_string Try.underlying22 g4
  obtain ⟨a, m, c, ss, e5, hS, hd⟩ := strs_of_trod g5
  simp at e0 e1 e2 e3 e4
  subst e0 e1 e2 e3 e4 e5 x4
  simp only [Prod.mk.injEq] at hx
  exact ⟨⟨s0, s1, s2, s3, s4, ss⟩, _, _, _, _, _, _, _, _, rfl, hx.1, hS, hd, w0, w1, w2⟩
theorem cfg_reach {ts : List TypeId} {ds : List (DataW H)} (hsz : (DataW.weightsEach Try.prog ts ds).all (· ≤ reachBytes) = true) {j n : Nat} {d1 d2 d3 d4 d6 : DataW H} {f : ByteArray}
    (ht : ts[j]? = some 25) (hd : ds[j]? = some (.agg [d1, d2, d3, d4, .lit (.string f.data.toList), d6])) (h4 : d6 = .nil ∧ n = 0 ∨ ∃ E S, d6 = .slice E S ∧ E.length = n) : f.size ≤ 140737488351232 ∧ n ≤ 8796093022208 := by
  refine ⟨?_, ?_⟩
  · have := List.all_eq_true.1 hsz _ (DataW.weights_mem_each ht hd f.size (by simp [DataW.weights, DataW.weightsEach, Try.underlying25, Try.underlying22]))
    have h2 := of_decide_eq_true this
    simpa [reachBytes] using h2
  · rcases h4 with ⟨_, rfl⟩ | ⟨E, S, rfl, rfl⟩
    · omega
    · have := List.all_eq_true.1 hsz _ (DataW.weights_mem_each ht hd ((E.length + S.length) * Try.prog.bytesOf 22) (by simp [DataW.weights, DataW.weightsEach, Try.underlying25, Try.underlying23]))
      have h2 := of_decide_eq_true this
      have h3 : Try.prog.bytesOf 22 = 16 := by kernel_rfl
      rw [h3] at h2
      simp [reachBytes] at h2
      omega
theorem trod_advert {fuel : Nat} {z0 z1 z2 z3 : Value} {x : DataW H × List MemPlace} (h : DataW.trod enc Try.prog W 0 (fun _ => true) true fuel 39 [z0, z1, z2, z3] = some x) :
    ∃ (v : Av) (a : Option Addr) (n c : Nat), z0 = .int .i64 v.id ∧ z1 = .int .i64 v.pr ∧ z2 = .int .i64 v.ev ∧ z3 = .slice a n c := by
  have hc : Try.prog.cellsOf 39 = 4 := by kernel_rfl
  have c3 : Try.prog.cellsOf 3 = 1 := by kernel_rfl
  have c22 : Try.prog.cellsOf 23 = 1 := by kernel_rfl
  obtain ⟨xs, n, _, hx, _, hlen, hg⟩ := DataW.trod_struct Try.underlying39 h
  have g0 := hg 0 _ rfl
  have g1 := hg 1 _ rfl
  have g2 := hg 2 _ rfl
  have g3 := hg 3 _ rfl
  obtain ⟨y0, y1, y2, y3, rfl⟩ := list4 xs hlen
  simp [Value.cells, c3, c22] at g0 g1 g2 g3
  obtain ⟨s0, e0, x0, w0⟩ := DataW.trod_int Try.underlying3 g0
  obtain ⟨s1, e1, x1, w1⟩ := DataW.trod_int Try.underlying3 g1
  obtain ⟨s2, e2, x2, w2⟩ := DataW.trod_int Try.underlying3 g2
  obtain ⟨a, m, c, ss, e3, hS, hd⟩ := strs_of_trod g3
  simp at e0 e1 e2
  subst e0 e1 e2 e3
  exact ⟨⟨s0, s1, s2, ss⟩, _, _, _, rfl, rfl, rfl, rfl⟩
theorem trod_op {fuel : Nat} {cs : List Value} {z : DataW H × List MemPlace} (h : DataW.trod enc Try.prog W 0 (fun _ => true) true fuel 41 cs = some z) :
    ∃ (o : Oq) (A : Option Addr) (m k : Nat), cs = opcells o (.slice A m k) := by
  have hc : Try.prog.cellsOf 41 = 7 := by kernel_rfl
  have c3 : Try.prog.cellsOf 3 = 1 := by kernel_rfl
  have c22 : Try.prog.cellsOf 22 = 1 := by kernel_rfl
  have c39 : Try.prog.cellsOf 39 = 4 := by kernel_rfl
  obtain ⟨xs, n, _, hx, hl, hlen, hg⟩ := DataW.trod_struct Try.underlying41 h
  rw [hc] at hl
  obtain ⟨z0, z1, z2, z3, z4, z5, z6, rfl⟩ := list7 cs hl
  have g0 := hg 0 _ rfl
  have g1 := hg 1 _ rfl
  have g2 := hg 2 _ rfl
  have g3 := hg 3 _ rfl
  obtain ⟨y0, y1, y2, y3, rfl⟩ := list4 xs hlen
  simp [Value.cells, c3, c22, c39] at g0 g1 g2 g3
  obtain ⟨s0, e0, x0, w0⟩ := DataW.trod_int Try.underlying3 g0
  obtain ⟨s1, e1, x1, w1⟩ := DataW.trod_int Try.underlying3 g1
  obtain ⟨s2, e2, x2, w2⟩ := DataW.trod_string Try.underlying22 g2
  obtain ⟨v, a, m, c, e3, e4, e5, e6⟩ := trod_advert g3
  simp at e0 e1 e2
  subst e0 e1 e2 e3 e4 e5 e6
  exact ⟨⟨s0, s1, s2, v⟩, _, _, _, rfl⟩
theorem scr_of_trod {fuel : Nat} {v : Value} {x : DataW H × List MemPlace} (h : DataW.trod enc Try.prog W 0 (fun _ => true) true fuel 26 [v] = some x) :
    ∃ a n c l, v = .slice a n c ∧ Scr W a n c l := by
  have hc : Try.prog.cellsOf 41 = 7 := by kernel_rfl
  rcases DataW.trod_slice Try.underlying26 h with ⟨hcs, rfl⟩ | ⟨a, len, cap, elems, rest, n, _, hcs, rfl, _, hlc, hm, hel, hcell, _, _⟩
  · simp at hcs
    subst hcs
    exact ⟨none, 0, 0, [], rfl, rfl, Nat.le_refl _, fun h => by omega⟩
  · simp at hcs
    subst hcs
    rw [hc] at hcell
    have key : ∀ i, i < len → ∃ o : Oq, ∃ A m k, W.cells? 0 (a.add (i * 7)) 7 = some (opcells o (.slice A m k)) := fun i hi => by
      have h1 := hcell i hi
      rw [List.getElem?_eq_getElem (by omega)] at h1
      obtain ⟨cs, hcs, hz⟩ := Option.bind_eq_some_iff.1 h1
      obtain ⟨o, A, m, k, rfl⟩ := trod_op hz
      exact ⟨o, A, m, k, hcs⟩
    obtain ⟨f, hf⟩ : ∃ f : Nat → Oq, ∀ i, i < len → ∃ A m k, W.cells? 0 (a.add (i * 7)) 7 = some (opcells (f i) (.slice A m k)) :=
      ⟨fun i => if h : i < len then (key i h).choose else default, fun i hi => by simp only [hi, dif_pos]; exact (key i hi).choose_spec⟩
    have hat : ∀ i, i < ((List.range len).map f).length → ((List.range len).map f)[i]! = f i := fun i hi => by
      rw [getElem!_pos _ i hi]; simp
    refine ⟨some a, len, cap, (List.range len).map f, rfl, by simp, hlc, fun hn => ?_⟩
    obtain ⟨b, off, spot⟩ := a
    obtain ⟨A0, m0, k0, hf0⟩ := hf 0 hn
    have h0 := World.cells?_some hf0
    have hspot : spot = none := by
      have := (h0.2.2 0 (by omega)).trans (show (opcells (f 0) (.slice A0 m0 k0))[0]? = some (.int .i64 (f 0).kind) from rfl)
      simpa [Addr.add] using World.cell?_spot this
    subst hspot
    have hlt := World.cells?_block hf0 (by omega)
    refine ⟨b, off, rfl, by simpa [Addr.add] using hlt, fun i hi => ?_⟩
    rw [hat i hi]
    have hi' : i < len := by simpa using hi
    obtain ⟨A, m, k, hfi⟩ := hf i hi'
    have h1 := World.cells?_some hfi
    refine ⟨A, m, k, fun q u hq => ?_⟩
    have hq7 : q < 7 := by
      have := (List.getElem?_eq_some_iff.1 hq).1
      simpa [opcells] using this
    have p0 := (h1.2.2 q hq7).trans hq
    rwa [add_plain, add_plain] at p0
theorem open_scr {r : Reach} {b0 : Nat} {v : Value} {d : DataW H} {p : List MemPlace} (hv : Value.okWide Try.prog W r b0 26 v) (h : DataW.Trod enc Try.prog W 0 (fun _ => true) true 26 v d p) :
    ∃ a n c l, v = .slice a n c ∧ Scr W a n c l := by
  obtain ⟨a, len, cap, rfl⟩ := okWide_slice Try.underlying26 hv
  obtain ⟨fuel, hf⟩ := h
  exact scr_of_trod (x := (d, p)) (by simpa [Value.cells] using hf)
theorem open_av {r : Reach} {b0 : Nat} {v : Value} {d : DataW H} {p : List MemPlace} (hv : Value.okWide Try.prog W r b0 39 v) (h : DataW.Trod enc Try.prog W 0 (fun _ => true) true 39 v d p) :
    ∃ (o : Av) (a : Option Addr) (n c : Nat), v = .agg #[.int .i64 o.id, .int .i64 o.pr, .int .i64 o.ev, .slice a n c] ∧ (Lit.int .i64 o.id).wf = true ∧ (Lit.int .i64 o.pr).wf = true ∧ (Lit.int .i64 o.ev).wf = true := by
  obtain ⟨i, q, e, a, n, c, ss, _, _, _, _, rfl, _, _, _, h1, h2, h3⟩ := open_advert hv h
  exact ⟨⟨i, q, e, ss⟩, a, n, c, rfl, h1, h2, h3⟩
theorem open_told {r : Reach} {b0 : Nat} {v : Value} {d : DataW H} {p : List MemPlace} (hv : Value.okWide Try.prog W r b0 63 v) (h : DataW.Trod enc Try.prog W 0 (fun _ => true) true 63 v d p) :
    ∃ (f : ByteArray) (o : Av) (a : Option Addr) (n c : Nat), v = .agg #[.string f, .int .i64 o.id, .int .i64 o.pr, .int .i64 o.ev, .slice a n c] := by
  obtain ⟨cs, rfl, hsz⟩ := okWide_struct Try.underlying63 hv
  have hc : Try.prog.cellsOf 63 = 5 := by kernel_rfl
  have c22 : Try.prog.cellsOf 22 = 1 := by kernel_rfl
  have c39 : Try.prog.cellsOf 39 = 4 := by kernel_rfl
  rw [hc] at hsz
  obtain ⟨l⟩ := cs
  obtain ⟨z0, z1, z2, z3, z4, rfl⟩ := list5 l hsz
  obtain ⟨fuel, hf⟩ := h
  obtain ⟨xs, n, _, hx, _, hlen, hg⟩ := DataW.trod_struct Try.underlying63 hf
  have g0 := hg 0 _ rfl
  have g1 := hg 1 _ rfl
  obtain ⟨y0, y1, rfl⟩ := list2 xs hlen
  simp [Value.cells, c22, c39] at g0 g1
  obtain ⟨s0, e0, x0, w0⟩ := DataW.trod_string Try.underlying22 g0
  obtain ⟨v, a, m, c, e3, e4, e5, e6⟩ := trod_advert g1
  simp at e0
  subst e0 e3 e4 e5 e6
  exact ⟨s0, v, _, _, _, rfl⟩
end
end Go.Proofs.Ytpcdaidgijkkbaa
