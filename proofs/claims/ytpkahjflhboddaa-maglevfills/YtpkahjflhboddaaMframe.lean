/-
  What the rows' steps of this seat share: how backends, a hash, who is up, that came in, are opened.
-/
import Derived.Test.YtpkahjflhboddaaFrame
import Derived.Test.YtpkahjflhboddaaMem
import Derived.Test.YtpkahjflhboddaaLook
namespace Go.Proofs.Ytpkahjflhboddaa
open Go.ChangeShapes Go.WideShapes Go.ChangeAt Go.RowKit
set_option linter.unusedVariables false
set_option linter.unusedSimpArgs false
set_option maxRecDepth 10000

section
variable {H : Type} {enc : TypeId × Value → H} {W : World}
theorem list2 {α : Type} (l : List α) (h : l.length = 2) : ∃ x0 x1, l = [x0, x1] := by
  match l, h with
  | [x0, x1], _ => exact ⟨x0, x1, rfl⟩

theorem trod_bk {fuel : Nat} {cs : List Value} {z : DataW H × List MemPlace} (h : DataW.trod enc Try.prog W 0 (fun _ => true) true fuel 39 cs = some z) :
    ∃ b : Bk, cs = [.string b.name, .int .i64 b.wt] ∧ b.name.size ≤ 9223372036854775807 ∧ -9223372036854775808 ≤ b.wt ∧ b.wt ≤ 9223372036854775807 := by
  have hc : Try.prog.cellsOf 39 = 2 := by kernel_rfl
  have c3 : Try.prog.cellsOf 3 = 1 := by kernel_rfl
  have c9 : Try.prog.cellsOf 9 = 1 := by kernel_rfl
  obtain ⟨xs, n, _, hx, hl, hlen, hg⟩ := DataW.trod_struct Try.underlying39 h
  rw [hc] at hl
  obtain ⟨z0, z1, rfl⟩ := list2 cs hl
  have g0 := hg 0 _ rfl
  have g1 := hg 1 _ rfl
  obtain ⟨y0, y1, rfl⟩ := list2 xs hlen
  simp [Value.cells, c3, c9] at g0 g1
  obtain ⟨s0, e0, x0, w0⟩ := DataW.trod_string Try.underlying9 g0
  obtain ⟨s1, e1, x1, w1⟩ := DataW.trod_int Try.underlying3 g1
  simp at e0 e1
  subst e0 e1
  refine ⟨⟨s0, s1⟩, rfl, by simpa [maxLen] using w0, ?_⟩
  have := bounds_i64 w1
  exact ⟨this.1, this.2⟩

theorem bks_of_trod {fuel : Nat} {v : Value} {x : DataW H × List MemPlace} (h : DataW.trod enc Try.prog W 0 (fun _ => true) true fuel 23 [v] = some x) :
    ∃ a n c l, v = .slice a n c ∧ n = l.length ∧ n ≤ c ∧ Wide l ∧ (0 < n → ∃ b off, a = some ⟨b, off, none⟩ ∧ b < W.heap.size ∧ BkAt W b off l) ∧ (x.1 = .nil ∧ n = 0 ∨ ∃ E S, x.1 = .slice E S ∧ E.length = n) := by
  have hc : Try.prog.cellsOf 39 = 2 := by kernel_rfl
  rcases DataW.trod_slice Try.underlying23 h with ⟨hcs, rfl⟩ | ⟨a, len, cap, elems, rest, n, _, hcs, rfl, _, hlc, hm, hel, hcell, _, _⟩
  · simp at hcs
    subst hcs
    exact ⟨none, 0, 0, [], rfl, rfl, Nat.le_refl _, fun i hi => by simp at hi, fun h => by omega, .inl ⟨rfl, rfl⟩⟩
  · simp at hcs
    subst hcs
    rw [hc] at hcell
    have key : ∀ i, i < len → ∃ b : Bk, W.cells? 0 (a.add (i * 2)) 2 = some [.string b.name, .int .i64 b.wt] ∧ b.name.size ≤ 9223372036854775807 ∧ -9223372036854775808 ≤ b.wt ∧ b.wt ≤ 9223372036854775807 := fun i hi => by
      have h1 := hcell i hi
      rw [List.getElem?_eq_getElem (by omega)] at h1
      obtain ⟨cs, hcs, hz⟩ := Option.bind_eq_some_iff.1 h1
      obtain ⟨b, rfl, hb⟩ := trod_bk hz
      exact ⟨b, hcs, hb⟩
    obtain ⟨f, hf⟩ : ∃ f : Nat → Bk, ∀ i, i < len → W.cells? 0 (a.add (i * 2)) 2 = some [.string (f i).name, .int .i64 (f i).wt] ∧ (f i).name.size ≤ 9223372036854775807 ∧ -9223372036854775808 ≤ (f i).wt ∧ (f i).wt ≤ 9223372036854775807 :=
      ⟨fun i => if h : i < len then (key i h).choose else default, fun i hi => by simp only [hi, dif_pos]; exact (key i hi).choose_spec⟩
    have hat : ∀ i, i < ((List.range len).map f).length → ((List.range len).map f)[i]! = f i := fun i hi => by
      rw [getElem!_pos _ i hi]; simp
    refine ⟨some a, len, cap, (List.range len).map f, rfl, by simp, hlc, fun i hi => ?_, fun hn => ?_, .inr ⟨_, _, rfl, by simp [hel]⟩⟩
    · rw [hat i hi]
      exact (hf i (by simpa using hi)).2
    · obtain ⟨b, off, spot⟩ := a
      have h0 := World.cells?_some (hf 0 hn).1
      have hspot : spot = none := by
        have := (h0.2.2 0 (by omega)).trans (show [Value.string (f 0).name, .int .i64 (f 0).wt][0]? = some (.string (f 0).name) from rfl)
        simpa [Addr.add] using World.cell?_spot this
      subst hspot
      have hlt := World.cells?_block (hf 0 hn).1 (by omega)
      refine ⟨b, off, rfl, by simpa [Addr.add] using hlt, fun i hi => ?_⟩
      rw [hat i hi]
      have hi' : i < len := by simpa using hi
      have h1 := World.cells?_some (hf i hi').1
      have p0 := (h1.2.2 0 (by omega)).trans (show [Value.string (f i).name, .int .i64 (f i).wt][0]? = some (.string (f i).name) from rfl)
      have p1 := (h1.2.2 1 (by omega)).trans (show [Value.string (f i).name, .int .i64 (f i).wt][1]? = some (.int .i64 (f i).wt) from rfl)
      rw [add_plain, add_plain] at p0 p1
      exact ⟨p0, p1⟩

theorem open_bks {r : Reach} {b0 : Nat} {v : Value} {d : DataW H} {p : List MemPlace} (hv : Value.okWide Try.prog W r b0 23 v) (h : DataW.Trod enc Try.prog W 0 (fun _ => true) true 23 v d p) :
    ∃ a n c l, v = .slice a n c ∧ n = l.length ∧ n ≤ c ∧ Wide l ∧ (0 < n → ∃ b off, a = some ⟨b, off, none⟩ ∧ b < W.heap.size ∧ BkAt W b off l) ∧ (d = .nil ∧ n = 0 ∨ ∃ E S, d = .slice E S ∧ E.length = n) := by
  obtain ⟨a, len, cap, rfl⟩ := okWide_slice Try.underlying23 hv
  obtain ⟨fuel, hf⟩ := h
  exact bks_of_trod (x := (d, p)) (by simpa [Value.cells] using hf)
theorem bks_reach {ts : List TypeId} {ds : List (DataW H)} (hsz : (DataW.weightsEach Try.prog ts ds).all (· ≤ reachBytes) = true) {j n : Nat} {d : DataW H}
    (ht : ts[j]? = some 23) (hd : ds[j]? = some d) (h4 : d = .nil ∧ n = 0 ∨ ∃ E S, d = .slice E S ∧ E.length = n) : n ≤ 5864062014634 := by
  rcases h4 with ⟨_, rfl⟩ | ⟨E, S, rfl, rfl⟩
  · omega
  · have := sized_slice hsz ht hd Try.underlying23
    rw [show Try.prog.bytesOf 39 = 24 by kernel_rfl] at this
    simp only [reachBytes] at this
    omega
theorem bks_mk {a : Option Addr} {n c : Nat} {l : List Bk} (h1 : n = l.length) (h2 : n ≤ c) (h3 : n ≤ 5864062014634) (h4 : 0 < n → ∃ b off, a = some ⟨b, off, none⟩ ∧ b < W.heap.size ∧ BkAt W b off l) : Bks W a n c l := ⟨h1, h2, by omega, h4⟩

theorem bls_of_trod {fuel : Nat} {v : Value} {x : DataW H × List MemPlace} (h : DataW.trod enc Try.prog W 0 (fun _ => true) true fuel 42 [v] = some x) :
    ∃ a n c up, v = .slice a n c ∧ Bls W a n c up ∧ (x.1 = .nil ∧ n = 0 ∨ ∃ E S, x.1 = .slice E S ∧ E.length = n) := by
  have hc : Try.prog.cellsOf 4 = 1 := by kernel_rfl
  rcases DataW.trod_slice Try.underlying42 h with ⟨hcs, rfl⟩ | ⟨a, len, cap, elems, rest, n, _, hcs, rfl, _, hlc, hm, hel, hcell, _, _⟩
  · simp at hcs
    subst hcs
    exact ⟨none, 0, 0, [], rfl, ⟨rfl, Nat.le_refl _, fun h => by omega⟩, .inl ⟨rfl, rfl⟩⟩
  · simp at hcs
    subst hcs
    rw [hc] at hcell
    have key : ∀ i, i < len → ∃ b : Bool, W.cells? 0 (a.add (i * 1)) 1 = some [.bool b] := fun i hi => by
      have h1 := hcell i hi
      rw [List.getElem?_eq_getElem (by omega)] at h1
      obtain ⟨cs, hcs, hz⟩ := Option.bind_eq_some_iff.1 h1
      obtain ⟨b, rfl, _⟩ := DataW.trod_bool Try.underlying4 hz
      exact ⟨b, hcs⟩
    obtain ⟨f, hf⟩ : ∃ f : Nat → Bool, ∀ i, i < len → W.cells? 0 (a.add (i * 1)) 1 = some [.bool (f i)] :=
      ⟨fun i => if h : i < len then (key i h).choose else default, fun i hi => by simp only [hi, dif_pos]; exact (key i hi).choose_spec⟩
    refine ⟨some a, len, cap, (List.range len).map f, rfl, ⟨by simp, hlc, fun hn => ?_⟩, .inr ⟨_, _, rfl, by simp [hel]⟩⟩
    obtain ⟨b, off, spot⟩ := a
    have h0 := World.cells?_some (hf 0 hn)
    have hspot : spot = none := by
      have := (h0.2.2 0 (by omega)).trans (show [Value.bool (f 0)][0]? = some (.bool (f 0)) from rfl)
      simpa [Addr.add] using World.cell?_spot this
    subst hspot
    have hlt := World.cells?_block (hf 0 hn) (by omega)
    refine ⟨b, off, rfl, by simpa [Addr.add] using hlt, fun i hi => ?_⟩
    have h1 := World.cells?_some (hf i hi)
    have p0 := (h1.2.2 0 (by omega)).trans (show [Value.bool (f i)][0]? = some (.bool (f i)) from rfl)
    rw [add_plain, add_plain] at p0
    have e : ((List.range len).map f)[i]! = f i := by rw [getElem!_pos _ i (by simpa using hi)]; simp
    rw [e]
    simpa using p0

theorem open_ask {r : Reach} {b0 : Nat} {v : Value} {d : DataW H} {p : List MemPlace} (hv : Value.okWide Try.prog W r b0 44 v) (h : DataW.Trod enc Try.prog W 0 (fun _ => true) true 44 v d p) :
    ∃ (x : Int) (a : Option Addr) (n c : Nat) (up : List Bool) (d1 d2 : DataW H), v = .agg #[.int .u64 x, .slice a n c] ∧ d = .agg [d1, d2] ∧ Bls W a n c up ∧ (d2 = .nil ∧ n = 0 ∨ ∃ E S, d2 = .slice E S ∧ E.length = n) ∧ 0 ≤ x ∧ x ≤ 18446744073709551615 := by
  obtain ⟨cs, rfl, hsz⟩ := okWide_struct Try.underlying44 hv
  have hc : Try.prog.cellsOf 44 = 2 := by kernel_rfl
  have c3 : Try.prog.cellsOf 41 = 1 := by kernel_rfl
  have c22 : Try.prog.cellsOf 42 = 1 := by kernel_rfl
  rw [hc] at hsz
  obtain ⟨l⟩ := cs
  obtain ⟨z0, z1, rfl⟩ := list2 l hsz
  obtain ⟨fuel, hf⟩ := h
  obtain ⟨xs, n, _, hx, _, hlen, hg⟩ := DataW.trod_struct Try.underlying44 hf
  have g0 := hg 0 _ rfl
  have g1 := hg 1 _ rfl
  obtain ⟨y0, y1, rfl⟩ := list2 xs hlen
  simp [Value.cells, c3, c22] at g0 g1
  obtain ⟨s0, e0, x0, w0⟩ := DataW.trod_int Try.underlying41 g0
  obtain ⟨a, m, c, up, e1, hS, hd⟩ := bls_of_trod g1
  simp at e0
  subst e0 e1
  simp only [Prod.mk.injEq] at hx
  have hb := bounds_u64 w0
  exact ⟨_, _, _, _, up, _, _, rfl, hx.1, hS, hd, hb.1, hb.2⟩
theorem ask_reach {ts : List TypeId} {ds : List (DataW H)} (hsz : (DataW.weightsEach Try.prog ts ds).all (· ≤ reachBytes) = true) {j n : Nat} {d1 d2 : DataW H}
    (ht : ts[j]? = some 44) (hd : ds[j]? = some (.agg [d1, d2])) (h4 : d2 = .nil ∧ n = 0 ∨ ∃ E S, d2 = .slice E S ∧ E.length = n) : n ≤ 140737488351232 := by
  rcases h4 with ⟨_, rfl⟩ | ⟨E, S, rfl, rfl⟩
  · omega
  · have := List.all_eq_true.1 hsz _ (DataW.weights_mem_each ht hd ((E.length + S.length) * Try.prog.bytesOf 4) (by simp [DataW.weights, DataW.weightsEach, Try.underlying44, Try.underlying42]))
    have h2 := of_decide_eq_true this
    rw [show Try.prog.bytesOf 4 = 1 by kernel_rfl] at h2
    simp [reachBytes] at h2
    omega
end
end Go.Proofs.Ytpkahjflhboddaa
