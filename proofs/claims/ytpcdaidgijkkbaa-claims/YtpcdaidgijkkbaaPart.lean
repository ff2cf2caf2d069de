/-
  Slices of bytes: what is known of one, how it is kept, cut, made into a text; texts as bytes.
-/
import Derived.Test.YtpcdaidgijkkbaaLeaf
import Derived.Laws.CopyOwn
import Derived.Laws.BytesArg
import Derived.Deep.RegionLaw
namespace Go.Proofs.Ytpcdaidgijkkbaa
open Go.RowKit
set_option linter.unusedVariables false

theorem setRow_top (W : World) (c d : Array Value) (t : TypeId) : (W.alloc (.cells c t)).setRow W.heap.size d = W.alloc (.cells d t) := by
  unfold World.setRow World.alloc
  simp only [World.mk.injEq, and_true]
  apply Array.ext
  · simp
  · intro i h1 h2
    simp only [Array.getElem_modify, Array.getElem_push]
    simp at h1 h2
    by_cases h : i = W.heap.size
    · subst h; simp
    · have : i < W.heap.size := by omega
      simp [this, Ne.symm h]
theorem setRow_top_drewN (W : World) (c d : Array Value) (t : TypeId) (k : Nat) : ((W.alloc (.cells c t)).drewN k).setRow W.heap.size d = (W.alloc (.cells d t)).drewN k :=
  congrArg (fun w : World => w.drewN k) (setRow_top W c d t)
theorem heap_top (W : World) (c : Array Value) (t : TypeId) (k : Nat) : ((W.alloc (.cells c t)).drewN k).heap[W.heap.size]? = some (.cells c t (0, 0)) := by
  show (W.heap.push _)[W.heap.size]? = _
  simp
theorem size5 : (Try.prog.info? 5).map (·.size) = some 1 := by kernel_rfl

/-- The cells of some bytes. -/
def cel (l : List Int) : List Value := l.map (Value.int .u8)
theorem cel_len (l : List Int) : (cel l).length = l.length := by simp [cel]
/-- The bytes of a text, as integers. -/
def bts (s : ByteArray) : List Int := s.data.toList.map fun c => (c.toNat : Int)
theorem bts_len (s : ByteArray) : (bts s).length = s.size := by simp [bts]

theorem byte_le (c : UInt8) : 0 ≤ (c.toNat : Int) ∧ (c.toNat : Int) ≤ 255 := by have := c.toNat_lt; omega
theorem bts_byt (s : ByteArray) : Byt (bts s) := by
  intro x hx
  simp only [bts, List.mem_map] at hx
  obtain ⟨c, _, rfl⟩ := hx
  exact byte_le c

/-- A slice of bytes as the walk meets it, with the bytes that it holds. -/
structure PartV where
  a : Option Addr
  n : Nat
  c : Nat
  bs : List Int

def PartV.val (p : PartV) : Value := .slice p.a p.n p.c

def Part (w : World) (p : PartV) : Prop :=
  p.bs.length = p.n ∧ p.n ≤ p.c ∧ Byt p.bs ∧ (0 < p.n → ∃ b off, p.a = some ⟨b, off, none⟩ ∧ ∀ j, j < p.n → w.cell? ⟨b, off + j, none⟩ = some (.int .u8 (p.bs[j]?.getD 0)))

theorem Part.drewN {w : World} {p : PartV} (h : Part w p) (k : Nat) : Part (w.drewN k) p := h

theorem Part.cut {w : World} {b off n c : Nat} {bs : List Int} (h : Part w ⟨some ⟨b, off, none⟩, n, c, bs⟩) (k : Nat) (hk : k ≤ n) :
    Part w ⟨some ⟨b, off + k, none⟩, n - k, c - k, bs.drop k⟩ := by
  obtain ⟨h1, h2, h3, h4⟩ := h
  refine ⟨by simp at h1 ⊢; omega, by simp at h2 ⊢; omega, h3.drop k, fun hp => ?_⟩
  obtain ⟨b', off', e, hc⟩ := h4 (by simp at hp ⊢; omega)
  simp at e
  obtain ⟨rfl, rfl⟩ := e
  refine ⟨b, off + k, rfl, fun j hj => ?_⟩
  have := hc (k + j) (by simp at hj ⊢; omega)
  simp only [List.getElem?_drop]
  rw [Nat.add_assoc]; exact this
theorem Part.gone {w : World} {A : Option Addr} {c : Nat} {bs : List Int} (h : bs.length = 0) : Part w ⟨A, 0, c, bs⟩ := by
  have : bs = [] := List.eq_nil_of_length_eq_zero h
  subst this
  exact ⟨rfl, Nat.zero_le _, Byt.nil, fun h => by simp at h⟩

theorem Part.keep {w w' : World} {p : PartV} (h : Part w p) (hk : ∀ (a : Addr), a.block < w.heap.size → w'.cell? a = w.cell? a) : Part w' p := by
  obtain ⟨h1, h2, h3, h4⟩ := h
  refine ⟨h1, h2, h3, fun hn => ?_⟩
  obtain ⟨b, off, e, hc⟩ := h4 hn
  exact ⟨b, off, e, fun j hj => (hk _ (World.block_lt_of_cell? _ _ (hc j hj))).trans (hc j hj)⟩
theorem Part.alloc {w : World} {p : PartV} (h : Part w p) (o : Obj) : Part (w.alloc o) p := h.keep fun a ha => World.cell?_alloc_lt w o a ha
theorem Part.below {w w' : World} {p : PartV} (h : Part w p) (hb : Below w.heap.size w w') : Part w' p := h.keep fun _ ha => hb.cell ha

theorem Part.sub {W : World} {a : Option Addr} {n c : Nat} {bs : List Int} (h : Part W ⟨a, n, c, bs⟩) (k m : Nat) (hk : k + m ≤ n) :
    Part W ⟨if c = k then a else a.map (·.add k), m, c - k, (bs.drop k).take m⟩ := by
  obtain ⟨h1, h2, h3, h4⟩ := h
  have h1' : bs.length = n := h1
  have h2' : n ≤ c := h2
  refine ⟨by simp; omega, by simp; omega, (h3.drop k).take m, fun hm => ?_⟩
  have hm' : 0 < m := hm
  obtain ⟨b, off, e, hc⟩ := h4 (show 0 < n by omega)
  have e' : a = some ⟨b, off, none⟩ := e
  subst e'
  have e2 : (⟨b, off, none⟩ : Addr).add k = ⟨b, off + k, none⟩ := by
    unfold Addr.add; by_cases h0 : k = 0 <;> simp [h0]
  refine ⟨b, off + k, ?_, fun j hj => ?_⟩
  · rw [if_neg (by omega)]; simp [e2]
  · have hj' : j < m := hj
    have := hc (k + j) (show k + j < n by omega)
    simp only [List.getElem?_take, hj', if_true, List.getElem?_drop]
    rw [Nat.add_assoc]; exact this
/-- The first m bytes. -/
theorem Part.first {W : World} {a : Option Addr} {n c : Nat} {bs : List Int} (h : Part W ⟨a, n, c, bs⟩) (m : Nat) (hm : m ≤ n) : Part W ⟨a, m, c, bs.take m⟩ := by
  have h0 := h.sub 0 m (by omega)
  have e : (if c = 0 then a else a.map (·.add 0)) = a := by
    split
    · rfl
    · cases a <;> simp [Addr.add]
  rw [e] at h0
  simpa using h0

theorem strOfNums_bts (s : ByteArray) : strOfNums (bts s) = s := by
  obtain ⟨⟨l⟩⟩ := s
  simp only [strOfNums, bts, List.map_map]
  congr 2
  conv => rhs; rw [← List.map_id l]
  apply List.map_congr_left
  intro x _
  simp
theorem bts_strOfNums {l : List Int} (h : Byt l) : bts (strOfNums l) = l := by
  simp only [bts, strOfNums_data, List.map_map]
  conv => rhs; rw [← List.map_id l]
  apply List.map_congr_left
  intro x hx
  have := h x hx
  simp
  omega

/-- A slice's bytes as a text. -/
theorem convert_part {w : World} {A : Option Addr} {n c : Nat} {bs : List Int} (h : Part w ⟨A, n, c, bs⟩) (dst : TypeId) (hd : Try.prog.underlying dst = some .string) :
    (convert 87 dst (.slice A n c)).run Try.prog w = .ok (.string (strOfNums bs)) w := by
  obtain ⟨h1, h2, h3, h4⟩ := h
  rcases Nat.eq_zero_or_pos n with h0 | h0
  · subst h0
    have : bs = [] := List.eq_nil_of_length_eq_zero h1
    subst this
    rw [run_convert_bytes_string w 87 dst 5 _ 0 c Try.underlying87 Try.underlying5 hd]
    cases A <;> simp [Conv.bytesToString, loadCells]
    all_goals rfl
  · obtain ⟨b, off, e, hc⟩ := h4 h0
    have e' : A = some ⟨b, off, none⟩ := e
    subst e'
    exact run_convert_bytes_arg w 87 5 Try.underlying87 Try.underlying5 b off n c bs h1 (fun i hi => by rw [hc i hi]; simp) dst hd

/-- A row of the call's own, whole. -/
theorem part_row {w : World} {g : Nat} {bs : List Int} {t : TypeId} (hg : w.heap[g]? = some (.cells (cel bs).toArray t (0, 0))) (hb : Byt bs) (n : Nat) (hn : bs.length = n) : Part w ⟨some ⟨g, 0, none⟩, n, n, bs⟩ := by
  subst hn
  refine ⟨rfl, Nat.le_refl _, hb, fun _ => ⟨g, 0, rfl, fun j hj => ?_⟩⟩
  have hj' : j < bs.length := hj
  simp [World.cell?, hg, cel, hj']

theorem add_plain (b off k : Nat) : (⟨b, off, none⟩ : Addr).add k = ⟨b, off + k, none⟩ := by
  unfold Addr.add; by_cases h0 : k = 0 <;> simp [h0]

end Go.Proofs.Ytpcdaidgijkkbaa
