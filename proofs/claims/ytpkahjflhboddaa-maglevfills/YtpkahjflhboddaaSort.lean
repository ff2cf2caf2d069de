/-
  What maglev.inOrder tells: the backends' numbers, by rising names.
-/
import Derived.Test.YtpkahjflhboddaaSmall
import Derived.Test.YtpkahjflhboddaaShelf
import Derived.Test.YtpkahjflhboddaaLists
import Derived.Shelf.SlSortFunc.HeapSort
namespace Go.Proofs.Ytpkahjflhboddaa
open Go.Shelf Go.RowKit Go.Lib Go.Sort
set_option linter.unusedVariables false
set_option maxRecDepth 10000

theorem cmp8_lt (x y : ByteArray) : decide (cmp8 x y < 0) = lt8 x y := by
  unfold cmp8
  rcases h : lt8 x y with _ | _
  · rcases h2 : (x.toList == y.toList) with _ | _ <;> simp
  · simp

/-- The backends lie in a box. -/
def InBox (w : World) (lb b off n c : Nat) (l : List Bk) : Prop := w.cell? ⟨lb, 0, none⟩ = some (.slice (some ⟨b, off, none⟩) n c) ∧ n = l.length ∧ n ≤ 16 ∧ BkAt w b off l

set_option maxHeartbeats 800000 in
/-- The closure of inOrder. -/
theorem less_any {W : World} {lb b off n c : Nat} {l : List Bk} (h : InBox W lb b off n c l) (x y : Nat) (hx : x < n) (hy : y < n) :
    Calls Try.prog 38 #[.int .i64 x, .int .i64 y, .pointer (some ⟨lb, 0, none⟩)] W fun e w' => e = .returned (.int .i64 (cmp8 (l[x]!).name (l[y]!).name)) ∧ ∃ q, w' = W.drewN q := by
  obtain ⟨hc, hn, hn2, hat⟩ := h
  have c0 := (hat x (by omega)).1
  have d0 := (hat y (by omega)).1
  generalize (l[x]!).name = nx at c0 ⊢
  generalize (l[y]!).name = ny at d0 ⊢
  have hxz : (x : Int) < (n : Int) := by omega
  have hyz : (y : Int) < (n : Int) := by omega
  have HC := Lib.hid (fun w => compare_any nx ny w)
  generalize cmp8 nx ny = r at HC ⊢
  clear hat hn
  go_enter Try.func38, Try.ntmps38
  go_wp2
  go_quiet (first | (go_at_call 39; exact quiet_same ((HC.out _).mono fun _ _ h => ⟨h.1, h.2.symm⟩)))
  go_wp2
  go_ret
  exact ⟨by rfl, _, rfl⟩

theorem below_sortWorld {α : Type} [Inhabited α] (enc : α → Value) {B : Nat} {w : World} {blk off n : Nat} {d : Array α} {os : Array Obj} (hB : B ≤ blk) (hB2 : B ≤ w.heap.size) : Below B w (sortWorld enc w blk off n d os) := by
  refine ⟨rfl, rfl, rfl, ?_, fun k hk => ?_⟩
  · unfold sortWorld; rw [size_grow, size_putRow]; show w.heap.size ≤ w.heap.size + _; omega
  · unfold sortWorld
    rw [heap_grow_old _ _ (by rw [size_putRow]; show k < w.heap.size; omega)]
    show (w.heap.modify blk _)[k]? = w.heap[k]?
    rw [Array.getElem?_modify, if_neg (by omega)]

section
variable {m : Nat} (l : List Bk)
def cfx (x y : Fin (m + 1)) : Int := cmp8 (l[x.val]!).name (l[y.val]!).name
def encF (x : Fin (m + 1)) : Value := .int .i64 (x.val : Nat)
theorem ltx (x y : Fin (m + 1)) : ltOf (cfx l) x y = lt8 (l[x.val]!).name (l[y.val]!).name := cmp8_lt _ _
theorem swox : SWO (ltOf (cfx (m := m) l)) where
  irrefl x := by rw [ltx]; exact lt8_irr _
  trans x y z h1 h2 := by rw [ltx] at *; exact lt8_trans h1 h2
  ntrans x y z h1 h2 := by
    rw [ltx] at *
    rcases h : lt8 (l[x.val]!).name (l[z.val]!).name with _ | _
    · rfl
    · exfalso
      rcases h3 : lt8 (l[z.val]!).name (l[y.val]!).name with _ | _
      · rw [lt8_tri h2 h3] at h1
        rw [h1] at h; simp at h
      · rw [lt8_trans h h3] at h1; simp at h1
end

theorem fin_at (m j : Nat) (hj : j < m + 1) : (List.finRange (m + 1)).toArray[j]! = ⟨j, hj⟩ := by
  rw [getElem!_pos _ j (by simpa using hj)]
  simp

theorem ext_all {α : Type} (d : Array α) {n : Nat} (h : d.size = n) : d.extract 0 n = d := by subst h; simp
theorem fin_vals (n : Nat) : (List.finRange n).map Fin.val = List.range n := by
  apply List.ext_getElem (by simp)
  intro i h1 h2
  simp
theorem vals_fin {m : Nat} (d : Array (Fin (m + 1))) {k : Nat} (hk : k < d.size) : (d.toList.map Fin.val)[k]! = (d[k]!).val := by
  rw [getElem!_pos _ k (by simpa using hk), getElem!_pos d k hk]
  simp

theorem ord_at2 (o : List Nat) {j : Nat} (hj : j < o.length) : (ord o)[j]! = ((o[j]! : Nat) : Int) := ord_at o hj

/-- slices.SortFunc of the numbers of backends. -/
theorem sort_any {W : World} {lb b off n c g cap : Nat} {l : List Bk} (h : InBox W lb b off n c l) (ha : Apart l) (hn1 : 1 ≤ n) (hlb : lb < W.heap.size) (hb : b < W.heap.size) (hg : g < W.heap.size) (h1 : lb ≠ g) (h2 : b ≠ g)
    (hr : ∀ j, j < n → W.cell? ⟨g, j, none⟩ = some (.int .i64 (j : Nat)) ∧ W.frozen? ⟨g, j, none⟩ = false) {B : Nat} (hB : B ≤ g) (hB2 : B ≤ W.heap.size) :
    Calls Try.prog 37 #[.slice (some ⟨g, 0, none⟩) n cap, .func (.func 38) #[] #[.pointer (some ⟨lb, 0, none⟩)]] W fun e w' => e = .returned (.tuple #[]) ∧ Below B W w' ∧ ∃ o, IsOrd l o ∧ Ints w' g 0 (ord o) := by
  obtain ⟨m, rfl⟩ : ∃ m, n = m + 1 := ⟨n - 1, by omega⟩
  have eg : ∀ args w, (callFunc 38 args).run Try.prog w = .ok (.enter 38 args) w := enters_of Try.func38 (by kernel_rfl) rfl
  obtain ⟨d, hd⟩ : ∃ d, d = (List.finRange (m + 1)).toArray := ⟨_, rfl⟩
  have hds : d.size = m + 1 := by rw [hd]; simp
  have hH : Holds encF W g 0 d := fun j hj => by
    have hj' : j < m + 1 := by omega
    rw [hd, fin_at m j hj', Nat.zero_add]
    exact hr j hj'
  have hcmp : CmpReads Try.prog 38 #[.pointer (some ⟨lb, 0, none⟩)] encF (cfx l) g 0 d.size W := fun q os dk hs x y => by
    refine less_any (n := m + 1) (b := b) (off := off) (c := c) ?_ x.val y.val x.isLt y.isLt
    refine ⟨?_, h.2.1, h.2.2.1, fun i hi => ?_⟩
    · rw [cell?_sortWorld_other _ _ _ _ _ _ _ _ h1 hlb]; exact h.1
    · rw [cell?_sortWorld_other _ _ _ _ _ _ _ _ h2 hb, cell?_sortWorld_other _ _ _ _ _ _ _ _ h2 hb]; exact h.2.2.2 i hi
  have := Any.slices_SortFunc laysSort encF (fun _ => rfl) (cfx l) (swox l) 38 #[.pointer (some ⟨lb, 0, none⟩)] g 0 cap d W eg hcmp.lays hH hg (by rw [hds]; have := h.2.2.1; omega)
  rw [hds] at this
  refine this.mono ?_
  rintro e w' ⟨rfl, d', q, os, hp, hs, rfl⟩
  refine ⟨rfl, below_sortWorld _ hB hB2, d'.toList.map Fin.val, ?_, ?_⟩
  · have hsz : d'.size = m + 1 := by rw [hp.1, hds]
    have hp3 : d'.toList.Perm d.toList := by
      have := hp.2.2
      rw [ext_all d' hsz, ext_all d hds] at this
      exact this
    have e1 : l.length = m + 1 := h.2.1.symm
    refine ord_of_sorted ha ?_ fun i j hij hj => ?_
    · have := hp3.map Fin.val
      rw [hd] at this
      rw [e1]
      have e2 : (List.finRange (m + 1)).toArray.toList.map Fin.val = List.range (m + 1) := fin_vals (m + 1)
      rwa [e2] at this
    · rw [e1] at hj
      have hs := hs i j (Nat.zero_le _) hij hj
      rw [ltx] at hs
      rw [vals_fin d' (show i < d'.size by omega), vals_fin d' (show j < d'.size by omega)]
      exact hs
  · have hh := holds_sortWorld encF W g 0 q d d' os hg hH (by rw [hp.1])
    have hsz : d'.size = m + 1 := by rw [hp.1, hds]
    refine ⟨?_, fun j hj => ?_⟩
    · exact Nat.lt_of_lt_of_le hg (below_sortWorld (B := 0) encF (Nat.zero_le _) (Nat.zero_le _)).size
    · have hj' : j < m + 1 := by simpa [ord, hsz] using hj
      rw [(hh j (by omega)).1, ord_at _ (by simpa using by omega), vals_fin d' (show j < d'.size by omega)]
      rfl

def ORel (w : World) (n gg : Nat) (v s3 s7 : Value) (wr : World) : Prop :=
  ∃ k : Nat, k + gg = n ∧ s7 = .int .i64 k ∧ wr.ownsRow (w.heap.size + 1) 3 1 s3 k (icells (ord (List.range k))) ∧ Below w.heap.size w wr ∧ wr.cell? ⟨w.heap.size, 0, none⟩ = some v ∧ w.heap.size < wr.heap.size

set_option maxHeartbeats 1600000 in
theorem inOrder_any {w : World} {a : Option Addr} {n c : Nat} {l : List Bk} (h : Bks w a n c l) (hR : Right l) :
    Calls Try.prog 24 #[.slice a n c] w fun e w' => ∃ g cap o, e = .returned (.slice (some ⟨g, 0, none⟩) n cap) ∧ n ≤ cap ∧ IsOrd l o ∧ Ints w' g 0 (ord o) ∧ Below w.heap.size w w' := by
  have H := Lib.hid h
  have HR := Lib.hid hR
  obtain ⟨hn, hnc, hn2, -⟩ := h
  have HN := Lib.hid hn
  have hn16 : n ≤ 16 := by rw [hn]; exact hR.2.1
  have hn1 : 1 ≤ n := by rw [hn]; exact hR.1
  clear hn hR
  have hmf : ∀ (fn : Fn) (first cap : Array Value) (w : World), (Instr.makeFunc fn first cap).run Try.prog w = .ok (.func fn first cap) w := fun _ _ _ _ => rfl
  obtain ⟨i0, hi, hz0, hz1, hz2⟩ := info_parts info3
  go_enter Try.func24, Try.ntmps24
  go_wp2
  go_loopg [3, 4, 7] n (fun gg s3 _ s7 wr => Hid (ORel w n gg (.slice a n c) s3 s7 wr))
  case atStart => exact Lib.hid ⟨0, by omega, rfl, by simpa [ord, icells] using World.ownsRow_nil _ (w.heap.size + 1) 3 1, (Below.refl _ _).alloc (Nat.le_refl _) _, by simp [go_sem], by simp⟩
  case round =>
    obtain ⟨k, hk, rfl, hrow, hb, hbox, hsz⟩ := hrel.out
    clear hrel
    by_cases hlt : k < n
    · have hltz : (k : Int) < (n : Int) := by omega
      have HT : Hid (icells (ord (List.range (k + 1))) = icells (ord (List.range k)) ++ [.int .i64 (k : Nat)]) := Lib.hid (by
        rw [List.range_succ]; simp [icells, ord])
      generalize icells (ord (List.range k)) = zs at HT hrow
      have HR2 := Lib.hid (World.ownsRow.alloc hrow (.cells #[.int .i64 (k : Nat)] 3))
      have HB := Lib.hid hb
      have HX := Lib.hid hbox
      clear hrow hb hbox
      go_wp2_with (at_builtin; refine wpList_append_own _ rfl _ _ 34 rfl (w.heap.size + 1) 3 i0 _ 1 8 Try.underlying34 hi hz0 hz1 hz2 rfl (by decide) _ k zs rfl HR2.out ⟨_, 0, none⟩ 1 1 [.int .i64 (k : Nat)] rfl rfl (cell_one_at _ _ rfl) (by intro u hu; simp at hu; subst hu; rfl) (by simp only [maxLen]; omega) (by omega) (by simp; omega) ?_; intro v1 w1 hown1 hgrow1 hnil1)
      go_roundg (n - (k + 1))
      case measure => omega
      case rel =>
        refine Lib.hid ⟨k + 1, by omega, by go_num, by rw [HT.out]; exact hown1, (HB.out.alloc (by omega) _).grown hgrow1 (by simp; omega) (fun i hi => Nat.le_trans (Nat.le_succ _) (HR2.out.lt i hi).1), ?_, ?_⟩
        · refine hgrow1.cell ?_ ?_
          · rw [World.cell?_alloc_lt _ _ _ hsz]; exact HX.out
          · intro e
            have := (HR2.out.lt _ e.symm).1
            exact absurd this (by show ¬ w.heap.size + 1 ≤ w.heap.size; omega)
        · have := hgrow1.size; simp at this; omega
    · have hltz : ¬ (k : Int) < (n : Int) := by omega
      obtain rfl : k = n := by omega
      rcases hrow.2 with ⟨_, h0⟩ | ⟨g, cap, cur, rfl, hbg, hg, hnc2, hcm, hcs, htake⟩
      · omega
      · obtain ⟨b, off, rfl, hbb, hat⟩ := H.out.2.2.2 (by omega)
        have hglt := (Array.getElem?_eq_some_iff.1 hg).1
        have hcells := hrow.cells (g := g) rfl
        have HB := Lib.hid hb
        have HS := Lib.hid (sort_any (W := wr) (lb := w.heap.size) (b := b) (off := off) (n := k) (c := c) (g := g) (cap := cap) (l := l) ⟨hbox, HN.out, hn16, hat.below hb hbb⟩ HR.out.2.2.2 hn1 hsz (by omega) hglt (by omega) (by omega) (fun j hj => by
          have hu : (icells (ord (List.range k)))[j]? = some (.int .i64 (j : Nat)) := by simp [icells, ord, hj]
          have hc := hcells j _ hu
          rw [add_plain, Nat.zero_add] at hc
          refine ⟨hc, ?_⟩
          simp [World.frozen?, hg]) (B := w.heap.size) (by omega) (by omega))
        clear hcells hrow hb hat hg htake
        go_wp2_with (go_at_call 37; refine HS.out.mono ?_; rintro e w' ⟨rfl, hb2, o, ho, hI⟩)
        go_ret
        exact ⟨g, cap, o, by rfl, hnc2, ho, hI, HB.out.trans hb2⟩

end Go.Proofs.Ytpkahjflhboddaa
