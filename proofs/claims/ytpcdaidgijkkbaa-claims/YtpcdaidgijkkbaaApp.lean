/-
  Bytes that the call itself gathers by append: a row of its own, nothing of which is frozen, and what append does to it.
-/
import Derived.Test.YtpcdaidgijkkbaaSum
import Derived.Maps.AppendAt
import Derived.Lib.AppendStr
import Derived.Lib.ConvBytes
import Derived.Laws.MakeOwn
import Derived.Laws.OwnMore
namespace Go.Proofs.Ytpcdaidgijkkbaa
open Go.RowKit
set_option linter.unusedVariables false

/-- The bytes zs lie at the head of a row of the call's own, with room for cap; no cell of it is frozen. -/
def Own (w : World) (B g n cap : Nat) (zs : List Int) : Prop :=
  zs.length = n ∧ B ≤ g ∧ n ≤ cap ∧ cap ≤ maxLen ∧ ∃ cur fz, w.heap[g]? = some (.cells cur 5 fz) ∧ (fz.2 = 0 ∨ cap ≤ fz.1) ∧ cur.size = cap ∧ cur.toList.take n = cel zs

theorem Own.lt {w : World} {B g n cap : Nat} {zs : List Int} (h : Own w B g n cap zs) : g < w.heap.size := by
  obtain ⟨_, _, _, _, cur, fz, hg, _⟩ := h
  exact (Array.getElem?_eq_some_iff.1 hg).1
theorem Own.of_block {w w' : World} {B g n cap : Nat} {zs : List Int} (h : Own w B g n cap zs) (hb : w'.heap[g]? = w.heap[g]?) : Own w' B g n cap zs := by
  obtain ⟨h1, h2, h3, h4, cur, fz, hg, rest⟩ := h
  exact ⟨h1, h2, h3, h4, cur, fz, hb.trans hg, rest⟩
theorem Own.alloc {w : World} {B g n cap : Nat} {zs : List Int} (h : Own w B g n cap zs) (o : Obj) : Own (w.alloc o) B g n cap zs := h.of_block (heap_alloc_old w o h.lt)
theorem Own.drewN {w : World} {B g n cap : Nat} {zs : List Int} (h : Own w B g n cap zs) (k : Nat) : Own (w.drewN k) B g n cap zs := h
theorem Own.below {w w' : World} {B g n cap : Nat} {zs : List Int} (h : Own w B g n cap zs) (hb : Below w.heap.size w w') : Own w' B g n cap zs := h.of_block (hb.block g h.lt)
theorem Own.belowB {w w' : World} {B C g n cap : Nat} {zs : List Int} (h : Own w B g n cap zs) (hb : Below C w w') (hg : g < C) : Own w' B g n cap zs := h.of_block (hb.block g hg)
theorem Own.mono {w : World} {B C g n cap : Nat} {zs : List Int} (h : Own w B g n cap zs) (hC : C ≤ B) : Own w C g n cap zs := ⟨h.1, Nat.le_trans hC h.2.1, h.2.2⟩
theorem Own.grown {w w' : World} {B g k n cap : Nat} {zs : List Int} (h : Own w B g n cap zs) (hg : w.grownBy w' (some k)) (hk : g ≠ k) : Own w' B g n cap zs := h.of_block (hg.block g h.lt (by simpa using hk))
theorem Own.cell {w : World} {B g n cap : Nat} {zs : List Int} (h : Own w B g n cap zs) (j : Nat) (hj : j < n) : w.cell? ⟨g, j, none⟩ = some (.int .u8 (zs[j]?.getD 0)) := by
  obtain ⟨h1, h2, h3, h4, cur, fz, hg, _, hs, ht⟩ := h
  have e : cur.toList[j]? = (cel zs)[j]? := by rw [← ht, List.getElem?_take, if_pos hj]
  have hz : zs[j]? = some (zs[j]'(by omega)) := List.getElem?_eq_getElem (by omega)
  rw [cell_of_row w g j cur 5 fz hg, ← Array.getElem?_toList, e]
  simp [cel, hz]
theorem Own.part {w : World} {B g n cap : Nat} {zs : List Int} (h : Own w B g n cap zs) (hz : Byt zs) : Part w ⟨some ⟨g, 0, none⟩, n, cap, zs⟩ :=
  ⟨h.1, h.2.2.1, hz, fun _ => ⟨g, 0, rfl, fun j hj => by rw [Nat.zero_add]; exact h.cell j hj⟩⟩
theorem Own.free {w : World} {B g n cap : Nat} {zs : List Int} (h : Own w B g n cap zs) (j : Nat) (hj : j < n) : w.frozen? ⟨g, j, none⟩ = false := by
  obtain ⟨h1, h2, h3, h4, cur, ⟨lo, hi⟩, hg, hf, hs, ht⟩ := h
  simp only at hf
  simp only [World.frozen?, hg, Bool.and_eq_false_iff, decide_eq_false_iff_not]
  omega
/-- One cell of it is written. -/
theorem Own.stored {w : World} {B g n cap : Nat} {zs : List Int} (h : Own w B g n cap zs) (j : Nat) (x : Int) :
    Own (w.setCell ⟨g, j, none⟩ (.int .u8 x)) B g n cap (zs.set j x) ∧ w.grownBy (w.setCell ⟨g, j, none⟩ (.int .u8 x)) (some g) := by
  obtain ⟨h1, h2, h3, h4, cur, fz, hg, hf, hs, ht⟩ := h
  refine ⟨⟨by simpa using h1, h2, h3, h4, cur.setIfInBounds j (.int .u8 x), fz, ?_, hf, by simpa using hs, ?_⟩, ⟨rfl, rfl, rfl, by simp, fun k _ hk => heap_setCell_other w ⟨g, j, none⟩ k _ (fun e => hk (by simp [e]))⟩⟩
  · rw [setCell_eq_setRow w g j cur 5 fz _ hg]
    exact setRow_heap w g cur _ 5 _ hg
  · rw [Array.toList_setIfInBounds, List.take_set, ht]
    simp [cel, List.map_set]

theorem Part.grown {w w' : World} {b off k n c : Nat} {bs : List Int} (h : Part w ⟨some ⟨b, off, none⟩, n, c, bs⟩) (hg : w.grownBy w' (some k)) (hk : b ≠ k) : Part w' ⟨some ⟨b, off, none⟩, n, c, bs⟩ := by
  obtain ⟨h1, h2, h3, h4⟩ := h
  refine ⟨h1, h2, h3, fun hn => ?_⟩
  obtain ⟨b', off', e, hc⟩ := h4 hn
  have e' : some (⟨b, off, none⟩ : Addr) = some ⟨b', off', none⟩ := e
  simp only [Option.some.injEq, Addr.mk.injEq] at e'
  obtain ⟨rfl, rfl, -⟩ := e'
  exact ⟨b, off, rfl, fun j hj => hg.cell (hc j hj) (by simpa using hk)⟩

/-- Cells are written behind what is there. -/
theorem store_cells (g o : Nat) (fz : Nat × Nat) : ∀ (vs : List Value) (i : Nat) (cur : Array Value) (w : World), w.heap[g]? = some (.cells cur 5 fz) → (fz.2 = 0 ∨ cur.size ≤ fz.1) → o + i + vs.length ≤ cur.size → (∀ v ∈ vs, v.oneCell' = true) →
    (storeCells ⟨g, o, none⟩ vs i).run Try.prog w = .ok () (w.setRow g (cur.toList.take (o + i) ++ vs ++ cur.toList.drop (o + i + vs.length)).toArray)
  | [], i, cur, w, hg, _, _, _ => by
    simp only [storeCells, List.append_nil, List.length_nil, Nat.add_zero, List.take_append_drop, Array.toArray_toList]
    rw [setRow_self w g cur 5 fz hg]
    rfl
  | v :: rest, i, cur, w, hg, hfz, hl, h1 => by
    have hi : o + i < cur.size := by simp at hl; omega
    have hcell : w.cell? ⟨g, o + i, none⟩ = some cur[o + i] := by simp [World.cell?, hg, hi]
    have hfro : w.frozen? ⟨g, o + i, none⟩ = false := by
      obtain ⟨lo, hi'⟩ := fz
      simp only at hfz
      simp only [World.frozen?, hg, Bool.and_eq_false_iff, decide_eq_false_iff_not]
      omega
    have hst : (store ((⟨g, o, none⟩ : Addr).add i) v).run Try.prog w = .ok () (w.setRow g (cur.setIfInBounds (o + i) v)) := by
      rw [add_plain, run_store Try.prog w _ v _ (h1 v (by simp)), hcell]
      simp [hfro, setCell_eq_setRow w g (o + i) cur 5 fz v hg]
    have ih := store_cells g o fz rest (i + 1) (cur.setIfInBounds (o + i) v) (w.setRow g (cur.setIfInBounds (o + i) v)) (setRow_heap w g cur _ 5 _ hg) (by simpa using hfz) (by simp at hl ⊢; omega) (fun x hx => h1 x (by simp [hx]))
    simp only [storeCells, Sem.run_bind, hst, Result.andThen_ok, ih, setRow_setRow]
    congr 3
    have e := list_seg_step cur.toList (o + i) v rest (by simp at hl ⊢; omega)
    simpa [Array.toList_setIfInBounds, Nat.add_assoc] using e

theorem cel_one (bs : List Int) : ∀ u ∈ cel bs, u.oneCell' = true := by
  intro u hu
  simp [cel] at hu
  obtain ⟨x, _, rfl⟩ := hu
  rfl

/-- What is left when there was room. -/
theorem own_room {w : World} {B g n cap : Nat} {zs bs : List Int} (h : Own w B g n cap zs) {cur : Array Value} {fz : Nat × Nat} (hg : w.heap[g]? = some (.cells cur 5 fz)) (hf : fz.2 = 0 ∨ cap ≤ fz.1) (hs : cur.size = cap) (ht : cur.toList.take n = cel zs) (hr : n + bs.length ≤ cap) :
    Own (w.setRow g (cur.toList.take n ++ cel bs ++ cur.toList.drop (n + bs.length)).toArray) B g (n + bs.length) cap (zs ++ bs) ∧ w.grownBy (w.setRow g (cur.toList.take n ++ cel bs ++ cur.toList.drop (n + bs.length)).toArray) (some g) := by
  obtain ⟨h1, h2, h3, h4, _⟩ := h
  refine ⟨⟨by simp [h1], h2, hr, h4, _, fz, setRow_heap w g cur _ 5 _ hg, hf, ?_, ?_⟩, ⟨rfl, rfl, rfl, by simp, fun k _ hk => setRow_other w g k _ (fun e => hk (by simp [e]))⟩⟩
  · simp only [List.size_toArray, List.length_append, List.length_take, List.length_drop, Array.length_toList, cel_len]
    omega
  · rw [ht]
    have : (cel zs ++ cel bs).length = n + bs.length := by simp [cel_len, h1]
    rw [← this, show cel (zs ++ bs) = cel zs ++ cel bs by simp [cel]]
    exact List.take_left
/-- What is left when a new row was made. -/
theorem own_grow {w : World} {B n c : Nat} {zs bs : List Int} {old : Nat} (h1 : zs.length = n) (hB : B ≤ w.heap.size) (hc : c = grownCap w (n + bs.length) old 5) (hl : n + bs.length ≤ 140737488355328) (tail : Array Value) (htl : tail.size = c - (n + bs.length)) :
    Own (w.drew.alloc (.cells ((cel zs).toArray ++ (cel bs).toArray ++ tail) 5)) B w.heap.size (n + bs.length) c (zs ++ bs) ∧ w.grownBy (w.drew.alloc (.cells ((cel zs).toArray ++ (cel bs).toArray ++ tail) 5)) (some w.heap.size) := by
  have hge := grownCap_ge w (n + bs.length) old 5
  have hcm := grownCap_le_maxLen w (n + bs.length) old 5 (by simp only [maxLen]; omega)
  rw [← hc] at hge hcm
  refine ⟨⟨by simp [h1], hB, hge, hcm, _, (0, 0), heap_alloc_new w.drew _, .inl rfl, ?_, ?_⟩, ⟨rfl, rfl, rfl, by simp, fun k hk _ => heap_alloc_old w.drew _ hk⟩⟩
  · simp [cel_len, h1, htl]; omega
  · have : (cel zs ++ cel bs).length = n + bs.length := by simp [cel_len, h1]
    simp only [Array.toList_append, List.append_assoc]
    rw [← List.append_assoc, ← this, show cel (zs ++ bs) = cel zs ++ cel bs by simp [cel]]
    exact List.take_left

/-- What append leaves. -/
def Grew (w w' : World) (B g g' n' cap' : Nat) (zs : List Int) : Prop :=
  Own w' B g' n' cap' zs ∧ Below B w w' ∧ (g' = g ∨ w.heap.size ≤ g') ∧ ∀ k, k < w.heap.size → k ≠ g → w'.heap[k]? = w.heap[k]?

theorem grew_of {w w' : World} {B g g' n' cap' : Nat} {zs : List Int} {row : Nat} (ho : Own w' B g' n' cap' zs) (hg : w.grownBy w' (some row)) (hr : row = g ∨ row = w.heap.size) (hB : B ≤ w.heap.size) (hb : B ≤ g) (hgg : g' = g ∨ w.heap.size ≤ g') : Grew w w' B g g' n' cap' zs :=
  ⟨ho, (Below.refl _ _).grown hg hB (fun k hk => by simp at hk; omega), hgg, fun k hk hne => hg.block k hk (by simp; omega)⟩

theorem Grew.trans {w w1 w2 : World} {B g g1 g2 n1 n2 c1 c2 : Nat} {z1 z2 : List Int} (h : Grew w w1 B g g1 n1 c1 z1) (h2 : Grew w1 w2 B g1 g2 n2 c2 z2) : Grew w w2 B g g2 n2 c2 z2 := by
  have hs := h.2.1.size
  refine ⟨h2.1, h.2.1.trans h2.2.1, ?_, fun k hk hne => ?_⟩
  · rcases h2.2.2.1 with e | e
    · rcases h.2.2.1 with e1 | e1 <;> omega
    · omega
  · refine (h2.2.2.2 k (by omega) ?_).trans (h.2.2.2 k hk hne)
    rcases h.2.2.1 with e1 | e1 <;> omega
theorem Grew.of_alloc {w w1 : World} {o : Obj} {B g g1 n1 c1 : Nat} {z1 : List Int} (h : Grew (w.alloc o) w1 B g g1 n1 c1 z1) (hB : B ≤ w.heap.size) : Grew w w1 B g g1 n1 c1 z1 := by
  refine ⟨h.1, ((Below.refl _ _).alloc hB o).trans h.2.1, ?_, fun k hk hne => ?_⟩
  · rcases h.2.2.1 with e | e
    · exact .inl e
    · refine .inr (Nat.le_trans ?_ e); simp
  · exact (h.2.2.2 k (by simp; omega) hne).trans (heap_alloc_old w o hk)
theorem Grew.part {w w1 : World} {B g g1 n1 c1 b off n c : Nat} {z1 bs : List Int} (h : Grew w w1 B g g1 n1 c1 z1) (hp : Part w ⟨some ⟨b, off, none⟩, n, c, bs⟩) (hb : b ≠ g) (hl : b < w.heap.size) : Part w1 ⟨some ⟨b, off, none⟩, n, c, bs⟩ := by
  obtain ⟨h1, h2, h3, h4⟩ := hp
  refine ⟨h1, h2, h3, fun hn => ?_⟩
  obtain ⟨b', off', e, hc⟩ := h4 hn
  have e' : some (⟨b, off, none⟩ : Addr) = some ⟨b', off', none⟩ := e
  simp only [Option.some.injEq, Addr.mk.injEq] at e'
  obtain ⟨rfl, rfl, -⟩ := e'
  exact ⟨b, off, rfl, fun j hj => (World.cell?_of_block (a := ⟨b, off + j, none⟩) (h.2.2.2 b hl hb)).trans (hc j hj)⟩

/-- A text is appended to what the call has gathered. -/
theorem append_text (w : World) (B g n cap : Nat) (zs : List Int) (s : ByteArray) (h : Own w B g n cap zs) (hB : B ≤ w.heap.size) (hl : n + s.size ≤ 140737488355328) (sT : TypeId) (hsT : Try.prog.underlying sT = some .string) (n' : Nat) (hn' : n' = n + s.size) :
    ∃ g' cap' w', (Builtin.append_ #[87, sT] 87 #[.slice (some ⟨g, 0, none⟩) n cap, .string s]).run Try.prog w = .ok (.slice (some ⟨g', 0, none⟩) n' cap') w' ∧ Grew w w' B g g' n' cap' (zs ++ bts s) := by
  obtain ⟨i0, hi, hz0, hz1, hz2⟩ := info_parts info5
  have hbl : (bts s).length = s.size := bts_len s
  have e : cel (bts s) = Lib.strCells s := by simp [cel, bts, Lib.strCells]
  have hcell := fun j hj => h.cell j hj
  obtain ⟨h1, h2, h3, h4, cur, fz, hg, hf, hs, ht⟩ := id h
  subst hn'
  by_cases hroom : n + s.size ≤ cap
  · have hst := store_cells g n fz (cel (bts s)) 0 cur w hg (by rw [hs]; exact hf) (by simp [cel_len, hbl]; omega) (cel_one _)
    simp only [Nat.add_zero, cel_len, hbl] at hst
    have ho := own_room (bs := bts s) h hg hf hs ht (by rw [hbl]; exact hroom)
    rw [hbl] at ho
    have hfc := Lib.run_firstCells_string (P := Try.prog) w 1 s
    rw [← e] at hfc
    refine ⟨g, cap, _, ?_, grew_of ho.1 ho.2 (.inl rfl) hB h2 (.inl rfl)⟩
    simp [Builtin.append_, run_underlying Try.underlying87, run_underlying hsT, sizeOf, typeInfo, hi, hz1, Builtin.lenOf, hroom, hfc, Addr.add_lit, hst]
  · have hr := Lib.run_append_grow_string (P := Try.prog) w 87 sT 87 5 i0 (.int .u8 0) Try.underlying87 hsT hi hz0 ⟨g, 0, none⟩ n cap (cel zs) (by rw [hz1, cel_len]; omega) (fun j u hu => by
      have hj : j < n := by
        rcases Nat.lt_or_ge j n with hj | hj
        · exact hj
        · simp [cel, h1, hj] at hu
      rw [add_plain, Nat.zero_add, hcell j hj, ← hu]
      have hz : zs[j]? = some (zs[j]'(by omega)) := List.getElem?_eq_getElem (by omega)
      simp [cel, hz]) s (by omega) (by omega) (by rw [hz2]; exact growslice_fits (by omega) (by omega))
    rw [← e] at hr
    have ho := own_grow (w := w) (bs := bts s) (old := cap) h1 hB rfl (by rw [hbl]; exact hl) (Builtin.zeroCells (Value.int .u8 0).cells (grownCap w (n + s.size) cap 5 - (n + s.size))) (by rw [hbl, size_zeroCells]; simp [Value.cells])
    rw [hbl] at ho
    exact ⟨_, _, _, hr, grew_of ho.1 ho.2 (.inr rfl) hB h2 (.inr (Nat.le_refl _))⟩

/-- A slice's bytes are appended to what the call has gathered. -/
theorem append_part (w : World) (B g n cap : Nat) (zs : List Int) (A : Option Addr) (m c : Nat) (bs : List Int) (h : Own w B g n cap zs) (hp : Part w ⟨A, m, c, bs⟩) (hB : B ≤ w.heap.size) (hl : n + m ≤ 140737488355328) (n' : Nat) (hn' : n' = n + m) :
    ∃ g' cap' w', (Builtin.append_ #[87, 87] 87 #[.slice (some ⟨g, 0, none⟩) n cap, .slice A m c]).run Try.prog w = .ok (.slice (some ⟨g', 0, none⟩) n' cap') w' ∧ Grew w w' B g g' n' cap' (zs ++ bs) := by
  obtain ⟨i0, hi, hz0, hz1, hz2⟩ := info_parts info5
  have hbl : bs.length = m := hp.1
  have hcell := fun j hj => h.cell j hj
  obtain ⟨h1, h2, h3, h4, cur, fz, hg, hf, hs, ht⟩ := id h
  subst hn'
  rcases A with _ | ad
  · have h0 : m = 0 := by
      rcases Nat.eq_zero_or_pos m with h0 | h0
      · exact h0
      · obtain ⟨b, off, e, _⟩ := hp.2.2.2 h0
        cases e
    subst h0
    have hb : bs = [] := List.eq_nil_of_length_eq_zero hbl
    subst hb
    refine ⟨g, cap, w, ?_, ?_⟩
    · simp [Builtin.append_, run_underlying Try.underlying87, sizeOf, typeInfo, hi, Builtin.lenOf, Builtin.firstCells, h3, storeCells]
    · exact ⟨by simpa using h, Below.refl _ _, .inl rfl, fun _ _ _ => rfl⟩
  · have hsrc : ∀ j u, (cel bs)[j]? = some u → w.cell? (ad.add j) = some u := by
      intro j u hu
      have hj : j < bs.length := by
        rcases Nat.lt_or_ge j bs.length with hj | hj
        · exact hj
        · simp [cel, hj] at hu
      obtain ⟨b, off, e, hc⟩ := hp.2.2.2 (show 0 < m by omega)
      have e' : ad = ⟨b, off, none⟩ := by injection e
      subst e'
      have := hc j (show j < m by omega)
      rw [add_plain, this, ← hu]
      simp [cel, hj]
    by_cases hroom : n + m ≤ cap
    · have hst := store_cells g n fz (cel bs) 0 cur w hg (by rw [hs]; exact hf) (by simp [cel_len, hbl]; omega) (cel_one _)
      simp only [Nat.add_zero, cel_len, hbl] at hst
      have ho := own_room (bs := bs) h hg hf hs ht (by rw [hbl]; exact hroom)
      rw [hbl] at ho
      have hfc := run_firstCells_some (P := Try.prog) w 1 m ad m c (cel bs) (by rw [cel_len]; omega) hsrc
      refine ⟨g, cap, _, ?_, grew_of ho.1 ho.2 (.inl rfl) hB h2 (.inl rfl)⟩
      simp [Builtin.append_, run_underlying Try.underlying87, sizeOf, typeInfo, hi, hz1, Builtin.lenOf, hroom, hfc, Addr.add_lit, hst]
    · have hr := run_append_grow (P := Try.prog) w 87 87 5 i0 (.int .u8 0) Try.underlying87 hi hz0 ⟨g, 0, none⟩ n cap (cel zs) (by rw [hz1, cel_len]; omega) (fun j u hu => by
        have hj : j < n := by
          rcases Nat.lt_or_ge j n with hj | hj
          · exact hj
          · simp [cel, h1, hj] at hu
        rw [add_plain, Nat.zero_add, hcell j hj, ← hu]
        have hz : zs[j]? = some (zs[j]'(by omega)) := List.getElem?_eq_getElem (by omega)
        simp [cel, hz]) ad m c (cel bs) (by rw [hz1, cel_len]; omega) hsrc (by omega) (by omega) (by rw [hz2]; exact growslice_fits (by omega) (by omega))
      have ho := own_grow (w := w) (bs := bs) (old := cap) h1 hB rfl (by rw [hbl]; exact hl) (Builtin.zeroCells (Value.int .u8 0).cells (grownCap w (n + m) cap 5 - (n + m))) (by rw [hbl, size_zeroCells]; simp [Value.cells])
      rw [hbl] at ho
      exact ⟨_, _, _, hr, grew_of ho.1 ho.2 (.inr rfl) hB h2 (.inr (Nat.le_refl _))⟩

end Go.Proofs.Ytpcdaidgijkkbaa
