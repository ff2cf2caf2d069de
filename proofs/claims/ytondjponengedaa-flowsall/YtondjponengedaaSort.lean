/-
  slices.SortFunc of a row of entries.
-/
import Derived.Test.YtondjponengedaaIo
import Derived.Test.YtondjponengedaaShelf
namespace Go.Proofs.Ytondjponengedaa
open Go.Shelf Go.RowKit Go.Lib Go.Sort
set_option linter.unusedVariables false
set_option linter.unusedSimpArgs false
set_option maxRecDepth 10000

theorem swo_of {α β : Type} {c : β → β → Int} (h : Cmp c) (f : α → β) : SWO (ltOf fun x y => c (f x) (f y)) where
  irrefl x := by simp [ltOf, h.refl]
  trans x y z h1 h2 := by
    simp only [ltOf, decide_eq_true_eq] at *
    exact h.trans _ _ _ h1 h2
  ntrans x y z h1 h2 := by
    simp only [ltOf, decide_eq_false_iff_not] at *
    intro h3
    rcases Classical.em (f x = f y) with e | e
    · rw [e] at h3; exact h2 h3
    · have h4 : c (f x) (f y) ≠ 0 := fun e2 => e ((h.eq _ _).1 e2)
      have h5 : c (f y) (f x) < 0 := by rw [h.anti]; omega
      exact h2 (h.trans _ _ _ h5 h3)
theorem swoF : SWO (ltOf fun x y : En => ordF x.fl y.fl) := swo_of ordF_ok En.fl
theorem swoE : SWO (ltOf ordE) := swo_of ordK_ok keyE

theorem row_of_cells {w : World} {base t g n cap : Nat} {cur : Array Value} {xs : List Value} (hl : xs.length = n * 8) (hb : base ≤ g) (hg : w.heap[g]? = some (.cells cur t (0, 0))) (hn : n ≤ cap) (hc : cap ≤ maxLen) (hs : cur.size = cap * 8)
    (hx : ∀ j, j < n * 8 → w.cell? ⟨g, j, none⟩ = xs[j]?) : w.ownsRow base t 8 (.slice (some ⟨g, 0, none⟩) n cap) n xs := by
  refine ⟨hl, .inr ⟨g, cap, cur, rfl, hb, hg, hn, hc, hs, ?_⟩⟩
  apply List.ext_getElem?
  intro j
  rcases Nat.lt_or_ge j (n * 8) with hj | hj
  · rw [← hx j hj, cell_of_row w g j cur t (0, 0) hg, List.getElem?_take, if_pos hj, Array.getElem?_toList]
  · rw [List.getElem?_eq_none (by simp; omega), List.getElem?_eq_none (by omega)]

theorem flat_at (l : List En) {i j : Nat} (hi : i < l.length) (hj : j < 8) : some (flatK ecs 8 l.toArray)[i * 8 + j]! = (ecells l)[i * 8 + j]? := by
  rw [get_flatK _ _ _ _ (by simp; omega), ecells_at l i j hi hj, show (i * 8 + j) / 8 = i by omega, show (i * 8 + j) % 8 = j by omega]
  have e : l.toArray[i]! = l[i]! := by simp
  rw [e, getElem!_pos _ j (by rw [ecs_len]; exact hj), List.getElem?_eq_getElem (by rw [ecs_len]; exact hj)]

theorem size_mapB (w : World) (b : Nat) (f : Array Value → Array Value) : (mapBlock w b f).heap.size = w.heap.size := by simp [mapBlock]
theorem size_putC (e : Value → Value) (o : Nat) (d c : Array Value) : (putCells e o d c).size = c.size := by simp [putCells]

theorem row_holds {w : World} {base t g n c : Nat} {l : List En} (h : w.ownsRow base t 8 (.slice (some ⟨g, 0, none⟩) n c) n (ecells l)) : HoldsK ecs 8 w g 0 l.toArray := by
  have hl : l.length = n := by have := h.1; rw [ecells_len] at this; omega
  rcases h.2 with ⟨e, _⟩ | ⟨g', cap, cur, e, hb, hg, _⟩
  · simp at e
  · simp only [Value.slice.injEq, Option.some.injEq, Addr.mk.injEq] at e
    obtain ⟨⟨rfl, _⟩, _⟩ := e
    intro j hj
    rw [size_flatK] at hj
    simp only [List.size_toArray] at hj
    rw [Nat.zero_add]
    refine ⟨?_, frozen_of_row w g j cur t hg⟩
    have hq := flat_at l (i := j / 8) (j := j % 8) (by omega) (by omega)
    rw [show j / 8 * 8 + j % 8 = j by omega] at hq
    rw [h.cellAt j (by omega), ← hq]; rfl

theorem sort_world_row {w : World} {base t g n c q : Nat} {l l' : List En} {os : Array Obj} (h : w.ownsRow base t 8 (.slice (some ⟨g, 0, none⟩) n c) n (ecells l)) (hl' : l'.length = l.length) :
    (sortWorldK ecs 8 w g 0 q l'.toArray os).ownsRow base t 8 (.slice (some ⟨g, 0, none⟩) n c) n (ecells l') := by
  have hl : l.length = n := by have := h.1; rw [ecells_len] at this; omega
  have hh := row_holds h
  rcases h.2 with ⟨e, _⟩ | ⟨g', cap, cur, e, hb, hg, hnc, hcm, hcs, _⟩
  · simp at e
  · simp only [Value.slice.injEq, Option.some.injEq, Addr.mk.injEq] at e
    obtain ⟨⟨rfl, _⟩, _, rfl⟩ := e
    have hglt := (Array.getElem?_eq_some_iff.1 hg).1
    have hh2 := holdsK_sortWorldK ecs 8 w g 0 q l.toArray l'.toArray os hglt hh (by simp [hl'])
    have hobj : (sortWorldK ecs 8 w g 0 q l'.toArray os).heap[g]? = some (.cells (putCells id 0 (flatK ecs 8 l'.toArray) cur) t (0, 0)) := by
      unfold sortWorldK
      rw [heap_grow_old _ _ (by rw [putRowK, putRow, size_mapB]; exact hglt)]
      show (w.heap.modify g _)[g]? = _
      rw [Array.getElem?_modify, if_pos rfl, hg]; rfl
    refine row_of_cells (by rw [ecells_len, hl', hl]) hb hobj hnc hcm (by rw [size_putC]; exact hcs) fun j hj => ?_
    have := (hh2 j (by rw [size_flatK]; simp; omega)).1
    rw [Nat.zero_add] at this
    rw [this]
    have hq := flat_at l' (i := j / 8) (j := j % 8) (by omega) (by omega)
    rw [show j / 8 * 8 + j % 8 = j by omega] at hq
    exact hq

theorem only_sort {w : World} {g q : Nat} {d : Array En} {os : Array Obj} : Only (· = g) w (sortWorldK ecs 8 w g 0 q d os) := by
  refine ⟨rfl, rfl, rfl, ?_, fun k hk hn => ?_⟩
  · unfold sortWorldK; rw [size_grow, putRowK, putRow, size_mapB]; exact Nat.le_add_right _ _
  · unfold sortWorldK
    rw [heap_grow_old _ _ (by rw [putRowK, putRow, size_mapB]; exact hk)]
    show (w.heap.modify g _)[k]? = w.heap[k]?
    rw [Array.getElem?_modify, if_neg (Ne.symm hn)]

theorem sort_any {w : World} {base g n c : Nat} {l : List En} (h : w.ownsRow base 39 8 (.slice (some ⟨g, 0, none⟩) n c) n (ecells l)) (hn9 : n ≤ 1000) (fn : Nat) (cf : En → En → Int) (hO : SWO (ltOf cf))
    (eg : ∀ args w, (callFunc fn args).run Try.prog w = .ok (.enter fn args) w)
    (hc : ∀ (x y : En) (w : World), Calls Try.prog fn #[ev x, ev y] w fun e w' => e = .returned (.int .i64 (cf x y)) ∧ Quiet w w') :
    Calls Try.prog 34 #[.slice (some ⟨g, 0, none⟩) n c, .func (.func fn) #[] #[]] w fun e w' => e = .returned (.tuple #[]) ∧ ∃ l' : List En, l'.Perm l ∧ (∀ i j, i < j → j < n → ¬ cf l'[j]! l'[i]! < 0) ∧ w'.ownsRow base 39 8 (.slice (some ⟨g, 0, none⟩) n c) n (ecells l') ∧ Only (· = g) w w' := by
  have hl : l.length = n := by have := h.1; rw [ecells_len] at this; omega
  have hglt : g < w.heap.size := (h.lt g rfl).2
  have hcmp : CmpLays Try.prog fn #[] ecs 8 cf g 0 l.toArray.size w := fun m os dk hs x y => hc x y _
  have hs := AnyQ.slices_SortFunc laysSort 8 Try.isAgg39 Try.sizeOf39 ecs ecs_len ecs_one cf hO fn #[] g 0 c l.toArray w eg hcmp (row_holds h) hglt (by simp; omega)
  have e1 : l.toArray.size = n := by simp [hl]
  rw [e1] at hs
  refine hs.mono ?_
  rintro e w' ⟨rfl, d', q, os, hp, hsd, rfl⟩
  have hsz : d'.size = n := by rw [hp.1, e1]
  have hl2 : d'.toList.length = l.length := by simp [hsz, hl]
  refine ⟨rfl, d'.toList, ?_, fun i j hij hj => ?_, ?_, only_sort⟩
  · have := hp.2.2
    rw [show d'.extract 0 n = d' by rw [← hsz]; simp, show l.toArray.extract 0 n = l.toArray by rw [← e1]; simp] at this
    simpa using this
  · have := hsd i j (Nat.zero_le _) hij hj
    simp only [ltOf, decide_eq_false_iff_not] at this
    have et : ∀ k : Nat, d'.toList[k]! = d'[k]! := fun k => by
      rcases Nat.lt_or_ge k d'.size with h | h
      · rw [getElem!_pos _ k (by simpa using h), getElem!_pos d' k h]; simp
      · rw [getElem!_neg _ k (by simpa using h), getElem!_neg d' k (by omega)]
    rw [et, et]; exact this
  · exact sort_world_row h hl2

/-! ## In order -/
theorem srt_ne {L : List En} (h : Srt L) : L.Pairwise fun x y => x.fl ≠ y.fl := h.imp fun {x y} h e => by
  have : ordF x.fl y.fl = 0 := (ordF_ok.eq _ _).2 e
  unfold LtF at h; omega
theorem sorted_as {R : En → En → Prop} {cf : En → En → Int} (hR : ∀ x y, R x y ↔ cf x y < 0) (asym : ∀ x y, R x y → ¬ R y x) (tri : ∀ x y : En, x.fl ≠ y.fl → ¬ R y x → R x y)
    {L l l' : List En} {n : Nat} (hL : L.Pairwise R) (hne : L.Pairwise fun x y => x.fl ≠ y.fl) (hp : L.Perm l) (hp' : l'.Perm l) (hn : l'.length = n) (hs : ∀ i j, i < j → j < n → ¬ cf l'[j]! l'[i]! < 0) : l' = L := by
  have hq : L.Perm l' := hp.trans hp'.symm
  have hne' : l'.Pairwise fun x y => x.fl ≠ y.fl := (hq.pairwise_iff (fun h => Ne.symm h)).1 hne
  refine row_unique asym l' L (List.pairwise_iff_getElem.2 fun i j hi hj hij => ?_) hL hq.symm
  have h1 := (List.pairwise_iff_getElem.1 hne') i j hi hj hij
  have h2 := hs i j hij (by omega)
  rw [getElem!_pos l' i hi, getElem!_pos l' j hj] at h2
  exact tri _ _ h1 fun h3 => h2 ((hR _ _).1 h3)
theorem sorted_F {L l l' : List En} {n : Nat} (hL : Srt L) (hp : L.Perm l) (hp' : l'.Perm l) (hn : l'.length = n) (hs : ∀ i j, i < j → j < n → ¬ ordF (l'[j]!).fl (l'[i]!).fl < 0) : l' = L :=
  sorted_as (R := LtF) (cf := fun x y => ordF x.fl y.fl) (fun _ _ => Iff.rfl) (fun _ _ h => h.asym) (fun x y h h2 => LtF.tri h.symm h2) hL (srt_ne hL) hp hp' hn hs
theorem sorted_E {L l l' : List En} {n : Nat} (hL : L.Pairwise LtE) (hne : L.Pairwise fun x y => x.fl ≠ y.fl) (hp : L.Perm l) (hp' : l'.Perm l) (hn : l'.length = n) (hs : ∀ i j, i < j → j < n → ¬ ordE (l'[j]!) (l'[i]!) < 0) : l' = L :=
  sorted_as (R := LtE) (cf := ordE) (fun _ _ => Iff.rfl) (fun _ _ h => h.asym) (fun x y h h2 => by
    have h3 : ordE x y ≠ 0 := fun e => h (congrArg Prod.snd ((ordK_ok.eq (keyE x) (keyE y)).1 e))
    have h4 : ordE x y < 0 ↔ 0 < ordE y x := ordK_ok.anti (keyE x) (keyE y)
    unfold LtE at *
    have h5 : ordE y x < 0 ↔ 0 < ordE x y := ordK_ok.anti (keyE y) (keyE x)
    omega) hL hne hp hp' hn hs

theorem eg35 (args : Array Value) (w : World) : (callFunc 35 args).run Try.prog w = .ok (.enter 35 args) w := enters_of Try.func35 (by kernel_rfl) rfl args w
theorem eg50 (args : Array Value) (w : World) : (callFunc 50 args).run Try.prog w = .ok (.enter 50 args) w := enters_of Try.func50 (by kernel_rfl) rfl args w

/-- A row of flows' entries is put in order. -/
theorem sortF_any {w : World} {base g n c : Nat} {l L : List En} (h : w.ownsRow base 39 8 (.slice (some ⟨g, 0, none⟩) n c) n (ecells l)) (hn9 : n ≤ 1000) (hL : Srt L) (hp : L.Perm l) :
    Calls Try.prog 34 #[.slice (some ⟨g, 0, none⟩) n c, .func (.func 35) #[] #[]] w fun e w' => e = .returned (.tuple #[]) ∧ w'.ownsRow base 39 8 (.slice (some ⟨g, 0, none⟩) n c) n (ecells L) ∧ Only (· = g) w w' :=
  (sort_any h hn9 35 (fun x y => ordF x.fl y.fl) swoF eg35 inOrder_any).mono fun e w' ⟨he, l', hp', hs, hr, ho⟩ => by
    have hl : l'.length = n := by have := hr.1; rw [ecells_len] at this; omega
    rw [sorted_F hL hp hp' hl hs] at hr
    exact ⟨he, hr, ho⟩
theorem sortE_any {w : World} {base g n c : Nat} {l L : List En} (h : w.ownsRow base 39 8 (.slice (some ⟨g, 0, none⟩) n c) n (ecells l)) (hn9 : n ≤ 1000) (hL : L.Pairwise LtE) (hne : L.Pairwise fun x y => x.fl ≠ y.fl) (hp : L.Perm l) :
    Calls Try.prog 34 #[.slice (some ⟨g, 0, none⟩) n c, .func (.func 50) #[] #[]] w fun e w' => e = .returned (.tuple #[]) ∧ w'.ownsRow base 39 8 (.slice (some ⟨g, 0, none⟩) n c) n (ecells L) ∧ Only (· = g) w w' :=
  (sort_any h hn9 50 ordE swoE eg50 byEnds_any).mono fun e w' ⟨he, l', hp', hs, hr, ho⟩ => by
    have hl : l'.length = n := by have := hr.1; rw [ecells_len] at this; omega
    rw [sorted_E hL hne hp hp' hl hs] at hr
    exact ⟨he, hr, ho⟩

end Go.Proofs.Ytondjponengedaa
