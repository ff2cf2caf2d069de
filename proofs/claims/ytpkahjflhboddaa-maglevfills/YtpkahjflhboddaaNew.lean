/-
  maglev.New.
-/
import Derived.Test.YtpkahjflhboddaaMay
import Derived.Test.YtpkahjflhboddaaSort
import Derived.Test.YtpkahjflhboddaaPlaces
import Derived.Test.YtpkahjflhboddaaBuild
import Derived.Deep.RegionHeld3
namespace Go.Proofs.Ytpkahjflhboddaa
open Go.RowKit
set_option linter.unusedVariables false
set_option linter.unusedSimpArgs false
set_option maxRecDepth 10000

theorem top_to (l : List Bk) : ∀ k, ∃ t, TopTo l k t
  | 0 => ⟨0, by omega, fun i hi => by omega, .inl rfl⟩
  | k + 1 => by
    obtain ⟨t, ht⟩ := top_to l k
    exact ⟨_, ht.next⟩

theorem good_of (k : List Int) {l : List Bk} {o : List Nat} (hR : Right l) (ho : IsOrd l o) : ∃ t T, Good l o (sds k l o) t T ∧ IsTop l (t : Int) := by
  obtain ⟨h1, h16, hf, ha⟩ := hR
  obtain ⟨t, ht⟩ := top_to l l.length
  have htop := ht.isTop h1 (fun i hi => (hf i hi).2.2.1)
  obtain ⟨i, hi, hit⟩ := htop.2
  have hfi := hf i hi
  obtain ⟨tn, rfl⟩ := Int.eq_ofNat_of_zero_le (show 0 ≤ t by have := hfi.2.2.1; omega)
  obtain ⟨T, hT, hoT⟩ := ho.all ha hi
  have hl : (sds k l o).length = l.length := by rw [sds_len, ho.1]
  refine ⟨tn, T, ⟨h1, h16, ho, hl, fun r hr => ?_, ⟨by omega, ?_⟩, by have := hfi.2.2.2; omega⟩, htop⟩
  · have hr' : r < o.length := by rw [← sds_len k l o]; exact hr
    rw [sds_at k l o hr']
    have hb := (ho.2 r (by rw [← ho.1]; exact hr')).1
    have hfb := hf _ hb
    have hle := htop.1 _ hb
    simp only []
    refine ⟨by have := hfb.2.2.1; omega, by have := hfb.2.2.1; omega, by have := hfb.2.2.1; omega⟩
  · rw [sds_at k l o (by rw [ho.1]; exact hT), hoT, hit]
    simp

theorem row_slice {w : World} {B e size n : Nat} {v : Value} {xs : List Value} (h : w.ownsRow B e size v n xs) (hn : 1 ≤ n) : ∃ g c, v = .slice (some ⟨g, 0, none⟩) n c ∧ n ≤ c := by
  rcases h.2 with ⟨_, h0⟩ | ⟨g, cap, cur, rfl, hbg, hg, hnc, _⟩
  · omega
  · exact ⟨g, cap, rfl, hnc⟩
theorem ring_pos {l : List Bk} {o : List Nat} (hR : Right l) (ho : IsOrd l o) : 1 ≤ (ring l o).length := by
  have h1 := hR.1
  have hl := ho.1
  obtain ⟨i, r, rfl⟩ : ∃ i r, o = i :: r := by
    cases o with
    | nil => simp at hl; omega
    | cons i r => exact ⟨i, r, rfl⟩
  have hi := (ho.2 0 (by omega)).1
  have hf := (hR.2.2.1 _ hi).2.2.1
  simp only [ring, List.flatMap_cons, List.length_append, List.length_replicate]
  have : ((i :: r)[0]! : Nat) = i := rfl
  rw [this] at hf
  omega

/-- What New tells. -/
def NewTells (k : List Int) (l : List Bk) (e : Ending) (w' : World) : Prop :=
  (¬ Right l ∧ e = .returned (.tuple #[.pointer none, .int .i64 80])) ∨
  (Right l ∧ ∃ tb, e = .returned (.tuple #[.pointer (some ⟨tb, 0, none⟩), .int .i64 0]) ∧ ∃ (o : List Nat) (t : Nat) (pl : List (Option Nat)), IsOrd l o ∧ IsTop l (t : Int) ∧ Lays t (sds k l o) pl ∧ Tab w' tb l (lab o pl) (ring l o))

attribute [local go_sem ↓] big51 big55 bigB59

theorem tab_laid {w : World} {B1 B3 g1 c1 g3 c3 : Nat} {l : List Bk} {o : List Nat} {pl rg : List Int} {C D : Array Value} (hpl : pl.length = 251) (hC : (vals pl).toArray = C)
    (hr1 : w.ownsRow B1 9 1 (.slice (some ⟨g1, 0, none⟩) l.length c1) l.length (ncells l)) (hr3 : w.ownsRow B3 3 1 (.slice (some ⟨g3, 0, none⟩) rg.length c3) rg.length (icells rg)) (hc1 : l.length ≤ c1) (hc3 : rg.length ≤ c3)
    (hD : D.size = 253 ∧ D[0]? = some (.slice (some ⟨g1, 0, none⟩) l.length c1) ∧ D[252]? = some (.slice (some ⟨g3, 0, none⟩) rg.length c3) ∧ ∀ j, j < 251 → D[1 + j]? = C[j]?) :
    Tab (w.alloc (.cells D 59)) w.heap.size l pl rg := by
  obtain ⟨h1, h2, h3, h4⟩ := hD
  have hA := Ar.new w D.toList 59
  simp only [Array.toArray_toList] at hA
  have e1 := hr1.lt g1 rfl
  have e3 := hr3.lt g3 rfl
  have k1 := hr1.cells (g := g1) rfl
  have k3 := hr3.cells (g := g3) rfl
  refine ⟨hpl, ⟨hA.1, fun j hj => ?_⟩, ⟨g1, c1, ?_, hc1, by simp; omega, fun i hi => ?_⟩, g3, c3, ?_, hc3, by simp; omega, fun j hj => ?_⟩
  · refine hA.cell (1 + j) ?_
    rw [Array.getElem?_toList, h4 j (by omega), ← hC, List.getElem?_toArray, vals, List.getElem?_map, List.getElem?_eq_getElem hj, getElem!_pos pl j hj]
    rfl
  · exact hA.cell 0 (by rw [Array.getElem?_toList, h2])
  · have := k1 i (.string (l[i]!).name) (by rw [ncells, List.getElem?_map, List.getElem?_eq_getElem hi, getElem!_pos l i hi]; rfl)
    rw [add_plain, Nat.zero_add] at this
    rw [World.cell?_alloc_lt _ _ _ e1.2]; exact this
  · exact hA.cell 252 (by rw [Array.getElem?_toList, h3])
  · have := k3 j (.int .i64 rg[j]!) (by rw [icells, List.getElem?_map, List.getElem?_eq_getElem hj, getElem!_pos rg j hj]; rfl)
    rw [add_plain] at this
    rw [World.cell?_alloc_lt _ _ _ e3.2]; exact this


set_option maxHeartbeats 4000000 in
theorem new_any {w : World} {a : Option Addr} {n c : Nat} {l : List Bk} (k : List Int) (hk : Key k) (hw : Wide l) (h : Bks w a n c l) :
    Calls Try.prog 11 #[kv k, .slice a n c] w fun e w' => NewTells k l e w' ∧ Below w.heap.size w w' := by
  have H := Lib.hid h
  have HN := Lib.hid h.1
  have HW := Lib.hid hw
  obtain ⟨A, hA⟩ : ∃ A, (cel k).toArray = A := ⟨_, rfl⟩
  have hAs : A.size = 16 := by rw [← hA, List.size_toArray, cel_len, hk.1]
  have hkA : kv k = .agg A := by rw [← hA]; rfl
  have HKA := Lib.hid hkA
  have HAS := Lib.hid hAs
  have HK := Lib.hid hk
  have hMB := Lib.hid (mayBe_any (h.below ((Below.refl w.heap.size w).alloc (Nat.le_refl _) (.cells A 51))) hw)
  have HA0 : Hid (Ar (w.alloc (.cells A 51)) w.heap.size A.toList) := Lib.hid (by
    have := Ar.new w A.toList 51
    simpa using this)
  rw [hkA]
  clear h hk hw hA hAs hkA
  go_enter Try.func11, Try.ntmps11
  go_wp2_with fail
  refine hMB.out.mono ?_
  rintro e w0 ⟨⟨r, rfl, hr⟩, hb0⟩
  have HRR := Lib.hid hr
  have HB0 : Hid (Below w.heap.size w w0) := Lib.hid (((Below.refl _ _).alloc (Nat.le_refl _) _).trans (hb0.mono (by simp)))
  have HAr := Lib.hid (HA0.out.below hb0)
  clear hr hb0
  rcases r with _ | _
  · go_wp2
    go_ret2
    exact ⟨.inl ⟨fun hR => absurd (HRR.out.2 hR) (by simp), rfl⟩, HB0.out⟩
  · have hR : Right l := HRR.out.1 (by first | rfl | trivial)
    have hn16 : n ≤ 16 := by rw [HN.out]; exact hR.2.1
    have hn1 : 1 ≤ n := by rw [HN.out]; exact hR.1
    have HRT := Lib.hid hR
    have HIO := Lib.hid (inOrder_any (H.out.below HB0.out) hR)
    clear hR
    go_wp2_with fail
    refine HIO.out.mono ?_
    rintro e wo ⟨og, oc, o, rfl, hnoc, ho, hI, hbo⟩
    obtain ⟨t, T, hG, htop⟩ := good_of k HRT.out ho
    have HBO : Hid (Below w.heap.size w wo) := Lib.hid (HB0.out.trans (hbo.mono HB0.out.size))
    have HO := Lib.hid ho
    have HTOP := Lib.hid htop
    have HPL := Lib.hid (fun W (hB : Bks W a n c l) (hI : Ints W og 0 (ord o)) => placesOf_any (oc := oc) k HK.out (fun i hi => (HRT.out.2.2.1 i hi).2.1) hG htop hB hI)
    rw [HKA.out] at HPL
    have HRG := Lib.hid (fun W (hB : Bks W a n c l) (hI : Ints W og 0 (ord o)) => ringOf_any (oc := oc) hB hn16 hI (by rw [ho.1, HN.out]) (fun i hi => by
      obtain ⟨r, hr, rfl⟩ := List.getElem_of_mem hi
      have := (ho.2 r (by rw [← ho.1]; exact hr)).1
      rwa [getElem!_pos o r hr] at this) (fun i hi => (HRT.out.2.2.1 i hi).2.2))
    have hh : Ar wo w.heap.size A.toList ∧ Bks wo a n c l ∧ Ints wo og 0 (ord o) := ⟨HAr.out.below hbo, H.out.below HBO.out, hI⟩
    have HH := Lib.hid hh
    clear hh hG htop ho hI hbo
    go_wp2
    refine wp_region_held_drew (S := fun W => Ar W w.heap.size A.toList ∧ Bks W a n c l ∧ Ints W og 0 (ord o)) (by kernel_rfl) HH.out (fun hHeld => ?_)
    refine wpAnyH_take (i := 0) (oi := ({ dst := some 12, op := Go.Op.move (Go.Operand.tmp 1), type := 29, pos := _, after := #[], guard := none } : Oper)) (v := ?_) rfl (by kernel_rfl) (by kernel_rfl) (by kernel_rfl) (fun _ _ _ h => h) (Or.inl ⟨by rfl, ?_⟩) (by assumption) ?_
    rotate_left
    · intro W' hSw
      try dsimp only at hSw
      go_simp
      try with_reducible rfl
    try simp only [Act.put, List.setIfInBounds_toArray, List.set_cons_zero, List.set_cons_succ]
    refine wpAnyH_take (i := 2) (oi := ({ dst := some 14, op := Go.Op.load 51 (Go.Operand.tmp 2), type := 51, pos := _, after := #[], guard := none } : Oper)) (v := ?_) rfl (by kernel_rfl) (by kernel_rfl) (by kernel_rfl) (fun _ _ _ h => h) (Or.inl ⟨by rfl, ?_⟩) (by assumption) ?_
    rotate_left
    · intro W' hSw
      try dsimp only at hSw
      have hkey := load_key hSw.1 HAS.out
      go_simp
      try with_reducible rfl
    try simp only [Act.put, List.setIfInBounds_toArray, List.set_cons_zero, List.set_cons_succ]
    refine wpAnyH_take (i := 3) (oi := ({ dst := some 15, op := Go.Op.move (Go.Operand.tmp 1), type := 29, pos := _, after := #[], guard := none } : Oper)) (v := ?_) rfl (by kernel_rfl) (by kernel_rfl) (by kernel_rfl) (fun _ _ _ h => h) (Or.inl ⟨by rfl, ?_⟩) (by assumption) ?_
    rotate_left
    · intro W' hSw
      try dsimp only at hSw
      go_simp
      try with_reducible rfl
    try simp only [Act.put, List.setIfInBounds_toArray, List.set_cons_zero, List.set_cons_succ]
    refine wpAnyH_take (i := 4) (oi := ({ dst := some 16, op := Go.Op.move (Go.Operand.tmp 6), type := 34, pos := _, after := #[], guard := none } : Oper)) (v := ?_) rfl (by kernel_rfl) (by kernel_rfl) (by kernel_rfl) (fun _ _ _ h => h) (Or.inl ⟨by rfl, ?_⟩) (by assumption) ?_
    rotate_left
    · intro W' hSw
      try dsimp only at hSw
      go_simp
      try with_reducible rfl
    try simp only [Act.put, List.setIfInBounds_toArray, List.set_cons_zero, List.set_cons_succ]
    refine wpAnyH_take (i := 6) (oi := ({ dst := some 18, op := Go.Op.move (Go.Operand.tmp 1), type := 29, pos := _, after := #[], guard := none } : Oper)) (v := ?_) rfl (by kernel_rfl) (by kernel_rfl) (by kernel_rfl) (fun _ _ _ h => h) (Or.inl ⟨by rfl, ?_⟩) (by assumption) ?_
    rotate_left
    · intro W' hSw
      try dsimp only at hSw
      go_simp
      try with_reducible rfl
    try simp only [Act.put, List.setIfInBounds_toArray, List.set_cons_zero, List.set_cons_succ]
    refine wpAnyH_take (i := 7) (oi := ({ dst := some 19, op := Go.Op.move (Go.Operand.tmp 6), type := 34, pos := _, after := #[], guard := none } : Oper)) (v := ?_) rfl (by kernel_rfl) (by kernel_rfl) (by kernel_rfl) (fun _ _ _ h => h) (Or.inl ⟨by rfl, ?_⟩) (by assumption) ?_
    rotate_left
    · intro W' hSw
      try dsimp only at hSw
      go_simp
      try with_reducible rfl
    try simp only [Act.put, List.setIfInBounds_toArray, List.set_cons_zero, List.set_cons_succ]
    refine wpAnyH_ready (rs := [1]) (by kernel_rfl) (by simp) ?_
    refine AllReadyH.cons (o := ({ dst := some 13, op := Go.Op.call { callee := Go.Callee.value (Go.Operand.func 25), args := #[Go.Operand.tmp 12], argTypes := #[29] }, type := 36, pos := _, after := #[{ on := 0, ground := Go.Ground.data }], guard := none } : Oper)) rfl (fun K hK => ?_) AllReadyH.nil
    go_simp
    refine (namesOf_any hHeld.2.1 hn16).mono ?_
    rintro e w1 ⟨v1, rfl, hr1, hb1⟩
    go_wp2_with fail
    refine hK.out _ _ ?_ (fun hHeld => ?_)
    · exact ⟨hHeld.1.below hb1, hHeld.2.1.below hb1, hHeld.2.2.below hb1 hHeld.2.2.1⟩
    clear hK K
    try simp only [Act.put, List.setIfInBounds_toArray, List.set_cons_zero, List.set_cons_succ]
    have HR1 := Lib.hid hr1
    have HB1 := Lib.hid hb1
    clear hr1 hb1
    refine wpAnyH_ready (rs := [5]) (by kernel_rfl) (by simp) ?_
    refine AllReadyH.cons (o := ({ dst := some 17, op := Go.Op.call { callee := Go.Callee.value (Go.Operand.func 26), args := #[Go.Operand.tmp 14, Go.Operand.tmp 15, Go.Operand.tmp 16], argTypes := #[51, 29, 34] }, type := 55, pos := _, after := #[{ on := 2, ground := Go.Ground.data }, { on := 3, ground := Go.Ground.data }, { on := 4, ground := Go.Ground.data }, { on := 1, ground := Go.Ground.chain }], guard := none } : Oper)) rfl (fun K hK => ?_) AllReadyH.nil
    go_simp
    refine (HPL.out _ hHeld.2.1 hHeld.2.2).mono ?_
    rintro e w2 ⟨pl, hlay, rfl, hb2⟩
    go_wp2_with fail
    refine hK.out _ _ ?_ (fun hHeld => ?_)
    · exact ⟨hHeld.1.below hb2, hHeld.2.1.below hb2, hHeld.2.2.below hb2 hHeld.2.2.1⟩
    clear hK K
    try simp only [Act.put, List.setIfInBounds_toArray, List.set_cons_zero, List.set_cons_succ]
    have HLAY := Lib.hid hlay
    have HB2 := Lib.hid hb2
    clear hb2 hlay
    refine wpAnyH_ready (rs := [8]) (by kernel_rfl) (by simp) ?_
    refine AllReadyH.cons (o := ({ dst := some 20, op := Go.Op.call { callee := Go.Callee.value (Go.Operand.func 27), args := #[Go.Operand.tmp 18, Go.Operand.tmp 19], argTypes := #[29, 34] }, type := 34, pos := _, after := #[{ on := 6, ground := Go.Ground.data }, { on := 7, ground := Go.Ground.data }, { on := 5, ground := Go.Ground.chain }], guard := none } : Oper)) rfl (fun K hK => ?_) AllReadyH.nil
    go_simp
    refine (HRG.out _ hHeld.2.1 hHeld.2.2).mono ?_
    rintro e w3 ⟨v3, rfl, hr3, hb3⟩
    go_wp2_with fail
    refine hK.out _ _ ?_ (fun hHeld => ?_)
    · exact ⟨hHeld.1.below hb3, hHeld.2.1.below hb3, hHeld.2.2.below hb3 hHeld.2.2.1⟩
    clear hK K
    try simp only [Act.put, List.setIfInBounds_toArray, List.set_cons_zero, List.set_cons_succ]
    have HR3 := Lib.hid hr3
    have HB3 := Lib.hid hb3
    clear hr3 hb3
    obtain ⟨C, hC⟩ : ∃ C, (vals (lab o pl)).toArray = C := ⟨_, rfl⟩
    rw [hC]
    have HC := Lib.hid hC
    have hCs : C.size = 251 := by rw [← hC, List.size_toArray, vals_len, lab_len]; exact (lays_who (by rw [sds_len, HO.out.1]; exact HRT.out.1) HLAY.out).1
    clear hC
    obtain ⟨g1, c1, rfl, hg1c⟩ := row_slice HR1.out hn1
    obtain ⟨g3, c3, rfl, hg3c⟩ := row_slice HR3.out (ring_pos HRT.out HO.out)
    obtain ⟨D, hbuild, hD1, hD2, hD3, hD4⟩ := build_tab hCs (.slice (some ⟨g1, 0, none⟩) n c1) (.slice (some ⟨g3, 0, none⟩) (ring l o).length c3) rfl rfl
    have HD := Lib.hid (And.intro hD1 (And.intro hD2 (And.intro hD3 hD4)))
    clear hD1 hD2 hD3 hD4
    refine wpAnyH_take (i := 9) (oi := ({ dst := some 21, op := Go.Op.build 59 #[(0, Go.Operand.tmp 13), (1, Go.Operand.tmp 17), (2, Go.Operand.tmp 20)], type := 59, pos := _, after := #[{ on := 1, ground := Go.Ground.data }, { on := 5, ground := Go.Ground.data }, { on := 8, ground := Go.Ground.data }], guard := none } : Oper)) (v := ?_) rfl (by kernel_rfl) (by kernel_rfl) (by kernel_rfl) (fun _ _ _ h => h) (Or.inl ⟨by rfl, ?_⟩) (by assumption) ?_
    rotate_left
    · intro W' hSw
      try dsimp only at hSw
      go_simp
      try with_reducible rfl
    try simp only [Act.put, List.setIfInBounds_toArray, List.set_cons_zero, List.set_cons_succ]
    refine wpAnyH_ready (rs := [10]) (by kernel_rfl) (by simp) ?_
    refine AllReadyH.cons (o := ({ dst := some 22, op := Go.Op.box 59 (Go.Operand.tmp 21), type := 25, pos := _, after := #[{ on := 9, ground := Go.Ground.data }], guard := none } : Oper)) rfl (fun K hK => ?_) AllReadyH.nil
    go_simp
    refine hK.out _ _ ?_ (fun hHeld => ?_)
    · exact ⟨hHeld.1.alloc _, hHeld.2.1.below (Below.alloc (Below.refl _ _) (Nat.le_refl _) _), hHeld.2.2.below (Below.alloc (Below.refl _ _) (Nat.le_refl _) _) hHeld.2.2.1⟩
    clear hK K
    try simp only [Act.put, List.setIfInBounds_toArray, List.set_cons_zero, List.set_cons_succ]
    refine wpAnyH_take (i := 11) (oi := ({ dst := some 4, op := Go.Op.assign (Go.Operand.tmp 22), type := 25, pos := _, after := #[{ on := 10, ground := Go.Ground.data }, { on := 8, ground := Go.Ground.chain }, { on := 0, ground := Go.Ground.phase }, { on := 1, ground := Go.Ground.phase }, { on := 2, ground := Go.Ground.phase }, { on := 3, ground := Go.Ground.phase }, { on := 4, ground := Go.Ground.phase }, { on := 5, ground := Go.Ground.phase }, { on := 6, ground := Go.Ground.phase }, { on := 7, ground := Go.Ground.phase }, { on := 8, ground := Go.Ground.phase }, { on := 9, ground := Go.Ground.phase }, { on := 10, ground := Go.Ground.phase }], guard := none } : Oper)) (v := ?_) rfl (by kernel_rfl) (by kernel_rfl) (by kernel_rfl) (fun _ _ _ h => h) (Or.inl ⟨by rfl, ?_⟩) (by assumption) ?_
    rotate_left
    · intro W' hSw
      try dsimp only at hSw
      go_simp
      try with_reducible rfl
    try simp only [Act.put, List.setIfInBounds_toArray, List.set_cons_zero, List.set_cons_succ]
    refine wpAnyH_take (i := 12) (oi := ({ dst := some 5, op := Go.Op.assign (Go.Operand.const (Go.Value.int Go.IntKind.i64 0)), type := 26, pos := _, after := #[{ on := 11, ground := Go.Ground.chain }, { on := 0, ground := Go.Ground.phase }, { on := 1, ground := Go.Ground.phase }, { on := 2, ground := Go.Ground.phase }, { on := 3, ground := Go.Ground.phase }, { on := 4, ground := Go.Ground.phase }, { on := 5, ground := Go.Ground.phase }, { on := 6, ground := Go.Ground.phase }, { on := 7, ground := Go.Ground.phase }, { on := 8, ground := Go.Ground.phase }, { on := 9, ground := Go.Ground.phase }, { on := 10, ground := Go.Ground.phase }, { on := 11, ground := Go.Ground.phase }], guard := none } : Oper)) (v := ?_) rfl (by kernel_rfl) (by kernel_rfl) (by kernel_rfl) (fun _ _ _ h => h) (Or.inl ⟨by rfl, ?_⟩) (by assumption) ?_
    rotate_left
    · intro W' hSw
      try dsimp only at hSw
      go_simp
      try with_reducible rfl
    try simp only [Act.put, List.setIfInBounds_toArray, List.set_cons_zero, List.set_cons_succ]
    refine wpAnyH_done (by kernel_rfl) ?_ _
    go_wp2
    go_ret2
    have hlay := HLAY.out
    have hll : (lab o pl).length = 251 := by rw [lab_len]; exact (lays_who (by rw [sds_len, HO.out.1]; exact HRT.out.1) hlay).1
    have hd := HD.out
    have hr1 := row_below (row_below HR1.out HB2.out) HB3.out
    have hr3 := HR3.out
    have hc1 := hg1c
    rw [HN.out] at hr1 hd hc1
    refine ⟨.inr ⟨HRT.out, w3.heap.size, rfl, o, t, pl, HO.out, HTOP.out, hlay, tab_laid (o := o) hll HC.out hr1 hr3 hc1 hg3c hd⟩, ?_⟩
    have b0 : Below w.heap.size w wo.drew := HBO.out.drew
    have b1 : Below w.heap.size w w1 := b0.trans (HB1.out.mono b0.size)
    have b2 : Below w.heap.size w w2 := b1.trans (HB2.out.mono b1.size)
    have b3 : Below w.heap.size w w3 := b2.trans (HB3.out.mono b2.size)
    exact b3.alloc b3.size _

end Go.Proofs.Ytpkahjflhboddaa
