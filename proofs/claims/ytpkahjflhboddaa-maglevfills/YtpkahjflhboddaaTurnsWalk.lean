/-
  What the function of MaglevTurns does, whatever backends it is given.
-/
import Derived.Test.YtpkahjflhboddaaLaw
import Derived.Deep.RegionHeld3
import Derived.Test.YtpkahjflhboddaaTurnsPre
namespace Go.Proofs.Ytpkahjflhboddaa
open Go.RowKit
set_option linter.unusedVariables false
set_option linter.unusedSimpArgs false
set_option maxRecDepth 10000
attribute [local go_sem ↓] big22


/-- How often each was told so far. -/
def gots (n : Nat) (rg : List Int) (h : Nat) : List Int := (List.range n).map fun i : Nat => (((rg.take h).count (i : Int) : Nat) : Int)
theorem gots_len (n : Nat) (rg : List Int) (h : Nat) : (gots n rg h).length = n := by simp [gots]
theorem gots_at (n : Nat) (rg : List Int) (h : Nat) {{i : Nat}} (hi : i < n) : (gots n rg h)[i]? = some (((rg.take h).count (i : Int) : Nat) : Int) := by
  rw [gots, List.getElem?_map, List.getElem?_range hi]; rfl
theorem gots_zero (n : Nat) (rg : List Int) : gots n rg 0 = List.replicate n 0 := by
  apply List.ext_getElem (by rw [gots_len]; simp)
  intro i h1 h2
  rw [gots_len] at h1
  have := gots_at n rg 0 h1
  rw [List.getElem?_eq_getElem (by rw [gots_len]; exact h1)] at this
  rw [Option.some.inj this]
  simp
theorem gots_next (n : Nat) (rg : List Int) {{h i : Nat}} (hi : i < n) (hh : h < rg.length) (he : rg[h]! = (i : Int)) : (gots n rg h).set i ((((rg.take h).count (i : Int) : Nat) : Int) + 1) = gots n rg (h + 1) := by
  apply List.ext_getElem (by rw [List.length_set, gots_len, gots_len])
  intro q h1 h2
  rw [gots_len] at h2
  have e1 : rg.take (h + 1) = rg.take h ++ [(i : Int)] := by
    rw [List.take_add_one, List.getElem?_eq_getElem hh, ← he, getElem!_pos rg h hh]; rfl
  have a1 := gots_at n rg (h + 1) h2
  rw [List.getElem?_eq_getElem (by rw [gots_len]; exact h2)] at a1
  rw [Option.some.inj a1, e1, List.count_append]
  by_cases e : i = q
  · subst e
    rw [List.getElem_set_self]; simp
  · rw [List.getElem_set_ne e]
    have a2 := gots_at n rg h h2
    rw [List.getElem?_eq_getElem (by rw [gots_len]; exact h2)] at a2
    rw [Option.some.inj a2]
    have : ([(i : Int)]).count (q : Int) = 0 := by
      rw [List.count_eq_zero]; simp; omega
    rw [this]; rfl
theorem made_bools (n : Nat) : madeCells #[Value.bool false] n = (bcs (ups n 0)).toArray := by
  apply Array.ext'
  simp [madeCells, bcs, ups_zero, List.map_replicate]
  apply List.ext_getElem (by simp)
  intro i h1 h2
  simp [Nat.mod_one]
theorem made_ints (n : Nat) : madeCells #[Value.int .i64 0] n = (vals (List.replicate n 0)).toArray := by
  apply Array.ext'
  simp [madeCells, vals, List.map_replicate]
  apply List.ext_getElem (by simp)
  intro i h1 h2
  simp [Nat.mod_one]

set_option maxHeartbeats 8000000 in
theorem turns_walk (k : List Int) (a : Option Addr) (n c : Nat) (l : List Bk) (w : World) (hk : Key k) (hB : Bks w a n c l) (hw : Wide l) : Calls Try.prog 8 #[kv k, .slice a n c] w fun e w' => e = .returned (.bool true) ∧ Below w.heap.size w w' := by
  have HN := Lib.hid hB.1
  obtain ⟨A, hA⟩ : ∃ A, (cel k).toArray = A := ⟨_, rfl⟩
  have hAs : A.size = 16 := by rw [← hA, List.size_toArray, cel_len, hk.1]
  have hkA : kv k = .agg A := by rw [← hA]; rfl
  have HAS := Lib.hid hAs
  have HK := Lib.hid hk
  have HNEW := Lib.hid (fun W a n c (hB : Bks W a n c l) => new_is k hk hw hB)
  rw [hkA] at HNEW ⊢
  have HAL := Lib.hid (fun w => alive_any w)
  have hb0 : Below w.heap.size w (w.alloc (.cells A 22)).drew := ((Below.refl _ _).alloc (Nat.le_refl _) _).drew
  have hA0 : Ar (w.alloc (.cells A 22)) w.heap.size A.toList := by simpa using Ar.new w A.toList 22
  have HLS : Hid (LS w.heap.size A a n c l (w.alloc (.cells A 22)).drew) := Lib.hid ⟨hA0.drew, hB.below hb0⟩
  have HB0 := Lib.hid hb0
  clear hb0 hA0
  clear hk hw hB hA hAs hkA
  go_enter Try.func8, Try.ntmps8
  go_wp2
  refine wp_region_held_drew (S := (fun W => LS w.heap.size A a n c l W)) (by kernel_rfl) HLS.out (fun hHeld => ?_)
  refine wpAnyH_take (i := 0) (oi := ({ dst := some 18, op := Go.Op.load 22 (Go.Operand.tmp 2), type := 22, pos := _, after := #[], guard := none } : Oper)) (v := ?_) rfl (by kernel_rfl) (by kernel_rfl) (by kernel_rfl) (fun _ _ _ h => h) (Or.inl ⟨by rfl, ?_⟩) (by assumption) ?_
  rotate_left
  · intro W' hSw
    try dsimp only at hSw
    have hkey := load_key22 hSw.1 HAS.out
    go_simp
    try with_reducible rfl
  try simp only [Act.put, List.setIfInBounds_toArray, List.set_cons_zero, List.set_cons_succ]
  refine wpAnyH_take (i := 1) (oi := ({ dst := some 19, op := Go.Op.move (Go.Operand.tmp 1), type := 23, pos := _, after := #[], guard := none } : Oper)) (v := ?_) rfl (by kernel_rfl) (by kernel_rfl) (by kernel_rfl) (fun _ _ _ h => h) (Or.inl ⟨by rfl, ?_⟩) (by assumption) ?_
  rotate_left
  · intro W' hSw
    try dsimp only at hSw
    go_simp
    try with_reducible rfl
  try simp only [Act.put, List.setIfInBounds_toArray, List.set_cons_zero, List.set_cons_succ]
  refine wpAnyH_ready (rs := [2]) (by kernel_rfl) (by simp) ?_
  refine AllReadyH.cons (o := ({ dst := some 20, op := Go.Op.call { callee := Go.Callee.value (Go.Operand.func 12), args := #[Go.Operand.tmp 19], argTypes := #[23] }, type := 29, pos := _, after := #[{ on := 1, ground := Go.Ground.data }], guard := none } : Oper)) rfl (fun K hK => ?_) AllReadyH.nil
  go_simp
  refine (own_any hHeld.2).mono ?_
  rintro e v1 ⟨oa1, oc1, rfl, hob1, hb1a⟩
  go_wp2_with fail
  refine hK.out _ _ ?_ (fun hHeld => ?_)
  · exact hHeld.below hb1a
  clear hK K
  try simp only [Act.put, List.setIfInBounds_toArray, List.set_cons_zero, List.set_cons_succ]
  have HOB1 := Lib.hid hob1
  have HBA1 := Lib.hid hb1a
  clear hob1 hb1a
  refine wpAnyH_ready (rs := [3]) (by kernel_rfl) (by simp) ?_
  refine AllReadyH.cons (o := ({ dst := some 21, op := Go.Op.call { callee := Go.Callee.value (Go.Operand.func 11), args := #[Go.Operand.tmp 18, Go.Operand.tmp 20], argTypes := #[51, 29] }, type := 27, pos := _, after := #[{ on := 0, ground := Go.Ground.data }, { on := 2, ground := Go.Ground.data }, { on := 2, ground := Go.Ground.chain }], guard := none } : Oper)) rfl (fun K hK => ?_) AllReadyH.nil
  go_simp
  refine (HNEW.out _ _ _ _ HOB1.out).mono ?_
  rintro e w1 ⟨tv1, ev1, rfl, hni1, hb1b⟩
  go_wp2_with fail
  refine hK.out _ _ ?_ (fun hHeld => ?_)
  · exact hHeld.below hb1b
  clear hK K
  try simp only [Act.put, List.setIfInBounds_toArray, List.set_cons_zero, List.set_cons_succ]
  have HNI1 := Lib.hid hni1
  have HBB1 := Lib.hid (HBA1.out.trans (hb1b.mono HBA1.out.size))
  have HL1 := Lib.hid hHeld
  clear hni1 hb1b
  refine wpAnyH_take (i := 4) (oi := ({ dst := some 17, op := Go.Op.move (Go.Operand.tmp 21), type := 27, pos := _, after := #[{ on := 3, ground := Go.Ground.data }], guard := none } : Oper)) (v := ?_) rfl (by kernel_rfl) (by kernel_rfl) (by kernel_rfl) (fun _ _ _ h => h) (Or.inl ⟨by rfl, ?_⟩) (by assumption) ?_
  rotate_left
  · intro W' hSw
    try dsimp only at hSw
    go_simp
    try with_reducible rfl
  try simp only [Act.put, List.setIfInBounds_toArray, List.set_cons_zero, List.set_cons_succ]
  refine wpAnyH_take (i := 5) (oi := ({ dst := some 22, op := Go.Op.extract (Go.Operand.tmp 17) 0, type := 25, pos := _, after := #[{ on := 4, ground := Go.Ground.data }], guard := none } : Oper)) (v := ?_) rfl (by kernel_rfl) (by kernel_rfl) (by kernel_rfl) (fun _ _ _ h => h) (Or.inl ⟨by rfl, ?_⟩) (by assumption) ?_
  rotate_left
  · intro W' hSw
    try dsimp only at hSw
    go_simp
    try with_reducible rfl
  try simp only [Act.put, List.setIfInBounds_toArray, List.set_cons_zero, List.set_cons_succ]
  refine wpAnyH_take (i := 6) (oi := ({ dst := some 23, op := Go.Op.extract (Go.Operand.tmp 17) 1, type := 26, pos := _, after := #[{ on := 4, ground := Go.Ground.data }, { on := 7, ground := Go.Ground.gcOnly Go.Departure.lateStores }], guard := none } : Oper)) (v := ?_) rfl (by kernel_rfl) (by kernel_rfl) (by kernel_rfl) (fun _ _ _ h => h) (Or.inl ⟨by rfl, ?_⟩) (by assumption) ?_
  rotate_left
  · intro W' hSw
    try dsimp only at hSw
    go_simp
    try with_reducible rfl
  try simp only [Act.put, List.setIfInBounds_toArray, List.set_cons_zero, List.set_cons_succ]
  refine wpAnyH_take (i := 7) (oi := ({ dst := some 5, op := Go.Op.assign (Go.Operand.tmp 22), type := 25, pos := _, after := #[{ on := 5, ground := Go.Ground.data }, { on := 3, ground := Go.Ground.chain }, { on := 0, ground := Go.Ground.phase }, { on := 1, ground := Go.Ground.phase }, { on := 2, ground := Go.Ground.phase }, { on := 3, ground := Go.Ground.phase }, { on := 4, ground := Go.Ground.phase }, { on := 5, ground := Go.Ground.phase }, { on := 6, ground := Go.Ground.textOnly Go.Departure.lateStores }], guard := none } : Oper)) (v := ?_) rfl (by kernel_rfl) (by kernel_rfl) (by kernel_rfl) (fun _ _ _ h => h) (Or.inl ⟨by rfl, ?_⟩) (by assumption) ?_
  rotate_left
  · intro W' hSw
    try dsimp only at hSw
    go_simp
    try with_reducible rfl
  try simp only [Act.put, List.setIfInBounds_toArray, List.set_cons_zero, List.set_cons_succ]
  refine wpAnyH_take (i := 8) (oi := ({ dst := some 6, op := Go.Op.assign (Go.Operand.tmp 23), type := 26, pos := _, after := #[{ on := 6, ground := Go.Ground.data }, { on := 7, ground := Go.Ground.chain }, { on := 0, ground := Go.Ground.phase }, { on := 1, ground := Go.Ground.phase }, { on := 2, ground := Go.Ground.phase }, { on := 3, ground := Go.Ground.phase }, { on := 4, ground := Go.Ground.phase }, { on := 5, ground := Go.Ground.phase }, { on := 6, ground := Go.Ground.phase }, { on := 7, ground := Go.Ground.phase }], guard := none } : Oper)) (v := ?_) rfl (by kernel_rfl) (by kernel_rfl) (by kernel_rfl) (fun _ _ _ h => h) (Or.inl ⟨by rfl, ?_⟩) (by assumption) ?_
  rotate_left
  · intro W' hSw
    try dsimp only at hSw
    go_simp
    try with_reducible rfl
  try simp only [Act.put, List.setIfInBounds_toArray, List.set_cons_zero, List.set_cons_succ]
  refine wpAnyH_done (by kernel_rfl) ?_ _

  have hTot : Hid (Below w.heap.size w w1) := Lib.hid (below_next HB0.out HB0.out.size HBB1.out)
  have hni1 := HNI1.out
  have HBk := Lib.hid HL1.out.2
  clear HNI1 HNEW HOB1 HBA1 hHeld HL1 HLS
  rcases hni1 with ⟨hnr, rfl, rfl⟩ | ⟨hR, tb1, rfl, rfl, o, t, pl, ho, ht, hlay, hT1⟩
  · go_wp2_with (go_at_call 10; refine (HAL.out _).mono ?_; rintro e w3 ⟨rfl, hb3⟩)
    go_ret
    exact ⟨by rfl, below_next hTot.out hTot.out.size hb3⟩
  · have HT1 := Lib.hid hT1
    have hn16 : n ≤ 16 := by rw [HN.out]; exact hR.2.1
    have HIN := Lib.hid (ring_in ho)
    have HCT := Lib.hid (fun i (hi : i < l.length) => ring_count hR ho hi)
    have HALL := Lib.hid (ring_all ho)
    have hle := ring_le hR ho
    have hps := ring_pos hR ho
    have HFIT := Lib.hid hR.2.2.1
    obtain ⟨rg, hrg⟩ : ∃ p, ring l o = p := ⟨_, rfl⟩
    rw [hrg] at HT1 HIN HCT HALL hle hps
    have hmk1 := run_make_row' (P := Try.prog) 42 4 (.bool false) 1 Try.underlying42 info4 rfl .i64 .i64 n (by omega) (by omega)
    have hmk2 := run_make_row' (P := Try.prog) 34 3 (.int .i64 0) 8 Try.underlying34 info3 rfl .i64 .i64 n (by omega) (by omega)
    obtain ⟨MB, hMB⟩ : ∃ M, madeCells #[Value.bool false] n = M := ⟨_, rfl⟩
    obtain ⟨MI, hMI⟩ : ∃ M, madeCells #[Value.int .i64 0] n = M := ⟨_, rfl⟩
    rw [hMB] at hmk1
    rw [hMI] at hmk2
    have HMB : Hid (MB = (bcs (ups n 0)).toArray) := Lib.hid (by rw [← hMB]; exact made_bools n)
    have HMI : Hid (MI = (vals (List.replicate n 0)).toArray) := Lib.hid (by rw [← hMI]; exact made_ints n)
    clear hT1 ho ht hlay hR hrg HB0 HBB1 hMB hMI
    go_wp2
    refine wp_region_held_drew (S := (fun W => Bks W a n c l ∧ Below w1.heap.size w1 W)) (by kernel_rfl) ⟨HBk.out, Below.drew (Below.refl _ _)⟩ (fun hHeld => ?_)
    refine wpAnyH_take (i := 0) (oi := ({ dst := some 31, op := Go.Op.move (Go.Operand.tmp 1), type := 23, pos := _, after := #[], guard := none } : Oper)) (v := ?_) rfl (by kernel_rfl) (by kernel_rfl) (by kernel_rfl) (fun _ _ _ h => h) (Or.inl ⟨by rfl, ?_⟩) (by assumption) ?_
    rotate_left
    · intro W' hSw
      try dsimp only at hSw
      go_simp
      try with_reducible rfl
    try simp only [Act.put, List.setIfInBounds_toArray, List.set_cons_zero, List.set_cons_succ]
    refine wpAnyH_take (i := 1) (oi := ({ dst := some 32, op := Go.Op.call { callee := Go.Callee.builtin Go.Builtin.len, args := #[Go.Operand.tmp 31], argTypes := #[23] }, type := 3, pos := _, after := #[{ on := 0, ground := Go.Ground.data }], guard := none } : Oper)) (v := ?_) rfl (by kernel_rfl) (by kernel_rfl) (by kernel_rfl) (fun _ _ _ h => h) (Or.inl ⟨by rfl, ?_⟩) (by assumption) ?_
    rotate_left
    · intro W' hSw
      try dsimp only at hSw
      go_simp
      try with_reducible rfl
    try simp only [Act.put, List.setIfInBounds_toArray, List.set_cons_zero, List.set_cons_succ]
    refine wpAnyH_take (i := 3) (oi := ({ dst := some 34, op := Go.Op.move (Go.Operand.tmp 1), type := 23, pos := _, after := #[], guard := none } : Oper)) (v := ?_) rfl (by kernel_rfl) (by kernel_rfl) (by kernel_rfl) (fun _ _ _ h => h) (Or.inl ⟨by rfl, ?_⟩) (by assumption) ?_
    rotate_left
    · intro W' hSw
      try dsimp only at hSw
      go_simp
      try with_reducible rfl
    try simp only [Act.put, List.setIfInBounds_toArray, List.set_cons_zero, List.set_cons_succ]
    refine wpAnyH_take (i := 4) (oi := ({ dst := some 35, op := Go.Op.call { callee := Go.Callee.builtin Go.Builtin.len, args := #[Go.Operand.tmp 34], argTypes := #[23] }, type := 3, pos := _, after := #[{ on := 3, ground := Go.Ground.data }], guard := none } : Oper)) (v := ?_) rfl (by kernel_rfl) (by kernel_rfl) (by kernel_rfl) (fun _ _ _ h => h) (Or.inl ⟨by rfl, ?_⟩) (by assumption) ?_
    rotate_left
    · intro W' hSw
      try dsimp only at hSw
      go_simp
      try with_reducible rfl
    try simp only [Act.put, List.setIfInBounds_toArray, List.set_cons_zero, List.set_cons_succ]
    refine wpAnyH_take (i := 6) (oi := ({ dst := some 7, op := Go.Op.assign (Go.Operand.const (Go.Value.int Go.IntKind.i64 0)), type := 3, pos := _, after := #[{ on := 0, ground := Go.Ground.textOnly Go.Departure.lateStores }, { on := 1, ground := Go.Ground.textOnly Go.Departure.lateStoresUnsure }, { on := 2, ground := Go.Ground.textOnly Go.Departure.lateStoresUnsure }, { on := 3, ground := Go.Ground.textOnly Go.Departure.lateStores }, { on := 4, ground := Go.Ground.textOnly Go.Departure.lateStoresUnsure }, { on := 5, ground := Go.Ground.textOnly Go.Departure.lateStoresUnsure }], guard := none } : Oper)) (v := ?_) rfl (by kernel_rfl) (by kernel_rfl) (by kernel_rfl) (fun _ _ _ h => h) (Or.inl ⟨by rfl, ?_⟩) (by assumption) ?_
    rotate_left
    · intro W' hSw
      try dsimp only at hSw
      go_simp
      try with_reducible rfl
    try simp only [Act.put, List.setIfInBounds_toArray, List.set_cons_zero, List.set_cons_succ]
    refine wpAnyH_ready (rs := [2, 5]) (by kernel_rfl) (by simp) ?_
    refine (AllReadyH.cons (o := ({ dst := some 33, op := Go.Op.makeSlice 42 (Go.Operand.tmp 32) (Go.Operand.tmp 32), type := 42, pos := _, after := #[{ on := 1, ground := Go.Ground.data }, { on := 1, ground := Go.Ground.data }], guard := none } : Oper)) rfl (fun K hK => ?_) (AllReadyH.cons (o := ({ dst := some 36, op := Go.Op.makeSlice 34 (Go.Operand.tmp 35) (Go.Operand.tmp 35), type := 34, pos := _, after := #[{ on := 4, ground := Go.Ground.data }, { on := 4, ground := Go.Ground.data }], guard := none } : Oper)) rfl (fun K hK => ?_) AllReadyH.nil))
    · go_simp
      refine hK.out _ _ ?_ (fun hHeld => ?_)
      · exact ⟨hHeld.1.below ((Below.refl _ _).alloc (Nat.le_refl _) _), hHeld.2.alloc hHeld.2.size _⟩
      clear hK K
      try simp only [Act.put, List.setIfInBounds_toArray, List.set_cons_zero, List.set_cons_succ]
      refine wpAnyH_take (i := 7) (oi := ({ dst := some 8, op := Go.Op.assign (Go.Operand.tmp 33), type := 42, pos := _, after := #[{ on := 2, ground := Go.Ground.data }, { on := 6, ground := Go.Ground.chain }, { on := 0, ground := Go.Ground.phase }, { on := 1, ground := Go.Ground.phase }, { on := 2, ground := Go.Ground.phase }, { on := 3, ground := Go.Ground.textOnly Go.Departure.lateStores }, { on := 4, ground := Go.Ground.textOnly Go.Departure.lateStoresUnsure }, { on := 5, ground := Go.Ground.textOnly Go.Departure.lateStoresUnsure }, { on := 6, ground := Go.Ground.phase }], guard := none } : Oper)) (v := ?_) rfl (by kernel_rfl) (by kernel_rfl) (by kernel_rfl) (fun _ _ _ h => h) (Or.inl ⟨by rfl, ?_⟩) (by assumption) ?_
      rotate_left
      · intro W' hSw
        try dsimp only at hSw
        go_simp
        try with_reducible rfl
      try simp only [Act.put, List.setIfInBounds_toArray, List.set_cons_zero, List.set_cons_succ]
      refine wpAnyH_ready (rs := [5]) (by kernel_rfl) (by simp) ?_
      refine AllReadyH.cons (o := ({ dst := some 36, op := Go.Op.makeSlice 34 (Go.Operand.tmp 35) (Go.Operand.tmp 35), type := 34, pos := _, after := #[{ on := 4, ground := Go.Ground.data }, { on := 4, ground := Go.Ground.data }], guard := none } : Oper)) rfl (fun K hK => ?_) AllReadyH.nil
      go_simp
      refine hK.out _ _ ?_ (fun hHeld => ?_)
      · exact ⟨hHeld.1.below ((Below.refl _ _).alloc (Nat.le_refl _) _), hHeld.2.alloc hHeld.2.size _⟩
      clear hK K
      try simp only [Act.put, List.setIfInBounds_toArray, List.set_cons_zero, List.set_cons_succ]
      refine wpAnyH_take (i := 8) (oi := ({ dst := some 9, op := Go.Op.assign (Go.Operand.tmp 36), type := 34, pos := _, after := #[{ on := 5, ground := Go.Ground.data }, { on := 7, ground := Go.Ground.chain }, { on := 0, ground := Go.Ground.phase }, { on := 1, ground := Go.Ground.phase }, { on := 2, ground := Go.Ground.phase }, { on := 3, ground := Go.Ground.phase }, { on := 4, ground := Go.Ground.phase }, { on := 5, ground := Go.Ground.phase }, { on := 6, ground := Go.Ground.phase }, { on := 7, ground := Go.Ground.phase }], guard := none } : Oper)) (v := ?_) rfl (by kernel_rfl) (by kernel_rfl) (by kernel_rfl) (fun _ _ _ h => h) (Or.inl ⟨by rfl, ?_⟩) (by assumption) ?_
      rotate_left
      · intro W' hSw
        try dsimp only at hSw
        go_simp
        try with_reducible rfl
      try simp only [Act.put, List.setIfInBounds_toArray, List.set_cons_zero, List.set_cons_succ]
      refine wpAnyH_done (by kernel_rfl) ?_ _
      have hx : Below w1.heap.size w1 ((w1.alloc (.cells MB 4)).alloc (.cells MI 3)).drew := (((Below.refl _ _).alloc (Nat.le_refl _) _).alloc (by simp) _).drew
      have hu : Ar ((w1.alloc (.cells MB 4)).alloc (.cells MI 3)).drew w1.heap.size (bcs (ups n 0)) := by rw [HMB.out]; exact (Ar.new w1 _ 4).alloc _
      have hg : Ar ((w1.alloc (.cells MB 4)).alloc (.cells MI 3)).drew (w1.heap.size + 1) (vals (List.replicate n 0)) := by
        rw [HMI.out]
        have := Ar.new (w1.alloc (.cells MB 4)) (vals (List.replicate n 0)) 3
        rw [World.size_alloc] at this
        exact this
      have HX : Hid (∃ ub gb, (ub = w1.heap.size ∧ gb = ub + 1) ∧ Below w1.heap.size w1 ((w1.alloc (.cells MB 4)).alloc (.cells MI 3)).drew ∧ Ar ((w1.alloc (.cells MB 4)).alloc (.cells MI 3)).drew ub (bcs (ups n 0)) ∧ Ar ((w1.alloc (.cells MB 4)).alloc (.cells MI 3)).drew gb (vals (List.replicate n 0))) := Lib.hid ⟨w1.heap.size, w1.heap.size + 1, ⟨rfl, rfl⟩, hx, hu, hg⟩
      clear hx hu hg hHeld hmk1 hmk2
      go_wp2
      generalize ((w1.alloc (.cells MB 4)).alloc (.cells MI 3)).drew = W2 at HX ⊢
      obtain ⟨ub, gb, ⟨e1, e2⟩, hx, hu, hg⟩ := HX.out
      rw [← e1, ← e2]
      have hub1 : w1.heap.size ≤ ub := by omega
      have hgb1 : w1.heap.size ≤ gb := by omega
      have hne : ub ≠ gb := by omega
      clear e1 e2
      have HUB := Lib.hid hub1
      have HGB := Lib.hid hgb1
      have HNE := Lib.hid hne
      have hst : Hid (∃ j : Nat, j + n = n ∧ (.int .i64 0 : Value) = .int .i64 j ∧ (.int .i64 0 : Value) = .int .i64 ((rg.countP (inB j) : Nat) : Int) ∧ Ar W2 ub (bcs (ups n j)) ∧ Ar W2 gb (vals (List.replicate n 0)) ∧ Below w1.heap.size w1 W2) := Lib.hid ⟨0, by omega, rfl, by rw [count_none]; rfl, hu, hg, hx⟩
      clear hx hu hg hub1 hgb1 hne HX
      go_loopg [7, 10, 11, 39] n (fun gg s7 _ _ s39 wr => Hid (∃ j : Nat, j + gg = n ∧ s39 = .int .i64 j ∧ s7 = .int .i64 ((rg.countP (inB j) : Nat) : Int) ∧ Ar wr ub (bcs (ups n j)) ∧ Ar wr gb (vals (List.replicate n 0)) ∧ Below w1.heap.size w1 wr))
      case atStart => exact hst
      case round =>
        clear hst
        obtain ⟨j, hj, rfl, rfl, hu, hg, hbr⟩ := hrel.out
        clear hrel
        by_cases hlt : j < n
        · have hltz : (j : Int) < (n : Int) := by omega
          obtain ⟨b, off, rfl, hbb, c0, c1⟩ := bk_at (HBk.out.below hbr) hlt
          have hct := HCT.out j (by rw [← HN.out]; exact hlt)
          have HCN := Lib.hid (count_lt rg j)
          have hq1 := count_le rg j
          have hq2 : rg.count (j : Int) ≤ rg.length := List.count_le_length
          rw [← hct] at c1
          generalize (l[j]!).name = nm at c0
          generalize rg.countP (inB j) = q at HCN hq1 ⊢
          generalize rg.count (j : Int) = q2 at HCN hq2 c1
          have g1 : IntKind.i64.wrap ((q : Int) + (q2 : Int)) = (q : Int) + (q2 : Int) := by rw [IntKind.wrap_i64]; omega
          have hu2 := hu.alloc (.cells #[.string nm, .int .i64 (q2 : Nat)] 39)
          obtain ⟨d0, d1⟩ := ar_bool hu2 (x := j) (by rw [ups_len (by omega)]; exact hlt)
          generalize (ups n j)[j]! = bb at d0
          have hul := hu2.1
          have HU := Lib.hid (ar_puts hu2 (x := j) (by rw [ups_len (by omega)]; exact hlt) true)
          rw [ups_set hlt] at HU
          have HG := Lib.hid ((hg.alloc (.cells #[.string nm, .int .i64 (q2 : Nat)] 39)).other (p := ⟨ub, j, none⟩) (by exact HNE.out) (.bool true))
          have HBR := Lib.hid ((hbr.alloc hbr.size (.cells #[.string nm, .int .i64 (q2 : Nat)] 39)).setCell (p := ⟨ub, j, none⟩) (by exact HUB.out) (.bool true))
          clear hu hg hbr hu2 hct
          go_wp2
          go_roundg (n - (j + 1))
          case measure => omega
          case rel => exact Lib.hid ⟨j + 1, by omega, by go_num, by rw [HCN.out]; go_num, HU.out, HG.out, HBR.out⟩
        · have hltz : ¬ (j : Int) < (n : Int) := by omega
          obtain rfl : j = n := by omega
          have hq := HALL.out
          rw [← HN.out] at hq
          rw [hq]
          obtain ⟨m, hm⟩ : ∃ m, rg.length = m := ⟨_, rfl⟩
          have HM := Lib.hid hm
          rw [hm] at hle hps ⊢
          rw [ups_all] at hu
          have hst2 : Hid (∃ h : Nat, h + m = m ∧ (.int .i64 0 : Value) = .int .i64 h ∧ Ar wr ub (bcs (List.replicate j true)) ∧ Ar wr gb (vals (gots j rg h)) ∧ Below w1.heap.size w1 wr) := Lib.hid ⟨0, by omega, rfl, hu, by rw [gots_zero]; exact hg, hbr⟩
          clear hu hg hbr hq hm
          go_wp2
          go_loopg [12, 13, 14, 53] m (fun gg _ _ _ s53 wr => Hid (∃ h : Nat, h + gg = m ∧ s53 = .int .i64 h ∧ Ar wr ub (bcs (List.replicate j true)) ∧ Ar wr gb (vals (gots j rg h)) ∧ Below w1.heap.size w1 wr))
          case atStart => exact hst2
          case round =>
            clear hst2
            obtain ⟨h, hh, rfl, hu, hg, hbr⟩ := hrel.out
            clear hrel
            by_cases hlt : h < m
            · have hltz : (h : Int) < (m : Int) := by omega
              have hhl : h < rg.length := by rw [HM.out]; exact hlt
              have hin : rg[h]! ∈ rg := by rw [getElem!_pos rg h hhl]; exact List.getElem_mem hhl
              obtain ⟨i, hi, hri⟩ := HIN.out _ hin
              rw [← HN.out] at hi
              have hw := who_all (n := j) (fun x hx => by rw [HN.out]; exact HIN.out x hx) hhl
              have hc := turn_any (uc := j) (h : Int) (HT1.out.below hbr) (bls_of_ar hu (n := j) (by simp)) (by rw [HM.out]; exact hps) (by rw [HM.out]; omega) (fun q hq => by
                obtain ⟨y, _, e⟩ := HIN.out rg[q]! (by rw [getElem!_pos rg q hq]; exact List.getElem_mem hq)
                rw [e]; omega) (by omega) (by omega) (by omega)
              rw [Int.toNat_natCast, Nat.mod_eq_of_lt hhl, hw.1, hw.2, hri] at hc
              have C21 := Lib.hid hc
              have g1 : IntKind.u64.wrap (h : Int) = (h : Int) := by rw [IntKind.wrap_u64]; omega
              have hiz : (i : Int) < (j : Int) := by omega
              obtain ⟨d0, d1⟩ := ar_vals hg (x := i) (y := (((rg.take h).count (i : Int) : Nat) : Int)) (gots_at j rg h hi)
              have hcl : (rg.take h).count (i : Int) ≤ 1600 := Nat.le_trans List.count_le_length (by rw [List.length_take]; omega)
              have HGN := Lib.hid (gots_next j rg (h := h) hi hhl hri)
              have HPUT := Lib.hid (ar_put hg (x := i) (by rw [gots_len]; exact hi) ((((rg.take h).count (i : Int) : Nat) : Int) + 1))
              generalize (rg.take h).count (i : Int) = z at d0 hcl HGN HPUT
              have hgl := hg.1
              have HU := Lib.hid (hu.other (p := ⟨gb, i, none⟩) (by exact fun e => HNE.out e.symm) (.int .i64 ((z : Int) + 1)))
              have HBR := Lib.hid (hbr.setCell (p := ⟨gb, i, none⟩) (by exact HGB.out) (.int .i64 ((z : Int) + 1)))
              clear hu hg hbr hc hw hin
              go_wp2_with fail
              refine C21.out.mono ?_
              rintro e w3 ⟨rfl, rfl⟩
              go_wp2
              go_roundg (m - (h + 1))
              case measure => omega
              case rel =>
                refine Lib.hid ⟨h + 1, by omega, by go_num, HU.out, ?_, HBR.out⟩
                rw [← HGN.out]; exact HPUT.out
            · have hltz : ¬ (h : Int) < (m : Int) := by omega
              obtain rfl : h = m := by omega
              have hst3 : Hid (∃ i : Nat, i + j = j ∧ (.int .i64 0 : Value) = .int .i64 i ∧ Ar wr gb (vals (gots j rg h)) ∧ Below w1.heap.size w1 wr) := Lib.hid ⟨0, by omega, rfl, hg, hbr⟩
              clear hu hg hbr
              go_wp2
              go_loopg [15, 16, 85] j (fun gg _ _ s85 wr => Hid (∃ i : Nat, i + gg = j ∧ s85 = .int .i64 i ∧ Ar wr gb (vals (gots j rg h)) ∧ Below w1.heap.size w1 wr))
              case atStart => exact hst3
              case round =>
                clear hst3
                obtain ⟨i, hi, rfl, hg, hbr⟩ := hrel.out
                clear hrel
                by_cases hlt3 : i < j
                · have hltz3 : (i : Int) < (j : Int) := by omega
                  obtain ⟨b, off, rfl, hbb, c0, c1⟩ := bk_at (HBk.out.below hbr) hlt3
                  have hct := HCT.out i (by rw [← HN.out]; exact hlt3)
                  rw [← hct] at c1
                  generalize (l[i]!).name = nm at c0
                  have hga := gots_at j rg h hlt3
                  rw [show rg.take h = rg by rw [← HM.out]; exact List.take_length] at hga
                  generalize rg.count (i : Int) = q2 at c1 hga
                  have hg2 := hg.alloc (.cells #[.string nm, .int .i64 (q2 : Nat)] 39)
                  obtain ⟨d0, d1⟩ := ar_vals hg2 (x := i) (y := (q2 : Int)) hga
                  have d2 : (wr.alloc (.cells #[.string nm, .int .i64 (q2 : Nat)] 39)).cell? ⟨wr.heap.size, 1, none⟩ = some (.int .i64 (q2 : Nat)) := by simp [go_sem]
                  have HG := Lib.hid hg2
                  have HBR := Lib.hid (hbr.alloc hbr.size (.cells #[.string nm, .int .i64 (q2 : Nat)] 39))
                  clear hg hbr hg2 hct hga
                  go_wp2
                  generalize wr.alloc (.cells #[.string nm, .int .i64 (q2 : Nat)] 39) = W5 at HG HBR d0 d1 d2 ⊢
                  refine wp_region_tail 6 (by kernel_rfl) (by kernel_rfl) ?_
                  simp only [List.take_succ_cons, List.take_zero, List.drop_succ_cons, List.drop_zero]
                  repeat (first | still_step)
                  refine wpStill_nil ?_
                  go_wp2
                  go_roundg (j - (i + 1))
                  case measure => omega
                  case rel => exact Lib.hid ⟨i + 1, by omega, by go_num, HG.out, HBR.out.drew⟩
                · have hltz3 : ¬ (i : Int) < (j : Int) := by omega
                  have HBR := Lib.hid (below_next hTot.out hTot.out.size hbr)
                  clear hg hbr
                  go_wp2_with (go_at_call 10; refine (HAL.out _).mono ?_; rintro e w3 ⟨rfl, hb3⟩)
                  go_ret
                  exact ⟨by rfl, below_next HBR.out HBR.out.size hb3⟩
    · go_simp
      refine hK.out _ _ ?_ (fun hHeld => ?_)
      · exact ⟨hHeld.1.below ((Below.refl _ _).alloc (Nat.le_refl _) _), hHeld.2.alloc hHeld.2.size _⟩
      clear hK K
      try simp only [Act.put, List.setIfInBounds_toArray, List.set_cons_zero, List.set_cons_succ]
      refine wpAnyH_ready (rs := [2]) (by kernel_rfl) (by simp) ?_
      refine AllReadyH.cons (o := ({ dst := some 33, op := Go.Op.makeSlice 42 (Go.Operand.tmp 32) (Go.Operand.tmp 32), type := 42, pos := _, after := #[{ on := 1, ground := Go.Ground.data }, { on := 1, ground := Go.Ground.data }], guard := none } : Oper)) rfl (fun K hK => ?_) AllReadyH.nil
      go_simp
      refine hK.out _ _ ?_ (fun hHeld => ?_)
      · exact ⟨hHeld.1.below ((Below.refl _ _).alloc (Nat.le_refl _) _), hHeld.2.alloc hHeld.2.size _⟩
      clear hK K
      try simp only [Act.put, List.setIfInBounds_toArray, List.set_cons_zero, List.set_cons_succ]
      refine wpAnyH_take (i := 7) (oi := ({ dst := some 8, op := Go.Op.assign (Go.Operand.tmp 33), type := 42, pos := _, after := #[{ on := 2, ground := Go.Ground.data }, { on := 6, ground := Go.Ground.chain }, { on := 0, ground := Go.Ground.phase }, { on := 1, ground := Go.Ground.phase }, { on := 2, ground := Go.Ground.phase }, { on := 3, ground := Go.Ground.textOnly Go.Departure.lateStores }, { on := 4, ground := Go.Ground.textOnly Go.Departure.lateStoresUnsure }, { on := 5, ground := Go.Ground.textOnly Go.Departure.lateStoresUnsure }, { on := 6, ground := Go.Ground.phase }], guard := none } : Oper)) (v := ?_) rfl (by kernel_rfl) (by kernel_rfl) (by kernel_rfl) (fun _ _ _ h => h) (Or.inl ⟨by rfl, ?_⟩) (by assumption) ?_
      rotate_left
      · intro W' hSw
        try dsimp only at hSw
        go_simp
        try with_reducible rfl
      try simp only [Act.put, List.setIfInBounds_toArray, List.set_cons_zero, List.set_cons_succ]
      refine wpAnyH_take (i := 8) (oi := ({ dst := some 9, op := Go.Op.assign (Go.Operand.tmp 36), type := 34, pos := _, after := #[{ on := 5, ground := Go.Ground.data }, { on := 7, ground := Go.Ground.chain }, { on := 0, ground := Go.Ground.phase }, { on := 1, ground := Go.Ground.phase }, { on := 2, ground := Go.Ground.phase }, { on := 3, ground := Go.Ground.phase }, { on := 4, ground := Go.Ground.phase }, { on := 5, ground := Go.Ground.phase }, { on := 6, ground := Go.Ground.phase }, { on := 7, ground := Go.Ground.phase }], guard := none } : Oper)) (v := ?_) rfl (by kernel_rfl) (by kernel_rfl) (by kernel_rfl) (fun _ _ _ h => h) (Or.inl ⟨by rfl, ?_⟩) (by assumption) ?_
      rotate_left
      · intro W' hSw
        try dsimp only at hSw
        go_simp
        try with_reducible rfl
      try simp only [Act.put, List.setIfInBounds_toArray, List.set_cons_zero, List.set_cons_succ]
      refine wpAnyH_done (by kernel_rfl) ?_ _
      have hx : Below w1.heap.size w1 ((w1.alloc (.cells MI 3)).alloc (.cells MB 4)).drew := (((Below.refl _ _).alloc (Nat.le_refl _) _).alloc (by simp) _).drew
      have hg : Ar ((w1.alloc (.cells MI 3)).alloc (.cells MB 4)).drew w1.heap.size (vals (List.replicate n 0)) := by rw [HMI.out]; exact (Ar.new w1 _ 3).alloc _
      have hu : Ar ((w1.alloc (.cells MI 3)).alloc (.cells MB 4)).drew (w1.heap.size + 1) (bcs (ups n 0)) := by
        rw [HMB.out]
        have := Ar.new (w1.alloc (.cells MI 3)) (bcs (ups n 0)) 4
        rw [World.size_alloc] at this
        exact this
      have HX : Hid (∃ ub gb, (gb = w1.heap.size ∧ ub = gb + 1) ∧ Below w1.heap.size w1 ((w1.alloc (.cells MI 3)).alloc (.cells MB 4)).drew ∧ Ar ((w1.alloc (.cells MI 3)).alloc (.cells MB 4)).drew ub (bcs (ups n 0)) ∧ Ar ((w1.alloc (.cells MI 3)).alloc (.cells MB 4)).drew gb (vals (List.replicate n 0))) := Lib.hid ⟨w1.heap.size + 1, w1.heap.size, ⟨rfl, rfl⟩, hx, hu, hg⟩
      clear hx hu hg hHeld hmk1 hmk2
      go_wp2
      generalize ((w1.alloc (.cells MI 3)).alloc (.cells MB 4)).drew = W2 at HX ⊢
      obtain ⟨ub, gb, ⟨e1, e2⟩, hx, hu, hg⟩ := HX.out
      rw [← e1, ← e2]
      have hub1 : w1.heap.size ≤ ub := by omega
      have hgb1 : w1.heap.size ≤ gb := by omega
      have hne : ub ≠ gb := by omega
      clear e1 e2
      have HUB := Lib.hid hub1
      have HGB := Lib.hid hgb1
      have HNE := Lib.hid hne
      have hst : Hid (∃ j : Nat, j + n = n ∧ (.int .i64 0 : Value) = .int .i64 j ∧ (.int .i64 0 : Value) = .int .i64 ((rg.countP (inB j) : Nat) : Int) ∧ Ar W2 ub (bcs (ups n j)) ∧ Ar W2 gb (vals (List.replicate n 0)) ∧ Below w1.heap.size w1 W2) := Lib.hid ⟨0, by omega, rfl, by rw [count_none]; rfl, hu, hg, hx⟩
      clear hx hu hg hub1 hgb1 hne HX
      go_loopg [7, 10, 11, 39] n (fun gg s7 _ _ s39 wr => Hid (∃ j : Nat, j + gg = n ∧ s39 = .int .i64 j ∧ s7 = .int .i64 ((rg.countP (inB j) : Nat) : Int) ∧ Ar wr ub (bcs (ups n j)) ∧ Ar wr gb (vals (List.replicate n 0)) ∧ Below w1.heap.size w1 wr))
      case atStart => exact hst
      case round =>
        clear hst
        obtain ⟨j, hj, rfl, rfl, hu, hg, hbr⟩ := hrel.out
        clear hrel
        by_cases hlt : j < n
        · have hltz : (j : Int) < (n : Int) := by omega
          obtain ⟨b, off, rfl, hbb, c0, c1⟩ := bk_at (HBk.out.below hbr) hlt
          have hct := HCT.out j (by rw [← HN.out]; exact hlt)
          have HCN := Lib.hid (count_lt rg j)
          have hq1 := count_le rg j
          have hq2 : rg.count (j : Int) ≤ rg.length := List.count_le_length
          rw [← hct] at c1
          generalize (l[j]!).name = nm at c0
          generalize rg.countP (inB j) = q at HCN hq1 ⊢
          generalize rg.count (j : Int) = q2 at HCN hq2 c1
          have g1 : IntKind.i64.wrap ((q : Int) + (q2 : Int)) = (q : Int) + (q2 : Int) := by rw [IntKind.wrap_i64]; omega
          have hu2 := hu.alloc (.cells #[.string nm, .int .i64 (q2 : Nat)] 39)
          obtain ⟨d0, d1⟩ := ar_bool hu2 (x := j) (by rw [ups_len (by omega)]; exact hlt)
          generalize (ups n j)[j]! = bb at d0
          have hul := hu2.1
          have HU := Lib.hid (ar_puts hu2 (x := j) (by rw [ups_len (by omega)]; exact hlt) true)
          rw [ups_set hlt] at HU
          have HG := Lib.hid ((hg.alloc (.cells #[.string nm, .int .i64 (q2 : Nat)] 39)).other (p := ⟨ub, j, none⟩) (by exact HNE.out) (.bool true))
          have HBR := Lib.hid ((hbr.alloc hbr.size (.cells #[.string nm, .int .i64 (q2 : Nat)] 39)).setCell (p := ⟨ub, j, none⟩) (by exact HUB.out) (.bool true))
          clear hu hg hbr hu2 hct
          go_wp2
          go_roundg (n - (j + 1))
          case measure => omega
          case rel => exact Lib.hid ⟨j + 1, by omega, by go_num, by rw [HCN.out]; go_num, HU.out, HG.out, HBR.out⟩
        · have hltz : ¬ (j : Int) < (n : Int) := by omega
          obtain rfl : j = n := by omega
          have hq := HALL.out
          rw [← HN.out] at hq
          rw [hq]
          obtain ⟨m, hm⟩ : ∃ m, rg.length = m := ⟨_, rfl⟩
          have HM := Lib.hid hm
          rw [hm] at hle hps ⊢
          rw [ups_all] at hu
          have hst2 : Hid (∃ h : Nat, h + m = m ∧ (.int .i64 0 : Value) = .int .i64 h ∧ Ar wr ub (bcs (List.replicate j true)) ∧ Ar wr gb (vals (gots j rg h)) ∧ Below w1.heap.size w1 wr) := Lib.hid ⟨0, by omega, rfl, hu, by rw [gots_zero]; exact hg, hbr⟩
          clear hu hg hbr hq hm
          go_wp2
          go_loopg [12, 13, 14, 53] m (fun gg _ _ _ s53 wr => Hid (∃ h : Nat, h + gg = m ∧ s53 = .int .i64 h ∧ Ar wr ub (bcs (List.replicate j true)) ∧ Ar wr gb (vals (gots j rg h)) ∧ Below w1.heap.size w1 wr))
          case atStart => exact hst2
          case round =>
            clear hst2
            obtain ⟨h, hh, rfl, hu, hg, hbr⟩ := hrel.out
            clear hrel
            by_cases hlt : h < m
            · have hltz : (h : Int) < (m : Int) := by omega
              have hhl : h < rg.length := by rw [HM.out]; exact hlt
              have hin : rg[h]! ∈ rg := by rw [getElem!_pos rg h hhl]; exact List.getElem_mem hhl
              obtain ⟨i, hi, hri⟩ := HIN.out _ hin
              rw [← HN.out] at hi
              have hw := who_all (n := j) (fun x hx => by rw [HN.out]; exact HIN.out x hx) hhl
              have hc := turn_any (uc := j) (h : Int) (HT1.out.below hbr) (bls_of_ar hu (n := j) (by simp)) (by rw [HM.out]; exact hps) (by rw [HM.out]; omega) (fun q hq => by
                obtain ⟨y, _, e⟩ := HIN.out rg[q]! (by rw [getElem!_pos rg q hq]; exact List.getElem_mem hq)
                rw [e]; omega) (by omega) (by omega) (by omega)
              rw [Int.toNat_natCast, Nat.mod_eq_of_lt hhl, hw.1, hw.2, hri] at hc
              have C21 := Lib.hid hc
              have g1 : IntKind.u64.wrap (h : Int) = (h : Int) := by rw [IntKind.wrap_u64]; omega
              have hiz : (i : Int) < (j : Int) := by omega
              obtain ⟨d0, d1⟩ := ar_vals hg (x := i) (y := (((rg.take h).count (i : Int) : Nat) : Int)) (gots_at j rg h hi)
              have hcl : (rg.take h).count (i : Int) ≤ 1600 := Nat.le_trans List.count_le_length (by rw [List.length_take]; omega)
              have HGN := Lib.hid (gots_next j rg (h := h) hi hhl hri)
              have HPUT := Lib.hid (ar_put hg (x := i) (by rw [gots_len]; exact hi) ((((rg.take h).count (i : Int) : Nat) : Int) + 1))
              generalize (rg.take h).count (i : Int) = z at d0 hcl HGN HPUT
              have hgl := hg.1
              have HU := Lib.hid (hu.other (p := ⟨gb, i, none⟩) (by exact fun e => HNE.out e.symm) (.int .i64 ((z : Int) + 1)))
              have HBR := Lib.hid (hbr.setCell (p := ⟨gb, i, none⟩) (by exact HGB.out) (.int .i64 ((z : Int) + 1)))
              clear hu hg hbr hc hw hin
              go_wp2_with fail
              refine C21.out.mono ?_
              rintro e w3 ⟨rfl, rfl⟩
              go_wp2
              go_roundg (m - (h + 1))
              case measure => omega
              case rel =>
                refine Lib.hid ⟨h + 1, by omega, by go_num, HU.out, ?_, HBR.out⟩
                rw [← HGN.out]; exact HPUT.out
            · have hltz : ¬ (h : Int) < (m : Int) := by omega
              obtain rfl : h = m := by omega
              have hst3 : Hid (∃ i : Nat, i + j = j ∧ (.int .i64 0 : Value) = .int .i64 i ∧ Ar wr gb (vals (gots j rg h)) ∧ Below w1.heap.size w1 wr) := Lib.hid ⟨0, by omega, rfl, hg, hbr⟩
              clear hu hg hbr
              go_wp2
              go_loopg [15, 16, 85] j (fun gg _ _ s85 wr => Hid (∃ i : Nat, i + gg = j ∧ s85 = .int .i64 i ∧ Ar wr gb (vals (gots j rg h)) ∧ Below w1.heap.size w1 wr))
              case atStart => exact hst3
              case round =>
                clear hst3
                obtain ⟨i, hi, rfl, hg, hbr⟩ := hrel.out
                clear hrel
                by_cases hlt3 : i < j
                · have hltz3 : (i : Int) < (j : Int) := by omega
                  obtain ⟨b, off, rfl, hbb, c0, c1⟩ := bk_at (HBk.out.below hbr) hlt3
                  have hct := HCT.out i (by rw [← HN.out]; exact hlt3)
                  rw [← hct] at c1
                  generalize (l[i]!).name = nm at c0
                  have hga := gots_at j rg h hlt3
                  rw [show rg.take h = rg by rw [← HM.out]; exact List.take_length] at hga
                  generalize rg.count (i : Int) = q2 at c1 hga
                  have hg2 := hg.alloc (.cells #[.string nm, .int .i64 (q2 : Nat)] 39)
                  obtain ⟨d0, d1⟩ := ar_vals hg2 (x := i) (y := (q2 : Int)) hga
                  have d2 : (wr.alloc (.cells #[.string nm, .int .i64 (q2 : Nat)] 39)).cell? ⟨wr.heap.size, 1, none⟩ = some (.int .i64 (q2 : Nat)) := by simp [go_sem]
                  have HG := Lib.hid hg2
                  have HBR := Lib.hid (hbr.alloc hbr.size (.cells #[.string nm, .int .i64 (q2 : Nat)] 39))
                  clear hg hbr hg2 hct hga
                  go_wp2
                  generalize wr.alloc (.cells #[.string nm, .int .i64 (q2 : Nat)] 39) = W5 at HG HBR d0 d1 d2 ⊢
                  refine wp_region_tail 6 (by kernel_rfl) (by kernel_rfl) ?_
                  simp only [List.take_succ_cons, List.take_zero, List.drop_succ_cons, List.drop_zero]
                  repeat (first | still_step)
                  refine wpStill_nil ?_
                  go_wp2
                  go_roundg (j - (i + 1))
                  case measure => omega
                  case rel => exact Lib.hid ⟨i + 1, by omega, by go_num, HG.out, HBR.out.drew⟩
                · have hltz3 : ¬ (i : Int) < (j : Int) := by omega
                  have HBR := Lib.hid (below_next hTot.out hTot.out.size hbr)
                  clear hg hbr
                  go_wp2_with (go_at_call 10; refine (HAL.out _).mono ?_; rintro e w3 ⟨rfl, hb3⟩)
                  go_ret
                  exact ⟨by rfl, below_next HBR.out HBR.out.size hb3⟩


end Go.Proofs.Ytpkahjflhboddaa
