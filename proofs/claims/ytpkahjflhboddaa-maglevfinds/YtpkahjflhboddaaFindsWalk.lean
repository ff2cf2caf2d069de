/-
  What the function of MaglevFinds does, whatever backends and question it is given.
-/
import Derived.Test.YtpkahjflhboddaaLaw
import Derived.Deep.RegionHeld3
import Derived.Test.YtpkahjflhboddaaRplaces
import Derived.Test.YtpkahjflhboddaaTurnsPre
namespace Go.Proofs.Ytpkahjflhboddaa
open Go.RowKit
set_option linter.unusedVariables false
set_option linter.unusedSimpArgs false
set_option maxRecDepth 10000
attribute [local go_sem ↓] big22


set_option maxHeartbeats 8000000 in
theorem finds_walk (k : List Int) (a : Option Addr) (n c : Nat) (l : List Bk) (x : Int) (ua : Option Addr) (un uc : Nat) (up : List Bool) (w : World) (hk : Key k) (hB : Bks w a n c l) (hw : Wide l) (hU : Bls w ua un uc up) (hun : un ≤ 140737488351232) (hx0 : 0 ≤ x) (hx1 : x ≤ 18446744073709551615) :
    Calls Try.prog 4 #[kv k, .slice a n c, .agg #[.int .u64 x, .slice ua un uc]] w fun e w' => e = .returned (.bool true) ∧ Below w.heap.size w w' := by
  have HN := Lib.hid hB.1
  have HWD := Lib.hid hw
  obtain ⟨A, hA⟩ : ∃ A, (cel k).toArray = A := ⟨_, rfl⟩
  have hAs : A.size = 16 := by rw [← hA, List.size_toArray, cel_len, hk.1]
  have hkA : kv k = .agg A := by rw [← hA]; rfl
  have HAS := Lib.hid hAs
  have HK := Lib.hid hk
  have HNEW := Lib.hid (fun W a n c (hB : Bks W a n c l) => new_is k hk hw hB)
  rw [hkA] at HNEW ⊢
  have HAL := Lib.hid (fun w => alive_any w)
  have HKA := Lib.hid hkA
  have hb0 : Below w.heap.size w ((w.alloc (.cells A 22)).alloc (.cells #[.int .u64 x, .slice ua un uc] 44)).drew := (((Below.refl _ _).alloc (Nat.le_refl _) _).alloc (by simp) _).drew
  have hA0 : Ar (w.alloc (.cells A 22)) w.heap.size A.toList := by simpa using Ar.new w A.toList 22
  have hQ0 : Ar ((w.alloc (.cells A 22)).alloc (.cells #[.int .u64 x, .slice ua un uc] 44)) (w.heap.size + 1) [.int .u64 x, .slice ua un uc] := by simpa using Ar.new (w.alloc (.cells A 22)) [.int .u64 x, .slice ua un uc] 44
  have HLS : Hid (LQ w.heap.size (w.heap.size + 1) A a n c l x ua un uc up ((w.alloc (.cells A 22)).alloc (.cells #[.int .u64 x, .slice ua un uc] 44)).drew) := Lib.hid ⟨(hA0.alloc _).drew, hB.below hb0, hU.below hb0, hQ0.1, hQ0.drew.cell 0 rfl, hQ0.drew.cell 1 rfl⟩
  have HB0 := Lib.hid hb0
  clear hb0 hA0 hQ0
  clear hk hw hB hA hAs hkA
  go_enter Try.func4, Try.ntmps4
  go_wp2
  refine wp_region_held_drew (S := (fun W => LQ w.heap.size (w.heap.size + 1) A a n c l x ua un uc up W)) (by kernel_rfl) HLS.out (fun hHeld => ?_)
  refine wpAnyH_take (i := 0) (oi := ({ dst := some 18, op := Go.Op.load 22 (Go.Operand.tmp 3), type := 22, pos := _, after := #[], guard := none } : Oper)) (v := ?_) rfl (by kernel_rfl) (by kernel_rfl) (by kernel_rfl) (fun _ _ _ h => h) (Or.inl ⟨by rfl, ?_⟩) (by assumption) ?_
  rotate_left
  · intro W' hSw
    try dsimp only at hSw
    have hkey := load_key22 hSw.1 HAS.out
    go_simp
    try with_reducible rfl
  try simp only [Act.put, List.setIfInBounds_toArray, List.set_cons_zero, List.set_cons_succ]
  refine wpAnyH_take (i := 1) (oi := ({ dst := some 19, op := Go.Op.move (Go.Operand.tmp 1), type := 23, pos := _, after := #[], guard := none } : Oper)) (v := ?_) rfl (by kernel_rfl) (by kernel_rfl) (by kernel_rfl) (fun _ _ _ h => h) (Or.inl ⟨by rfl, ?_⟩) (by assumption) ?_
  rotate_left
  · intro W' hSw
    try dsimp only at hSw
    go_simp
    try with_reducible rfl
  try simp only [Act.put, List.setIfInBounds_toArray, List.set_cons_zero, List.set_cons_succ]
  refine wpAnyH_ready (rs := [2]) (by kernel_rfl) (by simp) ?_
  refine AllReadyH.cons (o := ({ dst := some 20, op := Go.Op.call { callee := Go.Callee.value (Go.Operand.func 12), args := #[Go.Operand.tmp 19], argTypes := #[23] }, type := 29, pos := _, after := #[{ on := 1, ground := Go.Ground.data }], guard := none } : Oper)) rfl (fun K hK => ?_) AllReadyH.nil
  go_simp
  refine (own_any hHeld.2.1).mono ?_
  rintro e v1 ⟨oa1, oc1, rfl, hob1, hb1a⟩
  go_wp2_with fail
  refine hK.out _ _ ?_ (fun hHeld => ?_)
  · exact hHeld.below hb1a
  clear hK K
  try simp only [Act.put, List.setIfInBounds_toArray, List.set_cons_zero, List.set_cons_succ]
  have HOB1 := Lib.hid hob1
  have HBA1 := Lib.hid hb1a
  clear hob1 hb1a
  refine wpAnyH_ready (rs := [3]) (by kernel_rfl) (by simp) ?_
  refine AllReadyH.cons (o := ({ dst := some 21, op := Go.Op.call { callee := Go.Callee.value (Go.Operand.func 11), args := #[Go.Operand.tmp 18, Go.Operand.tmp 20], argTypes := #[51, 29] }, type := 27, pos := _, after := #[{ on := 0, ground := Go.Ground.data }, { on := 2, ground := Go.Ground.data }, { on := 2, ground := Go.Ground.chain }], guard := none } : Oper)) rfl (fun K hK => ?_) AllReadyH.nil
  go_simp
  refine (HNEW.out _ _ _ _ HOB1.out).mono ?_
  rintro e w1 ⟨tv1, ev1, rfl, hni1, hb1b⟩
  go_wp2_with fail
  refine hK.out _ _ ?_ (fun hHeld => ?_)
  · exact hHeld.below hb1b
  clear hK K
  try simp only [Act.put, List.setIfInBounds_toArray, List.set_cons_zero, List.set_cons_succ]
  have HNI1 := Lib.hid hni1
  have HBB1 := Lib.hid (HBA1.out.trans (hb1b.mono HBA1.out.size))
  have HL1 := Lib.hid hHeld
  clear hni1 hb1b
  refine wpAnyH_take (i := 4) (oi := ({ dst := some 17, op := Go.Op.move (Go.Operand.tmp 21), type := 27, pos := _, after := #[{ on := 3, ground := Go.Ground.data }], guard := none } : Oper)) (v := ?_) rfl (by kernel_rfl) (by kernel_rfl) (by kernel_rfl) (fun _ _ _ h => h) (Or.inl ⟨by rfl, ?_⟩) (by assumption) ?_
  rotate_left
  · intro W' hSw
    try dsimp only at hSw
    go_simp
    try with_reducible rfl
  try simp only [Act.put, List.setIfInBounds_toArray, List.set_cons_zero, List.set_cons_succ]
  refine wpAnyH_take (i := 5) (oi := ({ dst := some 22, op := Go.Op.extract (Go.Operand.tmp 17) 0, type := 25, pos := _, after := #[{ on := 4, ground := Go.Ground.data }], guard := none } : Oper)) (v := ?_) rfl (by kernel_rfl) (by kernel_rfl) (by kernel_rfl) (fun _ _ _ h => h) (Or.inl ⟨by rfl, ?_⟩) (by assumption) ?_
  rotate_left
  · intro W' hSw
    try dsimp only at hSw
    go_simp
    try with_reducible rfl
  try simp only [Act.put, List.setIfInBounds_toArray, List.set_cons_zero, List.set_cons_succ]
  refine wpAnyH_take (i := 6) (oi := ({ dst := some 23, op := Go.Op.extract (Go.Operand.tmp 17) 1, type := 26, pos := _, after := #[{ on := 4, ground := Go.Ground.data }, { on := 7, ground := Go.Ground.gcOnly Go.Departure.lateStores }], guard := none } : Oper)) (v := ?_) rfl (by kernel_rfl) (by kernel_rfl) (by kernel_rfl) (fun _ _ _ h => h) (Or.inl ⟨by rfl, ?_⟩) (by assumption) ?_
  rotate_left
  · intro W' hSw
    try dsimp only at hSw
    go_simp
    try with_reducible rfl
  try simp only [Act.put, List.setIfInBounds_toArray, List.set_cons_zero, List.set_cons_succ]
  refine wpAnyH_take (i := 7) (oi := ({ dst := some 7, op := Go.Op.assign (Go.Operand.tmp 22), type := 25, pos := _, after := #[{ on := 5, ground := Go.Ground.data }, { on := 3, ground := Go.Ground.chain }, { on := 0, ground := Go.Ground.phase }, { on := 1, ground := Go.Ground.phase }, { on := 2, ground := Go.Ground.phase }, { on := 3, ground := Go.Ground.phase }, { on := 4, ground := Go.Ground.phase }, { on := 5, ground := Go.Ground.phase }, { on := 6, ground := Go.Ground.textOnly Go.Departure.lateStores }], guard := none } : Oper)) (v := ?_) rfl (by kernel_rfl) (by kernel_rfl) (by kernel_rfl) (fun _ _ _ h => h) (Or.inl ⟨by rfl, ?_⟩) (by assumption) ?_
  rotate_left
  · intro W' hSw
    try dsimp only at hSw
    go_simp
    try with_reducible rfl
  try simp only [Act.put, List.setIfInBounds_toArray, List.set_cons_zero, List.set_cons_succ]
  refine wpAnyH_take (i := 8) (oi := ({ dst := some 8, op := Go.Op.assign (Go.Operand.tmp 23), type := 26, pos := _, after := #[{ on := 6, ground := Go.Ground.data }, { on := 7, ground := Go.Ground.chain }, { on := 0, ground := Go.Ground.phase }, { on := 1, ground := Go.Ground.phase }, { on := 2, ground := Go.Ground.phase }, { on := 3, ground := Go.Ground.phase }, { on := 4, ground := Go.Ground.phase }, { on := 5, ground := Go.Ground.phase }, { on := 6, ground := Go.Ground.phase }, { on := 7, ground := Go.Ground.phase }], guard := none } : Oper)) (v := ?_) rfl (by kernel_rfl) (by kernel_rfl) (by kernel_rfl) (fun _ _ _ h => h) (Or.inl ⟨by rfl, ?_⟩) (by assumption) ?_
  rotate_left
  · intro W' hSw
    try dsimp only at hSw
    go_simp
    try with_reducible rfl
  try simp only [Act.put, List.setIfInBounds_toArray, List.set_cons_zero, List.set_cons_succ]
  refine wpAnyH_done (by kernel_rfl) ?_ _

  have hTot : Hid (Below w.heap.size w w1) := Lib.hid (below_next HB0.out HB0.out.size HBB1.out)
  have hni1 := HNI1.out
  have HQ := Lib.hid HL1.out
  clear HNI1 HNEW HOB1 HBA1 hHeld hU HL1 HLS
  rcases hni1 with ⟨hnr, rfl, rfl⟩ | ⟨hR, tb1, rfl, rfl, o, t, pl, ho, ht, hlay, hT1⟩
  · have HNR := Lib.hid hnr
    clear hnr
    go_wp2_with fail
    refine (HAL.out _).mono ?_
    rintro e w3 ⟨rfl, hb3⟩
    have HRR := Lib.hid (rright_any (HQ.out.2.1.below hb3) HWD.out)
    have HB3 := Lib.hid (below_next hTot.out hTot.out.size hb3)
    clear hb3
    go_wp2_with fail
    refine HRR.out.mono ?_
    rintro e w4 ⟨⟨r, rfl, hr⟩, hb4⟩
    have HB4 := Lib.hid (below_next HB3.out HB3.out.size hb4)
    obtain rfl : r = false := by
      rcases r with _ | _
      · rfl
      · exact absurd (hr.1 rfl) HNR.out
    clear hr hb4
    go_wp2
    go_ret
    exact ⟨by rfl, HB4.out⟩
  · obtain ⟨hll, hin⟩ := lab_in hR ho hlay
    have hn16 : n ≤ 16 := by rw [HN.out]; exact hR.2.1
    have hn1 : 1 ≤ n := by rw [HN.out]; exact hR.1
    obtain ⟨t', T, hG, ht'⟩ := good_of k hR ho
    obtain rfl : t = t' := by have := ht.same ht'; omega
    have HPLC := Lib.hid (fun W (hB : Bks W a n c l) => rplaces_any k HK.out hR hG ht hB)
    rw [HKA.out] at HPLC
    have HRNG := Lib.hid (fun W (hB : Bks W a n c l) => rring_any hB hn1 hn16 ho hR.2.2.2 (fun i hi => (hR.2.2.1 i hi).2.2))
    have HLAY := Lib.hid hlay
    obtain ⟨la, hla⟩ : ∃ p, lab o pl = p := ⟨_, rfl⟩
    obtain ⟨rg, hrg⟩ : ∃ p, ring l o = p := ⟨_, rfl⟩
    have hrgp : 1 ≤ rg.length := by rw [← hrg]; exact ring_pos hR ho
    have hrgl : rg.length ≤ 1600 := by rw [← hrg]; exact ring_le hR ho
    have HRPOS : Hid (∀ j, j < rg.length → 0 ≤ rg[j]!) := Lib.hid (fun j hj => by
      obtain ⟨y, _, e⟩ := ring_in ho rg[j]! (by rw [hrg, getElem!_pos rg j hj]; exact List.getElem_mem hj)
      rw [e]; omega)
    rw [hla] at hll hin hT1
    rw [hrg] at hT1 HRNG
    have HPOS : Hid (∀ j, j < la.length → 0 ≤ la[j]!) := Lib.hid (fun j hj => by
      obtain ⟨y, _, e⟩ := hin j (by rw [← hll]; exact hj)
      rw [e]; omega)
    have HLA := Lib.hid hla
    have HLL := Lib.hid hll
    have HH5 : Hid (LQ w.heap.size (w.heap.size + 1) A a n c l x ua un uc up w1 ∧ Tab w1 tb1 l la rg) := Lib.hid ⟨HQ.out, hT1⟩
    obtain ⟨-, -, hU1, -, q0, q1⟩ := HQ.out
    have HFIND := Lib.hid (find_any (uc := uc) x hT1 hU1 HPOS.out (by omega) hx0 hx1)
    obtain ⟨wa, hwa⟩ : ∃ z, who la (x.toNat % 251) up = z := ⟨_, rfl⟩
    obtain ⟨wb, hwb⟩ : ∃ z, whoIs la (x.toNat % 251) up = z := ⟨_, rfl⟩
    rw [hwa, hwb] at HFIND
    clear hll hin hT1 ho ht ht' hG hlay hR hla hrg hU1 HB0 HBB1
    go_wp2_with fail
    refine HFIND.out.mono ?_
    rintro e w1' ⟨rfl, rfl⟩
    clear q0 q1
    go_wp2
    refine wp_region_held_drew (S := (fun W => LQ w.heap.size (w.heap.size + 1) A a n c l x ua un uc up W ∧ Tab W tb1 l la rg)) (by kernel_rfl) HH5.out (fun hHeld => ?_)
    refine wpAnyH_take (i := 0) (oi := ({ dst := some 46, op := Go.Op.load 22 (Go.Operand.tmp 3), type := 22, pos := _, after := #[], guard := none } : Oper)) (v := ?_) rfl (by kernel_rfl) (by kernel_rfl) (by kernel_rfl) (fun _ _ _ h => h) (Or.inl ⟨by rfl, ?_⟩) (by assumption) ?_
    rotate_left
    · intro W' hSw
      try dsimp only at hSw
      have hkey := load_key22 hSw.1.1 HAS.out
      go_simp
      try with_reducible rfl
    try simp only [Act.put, List.setIfInBounds_toArray, List.set_cons_zero, List.set_cons_succ]
    refine wpAnyH_take (i := 1) (oi := ({ dst := some 47, op := Go.Op.move (Go.Operand.tmp 1), type := 23, pos := _, after := #[], guard := none } : Oper)) (v := ?_) rfl (by kernel_rfl) (by kernel_rfl) (by kernel_rfl) (fun _ _ _ h => h) (Or.inl ⟨by rfl, ?_⟩) (by assumption) ?_
    rotate_left
    · intro W' hSw
      try dsimp only at hSw
      go_simp
      try with_reducible rfl
    try simp only [Act.put, List.setIfInBounds_toArray, List.set_cons_zero, List.set_cons_succ]
    refine wpAnyH_take (i := 3) (oi := ({ dst := some 49, op := Go.Op.fieldAddr 44 (Go.Operand.tmp 5) 0, type := 0, pos := _, after := #[], guard := none } : Oper)) (v := ?_) rfl (by kernel_rfl) (by kernel_rfl) (by kernel_rfl) (fun _ _ _ h => h) (Or.inl ⟨by rfl, ?_⟩) (by assumption) ?_
    rotate_left
    · intro W' hSw
      try dsimp only at hSw
      go_simp
      try with_reducible rfl
    try simp only [Act.put, List.setIfInBounds_toArray, List.set_cons_zero, List.set_cons_succ]
    refine wpAnyH_take (i := 4) (oi := ({ dst := some 50, op := Go.Op.load 41 (Go.Operand.tmp 49), type := 41, pos := _, after := #[{ on := 3, ground := Go.Ground.data }], guard := none } : Oper)) (v := ?_) rfl (by kernel_rfl) (by kernel_rfl) (by kernel_rfl) (fun _ _ _ h => h) (Or.inl ⟨by rfl, ?_⟩) (by assumption) ?_
    rotate_left
    · intro W' hSw
      try dsimp only at hSw
      have hq0 := hSw.1.2.2.2.2.1
      have hq1 := hSw.1.2.2.2.2.2
      go_simp
      try with_reducible rfl
    try simp only [Act.put, List.setIfInBounds_toArray, List.set_cons_zero, List.set_cons_succ]
    refine wpAnyH_take (i := 5) (oi := ({ dst := some 51, op := Go.Op.fieldAddr 44 (Go.Operand.tmp 5) 1, type := 0, pos := _, after := #[], guard := none } : Oper)) (v := ?_) rfl (by kernel_rfl) (by kernel_rfl) (by kernel_rfl) (fun _ _ _ h => h) (Or.inl ⟨by rfl, ?_⟩) (by assumption) ?_
    rotate_left
    · intro W' hSw
      try dsimp only at hSw
      go_simp
      try with_reducible rfl
    try simp only [Act.put, List.setIfInBounds_toArray, List.set_cons_zero, List.set_cons_succ]
    refine wpAnyH_take (i := 6) (oi := ({ dst := some 52, op := Go.Op.load 42 (Go.Operand.tmp 51), type := 42, pos := _, after := #[{ on := 5, ground := Go.Ground.data }], guard := none } : Oper)) (v := ?_) rfl (by kernel_rfl) (by kernel_rfl) (by kernel_rfl) (fun _ _ _ h => h) (Or.inl ⟨by rfl, ?_⟩) (by assumption) ?_
    rotate_left
    · intro W' hSw
      try dsimp only at hSw
      have hq0 := hSw.1.2.2.2.2.1
      have hq1 := hSw.1.2.2.2.2.2
      go_simp
      try with_reducible rfl
    try simp only [Act.put, List.setIfInBounds_toArray, List.set_cons_zero, List.set_cons_succ]
    refine wpAnyH_ready (rs := [2]) (by kernel_rfl) (by simp) ?_
    refine AllReadyH.cons (o := ({ dst := some 48, op := Go.Op.call { callee := Go.Callee.value (Go.Operand.func 16), args := #[Go.Operand.tmp 46, Go.Operand.tmp 47], argTypes := #[22, 23] }, type := 34, pos := _, after := #[{ on := 0, ground := Go.Ground.data }, { on := 1, ground := Go.Ground.data }], guard := none } : Oper)) rfl (fun K hK => ?_) AllReadyH.nil
    go_simp
    refine (HPLC.out _ hHeld.1.2.1).mono ?_
    rintro e w2 ⟨g2, cap2, pl2, hlay2, rfl, hcap2, hA2, hb2⟩
    go_wp2_with fail
    refine hK.out _ _ ?_ (fun hHeld => ?_)
    · exact ⟨hHeld.1.below hb2, hHeld.2.below hb2⟩
    clear hK K
    try simp only [Act.put, List.setIfInBounds_toArray, List.set_cons_zero, List.set_cons_succ]
    have HA2 := Lib.hid hA2
    have hpe := lays_same hlay2 HLAY.out
    subst hpe
    have HBB2 := Lib.hid (undrew hb2)
    have hi2 : Ints w2 g2 0 la := ⟨hA2.1, fun j hj => by
      rw [Nat.zero_add]
      rw [HLA.out] at hA2
      exact (ar_vals hA2 (by rw [getElem!_pos _ j hj]; exact List.getElem?_eq_getElem hj)).1⟩
    have hfrom := from_any (c := cap2) x hi2 hHeld.1.2.2.1 (by rw [HLL.out]; omega) (by rw [HLL.out]; omega) HPOS.out (by omega) hx0 hx1
    rw [HLL.out] at hfrom
    have HFROM := Lib.hid hfrom
    clear hlay2 hA2 hb2 hi2 hfrom
    refine wpAnyH_ready (rs := [7]) (by kernel_rfl) (by simp) ?_
    refine AllReadyH.cons (o := ({ dst := some 53, op := Go.Op.call { callee := Go.Callee.value (Go.Operand.func 20), args := #[Go.Operand.tmp 48, Go.Operand.tmp 50, Go.Operand.tmp 52], argTypes := #[34, 41, 42] }, type := 45, pos := _, after := #[{ on := 2, ground := Go.Ground.data }, { on := 4, ground := Go.Ground.data }, { on := 6, ground := Go.Ground.data }, { on := 2, ground := Go.Ground.chain }], guard := none } : Oper)) rfl (fun K hK => ?_) AllReadyH.nil
    go_simp
    refine HFROM.out.mono ?_
    rintro e w3 ⟨rfl, rfl⟩
    go_wp2_with fail
    refine hK.out _ _ ?_ (fun hHeld => ?_)
    · exact hHeld
    clear hK K
    try simp only [Act.put, List.setIfInBounds_toArray, List.set_cons_zero, List.set_cons_succ]
    refine wpAnyH_take (i := 8) (oi := ({ dst := some 45, op := Go.Op.move (Go.Operand.tmp 53), type := 45, pos := _, after := #[{ on := 7, ground := Go.Ground.data }], guard := none } : Oper)) (v := ?_) rfl (by kernel_rfl) (by kernel_rfl) (by kernel_rfl) (fun _ _ _ h => h) (Or.inl ⟨by rfl, ?_⟩) (by assumption) ?_
    rotate_left
    · intro W' hSw
      try dsimp only at hSw
      go_simp
      try with_reducible rfl
    try simp only [Act.put, List.setIfInBounds_toArray, List.set_cons_zero, List.set_cons_succ]
    refine wpAnyH_take (i := 9) (oi := ({ dst := some 54, op := Go.Op.extract (Go.Operand.tmp 45) 0, type := 3, pos := _, after := #[{ on := 8, ground := Go.Ground.data }], guard := none } : Oper)) (v := ?_) rfl (by kernel_rfl) (by kernel_rfl) (by kernel_rfl) (fun _ _ _ h => h) (Or.inl ⟨by rfl, ?_⟩) (by assumption) ?_
    rotate_left
    · intro W' hSw
      try dsimp only at hSw
      go_simp
      try with_reducible rfl
    try simp only [Act.put, List.setIfInBounds_toArray, List.set_cons_zero, List.set_cons_succ]
    refine wpAnyH_take (i := 10) (oi := ({ dst := some 55, op := Go.Op.extract (Go.Operand.tmp 45) 1, type := 4, pos := _, after := #[{ on := 8, ground := Go.Ground.data }, { on := 11, ground := Go.Ground.gcOnly Go.Departure.lateStores }], guard := none } : Oper)) (v := ?_) rfl (by kernel_rfl) (by kernel_rfl) (by kernel_rfl) (fun _ _ _ h => h) (Or.inl ⟨by rfl, ?_⟩) (by assumption) ?_
    rotate_left
    · intro W' hSw
      try dsimp only at hSw
      go_simp
      try with_reducible rfl
    try simp only [Act.put, List.setIfInBounds_toArray, List.set_cons_zero, List.set_cons_succ]
    refine wpAnyH_take (i := 11) (oi := ({ dst := some 11, op := Go.Op.assign (Go.Operand.tmp 54), type := 3, pos := _, after := #[{ on := 9, ground := Go.Ground.data }, { on := 7, ground := Go.Ground.chain }, { on := 0, ground := Go.Ground.phase }, { on := 1, ground := Go.Ground.phase }, { on := 2, ground := Go.Ground.phase }, { on := 3, ground := Go.Ground.phase }, { on := 4, ground := Go.Ground.phase }, { on := 5, ground := Go.Ground.phase }, { on := 6, ground := Go.Ground.phase }, { on := 7, ground := Go.Ground.phase }, { on := 8, ground := Go.Ground.phase }, { on := 9, ground := Go.Ground.phase }, { on := 10, ground := Go.Ground.textOnly Go.Departure.lateStores }], guard := none } : Oper)) (v := ?_) rfl (by kernel_rfl) (by kernel_rfl) (by kernel_rfl) (fun _ _ _ h => h) (Or.inl ⟨by rfl, ?_⟩) (by assumption) ?_
    rotate_left
    · intro W' hSw
      try dsimp only at hSw
      go_simp
      try with_reducible rfl
    try simp only [Act.put, List.setIfInBounds_toArray, List.set_cons_zero, List.set_cons_succ]
    refine wpAnyH_take (i := 12) (oi := ({ dst := some 12, op := Go.Op.assign (Go.Operand.tmp 55), type := 4, pos := _, after := #[{ on := 10, ground := Go.Ground.data }, { on := 11, ground := Go.Ground.chain }, { on := 0, ground := Go.Ground.phase }, { on := 1, ground := Go.Ground.phase }, { on := 2, ground := Go.Ground.phase }, { on := 3, ground := Go.Ground.phase }, { on := 4, ground := Go.Ground.phase }, { on := 5, ground := Go.Ground.phase }, { on := 6, ground := Go.Ground.phase }, { on := 7, ground := Go.Ground.phase }, { on := 8, ground := Go.Ground.phase }, { on := 9, ground := Go.Ground.phase }, { on := 10, ground := Go.Ground.phase }, { on := 11, ground := Go.Ground.phase }], guard := none } : Oper)) (v := ?_) rfl (by kernel_rfl) (by kernel_rfl) (by kernel_rfl) (fun _ _ _ h => h) (Or.inl ⟨by rfl, ?_⟩) (by assumption) ?_
    rotate_left
    · intro W' hSw
      try dsimp only at hSw
      go_simp
      try with_reducible rfl
    try simp only [Act.put, List.setIfInBounds_toArray, List.set_cons_zero, List.set_cons_succ]
    refine wpAnyH_done (by kernel_rfl) ?_ _

    try rw [hwa, hwb]
    have HH6 := Lib.hid hHeld
    have HTURN := Lib.hid (turn_any (uc := uc) x hHeld.2 hHeld.1.2.2.1 hrgp (by omega) HRPOS.out (by omega) hx0 hx1)
    obtain ⟨wc, hwc⟩ : ∃ z, who rg (x.toNat % rg.length) up = z := ⟨_, rfl⟩
    obtain ⟨wd, hwd⟩ : ∃ z, whoIs rg (x.toNat % rg.length) up = z := ⟨_, rfl⟩
    rw [hwc, hwd] at HTURN
    have q0 := hHeld.1.2.2.2.2.1
    have q1 := hHeld.1.2.2.2.2.2
    clear hHeld
    go_wp2_with fail
    refine HTURN.out.mono ?_
    rintro e w4 ⟨rfl, rfl⟩
    clear q0 q1
    go_wp2
    refine wp_region_held_drew (S := (fun W => LQ w.heap.size (w.heap.size + 1) A a n c l x ua un uc up W ∧ Tab W tb1 l la rg)) (by kernel_rfl) HH6.out (fun hHeld => ?_)
    refine wpAnyH_take (i := 0) (oi := ({ dst := some 66, op := Go.Op.move (Go.Operand.tmp 1), type := 23, pos := _, after := #[], guard := none } : Oper)) (v := ?_) rfl (by kernel_rfl) (by kernel_rfl) (by kernel_rfl) (fun _ _ _ h => h) (Or.inl ⟨by rfl, ?_⟩) (by assumption) ?_
    rotate_left
    · intro W' hSw
      try dsimp only at hSw
      go_simp
      try with_reducible rfl
    try simp only [Act.put, List.setIfInBounds_toArray, List.set_cons_zero, List.set_cons_succ]
    refine wpAnyH_take (i := 2) (oi := ({ dst := some 68, op := Go.Op.fieldAddr 44 (Go.Operand.tmp 5) 0, type := 0, pos := _, after := #[], guard := none } : Oper)) (v := ?_) rfl (by kernel_rfl) (by kernel_rfl) (by kernel_rfl) (fun _ _ _ h => h) (Or.inl ⟨by rfl, ?_⟩) (by assumption) ?_
    rotate_left
    · intro W' hSw
      try dsimp only at hSw
      go_simp
      try with_reducible rfl
    try simp only [Act.put, List.setIfInBounds_toArray, List.set_cons_zero, List.set_cons_succ]
    refine wpAnyH_take (i := 3) (oi := ({ dst := some 69, op := Go.Op.load 41 (Go.Operand.tmp 68), type := 41, pos := _, after := #[{ on := 2, ground := Go.Ground.data }], guard := none } : Oper)) (v := ?_) rfl (by kernel_rfl) (by kernel_rfl) (by kernel_rfl) (fun _ _ _ h => h) (Or.inl ⟨by rfl, ?_⟩) (by assumption) ?_
    rotate_left
    · intro W' hSw
      try dsimp only at hSw
      have hq0 := hSw.1.2.2.2.2.1
      have hq1 := hSw.1.2.2.2.2.2
      go_simp
      try with_reducible rfl
    try simp only [Act.put, List.setIfInBounds_toArray, List.set_cons_zero, List.set_cons_succ]
    refine wpAnyH_take (i := 4) (oi := ({ dst := some 70, op := Go.Op.fieldAddr 44 (Go.Operand.tmp 5) 1, type := 0, pos := _, after := #[], guard := none } : Oper)) (v := ?_) rfl (by kernel_rfl) (by kernel_rfl) (by kernel_rfl) (fun _ _ _ h => h) (Or.inl ⟨by rfl, ?_⟩) (by assumption) ?_
    rotate_left
    · intro W' hSw
      try dsimp only at hSw
      go_simp
      try with_reducible rfl
    try simp only [Act.put, List.setIfInBounds_toArray, List.set_cons_zero, List.set_cons_succ]
    refine wpAnyH_take (i := 5) (oi := ({ dst := some 71, op := Go.Op.load 42 (Go.Operand.tmp 70), type := 42, pos := _, after := #[{ on := 4, ground := Go.Ground.data }], guard := none } : Oper)) (v := ?_) rfl (by kernel_rfl) (by kernel_rfl) (by kernel_rfl) (fun _ _ _ h => h) (Or.inl ⟨by rfl, ?_⟩) (by assumption) ?_
    rotate_left
    · intro W' hSw
      try dsimp only at hSw
      have hq0 := hSw.1.2.2.2.2.1
      have hq1 := hSw.1.2.2.2.2.2
      go_simp
      try with_reducible rfl
    try simp only [Act.put, List.setIfInBounds_toArray, List.set_cons_zero, List.set_cons_succ]
    refine wpAnyH_ready (rs := [1]) (by kernel_rfl) (by simp) ?_
    refine AllReadyH.cons (o := ({ dst := some 67, op := Go.Op.call { callee := Go.Callee.value (Go.Operand.func 22), args := #[Go.Operand.tmp 66], argTypes := #[23] }, type := 34, pos := _, after := #[{ on := 0, ground := Go.Ground.data }], guard := none } : Oper)) rfl (fun K hK => ?_) AllReadyH.nil
    go_simp
    refine (HRNG.out _ hHeld.1.2.1).mono ?_
    rintro e w5 ⟨v5, rfl, hrow5, hb5⟩
    go_wp2_with fail
    refine hK.out _ _ ?_ (fun hHeld => ?_)
    · exact ⟨hHeld.1.below hb5, hHeld.2.below hb5⟩
    clear hK K
    try simp only [Act.put, List.setIfInBounds_toArray, List.set_cons_zero, List.set_cons_succ]
    obtain ⟨g5, c5, rfl, hc5⟩ := row_slice2 hrow5 hrgp
    have hcl5 := hrow5.cells (g := g5) rfl
    have hi5 : Ints w5 g5 0 rg := ⟨(hrow5.lt g5 rfl).2, fun j hj => by
      have := hcl5 j (.int .i64 rg[j]!) (by rw [icells, List.getElem?_map, List.getElem?_eq_getElem hj, getElem!_pos rg j hj]; rfl)
      rwa [add_plain] at this⟩
    have HBB5 := Lib.hid (undrew hb5)
    have HFROM2 := Lib.hid (from_any (c := c5) x hi5 hHeld.1.2.2.1 hrgp (by omega) HRPOS.out (by omega) hx0 hx1)
    clear hrow5 hcl5 hi5 hb5
    refine wpAnyH_ready (rs := [6]) (by kernel_rfl) (by simp) ?_
    refine AllReadyH.cons (o := ({ dst := some 72, op := Go.Op.call { callee := Go.Callee.value (Go.Operand.func 20), args := #[Go.Operand.tmp 67, Go.Operand.tmp 69, Go.Operand.tmp 71], argTypes := #[34, 41, 42] }, type := 45, pos := _, after := #[{ on := 1, ground := Go.Ground.data }, { on := 3, ground := Go.Ground.data }, { on := 5, ground := Go.Ground.data }, { on := 1, ground := Go.Ground.chain }], guard := none } : Oper)) rfl (fun K hK => ?_) AllReadyH.nil
    go_simp
    refine HFROM2.out.mono ?_
    rintro e w6 ⟨rfl, rfl⟩
    go_wp2_with fail
    refine hK.out _ _ ?_ (fun hHeld => ?_)
    · exact hHeld
    clear hK K
    try simp only [Act.put, List.setIfInBounds_toArray, List.set_cons_zero, List.set_cons_succ]
    refine wpAnyH_take (i := 7) (oi := ({ dst := some 65, op := Go.Op.move (Go.Operand.tmp 72), type := 45, pos := _, after := #[{ on := 6, ground := Go.Ground.data }], guard := none } : Oper)) (v := ?_) rfl (by kernel_rfl) (by kernel_rfl) (by kernel_rfl) (fun _ _ _ h => h) (Or.inl ⟨by rfl, ?_⟩) (by assumption) ?_
    rotate_left
    · intro W' hSw
      try dsimp only at hSw
      go_simp
      try with_reducible rfl
    try simp only [Act.put, List.setIfInBounds_toArray, List.set_cons_zero, List.set_cons_succ]
    refine wpAnyH_take (i := 8) (oi := ({ dst := some 73, op := Go.Op.extract (Go.Operand.tmp 65) 0, type := 3, pos := _, after := #[{ on := 7, ground := Go.Ground.data }], guard := none } : Oper)) (v := ?_) rfl (by kernel_rfl) (by kernel_rfl) (by kernel_rfl) (fun _ _ _ h => h) (Or.inl ⟨by rfl, ?_⟩) (by assumption) ?_
    rotate_left
    · intro W' hSw
      try dsimp only at hSw
      go_simp
      try with_reducible rfl
    try simp only [Act.put, List.setIfInBounds_toArray, List.set_cons_zero, List.set_cons_succ]
    refine wpAnyH_take (i := 9) (oi := ({ dst := some 74, op := Go.Op.extract (Go.Operand.tmp 65) 1, type := 4, pos := _, after := #[{ on := 7, ground := Go.Ground.data }, { on := 10, ground := Go.Ground.gcOnly Go.Departure.lateStores }], guard := none } : Oper)) (v := ?_) rfl (by kernel_rfl) (by kernel_rfl) (by kernel_rfl) (fun _ _ _ h => h) (Or.inl ⟨by rfl, ?_⟩) (by assumption) ?_
    rotate_left
    · intro W' hSw
      try dsimp only at hSw
      go_simp
      try with_reducible rfl
    try simp only [Act.put, List.setIfInBounds_toArray, List.set_cons_zero, List.set_cons_succ]
    refine wpAnyH_take (i := 10) (oi := ({ dst := some 15, op := Go.Op.assign (Go.Operand.tmp 73), type := 3, pos := _, after := #[{ on := 8, ground := Go.Ground.data }, { on := 6, ground := Go.Ground.chain }, { on := 0, ground := Go.Ground.phase }, { on := 1, ground := Go.Ground.phase }, { on := 2, ground := Go.Ground.phase }, { on := 3, ground := Go.Ground.phase }, { on := 4, ground := Go.Ground.phase }, { on := 5, ground := Go.Ground.phase }, { on := 6, ground := Go.Ground.phase }, { on := 7, ground := Go.Ground.phase }, { on := 8, ground := Go.Ground.phase }, { on := 9, ground := Go.Ground.textOnly Go.Departure.lateStores }], guard := none } : Oper)) (v := ?_) rfl (by kernel_rfl) (by kernel_rfl) (by kernel_rfl) (fun _ _ _ h => h) (Or.inl ⟨by rfl, ?_⟩) (by assumption) ?_
    rotate_left
    · intro W' hSw
      try dsimp only at hSw
      go_simp
      try with_reducible rfl
    try simp only [Act.put, List.setIfInBounds_toArray, List.set_cons_zero, List.set_cons_succ]
    refine wpAnyH_take (i := 11) (oi := ({ dst := some 16, op := Go.Op.assign (Go.Operand.tmp 74), type := 4, pos := _, after := #[{ on := 9, ground := Go.Ground.data }, { on := 10, ground := Go.Ground.chain }, { on := 0, ground := Go.Ground.phase }, { on := 1, ground := Go.Ground.phase }, { on := 2, ground := Go.Ground.phase }, { on := 3, ground := Go.Ground.phase }, { on := 4, ground := Go.Ground.phase }, { on := 5, ground := Go.Ground.phase }, { on := 6, ground := Go.Ground.phase }, { on := 7, ground := Go.Ground.phase }, { on := 8, ground := Go.Ground.phase }, { on := 9, ground := Go.Ground.phase }, { on := 10, ground := Go.Ground.phase }], guard := none } : Oper)) (v := ?_) rfl (by kernel_rfl) (by kernel_rfl) (by kernel_rfl) (fun _ _ _ h => h) (Or.inl ⟨by rfl, ?_⟩) (by assumption) ?_
    rotate_left
    · intro W' hSw
      try dsimp only at hSw
      go_simp
      try with_reducible rfl
    try simp only [Act.put, List.setIfInBounds_toArray, List.set_cons_zero, List.set_cons_succ]
    refine wpAnyH_done (by kernel_rfl) ?_ _

    try rw [hwc, hwd]
    have HTF := Lib.hid (below_next (below_next hTot.out hTot.out.size HBB2.out) (below_next hTot.out hTot.out.size HBB2.out).size HBB5.out)
    clear hHeld hwa hwb hwc hwd
    go_wp2_with (go_at_call 10; refine (HAL.out _).mono ?_; rintro e w7 ⟨rfl, hb7⟩)
    go_ret
    exact ⟨by rfl, below_next HTF.out HTF.out.size hb7⟩

end Go.Proofs.Ytpkahjflhboddaa
