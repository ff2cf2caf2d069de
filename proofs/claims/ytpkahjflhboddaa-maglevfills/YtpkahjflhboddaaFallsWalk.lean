/-
  What the function of MaglevFalls does, whatever backends and question it is given.
-/
import Derived.Test.YtpkahjflhboddaaLaw
import Derived.Deep.RegionHeld3
namespace Go.Proofs.Ytpkahjflhboddaa
open Go.RowKit
set_option linter.unusedVariables false
set_option linter.unusedSimpArgs false
set_option maxRecDepth 10000
attribute [local go_sem ↓] big22


def bcs (up : List Bool) : List Value := up.map Value.bool
theorem bcs_len (up : List Bool) : (bcs up).length = up.length := by simp [bcs]

/-- An append by its run. -/
theorem wpList_append_run {ops : Array Oper} {rest : List Oper} {o : Oper} {a : Act} {w w' : World} {Q : Exit → Act → World → Prop} (hgd : o.guard = none) (s x : Operand) (sT xT : TypeId)
    (ho : o.op = .call { callee := .builtin .append, args := #[s, x], argTypes := #[sT, xT] }) {v u v' : Value} (hs : a.eval s = v) (hx : a.eval x = u)
    (ty : TypeId) (hty : o.type = ty) (hr : (Builtin.append_ #[sT, xT] ty #[v, u]).run Try.prog w = .ok v' w') (k : wpList Try.prog ops Q rest (a.put o.dst v') w') : wpList Try.prog ops Q (o :: rest) a w := by
  subst hty
  refine wpList_plain hgd fun K hK => ?_
  unfold Oper.wp execOp
  simp only [ho, resolve, invoke, builtin, Sem.run_bind, Sem.run_pure, Result.andThen_ok, List.map_toArray, List.map_cons, List.map_nil, hs, hx, hr]
  exact hK _ _ k

/-- Slots behind what came in. -/
def mores (up : List Bool) (m : Nat) : List Bool := up ++ List.replicate (m - up.length) false
theorem mores_next (up : List Bool) {m : Nat} (h : up.length ≤ m) : bcs (mores up (m + 1)) = bcs (mores up m) ++ [.bool false] := by
  unfold mores
  rw [show m + 1 - up.length = (m - up.length) + 1 by omega, List.replicate_succ', ← List.append_assoc]
  simp [bcs]
theorem mores_len (up : List Bool) {m : Nat} (h : up.length ≤ m) : (mores up m).length = m := by simp [mores]; omega

theorem row_form {W : World} {B e size n : Nat} {v : Value} {xs : List Value} (h : W.ownsRow B e size v n xs) : ∃ a cap, v = .slice a n cap := by
  rcases h.2 with ⟨rfl, rfl⟩ | ⟨g, cap, cur, rfl, _⟩
  · exact ⟨none, 0, rfl⟩
  · exact ⟨_, cap, rfl⟩

/-- A slice of bools is appended to an empty row of the call's own. -/
theorem append_bls {W : World} {B : Nat} {v : Value} {a : Option Addr} {n c : Nat} {up : List Bool} (hv : ∃ g cap, v = .slice (some ⟨g, 0, none⟩) 0 cap) (h : W.ownsRow B 4 1 v 0 []) (hU : Bls W a n c up) (hn : n ≤ 140737488351232) (hB : B ≤ W.heap.size) :
    ∃ v' W', (Builtin.append_ #[42, 42] 42 #[v, .slice a n c]).run Try.prog W = .ok v' W' ∧ W'.ownsRow B 4 1 v' n (bcs up) ∧ W.grownBy W' v.ownBlock := by
  obtain ⟨i0, hi, hz0, hz1, hz2⟩ := info_parts info4
  rcases Nat.eq_zero_or_pos n with h0 | h0
  · subst h0
    have hup : up = [] := List.eq_nil_of_length_eq_zero hU.1.symm
    subst hup
    obtain ⟨g, cap, rfl⟩ := hv
    refine ⟨.slice (some ⟨g, 0, none⟩) 0 cap, W, ?_, h, ⟨rfl, rfl, rfl, Nat.le_refl _, fun _ _ _ => rfl⟩⟩
    rcases a with _ | ad
    · simp [Builtin.append_, run_underlying Try.underlying42, sizeOf, typeInfo, hi, Builtin.lenOf, Builtin.firstCells, storeCells]
    · simp [Builtin.append_, run_underlying Try.underlying42, sizeOf, typeInfo, hi, Builtin.lenOf, Builtin.firstCells, storeCells, loadCells, loadCellsFrom]
  · obtain ⟨b, off, rfl, hb, hat⟩ := hU.2.2 h0
    obtain ⟨v', W', hr, ho, hg, _, _⟩ := run_append_own_at (P := Try.prog) W B 42 42 4 i0 (.bool false) 1 1 Try.underlying42 hi hz0 hz1 hz2 rfl (by omega) v 0 [] h ⟨b, off, none⟩ n c (bcs up) (by rw [bcs_len, hU.1]; omega) (fun j u hu => by
      have hj : j < up.length := by
        rcases Nat.lt_or_ge j up.length with hj | hj
        · exact hj
        · simp [bcs, hj] at hu
      rw [add_plain, hat j (by rw [hU.1]; exact hj), ← hu]
      simp [bcs, hj]) (by intro u hu; simp [bcs] at hu; rcases hu with ⟨_, rfl⟩ | ⟨_, rfl⟩ <;> rfl) (by simp only [maxLen]; omega) (by omega) hB
    exact ⟨v', W', hr, by simpa using ho, hg⟩

set_option maxHeartbeats 4000000 in
theorem falls_walk (k : List Int) (a : Option Addr) (n c : Nat) (l : List Bk) (x : Int) (ua : Option Addr) (un uc : Nat) (up : List Bool) (w : World) (hk : Key k) (hB : Bks w a n c l) (hw : Wide l) (hU : Bls w ua un uc up) (hun : un ≤ 140737488351232) (hx0 : 0 ≤ x) (hx1 : x ≤ 18446744073709551615) :
    Calls Try.prog 7 #[kv k, .slice a n c, .agg #[.int .u64 x, .slice ua un uc]] w fun e w' => e = .returned (.bool true) ∧ Below w.heap.size w w' := by
  have HN := Lib.hid hB.1
  obtain ⟨A, hA⟩ : ∃ A, (cel k).toArray = A := ⟨_, rfl⟩
  have hAs : A.size = 16 := by rw [← hA, List.size_toArray, cel_len, hk.1]
  have hkA : kv k = .agg A := by rw [← hA]; rfl
  have HAS := Lib.hid hAs
  have HK := Lib.hid hk
  have HNEW := Lib.hid (fun W a n c (hB : Bks W a n c l) => new_is k hk hw hB)
  rw [hkA] at HNEW ⊢
  have HAL := Lib.hid (fun w => alive_any w)
  have hb0 : Below w.heap.size w ((w.alloc (.cells A 22)).alloc (.cells #[.int .u64 x, .slice ua un uc] 44)).drew := (((Below.refl _ _).alloc (Nat.le_refl _) _).alloc (by simp) _).drew
  have hA0 : Ar (w.alloc (.cells A 22)) w.heap.size A.toList := by simpa using Ar.new w A.toList 22
  have hQ0 : Ar ((w.alloc (.cells A 22)).alloc (.cells #[.int .u64 x, .slice ua un uc] 44)) (w.heap.size + 1) [.int .u64 x, .slice ua un uc] := by simpa using Ar.new (w.alloc (.cells A 22)) [.int .u64 x, .slice ua un uc] 44
  have HLS : Hid (LQ w.heap.size (w.heap.size + 1) A a n c l x ua un uc up ((w.alloc (.cells A 22)).alloc (.cells #[.int .u64 x, .slice ua un uc] 44)).drew) := Lib.hid ⟨(hA0.alloc _).drew, hB.below hb0, hU.below hb0, hQ0.1, hQ0.drew.cell 0 rfl, hQ0.drew.cell 1 rfl⟩
  have HB0 := Lib.hid hb0
  clear hb0 hA0 hQ0
  clear hk hw hB hA hAs hkA
  go_enter Try.func7, Try.ntmps7
  go_wp2
  refine wp_region_held_drew (S := (fun W => LQ w.heap.size (w.heap.size + 1) A a n c l x ua un uc up W)) (by kernel_rfl) HLS.out (fun hHeld => ?_)
  refine wpAnyH_take (i := 0) (oi := ({ dst := some 14, op := Go.Op.load 22 (Go.Operand.tmp 3), type := 22, pos := _, after := #[], guard := none } : Oper)) (v := ?_) rfl (by kernel_rfl) (by kernel_rfl) (by kernel_rfl) (fun _ _ _ h => h) (Or.inl ⟨by rfl, ?_⟩) (by assumption) ?_
  rotate_left
  · intro W' hSw
    try dsimp only at hSw
    have hkey := load_key22 hSw.1 HAS.out
    go_simp
    try with_reducible rfl
  try simp only [Act.put, List.setIfInBounds_toArray, List.set_cons_zero, List.set_cons_succ]
  refine wpAnyH_take (i := 1) (oi := ({ dst := some 15, op := Go.Op.move (Go.Operand.tmp 1), type := 23, pos := _, after := #[], guard := none } : Oper)) (v := ?_) rfl (by kernel_rfl) (by kernel_rfl) (by kernel_rfl) (fun _ _ _ h => h) (Or.inl ⟨by rfl, ?_⟩) (by assumption) ?_
  rotate_left
  · intro W' hSw
    try dsimp only at hSw
    go_simp
    try with_reducible rfl
  try simp only [Act.put, List.setIfInBounds_toArray, List.set_cons_zero, List.set_cons_succ]
  refine wpAnyH_ready (rs := [2]) (by kernel_rfl) (by simp) ?_
  refine AllReadyH.cons (o := ({ dst := some 16, op := Go.Op.call { callee := Go.Callee.value (Go.Operand.func 12), args := #[Go.Operand.tmp 15], argTypes := #[23] }, type := 29, pos := _, after := #[{ on := 1, ground := Go.Ground.data }], guard := none } : Oper)) rfl (fun K hK => ?_) AllReadyH.nil
  go_simp
  refine (own_any hHeld.2.1).mono ?_
  rintro e v1 ⟨oa1, oc1, rfl, hob1, hb1a⟩
  go_wp2_with fail
  refine hK.out _ _ ?_ (fun hHeld => ?_)
  · exact hHeld.below hb1a
  clear hK K
  try simp only [Act.put, List.setIfInBounds_toArray, List.set_cons_zero, List.set_cons_succ]
  have HOB1 := Lib.hid hob1
  have HBA1 := Lib.hid hb1a
  clear hob1 hb1a
  refine wpAnyH_ready (rs := [3]) (by kernel_rfl) (by simp) ?_
  refine AllReadyH.cons (o := ({ dst := some 17, op := Go.Op.call { callee := Go.Callee.value (Go.Operand.func 11), args := #[Go.Operand.tmp 14, Go.Operand.tmp 16], argTypes := #[51, 29] }, type := 27, pos := _, after := #[{ on := 0, ground := Go.Ground.data }, { on := 2, ground := Go.Ground.data }, { on := 2, ground := Go.Ground.chain }], guard := none } : Oper)) rfl (fun K hK => ?_) AllReadyH.nil
  go_simp
  refine (HNEW.out _ _ _ _ HOB1.out).mono ?_
  rintro e w1 ⟨tv1, ev1, rfl, hni1, hb1b⟩
  go_wp2_with fail
  refine hK.out _ _ ?_ (fun hHeld => ?_)
  · exact hHeld.below hb1b
  clear hK K
  try simp only [Act.put, List.setIfInBounds_toArray, List.set_cons_zero, List.set_cons_succ]
  have HNI1 := Lib.hid hni1
  have HBB1 := Lib.hid (HBA1.out.trans (hb1b.mono HBA1.out.size))
  have HL1 := Lib.hid hHeld
  clear hni1 hb1b
  refine wpAnyH_take (i := 4) (oi := ({ dst := some 13, op := Go.Op.move (Go.Operand.tmp 17), type := 27, pos := _, after := #[{ on := 3, ground := Go.Ground.data }], guard := none } : Oper)) (v := ?_) rfl (by kernel_rfl) (by kernel_rfl) (by kernel_rfl) (fun _ _ _ h => h) (Or.inl ⟨by rfl, ?_⟩) (by assumption) ?_
  rotate_left
  · intro W' hSw
    try dsimp only at hSw
    go_simp
    try with_reducible rfl
  try simp only [Act.put, List.setIfInBounds_toArray, List.set_cons_zero, List.set_cons_succ]
  refine wpAnyH_take (i := 5) (oi := ({ dst := some 18, op := Go.Op.extract (Go.Operand.tmp 13) 0, type := 25, pos := _, after := #[{ on := 4, ground := Go.Ground.data }], guard := none } : Oper)) (v := ?_) rfl (by kernel_rfl) (by kernel_rfl) (by kernel_rfl) (fun _ _ _ h => h) (Or.inl ⟨by rfl, ?_⟩) (by assumption) ?_
  rotate_left
  · intro W' hSw
    try dsimp only at hSw
    go_simp
    try with_reducible rfl
  try simp only [Act.put, List.setIfInBounds_toArray, List.set_cons_zero, List.set_cons_succ]
  refine wpAnyH_take (i := 6) (oi := ({ dst := some 19, op := Go.Op.extract (Go.Operand.tmp 13) 1, type := 26, pos := _, after := #[{ on := 4, ground := Go.Ground.data }, { on := 7, ground := Go.Ground.gcOnly Go.Departure.lateStores }], guard := none } : Oper)) (v := ?_) rfl (by kernel_rfl) (by kernel_rfl) (by kernel_rfl) (fun _ _ _ h => h) (Or.inl ⟨by rfl, ?_⟩) (by assumption) ?_
  rotate_left
  · intro W' hSw
    try dsimp only at hSw
    go_simp
    try with_reducible rfl
  try simp only [Act.put, List.setIfInBounds_toArray, List.set_cons_zero, List.set_cons_succ]
  refine wpAnyH_take (i := 7) (oi := ({ dst := some 7, op := Go.Op.assign (Go.Operand.tmp 18), type := 25, pos := _, after := #[{ on := 5, ground := Go.Ground.data }, { on := 3, ground := Go.Ground.chain }, { on := 0, ground := Go.Ground.phase }, { on := 1, ground := Go.Ground.phase }, { on := 2, ground := Go.Ground.phase }, { on := 3, ground := Go.Ground.phase }, { on := 4, ground := Go.Ground.phase }, { on := 5, ground := Go.Ground.phase }, { on := 6, ground := Go.Ground.textOnly Go.Departure.lateStores }], guard := none } : Oper)) (v := ?_) rfl (by kernel_rfl) (by kernel_rfl) (by kernel_rfl) (fun _ _ _ h => h) (Or.inl ⟨by rfl, ?_⟩) (by assumption) ?_
  rotate_left
  · intro W' hSw
    try dsimp only at hSw
    go_simp
    try with_reducible rfl
  try simp only [Act.put, List.setIfInBounds_toArray, List.set_cons_zero, List.set_cons_succ]
  refine wpAnyH_take (i := 8) (oi := ({ dst := some 8, op := Go.Op.assign (Go.Operand.tmp 19), type := 26, pos := _, after := #[{ on := 6, ground := Go.Ground.data }, { on := 7, ground := Go.Ground.chain }, { on := 0, ground := Go.Ground.phase }, { on := 1, ground := Go.Ground.phase }, { on := 2, ground := Go.Ground.phase }, { on := 3, ground := Go.Ground.phase }, { on := 4, ground := Go.Ground.phase }, { on := 5, ground := Go.Ground.phase }, { on := 6, ground := Go.Ground.phase }, { on := 7, ground := Go.Ground.phase }], guard := none } : Oper)) (v := ?_) rfl (by kernel_rfl) (by kernel_rfl) (by kernel_rfl) (fun _ _ _ h => h) (Or.inl ⟨by rfl, ?_⟩) (by assumption) ?_
  rotate_left
  · intro W' hSw
    try dsimp only at hSw
    go_simp
    try with_reducible rfl
  try simp only [Act.put, List.setIfInBounds_toArray, List.set_cons_zero, List.set_cons_succ]
  refine wpAnyH_done (by kernel_rfl) ?_ _

  have hTot : Hid (Below w.heap.size w w1) := Lib.hid (below_next HB0.out HB0.out.size HBB1.out)
  have hni1 := HNI1.out
  clear HNI1 HNEW HOB1 HBA1 hHeld hU
  rcases hni1 with ⟨hnr, rfl, rfl⟩ | ⟨hR, tb1, rfl, rfl, o, t, pl, ho, ht, hlay, hT1⟩
  · go_wp2_with (go_at_call 10; refine (HAL.out _).mono ?_; rintro e w3 ⟨rfl, hb3⟩)
    go_ret
    exact ⟨by rfl, below_next hTot.out hTot.out.size hb3⟩
  · obtain ⟨hll, hin⟩ := lab_in hR ho hlay
    have HT1 := Lib.hid hT1
    have HIN := Lib.hid hin
    have HLL := Lib.hid hll
    have hn16 : l.length ≤ 16 := hR.2.1
    have HQ := Lib.hid HL1.out
    obtain ⟨-, -, -, -, q0, q1⟩ := HL1.out
    obtain ⟨pla, hpla⟩ : ∃ p, lab o pl = p := ⟨_, rfl⟩
    rw [hpla] at HT1 HIN HLL
    obtain ⟨xn, rfl⟩ := Int.eq_ofNat_of_zero_le hx0
    obtain ⟨s, hs⟩ : ∃ s, xn % 251 = s := ⟨_, rfl⟩
    have hs2 : s < 251 := by omega
    have g1 : (xn : Int).tmod 251 = (s : Int) := by rw [Int.tmod_eq_emod_of_nonneg (by omega)]; omega
    have g2 : IntKind.i64.wrap (s : Int) = (s : Int) := by rw [IntKind.wrap_i64]; omega
    obtain ⟨i, hi, hpi⟩ := HIN.out s hs2
    have hA15 := at_any HT1.out (s : Int)
    rw [show atOf pla (s : Int) = (i : Int) by rw [atOf, if_pos (by omega), Int.toNat_natCast, hpi]] at hA15
    have C15 := Lib.hid hA15
    have HPI := Lib.hid hpi
    have HS := Lib.hid hs
    rw [← HN.out] at hi hn16
    have hiz : (i : Int) < (n : Int) := by omega
    clear hin hll hT1 ho ht hlay hR hpla hs hpi hA15 HL1 HLS HB0 HBB1
    go_wp2_with fail
    refine C15.out.mono ?_
    rintro e w2 ⟨rfl, rfl⟩
    obtain ⟨v2, w3, hrun, hrow, hg2⟩ := append_bls (W := w2.alloc (.cells #[] 4)) (B := w2.heap.size) ⟨w2.heap.size, 0, rfl⟩ (World.ownsRow_made w2 #[] 0 (Nat.le_refl _) (Nat.zero_le _) rfl) (HQ.out.2.2.1.below ((Below.refl _ _).alloc (Nat.le_refl _) _)) hun (by simp)
    have HRUN := Lib.hid hrun
    have HROW := Lib.hid hrow
    have hb3 : Below w2.heap.size w2 w3 := ((Below.refl _ _).alloc (Nat.le_refl _) _).grown hg2 (by simp) (fun k hk => by
      have : w2.heap.size = k := by simpa [Value.ownBlock] using hk
      omega)
    have HB3 := Lib.hid hb3
    have HQ3 := Lib.hid (HQ.out.below hb3)
    have HT3 := Lib.hid (HT1.out.below hb3)
    have hq1 : (w2.alloc (.cells #[] 4)).cell? ⟨w.heap.size + 1, 1, none⟩ = some (.slice ua un uc) := by rw [World.cell?_alloc_lt _ _ _ HQ.out.2.2.2.1]; exact q1
    have hul : un = up.length := HQ.out.2.2.1.1
    have HUL := Lib.hid hul
    have hst : Hid (∃ m : Nat, un ≤ m ∧ i + 1 - m ≤ i + 1 - un ∧ (m = un ∨ m ≤ i + 1) ∧ w3.ownsRow w2.heap.size 4 1 v2 m (bcs (mores up m)) ∧ Below w2.heap.size w2 w3) := Lib.hid ⟨un, Nat.le_refl _, Nat.le_refl _, .inl rfl, by
      have e : mores up un = up := by unfold mores; rw [hul, Nat.sub_self]; simp
      rw [e]; exact hrow, hb3⟩
    obtain ⟨i0, hi0, hz0, hz1, hz2⟩ := info_parts info4
    have hszw := hb3.size
    clear hrun hrow hb3 hul
    go_wp2_with (at_builtin; ((with_reducible refine wpList_append_run ?_ (.tmp 41) (.tmp 43) 42 42 ?_ ?_ ?_ 42 ?_ HRUN.out ?_); (focus rfl); (focus rfl); (focus rfl); (focus rfl); (focus rfl)))
    go_loopg [10] (i + 1 - un) (fun gg s10 wr => Hid (∃ m : Nat, un ≤ m ∧ i + 1 - m ≤ gg ∧ (m = un ∨ m ≤ i + 1) ∧ wr.ownsRow w2.heap.size 4 1 s10 m (bcs (mores up m)) ∧ Below w2.heap.size w2 wr))
    case atStart => exact hst
    case round =>
      clear hst
      obtain ⟨m, hm1, hm2, hm3, hrow, hbr⟩ := hrel.out
      clear hrel
      by_cases hlt : m ≤ i
      · have hltz : (m : Int) ≤ (i : Int) := by omega
        have HNX := Lib.hid (mores_next up (m := m) (by rw [← HUL.out]; exact hm1))
        have hrow2 := World.ownsRow.alloc hrow (.cells #[.bool false] 4)
        obtain ⟨aa, cap, rfl⟩ := row_form hrow
        have HR2 := Lib.hid hrow2
        have HBR := Lib.hid hbr
        have hsr := hbr.size
        generalize bcs (mores up m) = zs at HNX HR2
        clear hrow hrow2 hbr
        go_wp2_with (at_builtin; refine wpList_append_own _ rfl _ _ 42 rfl w2.heap.size 4 i0 (.bool false) 1 1 Try.underlying42 hi0 hz0 hz1 hz2 rfl (by decide) _ m zs rfl HR2.out ⟨_, 0, none⟩ 1 1 [.bool false] rfl rfl (cell_one_at _ _ rfl) (by intro u hu; simp at hu; subst hu; rfl) (by simp only [maxLen]; omega) (by omega) (by simp; omega) ?_; intro v1 w4 hown1 hgrow1 hnil1)
        go_roundg (i + 1 - (m + 1))
        case measure => omega
        case rel =>
          refine Lib.hid ⟨m + 1, by omega, Nat.le_refl _, .inr (by omega), by rw [HNX.out]; exact hown1, ?_⟩
          exact (HBR.out.alloc (by omega) _).grown hgrow1 (by simp; omega) (fun q hq => (HR2.out.lt q hq).1)
      · have hltz : ¬ (m : Int) ≤ (i : Int) := by omega
        rcases hrow.2 with ⟨_, h0⟩ | ⟨g, cap, cur, rfl, hbg, hg, hmc, hcm, hcs, htake⟩
        · omega
        have hgl := (Array.getElem?_eq_some_iff.1 hg).1
        have hcells := hrow.cells (g := g) rfl
        have hml := mores_len up (m := m) (by rw [← HUL.out]; exact hm1)
        have hcell : ∀ j, j < m → wr.cell? ⟨g, j, none⟩ = some (.bool (mores up m)[j]!) := fun j hj => by
          have := hcells j (.bool (mores up m)[j]!) (by rw [bcs, List.getElem?_map, List.getElem?_eq_getElem (by omega), getElem!_pos _ j (by omega)]; rfl)
          rwa [add_plain, Nat.zero_add] at this
        have f0 := hcell i (by omega)
        have f1 : wr.frozen? ⟨g, i, none⟩ = false := by simp [World.frozen?, hg]
        have f2 : (i : Int) < (m : Int) := by omega
        have hb5 : Below w2.heap.size w2 (wr.setCell ⟨g, i, none⟩ (.bool true)) := hbr.setCell (by exact hbg) _
        have hT5 := HT1.out.below hb5
        obtain ⟨-, -, -, hMl, q5, -⟩ := HQ.out.below hb5
        obtain ⟨up2, hup2⟩ : ∃ u, (mores up m).set i true = u := ⟨_, rfl⟩
        have hul2 : up2.length = m := by rw [← hup2, List.length_set, hml]
        have hBls : Bls (wr.setCell ⟨g, i, none⟩ (.bool true)) (some ⟨g, 0, none⟩) m cap up2 := ⟨hul2.symm, hmc, fun _ => ⟨g, 0, rfl, by simpa using hgl, fun j hj => by
          rw [Nat.zero_add]
          by_cases e : i = j
          · subst e
            rw [World.cell?_setCell_same _ _ _ f0, ← hup2, getElem!_pos _ i (by rw [List.length_set]; omega)]
            simp
          · have e1 : up2[j]! = (mores up m)[j]! := by
              rw [← hup2]
              simp only [getElem!_def, List.getElem?_set_ne e]
            rw [World.cell?_setCell_other _ _ _ _ (by intro e'; simp only [Addr.mk.injEq] at e'; exact e e'.2.1), hcell j hj, e1]⟩⟩
        have hup : upAt up2 (i : Int) = true := by
          rw [upAt, Int.toNat_natCast, decide_eq_true (by rw [hul2]; omega), ← hup2, getElem!_pos _ i (by rw [List.length_set]; omega)]
          simp
        have hf0 : fst pla s up2 = some 0 := fst_some (by rw [HLL.out]; omega) (by rw [Nat.add_zero, HLL.out, Nat.mod_eq_of_lt hs2, HPI.out]; exact hup) (fun q hq => by omega)
        have hc := find_any (uc := cap) (xn : Int) hT5 hBls (fun j hj => by
          obtain ⟨q, _, e⟩ := HIN.out j (by rw [← HLL.out]; exact hj)
          rw [e]; omega) (by omega) (by omega) hx1
        rw [Int.toNat_natCast, HS.out, who, whoIs, hf0] at hc
        simp only [Nat.add_zero, HLL.out, Nat.mod_eq_of_lt hs2, HPI.out, Option.isSome_some] at hc
        have C19 := Lib.hid hc
        have HB5 := Lib.hid (below_next hTot.out hTot.out.size hb5)
        clear hc hf0 hup hBls hul2 hup2 hT5 hb5 hcell hcells hml hg htake hrow hbr
        go_wp2_with fail
        refine C19.out.mono ?_
        rintro e w6 ⟨rfl, rfl⟩
        go_wp2_with (go_at_call 10; refine (HAL.out _).mono ?_; rintro e w7 ⟨rfl, hb7⟩)
        go_ret
        exact ⟨by rfl, below_next HB5.out HB5.out.size hb7⟩

end Go.Proofs.Ytpkahjflhboddaa
