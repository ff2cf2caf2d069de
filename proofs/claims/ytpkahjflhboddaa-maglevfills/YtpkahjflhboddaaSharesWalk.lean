/-
  What the function of MaglevShares does, whatever backends it is given.
-/
import Derived.Test.YtpkahjflhboddaaLaw
import Derived.Deep.RegionHeld3
namespace Go.Proofs.Ytpkahjflhboddaa
open Go.RowKit
set_option linter.unusedVariables false
set_option linter.unusedSimpArgs false
set_option maxRecDepth 10000
attribute [local go_sem ↓] big22


/-- How many places those have that are told first. -/
def inB (j : Nat) (x : Int) : Bool := decide (0 ≤ x ∧ x < (j : Int))
theorem count_lt (pl : List Int) (j : Nat) : pl.countP (inB (j + 1)) = pl.countP (inB j) + pl.count (j : Int) := by
  induction pl with
  | nil => rfl
  | cons y r ih =>
    rw [List.countP_cons, List.countP_cons, List.count_cons, ih]
    by_cases h : y = (j : Int)
    · subst h
      have e1 : inB (j + 1) (j : Int) = true := decide_eq_true (by omega)
      have e2 : inB j (j : Int) = false := decide_eq_false (by omega)
      rw [e1, e2]; simp; omega
    · have e1 : inB (j + 1) y = inB j y := by
        unfold inB
        rw [decide_eq_decide]; omega
      have e2 : (y == (j : Int)) = false := by simpa using h
      rw [e1, e2]; simp; omega
theorem count_none (pl : List Int) : pl.countP (inB 0) = 0 := by
  rw [List.countP_eq_zero]; intro x _; simp [inB]
theorem count_whole {pl : List Int} {n : Nat} (hl : pl.length = 251) (h : ∀ p, p < 251 → ∃ i : Nat, i < n ∧ pl[p]! = (i : Int)) : pl.countP (inB n) = 251 := by
  rw [← hl, List.countP_eq_length]
  intro x hx
  obtain ⟨p, hp, rfl⟩ := List.getElem_of_mem hx
  obtain ⟨i, hi, e⟩ := h p (by omega)
  rw [getElem!_pos pl p hp] at e
  rw [e]
  exact decide_eq_true (by omega)
theorem count_le (pl : List Int) (j : Nat) : pl.countP (inB j) ≤ pl.length := List.countP_le_length

/-- The counts, by numbers and by ranks. -/
theorem count_lab {l : List Bk} {o : List Nat} {pl : List (Option Nat)} (ho : IsOrd l o) (hw : ∀ (p r : Nat), pl[p]? = some (some r) → r < l.length) {r : Nat} (hr : r < l.length) : (lab o pl).count ((o[r]! : Nat) : Int) = cnt r pl := by
  unfold lab cnt
  rw [List.count, List.countP_map]
  apply List.countP_congr
  intro x hx
  obtain ⟨p, hp, rfl⟩ := List.getElem_of_mem hx
  rcases hx' : pl[p] with _ | s
  · simp [lab1]
  · have hs := hw p s (by rw [List.getElem?_eq_getElem hp, hx'])
    simp only [Function.comp, lab1, beq_iff_eq, Option.some.injEq]
    constructor
    · intro e
      exact ho.inj hs hr (by omega)
    · rintro rfl; rfl

/-- Who has the greatest weight has no fewer places than any other one has, but one. -/
theorem shares_lab {k : List Int} {l : List Bk} {o : List Nat} {t : Nat} {pl : List (Option Nat)} (hR : Right l) (ho : IsOrd l o) (hlay : Lays t (sds k l o) pl) {i j : Nat} (hi : i < l.length) (hj : j < l.length) (hw : (l[i]!).wt = (t : Int)) :
    (lab o pl).count (j : Int) ≤ (lab o pl).count (i : Int) + 1 := by
  have hsl : (sds k l o).length = l.length := by rw [sds_len, ho.1]
  obtain ⟨r, hr, hor⟩ := ho.all hR.2.2.2 hi
  obtain ⟨s, hs, hos⟩ := ho.all hR.2.2.2 hj
  have hwho : ∀ (p q : Nat), pl[p]? = some (some q) → q < l.length := fun p q e => by
    obtain ⟨m, rfl, _⟩ := hlay
    have := pls_who (t := t) (S := sds k l o) (by rw [hsl]; exact hR.1) m p q e
    omega
  have h1 := count_lab ho hwho hr
  have h2 := count_lab ho hwho hs
  rw [hor] at h1
  rw [hos] at h2
  rw [h1, h2]
  refine shares (by rw [hsl]; exact hR.1) hlay r s (by omega) (by omega) ?_
  rw [sds_at k l o (by rw [ho.1]; exact hr), hor, hw]
  simp

set_option maxHeartbeats 4000000 in
theorem shares_walk (k : List Int) (a : Option Addr) (n c : Nat) (l : List Bk) (w : World) (hk : Key k) (hB : Bks w a n c l) (hw : Wide l) : Calls Try.prog 5 #[kv k, .slice a n c] w fun e w' => e = .returned (.bool true) ∧ Below w.heap.size w w' := by
  have HN := Lib.hid hB.1
  obtain ⟨A, hA⟩ : ∃ A, (cel k).toArray = A := ⟨_, rfl⟩
  have hAs : A.size = 16 := by rw [← hA, List.size_toArray, cel_len, hk.1]
  have hkA : kv k = .agg A := by rw [← hA]; rfl
  have HAS := Lib.hid hAs
  have HK := Lib.hid hk
  have HNEW := Lib.hid (fun W a n c (hB : Bks W a n c l) => new_is k hk hw hB)
  rw [hkA] at HNEW ⊢
  have HAL := Lib.hid (fun w => alive_any w)
  have hb0 : Below w.heap.size w (w.alloc (.cells A 22)).drew := ((Below.refl _ _).alloc (Nat.le_refl _) _).drew
  have hA0 : Ar (w.alloc (.cells A 22)) w.heap.size A.toList := by simpa using Ar.new w A.toList 22
  have HLS : Hid (LS w.heap.size A a n c l (w.alloc (.cells A 22)).drew) := Lib.hid ⟨hA0.drew, hB.below hb0⟩
  have HB0 := Lib.hid hb0
  clear hb0 hA0
  clear hk hw hB hA hAs hkA
  go_enter Try.func5, Try.ntmps5
  go_wp2
  refine wp_region_held_drew (S := (fun W => LS w.heap.size A a n c l W)) (by kernel_rfl) HLS.out (fun hHeld => ?_)
  refine wpAnyH_take (i := 0) (oi := ({ dst := some 15, op := Go.Op.load 22 (Go.Operand.tmp 2), type := 22, pos := _, after := #[], guard := none } : Oper)) (v := ?_) rfl (by kernel_rfl) (by kernel_rfl) (by kernel_rfl) (fun _ _ _ h => h) (Or.inl ⟨by rfl, ?_⟩) (by assumption) ?_
  rotate_left
  · intro W' hSw
    try dsimp only at hSw
    have hkey := load_key22 hSw.1 HAS.out
    go_simp
    try with_reducible rfl
  try simp only [Act.put, List.setIfInBounds_toArray, List.set_cons_zero, List.set_cons_succ]
  refine wpAnyH_take (i := 1) (oi := ({ dst := some 16, op := Go.Op.move (Go.Operand.tmp 1), type := 23, pos := _, after := #[], guard := none } : Oper)) (v := ?_) rfl (by kernel_rfl) (by kernel_rfl) (by kernel_rfl) (fun _ _ _ h => h) (Or.inl ⟨by rfl, ?_⟩) (by assumption) ?_
  rotate_left
  · intro W' hSw
    try dsimp only at hSw
    go_simp
    try with_reducible rfl
  try simp only [Act.put, List.setIfInBounds_toArray, List.set_cons_zero, List.set_cons_succ]
  refine wpAnyH_ready (rs := [2]) (by kernel_rfl) (by simp) ?_
  refine AllReadyH.cons (o := ({ dst := some 17, op := Go.Op.call { callee := Go.Callee.value (Go.Operand.func 12), args := #[Go.Operand.tmp 16], argTypes := #[23] }, type := 29, pos := _, after := #[{ on := 1, ground := Go.Ground.data }], guard := none } : Oper)) rfl (fun K hK => ?_) AllReadyH.nil
  go_simp
  refine (own_any hHeld.2).mono ?_
  rintro e v1 ⟨oa1, oc1, rfl, hob1, hb1a⟩
  go_wp2_with fail
  refine hK.out _ _ ?_ (fun hHeld => ?_)
  · exact hHeld.below hb1a
  clear hK K
  try simp only [Act.put, List.setIfInBounds_toArray, List.set_cons_zero, List.set_cons_succ]
  have HOB1 := Lib.hid hob1
  have HBA1 := Lib.hid hb1a
  clear hob1 hb1a
  refine wpAnyH_ready (rs := [3]) (by kernel_rfl) (by simp) ?_
  refine AllReadyH.cons (o := ({ dst := some 18, op := Go.Op.call { callee := Go.Callee.value (Go.Operand.func 11), args := #[Go.Operand.tmp 15, Go.Operand.tmp 17], argTypes := #[51, 29] }, type := 27, pos := _, after := #[{ on := 0, ground := Go.Ground.data }, { on := 2, ground := Go.Ground.data }, { on := 2, ground := Go.Ground.chain }], guard := none } : Oper)) rfl (fun K hK => ?_) AllReadyH.nil
  go_simp
  refine (HNEW.out _ _ _ _ HOB1.out).mono ?_
  rintro e w1 ⟨tv1, ev1, rfl, hni1, hb1b⟩
  go_wp2_with fail
  refine hK.out _ _ ?_ (fun hHeld => ?_)
  · exact hHeld.below hb1b
  clear hK K
  try simp only [Act.put, List.setIfInBounds_toArray, List.set_cons_zero, List.set_cons_succ]
  have HNI1 := Lib.hid hni1
  have HBB1 := Lib.hid (HBA1.out.trans (hb1b.mono HBA1.out.size))
  have HL1 := Lib.hid hHeld
  clear hni1 hb1b
  refine wpAnyH_take (i := 4) (oi := ({ dst := some 14, op := Go.Op.move (Go.Operand.tmp 18), type := 27, pos := _, after := #[{ on := 3, ground := Go.Ground.data }], guard := none } : Oper)) (v := ?_) rfl (by kernel_rfl) (by kernel_rfl) (by kernel_rfl) (fun _ _ _ h => h) (Or.inl ⟨by rfl, ?_⟩) (by assumption) ?_
  rotate_left
  · intro W' hSw
    try dsimp only at hSw
    go_simp
    try with_reducible rfl
  try simp only [Act.put, List.setIfInBounds_toArray, List.set_cons_zero, List.set_cons_succ]
  refine wpAnyH_take (i := 5) (oi := ({ dst := some 19, op := Go.Op.extract (Go.Operand.tmp 14) 0, type := 25, pos := _, after := #[{ on := 4, ground := Go.Ground.data }], guard := none } : Oper)) (v := ?_) rfl (by kernel_rfl) (by kernel_rfl) (by kernel_rfl) (fun _ _ _ h => h) (Or.inl ⟨by rfl, ?_⟩) (by assumption) ?_
  rotate_left
  · intro W' hSw
    try dsimp only at hSw
    go_simp
    try with_reducible rfl
  try simp only [Act.put, List.setIfInBounds_toArray, List.set_cons_zero, List.set_cons_succ]
  refine wpAnyH_take (i := 6) (oi := ({ dst := some 20, op := Go.Op.extract (Go.Operand.tmp 14) 1, type := 26, pos := _, after := #[{ on := 4, ground := Go.Ground.data }, { on := 7, ground := Go.Ground.gcOnly Go.Departure.lateStores }], guard := none } : Oper)) (v := ?_) rfl (by kernel_rfl) (by kernel_rfl) (by kernel_rfl) (fun _ _ _ h => h) (Or.inl ⟨by rfl, ?_⟩) (by assumption) ?_
  rotate_left
  · intro W' hSw
    try dsimp only at hSw
    go_simp
    try with_reducible rfl
  try simp only [Act.put, List.setIfInBounds_toArray, List.set_cons_zero, List.set_cons_succ]
  refine wpAnyH_take (i := 7) (oi := ({ dst := some 5, op := Go.Op.assign (Go.Operand.tmp 19), type := 25, pos := _, after := #[{ on := 5, ground := Go.Ground.data }, { on := 3, ground := Go.Ground.chain }, { on := 0, ground := Go.Ground.phase }, { on := 1, ground := Go.Ground.phase }, { on := 2, ground := Go.Ground.phase }, { on := 3, ground := Go.Ground.phase }, { on := 4, ground := Go.Ground.phase }, { on := 5, ground := Go.Ground.phase }, { on := 6, ground := Go.Ground.textOnly Go.Departure.lateStores }], guard := none } : Oper)) (v := ?_) rfl (by kernel_rfl) (by kernel_rfl) (by kernel_rfl) (fun _ _ _ h => h) (Or.inl ⟨by rfl, ?_⟩) (by assumption) ?_
  rotate_left
  · intro W' hSw
    try dsimp only at hSw
    go_simp
    try with_reducible rfl
  try simp only [Act.put, List.setIfInBounds_toArray, List.set_cons_zero, List.set_cons_succ]
  refine wpAnyH_take (i := 8) (oi := ({ dst := some 6, op := Go.Op.assign (Go.Operand.tmp 20), type := 26, pos := _, after := #[{ on := 6, ground := Go.Ground.data }, { on := 7, ground := Go.Ground.chain }, { on := 0, ground := Go.Ground.phase }, { on := 1, ground := Go.Ground.phase }, { on := 2, ground := Go.Ground.phase }, { on := 3, ground := Go.Ground.phase }, { on := 4, ground := Go.Ground.phase }, { on := 5, ground := Go.Ground.phase }, { on := 6, ground := Go.Ground.phase }, { on := 7, ground := Go.Ground.phase }], guard := none } : Oper)) (v := ?_) rfl (by kernel_rfl) (by kernel_rfl) (by kernel_rfl) (fun _ _ _ h => h) (Or.inl ⟨by rfl, ?_⟩) (by assumption) ?_
  rotate_left
  · intro W' hSw
    try dsimp only at hSw
    go_simp
    try with_reducible rfl
  try simp only [Act.put, List.setIfInBounds_toArray, List.set_cons_zero, List.set_cons_succ]
  refine wpAnyH_done (by kernel_rfl) ?_ _

  have hTot : Hid (Below w.heap.size w w1) := Lib.hid (below_next HB0.out HB0.out.size HBB1.out)
  have hni1 := HNI1.out
  have HBk := Lib.hid HL1.out.2
  clear HNI1 HNEW HOB1 HBA1 hHeld HL1 HLS
  rcases hni1 with ⟨hnr, rfl, rfl⟩ | ⟨hR, tb1, rfl, rfl, o, t, pl, ho, ht, hlay, hT1⟩
  · go_wp2_with (go_at_call 10; refine (HAL.out _).mono ?_; rintro e w3 ⟨rfl, hb3⟩)
    go_ret
    exact ⟨by rfl, below_next hTot.out hTot.out.size hb3⟩
  · obtain ⟨hll, hin⟩ := lab_in hR ho hlay
    have HT1 := Lib.hid hT1
    have hn16 : n ≤ 16 := by rw [HN.out]; exact hR.2.1
    have HSH := Lib.hid (fun i j (hi : i < l.length) (hj : j < l.length) (hw : (l[i]!).wt = (t : Int)) => shares_lab hR ho hlay hi hj hw)
    have HWH := Lib.hid (count_whole hll hin)
    have HTOP := Lib.hid ht
    have HR := Lib.hid hR
    obtain ⟨pla, hpla⟩ : ∃ p, lab o pl = p := ⟨_, rfl⟩
    rw [hpla] at HT1 HSH HWH
    have HPL := Lib.hid (show pla.length = 251 by rw [← hpla]; exact hll)
    have hst : Hid (∃ (j : Nat) (tt : Int), j + n = n ∧ (.int .i64 0 : Value) = .int .i64 j ∧ (.int .i64 0 : Value) = .int .i64 tt ∧ TopTo l j tt ∧ (.int .i64 0 : Value) = .int .i64 ((pla.countP (inB (j)) : Nat) : Int) ∧ Below w1.heap.size w1 w1) :=
      Lib.hid ⟨0, 0, by omega, rfl, rfl, ⟨by omega, fun i hi => by omega, .inl rfl⟩, by rw [count_none]; rfl, Below.refl _ _⟩
    clear hll hin hT1 ho ht hlay hR hpla HB0 HBB1
    go_wp2
    go_loopg [7, 8, 9, 10, 30] n (fun gg s7 s8 _ _ s30 wr => Hid (∃ (j : Nat) (tt : Int), j + gg = n ∧ s30 = .int .i64 j ∧ s7 = .int .i64 tt ∧ TopTo l j tt ∧ s8 = .int .i64 ((pla.countP (inB (j)) : Nat) : Int) ∧ Below w1.heap.size w1 wr))
    case atStart => exact hst
    case round =>
      clear hst
      obtain ⟨j, tt, hj, rfl, rfl, htt, rfl, hbr⟩ := hrel.out
      clear hrel
      by_cases hlt : j < n
      · have hltz : (j : Int) < (n : Int) := by omega
        obtain ⟨b, off, rfl, hbb, c0, c1⟩ := bk_at (HBk.out.below hbr) hlt
        have HT := Lib.hid htt.next
        have HCN := Lib.hid (count_lt pla j)
        have hcl := count_le pla j
        rw [HPL.out] at hcl
        have hcl2 : pla.count (j : Int) ≤ 251 := by rw [← HPL.out]; exact List.count_le_length
        generalize (l[j]!).name = nm at c0 c1 HT
        generalize (l[j]!).wt = wt at c0 c1 HT
        generalize (pla.countP (inB (j))) = q at HCN hcl ⊢
        have HC := Lib.hid (count_any (HT1.out.below (hbr.alloc hbr.size (.cells #[.string nm, .int .i64 wt] 39))) (j : Int))
        generalize pla.count (j : Int) = q2 at HCN HC hcl2
        have HBR := Lib.hid (hbr.alloc hbr.size (.cells #[.string nm, .int .i64 wt] 39))
        have g1 : IntKind.i64.wrap ((q : Int) + (q2 : Int)) = (q : Int) + (q2 : Int) := by rw [IntKind.wrap_i64]; omega
        clear htt hbr
        go_wp2_with (go_at_call 18; refine HC.out.mono ?_; rintro e w3 ⟨rfl, rfl⟩)
        go_roundg (n - (j + 1))
        case measure => omega
        case rel => exact Lib.hid ⟨j + 1, _, by omega, by go_num, rfl, HT.out, by rw [HCN.out]; go_num, HBR.out⟩
      · have hltz : ¬ (j : Int) < (n : Int) := by omega
        obtain rfl : j = n := by omega
        have hq := HWH.out
        rw [← HN.out] at hq
        rw [hq]
        have htop : tt = (t : Int) := by
          rw [HN.out] at htt
          exact (htt.isTop HR.out.1 (fun i hi => (HR.out.2.2.1 i hi).2.2.1)).same HTOP.out
        subst htop
        have HBR := Lib.hid hbr
        have hsr := hbr.size
        have hst2 : Hid (∃ i : Nat, i + j = j ∧ (.int .i64 0 : Value) = .int .i64 i ∧ Below w1.heap.size w1 wr) := Lib.hid ⟨0, by omega, rfl, hbr⟩
        clear htt hbr hq
        go_wp2
        go_loopg [11, 12, 13, 47, 54] j (fun gg _ _ _ s47 _ wr => Hid (∃ i : Nat, i + gg = j ∧ s47 = .int .i64 i ∧ Below w1.heap.size w1 wr))
        case atStart => exact hst2
        case round =>
          clear hst2
          obtain ⟨i, hi, rfl, hbr⟩ := hrel.out
          clear hrel
          by_cases hlt2 : i < j
          · have hltz2 : (i : Int) < (j : Int) := by omega
            obtain ⟨b, off, rfl, hbb, c0, c1⟩ := bk_at (HBk.out.below hbr) hlt2
            have hil : i < l.length := by rw [← HN.out]; exact hlt2
            have HSI := Lib.hid (fun q (hq : q < l.length) (hw : (l[i]!).wt = (t : Int)) => HSH.out i q hil hq hw)
            generalize (l[i]!).name = nm at c0 c1
            generalize (l[i]!).wt = wt at c0 c1 HSI
            have hb2 := hbr.alloc hbr.size (.cells #[.string nm, .int .i64 wt] 39)
            have HBR2 := Lib.hid hb2
            have hcell : (wr.alloc (.cells #[.string nm, .int .i64 wt] 39)).cell? ⟨wr.heap.size, 1, none⟩ = some (.int .i64 wt) := by simp [go_sem]
            have HTB := Lib.hid (HT1.out.below hb2)
            obtain ⟨wx, hwx⟩ : ∃ W, W = wr.alloc (.cells #[.string nm, .int .i64 wt] 39) := ⟨_, rfl⟩
            clear hbr hb2
            go_wp2
            rw [← hwx] at HBR2 HTB hcell ⊢
            clear hwx c0 c1
            go_loopg [13, 54] j (fun gg _ s54 wq => Hid (∃ q : Nat, q + gg = j ∧ s54 = .int .i64 q ∧ wq = wx))
            case atStart => exact Lib.hid ⟨0, by omega, rfl, rfl⟩
            case round =>
              obtain ⟨q, hq, rfl, rfl⟩ := hrel.out
              clear hrel
              by_cases hlt3 : q < j
              · have hltz3 : (q : Int) < (j : Int) := by omega
                by_cases hwt : wt = (t : Int)
                · have hs := HSI.out q (by rw [← HN.out]; exact hlt3) hwt
                  have hc1 := count_any HTB.out (i : Int)
                  have hc2 := count_any HTB.out (q : Int)
                  have hb1 : pla.count (i : Int) ≤ 251 := by rw [← HPL.out]; exact List.count_le_length
                  have hb2 : pla.count (q : Int) ≤ 251 := by rw [← HPL.out]; exact List.count_le_length
                  generalize pla.count (i : Int) = z1 at hs hc1 hb1
                  generalize pla.count (q : Int) = z2 at hs hc2 hb2
                  have C1 := Lib.hid hc1
                  have C2 := Lib.hid hc2
                  have g1 : IntKind.i64.wrap ((z2 : Int) - 1) = (z2 : Int) - 1 := by rw [IntKind.wrap_i64]; omega
                  have g2 : ¬ (z1 : Int) < (z2 : Int) - 1 := by omega
                  have g3 : decide ((z1 : Int) < (z2 : Int) - 1) = false := decide_eq_false g2
                  subst hwt
                  clear hc1 hc2 hs hb1 hb2
                  go_wp2_with fail
                  refine C1.out.mono ?_
                  rintro e w3 ⟨rfl, rfl⟩
                  go_wp2_with fail
                  refine C2.out.mono ?_
                  rintro e w3 ⟨rfl, rfl⟩
                  go_wp2
                  go_roundg (j - (q + 1))
                  case measure => omega
                  case rel => exact Lib.hid ⟨q + 1, by omega, by go_num, rfl⟩
                · have g3 : (wt == (t : Int)) = false := by simpa using hwt
                  go_wp2
                  go_roundg (j - (q + 1))
                  case measure => omega
                  case rel => exact Lib.hid ⟨q + 1, by omega, by go_num, rfl⟩
              · have hltz3 : ¬ (q : Int) < (j : Int) := by omega
                go_wp2
                go_roundg (j - (i + 1))
                case measure => omega
                case rel => exact Lib.hid ⟨i + 1, by omega, by go_num, HBR2.out⟩
          · have hltz2 : ¬ (i : Int) < (j : Int) := by omega
            have HBR2 := Lib.hid (below_next hTot.out hTot.out.size hbr)
            clear hbr
            go_wp2_with (go_at_call 10; refine (HAL.out _).mono ?_; rintro e w3 ⟨rfl, hb3⟩)
            go_ret
            exact ⟨by rfl, below_next HBR2.out HBR2.out.size hb3⟩

end Go.Proofs.Ytpkahjflhboddaa
