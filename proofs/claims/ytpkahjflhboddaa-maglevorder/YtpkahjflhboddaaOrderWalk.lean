/-
  What the function of MaglevOrder does, whatever backends and question it is given.
-/
import Derived.Test.YtpkahjflhboddaaLaw
import Derived.Deep.RegionHeld3
import Derived.Test.YtpkahjflhboddaaOrderPre
import Derived.Test.YtpkahjflhboddaaTurnsWalk
namespace Go.Proofs.Ytpkahjflhboddaa
open Go.RowKit
set_option linter.unusedVariables false
set_option linter.unusedSimpArgs false
set_option maxRecDepth 10000
attribute [local go_sem ↓] big22


/-- What stays. -/
def OF (w : World) (A : Array Value) (a : Option Addr) (n c : Nat) (l : List Bk) (x : Int) (ua : Option Addr) (un uc : Nat) (up : List Bool) (tb1 tb2 g1 g2 : Nat) (la lb ra rb : List Int) (W : World) : Prop :=
  LQ w.heap.size (w.heap.size + 1) A a n c l x ua un uc up W ∧ Tab W tb1 l la ra ∧ Tab W tb2 l.reverse lb rb ∧ NamesAt W g1 l ∧ NamesAt W g2 l.reverse
theorem OF.below {w : World} {A : Array Value} {a : Option Addr} {n c : Nat} {l : List Bk} {x : Int} {ua : Option Addr} {un uc : Nat} {up : List Bool} {tb1 tb2 g1 g2 : Nat} {la lb ra rb : List Int} {W W' : World} (h : OF w A a n c l x ua un uc up tb1 tb2 g1 g2 la lb ra rb W) (hb : Below W.heap.size W W') : OF w A a n c l x ua un uc up tb1 tb2 g1 g2 la lb ra rb W' :=
  ⟨h.1.below hb, h.2.1.below hb, h.2.2.1.below hb, h.2.2.2.1.below hb, h.2.2.2.2.below hb⟩

def TuRel (w : World) (w1 : World) (n : Nat) (l : List Bk) (gg : Nat) (s9 s10 : Value) (wr : World) : Prop :=
  ∃ j : Nat, j + gg = n ∧ s10 = .int .i64 ((n : Int) - 1 - (j : Int)) ∧ wr.ownsRow w1.heap.size 39 2 s9 j (bcells (l.reverse.take j)) ∧ Below w1.heap.size w1 wr

set_option maxHeartbeats 8000000 in
theorem order_walk (k : List Int) (a : Option Addr) (n c : Nat) (l : List Bk) (x : Int) (ua : Option Addr) (un uc : Nat) (up : List Bool) (w : World) (hk : Key k) (hB : Bks w a n c l) (hw : Wide l) (hU : Bls w ua un uc up) (hun : un ≤ 140737488351232) (hx0 : 0 ≤ x) (hx1 : x ≤ 18446744073709551615) :
    Calls Try.prog 6 #[kv k, .slice a n c, .agg #[.int .u64 x, .slice ua un uc]] w fun e w' => e = .returned (.bool true) ∧ Below w.heap.size w w' := by
  have HN := Lib.hid hB.1
  have hnb := hB.2.2.1
  obtain ⟨A, hA⟩ : ∃ A, (cel k).toArray = A := ⟨_, rfl⟩
  have hAs : A.size = 16 := by rw [← hA, List.size_toArray, cel_len, hk.1]
  have hkA : kv k = .agg A := by rw [← hA]; rfl
  have HAS := Lib.hid hAs
  have HK := Lib.hid hk
  have HNEW := Lib.hid (fun W a n c (hB : Bks W a n c l) => new_is k hk hw hB)
  have HNEW2 := Lib.hid (fun W a n c (hB : Bks W a n c l.reverse) => new_is k hk (wide_rev hw) hB)
  rw [hkA] at HNEW HNEW2 ⊢
  have HAL := Lib.hid (fun w => alive_any w)
  have hb0 : Below w.heap.size w ((w.alloc (.cells A 22)).alloc (.cells #[.int .u64 x, .slice ua un uc] 44)).drew := (((Below.refl _ _).alloc (Nat.le_refl _) _).alloc (by simp) _).drew
  have hA0 : Ar (w.alloc (.cells A 22)) w.heap.size A.toList := by simpa using Ar.new w A.toList 22
  have hQ0 : Ar ((w.alloc (.cells A 22)).alloc (.cells #[.int .u64 x, .slice ua un uc] 44)) (w.heap.size + 1) [.int .u64 x, .slice ua un uc] := by simpa using Ar.new (w.alloc (.cells A 22)) [.int .u64 x, .slice ua un uc] 44
  have HLS : Hid (LQ w.heap.size (w.heap.size + 1) A a n c l x ua un uc up ((w.alloc (.cells A 22)).alloc (.cells #[.int .u64 x, .slice ua un uc] 44)).drew) := Lib.hid ⟨(hA0.alloc _).drew, hB.below hb0, hU.below hb0, hQ0.1, hQ0.drew.cell 0 rfl, hQ0.drew.cell 1 rfl⟩
  have HB0 := Lib.hid hb0
  clear hb0 hA0 hQ0
  clear hk hw hB hA hAs hkA
  go_enter Try.func6, Try.ntmps6
  go_wp2
  refine wp_region_held_drew (S := (fun W => LQ w.heap.size (w.heap.size + 1) A a n c l x ua un uc up W)) (by kernel_rfl) HLS.out (fun hHeld => ?_)
  refine wpAnyH_take (i := 0) (oi := ({ dst := some 23, op := Go.Op.load 22 (Go.Operand.tmp 3), type := 22, pos := _, after := #[], guard := none } : Oper)) (v := ?_) rfl (by kernel_rfl) (by kernel_rfl) (by kernel_rfl) (fun _ _ _ h => h) (Or.inl ⟨by rfl, ?_⟩) (by assumption) ?_
  rotate_left
  · intro W' hSw
    try dsimp only at hSw
    have hkey := load_key22 hSw.1 HAS.out
    go_simp
    try with_reducible rfl
  try simp only [Act.put, List.setIfInBounds_toArray, List.set_cons_zero, List.set_cons_succ]
  refine wpAnyH_take (i := 1) (oi := ({ dst := some 24, op := Go.Op.move (Go.Operand.tmp 1), type := 23, pos := _, after := #[], guard := none } : Oper)) (v := ?_) rfl (by kernel_rfl) (by kernel_rfl) (by kernel_rfl) (fun _ _ _ h => h) (Or.inl ⟨by rfl, ?_⟩) (by assumption) ?_
  rotate_left
  · intro W' hSw
    try dsimp only at hSw
    go_simp
    try with_reducible rfl
  try simp only [Act.put, List.setIfInBounds_toArray, List.set_cons_zero, List.set_cons_succ]
  refine wpAnyH_ready (rs := [2]) (by kernel_rfl) (by simp) ?_
  refine AllReadyH.cons (o := ({ dst := some 25, op := Go.Op.call { callee := Go.Callee.value (Go.Operand.func 12), args := #[Go.Operand.tmp 24], argTypes := #[23] }, type := 29, pos := _, after := #[{ on := 1, ground := Go.Ground.data }], guard := none } : Oper)) rfl (fun K hK => ?_) AllReadyH.nil
  go_simp
  refine (own_any hHeld.2.1).mono ?_
  rintro e v1 ⟨oa1, oc1, rfl, hob1, hb1a⟩
  go_wp2_with fail
  refine hK.out _ _ ?_ (fun hHeld => ?_)
  · exact hHeld.below hb1a
  clear hK K
  try simp only [Act.put, List.setIfInBounds_toArray, List.set_cons_zero, List.set_cons_succ]
  have HOB1 := Lib.hid hob1
  have HBA1 := Lib.hid hb1a
  clear hob1 hb1a
  refine wpAnyH_ready (rs := [3]) (by kernel_rfl) (by simp) ?_
  refine AllReadyH.cons (o := ({ dst := some 26, op := Go.Op.call { callee := Go.Callee.value (Go.Operand.func 11), args := #[Go.Operand.tmp 23, Go.Operand.tmp 25], argTypes := #[51, 29] }, type := 27, pos := _, after := #[{ on := 0, ground := Go.Ground.data }, { on := 2, ground := Go.Ground.data }, { on := 2, ground := Go.Ground.chain }], guard := none } : Oper)) rfl (fun K hK => ?_) AllReadyH.nil
  go_simp
  refine (HNEW.out _ _ _ _ HOB1.out).mono ?_
  rintro e w1 ⟨tv1, ev1, rfl, hni1, hb1b⟩
  go_wp2_with fail
  refine hK.out _ _ ?_ (fun hHeld => ?_)
  · exact hHeld.below hb1b
  clear hK K
  try simp only [Act.put, List.setIfInBounds_toArray, List.set_cons_zero, List.set_cons_succ]
  have HNI1 := Lib.hid hni1
  have HBB1 := Lib.hid (HBA1.out.trans (hb1b.mono HBA1.out.size))
  have HL1 := Lib.hid hHeld
  clear hni1 hb1b
  refine wpAnyH_take (i := 4) (oi := ({ dst := some 22, op := Go.Op.move (Go.Operand.tmp 26), type := 27, pos := _, after := #[{ on := 3, ground := Go.Ground.data }], guard := none } : Oper)) (v := ?_) rfl (by kernel_rfl) (by kernel_rfl) (by kernel_rfl) (fun _ _ _ h => h) (Or.inl ⟨by rfl, ?_⟩) (by assumption) ?_
  rotate_left
  · intro W' hSw
    try dsimp only at hSw
    go_simp
    try with_reducible rfl
  try simp only [Act.put, List.setIfInBounds_toArray, List.set_cons_zero, List.set_cons_succ]
  refine wpAnyH_take (i := 5) (oi := ({ dst := some 27, op := Go.Op.extract (Go.Operand.tmp 22) 0, type := 25, pos := _, after := #[{ on := 4, ground := Go.Ground.data }], guard := none } : Oper)) (v := ?_) rfl (by kernel_rfl) (by kernel_rfl) (by kernel_rfl) (fun _ _ _ h => h) (Or.inl ⟨by rfl, ?_⟩) (by assumption) ?_
  rotate_left
  · intro W' hSw
    try dsimp only at hSw
    go_simp
    try with_reducible rfl
  try simp only [Act.put, List.setIfInBounds_toArray, List.set_cons_zero, List.set_cons_succ]
  refine wpAnyH_take (i := 6) (oi := ({ dst := some 28, op := Go.Op.extract (Go.Operand.tmp 22) 1, type := 26, pos := _, after := #[{ on := 4, ground := Go.Ground.data }, { on := 7, ground := Go.Ground.gcOnly Go.Departure.lateStores }], guard := none } : Oper)) (v := ?_) rfl (by kernel_rfl) (by kernel_rfl) (by kernel_rfl) (fun _ _ _ h => h) (Or.inl ⟨by rfl, ?_⟩) (by assumption) ?_
  rotate_left
  · intro W' hSw
    try dsimp only at hSw
    go_simp
    try with_reducible rfl
  try simp only [Act.put, List.setIfInBounds_toArray, List.set_cons_zero, List.set_cons_succ]
  refine wpAnyH_take (i := 7) (oi := ({ dst := some 7, op := Go.Op.assign (Go.Operand.tmp 27), type := 25, pos := _, after := #[{ on := 5, ground := Go.Ground.data }, { on := 3, ground := Go.Ground.chain }, { on := 0, ground := Go.Ground.phase }, { on := 1, ground := Go.Ground.phase }, { on := 2, ground := Go.Ground.phase }, { on := 3, ground := Go.Ground.phase }, { on := 4, ground := Go.Ground.phase }, { on := 5, ground := Go.Ground.phase }, { on := 6, ground := Go.Ground.textOnly Go.Departure.lateStores }], guard := none } : Oper)) (v := ?_) rfl (by kernel_rfl) (by kernel_rfl) (by kernel_rfl) (fun _ _ _ h => h) (Or.inl ⟨by rfl, ?_⟩) (by assumption) ?_
  rotate_left
  · intro W' hSw
    try dsimp only at hSw
    go_simp
    try with_reducible rfl
  try simp only [Act.put, List.setIfInBounds_toArray, List.set_cons_zero, List.set_cons_succ]
  refine wpAnyH_take (i := 8) (oi := ({ dst := some 8, op := Go.Op.assign (Go.Operand.tmp 28), type := 26, pos := _, after := #[{ on := 6, ground := Go.Ground.data }, { on := 7, ground := Go.Ground.chain }, { on := 0, ground := Go.Ground.phase }, { on := 1, ground := Go.Ground.phase }, { on := 2, ground := Go.Ground.phase }, { on := 3, ground := Go.Ground.phase }, { on := 4, ground := Go.Ground.phase }, { on := 5, ground := Go.Ground.phase }, { on := 6, ground := Go.Ground.phase }, { on := 7, ground := Go.Ground.phase }], guard := none } : Oper)) (v := ?_) rfl (by kernel_rfl) (by kernel_rfl) (by kernel_rfl) (fun _ _ _ h => h) (Or.inl ⟨by rfl, ?_⟩) (by assumption) ?_
  rotate_left
  · intro W' hSw
    try dsimp only at hSw
    go_simp
    try with_reducible rfl
  try simp only [Act.put, List.setIfInBounds_toArray, List.set_cons_zero, List.set_cons_succ]
  refine wpAnyH_done (by kernel_rfl) ?_ _

  have hTot : Hid (Below w.heap.size w w1) := Lib.hid (below_next HB0.out HB0.out.size HBB1.out)
  have hni1 := HNI1.out
  have HQ := Lib.hid HL1.out
  clear HNI1 HNEW HOB1 HBA1 hHeld hU HL1 HLS
  rcases hni1 with ⟨hnr, rfl, rfl⟩ | ⟨hR, tb1, rfl, rfl, o, t, pl, ho, ht, hlay, hT1⟩
  · go_wp2_with (go_at_call 10; refine (HAL.out _).mono ?_; rintro e w3 ⟨rfl, hb3⟩)
    go_ret
    exact ⟨by rfl, below_next hTot.out hTot.out.size hb3⟩
  · have HT1 := Lib.hid hT1
    have HR := Lib.hid hR
    have HO := Lib.hid ho
    have HTP := Lib.hid ht
    have HLAY := Lib.hid hlay
    have hn16 : n ≤ 16 := by rw [HN.out]; exact hR.2.1
    have hn1 : 1 ≤ n := by rw [HN.out]; exact hR.1
    obtain ⟨i0, hi0, hz0, hz1, hz2⟩ := info_parts info39
    have g0 : IntKind.i64.wrap ((n : Int) - 1) = (n : Int) - 1 := by rw [IntKind.wrap_i64]; omega
    have hst : Hid (TuRel w w1 n l n (.slice none 0 0) (.int .i64 ((n : Int) - 1)) w1) := Lib.hid ⟨0, by omega, by simp, by simpa [bcells] using World.ownsRow_nil w1 w1.heap.size 39 2, Below.refl _ _⟩
    clear hT1 ho ht hlay hR HB0 HBB1
    go_wp2
    go_loopg [9, 10] n (fun gg s9 s10 wr => Hid (TuRel w w1 n l gg s9 s10 wr))
    case atStart => exact hst
    case round =>
      clear hst
      obtain ⟨j, hj, rfl, hrow, hbr⟩ := hrel.out
      clear hrel
      by_cases hlt : j < n
      · obtain ⟨i, hi⟩ : ∃ i : Nat, n - 1 - j = i := ⟨_, rfl⟩
        have hii : (n : Int) - 1 - (j : Int) = (i : Int) := by omega
        rw [hii]
        have hin : i < n := by omega
        have hiz : (i : Int) < (n : Int) := by omega
        have hi0z : (0 : Int) ≤ (i : Int) := by omega
        obtain ⟨b, off, rfl, hbb, c0, c1⟩ := bk_at (HQ.out.2.1.below hbr) hin
        have hnx := rev_next l (j := j) (by rw [← HN.out]; exact hlt)
        rw [← HN.out, hi] at hnx
        have HT := Lib.hid hnx
        generalize (l[i]!).name = nm at c0 c1 HT
        generalize (l[i]!).wt = wt at c0 c1 HT
        generalize bcells (l.reverse.take j) = zs at HT hrow
        have HR2 := Lib.hid (World.ownsRow.alloc hrow (.cells #[.string nm, .int .i64 wt] 39))
        have HBR := Lib.hid hbr
        have hsr := hbr.size
        have g1 : IntKind.i64.wrap ((i : Int) - 1) = (i : Int) - 1 := by rw [IntKind.wrap_i64]; omega
        clear hnx hrow hbr
        go_wp2_with (at_builtin; refine wpList_append_own _ rfl _ _ 23 rfl w1.heap.size 39 i0 _ 2 24 Try.underlying23 hi0 hz0 hz1 hz2 rfl (by decide) _ j zs rfl HR2.out ⟨_, 0, none⟩ 1 1 [.string nm, .int .i64 wt] rfl rfl (cell_two_at _ _ _ rfl) (by intro u hu; simp at hu; rcases hu with rfl | rfl <;> rfl) (by simp only [maxLen]; omega) (by omega) (by simp; omega) ?_; intro v1 w4 hown1 hgrow1 hnil1)
        go_roundg (n - (j + 1))
        case measure => omega
        case rel =>
          refine Lib.hid ⟨j + 1, by omega, by congr 1; omega, by rw [HT.out]; exact hown1, ?_⟩
          exact (HBR.out.alloc (by omega) _).grown hgrow1 (by simp; omega) (fun q hq => (HR2.out.lt q hq).1)
      · obtain rfl : j = n := by omega
        have hneg : (j : Int) - 1 - (j : Int) = -1 := by omega
        rw [hneg]
        rw [show l.reverse.take j = l.reverse by rw [HN.out, ← List.length_reverse]; exact List.take_length] at hrow
        have hnl : j = l.reverse.length := by rw [List.length_reverse]; exact HN.out
        rw [hnl] at hrow
        obtain ⟨ta, tc, rfl, hBt⟩ := bks_of_row hrow (by rw [← hnl]; omega)
        rw [← hnl] at hBt ⊢
        have HLR : Hid (l.reverse.length = l.length) := Lib.hid List.length_reverse
        have HHQ : Hid (LQ w.heap.size (w.heap.size + 1) A a j c l x ua un uc up wr ∧ Bks wr ta j tc l.reverse) := Lib.hid ⟨HQ.out.below hbr, hBt⟩
        have HBR := Lib.hid (below_next hTot.out hTot.out.size hbr)
        have HTr := Lib.hid (HT1.out.below hbr)
        clear hrow hBt hbr hneg hnl
        go_wp2
        refine wp_region_held_drew (S := (fun W => LQ w.heap.size (w.heap.size + 1) A a j c l x ua un uc up W ∧ Bks W ta j tc l.reverse)) (by kernel_rfl) HHQ.out (fun hHeld => ?_)
        refine wpAnyH_take (i := 0) (oi := ({ dst := some 51, op := Go.Op.load 22 (Go.Operand.tmp 3), type := 22, pos := _, after := #[], guard := none } : Oper)) (v := ?_) rfl (by kernel_rfl) (by kernel_rfl) (by kernel_rfl) (fun _ _ _ h => h) (Or.inl ⟨by rfl, ?_⟩) (by assumption) ?_
        rotate_left
        · intro W' hSw
          try dsimp only at hSw
          have hkey := load_key22 hSw.1.1 HAS.out
          go_simp
          try with_reducible rfl
        try simp only [Act.put, List.setIfInBounds_toArray, List.set_cons_zero, List.set_cons_succ]
        refine wpAnyH_take (i := 1) (oi := ({ dst := some 52, op := Go.Op.move (Go.Operand.tmp 9), type := 23, pos := _, after := #[], guard := none } : Oper)) (v := ?_) rfl (by kernel_rfl) (by kernel_rfl) (by kernel_rfl) (fun _ _ _ h => h) (Or.inl ⟨by rfl, ?_⟩) (by assumption) ?_
        rotate_left
        · intro W' hSw
          try dsimp only at hSw
          go_simp
          try with_reducible rfl
        try simp only [Act.put, List.setIfInBounds_toArray, List.set_cons_zero, List.set_cons_succ]
        refine wpAnyH_ready (rs := [2]) (by kernel_rfl) (by simp) ?_
        refine AllReadyH.cons (o := ({ dst := some 53, op := Go.Op.call { callee := Go.Callee.value (Go.Operand.func 12), args := #[Go.Operand.tmp 52], argTypes := #[23] }, type := 29, pos := _, after := #[{ on := 1, ground := Go.Ground.data }], guard := none } : Oper)) rfl (fun K hK => ?_) AllReadyH.nil
        go_simp
        refine (own_any hHeld.2).mono ?_
        rintro e v2 ⟨oa2, oc2, rfl, hob2, hb2a⟩
        go_wp2_with fail
        refine hK.out _ _ ?_ (fun hHeld => ?_)
        · exact ⟨hHeld.1.below hb2a, hHeld.2.below hb2a⟩
        clear hK K
        try simp only [Act.put, List.setIfInBounds_toArray, List.set_cons_zero, List.set_cons_succ]
        have HOB2 := Lib.hid hob2
        have HBA2 := Lib.hid hb2a
        clear hob2 hb2a
        refine wpAnyH_ready (rs := [3]) (by kernel_rfl) (by simp) ?_
        refine AllReadyH.cons (o := ({ dst := some 54, op := Go.Op.call { callee := Go.Callee.value (Go.Operand.func 11), args := #[Go.Operand.tmp 51, Go.Operand.tmp 53], argTypes := #[51, 29] }, type := 27, pos := _, after := #[{ on := 0, ground := Go.Ground.data }, { on := 2, ground := Go.Ground.data }, { on := 2, ground := Go.Ground.chain }], guard := none } : Oper)) rfl (fun K hK => ?_) AllReadyH.nil
        go_simp
        refine (HNEW2.out _ _ _ _ HOB2.out).mono ?_
        rintro e w2 ⟨tv2, ev2, rfl, hni2, hb2b⟩
        go_wp2_with fail
        refine hK.out _ _ ?_ (fun hHeld => ?_)
        · exact ⟨hHeld.1.below hb2b, hHeld.2.below hb2b⟩
        clear hK K
        try simp only [Act.put, List.setIfInBounds_toArray, List.set_cons_zero, List.set_cons_succ]
        have HNI2 := Lib.hid hni2
        have HBB2 := Lib.hid (undrew (HBA2.out.trans (hb2b.mono HBA2.out.size)))
        have HL2 := Lib.hid hHeld
        clear hni2 hb2b
        refine wpAnyH_take (i := 4) (oi := ({ dst := some 50, op := Go.Op.move (Go.Operand.tmp 54), type := 27, pos := _, after := #[{ on := 3, ground := Go.Ground.data }], guard := none } : Oper)) (v := ?_) rfl (by kernel_rfl) (by kernel_rfl) (by kernel_rfl) (fun _ _ _ h => h) (Or.inl ⟨by rfl, ?_⟩) (by assumption) ?_
        rotate_left
        · intro W' hSw
          try dsimp only at hSw
          go_simp
          try with_reducible rfl
        try simp only [Act.put, List.setIfInBounds_toArray, List.set_cons_zero, List.set_cons_succ]
        refine wpAnyH_take (i := 5) (oi := ({ dst := some 55, op := Go.Op.extract (Go.Operand.tmp 50) 0, type := 25, pos := _, after := #[{ on := 4, ground := Go.Ground.data }], guard := none } : Oper)) (v := ?_) rfl (by kernel_rfl) (by kernel_rfl) (by kernel_rfl) (fun _ _ _ h => h) (Or.inl ⟨by rfl, ?_⟩) (by assumption) ?_
        rotate_left
        · intro W' hSw
          try dsimp only at hSw
          go_simp
          try with_reducible rfl
        try simp only [Act.put, List.setIfInBounds_toArray, List.set_cons_zero, List.set_cons_succ]
        refine wpAnyH_take (i := 6) (oi := ({ dst := some 56, op := Go.Op.extract (Go.Operand.tmp 50) 1, type := 26, pos := _, after := #[{ on := 4, ground := Go.Ground.data }, { on := 7, ground := Go.Ground.gcOnly Go.Departure.lateStores }], guard := none } : Oper)) (v := ?_) rfl (by kernel_rfl) (by kernel_rfl) (by kernel_rfl) (fun _ _ _ h => h) (Or.inl ⟨by rfl, ?_⟩) (by assumption) ?_
        rotate_left
        · intro W' hSw
          try dsimp only at hSw
          go_simp
          try with_reducible rfl
        try simp only [Act.put, List.setIfInBounds_toArray, List.set_cons_zero, List.set_cons_succ]
        refine wpAnyH_take (i := 7) (oi := ({ dst := some 11, op := Go.Op.assign (Go.Operand.tmp 55), type := 25, pos := _, after := #[{ on := 5, ground := Go.Ground.data }, { on := 3, ground := Go.Ground.chain }, { on := 0, ground := Go.Ground.phase }, { on := 1, ground := Go.Ground.phase }, { on := 2, ground := Go.Ground.phase }, { on := 3, ground := Go.Ground.phase }, { on := 4, ground := Go.Ground.phase }, { on := 5, ground := Go.Ground.phase }, { on := 6, ground := Go.Ground.textOnly Go.Departure.lateStores }], guard := none } : Oper)) (v := ?_) rfl (by kernel_rfl) (by kernel_rfl) (by kernel_rfl) (fun _ _ _ h => h) (Or.inl ⟨by rfl, ?_⟩) (by assumption) ?_
        rotate_left
        · intro W' hSw
          try dsimp only at hSw
          go_simp
          try with_reducible rfl
        try simp only [Act.put, List.setIfInBounds_toArray, List.set_cons_zero, List.set_cons_succ]
        refine wpAnyH_take (i := 8) (oi := ({ dst := some 12, op := Go.Op.assign (Go.Operand.tmp 56), type := 26, pos := _, after := #[{ on := 6, ground := Go.Ground.data }, { on := 7, ground := Go.Ground.chain }, { on := 0, ground := Go.Ground.phase }, { on := 1, ground := Go.Ground.phase }, { on := 2, ground := Go.Ground.phase }, { on := 3, ground := Go.Ground.phase }, { on := 4, ground := Go.Ground.phase }, { on := 5, ground := Go.Ground.phase }, { on := 6, ground := Go.Ground.phase }, { on := 7, ground := Go.Ground.phase }], guard := none } : Oper)) (v := ?_) rfl (by kernel_rfl) (by kernel_rfl) (by kernel_rfl) (fun _ _ _ h => h) (Or.inl ⟨by rfl, ?_⟩) (by assumption) ?_
        rotate_left
        · intro W' hSw
          try dsimp only at hSw
          go_simp
          try with_reducible rfl
        try simp only [Act.put, List.setIfInBounds_toArray, List.set_cons_zero, List.set_cons_succ]
        refine wpAnyH_done (by kernel_rfl) ?_ _

        have hni2 := HNI2.out
        have HQ2 := Lib.hid HL2.out.1
        have HTot2 := Lib.hid (below_next HBR.out HBR.out.size HBB2.out)
        clear HNI2 HNEW2 HOB2 HBA2 hHeld HL2 HHQ
        rcases hni2 with ⟨hnr, -⟩ | ⟨-, tb2, rfl, rfl, o', t', pl', ho', ht', hlay', hT2⟩
        · exact absurd (right_rev HR.out) hnr
        · obtain ⟨hsp, hsl, hsr⟩ := same_names HR.out HO.out ho' HTP.out ht' HLAY.out hlay'
          have hT1 := HTr.out.below HBB2.out
          have hrin := ring_in HO.out
          have hrin' := ring_in ho'
          have hrle := ring_le HR.out HO.out
          have hrps := ring_pos HR.out HO.out
          have hll := (lab_in HR.out HO.out HLAY.out).1
          have hll' := (lab_in (right_rev HR.out) ho' hlay').1
          generalize lab o pl = la at hsp hT1 hll
          generalize lab o' pl' = lb at hsp hT2 hll'
          generalize ring l o = ra at hsl hsr hT1 hrin hrle hrps
          generalize ring l.reverse o' = rb at hsl hsr hT2 hrin'
          have hnm1 := names_any hT1 (by rw [← HN.out]; exact hn1) (by rw [← HN.out]; exact hn16)
          rw [← HN.out] at hnm1
          have NM1 := Lib.hid hnm1
          have HSP := Lib.hid hsp
          have HSL := Lib.hid hsl
          have HSR := Lib.hid hsr
          have HRI := Lib.hid hrin
          have HRI2 := Lib.hid hrin'
          have HRL := Lib.hid hrle
          have HRP := Lib.hid hrps
          have HL1 := Lib.hid hll
          have HL2 := Lib.hid hll'
          have HTa := Lib.hid hT1
          have HTb := Lib.hid hT2
          clear hsp hsl hsr hT1 hT2 hrin hrin' hrle hrps hll hll' hnm1 ho' ht' hlay' HTr HO HTP HLAY HT1 HBB2 HBR
          go_wp2_with fail
          refine NM1.out.mono ?_
          rintro e w3 ⟨g1, nc1, rfl, hnc1, hna1, hb3⟩
          have hnm2 := names_any (HTb.out.below hb3) (by rw [HLR.out, ← HN.out]; exact hn1) (by rw [HLR.out, ← HN.out]; exact hn16)
          rw [HLR.out, ← HN.out] at hnm2
          have NM2 := Lib.hid hnm2
          have HNA1 := Lib.hid hna1
          have HB3 := Lib.hid hb3
          clear hnm2 hna1 hb3
          go_wp2_with fail
          refine NM2.out.mono ?_
          rintro e w4 ⟨g2, nc2, rfl, hnc2, hna2, hb4⟩
          have hof : OF w A a j c l x ua un uc up tb1 tb2 g1 g2 la lb ra rb w4 := ⟨(HQ2.out.below HB3.out).below hb4, (HTa.out.below HB3.out).below hb4, (HTb.out.below HB3.out).below hb4, HNA1.out.below hb4, hna2⟩
          have HT4 := Lib.hid (below_next (below_next HTot2.out HTot2.out.size HB3.out) (below_next HTot2.out HTot2.out.size HB3.out).size hb4)
          have hst : Hid (∃ p : Nat, p + 251 = 251 ∧ (.int .i64 0 : Value) = .int .i64 p ∧ OF w A a j c l x ua un uc up tb1 tb2 g1 g2 la lb ra rb w4 ∧ Below w4.heap.size w4 w4) := Lib.hid ⟨0, by omega, rfl, hof, Below.refl _ _⟩
          clear hof hna2 hb4 HTa HTb HNA1 HB3 HTot2 HQ2
          go_wp2
          go_loopg [15, 67] 251 (fun gg _ s67 wr => Hid (∃ p : Nat, p + gg = 251 ∧ s67 = .int .i64 p ∧ OF w A a j c l x ua un uc up tb1 tb2 g1 g2 la lb ra rb wr ∧ Below w4.heap.size w4 wr))
          case atStart => exact hst
          case round =>
            clear hst
            obtain ⟨p, hp, rfl, hof, hbr⟩ := hrel.out
            clear hrel
            by_cases hlt : p < 251
            · have hltz : (p : Int) < 251 := by omega
              obtain ⟨i1, i2, hi1, hi2, e1, e2, hnm⟩ := HSP.out p hlt
              have q1 : ∀ m, Calls Try.prog 15 #[.pointer (some ⟨tb1, 0, none⟩), .int .i64 (p : Nat)] (wr.drewN m) fun e w' => e = .returned (.int .i64 (i1 : Nat)) ∧ wr.drewN m = w' := fun m => by
                have := at_any (w := wr.drewN m) (hof.2.1.below (below_drewN (Below.refl _ _) m)) (p : Int)
                rw [show atOf la (p : Int) = (i1 : Int) by rw [atOf, if_pos (by omega), Int.toNat_natCast, e1]] at this
                exact this.mono fun _ _ h => ⟨h.1, h.2.symm⟩
              have q2 : ∀ m, Calls Try.prog 15 #[.pointer (some ⟨tb2, 0, none⟩), .int .i64 (p : Nat)] (wr.drewN m) fun e w' => e = .returned (.int .i64 (i2 : Nat)) ∧ wr.drewN m = w' := fun m => by
                have := at_any (w := wr.drewN m) (hof.2.2.1.below (below_drewN (Below.refl _ _) m)) (p : Int)
                rw [show atOf lb (p : Int) = (i2 : Int) by rw [atOf, if_pos (by omega), Int.toNat_natCast, e2]] at this
                exact this.mono fun _ _ h => ⟨h.1, h.2.symm⟩
              have f1 := hof.2.2.2.1.2 i1 hi1
              have f2 := hof.2.2.2.2.2 i2 (by rw [HLR.out]; exact hi2)
              rw [hnm] at f1
              generalize (l.reverse[i2]!).name = nm at f1 f2
              have Q1 := Lib.hid q1
              have Q2 := Lib.hid q2
              have i1z : (i1 : Int) < (j : Int) := by have := HN.out; omega
              have i2z : (i2 : Int) < (j : Int) := by have := HN.out; omega
              have HOF := Lib.hid hof
              have HBR := Lib.hid hbr
              clear q1 q2 hof hbr e1 e2 hnm
              go_wp2
              go_quiet (first | (go_at_call_of 15 (Value.pointer (some ⟨tb1, 0, none⟩)); exact quiet_same (Q1.out _)) | (go_at_call_of 15 (Value.pointer (some ⟨tb2, 0, none⟩)); exact quiet_same (Q2.out _)))
              go_wp2
              go_roundg (251 - (p + 1))
              case measure => omega
              case rel => exact Lib.hid ⟨p + 1, by omega, by go_num, HOF.out.below (below_drewN (Below.refl _ _) _), below_drewN HBR.out _⟩
            · have hltz : ¬ (p : Int) < 251 := by omega
              obtain rfl : p = 251 := by omega
              obtain ⟨wv, rfl⟩ : ∃ W, W = wr := ⟨_, rfl⟩
              have hmk1 := run_make_row' (P := Try.prog) 42 4 (.bool false) 1 Try.underlying42 info4 rfl .i64 .i64 j (by omega) (by omega)
              rw [made_bools] at hmk1
              obtain ⟨MB, hMB⟩ : ∃ M, (bcs (ups j 0)).toArray = M := ⟨_, rfl⟩
              rw [hMB] at hmk1
              have hst2 : Hid (∃ q : Nat, q + j = j ∧ (.int .i64 0 : Value) = .int .i64 q ∧ OF w A a j c l x ua un uc up tb1 tb2 g1 g2 la lb ra rb (wv.alloc (.cells MB 4)) ∧ Ar (wv.alloc (.cells MB 4)) wv.heap.size (bcs (ups j q)) ∧ Below wv.heap.size wv (wv.alloc (.cells MB 4))) :=
                Lib.hid ⟨0, by omega, rfl, hof.below ((Below.refl _ _).alloc (Nat.le_refl _) _), by rw [← hMB]; exact Ar.new wv _ 4, (Below.refl _ _).alloc (Nat.le_refl _) _⟩
              have HBR := Lib.hid (below_next HT4.out HT4.out.size hbr)
              have HOFr := Lib.hid hof
              clear hof hbr hMB
              go_wp2
              go_loopg [17, 89] j (fun gg _ s89 wq => Hid (∃ q : Nat, q + gg = j ∧ s89 = .int .i64 q ∧ OF w A a j c l x ua un uc up tb1 tb2 g1 g2 la lb ra rb wq ∧ Ar wq wv.heap.size (bcs (ups j q)) ∧ Below wv.heap.size wv wq))
              case atStart => exact hst2
              case round =>
                clear hst2 hmk1
                obtain ⟨q, hq, rfl, hof, hu, hbq⟩ := hrel.out
                clear hrel
                by_cases hlt2 : q < j
                · have hltz2 : (q : Int) < (j : Int) := by omega
                  obtain ⟨d0, d1⟩ := ar_bool hu (x := q) (by rw [ups_len (by omega)]; exact hlt2)
                  generalize (ups j q)[q]! = bb at d0
                  have HU := Lib.hid (ar_puts hu (x := q) (by rw [ups_len (by omega)]; exact hlt2) true)
                  rw [ups_set hlt2] at HU
                  have hul := hu.1
                  have HBQ := Lib.hid (hbq.setCell (p := ⟨wv.heap.size, q, none⟩) (Nat.le_refl _) (.bool true))
                  clear hof hu hbq
                  go_wp2
                  go_roundg (j - (q + 1))
                  case measure => omega
                  case rel => exact Lib.hid ⟨q + 1, by omega, by go_num, HOFr.out.below HBQ.out, HU.out, HBQ.out⟩
                · have hltz2 : ¬ (q : Int) < (j : Int) := by omega
                  obtain rfl : q = j := by omega
                  rw [ups_all] at hu
                  have hbls := bls_of_ar hu (n := q) (by simp)
                  obtain ⟨xn, rfl⟩ := Int.eq_ofNat_of_zero_le hx0
                  obtain ⟨s, hs⟩ : ∃ s, xn % ra.length = s := ⟨_, rfl⟩
                  have hs2 : s < ra.length := by rw [← hs]; exact Nat.mod_lt _ HRP.out
                  obtain ⟨i1, i2, hi1, hi2, e1, e2, hnm⟩ := HSR.out s hs2
                  have hw1 := who_all (n := q) (fun y hy => by rw [HN.out]; exact HRI.out y hy) hs2
                  have hw2 := who_all (n := q) (fun y hy => by rw [HN.out, ← HLR.out]; exact HRI2.out y hy) (show s < rb.length by rw [← HSL.out]; exact hs2)
                  have hc1 := turn_any (uc := q) (xn : Int) hof.2.1 hbls HRP.out (by have := HRL.out; omega) (fun z hz => by
                    obtain ⟨y, _, e⟩ := HRI.out ra[z]! (by rw [getElem!_pos ra z hz]; exact List.getElem_mem hz)
                    rw [e]; omega) (by omega) (by omega) hx1
                  have hc2 := turn_any (uc := q) (xn : Int) hof.2.2.1 hbls (by rw [← HSL.out]; exact HRP.out) (by rw [← HSL.out]; have := HRL.out; omega) (fun z hz => by
                    obtain ⟨y, _, e⟩ := HRI2.out rb[z]! (by rw [getElem!_pos rb z hz]; exact List.getElem_mem hz)
                    rw [e]; omega) (by omega) (by omega) hx1
                  rw [Int.toNat_natCast, hs, hw1.1, hw1.2, e1] at hc1
                  rw [Int.toNat_natCast, ← HSL.out, hs, hw2.1, hw2.2, e2] at hc2
                  have C1 := Lib.hid hc1
                  have C2 := Lib.hid hc2
                  have q5 := hof.1.2.2.2.2.1
                  have HOF := Lib.hid hof
                  have HTF := Lib.hid (below_next HBR.out HBR.out.size hbq)
                  rw [← HN.out] at hi1 hi2
                  have i1z : (i1 : Int) < (q : Int) := by omega
                  have i2z : (i2 : Int) < (q : Int) := by omega
                  obtain ⟨nm, hnme⟩ : ∃ nm, (l.reverse[i2]!).name = nm := ⟨_, rfl⟩
                  have HE2 := Lib.hid hnme
                  have HE1 := Lib.hid (hnm.trans hnme)
                  clear hc1 hc2 hw1 hw2 hbls hu hof hbq hs e1 e2 hnm hnme
                  go_wp2_with fail
                  refine C1.out.mono ?_
                  rintro e w5 ⟨rfl, rfl⟩
                  go_wp2_with fail
                  refine C2.out.mono ?_
                  rintro e w6 ⟨rfl, rfl⟩
                  clear q5
                  go_wp2
                  refine wp_region_held_drew (S := (fun W => NamesAt W g1 l ∧ NamesAt W g2 l.reverse)) (by kernel_rfl) ⟨HOF.out.2.2.2.1, HOF.out.2.2.2.2⟩ (fun hHeld => ?_)
                  refine wpAnyH_ready (rs := [0]) (by kernel_rfl) (by simp) ?_
                  refine AllReadyH.cons (o := ({ dst := some 112, op := Go.Op.call { callee := Go.Callee.value (Go.Operand.func 10), args := #[], argTypes := #[] }, type := 4, pos := _, after := #[], guard := none } : Oper)) rfl (fun K hK => ?_) AllReadyH.nil
                  go_simp
                  refine (HAL.out _).mono ?_
                  rintro e w9 ⟨rfl, hb9⟩
                  go_wp2_with fail
                  refine hK.out _ _ ?_ (fun hHeld => ?_)
                  · exact ⟨hHeld.1.below hb9, hHeld.2.below hb9⟩
                  clear hK K
                  try simp only [Act.put, List.setIfInBounds_toArray, List.set_cons_zero, List.set_cons_succ]
                  have HB9 := Lib.hid (undrew hb9)
                  clear hb9
                  refine wpAnyH_take (i := 1) (oi := ({ dst := some 113, op := Go.Op.move (Go.Operand.tmp 112), type := 4, pos := _, after := #[{ on := 0, ground := Go.Ground.data }, { on := 0, ground := Go.Ground.chain }], guard := none } : Oper)) (v := ?_) rfl (by kernel_rfl) (by kernel_rfl) (by kernel_rfl) (fun _ _ _ h => h) (Or.inl ⟨by rfl, ?_⟩) (by assumption) ?_
                  rotate_left
                  · intro W' hSw
                    try dsimp only at hSw
                    go_simp
                    try with_reducible rfl
                  try simp only [Act.put, List.setIfInBounds_toArray, List.set_cons_zero, List.set_cons_succ]
                  refine wpAnyH_take (i := 2) (oi := ({ dst := some 114, op := Go.Op.move (Go.Operand.tmp 13), type := 36, pos := _, after := #[{ on := 1, ground := Go.Ground.guard }], guard := some (1, true) } : Oper)) (v := ?_) rfl (by kernel_rfl) (by kernel_rfl) (by kernel_rfl) (fun _ _ _ h => h) (Or.inl ⟨by rfl, ?_⟩) (by assumption) ?_
                  rotate_left
                  · intro W' hSw
                    try dsimp only at hSw
                    go_simp
                    try with_reducible rfl
                  try simp only [Act.put, List.setIfInBounds_toArray, List.set_cons_zero, List.set_cons_succ]
                  refine wpAnyH_take (i := 3) (oi := ({ dst := some 115, op := Go.Op.move (Go.Operand.tmp 18), type := 3, pos := _, after := #[{ on := 1, ground := Go.Ground.guard }], guard := some (1, true) } : Oper)) (v := ?_) rfl (by kernel_rfl) (by kernel_rfl) (by kernel_rfl) (fun _ _ _ h => h) (Or.inl ⟨by rfl, ?_⟩) (by assumption) ?_
                  rotate_left
                  · intro W' hSw
                    try dsimp only at hSw
                    go_simp
                    try with_reducible rfl
                  try simp only [Act.put, List.setIfInBounds_toArray, List.set_cons_zero, List.set_cons_succ]
                  refine wpAnyH_take (i := 4) (oi := ({ dst := some 116, op := Go.Op.indexAddr 36 (Go.Operand.tmp 114) (Go.Operand.tmp 115), type := 0, pos := _, after := #[{ on := 2, ground := Go.Ground.data }, { on := 3, ground := Go.Ground.data }, { on := 1, ground := Go.Ground.guard }], guard := some (1, true) } : Oper)) (v := ?_) rfl (by kernel_rfl) (by kernel_rfl) (by kernel_rfl) (fun _ _ _ h => h) (Or.inl ⟨by rfl, ?_⟩) (by assumption) ?_
                  rotate_left
                  · intro W' hSw
                    try dsimp only at hSw
                    go_simp
                    try with_reducible rfl
                  try simp only [Act.put, List.setIfInBounds_toArray, List.set_cons_zero, List.set_cons_succ]
                  refine wpAnyH_take (i := 5) (oi := ({ dst := some 117, op := Go.Op.load 9 (Go.Operand.tmp 116), type := 9, pos := _, after := #[{ on := 4, ground := Go.Ground.data }, { on := 1, ground := Go.Ground.guard }], guard := some (1, true) } : Oper)) (v := ?_) rfl (by kernel_rfl) (by kernel_rfl) (by kernel_rfl) (fun _ _ _ h => h) (Or.inl ⟨by rfl, ?_⟩) (by assumption) ?_
                  rotate_left
                  · intro W' hSw
                    try dsimp only at hSw
                    have f1 := hSw.1.2 i1 (by rw [← HN.out]; exact hi1)
                    rw [HE1.out] at f1
                    go_simp
                    try with_reducible rfl
                  try simp only [Act.put, List.setIfInBounds_toArray, List.set_cons_zero, List.set_cons_succ]
                  refine wpAnyH_take (i := 6) (oi := ({ dst := some 118, op := Go.Op.move (Go.Operand.tmp 14), type := 36, pos := _, after := #[{ on := 1, ground := Go.Ground.guard }], guard := some (1, true) } : Oper)) (v := ?_) rfl (by kernel_rfl) (by kernel_rfl) (by kernel_rfl) (fun _ _ _ h => h) (Or.inl ⟨by rfl, ?_⟩) (by assumption) ?_
                  rotate_left
                  · intro W' hSw
                    try dsimp only at hSw
                    go_simp
                    try with_reducible rfl
                  try simp only [Act.put, List.setIfInBounds_toArray, List.set_cons_zero, List.set_cons_succ]
                  refine wpAnyH_take (i := 7) (oi := ({ dst := some 119, op := Go.Op.move (Go.Operand.tmp 20), type := 3, pos := _, after := #[{ on := 1, ground := Go.Ground.guard }], guard := some (1, true) } : Oper)) (v := ?_) rfl (by kernel_rfl) (by kernel_rfl) (by kernel_rfl) (fun _ _ _ h => h) (Or.inl ⟨by rfl, ?_⟩) (by assumption) ?_
                  rotate_left
                  · intro W' hSw
                    try dsimp only at hSw
                    go_simp
                    try with_reducible rfl
                  try simp only [Act.put, List.setIfInBounds_toArray, List.set_cons_zero, List.set_cons_succ]
                  refine wpAnyH_take (i := 8) (oi := ({ dst := some 120, op := Go.Op.indexAddr 36 (Go.Operand.tmp 118) (Go.Operand.tmp 119), type := 0, pos := _, after := #[{ on := 6, ground := Go.Ground.data }, { on := 7, ground := Go.Ground.data }, { on := 1, ground := Go.Ground.guard }], guard := some (1, true) } : Oper)) (v := ?_) rfl (by kernel_rfl) (by kernel_rfl) (by kernel_rfl) (fun _ _ _ h => h) (Or.inl ⟨by rfl, ?_⟩) (by assumption) ?_
                  rotate_left
                  · intro W' hSw
                    try dsimp only at hSw
                    go_simp
                    try with_reducible rfl
                  try simp only [Act.put, List.setIfInBounds_toArray, List.set_cons_zero, List.set_cons_succ]
                  refine wpAnyH_take (i := 9) (oi := ({ dst := some 121, op := Go.Op.load 9 (Go.Operand.tmp 120), type := 9, pos := _, after := #[{ on := 8, ground := Go.Ground.data }, { on := 1, ground := Go.Ground.guard }], guard := some (1, true) } : Oper)) (v := ?_) rfl (by kernel_rfl) (by kernel_rfl) (by kernel_rfl) (fun _ _ _ h => h) (Or.inl ⟨by rfl, ?_⟩) (by assumption) ?_
                  rotate_left
                  · intro W' hSw
                    try dsimp only at hSw
                    have f2 := hSw.2.2 i2 (by rw [HLR.out, ← HN.out]; exact hi2)
                    rw [HE2.out] at f2
                    go_simp
                    try with_reducible rfl
                  try simp only [Act.put, List.setIfInBounds_toArray, List.set_cons_zero, List.set_cons_succ]
                  refine wpAnyH_take (i := 10) (oi := ({ dst := some 122, op := Go.Op.binOp Go.BinOp.eql 9 (Go.Operand.tmp 117) (Go.Operand.tmp 121) 9, type := 4, pos := _, after := #[{ on := 5, ground := Go.Ground.data }, { on := 9, ground := Go.Ground.data }, { on := 1, ground := Go.Ground.guard }], guard := some (1, true) } : Oper)) (v := ?_) rfl (by kernel_rfl) (by kernel_rfl) (by kernel_rfl) (fun _ _ _ h => h) (Or.inl ⟨by rfl, ?_⟩) (by assumption) ?_
                  rotate_left
                  · intro W' hSw
                    try dsimp only at hSw
                    go_simp
                    try with_reducible rfl
                  try simp only [Act.put, List.setIfInBounds_toArray, List.set_cons_zero, List.set_cons_succ]
                  refine wpAnyH_take (i := 11) (oi := ({ dst := some 123, op := Go.Op.pick (Go.Operand.tmp 113) (Go.Operand.tmp 122) (Go.Operand.const (Go.Value.bool false)), type := 4, pos := _, after := #[{ on := 1, ground := Go.Ground.data }, { on := 10, ground := Go.Ground.data }], guard := none } : Oper)) (v := ?_) rfl (by kernel_rfl) (by kernel_rfl) (by kernel_rfl) (fun _ _ _ h => h) (Or.inl ⟨by rfl, ?_⟩) (by assumption) ?_
                  rotate_left
                  · intro W' hSw
                    try dsimp only at hSw
                    go_simp
                    try with_reducible rfl
                  try simp only [Act.put, List.setIfInBounds_toArray, List.set_cons_zero, List.set_cons_succ]
                  refine wpAnyH_take (i := 12) (oi := ({ dst := some 6, op := Go.Op.assign (Go.Operand.tmp 123), type := 4, pos := _, after := #[{ on := 11, ground := Go.Ground.data }, { on := 1, ground := Go.Ground.chain }, { on := 0, ground := Go.Ground.phase }, { on := 1, ground := Go.Ground.phase }, { on := 2, ground := Go.Ground.phase }, { on := 3, ground := Go.Ground.phase }, { on := 4, ground := Go.Ground.phase }, { on := 5, ground := Go.Ground.phase }, { on := 6, ground := Go.Ground.phase }, { on := 7, ground := Go.Ground.phase }, { on := 8, ground := Go.Ground.phase }, { on := 9, ground := Go.Ground.phase }, { on := 10, ground := Go.Ground.phase }, { on := 11, ground := Go.Ground.phase }], guard := none } : Oper)) (v := ?_) rfl (by kernel_rfl) (by kernel_rfl) (by kernel_rfl) (fun _ _ _ h => h) (Or.inl ⟨by rfl, ?_⟩) (by assumption) ?_
                  rotate_left
                  · intro W' hSw
                    try dsimp only at hSw
                    go_simp
                    try with_reducible rfl
                  try simp only [Act.put, List.setIfInBounds_toArray, List.set_cons_zero, List.set_cons_succ]
                  refine wpAnyH_done (by kernel_rfl) ?_ _

                  go_wp2
                  go_ret
                  exact ⟨by rfl, below_next HTF.out HTF.out.size HB9.out⟩

end Go.Proofs.Ytpkahjflhboddaa
