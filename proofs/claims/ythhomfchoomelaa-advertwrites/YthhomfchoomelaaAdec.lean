/-
  What advert.Decode does with a packet with which nothing is amiss.
-/
import Derived.Test.YthhomfchoomelaaAdecb
import Derived.Maps.AppendAt
namespace Go.Proofs.Ythhomfchoomelaa
open Go.RowKit Go.Shelf
set_option linter.unusedVariables false
set_option maxRecDepth 10000
attribute [local go_sem] Oper.semAt_some

theorem alloc_drewN (w : World) (o : Obj) (q : Nat) : (w.drewN q).alloc o = (w.alloc o).drewN q := rfl
theorem cells_set {X : World} {g : Nat} {c : Array Value} {t : TypeId} {fz : Nat × Nat} (h : X.heap[g]? = some (.cells c t fz)) (j : Nat) (v : Value) : (X.setCell ⟨g, j, none⟩ v).heap[g]? = some (.cells (c.setIfInBounds j v) t fz) := by
  rw [setCell_eq_setRow X g j c t fz _ h]
  exact setRow_heap X g c _ t _ h
theorem BoxA.laid (W : World) (q : Nat) (a b c d a' b' c' : Int) (v : Value) : BoxA ((((((W.alloc (.cells #[.int .i64 a, .int .i64 b, .int .i64 c, v] 32)).drewN q).setCell ⟨W.heap.size, 0, none⟩ (.int .i64 a')).setCell ⟨W.heap.size, 1, none⟩ (.int .i64 b')).setCell ⟨W.heap.size, 2, none⟩ (.int .i64 c')).setCell ⟨W.heap.size, 3, none⟩ v) W.heap.size a' b' c' v := by
  have h0 := heap_top W #[.int .i64 a, .int .i64 b, .int .i64 c, v] 32 q
  exact cells_set (cells_set (cells_set (cells_set h0 0 _) 1 _) 2 _) 3 _
theorem info25 : (Try.prog.info? 25).map (fun i => (i.zero, i.size, i.bytes)) = some (some (.string ⟨#[]⟩), 1, 16) := by kernel_rfl

/-- What is so where nothing is amiss. -/
theorem amiss_ok {f t : ByteArray} {p l : Int} {s : ByteArray} (h : amiss f t p l s = 0) : am1 p l = false ∧ am2 f t s = false ∧ am3 s = false ∧ am4 s = false ∧ am5 f s = false ∧ am6 f t s = false ∧ am7 s = false := by
  unfold amiss at h
  cases h1 : am1 p l <;> cases h2 : am2 f t s <;> cases h3 : am3 s <;> cases h4 : am4 s <;> cases h5 : am5 f s <;> cases h6 : am6 f t s <;> cases h7 : am7 s <;> simp [h1, h2, h3, h4, h5, h6, h7] at h ⊢
/-- How many addresses a body says. -/
def manyOf (s : ByteArray) : Nat := (byteAt (bts s) 3).toNat
theorem ok_sizes {f t : ByteArray} {p l : Int} {s : ByteArray} (h : amiss f t p l s = 0) : (1 ≤ f.size ∧ f.size ≤ 16) ∧ manyOf s ≤ 8 ∧ 1 ≤ manyOf s ∧ s.size = 8 + manyOf s * f.size ∧ 8 ≤ s.size ∧ s.size ≤ 136 := by
  obtain ⟨h1, h2, h3, h4, h5, h6, h7⟩ := amiss_ok h
  simp [am2, alikeB, rightB] at h2
  simp [am5] at h5
  have hb := byteAt_bd (bts_byt s) 3
  have hz : ((manyOf s : Nat) : Int) = byteAt (bts s) 3 := by unfold manyOf; omega
  have e : (s.size : Int) = 8 + (manyOf s : Int) * (f.size : Int) := by rw [hz]; exact h5.2
  have e2 : s.size = 8 + manyOf s * f.size := by exact_mod_cast e
  have : manyOf s * f.size ≤ 8 * 16 := Nat.mul_le_mul (by omega) (by omega)
  refine ⟨by omega, by omega, by omega, e2, by omega, by omega⟩

/-- The packet's block. -/
def BoxP (W : World) (B : Nat) (f t : ByteArray) (p l : Int) (s : ByteArray) : Prop := W.heap[B]? = some (.cells #[.string f, .string t, .int .i64 p, .int .i64 l, .string s] 28 (0, 0))
theorem boxP_own {β : Type} (B : Nat) (f t : ByteArray) (p l : Int) (s : ByteArray) : Go.Own (fun (_ : β) W => BoxP W B f t p l s) := fun x X Y row hs hg hrow => by
  refine (hg.block B (Array.getElem?_eq_some_iff.1 hs).1 (fun e' => ?_)).trans hs
  obtain ⟨o, ho, hc⟩ := hrow B e'.symm
  rw [show X.heap[B]? = _ from hs] at ho; cases ho; cases hc
theorem BoxP.not_row {W : World} {B : Nat} {f t : ByteArray} {p l : Int} {s : ByteArray} (h : BoxP W B f t p l s) {base size k : Nat} {u : Value} {xs : List Value} (hr : W.ownsRow base 25 size u k xs) : some B ≠ u.ownBlock := by
  rcases hr.2 with ⟨rfl, _⟩ | ⟨g, cap, cur, rfl, _, hgb, _⟩
  · simp [Value.ownBlock]
  · intro e'
    obtain rfl : B = g := by simpa [Value.ownBlock] using e'
    have := (show W.heap[B]? = _ from h).symm.trans hgb
    simp at this

theorem pieces_small (s : ByteArray) (n m : Nat) (h : s.size ≤ 136) : ∀ x ∈ pieces s n m, x.size ≤ 9223372036854775807 := by
  intro x hx
  simp [pieces] at hx
  obtain ⟨k, _, rfl⟩ := hx
  simp [piece]
  omega
theorem strs_of_row {W : World} {n₀ g m c : Nat} {ss : List ByteArray} (h : W.ownsRow n₀ 25 1 (.slice (some ⟨g, 0, none⟩) m c) m (ss.map Value.string)) (hs : ∀ s ∈ ss, s.size ≤ 9223372036854775807) : Strs W (some ⟨g, 0, none⟩) m c ss := by
  have hl : ss.length = m := by have := h.1; simpa using this
  have hcap : m ≤ c ∧ c ≤ maxLen := by
    rcases h.2 with ⟨h, _⟩ | ⟨g1, cap1, cur, h, _, _, h1, h2, _⟩
    · cases h
    · cases h; exact ⟨h1, h2⟩
  refine ⟨hl, hcap.1, hcap.2, hs, fun _ => ⟨g, 0, rfl, fun j s hj => ?_⟩⟩
  have hjl : j < ss.length := (List.getElem?_eq_some_iff.1 hj).1
  rw [Nat.zero_add, h.cellAt j (by omega)]
  simp [hj]

set_option maxHeartbeats 4000000 in
/-- advert.Decode of what is an advertisement. -/
theorem decode_ok (f t : ByteArray) (p l : Int) (s : ByteArray) (w : World) (hf : f.size ≤ 140737488351232) (ht : t.size ≤ 140737488351232) (ha : amiss f t p l s = 0) :
    Calls Try.prog 14 #[.agg #[.string f, .string t, .int .i64 p, .int .i64 l, .string s]] w fun e w' => ∃ A c, e = .returned (.tuple #[.agg #[.int .i64 (byteAt (bts s) 1), .int .i64 (byteAt (bts s) 2), .int .i64 (twoAt (bts s) 4), .slice A (manyOf s) c], .int .i64 0]) ∧ Strs w' A (manyOf s) c (pieces s f.size (manyOf s)) ∧ Below w.heap.size w w' := by
  obtain ⟨hfs, hm8, hm1, hsz, hs8, hs136⟩ := ok_sizes ha
  obtain ⟨m, hm⟩ : ∃ m, manyOf s = m := ⟨_, rfl⟩
  rw [hm] at hm8 hm1 hsz ⊢
  have HM := Lib.hid hsz
  have HA := Lib.hid (fun w => first_any f t p l s w hf ht (by omega))
  rw [ha] at HA
  clear hsz hm ha
  obtain ⟨ev, hev⟩ : ∃ ev, twoAt (bts s) 4 = ev := ⟨_, rfl⟩
  obtain ⟨id, hid⟩ : ∃ id, (s[1].toNat : Int) = id := ⟨_, rfl⟩
  obtain ⟨pr, hpr⟩ : ∃ pr, (s[2].toNat : Int) = pr := ⟨_, rfl⟩
  have bid := byte_le s[1]
  have bpr := byte_le s[2]
  rw [byteAt_text s 1 (by omega), byteAt_text s 2 (by omega), hev, hid, hpr]
  rw [hid] at bid
  rw [hpr] at bpr
  have w1' : IntKind.i64.wrap id = id := by rw [IntKind.wrap_i64]; omega
  have w2' : IntKind.i64.wrap pr = pr := by rw [IntKind.wrap_i64]; omega
  have HEV := Lib.hid hev
  have h6 : 6 ≤ s.size := by omega
  have i1 : (1 : Int) < (s.size : Int) := by omega
  have i2 : (2 : Int) < (s.size : Int) := by omega
  clear hev
  obtain ⟨i0, hi, hz0, hz1, hz2⟩ := info_parts info25
  refine callsIn_wide.1 (callsIn_of_wp_marks (F := Fence.wide) (n := 3) Try.func14 rfl trivial (wpIn_wide.2 ?_))
  simp only [Try.ntmps14, List.size_toArray, List.length_cons, List.length_nil, Nat.reduceAdd, Nat.reduceSub, Array.replicate_succ, Array.replicate_zero, List.push_toArray, List.append_toArray, List.nil_append, List.cons_append]
  go_wp2_with fail
  refine (HA.out _).mono ?_
  rintro e w1 ⟨rfl, hb1⟩
  have HB1 := Lib.hid ((((Below.refl _ w).alloc (Nat.le_refl _) (.cells #[.string f, .string t, .int .i64 p, .int .i64 l, .string s] 28)).alloc (by simp) (.cells #[.int .i64 0, .int .i64 0, .int .i64 0, .slice none 0 0] 32)).trans (hb1.out.mono (by simp; omega)))
  have hbb : Below (w.heap.size + 1 + 1) ((w.alloc (.cells #[.string f, .string t, .int .i64 p, .int .i64 l, .string s] 28)).alloc (.cells #[.int .i64 0, .int .i64 0, .int .i64 0, .slice none 0 0] 32)) w1 := by simpa using hb1.out
  have hA := (BoxA.new (w.alloc (.cells #[.string f, .string t, .int .i64 p, .int .i64 l, .string s] 28)) 0 0 0 (.slice none 0 0)).below hbb (by simp)
  simp only [World.size_alloc] at hA
  have HAx := Lib.hid hA
  have HPx := Lib.hid (show Boxed w1 w.heap.size f t p l s from ((Boxed.new w f t p l s).below ((Below.refl (w.heap.size + 1) _).alloc (by simp) _) (by omega)).below hbb (by omega))
  obtain ⟨z0, z1, z2, z3, z4⟩ := HPx.out
  have n1 : w.heap.size + 1 < w1.heap.size := hA.lt
  have nb1 : w.heap.size < w1.heap.size := by omega
  clear hb1 hA hbb
  go_wp2_with fail
  refine wp_mono (Q := fun e a' w' => e = .normal ∧ (∃ u13 u14 u15 u16 u17 u18 u19 u20 u21 u22 u23 u24, a' = { tmps := #[.agg #[.string f, .string t, .int .i64 p, .int .i64 l, .string s], .pointer (some ⟨w.heap.size, 0, none⟩), .pointer (some ⟨w.heap.size + 1, 0, none⟩), .int .i64 0, .int .i64 0, .pointer (some ⟨w1.heap.size, 0, none⟩), undef, .agg #[.string f, .string t, .int .i64 p, .int .i64 l, .string s], .int .i64 0, .int .i64 0, .bool false, undef, undef, u13, u14, u15, u16, u17, u18, u19, u20, u21, u22, u23, u24, undef, undef, undef, undef, undef, undef, undef, undef, undef, undef], defers := [] }) ∧ BoxA w' w1.heap.size id pr ev (.slice none 0 0) ∧ Below w1.heap.size w1 w') ?_ ?rest
  case rest =>
    rintro e a' w2 ⟨rfl, ⟨u13, u14, u15, u16, u17, u18, u19, u20, u21, u22, u23, u24, rfl⟩, hX, hb2⟩
    have HX := Lib.hid hX
    have HB2 := Lib.hid hb2
    obtain ⟨y0, y1, y2, y3, y4⟩ := HPx.out.below hb2 nb1
    clear hX hb2
    go_wp2_with fail
    refine (addrs_any f t p l s _).mono ?_
    rintro e w3 ⟨rfl, rfl⟩
    go_wp2_with fail
    have z2 : w1.heap.size < w2.heap.size := HX.out.lt
    have hP0 : BoxP (w2.alloc (.cells #[.string f, .string t, .int .i64 p, .int .i64 l, .string s] 28)) w2.heap.size f t p l s := World.alloc_heap_new w2 _
    have hB0 : Below w1.heap.size w1 (w2.alloc (.cells #[.string f, .string t, .int .i64 p, .int .i64 l, .string s] 28)) := HB2.out.alloc (by omega) _
    refine wpIn_wide.1 (wpIn_rangeFunc_ownG (F := Fence.wide) (n := 3) rfl (by omega) (gf := 37) (lb := #[.pointer (some ⟨w2.heap.size, 0, none⟩)]) rfl trivial (enters_of Try.func37 (by kernel_rfl) rfl)
      (iter_stops Fence.wide 2 trivial rfl (by omega) w2.heap.size f t p l s m hfs hm8 HM.out (w2.alloc (.cells #[.string f, .string t, .int .i64 p, .int .i64 l, .string s] 28)) (by simp) (Boxed.new w2 f t p l s)) (fun h k => k.trans h) (fun W L o o' hl h _ _ => World.putObj_heap_other (by simp at hl; omega)) (Below.refl _ _) (fun _ => rfl)
      (fun pre W => ((∃ v, BoxA W w1.heap.size id pr ev v ∧ W.ownsRow w1.heap.size 25 1 v pre.length (pre.map Value.string)) ∧ BoxP W w2.heap.size f t p l s) ∧ Below w1.heap.size w1 W)
      (fun _ _ _ => False)
      (OwnFrom.and (OwnFrom.and (Go.Own.from (holdsA_own w1.heap.size w1.heap.size id pr ev 25 1 (fun (pre : List ByteArray) => pre.length) (fun (pre : List ByteArray) => pre.map Value.string)) _) (Go.Own.from (boxP_own (β := List ByteArray) w2.heap.size f t p l s) _)) (ownFrom_below (Nat.le_refl _) (by simp; omega)))
      (fun _ _ _ _ _ hs _ _ => hs)
      ⟨⟨⟨_, HX.out.alloc _, World.ownsRow_nil _ _ _ _⟩, hP0⟩, hB0⟩
      (fun x => { tmps := #[.agg #[.string f, .string t, .int .i64 p, .int .i64 l, .string s], .pointer (some ⟨w.heap.size, 0, none⟩), .pointer (some ⟨w.heap.size + 1, 0, none⟩), .int .i64 0, .int .i64 0, .pointer (some ⟨w1.heap.size, 0, none⟩), .string x, .agg #[.string f, .string t, .int .i64 p, .int .i64 l, .string s], .int .i64 0, .int .i64 0, .bool false, undef, undef, u13, u14, u15, u16, u17, u18, u19, u20, u21, u22, u23, u24, .agg #[.string f, .string t, .int .i64 p, .int .i64 l, .string s], .func (.func 37) #[] #[.pointer (some ⟨w2.heap.size, 0, none⟩)], .string x, undef, undef, undef, undef, undef, undef, undef], defers := [] }) ?assign ?body ?done ?stop)
    case assign =>
      intro L x W K hK
      gi_wp2
      exact hK
    case body =>
      rintro L pre x W ⟨⟨⟨v, hv, hrow⟩, hP⟩, hB⟩ hlt
      obtain ⟨c0, c1, c2, c3⟩ := hv.cells
      gi_wp2_with (gi_at_builtin; refine wpListIn_append_own _ rfl _ _ 22 rfl w1.heap.size 25 i0 (.string ⟨#[]⟩) 1 16 Try.underlying22 hi hz0 hz1 hz2 rfl (by decide) _ _ _ rfl (hrow.alloc _) ⟨W.heap.size, 0, none⟩ 1 1 [.string x] rfl rfl (cell_one_new _ _ _) (by simp [Value.oneCell']) (by simp only [maxLen]; omega) (by omega) (by have := hB.size; simp; omega) ?_; intro v' w4 hown' hgrow _; obtain ⟨g', cap', rfl⟩ := ownsRow_succ hown'; obtain ⟨hv1, hv2, hr2, hk2, hb2, hc2⟩ := hv.appended (by decide) hrow hB.size (Nat.le_refl _) hown' hgrow; obtain ⟨d0, d1, d2, d3⟩ := hv1.cells; have hf1 : ∀ o, w4.frozen? ⟨w1.heap.size, o, none⟩ = false := hv1.free)
      have hKp := hc2 w2.heap.size (Array.getElem?_eq_some_iff.1 hP).1 (by omega) (hP.not_row hrow)
      exact ⟨hk2.from _, hKp, ⟨⟨_, hv2, by simpa using hr2⟩, hKp.trans hP⟩, hB.trans hb2⟩
    case done =>
      rintro D ys W hD rfl ⟨⟨⟨v, hv, hrow⟩, hP⟩, hB⟩ hK
      rw [pieces_len] at hrow
      obtain ⟨m', rfl⟩ : ∃ m', m = m' + 1 := ⟨m - 1, by omega⟩
      obtain ⟨g', cap', rfl⟩ := ownsRow_succ hrow
      obtain ⟨c0, c1, c2, c3⟩ := hv.cells
      have hR := HAx.out.below hB n1
      obtain ⟨r0, r1, r2, r3⟩ := hR.cells
      have rf : ∀ o, W.frozen? ⟨w.heap.size + 1, o, none⟩ = false := hR.free
      have hne : w1.heap.size ≠ w.heap.size + 1 := by omega
      have hD' : w2.heap.size + 1 ≤ D := by simpa using hD
      go_wp2
      obtain ⟨WS, hWS⟩ : ∃ WS, ((((W.setCell ⟨w.heap.size + 1, 0, none⟩ (.int .i64 id)).setCell ⟨w.heap.size + 1, 1, none⟩ (.int .i64 pr)).setCell ⟨w.heap.size + 1, 2, none⟩ (.int .i64 ev)).setCell ⟨w.heap.size + 1, 3, none⟩ (.slice (some ⟨g', 0, none⟩) (m' + 1) cap')) = WS := ⟨_, rfl⟩
      rw [hWS]
      have hRS : BoxA WS (w.heap.size + 1) id pr ev (.slice (some ⟨g', 0, none⟩) (m' + 1) cap') := by
        rw [← hWS]
        exact cells_set (cells_set (cells_set (cells_set hR 0 _) 1 _) 2 _) 3 _
      have hBS : Below w.heap.size w WS := by
        rw [← hWS]
        exact below4 (HB1.out.trans (hB.mono (by omega))) (by omega)
      have hKS : WS.heap[D]? = some (.deferred (some [])) := by
        rw [← hWS]
        exact (((KeepsOthers.setCell _ _ _).trans (KeepsOthers.setCell _ _ _)).trans ((KeepsOthers.setCell _ _ _).trans (KeepsOthers.setCell _ _ _))).same D _ hK rfl
      have hgw : w1.heap.size ≤ g' := by
        rcases hrow.2 with ⟨h, _⟩ | ⟨g1, cap1, cur, h, hb, _⟩
        · cases h
        · cases h; exact hb
      have hng : (Value.slice (some ⟨g', 0, none⟩) (m' + 1) cap').ownBlock ≠ some (w.heap.size + 1) := by simp [Value.ownBlock]; omega
      have hrS : WS.ownsRow w1.heap.size 25 1 (.slice (some ⟨g', 0, none⟩) (m' + 1) cap') (m' + 1) ((pieces s f.size (m' + 1)).map Value.string) := by
        rw [← hWS]
        exact (((hrow.kept (grown_set _ _ _ _) (.inr hng)).kept (grown_set _ _ _ _) (.inr hng)).kept (grown_set _ _ _ _) (.inr hng)).kept (grown_set _ _ _ _) (.inr hng)
      have hRP : BoxA (WS.putObj D (.deferred none)) (w.heap.size + 1) id pr ev (.slice (some ⟨g', 0, none⟩) (m' + 1) cap') := (World.putObj_heap_other (by omega)).trans hRS
      have hrP := ownsRow_putObj hrS (.deferred none) hKS rfl
      obtain ⟨q0, q1, q2, q3⟩ := hRP.cells
      have hBP : Below w.heap.size w (WS.putObj D (.deferred none)) := hBS.trans (belowK_b (w := w) (Nat.le_refl _) WS D _ _ (by omega) hKS rfl rfl)
      refine ⟨by simp, .inl ⟨_, _, rfl, run_takeDeferred hKS, ?_⟩⟩
      exact ⟨.tuple #[.agg #[.int .i64 id, .int .i64 pr, .int .i64 ev, .slice (some ⟨g', 0, none⟩) (m' + 1) cap'], .int .i64 0], by simp [results, Try.results14, go_sem, *], _, _, rfl, strs_of_row hrP (pieces_small s f.size (m' + 1) (by omega)), hBP⟩
    case stop =>
      rintro D c pre W _ _ h _
      exact h.elim
  refine wp_region_held_drew (S := fun X => X.cell? ⟨w.heap.size, 4, none⟩ = some (.string s)) (by kernel_rfl) (by simpa using z4) (fun hHeld => ?_)
  refine wpAnyH_take (i := 0) (oi := ({ dst := some 13, op := Go.Op.fieldAddr 28 (Go.Operand.tmp 1) 4, type := 0, pos := _, after := #[], guard := none } : Oper)) (v := ?_) rfl (by kernel_rfl) (by kernel_rfl) (by kernel_rfl) (fun _ _ _ h => nomatch h.1) (Or.inl ⟨by rfl, ?_⟩) (by assumption) ?_
  rotate_left
  · intro W' hSw
    try dsimp only at hSw
    go_simp
    try with_reducible rfl
  try simp only [Act.put, List.setIfInBounds_toArray, List.set_cons_zero, List.set_cons_succ]
  refine wpAnyH_take (i := 1) (oi := ({ dst := some 14, op := Go.Op.load 9 (Go.Operand.tmp 13), type := 9, pos := _, after := #[{ on := 0, ground := Go.Ground.data }], guard := none } : Oper)) (v := ?_) rfl (by kernel_rfl) (by kernel_rfl) (by kernel_rfl) (fun _ _ _ h => nomatch h.1) (Or.inl ⟨by rfl, ?_⟩) (by assumption) ?_
  rotate_left
  · intro W' hSw
    try dsimp only at hSw
    go_simp
    try with_reducible rfl
  try simp only [Act.put, List.setIfInBounds_toArray, List.set_cons_zero, List.set_cons_succ]
  refine wpAnyH_take (i := 2) (oi := ({ dst := some 15, op := Go.Op.index 9 (Go.Operand.tmp 14) (Go.Operand.const (Go.Value.int Go.IntKind.i64 1)), type := 5, pos := _, after := #[{ on := 1, ground := Go.Ground.data }], guard := none } : Oper)) (v := ?_) rfl (by kernel_rfl) (by kernel_rfl) (by kernel_rfl) (fun _ _ _ h => nomatch h.1) (Or.inl ⟨by rfl, ?_⟩) (by assumption) ?_
  rotate_left
  · intro W' hSw
    try dsimp only at hSw
    go_simp
    try with_reducible rfl
  try simp only [Act.put, List.setIfInBounds_toArray, List.set_cons_zero, List.set_cons_succ]
  refine wpAnyH_take (i := 3) (oi := ({ dst := some 16, op := Go.Op.convert 5 3 (Go.Operand.tmp 15), type := 3, pos := _, after := #[{ on := 2, ground := Go.Ground.data }], guard := none } : Oper)) (v := ?_) rfl (by kernel_rfl) (by kernel_rfl) (by kernel_rfl) (fun _ _ _ h => nomatch h.1) (Or.inl ⟨by rfl, ?_⟩) (by assumption) ?_
  rotate_left
  · intro W' hSw
    try dsimp only at hSw
    go_simp
    try with_reducible rfl
  try simp only [Act.put, List.setIfInBounds_toArray, List.set_cons_zero, List.set_cons_succ]
  refine wpAnyH_take (i := 4) (oi := ({ dst := some 17, op := Go.Op.fieldAddr 28 (Go.Operand.tmp 1) 4, type := 0, pos := _, after := #[], guard := none } : Oper)) (v := ?_) rfl (by kernel_rfl) (by kernel_rfl) (by kernel_rfl) (fun _ _ _ h => nomatch h.1) (Or.inl ⟨by rfl, ?_⟩) (by assumption) ?_
  rotate_left
  · intro W' hSw
    try dsimp only at hSw
    go_simp
    try with_reducible rfl
  try simp only [Act.put, List.setIfInBounds_toArray, List.set_cons_zero, List.set_cons_succ]
  refine wpAnyH_take (i := 5) (oi := ({ dst := some 18, op := Go.Op.load 9 (Go.Operand.tmp 17), type := 9, pos := _, after := #[{ on := 4, ground := Go.Ground.data }], guard := none } : Oper)) (v := ?_) rfl (by kernel_rfl) (by kernel_rfl) (by kernel_rfl) (fun _ _ _ h => nomatch h.1) (Or.inl ⟨by rfl, ?_⟩) (by assumption) ?_
  rotate_left
  · intro W' hSw
    try dsimp only at hSw
    go_simp
    try with_reducible rfl
  try simp only [Act.put, List.setIfInBounds_toArray, List.set_cons_zero, List.set_cons_succ]
  refine wpAnyH_take (i := 6) (oi := ({ dst := some 19, op := Go.Op.index 9 (Go.Operand.tmp 18) (Go.Operand.const (Go.Value.int Go.IntKind.i64 2)), type := 5, pos := _, after := #[{ on := 5, ground := Go.Ground.data }], guard := none } : Oper)) (v := ?_) rfl (by kernel_rfl) (by kernel_rfl) (by kernel_rfl) (fun _ _ _ h => nomatch h.1) (Or.inl ⟨by rfl, ?_⟩) (by assumption) ?_
  rotate_left
  · intro W' hSw
    try dsimp only at hSw
    go_simp
    try with_reducible rfl
  try simp only [Act.put, List.setIfInBounds_toArray, List.set_cons_zero, List.set_cons_succ]
  refine wpAnyH_take (i := 7) (oi := ({ dst := some 20, op := Go.Op.convert 5 3 (Go.Operand.tmp 19), type := 3, pos := _, after := #[{ on := 6, ground := Go.Ground.data }], guard := none } : Oper)) (v := ?_) rfl (by kernel_rfl) (by kernel_rfl) (by kernel_rfl) (fun _ _ _ h => nomatch h.1) (Or.inl ⟨by rfl, ?_⟩) (by assumption) ?_
  rotate_left
  · intro W' hSw
    try dsimp only at hSw
    go_simp
    try with_reducible rfl
  try simp only [Act.put, List.setIfInBounds_toArray, List.set_cons_zero, List.set_cons_succ]
  refine wpAnyH_take (i := 8) (oi := ({ dst := some 21, op := Go.Op.fieldAddr 28 (Go.Operand.tmp 1) 4, type := 0, pos := _, after := #[], guard := none } : Oper)) (v := ?_) rfl (by kernel_rfl) (by kernel_rfl) (by kernel_rfl) (fun _ _ _ h => nomatch h.1) (Or.inl ⟨by rfl, ?_⟩) (by assumption) ?_
  rotate_left
  · intro W' hSw
    try dsimp only at hSw
    go_simp
    try with_reducible rfl
  try simp only [Act.put, List.setIfInBounds_toArray, List.set_cons_zero, List.set_cons_succ]
  refine wpAnyH_take (i := 9) (oi := ({ dst := some 22, op := Go.Op.load 9 (Go.Operand.tmp 21), type := 9, pos := _, after := #[{ on := 8, ground := Go.Ground.data }], guard := none } : Oper)) (v := ?_) rfl (by kernel_rfl) (by kernel_rfl) (by kernel_rfl) (fun _ _ _ h => nomatch h.1) (Or.inl ⟨by rfl, ?_⟩) (by assumption) ?_
  rotate_left
  · intro W' hSw
    try dsimp only at hSw
    go_simp
    try with_reducible rfl
  try simp only [Act.put, List.setIfInBounds_toArray, List.set_cons_zero, List.set_cons_succ]
  refine wpAnyH_ready (rs := [10, 12]) (by kernel_rfl) (by simp) ?_
  refine (AllReadyH.cons (o := ({ dst := some 23, op := Go.Op.call { callee := Go.Callee.value (Go.Operand.func 29), args := #[Go.Operand.tmp 22], argTypes := #[9] }, type := 3, pos := _, after := #[{ on := 9, ground := Go.Ground.data }], guard := none } : Oper)) rfl (fun K hK => ?_) (AllReadyH.cons (o := ({ dst := some 5, op := Go.Op.alloc 32, type := 0, pos := _, after := #[], guard := none } : Oper)) rfl (fun K hK => ?_) AllReadyH.nil))
  · go_simp
    refine (every_at (s := s) (v := ev) h6 HEV.out).mono ?_
    rintro e w2 ⟨rfl, q, rfl⟩
    go_wp2_with fail
    refine hK.out _ _ ?_ (fun hHeld => ?_)
    · exact hHeld
    clear hK K
    try simp only [Act.put, List.setIfInBounds_toArray, List.set_cons_zero, List.set_cons_succ]
    refine wpAnyH_take (i := 11) (oi := ({ dst := some 24, op := Go.Op.build 32 #[(0, Go.Operand.tmp 16), (1, Go.Operand.tmp 20), (2, Go.Operand.tmp 23)], type := 32, pos := _, after := #[{ on := 3, ground := Go.Ground.data }, { on := 7, ground := Go.Ground.data }, { on := 10, ground := Go.Ground.data }], guard := none } : Oper)) (v := ?_) rfl (by kernel_rfl) (by kernel_rfl) (by kernel_rfl) (fun _ _ _ h => nomatch h.1) (Or.inl ⟨by rfl, ?_⟩) (by assumption) ?_
    rotate_left
    · intro W' hSw
      try dsimp only at hSw
      go_simp
      try with_reducible rfl
    try simp only [Act.put, List.setIfInBounds_toArray, List.set_cons_zero, List.set_cons_succ]
    refine wpAnyH_ready (rs := [12]) (by kernel_rfl) (by simp) ?_
    refine AllReadyH.cons (o := ({ dst := some 5, op := Go.Op.alloc 32, type := 0, pos := _, after := #[], guard := none } : Oper)) rfl (fun K hK => ?_) AllReadyH.nil
    go_simp
    refine hK.out _ _ ?_ (fun hHeld => ?_)
    · exact (((Below.refl w1.heap.size w1).alloc (Nat.le_refl _) _).cell (p := ⟨w.heap.size, 4, none⟩) nb1).trans z4
    clear hK K
    try simp only [Act.put, List.setIfInBounds_toArray, List.set_cons_zero, List.set_cons_succ]
    rw [alloc_drewN]
    refine wpAnyH_ready (rs := [13]) (by kernel_rfl) (by simp) ?_
    refine AllReadyH.cons (o := ({ dst := none, op := Go.Op.store 32 (Go.Operand.tmp 5) (Go.Operand.tmp 24), type := 0, pos := _, after := #[{ on := 12, ground := Go.Ground.data }, { on := 11, ground := Go.Ground.data }, { on := 10, ground := Go.Ground.chain }, { on := 0, ground := Go.Ground.phase }, { on := 1, ground := Go.Ground.phase }, { on := 2, ground := Go.Ground.phase }, { on := 3, ground := Go.Ground.phase }, { on := 4, ground := Go.Ground.phase }, { on := 5, ground := Go.Ground.phase }, { on := 6, ground := Go.Ground.phase }, { on := 7, ground := Go.Ground.phase }, { on := 8, ground := Go.Ground.phase }, { on := 9, ground := Go.Ground.phase }, { on := 10, ground := Go.Ground.phase }, { on := 11, ground := Go.Ground.phase }, { on := 12, ground := Go.Ground.phase }], guard := none } : Oper)) rfl (fun K hK => ?_) AllReadyH.nil
    go_simp
    refine hK.out _ _ ?_ (fun hHeld => ?_)
    · exact ((below4 ((Below.refl w1.heap.size w1).alloc (Nat.le_refl _) _) (Nat.le_refl _)).cell (p := ⟨w.heap.size, 4, none⟩) nb1).trans z4
    clear hK K
    try simp only [Act.put, List.setIfInBounds_toArray, List.set_cons_zero, List.set_cons_succ]
    refine wpAnyH_done (by kernel_rfl) ?_ _
    refine ⟨rfl, ⟨_, _, _, _, _, _, _, _, _, _, _, _, rfl⟩, BoxA.laid w1 _ 0 0 0 0 id pr ev _, ?_⟩
    exact below4 (below_drewN ((Below.refl w1.heap.size w1).alloc (Nat.le_refl _) _) _) (Nat.le_refl _)
  · go_simp
    refine hK.out _ _ ?_ (fun hHeld => ?_)
    · exact (((Below.refl w1.heap.size w1).alloc (Nat.le_refl _) _).cell (p := ⟨w.heap.size, 4, none⟩) nb1).trans z4
    clear hK K
    try simp only [Act.put, List.setIfInBounds_toArray, List.set_cons_zero, List.set_cons_succ]
    refine wpAnyH_ready (rs := [10]) (by kernel_rfl) (by simp) ?_
    refine AllReadyH.cons (o := ({ dst := some 23, op := Go.Op.call { callee := Go.Callee.value (Go.Operand.func 29), args := #[Go.Operand.tmp 22], argTypes := #[9] }, type := 3, pos := _, after := #[{ on := 9, ground := Go.Ground.data }], guard := none } : Oper)) rfl (fun K hK => ?_) AllReadyH.nil
    go_simp
    refine (every_at (s := s) (v := ev) h6 HEV.out).mono ?_
    rintro e w2 ⟨rfl, q, rfl⟩
    go_wp2_with fail
    refine hK.out _ _ ?_ (fun hHeld => ?_)
    · exact hHeld
    clear hK K
    try simp only [Act.put, List.setIfInBounds_toArray, List.set_cons_zero, List.set_cons_succ]
    refine wpAnyH_take (i := 11) (oi := ({ dst := some 24, op := Go.Op.build 32 #[(0, Go.Operand.tmp 16), (1, Go.Operand.tmp 20), (2, Go.Operand.tmp 23)], type := 32, pos := _, after := #[{ on := 3, ground := Go.Ground.data }, { on := 7, ground := Go.Ground.data }, { on := 10, ground := Go.Ground.data }], guard := none } : Oper)) (v := ?_) rfl (by kernel_rfl) (by kernel_rfl) (by kernel_rfl) (fun _ _ _ h => nomatch h.1) (Or.inl ⟨by rfl, ?_⟩) (by assumption) ?_
    rotate_left
    · intro W' hSw
      try dsimp only at hSw
      go_simp
      try with_reducible rfl
    try simp only [Act.put, List.setIfInBounds_toArray, List.set_cons_zero, List.set_cons_succ]
    refine wpAnyH_ready (rs := [13]) (by kernel_rfl) (by simp) ?_
    refine AllReadyH.cons (o := ({ dst := none, op := Go.Op.store 32 (Go.Operand.tmp 5) (Go.Operand.tmp 24), type := 0, pos := _, after := #[{ on := 12, ground := Go.Ground.data }, { on := 11, ground := Go.Ground.data }, { on := 10, ground := Go.Ground.chain }, { on := 0, ground := Go.Ground.phase }, { on := 1, ground := Go.Ground.phase }, { on := 2, ground := Go.Ground.phase }, { on := 3, ground := Go.Ground.phase }, { on := 4, ground := Go.Ground.phase }, { on := 5, ground := Go.Ground.phase }, { on := 6, ground := Go.Ground.phase }, { on := 7, ground := Go.Ground.phase }, { on := 8, ground := Go.Ground.phase }, { on := 9, ground := Go.Ground.phase }, { on := 10, ground := Go.Ground.phase }, { on := 11, ground := Go.Ground.phase }, { on := 12, ground := Go.Ground.phase }], guard := none } : Oper)) rfl (fun K hK => ?_) AllReadyH.nil
    go_simp
    refine hK.out _ _ ?_ (fun hHeld => ?_)
    · exact ((below4 ((Below.refl w1.heap.size w1).alloc (Nat.le_refl _) _) (Nat.le_refl _)).cell (p := ⟨w.heap.size, 4, none⟩) nb1).trans z4
    clear hK K
    try simp only [Act.put, List.setIfInBounds_toArray, List.set_cons_zero, List.set_cons_succ]
    refine wpAnyH_done (by kernel_rfl) ?_ _
    refine ⟨rfl, ⟨_, _, _, _, _, _, _, _, _, _, _, _, rfl⟩, BoxA.laid w1 _ 0 0 0 0 id pr ev _, ?_⟩
    exact below4 (below_drewN ((Below.refl w1.heap.size w1).alloc (Nat.le_refl _) _) _) (Nat.le_refl _)

end Go.Proofs.Ythhomfchoomelaa
