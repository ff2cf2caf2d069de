/-
  The document's boards: Move.
-/
import Derived.Test.YtkcndgiiangmjaaRb3
import Derived.Test.YtkcndgiiangmjaaHmove
namespace Go.Proofs.Ytkcndgiiangmjaa
open Go.RowKit Go.Maps
set_option linter.unusedVariables false
set_option linter.unusedSimpArgs false
set_option maxRecDepth 10000
attribute [local go_sem ↓] bigS48

def RmRel (w : World) (r : Ru) (vp : Value) (now : Nat) (vt u : Value) (s : St) (x : Int) (N6 d gg : Nat) (s8 : Value) (wr : World) : Prop :=
  ∃ (j : Nat) (vj : Value), j + gg = d ∧ s8 = .int .i64 (j : Int) ∧ Cb wr w.heap.size 48 [.int .i64 r.rise, .int .i64 r.fall, .int .i64 r.every, vp, .int .i64 now, vt] ∧
    Cb wr (w.heap.size + 1) 48 [.int .i64 0, .int .i64 0, .int .i64 0, .slice none 0 0, .int .i64 0, .slice none 0 0] ∧ Cb wr N6 46 [.int .i64 (mvN s.now x), vj] ∧
    wr.ownsRow 0 93 2 vj (mdS s x (x + r.every) j).l.length (tcells (mdS s x (x + r.every) j).l) ∧ wr.ownsRow (w.heap.size + 2) 3 1 u d (icells (mvD s.l s.now x)) ∧ Below w.heap.size w wr ∧ (∀ g, u.ownBlock = some g → g ≠ N6) ∧
    (∀ g, vj.ownBlock = some g → g ≠ N6 ∧ g ≠ w.heap.size ∧ g ≠ w.heap.size + 1 ∧ (vt.ownBlock = some g ∨ w.heap.size ≤ g))

set_option maxHeartbeats 8000000 in
theorem rmoveb_any {w : World} {r : Ru} {s : St} {m1 c1 : Nat} {vt : Value} {a1 : Option Addr} (ht : w.ownsRow 0 93 2 vt s.l.length (tcells s.l)) (hr : okR r = true) (ok : OkS s 16) (x : Int) :
    Calls Try.prog 20 #[rbv r (.slice a1 m1 c1) s.now vt, .int .i64 x] w fun e w' => ∃ vt' u, e = .returned (.tuple #[rbv r (.slice a1 m1 c1) (bmS r s x).now vt', u]) ∧ w'.ownsRow 0 93 2 vt' (bmS r s x).l.length (tcells (bmS r s x).l) ∧
      w'.ownsRow w.heap.size 3 1 u (bmD s x).length (icells (bmD s x)) ∧ Below w.heap.size w w' ∧ (∀ g, vt'.ownBlock = some g → vt.ownBlock = some g ∨ w.heap.size ≤ g) := by
  obtain ⟨a2, c2, rfl, -, -⟩ := row_any ht
  obtain ⟨m2, hm2⟩ : ∃ m2, s.l.length = m2 := ⟨_, rfl⟩
  obtain ⟨w0, hw0⟩ : ∃ X, X = (w.alloc (.cells #[.int .i64 r.rise, .int .i64 r.fall, .int .i64 r.every, .slice a1 m1 c1, .int .i64 s.now, .slice a2 m2 c2] 48)).alloc (.cells #[.int .i64 0, .int .i64 0, .int .i64 0, .slice none 0 0, .int .i64 0, .slice none 0 0] 48) := ⟨_, rfl⟩
  have hc0 : Cb w0 w.heap.size 48 [.int .i64 r.rise, .int .i64 r.fall, .int .i64 r.every, .slice a1 m1 c1, .int .i64 s.now, .slice a2 m2 c2] := by rw [hw0]; exact (Cb.new6 w _ _ _ _ _ _ 48).alloc _
  have hc1 : Cb w0 (w.heap.size + 1) 48 [.int .i64 0, .int .i64 0, .int .i64 0, .slice none 0 0, .int .i64 0, .slice none 0 0] := by
    rw [hw0]
    have h := Cb.new6 (w.alloc (.cells #[.int .i64 r.rise, .int .i64 r.fall, .int .i64 r.every, .slice a1 m1 c1, .int .i64 s.now, .slice a2 m2 c2] 48)) (.int .i64 0) (.int .i64 0) (.int .i64 0) (.slice none 0 0) (.int .i64 0) (.slice none 0 0) 48
    rwa [World.size_alloc] at h
  have hb0 : Below w.heap.size w w0 := by rw [hw0]; exact below_alloc (below_alloc (Below.refl _ _) _) _
  have hs0 : w0.heap.size = w.heap.size + 2 := by rw [hw0]; simp
  have ht0 := row_below ht hb0
  have HGT : Hid (∀ g, (Value.slice a2 s.l.length c2).ownBlock = some g → g < w.heap.size) := Lib.hid fun g hg => (ht.lt g hg).2
  obtain ⟨q0, q1, q2, q3, q4, q5⟩ := hc0.six
  have hl0 := hc0.lt
  have HW0 := Lib.hid hw0
  have HX := Lib.hid (And.intro hc0 (And.intro hc1 (And.intro hb0 ht0)))
  unfold rbv
  by_cases hx : x > 1099511617776
  · have e1 : farB x = true := decide_eq_true hx
    have e2 : bmD s x = [] := by unfold bmD; rw [e1]; rfl
    have e3 : bmS r s x = s := by unfold bmS; rw [e1]; rfl
    rw [e2, e3]
    obtain ⟨w3, hst3, hcb3, ho3⟩ := store48 hc1 rfl r.rise r.fall r.every s.now (.slice a1 m1 c1) (.slice a2 m2 c2) rfl rfl
    obtain ⟨g0, g1, g2, g3, g4, g5⟩ := hcb3.six
    have HO3 := Lib.hid ho3
    have HT3 := Lib.hid (row_only ht0 ho3 fun g hg e => by have := HGT.out g hg; have : g = w.heap.size + 1 := e; omega)
    rw [hm2] at HT3 ⊢
    clear ht0 ht hc0 hc1 hb0 hcb3 ho3 e1 e2 e3 ok hr
    rw [hw0] at q0 q1 q2 q3 q4 q5 hst3
    clear hw0 hs0 hl0
    go_enter Try.func20, Try.ntmps20
    go_wp2
    refine bodyPost_ret (v := .tuple #[.agg #[.int .i64 r.rise, .int .i64 r.fall, .int .i64 r.every, .slice a1 m1 c1, .int .i64 s.now, .slice a2 m2 c2], .slice none 0 0]) (by simp [results, Try.results20, go_sem, g0, g1, g2, g3, g4, g5]) rfl ⟨_, _, rfl, HT3.out, World.ownsRow_nil _ _ _ _, only_below HX.out.2.2.1 HO3.out (by omega), fun g hg => .inl hg⟩
  · have e1 : farB x = false := decide_eq_false hx
    have e2 : bmD s x = mvD s.l s.now x := by unfold bmD; rw [e1]; rfl
    have e3 : bmS r s x = mdS s x (x + r.every) (mvD s.l s.now x).length := by unfold bmS mdS; rw [e1, List.take_length]; rfl
    have e4 : (mdS s x (x + r.every) (mvD s.l s.now x).length).now = mvN s.now x := rfl
    rw [e2, e3, e4]
    have hre := (okR_iff.1 hr).2.2
    have HMV := Lib.hid (rmove_any (now := s.now) ht0 (by have := ok.len; omega) x)
    have HSO := Lib.hid (fun j => mdS_ok ok x (x + r.every) j)
    have hdl : (mvD s.l s.now x).length ≤ 16 := by have := mv_len s x; have := ok.len; omega
    have hpos : 0 < (mvD s.l s.now x).length → 0 ≤ x := fun h0 => by
      unfold mvD at h0
      split at h0
      · rename_i h1
        have := of_decide_eq_true h1
        omega
      · simp at h0
    have HNX := Lib.hid (fun j (h : j < (mvD s.l s.now x).length) => mdS_next s x (x + r.every) h)
    have HS0 : Hid (mdS s x (x + r.every) 0 = ⟨mvN s.now x, mvL s.l s.now x⟩) := Lib.hid (by unfold mdS; rw [List.take_zero]; rfl)
    obtain ⟨d, hd⟩ : ∃ d, (mvD s.l s.now x).length = d := ⟨_, rfl⟩
    rw [hd] at HMV hdl hpos HNX ⊢
    have HD := Lib.hid hd
    have HM2 := Lib.hid hm2
    unfold rv at HMV
    rw [hm2] at HMV ⊢
    clear ht0 ht hc0 hc1 hb0 hw0 e1 e2 e3 e4 ok hr hd hm2
    go_enter Try.func20, Try.ntmps20
    go_upto_region 3 with fail
    rw [← HW0.out]
    go_wp2_with (go_at_call 33; refine HMV.out.mono ?_; rintro e w1 ⟨v1, u, rfl, hr1, hu1, hb1, hn1⟩; obtain ⟨av, cv, rfl, -, -⟩ := row_any hr1; obtain ⟨au, cu, rfl, -, -⟩ := row_any hu1; have HY := Lib.hid (And.intro hr1 (And.intro hu1 (And.intro hb1 hn1))); have hs1 : w.heap.size + 2 ≤ w1.heap.size := (by have := hb1.size; omega); clear hr1 hu1 hb1 hn1)
    obtain ⟨ml, hml⟩ : ∃ ml, (mvL s.l s.now x).length = ml := ⟨_, rfl⟩
    have HML := Lib.hid hml
    rw [hml] at HY ⊢
    clear hml
    obtain ⟨w2, hw2⟩ : ∃ X, X = w1.alloc (.cells #[.int .i64 (mvN s.now x), .slice av ml cv] 46) := ⟨_, rfl⟩
    have hba : Below w1.heap.size w1 w2 := by rw [hw2]; exact below_alloc (Below.refl _ _) _
    have hc6 : Cb w2 w1.heap.size 46 [.int .i64 (mvN s.now x), .slice av ml cv] := by rw [hw2]; exact Cb.new2 w1 _ _ 46
    have HST : Hid (RmRel w r (.slice a1 m1 c1) s.now (.slice a2 m2 c2) (.slice au d cu) s x w1.heap.size d d (.int .i64 ((0 : Nat) : Int)) w2) := Lib.hid (by
      have hb1w := HY.out.2.2.1
      refine ⟨0, .slice av ml cv, by omega, rfl, (HX.out.1.below hb1w).below hba, (HX.out.2.1.below hb1w).below hba, hc6, ?_, row_below (by rw [← hs0]; exact HY.out.2.1) hba, ?_, fun g hg => by have := (HY.out.2.1.lt g hg).2; omega, fun g hg => ?_⟩
      · rw [HS0.out]
        have h := row_below HY.out.1 hba
        rw [← HML.out] at h ⊢
        exact h
      · have b1 := HX.out.2.2.1.trans (hb1w.mono HX.out.2.2.1.size)
        exact b1.trans (hba.mono b1.size)
      · have h1 := (HY.out.1.lt g hg).2
        rcases HY.out.2.2.2 g hg with h | h
        · have h2 := HGT.out g (by rw [HM2.out]; exact h)
          exact ⟨by omega, by omega, by omega, .inl h⟩
        · exact ⟨by omega, by omega, by omega, .inr (by omega)⟩)
    obtain ⟨N6, hN6⟩ : ∃ N6, w1.heap.size = N6 := ⟨_, rfl⟩
    rw [hN6] at HST hs1 ⊢
    try rw [← hw2]
    clear hw2 hba hc6 HY HML HS0 q0 q1 q2 q3 q4 q5 hl0 hN6
    go_loopg [8] d (fun gg s8 wr => Hid (RmRel w r (.slice a1 m1 c1) s.now (.slice a2 m2 c2) (.slice au d cu) s x N6 d gg s8 wr))
    case atStart => exact HST
    case round =>
      obtain ⟨j, vj, hj, rfl, hcA, hcB, hc6, hrj, hru, hb, huN, hoj⟩ := hrel.out
      clear hrel HST
      obtain ⟨y0, y1, y2, y3, y4, y5⟩ := hcA.six
      obtain ⟨av2, cv2, rfl, -, -⟩ := row_any hrj
      obtain ⟨z0, z1⟩ := hc6.two
      have hl6 := hc6.lt
      have hlA := hcA.lt
      by_cases hjd : j < d
      · have hjz : (j : Int) < (d : Int) := by omega
        have hx0 := hpos (by omega)
        obtain ⟨gu, cu', e, _⟩ := row_slice hru (by omega)
        simp only [Value.slice.injEq, true_and] at e
        obtain ⟨rfl, rfl⟩ := e
        have hok := HSO.out j
        have HSET := Lib.hid (fun k => rset_any (w := wr.drew) (now := mvN s.now x) (row_drew hrj) (by have := hok.len; omega) k (x + r.every))
        have HNJ := Lib.hid (HNX.out j hjd)
        have hw1 : IntKind.i64.wrap (x + r.every) = x + r.every := by rw [IntKind.wrap_i64]; omega
        obtain ⟨k, hk⟩ : ∃ k, (mvD s.l s.now x)[j]! = k := ⟨_, rfl⟩
        have HK := Lib.hid hk
        rw [hk] at HNJ
        unfold rv at HSET
        have HF := Lib.hid (And.intro hcA (And.intro hcB (And.intro hc6 (And.intro hrj (And.intro hru (And.intro hb (And.intro huN hoj)))))))
        have hH0 : Cb wr.drew w.heap.size 48 [.int .i64 r.rise, .int .i64 r.fall, .int .i64 r.every, .slice a1 m1 c1, .int .i64 s.now, .slice a2 m2 c2] ∧ wr.drew.ownsRow (w.heap.size + 2) 3 1 (.slice (some ⟨gu, 0, none⟩) d cu) d (icells (mvD s.l s.now x)) := ⟨hcA, hru⟩
        have HH0 := Lib.hid hH0
        have HGU : Hid (gu ≠ N6 ∧ w.heap.size + 2 ≤ gu) := Lib.hid ⟨huN gu rfl, (hru.lt gu rfl).1⟩
        clear hcA hcB hc6 hrj hru hb huN hoj hok hk hH0
        generalize (mdS s x (x + r.every) j).l.length = mj at *
        go_wp2_with fail
        refine wp_region_held_drew (S := fun X => Cb X w.heap.size 48 [.int .i64 r.rise, .int .i64 r.fall, .int .i64 r.every, .slice a1 m1 c1, .int .i64 s.now, .slice a2 m2 c2] ∧ X.ownsRow (w.heap.size + 2) 3 1 (.slice (some ⟨gu, 0, none⟩) d cu) d (icells (mvD s.l s.now x))) (by kernel_rfl) HH0.out (fun hHeld => ?_)
        refine wpAnyH_take (i := 1) (oi := ({ dst := some 27, op := Go.Op.move (Go.Operand.tmp 7), type := 57, pos := _, after := #[], guard := none } : Oper)) (v := ?_) rfl (by kernel_rfl) (by kernel_rfl) (by kernel_rfl) (fun _ _ _ h => h) (Or.inl ⟨by rfl, ?_⟩) (by assumption) ?_
        rotate_left
        · intro W' hSw
          try dsimp only at hSw
          go_simp
          try with_reducible rfl
        try simp only [Act.put, List.setIfInBounds_toArray, List.set_cons_zero, List.set_cons_succ]
        refine wpAnyH_take (i := 2) (oi := ({ dst := some 28, op := Go.Op.move (Go.Operand.tmp 8), type := 3, pos := _, after := #[], guard := none } : Oper)) (v := ?_) rfl (by kernel_rfl) (by kernel_rfl) (by kernel_rfl) (fun _ _ _ h => h) (Or.inl ⟨by rfl, ?_⟩) (by assumption) ?_
        rotate_left
        · intro W' hSw
          try dsimp only at hSw
          go_simp
          try with_reducible rfl
        try simp only [Act.put, List.setIfInBounds_toArray, List.set_cons_zero, List.set_cons_succ]
        refine wpAnyH_take (i := 3) (oi := ({ dst := some 29, op := Go.Op.indexAddr 57 (Go.Operand.tmp 27) (Go.Operand.tmp 28), type := 0, pos := _, after := #[{ on := 1, ground := Go.Ground.data }, { on := 2, ground := Go.Ground.data }], guard := none } : Oper)) (v := ?_) rfl (by kernel_rfl) (by kernel_rfl) (by kernel_rfl) (fun _ _ _ h => h) (Or.inl ⟨by rfl, ?_⟩) (by assumption) ?_
        rotate_left
        · intro W' hSw
          try dsimp only at hSw
          go_simp
          try with_reducible rfl
        try simp only [Act.put, List.setIfInBounds_toArray, List.set_cons_zero, List.set_cons_succ]
        refine wpAnyH_take (i := 4) (oi := ({ dst := some 30, op := Go.Op.load 3 (Go.Operand.tmp 29), type := 3, pos := _, after := #[{ on := 3, ground := Go.Ground.data }], guard := none } : Oper)) (v := ?_) rfl (by kernel_rfl) (by kernel_rfl) (by kernel_rfl) (fun _ _ _ h => h) (Or.inl ⟨by rfl, ?_⟩) (by assumption) ?_
        rotate_left
        · intro W' hSw
          try dsimp only at hSw
          have p0 := irow_at hSw.2 hjd
          rw [HK.out] at p0
          go_simp
          try with_reducible rfl
        try simp only [Act.put, List.setIfInBounds_toArray, List.set_cons_zero, List.set_cons_succ]
        refine wpAnyH_take (i := 5) (oi := ({ dst := some 31, op := Go.Op.move (Go.Operand.tmp 1), type := 3, pos := _, after := #[], guard := none } : Oper)) (v := ?_) rfl (by kernel_rfl) (by kernel_rfl) (by kernel_rfl) (fun _ _ _ h => h) (Or.inl ⟨by rfl, ?_⟩) (by assumption) ?_
        rotate_left
        · intro W' hSw
          try dsimp only at hSw
          go_simp
          try with_reducible rfl
        try simp only [Act.put, List.setIfInBounds_toArray, List.set_cons_zero, List.set_cons_succ]
        refine wpAnyH_take (i := 6) (oi := ({ dst := some 32, op := Go.Op.fieldAddr 48 (Go.Operand.tmp 2) 0, type := 0, pos := _, after := #[], guard := none } : Oper)) (v := ?_) rfl (by kernel_rfl) (by kernel_rfl) (by kernel_rfl) (fun _ _ _ h => h) (Or.inl ⟨by rfl, ?_⟩) (by assumption) ?_
        rotate_left
        · intro W' hSw
          try dsimp only at hSw
          go_simp
          try with_reducible rfl
        try simp only [Act.put, List.setIfInBounds_toArray, List.set_cons_zero, List.set_cons_succ]
        refine wpAnyH_take (i := 7) (oi := ({ dst := some 33, op := Go.Op.fieldAddr 23 (Go.Operand.tmp 32) 2, type := 0, pos := _, after := #[{ on := 6, ground := Go.Ground.data }], guard := none } : Oper)) (v := ?_) rfl (by kernel_rfl) (by kernel_rfl) (by kernel_rfl) (fun _ _ _ h => h) (Or.inl ⟨by rfl, ?_⟩) (by assumption) ?_
        rotate_left
        · intro W' hSw
          try dsimp only at hSw
          go_simp
          try with_reducible rfl
        try simp only [Act.put, List.setIfInBounds_toArray, List.set_cons_zero, List.set_cons_succ]
        refine wpAnyH_take (i := 8) (oi := ({ dst := some 34, op := Go.Op.load 3 (Go.Operand.tmp 33), type := 3, pos := _, after := #[{ on := 7, ground := Go.Ground.data }], guard := none } : Oper)) (v := ?_) rfl (by kernel_rfl) (by kernel_rfl) (by kernel_rfl) (fun _ _ _ h => h) (Or.inl ⟨by rfl, ?_⟩) (by assumption) ?_
        rotate_left
        · intro W' hSw
          try dsimp only at hSw
          obtain ⟨e0, e1, e2, e3, e4, e5⟩ := hSw.1.six
          go_simp
          try with_reducible rfl
        try simp only [Act.put, List.setIfInBounds_toArray, List.set_cons_zero, List.set_cons_succ]
        refine wpAnyH_take (i := 9) (oi := ({ dst := some 35, op := Go.Op.binOp Go.BinOp.add 3 (Go.Operand.tmp 31) (Go.Operand.tmp 34) 3, type := 3, pos := _, after := #[{ on := 5, ground := Go.Ground.data }, { on := 8, ground := Go.Ground.data }], guard := none } : Oper)) (v := ?_) rfl (by kernel_rfl) (by kernel_rfl) (by kernel_rfl) (fun _ _ _ h => h) (Or.inl ⟨by rfl, ?_⟩) (by assumption) ?_
        rotate_left
        · intro W' hSw
          try dsimp only at hSw
          go_simp
          try with_reducible rfl
        try simp only [Act.put, List.setIfInBounds_toArray, List.set_cons_zero, List.set_cons_succ]
        refine wpAnyH_ready (rs := [0]) (by kernel_rfl) (by simp) ?_
        refine AllReadyH.cons (o := ({ dst := some 26, op := Go.Op.load 46 (Go.Operand.tmp 6), type := 46, pos := _, after := #[], guard := none } : Oper)) rfl (fun K hK => ?_) AllReadyH.nil
        go_simp
        refine hK.out _ _ ?_ (fun hHeld => ?_)
        · exact hHeld
        clear hK K
        try simp only [Act.put, List.setIfInBounds_toArray, List.set_cons_zero, List.set_cons_succ]
        refine wpAnyH_ready (rs := [10]) (by kernel_rfl) (by simp) ?_
        refine AllReadyH.cons (o := ({ dst := some 36, op := Go.Op.call { callee := Go.Callee.value (Go.Operand.func 32), args := #[Go.Operand.tmp 26, Go.Operand.tmp 30, Go.Operand.tmp 35], argTypes := #[46, 3, 3] }, type := 78, pos := _, after := #[{ on := 0, ground := Go.Ground.data }, { on := 4, ground := Go.Ground.data }, { on := 9, ground := Go.Ground.data }], guard := none } : Oper)) rfl (fun K hK => ?_) AllReadyH.nil
        go_simp
        refine (HSET.out k).mono ?_
        rintro e w3 ⟨v3, rfl, hr3, hb3, hn3⟩
        obtain ⟨av3, cv3, rfl, -, -⟩ := row_any hr3
        go_wp2_with fail
        refine hK.out _ _ ?_ (fun hHeld => ?_)
        · exact ⟨hHeld.1.below hb3, row_below hHeld.2 hb3⟩
        clear hK K
        try simp only [Act.put, List.setIfInBounds_toArray, List.set_cons_zero, List.set_cons_succ]
        have hc63 := HF.out.2.2.1.drew.below hb3
        obtain ⟨s0, s1⟩ := hc63.two
        have sf := hc63.free
        have sl := hc63.lt
        have HZ := Lib.hid (And.intro hr3 (And.intro hb3 (And.intro hn3 hc63)))
        have HH3 := Lib.hid hHeld
        clear hr3 hb3 hn3 hc63
        refine wpAnyH_take (i := 11) (oi := ({ dst := some 25, op := Go.Op.move (Go.Operand.tmp 36), type := 78, pos := _, after := #[{ on := 10, ground := Go.Ground.data }], guard := none } : Oper)) (v := ?_) rfl (by kernel_rfl) (by kernel_rfl) (by kernel_rfl) (fun _ _ _ h => h) (Or.inl ⟨by rfl, ?_⟩) (by assumption) ?_
        rotate_left
        · intro W' hSw
          try dsimp only at hSw
          go_simp
          try with_reducible rfl
        try simp only [Act.put, List.setIfInBounds_toArray, List.set_cons_zero, List.set_cons_succ]
        refine wpAnyH_take (i := 12) (oi := ({ dst := some 37, op := Go.Op.extract (Go.Operand.tmp 25) 0, type := 46, pos := _, after := #[{ on := 11, ground := Go.Ground.data }], guard := none } : Oper)) (v := ?_) rfl (by kernel_rfl) (by kernel_rfl) (by kernel_rfl) (fun _ _ _ h => h) (Or.inl ⟨by rfl, ?_⟩) (by assumption) ?_
        rotate_left
        · intro W' hSw
          try dsimp only at hSw
          go_simp
          try with_reducible rfl
        try simp only [Act.put, List.setIfInBounds_toArray, List.set_cons_zero, List.set_cons_succ]
        refine wpAnyH_take (i := 13) (oi := ({ dst := some 38, op := Go.Op.extract (Go.Operand.tmp 25) 1, type := 4, pos := _, after := #[{ on := 11, ground := Go.Ground.data }, { on := 14, ground := Go.Ground.gcOnly Go.Departure.lateStores }], guard := none } : Oper)) (v := ?_) rfl (by kernel_rfl) (by kernel_rfl) (by kernel_rfl) (fun _ _ _ h => h) (Or.inl ⟨by rfl, ?_⟩) (by assumption) ?_
        rotate_left
        · intro W' hSw
          try dsimp only at hSw
          go_simp
          try with_reducible rfl
        try simp only [Act.put, List.setIfInBounds_toArray, List.set_cons_zero, List.set_cons_succ]
        refine wpAnyH_ready (rs := [14]) (by kernel_rfl) (by simp) ?_
        refine AllReadyH.cons (o := ({ dst := none, op := Go.Op.store 46 (Go.Operand.tmp 6) (Go.Operand.tmp 37), type := 0, pos := _, after := #[{ on := 12, ground := Go.Ground.data }, { on := 10, ground := Go.Ground.chain }, { on := 0, ground := Go.Ground.phase }, { on := 1, ground := Go.Ground.phase }, { on := 2, ground := Go.Ground.phase }, { on := 3, ground := Go.Ground.phase }, { on := 4, ground := Go.Ground.phase }, { on := 5, ground := Go.Ground.phase }, { on := 6, ground := Go.Ground.phase }, { on := 7, ground := Go.Ground.phase }, { on := 8, ground := Go.Ground.phase }, { on := 9, ground := Go.Ground.phase }, { on := 10, ground := Go.Ground.phase }, { on := 11, ground := Go.Ground.phase }, { on := 12, ground := Go.Ground.phase }, { on := 13, ground := Go.Ground.textOnly Go.Departure.lateStores }], guard := none } : Oper)) rfl (fun K hK => ?_) AllReadyH.nil
        go_simp
        refine hK.out _ _ ?_ (fun hHeld => ?_)
        · exact ⟨HH3.out.1.only (setTwo w3 N6 _ _) (by show ¬ w.heap.size = N6; omega), row_only HH3.out.2 (setTwo w3 N6 _ _) fun g hg e => HGU.out.1 (by have h1 : gu = g := (by simpa [Value.ownBlock] using hg); have h2 : g = N6 := e; omega)⟩
        clear hK K
        try simp only [Act.put, List.setIfInBounds_toArray, List.set_cons_zero, List.set_cons_succ]
        refine wpAnyH_done (by kernel_rfl) ?_ _
        have hO := setTwo w3 N6 (.int .i64 (mvN s.now x)) (.slice av3 (setL (mdS s x (x + r.every) j).l k (x + r.every)).length cv3)
        have hv3 : ∀ g, (Value.slice av3 (setL (mdS s x (x + r.every) j).l k (x + r.every)).length cv3).ownBlock = some g → g ≠ N6 ∧ g ≠ w.heap.size ∧ g ≠ w.heap.size + 1 ∧ ((Value.slice a2 m2 c2).ownBlock = some g ∨ w.heap.size ≤ g) := fun g hg => by
          rcases HZ.out.2.2.1 g hg with h | h
          · exact HF.out.2.2.2.2.2.2.2 g h
          · have h2 : wr.heap.size ≤ g := h
            have h3 := HF.out.2.1.lt
            exact ⟨by omega, by omega, by omega, .inr (by omega)⟩
        have hcB6 := (HF.out.2.1.drew.below HZ.out.2.1).only hO (by show ¬ w.heap.size + 1 = N6; omega)
        have hcA6 := HH3.out.1.only hO (by show ¬ w.heap.size = N6; omega)
        have hc66 := (HZ.out.2.2.2.setAt 0 (.int .i64 (mvN s.now x))).setAt 1 (.slice av3 (setL (mdS s x (x + r.every) j).l k (x + r.every)).length cv3)
        simp only [List.set_cons_succ, List.set_cons_zero] at hc66
        have hr6 := row_only HZ.out.1 hO fun g hg => (hv3 g hg).1
        have hu6 := row_only HH3.out.2 hO fun g hg => HF.out.2.2.2.2.2.2.1 g hg
        have b3 := HF.out.2.2.2.2.2.1.trans ((Below.trans (b := wr.drew) (below_drew (Below.refl _ _)) HZ.out.2.1).mono HF.out.2.2.2.2.2.1.size)
        have b6 := b3.trans (Only.below hO b3.size fun i hi => by have : i = N6 := hi; omega)
        have HE := Lib.hid (And.intro hv3 (And.intro hcB6 (And.intro hcA6 (And.intro hc66 (And.intro hr6 (And.intro hu6 b6))))))
        clear hO hv3 hcB6 hcA6 hc66 hr6 hu6 b3 b6
        go_wp2
        go_roundg (d - (j + 1))
        case measure => omega
        case rel => exact Lib.hid ⟨j + 1, _, by omega, by go_num, HE.out.2.2.1, HE.out.2.1, HE.out.2.2.2.1, by rw [HNJ.out]; exact HE.out.2.2.2.2.1, HE.out.2.2.2.2.2.1, HE.out.2.2.2.2.2.2, HF.out.2.2.2.2.2.2.1, HE.out.1⟩
      · obtain rfl : j = d := by omega
        have hjz : ¬ ((j : Int) < (j : Int)) := by omega
        obtain ⟨mj, hmj⟩ : ∃ mj, (mdS s x (x + r.every) j).l.length = mj := ⟨_, rfl⟩
        have HMJ := Lib.hid hmj
        have hfA := hcA.free
        have HF := Lib.hid (And.intro hcA (And.intro hcB (And.intro hrj (And.intro hru (And.intro hb (And.intro huN hoj))))))
        rw [hmj] at HF z1
        clear hcA hcB hc6 hrj hru hb huN hoj hmj
        go_upto_region 9 with fail
        have ho4 : Only (fun i => i = w.heap.size) wr ((wr.setCell ⟨w.heap.size, 4, none⟩ (.int .i64 (mvN s.now x))).setCell ⟨w.heap.size, 5, none⟩ (.slice av2 mj cv2)) :=
          Only.setCell (F := fun i => i = w.heap.size) (Only.setCell (F := fun i => i = w.heap.size) (Only.refl _ wr) (p := ⟨w.heap.size, 4, none⟩) (Or.inl rfl) _) (p := ⟨w.heap.size, 5, none⟩) (Or.inl rfl) _
        have hcA4 := (HF.out.1.setAt 4 (.int .i64 (mvN s.now x))).setAt 5 (.slice av2 mj cv2)
        simp only [List.set_cons_succ, List.set_cons_zero] at hcA4
        obtain ⟨w4, hw4⟩ : ∃ X, X = (wr.setCell ⟨w.heap.size, 4, none⟩ (.int .i64 (mvN s.now x))).setCell ⟨w.heap.size, 5, none⟩ (.slice av2 mj cv2) := ⟨_, rfl⟩
        rw [← hw4] at ho4 hcA4 ⊢
        clear hw4 y0 y1 y2 y3 y4 y5
        have hcB4 := HF.out.2.1.only ho4 (by show ¬ w.heap.size + 1 = w.heap.size; omega)
        have hr4 := row_only HF.out.2.2.1 ho4 fun g hg => (HF.out.2.2.2.2.2.2 g hg).2.1
        have hu4 := row_only HF.out.2.2.2.1 ho4 fun g hg e => by have := (HF.out.2.2.2.1.lt g hg).1; have : g = w.heap.size := e; omega
        have b4 := HF.out.2.2.2.2.1.trans (Only.below ho4 HF.out.2.2.2.2.1.size fun i hi => by have : i = w.heap.size := hi; omega)
        obtain ⟨w5, hst5, hcb5, ho5⟩ := store48 hcB4 rfl r.rise r.fall r.every (mvN s.now x) (.slice a1 m1 c1) (.slice av2 mj cv2) rfl rfl
        obtain ⟨y0, y1, y2, y3, y4, y5⟩ := hcA4.six
        obtain ⟨g0, g1, g2, g3, g4, g5⟩ := hcb5.six
        have HE := Lib.hid (And.intro (row_only hr4 ho5 fun g hg => (HF.out.2.2.2.2.2.2 g hg).2.2.1) (And.intro (row_only hu4 ho5 fun g hg e => by have := (hu4.lt g hg).1; have : g = w.heap.size + 1 := e; omega) (b4.trans (Only.below ho5 b4.size fun i hi => by have : i = w.heap.size + 1 := hi; omega))))
        clear ho4 hcA4 hcB4 hr4 hu4 b4 hcb5 ho5
        go_wp2
        refine bodyPost_ret (v := .tuple #[.agg #[.int .i64 r.rise, .int .i64 r.fall, .int .i64 r.every, .slice a1 m1 c1, .int .i64 (mvN s.now x), .slice av2 mj cv2], .slice au j cu]) (by simp [results, Try.results20, go_sem, g0, g1, g2, g3, g4, g5]) rfl ⟨_, _, rfl, ?_, row_base HE.out.2.1 (by omega), HE.out.2.2, fun g hg => (HF.out.2.2.2.2.2.2 g hg).2.2.2⟩
        have h := HE.out.1
        rw [← HMJ.out] at h ⊢
        exact h

end Go.Proofs.Ytkcndgiiangmjaa
