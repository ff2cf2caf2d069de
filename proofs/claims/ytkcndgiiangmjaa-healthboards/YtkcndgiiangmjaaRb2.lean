/-
  The document's boards: Lay.
-/
import Derived.Test.YtkcndgiiangmjaaRb1
import Derived.Test.YtkcndgiiangmjaaHlay
namespace Go.Proofs.Ytkcndgiiangmjaa
open Go.RowKit Go.Maps
set_option linter.unusedVariables false
set_option linter.unusedSimpArgs false
set_option maxRecDepth 10000
attribute [local go_sem ↓] bigS48

theorem row_lift {w : World} {base b e size n : Nat} {v : Value} {xs : List Value} (h : w.ownsRow base e size v n xs) (hb : ∀ g, v.ownBlock = some g → b ≤ g) : w.ownsRow b e size v n xs := by
  refine ⟨h.1, ?_⟩
  rcases h.2 with hn | ⟨g, cap, cur, rfl, hbg, rest⟩
  · exact .inl hn
  · exact .inr ⟨g, cap, cur, rfl, hb g rfl, rest⟩
theorem info33 : (Try.prog.info? 33).map (fun i => (i.zero, i.size, i.bytes)) = some (some (.agg #[.bool false, .int .i64 0]), 2, 16) := by kernel_rfl
theorem append_pr {w : World} {b : Nat} {o : Value} {O : List Pr} {p : Pr} (ho : w.ownsRow b 33 2 o O.length (pcells O)) (hb : b ≤ w.heap.size) (hl : O.length ≤ 1000) :
    ∃ v' w', (Builtin.append_ #[43, 43] 43 #[o, .slice (some ⟨w.heap.size, 0, none⟩) 1 1]).run Try.prog (w.alloc (.cells #[.bool p.up, .int .i64 p.run] 33)) = .ok v' w' ∧ w'.ownsRow b 33 2 v' (O ++ [p]).length (pcells (O ++ [p])) ∧ Only (fun i => o.ownBlock = some i) w w' ∧ (∀ g, v'.ownBlock = some g → o.ownBlock = some g ∨ w.heap.size ≤ g) := by
  have hb2 : Below w.heap.size w (w.alloc (.cells #[.bool p.up, .int .i64 p.run] 33)) := below_alloc (Below.refl _ _) _
  obtain ⟨i0, hi, hz0, hz1, hz2⟩ := info_parts info33
  have hcb := Cb.new2 w (.bool p.up) (.int .i64 p.run) 33
  obtain ⟨v', w', hr, h2, h3, _, h5⟩ := run_append_own_at (P := Try.prog) (w.alloc (.cells #[.bool p.up, .int .i64 p.run] 33)) b 43 43 33 i0 _ 2 16 Try.underlying43 hi hz0 hz1 hz2 rfl (by decide) o O.length _ (row_below ho hb2) ⟨w.heap.size, 0, none⟩ 1 1 [.bool p.up, .int .i64 p.run] rfl (fun j u hu => by
    rw [add_plain, Nat.zero_add, hcb.cell j]; exact hu) (by simp [Value.oneCell']) (by simp only [maxLen]; omega) (by omega) (Nat.le_trans hb hb2.size)
  refine ⟨v', w', hr, ?_, ?_, fun g hg => ?_⟩
  · rw [List.length_append, pcells_app]; exact h2
  · exact Only.trans (Only.of_below hb2) (Only.of_grown (F := fun i => o.ownBlock = some i) h3 fun i hi => hi) fun i hi => .inl hi
  · rcases h5 with h5 | h5
    · left; rw [← h5]; exact hg
    · right
      rw [h5] at hg
      have := Option.some.inj hg
      simp at this
      omega
theorem one_row {w : World} {b e s n : Nat} {v : Value} {xs : List Value} (h : w.ownsRow b e s v n xs) : v.oneCell' = true := by
  obtain ⟨a, c, rfl, -, -⟩ := row_any h
  rfl

def RlRel (w : World) (r : Ru) (n gg : Nat) (s7 : Value) (wr : World) : Prop :=
  ∃ (k : Nat) (vp vt : Value), k + gg = n ∧ s7 = .int .i64 (k : Int) ∧ Cb wr (w.heap.size + 1 + 1) 48 [.int .i64 r.rise, .int .i64 r.fall, .int .i64 r.every, vp, .int .i64 0, vt] ∧ wr.ownsRow (w.heap.size + 3) 33 2 vp k (pcells (List.replicate k ⟨false, 0⟩)) ∧
    wr.ownsRow (w.heap.size + 3) 93 2 vt (layS k).l.length (tcells (layS k).l) ∧ (∀ g, vp.ownBlock = some g → vt.ownBlock ≠ some g) ∧ Below w.heap.size w wr ∧ w.heap.size + 3 ≤ wr.heap.size ∧
    Cb wr (w.heap.size + 1) 48 [.int .i64 0, .int .i64 0, .int .i64 0, .slice none 0 0, .int .i64 0, .slice none 0 0]

set_option maxHeartbeats 8000000 in
theorem rlay_any (w : World) (r : Ru) (m : Int) : Calls Try.prog 17 #[ruv r, .int .i64 m] w fun e w' => Below w.heap.size w w' ∧
    (((okR r && inn m 16) = true ∧ ∃ vp vt, e = .returned (.tuple #[rbv r vp 0 vt, .bool true]) ∧ w'.ownsRow w.heap.size 33 2 vp m.toNat (pcells (laidB m.toNat).ps) ∧ w'.ownsRow w.heap.size 93 2 vt (laidB m.toNat).s.l.length (tcells (laidB m.toNat).s.l)) ∨
     ((okR r && inn m 16) = false ∧ e = .returned (.tuple #[rbv r (.slice none 0 0) 0 (.slice none 0 0), .bool false]))) := by
  have hb0 : Below w.heap.size w ((w.alloc (.cells #[.int .i64 r.rise, .int .i64 r.fall, .int .i64 r.every] 23)).alloc (.cells #[.int .i64 0, .int .i64 0, .int .i64 0, .slice none 0 0, .int .i64 0, .slice none 0 0] 48)) := below_alloc (below_alloc (Below.refl _ _) _) _
  have hz : ((w.alloc (.cells #[.int .i64 r.rise, .int .i64 r.fall, .int .i64 r.every] 23)).alloc (.cells #[.int .i64 0, .int .i64 0, .int .i64 0, .slice none 0 0, .int .i64 0, .slice none 0 0] 48)).heap.size = w.heap.size + 1 + 1 := by simp
  have hc0 := (Cb.new3 w (.int .i64 r.rise) (.int .i64 r.fall) (.int .i64 r.every) 23).alloc (.cells #[.int .i64 0, .int .i64 0, .int .i64 0, .slice none 0 0, .int .i64 0, .slice none 0 0] 48)
  have hc1 := Cb.new6 (w.alloc (.cells #[.int .i64 r.rise, .int .i64 r.fall, .int .i64 r.every] 23)) (.int .i64 0) (.int .i64 0) (.int .i64 0) (.slice none 0 0) (.int .i64 0) (.slice none 0 0) 48
  have hz1 : (w.alloc (.cells #[.int .i64 r.rise, .int .i64 r.fall, .int .i64 r.every] 23)).heap.size = w.heap.size + 1 := by simp
  rw [hz1] at hc1
  obtain ⟨w1, hst, hcb, hbw⟩ := box48 ((w.alloc (.cells #[.int .i64 r.rise, .int .i64 r.fall, .int .i64 r.every] 23)).alloc (.cells #[.int .i64 0, .int .i64 0, .int .i64 0, .slice none 0 0, .int .i64 0, .slice none 0 0] 48)) r.rise r.fall r.every 0 (.slice none 0 0) (.slice none 0 0) rfl rfl
  have HB1 := Lib.hid (hb0.trans (hbw.mono hb0.size))
  have HC0 := Lib.hid (hc0.below hbw)
  have HC1 := Lib.hid (hc1.below hbw)
  rw [hz] at hst hcb
  have HC2 := Lib.hid hcb
  have hsz1 : w.heap.size + 3 ≤ w1.heap.size := hcb.lt
  obtain ⟨k0, k1, k2⟩ := HC0.out.three
  have HRI := Lib.hid (right_any w1 r)
  unfold ruv at HRI ⊢
  unfold rbv
  clear hb0 hz hc0 hc1 hz1 hbw hcb
  cases hk : okR r with
  | false =>
    rw [hk] at HRI
    clear hk
    go_enter Try.func17, Try.ntmps17
    go_wp2_with (go_at_call 10; refine HRI.out.mono ?_; rintro e w2 ⟨rfl, hb2⟩; have hd2 := HC2.out.below hb2; have hd1 := HC1.out.below hb2; obtain ⟨q0, q1, q2, q3, q4, q5⟩ := hd2.six; obtain ⟨w3, hst3, hcb3, ho3⟩ := store48 hd1 rfl r.rise r.fall r.every 0 (.slice none 0 0) (.slice none 0 0) rfl rfl; obtain ⟨g0, g1, g2, g3, g4, g5⟩ := hcb3.six; have HB2 := Lib.hid hb2; have HO3 := Lib.hid ho3; clear hb2 hd1 hd2 hcb3 ho3)
    refine bodyPost_ret (v := .tuple #[.agg #[.int .i64 r.rise, .int .i64 r.fall, .int .i64 r.every, .slice none 0 0, .int .i64 0, .slice none 0 0], .bool false]) (by simp [results, Try.results17, go_sem, g0, g1, g2, g3, g4, g5]) rfl ⟨?_, .inr ⟨by simp, rfl⟩⟩
    have b2 := HB1.out.trans (HB2.out.mono HB1.out.size)
    exact only_below b2 HO3.out (by omega)
  | true =>
    rw [hk] at HRI
    have HK := Lib.hid hk
    clear hk
    cases hm : inn m 16 with
    | false =>
      have hm2 := of_decide_eq_false hm
      clear hm
      by_cases hm1 : m < 1
      · go_enter Try.func17, Try.ntmps17
        go_wp2_with (go_at_call 10; refine HRI.out.mono ?_; rintro e w2 ⟨rfl, hb2⟩; have hd2 := HC2.out.below hb2; have hd1 := HC1.out.below hb2; obtain ⟨q0, q1, q2, q3, q4, q5⟩ := hd2.six; obtain ⟨w3, hst3, hcb3, ho3⟩ := store48 hd1 rfl r.rise r.fall r.every 0 (.slice none 0 0) (.slice none 0 0) rfl rfl; obtain ⟨g0, g1, g2, g3, g4, g5⟩ := hcb3.six; have HB2 := Lib.hid hb2; have HO3 := Lib.hid ho3; clear hb2 hd1 hd2 hcb3 ho3)
        refine bodyPost_ret (v := .tuple #[.agg #[.int .i64 r.rise, .int .i64 r.fall, .int .i64 r.every, .slice none 0 0, .int .i64 0, .slice none 0 0], .bool false]) (by simp [results, Try.results17, go_sem, g0, g1, g2, g3, g4, g5]) rfl ⟨?_, .inr ⟨by simp, rfl⟩⟩
        have b2 := HB1.out.trans (HB2.out.mono HB1.out.size)
        exact only_below b2 HO3.out (by omega)
      · have hm3 : m > 16 := by omega
        go_enter Try.func17, Try.ntmps17
        go_wp2_with (go_at_call 10; refine HRI.out.mono ?_; rintro e w2 ⟨rfl, hb2⟩; have hd2 := HC2.out.below hb2; have hd1 := HC1.out.below hb2; obtain ⟨q0, q1, q2, q3, q4, q5⟩ := hd2.six; obtain ⟨w3, hst3, hcb3, ho3⟩ := store48 hd1 rfl r.rise r.fall r.every 0 (.slice none 0 0) (.slice none 0 0) rfl rfl; obtain ⟨g0, g1, g2, g3, g4, g5⟩ := hcb3.six; have HB2 := Lib.hid hb2; have HO3 := Lib.hid ho3; clear hb2 hd1 hd2 hcb3 ho3)
        refine bodyPost_ret (v := .tuple #[.agg #[.int .i64 r.rise, .int .i64 r.fall, .int .i64 r.every, .slice none 0 0, .int .i64 0, .slice none 0 0], .bool false]) (by simp [results, Try.results17, go_sem, g0, g1, g2, g3, g4, g5]) rfl ⟨?_, .inr ⟨by simp, rfl⟩⟩
        have b2 := HB1.out.trans (HB2.out.mono HB1.out.size)
        exact only_below b2 HO3.out (by omega)
    | true =>
      have hm2 := of_decide_eq_true hm
      obtain ⟨n, rfl⟩ := Int.eq_ofNat_of_zero_le (show 0 ≤ m by omega)
      clear hm
      have hn16 : n ≤ 16 := by omega
      have hm1 : ¬ ((n : Int) < 1) := by omega
      have hm3 : ¬ ((n : Int) > 16) := by omega
      go_enter Try.func17, Try.ntmps17
      go_wp2_with (go_at_call 10; refine HRI.out.mono ?_; rintro e w2 ⟨rfl, hb2⟩; have HB2 := Lib.hid hb2; clear hb2)
      have HST : Hid (RlRel w r n n (.int .i64 ((0 : Nat) : Int)) w2) := Lib.hid ⟨0, _, _, by omega, rfl, HC2.out.below HB2.out, World.ownsRow_nil _ _ _ _, World.ownsRow_nil _ _ _ _, fun g hg => by simp [Value.ownBlock] at hg, HB1.out.trans (HB2.out.mono HB1.out.size), Nat.le_trans hsz1 HB2.out.size, HC1.out.below HB2.out⟩
      clear HC0 HC1 HC2 HB1 HB2 hst k0 k1 k2 hsz1
      go_loopg [7] n (fun gg s7 wr => Hid (RlRel w r n gg s7 wr))
      case atStart => exact HST
      case round =>
        obtain ⟨k, vp, vt, hk, rfl, hcb, hpr, htr, hne, hb, hsz, hc1⟩ := hrel.out
        clear hrel HST
        obtain ⟨a1, c1', rfl, -, -⟩ := row_any hpr
        obtain ⟨a2, c2', rfl, -, -⟩ := row_any htr
        obtain ⟨q0, q1, q2, q3, q4, q5⟩ := hcb.six
        have hl2 := hcb.lt
        by_cases hkn : k < n
        · have hkz : (k : Int) < (n : Int) := by omega
          have hrl : (List.replicate k (⟨false, 0⟩ : Pr)).length = k := by simp
          obtain ⟨vp3, w3, happ, hown3, ho3, hnew3⟩ := append_pr (w := wr) (O := List.replicate k ⟨false, 0⟩) (p := ⟨false, 0⟩) (by rw [hrl]; exact hpr) hsz (by rw [hrl]; omega)
          rw [← repl_next] at hown3
          have hrl1 : (List.replicate (k + 1) (⟨false, 0⟩ : Pr)).length = k + 1 := by simp
          rw [hrl1] at hown3
          obtain ⟨a3, c3', rfl, -, -⟩ := row_any hown3
          have hN2 : ¬ (Value.slice a1 k c1').ownBlock = some (w.heap.size + 1 + 1) := fun e => by have := (hpr.lt _ e).1; omega
          have hcb3 := hcb.only ho3 hN2
          have htr3 := row_only htr ho3 fun g hg e => hne g e hg
          have hsz3 : w.heap.size + 3 ≤ w3.heap.size := Nat.le_trans hsz ho3.size
          have ho4 : Only (fun i => i = w.heap.size + 1 + 1) w3 (w3.setCell ⟨w.heap.size + 1 + 1, 3, none⟩ (.slice a3 (k + 1) c3')) := Only.setCell (F := fun i => i = w.heap.size + 1 + 1) (Only.refl _ w3) (p := ⟨w.heap.size + 1 + 1, 3, none⟩) (Or.inl rfl) _
          have hcb4 := hcb3.setAt 3 (.slice a3 (k + 1) c3')
          simp only [List.set_cons_succ, List.set_cons_zero] at hcb4
          have htr4 := row_only htr3 ho4 fun g hg e => by have := (htr3.lt g hg).1; omega
          have hown4 := row_only hown3 ho4 fun g hg e => by have := (hown3.lt g hg).1; omega
          have hlo := layS_ok k
          have HSET := Lib.hid (rset_any (now := 0) (row_base htr4 (Nat.zero_le _)) (by have := hlo.len; omega) (k : Int) ((k : Int) + 1))
          have HX := Lib.hid (And.intro hcb4 (And.intro htr4 (And.intro hown4 (And.intro ho4 (And.intro ho3 (And.intro hnew3 (And.intro hb hc1)))))))
          obtain ⟨p0, p1, p2, p3, p4, p5⟩ := hcb3.six
          have ff := hcb3.free
          have hl3 := hcb3.lt
          have z4 := (hcb4.six).2.2.2.2.1
          have z5 := (hcb4.six).2.2.2.2.2
          simp [go_sem] at z4 z5
          have HRUN := Lib.hid happ
          have HNE := Lib.hid hne
          have HPR := Lib.hid hpr
          have HTL := Lib.hid (fun g hg => (htr.lt g hg).2)
          have hw1 : IntKind.i64.wrap ((k : Int) + 1) = (k : Int) + 1 := by rw [IntKind.wrap_i64]; omega
          unfold rv at HSET
          clear hcb hpr htr hne hb hc1 happ hown3 ho3 hnew3 hcb3 htr3 ho4 hcb4 htr4 hown4 hlo
          generalize (layS k).l.length = ml at *
          go_wp2_with (first
            | (at_builtin; refine Lib.wpList_append_run _ rfl _ _ _ _ rfl _ _ rfl rfl _ _ HRUN.out ?_)
            | (go_at_call 32; refine HSET.out.mono ?_; rintro e w5 ⟨vt5, rfl, hr5, hb5, hn5⟩; obtain ⟨a5, c5', rfl, -, -⟩ := row_any hr5; have hc5 := HX.out.1.below hb5; obtain ⟨y0, y1, y2, y3, y4, y5⟩ := hc5.six; have yf := hc5.free; have yl := hc5.lt; have HY := Lib.hid (And.intro hr5 (And.intro hb5 (And.intro hn5 hc5))); clear hr5 hb5 hn5 hc5))
          have hT4 := HX.out.2.1
          have hO4 := HX.out.2.2.1
          have hset5 : Only (fun i => i = w.heap.size + 1 + 1) w5 ((w5.setCell ⟨w.heap.size + 1 + 1, 4, none⟩ (.int .i64 0)).setCell ⟨w.heap.size + 1 + 1, 5, none⟩ (.slice a5 (setL (layS k).l (k : Int) ((k : Int) + 1)).length c5')) :=
            Only.setCell (F := fun i => i = w.heap.size + 1 + 1) (Only.setCell (F := fun i => i = w.heap.size + 1 + 1) (Only.refl _ w5) (p := ⟨w.heap.size + 1 + 1, 4, none⟩) (Or.inl rfl) _) (p := ⟨w.heap.size + 1 + 1, 5, none⟩) (Or.inl rfl) _
          have hcb6 := (HY.out.2.2.2.setAt 4 (.int .i64 0)).setAt 5 (.slice a5 (setL (layS k).l (k : Int) ((k : Int) + 1)).length c5')
          simp only [List.set_cons_succ, List.set_cons_zero] at hcb6
          have b3 : Below w.heap.size w w3 := HX.out.2.2.2.2.2.2.1.trans (Only.below HX.out.2.2.2.2.1 HX.out.2.2.2.2.2.2.1.size fun i hi => by have := (HPR.out.lt i hi).1; omega)
          have b4 := b3.trans (Only.below HX.out.2.2.2.1 b3.size fun i hi => by have : i = w.heap.size + 1 + 1 := hi; omega)
          have b5 := b4.trans (HY.out.2.1.mono b4.size)
          have b6 := b5.trans (Only.below hset5 b5.size fun i hi => by have : i = w.heap.size + 1 + 1 := hi; omega)
          have hs4 : w.heap.size + 3 ≤ (w3.setCell ⟨w.heap.size + 1 + 1, 3, none⟩ (.slice a3 (k + 1) c3')).heap.size := by simpa using hsz3
          have hs6 := Nat.le_trans (Nat.le_trans hs4 HY.out.2.1.size) hset5.size
          have hT5 : w5.ownsRow (w.heap.size + 3) 93 2 (.slice a5 (setL (layS k).l (k : Int) ((k : Int) + 1)).length c5') (setL (layS k).l (k : Int) ((k : Int) + 1)).length (tcells (setL (layS k).l (k : Int) ((k : Int) + 1))) := row_lift HY.out.1 fun g hg => by
            rcases HY.out.2.2.1 g hg with h | h
            · exact (hT4.lt g h).1
            · omega
          have hP5 := row_below hO4 HY.out.2.1
          have hc16 := ((HX.out.2.2.2.2.2.2.2.only HX.out.2.2.2.2.1 (fun e => by have := (HPR.out.lt _ e).1; omega)).only HX.out.2.2.2.1 (by show ¬ w.heap.size + 1 = w.heap.size + 1 + 1; omega)).below HY.out.2.1
          have hc17 := hc16.only hset5 (by show ¬ w.heap.size + 1 = w.heap.size + 1 + 1; omega)
          have hne6 : ∀ g, (Value.slice a3 (k + 1) c3').ownBlock = some g → (Value.slice a5 (setL (layS k).l (k : Int) ((k : Int) + 1)).length c5').ownBlock ≠ some g := fun g hg e => by
            rcases HY.out.2.2.1 g e with h | h
            · rcases HX.out.2.2.2.2.2.1 g hg with h1 | h1
              · exact HNE.out g h1 h
              · have h2 := HTL.out g h
                omega
            · have h2 := (hO4.lt g hg).2
              omega
          have HF := Lib.hid (And.intro hcb6 (And.intro (row_only hP5 hset5 fun g hg e => by have := (hP5.lt g hg).1; have : g = w.heap.size + 1 + 1 := e; omega) (And.intro (row_only hT5 hset5 fun g hg e => by have := (hT5.lt g hg).1; have : g = w.heap.size + 1 + 1 := e; omega) (And.intro hne6 (And.intro b6 (And.intro hs6 hc17))))))
          clear hT4 hO4 hset5 hcb6 b3 b4 b5 b6 hs4 hs6 hT5 hP5 hc16 hc17 hne6
          go_roundg (n - (k + 1))
          case measure => omega
          case rel => exact Lib.hid ⟨k + 1, _, _, by omega, by go_num, HF.out.1, HF.out.2.1, by rw [layS_next]; exact HF.out.2.2.1, HF.out.2.2.2.1, HF.out.2.2.2.2.1, HF.out.2.2.2.2.2.1, HF.out.2.2.2.2.2.2⟩
        · obtain rfl : k = n := by omega
          have hkz : ¬ ((k : Int) < (k : Int)) := by omega
          obtain ⟨w3, hst3, hcb3, ho3⟩ := store48 hc1 rfl r.rise r.fall r.every 0 (.slice a1 k c1') (.slice a2 (layS k).l.length c2') rfl rfl
          obtain ⟨g0, g1, g2, g3, g4, g5⟩ := hcb3.six
          have HF := Lib.hid (And.intro (row_only hpr ho3 fun g hg e => by have := (hpr.lt g hg).1; have : g = w.heap.size + 1 := e; omega) (And.intro (row_only htr ho3 fun g hg e => by have := (htr.lt g hg).1; have : g = w.heap.size + 1 := e; omega) (hb.trans (Only.below ho3 hb.size fun i hi => by have : i = w.heap.size + 1 := hi; omega))))
          clear hcb hpr htr hne hb hc1 hcb3 ho3
          obtain ⟨ml, hml⟩ : ∃ ml, (layS k).l.length = ml := ⟨_, rfl⟩
          rw [hml] at hst3 HF q5 g5
          have HML := Lib.hid hml
          clear hml
          go_wp2
          refine bodyPost_ret (v := .tuple #[.agg #[.int .i64 r.rise, .int .i64 r.fall, .int .i64 r.every, .slice a1 k c1', .int .i64 0, .slice a2 ml c2'], .bool true]) (by simp [results, Try.results17, go_sem, g0, g1, g2, g3, g4, g5]) rfl ⟨HF.out.2.2, ?_⟩
          refine ⟨_, _, rfl, ?_, ?_⟩
          · exact row_base HF.out.1 (by omega)
          · have := HF.out.2.1
            rw [← HML.out] at this ⊢
            exact row_base this (by omega)

end Go.Proofs.Ytkcndgiiangmjaa
