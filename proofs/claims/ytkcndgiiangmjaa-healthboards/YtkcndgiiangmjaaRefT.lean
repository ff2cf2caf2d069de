/-
  The reference's Set, where it sets.
-/
import Derived.Test.YtkcndgiiangmjaaRefS
namespace Go.Proofs.Ytkcndgiiangmjaa
open Go.RowKit Go.Maps
set_option linter.unusedVariables false
set_option linter.unusedSimpArgs false
set_option maxRecDepth 10000

def SeRel (w : World) (W1 : World) (N : Nat) (t : Tm) (l : List Tm) (x y z u : Value) (n gg : Nat) (s9 s10 s11 : Value) (wr : World) : Prop :=
  ∃ (k : Nat) (d : Bool), k + gg = n ∧ s11 = .int .i64 k ∧ d = dn t l k ∧ s10 = .bool d ∧ wr.ownsRow W1.heap.size 93 2 s9 (outS t l k).length (tcells (outS t l k)) ∧ Below W1.heap.size W1 wr

set_option maxHeartbeats 4000000 in
theorem rset_yes {w : World} {now : Nat} {v : Value} {L : List Tm} {id a : Nat} (hrow : w.ownsRow 0 93 2 v L.length (tcells L)) (hlen : L.length ≤ 1000) (hid : id ≤ 65535) (ha : a ≤ 1099511627776) :
    Calls Try.prog 32 #[rv now v, .int .i64 id, .int .i64 a] w fun e w' => ∃ v', e = .returned (.tuple #[rv now v', .bool true]) ∧ w'.ownsRow w.heap.size 93 2 v' (ins ⟨id, a⟩ (woutI L id)).length (tcells (ins ⟨id, a⟩ (woutI L id))) ∧ Below w.heap.size w w' := by
  obtain ⟨a0, c, rfl, hnc, -⟩ := row_any hrow
  have hb0 : Below w.heap.size w ((w.alloc (.cells #[.int .i64 (now : Int), .slice a0 L.length c] 46)).alloc (.cells #[.int .i64 0, .slice none 0 0] 46)) := below_alloc (below_alloc (Below.refl _ _) _) _
  have hr0 := row_below hrow hb0
  have HX0 := Lib.hid (bx_new w (.int .i64 (now : Int)) (.slice a0 L.length c) (.int .i64 0) (.slice none 0 0))
  have HW : ∀ q, Hid (Calls Try.prog 37 #[.slice a0 L.length c, .int .i64 (id : Int)] (((w.alloc (.cells #[.int .i64 (now : Int), .slice a0 L.length c] 46)).alloc (.cells #[.int .i64 0, .slice none 0 0] 46)).drewN q) fun e w' => ∃ v', e = .returned v' ∧ w'.ownsRow (w.heap.size + 2) 93 2 v' (woutI L id).length (tcells (woutI L id)) ∧ Below (w.heap.size + 2) ((w.alloc (.cells #[.int .i64 (now : Int), .slice a0 L.length c] 46)).alloc (.cells #[.int .i64 0, .slice none 0 0] 46)) w') := fun q => by
    have h := without_any (x := (id : Int)) (row_drewN hr0 q) hlen
    refine Lib.hid (h.mono ?_)
    rintro e w' ⟨v', he, hr, hb⟩
    exact ⟨v', he, row_base hr (by simp), (below_drewN (Below.refl _ _) q).trans (hb.mono (by simp))⟩
  have HB0 := Lib.hid hb0
  have HLL := Lib.hid (Nat.le_trans (woutI_len L (id : Int)) hlen)
  clear hr0 hb0 hrow hlen
  generalize woutI L (id : Int) = l at *
  generalize L.length = n0 at *
  obtain ⟨w0, hw0⟩ : ∃ W, W = ((w.alloc (.cells #[.int .i64 (now : Int), .slice a0 n0 c] 46)).alloc (.cells #[.int .i64 0, .slice none 0 0] 46)) := ⟨_, rfl⟩
  have HN0 : Hid (w.heap.size + 2 = w0.heap.size) := Lib.hid (by rw [hw0]; simp)
  have HXX : Hid (∀ W, Below (w.heap.size + 2) ((w.alloc (.cells #[.int .i64 (now : Int), .slice a0 n0 c] 46)).alloc (.cells #[.int .i64 0, .slice none 0 0] 46)) W → Bx W w.heap.size (.int .i64 (now : Int)) (.slice a0 n0 c) (.int .i64 0) (.slice none 0 0) ∧ Below w.heap.size w W ∧ w.heap.size + 2 ≤ W.heap.size) := Lib.hid (fun W hW => ⟨HX0.out.below hW (Nat.le_refl _), HB0.out.trans (hW.mono (by omega)), by have := hW.size; simpa using this⟩)
  clear hw0 HN0 HX0 HB0
  obtain ⟨n, hnn⟩ : ∃ n, n = l.length := ⟨_, rfl⟩
  rw [← hnn] at HLL HW
  have HN := Lib.hid hnn
  clear hnn
  obtain ⟨i0, hi, hz0, hz1, hz2⟩ := info_parts info58
  have hq1 : ¬ ((id : Int) < 0) := by omega
  have hq2 : ¬ ((id : Int) > 65535) := by omega
  have hq3 : ¬ ((a : Int) < 0) := by omega
  have hq4 : ¬ ((a : Int) > 1099511627776) := by omega
  simp only [rv] at HW ⊢
  go_enter Try.func32, Try.ntmps32
  go_wp2_with (go_at_call 37; (first | refine (HW 0).out.mono ?_ | refine (HW _).out.mono ?_); rintro e w1 ⟨v1, rfl, hr1, hb1⟩; obtain ⟨a1, c1, rfl, hnc1, -⟩ := row_any hr1; have HR1 := Lib.hid hr1; have HB1 := Lib.hid hb1; clear hr1 hb1)
  go_loopg [9, 10, 11] n (fun gg s9 s10 s11 wr => Hid (SeRel w w1 0 ⟨id, a⟩ l (.int .i64 0) (.int .i64 0) (.int .i64 0) (.int .i64 0) n gg s9 s10 s11 wr))
  case atStart => exact Lib.hid ⟨0, false, by omega, rfl, by unfold dn; simp, rfl, by simpa [outS, dn, tcells] using World.ownsRow_nil w1 w1.heap.size 93 2, Below.refl _ _⟩
  case round =>
    obtain ⟨k, d, hk, rfl, hd, rfl, hout, hb⟩ := hrel.out
    have hll : n ≤ 1000 := HLL.out
    clear hrel
    have hol : (outS ⟨id, a⟩ l k).length ≤ 1001 := Nat.le_trans outS_len (by rw [← HN.out]; have := HLL.out; omega)
    have hsz := hb.size
    by_cases hlt : k < n
    · have hltz : (k : Int) < (n : Int) := by omega
      have hk2 : k < l.length := by rw [← HN.out]; exact hlt
      have hr := row_below HR1.out hb
      obtain ⟨g, c', e, _⟩ := row_slice hr (by omega)
      simp only [Value.slice.injEq, true_and] at e
      obtain ⟨rfl, rfl⟩ := e
      obtain ⟨d0, d1⟩ := rrow_at hr hlt
      obtain ⟨t', ht⟩ : ∃ t', l[k]! = t' := ⟨_, rfl⟩
      rw [ht] at d0 d1
      obtain ⟨ei, ea⟩ := t'
      simp only at d0 d1
      have HB := Lib.hid hb
      clear hr hb
      by_cases hdd : d = true
      · subst hdd
        replace hd := hd.symm
        have hxx : True := trivial
        obtain ⟨ho, hd1⟩ := outS_done hk2 hd
        rw [ht] at ho
        have HO := Lib.hid (And.intro ho hd1)
        have HR := Lib.hid (World.ownsRow.alloc hout (.cells #[.int .i64 (ei : Int), .int .i64 (ea : Int)] 93))
        have HT := Lib.hid ht
        clear hout ho hd1 ht
        generalize hm : (outS ⟨id, a⟩ l k).length = m at HR hol
        have HM := Lib.hid hm
        clear hm
        go_wp2_with (at_builtin; refine wpList_append_own _ rfl _ _ 44 rfl w1.heap.size 93 i0 _ 2 16 Try.underlying44 hi hz0 hz1 hz2 rfl (by decide) _ m _ rfl HR.out ⟨wr.heap.size, 0, none⟩ 1 1 [.int .i64 (ei : Int), .int .i64 (ea : Int)] rfl rfl (cell_two_at _ _ _ rfl) (by intro u hu; simp at hu; rcases hu with rfl | rfl <;> rfl) (by simp only [maxLen]; omega) (by omega) (by simp; omega) ?_; intro v3 w3 hown3 hgrow3 hnil3)
        go_roundg (n - (k + 1))
        case measure => omega
        case rel =>
          refine Lib.hid ⟨k + 1, true, by omega, by go_num, HO.out.2.symm, rfl, ?_, (HB.out.alloc (by omega) _).grown hgrow3 (by simp; omega) (fun j hj => (HR.out.lt j hj).1)⟩
          rw [HO.out.1, tcells_app, List.length_append, HM.out]
          exact hown3
      · replace hdd : d = false := by simpa using hdd
        subst hdd
        replace hd := hd.symm
        by_cases h1 : a < ea
        · have hp : pre ⟨id, a⟩ l[k]! = true := by rw [ht, pre_iff]; left; exact h1
          have h1z : (ea : Int) > (a : Int) := by omega
          have hxx : True := trivial
          obtain ⟨ho, hd1⟩ := outS_now hk2 hd hp
          rw [ht] at ho
          have HO := Lib.hid (And.intro ho hd1)
          have HR := Lib.hid (World.ownsRow.alloc hout (.cells #[.int .i64 (id : Int), .int .i64 (a : Int)] 93))
          have HT := Lib.hid ht
          clear hout ho hd1 ht
          generalize hm : (outS ⟨id, a⟩ l k).length = m at HR hol
          have HM := Lib.hid hm
          clear hm
          go_wp2_with (first
            | (at_builtin; refine wpList_append_own _ rfl _ _ 44 rfl w1.heap.size 93 i0 _ 2 16 Try.underlying44 hi hz0 hz1 hz2 rfl (by decide) _ m _ rfl HR.out ⟨wr.heap.size, 0, none⟩ 1 1 [.int .i64 (id : Int), .int .i64 (a : Int)] rfl rfl (cell_two_at _ _ _ rfl) (by intro u hu; simp at hu; rcases hu with rfl | rfl <;> rfl) (by simp only [maxLen]; omega) (by omega) (by simp; omega) ?_; intro v3 w3 hown3 hgrow3 hnil3; have hb3 := (HB.out.alloc (by omega) (.cells #[.int .i64 (id : Int), .int .i64 (a : Int)] 93)).grown hgrow3 (by simp; omega) (fun j hj => (HR.out.lt j hj).1); have hr3 := row_below HR1.out hb3; have hg3 := rrow_at hr3 hlt; rw [HT.out] at hg3; have hp0 := hg3.1; have hp1 := hg3.2; simp only at hp0 hp1; have HB3 := Lib.hid hb3; have hs3 := hb3.size; have HO3 := Lib.hid hown3; have HR3 := Lib.hid (World.ownsRow.alloc hown3 (.cells #[.int .i64 (ei : Int), .int .i64 (ea : Int)] 93)); clear hb3 hr3 hg3 hown3 hgrow3 hnil3 d0 d1)
            | (at_builtin; refine wpList_append_own _ rfl _ _ 44 rfl w1.heap.size 93 i0 _ 2 16 Try.underlying44 hi hz0 hz1 hz2 rfl (by decide) _ (m + 1) _ rfl HR3.out ⟨w3.heap.size, 0, none⟩ 1 1 [.int .i64 (ei : Int), .int .i64 (ea : Int)] rfl rfl (cell_two_at _ _ _ rfl) (by intro u hu; simp at hu; rcases hu with rfl | rfl <;> rfl) (by simp only [maxLen]; omega) (by omega) (by simp; omega) ?_; intro v4 w4 hown4 hgrow4 hnil4))
          go_roundg (n - (k + 1))
          case measure => omega
          case rel =>
            refine Lib.hid ⟨k + 1, true, by omega, by go_num, HO.out.2.symm, rfl, ?_, (HB3.out.alloc (by omega) _).grown hgrow4 (by simp; omega) (fun j hj => (HR3.out.lt j hj).1)⟩
            rw [HO.out.1, tcells_app, tcells_app, List.length_append, List.length_append, HM.out]
            exact hown4
        · by_cases h2 : ea = a
          · by_cases h3 : id < ei
            · have hp : pre ⟨id, a⟩ l[k]! = true := by rw [ht, pre_iff]; right; exact ⟨h2.symm, h3⟩
              have h1z : ¬ ((ea : Int) > (a : Int)) := by omega
              have h3z : (ei : Int) > (id : Int) := by omega
              subst h2
              have hxx : True := trivial
              obtain ⟨ho, hd1⟩ := outS_now hk2 hd hp
              rw [ht] at ho
              have HO := Lib.hid (And.intro ho hd1)
              have HR := Lib.hid (World.ownsRow.alloc hout (.cells #[.int .i64 (id : Int), .int .i64 (ea : Int)] 93))
              have HT := Lib.hid ht
              clear hout ho hd1 ht
              generalize hm : (outS ⟨id, ea⟩ l k).length = m at HR hol
              have HM := Lib.hid hm
              clear hm
              go_wp2_with (first
                | (at_builtin; refine wpList_append_own _ rfl _ _ 44 rfl w1.heap.size 93 i0 _ 2 16 Try.underlying44 hi hz0 hz1 hz2 rfl (by decide) _ m _ rfl HR.out ⟨wr.heap.size, 0, none⟩ 1 1 [.int .i64 (id : Int), .int .i64 (ea : Int)] rfl rfl (cell_two_at _ _ _ rfl) (by intro u hu; simp at hu; rcases hu with rfl | rfl <;> rfl) (by simp only [maxLen]; omega) (by omega) (by simp; omega) ?_; intro v3 w3 hown3 hgrow3 hnil3; have hb3 := (HB.out.alloc (by omega) (.cells #[.int .i64 (id : Int), .int .i64 (ea : Int)] 93)).grown hgrow3 (by simp; omega) (fun j hj => (HR.out.lt j hj).1); have hr3 := row_below HR1.out hb3; have hg3 := rrow_at hr3 hlt; rw [HT.out] at hg3; have hp0 := hg3.1; have hp1 := hg3.2; simp only at hp0 hp1; have HB3 := Lib.hid hb3; have hs3 := hb3.size; have HO3 := Lib.hid hown3; have HR3 := Lib.hid (World.ownsRow.alloc hown3 (.cells #[.int .i64 (ei : Int), .int .i64 (ea : Int)] 93)); clear hb3 hr3 hg3 hown3 hgrow3 hnil3 d0 d1)
                | (at_builtin; refine wpList_append_own _ rfl _ _ 44 rfl w1.heap.size 93 i0 _ 2 16 Try.underlying44 hi hz0 hz1 hz2 rfl (by decide) _ (m + 1) _ rfl HR3.out ⟨w3.heap.size, 0, none⟩ 1 1 [.int .i64 (ei : Int), .int .i64 (ea : Int)] rfl rfl (cell_two_at _ _ _ rfl) (by intro u hu; simp at hu; rcases hu with rfl | rfl <;> rfl) (by simp only [maxLen]; omega) (by omega) (by simp; omega) ?_; intro v4 w4 hown4 hgrow4 hnil4))
              go_roundg (n - (k + 1))
              case measure => omega
              case rel =>
                refine Lib.hid ⟨k + 1, true, by omega, by go_num, HO.out.2.symm, rfl, ?_, (HB3.out.alloc (by omega) _).grown hgrow4 (by simp; omega) (fun j hj => (HR3.out.lt j hj).1)⟩
                rw [HO.out.1, tcells_app, tcells_app, List.length_append, List.length_append, HM.out]
                exact hown4
            · have hp : pre ⟨id, a⟩ l[k]! = false := by rw [ht]; rw [← Bool.not_eq_true, pre_iff]; rintro (h | h) <;> simp only at h <;> omega
              have h1z : ¬ ((ea : Int) > (a : Int)) := by omega
              have h3z : ¬ ((ei : Int) > (id : Int)) := by omega
              subst h2
              have hxx : True := trivial
              obtain ⟨ho, hd1⟩ := outS_not hk2 hd hp
              rw [ht] at ho
              have HO := Lib.hid (And.intro ho hd1)
              have HR := Lib.hid (World.ownsRow.alloc hout (.cells #[.int .i64 (ei : Int), .int .i64 (ea : Int)] 93))
              have HT := Lib.hid ht
              clear hout ho hd1 ht
              generalize hm : (outS ⟨id, ea⟩ l k).length = m at HR hol
              have HM := Lib.hid hm
              clear hm
              go_wp2_with (at_builtin; refine wpList_append_own _ rfl _ _ 44 rfl w1.heap.size 93 i0 _ 2 16 Try.underlying44 hi hz0 hz1 hz2 rfl (by decide) _ m _ rfl HR.out ⟨wr.heap.size, 0, none⟩ 1 1 [.int .i64 (ei : Int), .int .i64 (ea : Int)] rfl rfl (cell_two_at _ _ _ rfl) (by intro u hu; simp at hu; rcases hu with rfl | rfl <;> rfl) (by simp only [maxLen]; omega) (by omega) (by simp; omega) ?_; intro v3 w3 hown3 hgrow3 hnil3)
              go_roundg (n - (k + 1))
              case measure => omega
              case rel =>
                refine Lib.hid ⟨k + 1, false, by omega, by go_num, HO.out.2.symm, rfl, ?_, (HB.out.alloc (by omega) _).grown hgrow3 (by simp; omega) (fun j hj => (HR.out.lt j hj).1)⟩
                rw [HO.out.1, tcells_app, List.length_append, HM.out]
                exact hown3
          · have hp : pre ⟨id, a⟩ l[k]! = false := by rw [ht]; rw [← Bool.not_eq_true, pre_iff]; rintro (h | h) <;> simp only at h <;> omega
            have h1z : ¬ ((ea : Int) > (a : Int)) := by omega
            have h2z : ¬ ((ea : Int) = (a : Int)) := by omega
            have hxx : True := trivial
            obtain ⟨ho, hd1⟩ := outS_not hk2 hd hp
            rw [ht] at ho
            have HO := Lib.hid (And.intro ho hd1)
            have HR := Lib.hid (World.ownsRow.alloc hout (.cells #[.int .i64 (ei : Int), .int .i64 (ea : Int)] 93))
            have HT := Lib.hid ht
            clear hout ho hd1 ht
            generalize hm : (outS ⟨id, a⟩ l k).length = m at HR hol
            have HM := Lib.hid hm
            clear hm
            go_wp2_with (at_builtin; refine wpList_append_own _ rfl _ _ 44 rfl w1.heap.size 93 i0 _ 2 16 Try.underlying44 hi hz0 hz1 hz2 rfl (by decide) _ m _ rfl HR.out ⟨wr.heap.size, 0, none⟩ 1 1 [.int .i64 (ei : Int), .int .i64 (ea : Int)] rfl rfl (cell_two_at _ _ _ rfl) (by intro u hu; simp at hu; rcases hu with rfl | rfl <;> rfl) (by simp only [maxLen]; omega) (by omega) (by simp; omega) ?_; intro v3 w3 hown3 hgrow3 hnil3)
            go_roundg (n - (k + 1))
            case measure => omega
            case rel =>
              refine Lib.hid ⟨k + 1, false, by omega, by go_num, HO.out.2.symm, rfl, ?_, (HB.out.alloc (by omega) _).grown hgrow3 (by simp; omega) (fun j hj => (HR.out.lt j hj).1)⟩
              rw [HO.out.1, tcells_app, List.length_append, HM.out]
              exact hown3
    · obtain rfl : k = n := by omega
      have hltz : ¬ ((k : Int) < (k : Int)) := by omega
      obtain ⟨E1, E2⟩ := outS_end (t := ⟨id, a⟩) (l := l)
      rw [← HN.out] at E1 E2
      have hs1 := (HXX.out _ HB1.out).2.2
      by_cases hdd : d = true
      · subst hdd
        obtain ⟨hx, hxb, hxs⟩ := HXX.out _ (HB1.out.trans (hb.mono hs1))
        obtain ⟨c0, c1', r0, r1, f0, f1, g0, g1⟩ := hx
        rw [E1 hd.symm] at hout
        have HF := Lib.hid hout
        have HXB := Lib.hid hxb
        clear hout hb hd E1 E2 hxb hol
        obtain ⟨ax, cx, rfl, hncx, -⟩ := row_any HF.out
        generalize hmm : (ins ⟨id, a⟩ l).length = q at *
        have HQ := Lib.hid hmm
        clear hmm
        go_wp2
        refine bodyPost_ret (v := .tuple #[.agg #[.int .i64 (now : Int), .slice ax q cx], .bool true]) (by simp [results, Try.results32, go_sem, c0, c1', r0, r1]) rfl ⟨_, rfl, ?_, ?_⟩
        · try rw [HQ.out]
          refine row_base (base := w1.heap.size) ?_ (by omega)
          repeat (first | exact HF.out | with_reducible refine row_drewN ?_ _ | with_reducible refine row_drew ?_ | with_reducible refine row_set ?_ (by show _ < w1.heap.size; simp only []; omega) _)
        · repeat (first | exact HXB.out | with_reducible refine below_drewN ?_ _ | with_reducible refine below_drew ?_ | with_reducible refine Below.setCell ?_ (by simp only []; omega) _)
      · replace hdd : d = false := by simpa using hdd
        subst hdd
        have HE := Lib.hid (E2 hd.symm)
        have HB := Lib.hid hb
        have HR := Lib.hid (World.ownsRow.alloc hout (.cells #[.int .i64 (id : Int), .int .i64 (a : Int)] 93))
        clear hout hb hd E1 E2
        generalize hm : (outS ⟨id, a⟩ l k).length = m at HR hol
        have HM := Lib.hid hm
        clear hm
        go_wp2_with (at_builtin; refine wpList_append_own _ rfl _ _ 44 rfl w1.heap.size 93 i0 _ 2 16 Try.underlying44 hi hz0 hz1 hz2 rfl (by decide) _ m _ rfl HR.out ⟨wr.heap.size, 0, none⟩ 1 1 [.int .i64 (id : Int), .int .i64 (a : Int)] rfl rfl (cell_two_at _ _ _ rfl) (by intro u hu; simp at hu; rcases hu with rfl | rfl <;> rfl) (by simp only [maxLen]; omega) (by omega) (by simp; omega) ?_; intro v3 w3 hown3 hgrow3 hnil3; have hb3 := (HB.out.alloc (by omega) (.cells #[.int .i64 (id : Int), .int .i64 (a : Int)] 93)).grown hgrow3 (by simp; omega) (fun j hj => (HR.out.lt j hj).1); have hxx := HXX.out _ (HB1.out.trans (hb3.mono hs1)); obtain ⟨⟨c0, c1', r0, r1, f0, f1, g0, g1⟩, hxb, hxs⟩ := hxx; have HXB := Lib.hid hxb; have HF0 := Lib.hid hown3; have hf : w3.ownsRow w1.heap.size 93 2 v3 (ins ⟨id, a⟩ l).length (tcells (ins ⟨id, a⟩ l)) := (by rw [← HE.out, tcells_app, List.length_append, HM.out]; exact HF0.out); obtain ⟨ax, cx, rfl, hncx, -⟩ := row_any hf; have HF := Lib.hid hf; clear hxb hown3 hgrow3 hnil3 hb3 hf)
        generalize hmm : (ins ⟨id, a⟩ l).length = q at *
        have HQ := Lib.hid hmm
        clear hmm
        try go_wp2
        refine bodyPost_ret (v := .tuple #[.agg #[.int .i64 (now : Int), .slice ax q cx], .bool true]) (by simp [results, Try.results32, go_sem, c0, c1', r0, r1]) rfl ⟨_, rfl, ?_, ?_⟩
        · try rw [HQ.out]
          refine row_base (base := w1.heap.size) ?_ (by omega)
          repeat (first | exact HF.out | with_reducible refine row_drewN ?_ _ | with_reducible refine row_drew ?_ | with_reducible refine row_set ?_ (by show _ < w1.heap.size; simp only []; omega) _)
        · repeat (first | exact HXB.out | with_reducible refine below_drewN ?_ _ | with_reducible refine below_drew ?_ | with_reducible refine Below.setCell ?_ (by simp only []; omega) _)

end Go.Proofs.Ytkcndgiiangmjaa
