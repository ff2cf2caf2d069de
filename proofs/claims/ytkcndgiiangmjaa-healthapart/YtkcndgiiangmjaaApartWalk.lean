/-
  What the function of HealthApart does, whatever rule, number and script it is given.
-/
import Derived.Test.YtkcndgiiangmjaaFrame
import Derived.Test.YtkcndgiiangmjaaAlive
namespace Go.Proofs.Ytkcndgiiangmjaa
open Go.RowKit Go.Maps
set_option linter.unusedVariables false
set_option linter.unusedSimpArgs false
set_option maxRecDepth 10000

theorem ups_at {ps : List Pr} {i : Nat} (h : i < ps.length) : (ups ps)[i]! = (ps[i]!).up := by
  rw [getElem!_pos (ups ps) i (by simpa [ups] using h), getElem!_pos ps i h]
  simp [ups]
/-- What is told of one is not seen at the others. -/
theorem ups_apart (r : Ru) (b : Bo) (x : Int) (g : Bool) {i : Nat} (hi : i < b.ps.length) (hx : (i : Int) ≠ x) : (ups (tellB r b x g).ps)[i]! = (ups b.ps)[i]! := by
  unfold tellB
  split
  · rename_i hb
    have h2 := of_decide_eq_true hb
    rw [ups_at (by simpa using hi), ups_at hi]
    show ((b.ps.set x.toNat _)[i]!).up = _
    rw [set_at hi, if_neg (by omega)]
  · rfl
theorem tellB_len (r : Ru) (b : Bo) (x : Int) (g : Bool) : (tellB r b x g).ps.length = b.ps.length := by
  unfold tellB
  split <;> simp

def ApRel (w : World) (B : Nat) (r : Ru) (n m gg : Nat) (s36 : Value) (wr : World) : Prop :=
  ∃ j : Nat, j + gg = m ∧ s36 = .int .i64 (j : Int) ∧ ∃ F b, Bd wr F B r b ∧ OkB r b n ∧ (∀ i, F i → w.heap.size ≤ i) ∧ Below w.heap.size w wr
def AiRel (w5 : World) (n gg : Nat) (s72 : Value) (wr : World) : Prop := ∃ i q : Nat, i + gg = n ∧ s72 = .int .i64 (i : Int) ∧ wr = w5.drewN q

set_option maxHeartbeats 8000000 in
theorem apart_walk (r : Ru) (m : Int) (a : Option Addr) (n c : Nat) (l : List Opr) (w : World) (hmw : (Lit.int .i64 m).wf = true) (hS : Scr w a n c l) :
    Calls Try.prog 7 #[ruv r, .int .i64 m, .slice a n c] w fun e w' => e = .returned (.bool true) ∧ Below w.heap.size w w' := by
  clear hmw
  have HS := Lib.hid hS
  have HAL := Lib.hid (fun w => alive_any w)
  have hb0 : Below w.heap.size w (w.alloc (.cells #[.int .i64 r.rise, .int .i64 r.fall, .int .i64 r.every] 23)) := below_alloc (Below.refl _ _) _
  have hlay := hlay_any (w.alloc (.cells #[.int .i64 r.rise, .int .i64 r.fall, .int .i64 r.every] 23)) r m
  have HB0 := Lib.hid hb0
  unfold ruv at hlay ⊢
  have HLAY := Lib.hid hlay
  have hnc := hS.2.1
  clear hlay hb0 hS
  by_cases hok : (okR r && inn m 16) = true
  · have HOK := Lib.hid hok
    have hok2 := hok
    rw [Bool.and_eq_true] at hok2
    have HOR := Lib.hid hok2.1
    have hm2 := of_decide_eq_true hok2.2
    obtain ⟨nb, rfl⟩ := Int.eq_ofNat_of_zero_le (show 0 ≤ m by omega)
    have hn16 : nb ≤ 16 := by omega
    clear hok hok2
    by_cases hbig : n > 500
    · have hbz : (n : Int) > 500 := by omega
      go_enter Try.func7, Try.ntmps7
      go_wp2_with fail
      refine HLAY.out.mono ?_
      rintro e w1 ⟨hbw, ⟨-, B, F, rfl, hBd, hF⟩ | ⟨h, -⟩⟩
      rotate_left
      · rw [HOK.out] at h; cases h
      have HB1 := Lib.hid (HB0.out.trans (hbw.mono HB0.out.size))
      clear hbw hBd hF
      go_wp2_with (go_at_call 11; refine (HAL.out _).mono ?_; rintro e w3 ⟨rfl, hb3⟩; have HB3 := Lib.hid hb3; clear hb3)
      go_ret
      exact ⟨rfl, HB1.out.trans (HB3.out.mono HB1.out.size)⟩
    · have hbz : ¬ ((n : Int) > 500) := by omega
      go_enter Try.func7, Try.ntmps7
      go_wp2_with fail
      refine HLAY.out.mono ?_
      rintro e w1 ⟨hbw, ⟨-, B, F, rfl, hBd, hF⟩ | ⟨h, -⟩⟩
      rotate_left
      · rw [HOK.out] at h; cases h
      have HB1 := Lib.hid (HB0.out.trans (hbw.mono HB0.out.size))
      have HBD := Lib.hid hBd
      have HF : Hid (∀ i, F i → w.heap.size ≤ i) := Lib.hid fun i hi => by have := hF i hi; simp at this; omega
      clear hbw hBd hF HLAY HB0
      go_wp2_with fail
      go_loopg [36] n (fun gg s36 wr => Hid (ApRel w B r nb n gg s36 wr))
      case atStart => exact Lib.hid ⟨0, by omega, rfl, F, laidB nb, HBD.out, laidB_ok HOR.out hn16, HF.out, HB1.out⟩
      case round =>
        obtain ⟨j, hj, rfl, F1, b, hBd, hob, hF1, hB⟩ := hrel.out
        clear hrel HBD HF HB1
        by_cases hjn : j < n
        · have hjz : (j : Int) < (n : Int) := by omega
          obtain ⟨bb, off, rfl, hbb, d0, d1, d2⟩ := (HS.out.below hB).at hjn
          generalize l[j]! = o at d0 d1 d2
          obtain ⟨kd, x, good⟩ := o
          simp only at d0 d1 d2
          have hba := below_alloc (Below.refl wr.heap.size wr) (.cells #[.int .i64 kd, .int .i64 x, .bool good] 52)
          have hpl := hob.len
          have HUP := Lib.hid (bup_any (hBd.below hba) (by omega))
          have HX := Lib.hid (And.intro hBd (And.intro hob (And.intro hF1 hB)))
          have HBA := Lib.hid hba
          rw [hpl] at HUP
          have HPL := Lib.hid hpl
          have HIS : Hid (isB b x = decide (0 ≤ x ∧ x < (nb : Int))) := Lib.hid (by unfold isB; rw [hpl])
          clear hBd hob hF1 hB hba hpl
          by_cases hx0 : x < 0
          · have g1 : ¬ (x ≥ 0) := by omega
            have HTEL := Lib.hid (fun (W : World) (h : Bd W F1 B r b) => btell_any h HOR.out HX.out.2.1 x good)
            have hi : isB b x = false := by rw [HIS.out]; exact decide_eq_false (by omega)
            rw [hi] at HTEL
            have hlt1 : wr.heap.size < wr.heap.size + 1 := by omega
            clear hi
            go_wp2_with fail
            refine HUP.out.mono ?_
            rintro e w2 ⟨v2, rfl, hr2, hb2⟩
            obtain ⟨a2, c2, rfl, hc2, -⟩ := row_any hr2
            have hb2w := HBA.out.trans (hb2.mono HBA.out.size)
            have hop : w2.cell? ⟨wr.heap.size, 1, none⟩ = some (.int .i64 x) ∧ w2.cell? ⟨wr.heap.size, 2, none⟩ = some (.bool good) := by
              refine ⟨?_, ?_⟩ <;> (rw [hb2.cell (p := ⟨wr.heap.size, _, none⟩) (by simp)]; simp [go_sem])
            obtain ⟨k1, k2⟩ := hop
            have hl2 : wr.heap.size < w2.heap.size := by have := hb2.size; simp at this; omega
            have HT2 := Lib.hid (HTEL.out w2 (HX.out.1.below hb2w))
            have HR2 := Lib.hid hr2
            have HB2 := Lib.hid hb2w
            clear hr2 hb2 hb2w
            go_wp2_with fail
            refine HT2.out.mono ?_
            rintro e w3 ⟨rfl, hbd3, ho3⟩
            have hFl : ∀ i, F1 i → i < wr.heap.size := HX.out.1.lt
            have hk3 := ho3.cell (p := ⟨wr.heap.size, 1, none⟩) hl2 (fun hf => by have := hFl _ hf; simp at this)
            rw [k1] at hk3
            have hl3 : wr.heap.size < w3.heap.size := Nat.lt_of_lt_of_le hl2 ho3.size
            have HR3 := Lib.hid (row_only HR2.out ho3 fun g hg hf => by have := hFl _ hf; have := (HR2.out.lt g hg).1; simp at this; omega)
            have HUP3 := Lib.hid (bup_any hbd3 (by rw [tellB_len, HPL.out]; omega))
            rw [tellB_len, HPL.out] at HUP3
            have HX3 := Lib.hid (And.intro hbd3 ho3)
            clear hbd3 ho3 hFl k1 k2
            go_wp2_with fail
            refine HUP3.out.mono ?_
            rintro e w4 ⟨v4, rfl, hr4, hb4⟩
            obtain ⟨a4, c4, rfl, hc4, -⟩ := row_any hr4
            have hk4 := hb4.cell (p := ⟨wr.heap.size, 1, none⟩) hl3
            rw [hk3] at hk4
            have hl4 : wr.heap.size < w4.heap.size := Nat.lt_of_lt_of_le hl3 hb4.size
            have HR4 := Lib.hid hr4
            have HR5 := Lib.hid (row_below HR3.out hb4)
            have HBB4 := Lib.hid (HX3.out.1.below hb4)
            have HB4 := Lib.hid hb4
            have HSAME := Lib.hid (fun (i : Nat) (hi : i < nb) (hx : (i : Int) ≠ x) => ups_apart r b x good (i := i) (by rw [HPL.out]; exact hi) hx)
            clear hr4 hb4 hk3
            go_wp2_with fail
            go_loopg [72] nb (fun gg s72 wx => Hid (AiRel w4 nb gg s72 wx))
            case atStart => exact Lib.hid ⟨0, 0, by omega, rfl, rfl⟩
            case round =>
              obtain ⟨i, q, hi, rfl, rfl⟩ := hrel.out
              clear hrel
              by_cases hin : i < nb
              · have hiz : (i : Int) < (nb : Int) := by omega
                have hr4 := HR4.out
                have hr5 := HR5.out
                obtain ⟨g4, c4', e, _⟩ := row_slice hr4 (by omega)
                simp only [Value.slice.injEq, true_and] at e
                obtain ⟨rfl, rfl⟩ := e
                obtain ⟨g5, c5', e, _⟩ := row_slice hr5 (by omega)
                simp only [Value.slice.injEq, true_and] at e
                obtain ⟨rfl, rfl⟩ := e
                have p4 := brow_at hr4 hin
                have p5 := brow_at hr5 hin
                have hs := HSAME.out i hin
                obtain ⟨y4, hy4⟩ : ∃ y, (ups (tellB r b x good).ps)[i]! = y := ⟨_, rfl⟩
                obtain ⟨y5, hy5⟩ : ∃ y, (ups b.ps)[i]! = y := ⟨_, rfl⟩
                rw [hy4] at p4 hs
                rw [hy5] at p5 hs
                clear hr4 hr5 hy4 hy5
                by_cases hix : (i : Int) = x
                · exact absurd hix (by omega)
                · have z1 : ((i : Int) != x) = true := by simpa using hix
                  obtain rfl := hs hix
                  have z2 : (y4 != y4) = false := by simp
                  go_wp2
                  go_quiet (fail)
                  go_wp2
                  go_roundg (nb - (i + 1))
                  case measure => omega
                  case rel => exact Lib.hid ⟨i + 1, q + nq, by omega, by go_num, by first | rfl | rw [World.drewN_drewN]⟩
              · obtain rfl : i = nb := by omega
                have hiz : ¬ ((i : Int) < (i : Int)) := by omega
                go_wp2
                go_roundg (n - (j + 1))
                case measure => omega
                case rel =>
                  have b2 := HX.out.2.2.2.trans (HB2.out.mono HX.out.2.2.2.size)
                  have b3 := b2.trans (Only.below HX3.out.2 b2.size HX.out.2.2.1)
                  have b4 := b3.trans (HB4.out.mono b3.size)
                  exact Lib.hid ⟨j + 1, by omega, by go_num, F1, tellB r b x good, HBB4.out.below (below_drewN (Below.refl _ _) q), HX.out.2.1.tell HOR.out x good, HX.out.2.2.1, below_drewN b4 q⟩
          · by_cases hxn : x < (nb : Int)
            · have g1 : x ≥ 0 := by omega
              have HTEL := Lib.hid (fun (W : World) (h : Bd W F1 B r b) => btell_any h HOR.out HX.out.2.1 x good)
              have hi : isB b x = true := by rw [HIS.out]; exact decide_eq_true (by omega)
              rw [hi] at HTEL
              have hlt1 : wr.heap.size < wr.heap.size + 1 := by omega
              clear hi
              go_wp2_with fail
              refine HUP.out.mono ?_
              rintro e w2 ⟨v2, rfl, hr2, hb2⟩
              obtain ⟨a2, c2, rfl, hc2, -⟩ := row_any hr2
              have hb2w := HBA.out.trans (hb2.mono HBA.out.size)
              have hop : w2.cell? ⟨wr.heap.size, 1, none⟩ = some (.int .i64 x) ∧ w2.cell? ⟨wr.heap.size, 2, none⟩ = some (.bool good) := by
                refine ⟨?_, ?_⟩ <;> (rw [hb2.cell (p := ⟨wr.heap.size, _, none⟩) (by simp)]; simp [go_sem])
              obtain ⟨k1, k2⟩ := hop
              have hl2 : wr.heap.size < w2.heap.size := by have := hb2.size; simp at this; omega
              have HT2 := Lib.hid (HTEL.out w2 (HX.out.1.below hb2w))
              have HR2 := Lib.hid hr2
              have HB2 := Lib.hid hb2w
              clear hr2 hb2 hb2w
              go_wp2_with fail
              refine HT2.out.mono ?_
              rintro e w3 ⟨rfl, hbd3, ho3⟩
              have hFl : ∀ i, F1 i → i < wr.heap.size := HX.out.1.lt
              have hk3 := ho3.cell (p := ⟨wr.heap.size, 1, none⟩) hl2 (fun hf => by have := hFl _ hf; simp at this)
              rw [k1] at hk3
              have hl3 : wr.heap.size < w3.heap.size := Nat.lt_of_lt_of_le hl2 ho3.size
              have HR3 := Lib.hid (row_only HR2.out ho3 fun g hg hf => by have := hFl _ hf; have := (HR2.out.lt g hg).1; simp at this; omega)
              have HUP3 := Lib.hid (bup_any hbd3 (by rw [tellB_len, HPL.out]; omega))
              rw [tellB_len, HPL.out] at HUP3
              have HX3 := Lib.hid (And.intro hbd3 ho3)
              clear hbd3 ho3 hFl k1 k2
              go_wp2_with fail
              refine HUP3.out.mono ?_
              rintro e w4 ⟨v4, rfl, hr4, hb4⟩
              obtain ⟨a4, c4, rfl, hc4, -⟩ := row_any hr4
              have hk4 := hb4.cell (p := ⟨wr.heap.size, 1, none⟩) hl3
              rw [hk3] at hk4
              have hl4 : wr.heap.size < w4.heap.size := Nat.lt_of_lt_of_le hl3 hb4.size
              have HR4 := Lib.hid hr4
              have HR5 := Lib.hid (row_below HR3.out hb4)
              have HBB4 := Lib.hid (HX3.out.1.below hb4)
              have HB4 := Lib.hid hb4
              have HSAME := Lib.hid (fun (i : Nat) (hi : i < nb) (hx : (i : Int) ≠ x) => ups_apart r b x good (i := i) (by rw [HPL.out]; exact hi) hx)
              clear hr4 hb4 hk3
              go_wp2_with fail
              go_loopg [72] nb (fun gg s72 wx => Hid (AiRel w4 nb gg s72 wx))
              case atStart => exact Lib.hid ⟨0, 0, by omega, rfl, rfl⟩
              case round =>
                obtain ⟨i, q, hi, rfl, rfl⟩ := hrel.out
                clear hrel
                by_cases hin : i < nb
                · have hiz : (i : Int) < (nb : Int) := by omega
                  have hr4 := HR4.out
                  have hr5 := HR5.out
                  obtain ⟨g4, c4', e, _⟩ := row_slice hr4 (by omega)
                  simp only [Value.slice.injEq, true_and] at e
                  obtain ⟨rfl, rfl⟩ := e
                  obtain ⟨g5, c5', e, _⟩ := row_slice hr5 (by omega)
                  simp only [Value.slice.injEq, true_and] at e
                  obtain ⟨rfl, rfl⟩ := e
                  have p4 := brow_at hr4 hin
                  have p5 := brow_at hr5 hin
                  have hs := HSAME.out i hin
                  obtain ⟨y4, hy4⟩ : ∃ y, (ups (tellB r b x good).ps)[i]! = y := ⟨_, rfl⟩
                  obtain ⟨y5, hy5⟩ : ∃ y, (ups b.ps)[i]! = y := ⟨_, rfl⟩
                  rw [hy4] at p4 hs
                  rw [hy5] at p5 hs
                  clear hr4 hr5 hy4 hy5
                  by_cases hix : (i : Int) = x
                  · have z1 : ((i : Int) != x) = false := by rw [hix]; simp
                    clear hs
                    go_wp2
                    go_quiet (fail)
                    go_wp2
                    go_roundg (nb - (i + 1))
                    case measure => omega
                    case rel => exact Lib.hid ⟨i + 1, q + nq, by omega, by go_num, by first | rfl | rw [World.drewN_drewN]⟩
                  · have z1 : ((i : Int) != x) = true := by simpa using hix
                    obtain rfl := hs hix
                    have z2 : (y4 != y4) = false := by simp
                    go_wp2
                    go_quiet (fail)
                    go_wp2
                    go_roundg (nb - (i + 1))
                    case measure => omega
                    case rel => exact Lib.hid ⟨i + 1, q + nq, by omega, by go_num, by first | rfl | rw [World.drewN_drewN]⟩
                · obtain rfl : i = nb := by omega
                  have hiz : ¬ ((i : Int) < (i : Int)) := by omega
                  go_wp2
                  go_roundg (n - (j + 1))
                  case measure => omega
                  case rel =>
                    have b2 := HX.out.2.2.2.trans (HB2.out.mono HX.out.2.2.2.size)
                    have b3 := b2.trans (Only.below HX3.out.2 b2.size HX.out.2.2.1)
                    have b4 := b3.trans (HB4.out.mono b3.size)
                    exact Lib.hid ⟨j + 1, by omega, by go_num, F1, tellB r b x good, HBB4.out.below (below_drewN (Below.refl _ _) q), HX.out.2.1.tell HOR.out x good, HX.out.2.2.1, below_drewN b4 q⟩
            · have g1 : x ≥ 0 := by omega
              have HTEL := Lib.hid (fun (W : World) (h : Bd W F1 B r b) => btell_any h HOR.out HX.out.2.1 x good)
              have hi : isB b x = false := by rw [HIS.out]; exact decide_eq_false (by omega)
              rw [hi] at HTEL
              have hlt1 : wr.heap.size < wr.heap.size + 1 := by omega
              clear hi
              go_wp2_with fail
              refine HUP.out.mono ?_
              rintro e w2 ⟨v2, rfl, hr2, hb2⟩
              obtain ⟨a2, c2, rfl, hc2, -⟩ := row_any hr2
              have hb2w := HBA.out.trans (hb2.mono HBA.out.size)
              have hop : w2.cell? ⟨wr.heap.size, 1, none⟩ = some (.int .i64 x) ∧ w2.cell? ⟨wr.heap.size, 2, none⟩ = some (.bool good) := by
                refine ⟨?_, ?_⟩ <;> (rw [hb2.cell (p := ⟨wr.heap.size, _, none⟩) (by simp)]; simp [go_sem])
              obtain ⟨k1, k2⟩ := hop
              have hl2 : wr.heap.size < w2.heap.size := by have := hb2.size; simp at this; omega
              have HT2 := Lib.hid (HTEL.out w2 (HX.out.1.below hb2w))
              have HR2 := Lib.hid hr2
              have HB2 := Lib.hid hb2w
              clear hr2 hb2 hb2w
              go_wp2_with fail
              refine HT2.out.mono ?_
              rintro e w3 ⟨rfl, hbd3, ho3⟩
              have hFl : ∀ i, F1 i → i < wr.heap.size := HX.out.1.lt
              have hk3 := ho3.cell (p := ⟨wr.heap.size, 1, none⟩) hl2 (fun hf => by have := hFl _ hf; simp at this)
              rw [k1] at hk3
              have hl3 : wr.heap.size < w3.heap.size := Nat.lt_of_lt_of_le hl2 ho3.size
              have HR3 := Lib.hid (row_only HR2.out ho3 fun g hg hf => by have := hFl _ hf; have := (HR2.out.lt g hg).1; simp at this; omega)
              have HUP3 := Lib.hid (bup_any hbd3 (by rw [tellB_len, HPL.out]; omega))
              rw [tellB_len, HPL.out] at HUP3
              have HX3 := Lib.hid (And.intro hbd3 ho3)
              clear hbd3 ho3 hFl k1 k2
              go_wp2_with fail
              refine HUP3.out.mono ?_
              rintro e w4 ⟨v4, rfl, hr4, hb4⟩
              obtain ⟨a4, c4, rfl, hc4, -⟩ := row_any hr4
              have hk4 := hb4.cell (p := ⟨wr.heap.size, 1, none⟩) hl3
              rw [hk3] at hk4
              have hl4 : wr.heap.size < w4.heap.size := Nat.lt_of_lt_of_le hl3 hb4.size
              have HR4 := Lib.hid hr4
              have HR5 := Lib.hid (row_below HR3.out hb4)
              have HBB4 := Lib.hid (HX3.out.1.below hb4)
              have HB4 := Lib.hid hb4
              have HSAME := Lib.hid (fun (i : Nat) (hi : i < nb) (hx : (i : Int) ≠ x) => ups_apart r b x good (i := i) (by rw [HPL.out]; exact hi) hx)
              clear hr4 hb4 hk3
              go_wp2_with fail
              go_loopg [72] nb (fun gg s72 wx => Hid (AiRel w4 nb gg s72 wx))
              case atStart => exact Lib.hid ⟨0, 0, by omega, rfl, rfl⟩
              case round =>
                obtain ⟨i, q, hi, rfl, rfl⟩ := hrel.out
                clear hrel
                by_cases hin : i < nb
                · have hiz : (i : Int) < (nb : Int) := by omega
                  have hr4 := HR4.out
                  have hr5 := HR5.out
                  obtain ⟨g4, c4', e, _⟩ := row_slice hr4 (by omega)
                  simp only [Value.slice.injEq, true_and] at e
                  obtain ⟨rfl, rfl⟩ := e
                  obtain ⟨g5, c5', e, _⟩ := row_slice hr5 (by omega)
                  simp only [Value.slice.injEq, true_and] at e
                  obtain ⟨rfl, rfl⟩ := e
                  have p4 := brow_at hr4 hin
                  have p5 := brow_at hr5 hin
                  have hs := HSAME.out i hin
                  obtain ⟨y4, hy4⟩ : ∃ y, (ups (tellB r b x good).ps)[i]! = y := ⟨_, rfl⟩
                  obtain ⟨y5, hy5⟩ : ∃ y, (ups b.ps)[i]! = y := ⟨_, rfl⟩
                  rw [hy4] at p4 hs
                  rw [hy5] at p5 hs
                  clear hr4 hr5 hy4 hy5
                  by_cases hix : (i : Int) = x
                  · exact absurd hix (by omega)
                  · have z1 : ((i : Int) != x) = true := by simpa using hix
                    obtain rfl := hs hix
                    have z2 : (y4 != y4) = false := by simp
                    go_wp2
                    go_quiet (fail)
                    go_wp2
                    go_roundg (nb - (i + 1))
                    case measure => omega
                    case rel => exact Lib.hid ⟨i + 1, q + nq, by omega, by go_num, by first | rfl | rw [World.drewN_drewN]⟩
                · obtain rfl : i = nb := by omega
                  have hiz : ¬ ((i : Int) < (i : Int)) := by omega
                  go_wp2
                  go_roundg (n - (j + 1))
                  case measure => omega
                  case rel =>
                    have b2 := HX.out.2.2.2.trans (HB2.out.mono HX.out.2.2.2.size)
                    have b3 := b2.trans (Only.below HX3.out.2 b2.size HX.out.2.2.1)
                    have b4 := b3.trans (HB4.out.mono b3.size)
                    exact Lib.hid ⟨j + 1, by omega, by go_num, F1, tellB r b x good, HBB4.out.below (below_drewN (Below.refl _ _) q), HX.out.2.1.tell HOR.out x good, HX.out.2.2.1, below_drewN b4 q⟩
        · obtain rfl : j = n := by omega
          have HBR := Lib.hid hB
          clear hBd hob hF1 hB
          go_wp2_with (go_at_call 11; refine (HAL.out _).mono ?_; rintro e w3 ⟨rfl, hb3⟩; have HB3 := Lib.hid hb3; clear hb3)
          go_ret
          exact ⟨rfl, HBR.out.trans (HB3.out.mono HBR.out.size)⟩
  · have hof : (okR r && inn m 16) = false := by simpa using hok
    have HOF := Lib.hid hof
    clear hok hof
    go_enter Try.func7, Try.ntmps7
    go_wp2_with fail
    refine HLAY.out.mono ?_
    rintro e w1 ⟨hbw, ⟨h, -⟩ | ⟨-, rfl⟩⟩
    · rw [HOF.out] at h; cases h
    have HB1 := Lib.hid (HB0.out.trans (hbw.mono HB0.out.size))
    clear hbw
    go_wp2_with (go_at_call 11; refine (HAL.out _).mono ?_; rintro e w3 ⟨rfl, hb3⟩; have HB3 := Lib.hid hb3; clear hb3)
    go_ret
    exact ⟨rfl, HB1.out.trans (HB3.out.mono HB1.out.size)⟩

end Go.Proofs.Ytkcndgiiangmjaa
