/-
  The walk of FlowsStay.
-/
import Derived.Test.YtondjponengedaaEndsWalk
namespace Go.Proofs.Ytondjponengedaa
open Go.RowKit
set_option linter.unusedVariables false
set_option linter.unusedSimpArgs false
set_option maxRecDepth 10000
attribute [local go_sem ↓] flow_eq

theorem Ta.okf {w : World} {B : Nat} {k : List Int} {L : List En} (h : Ta w B k L) : ∀ e ∈ L, OkF e.fl := by
  obtain ⟨pl, h⟩ := h
  exact h.ok
theorem getF_wth {L : List En} (h : Srt L) (x : En) {e : En} (he : e ∈ L) : getF (wth L x) e.fl ≠ none := fun hn => by
  have h1 := getF_none.1 hn
  by_cases hf : e.fl = x.fl
  · exact h1 x (mem_wth.2 (.inl rfl)) hf.symm
  · exact h1 e (mem_wth.2 (.inr ⟨he, hf⟩)) rfl
/-- An entry is gone only where it was dropped, or has ended. -/
theorem gone_why {L : List En} (h : Srt L) (o : Opr) {e : En} (he : e ∈ L) (hn : getF (acts L o).1 e.fl = none) : (o.kind = 4 ∧ e.ends ≤ o.now) ∨ ((o.kind = 3 ∨ o.kind = 2) ∧ e.fl = o.e.fl) := by
  have hin : getF L e.fl ≠ none := fun h1 => getF_none.1 h1 e he rfl
  have hwo : ∀ f, getF (wo L f) e.fl = none → e.fl = f := fun f h1 => by
    rcases Classical.em (e.fl = f) with h2 | h2
    · exact h2
    · exact absurd rfl (getF_none.1 h1 e (mem_wo.2 ⟨he, h2⟩))
  unfold acts at hn
  split at hn
  · exfalso
    simp only at hn
    unfold opn at hn
    split at hn
    · exact hin hn
    · split at hn
      · exact hin hn
      · exact getF_wth h _ he hn
  · split at hn
    · exfalso
      simp only at hn
      unfold see at hn
      split at hn
      · exact hin hn
      · split at hn
        · exact hin hn
        · exact getF_wth h _ he hn
    · split at hn
      · rename_i h2
        simp only at hn
        unfold put_ at hn
        split at hn
        · exact absurd hn hin
        · split at hn
          · exact absurd hn hin
          · split at hn
            · exact .inr ⟨.inr h2, hwo _ hn⟩
            · exact absurd hn (getF_wth h _ he)
      · split at hn
        · rename_i h3
          exact .inr ⟨.inl h3, hwo _ hn⟩
        · split at hn
          · rename_i h4
            left
            refine ⟨h4, ?_⟩
            rcases Int.lt_or_le o.now e.ends with h5 | h5
            · exact absurd rfl (getF_none.1 hn e (List.mem_filter.2 ⟨he, decide_eq_true h5⟩))
            · exact h5
          · exact absurd hn hin

set_option maxHeartbeats 4000000 in
theorem stay_walk (K : List Int) (a : Option Addr) (n c : Nat) (l : List Opr) (w : World) (hK : Key K) (hS : Scr w a n c l) :
    Calls Try.prog 6 #[kv K, .slice a n c] w fun e w' => e = .returned (.bool true) ∧ Below w.heap.size w w' := by
  have HK := Lib.hid hK
  have HS := Lib.hid hS
  have HN := Lib.hid (fun w => pl_new w hK)
  have AL := Lib.hid (fun w => alive_any w)
  have HLN := Lib.hid hS.1.1
  obtain ⟨k0, k1, k2, k3, k4, k5, k6, k7, k8, k9, k10, k11, k12, k13, k14, k15, hl⟩ := hK.letters
  have HKV : Hid (kv K = .agg #[.int .u8 k0, .int .u8 k1, .int .u8 k2, .int .u8 k3, .int .u8 k4, .int .u8 k5, .int .u8 k6, .int .u8 k7, .int .u8 k8, .int .u8 k9, .int .u8 k10, .int .u8 k11, .int .u8 k12, .int .u8 k13, .int .u8 k14, .int .u8 k15]) := Lib.hid (by rw [hl, kv_lit])
  rw [HKV.out] at HN ⊢
  have HB0 := Lib.hid (below_alloc (Below.refl w.heap.size w) (.cells #[.int .u8 k0, .int .u8 k1, .int .u8 k2, .int .u8 k3, .int .u8 k4, .int .u8 k5, .int .u8 k6, .int .u8 k7, .int .u8 k8, .int .u8 k9, .int .u8 k10, .int .u8 k11, .int .u8 k12, .int .u8 k13, .int .u8 k14, .int .u8 k15] 22))
  clear hK hS hl
  by_cases hbig : 400 < n
  · have hz : decide ((400 : Int) < (n : Int)) = true := decide_eq_true (by omega)
    go_enter Try.func6, Try.ntmps6
    go_wp2_with fail
    refine (HN.out _).mono ?_
    rintro e w1 ⟨B, rfl, hP⟩
    have HB1 := Lib.hid (HB0.out.trans (hP.2.2.mono HB0.out.size))
    clear hP
    go_wp2_with fail
    refine (AL.out _).mono ?_
    rintro e w2 ⟨rfl, hb2⟩
    go_wp2
    go_ret
    exact ⟨rfl, below_then HB1.out HB1.out.size hb2⟩
  · have hz : decide ((400 : Int) < (n : Int)) = false := decide_eq_false (by omega)
    go_enter Try.func6, Try.ntmps6
    go_wp2_with fail
    refine (HN.out _).mono ?_
    rintro e w1 ⟨B, rfl, hP⟩
    have HP1 : Hid (Pl w w1 B K []) := Lib.hid ⟨hP.1, Nat.le_trans HB0.out.size hP.2.1, HB0.out.trans (hP.2.2.mono HB0.out.size)⟩
    clear hP
    go_wp2
    go_loopg [7, 8, 10, 11, 12, 29, 43] n (fun gg s7 s8 s10 s11 s12 s29 s43 wr => Hid (ScRel w B n K l gg s29 wr))
    case atStart => exact Lib.hid ⟨0, by omega, rfl, HP1.out⟩
    case round =>
      obtain ⟨j, hj, rfl, hP⟩ := hrel.out
      clear hrel
      have HPL := Lib.hid hP
      by_cases hlt : j < n
      · have hltz : (j : Int) < (n : Int) := by omega
        obtain ⟨sb, so, rfl, hsb, hat, hokx⟩ := (HS.out.below HPL.out.2.2).at hlt
        obtain ⟨d0, d1, d2, d3, d4, d5, d6, d7, d8, d9, d10⟩ := hat
        have hnx := runS_next l (j := j) (by rw [← HLN.out]; exact hlt)
        generalize l[j]! = x at d0 d1 d2 d3 d4 d5 d6 d7 d8 d9 d10 hokx hnx
        have hw1 : Below wr.heap.size wr (wr.alloc (.cells (ocs x).toArray 53)) := below_alloc (Below.refl _ _) _
        have HP1 := Lib.hid (hP.grow hw1)
        have HBX := Lib.hid (Bx.new wr (ocs x) 53)
        have HA := Lib.hid (all_any HP1.out.1)
        have HOKX := Lib.hid hokx
        have HNX := Lib.hid hnx
        have hfine := hP.1.fine
        have hoks := hP.1.okf
        have hgone := fun (e : En) (he : e ∈ runS (l.take j)) => gone_why hfine.1 x he
        generalize runS (l.take j) = L at *
        have HGO := Lib.hid hgone
        have HOKS := Lib.hid hoks
        have hL64 := hfine.2
        have hF2 := (hfine.acts x).2
        clear hP hnx hokx hgone hoks hw1
        obtain ⟨kd, fl, nw, ⟨⟨x1, x2, x3, x4, x5⟩, x6, x7, x8⟩⟩ := x
        simp only [ocs, ecs] at HA HBX HP1
        simp only at d0 d1 d2 d3 d4 d5 d6 d7 d8 d9 d10
        go_wp2_with fail
        refine HA.out.mono ?_
        rintro e w2 ⟨v2, rfl, hr2, hb2⟩
        obtain ⟨a2, c2, rfl, -, -⟩ := row_any hr2
        have HP2 := Lib.hid (HP1.out.grow hb2)
        have HBX2 := Lib.hid (HBX.out.below hb2)
        have HR2 := Lib.hid hr2
        have HD := Lib.hid (pl_does HP2.out ⟨kd, fl, nw, ⟨⟨x1, x2, x3, x4, x5⟩, x6, x7, x8⟩⟩ HOKX.out)
        simp only [opv] at HD
        have hB1 := HP1.out.1.lt
        have hbw := HP1.out.2.1
        have hbx := HBX2.out
        have b0 := hbx.cell 0
        have b1 := hbx.cell 1
        have b2 := hbx.cell 2
        have b3 := hbx.cell 3
        have b4 := hbx.cell 4
        have b5 := hbx.cell 5
        have b6 := hbx.cell 6
        have b7 := hbx.cell 7
        have b8 := hbx.cell 8
        have b9 := hbx.cell 9
        have b10 := hbx.cell 10
        simp only [List.getElem?_cons_zero, List.getElem?_cons_succ] at b0 b1 b2 b3 b4 b5 b6 b7 b8 b9 b10
        clear hbx hr2 hb2
        go_wp2_with fail
        refine HD.out.mono ?_
        rintro e w3 ⟨v3, rfl, -, hP3, ho3⟩
        have HBX3 := Lib.hid (HBX2.out.only ho3 (show ¬ wr.heap.size = B by have := HPL.out.1.lt; omega))
        have HR3 := Lib.hid (row_only HR2.out ho3 fun g hg => by have := (HR2.out.lt g hg).1; omega)
        have HP3 := Lib.hid hP3
        have HLE := Lib.hid hP3.1.lenT
        generalize hL2 : (acts L ⟨kd, fl, nw, ⟨⟨x1, x2, x3, x4, x5⟩, x6, x7, x8⟩⟩).1 = L2 at *
        have hz64 : decide ((64 : Int) < (L2.length : Nat)) = false := decide_eq_false (by omega)
        clear hP3 ho3 b0 b1 b2 b3 b4 b5 b6 b7 b8 b9 b10
        obtain ⟨m, hm⟩ : ∃ m, L.length = m := ⟨_, rfl⟩
        have HM := Lib.hid hm
        have HR3b := Lib.hid (row_base HR3.out (Nat.zero_le _))
        rw [hm] at HR3b hL64 ⊢
        clear hm HR3 HR2 hfine hF2
        go_wp2_with (go_at_call 25; refine HLE.out.mono ?_; rintro e w' ⟨rfl, rfl⟩)
        go_loopg [10, 11, 12, 43] m (fun gg s10 s11 s12 s43 wq => Hid (RwRel w3 0 (.slice a2 m c2) L m gg s43 wq))
        case atStart => exact Lib.hid ⟨0, by omega, rfl, HR3b.out, Below.refl _ _⟩
        case round =>
          obtain ⟨i, hi, rfl, hrow, hb⟩ := hrel.out
          clear hrel
          rename_i wq
          have HBQ := Lib.hid hb
          by_cases hlt2 : i < m
          · have hltz2 : (i : Int) < (m : Int) := by omega
            obtain ⟨g, c', e, _⟩ := row_slice hrow (by omega)
            simp only [Value.slice.injEq, true_and] at e
            obtain ⟨rfl, rfl⟩ := e
            have hgW := (hrow.lt g rfl)
            obtain ⟨d0, d1, d2, d3, d4, d5, d6, d7⟩ := erow_at hrow hlt2
            have hin : L[i]! ∈ L := by rw [getElem!_pos L i (by rw [HM.out]; exact hlt2)]; exact List.getElem_mem _
            have hokx := HOKS.out _ hin
            have hwhy := HGO.out _ hin
            generalize L[i]! = y at d0 d1 d2 d3 d4 d5 d6 d7 hokx hwhy
            have HGE := Lib.hid (get_any (HP3.out.1.below (below_then hb hb.size (below_alloc (Below.refl _ _) (.cells (ecs y).toArray 39)))) y.fl hokx)
            have HRW1 := Lib.hid (row_below hrow (below_alloc (Below.refl _ _) (.cells (ecs y).toArray 39)))
            have HBW1 := Lib.hid (below_alloc hb (.cells (ecs y).toArray 39))
            have HEY := Lib.hid (Bx.new wr (ecs y) 39)
            have HWHY := Lib.hid hwhy
            generalize hgy : gotE L2 y.fl = gy at HGE
            obtain ⟨is, his⟩ : ∃ is, (getF L2 y.fl).isSome = is := ⟨_, rfl⟩
            rw [his] at HGE
            have HIS := Lib.hid his
            clear hrow hb hin hokx hwhy hgy his
            obtain ⟨⟨y1, y2, y3, y4, y5⟩, y6, y7, y8⟩ := y
            obtain ⟨⟨g1, g2, g3, g4, g5⟩, g6, g7, g8⟩ := gy
            simp only [ecs, fv, ev] at HGE HEY HRW1 HBW1
            simp only at d0 d1 d2 d3 d4 d5 d6 d7
            go_wp2_with fail
            refine HGE.out.mono ?_
            rintro e w5 ⟨rfl, hb5⟩
            have HB5 := Lib.hid (below_then HBW1.out HBW1.out.size hb5)
            have HBW6 := Lib.hid (below_alloc HB5.out (.cells #[.int .i64 g1, .string g2, .string g3, .int .i64 g4, .int .i64 g5, .int .i64 g6, .int .i64 g7, .int .i64 g8] 39))
            have HRW6 := Lib.hid (row_below (row_below HRW1.out hb5) (below_alloc (Below.refl _ _) (.cells #[.int .i64 g1, .string g2, .string g3, .int .i64 g4, .int .i64 g5, .int .i64 g6, .int .i64 g7, .int .i64 g8] 39)))
            have hbo := (HBX3.out.below HBW6.out)
            have hbe := (HEY.out.below hb5).alloc (.cells #[.int .i64 g1, .string g2, .string g3, .int .i64 g4, .int .i64 g5, .int .i64 g6, .int .i64 g7, .int .i64 g8] 39)
            have b0 := hbo.cell 0
            have b1 := hbo.cell 1
            have b2 := hbo.cell 2
            have b3 := hbo.cell 3
            have b4 := hbo.cell 4
            have b5 := hbo.cell 5
            have b6 := hbo.cell 6
            have b7 := hbo.cell 7
            have b8 := hbo.cell 8
            have b9 := hbo.cell 9
            have b10 := hbo.cell 10
            simp only [List.getElem?_cons_zero, List.getElem?_cons_succ] at b0 b1 b2 b3 b4 b5 b6 b7 b8 b9 b10
            have t0 := hbe.cell 0
            have t1 := hbe.cell 1
            have t2 := hbe.cell 2
            have t3 := hbe.cell 3
            have t4 := hbe.cell 4
            have t5 := hbe.cell 5
            have t6 := hbe.cell 6
            have t7 := hbe.cell 7
            simp only [List.getElem?_cons_zero, List.getElem?_cons_succ] at t0 t1 t2 t3 t4 t5 t6 t7
            clear hbo hbe hb5
            rcases is with _ | _
            · have hnone : getF L2 ⟨y1, y2, y3, y4, y5⟩ = none := by
                have := HIS.out
                simpa using this
              have hc := HWHY.out hnone
              skip
              clear hnone
              rcases hc with ⟨rfl, hle⟩ | ⟨rfl | rfl, hfl⟩
              · have hz1 : decide (y8 ≤ nw) = true := decide_eq_true hle
                clear hle
                go_wp2
                go_roundg (m - (i + 1))
                case measure => omega
                case rel => exact Lib.hid ⟨i + 1, by omega, by go_num, HRW6.out, HBW6.out⟩
              · have hz1 : sameF ⟨y1, y2, y3, y4, y5⟩ ⟨x1, x2, x3, x4, x5⟩ = true := decide_eq_true hfl
                clear hfl
                go_wp2
                go_roundg (m - (i + 1))
                case measure => omega
                case rel => exact Lib.hid ⟨i + 1, by omega, by go_num, HRW6.out, HBW6.out⟩
              · have hz1 : sameF ⟨y1, y2, y3, y4, y5⟩ ⟨x1, x2, x3, x4, x5⟩ = true := decide_eq_true hfl
                clear hfl
                go_wp2
                go_roundg (m - (i + 1))
                case measure => omega
                case rel => exact Lib.hid ⟨i + 1, by omega, by go_num, HRW6.out, HBW6.out⟩
            · clear HWHY
              go_wp2
              go_roundg (m - (i + 1))
              case measure => omega
              case rel => exact Lib.hid ⟨i + 1, by omega, by go_num, HRW6.out, HBW6.out⟩
          · obtain rfl : i = m := by omega
            have HPQ := Lib.hid (HP3.out.grow hb)
            clear hrow hb
            go_wp2
            go_roundg (n - (j + 1))
            case measure => omega
            case rel => exact Lib.hid ⟨j + 1, by omega, by go_num, by rw [HNX.out]; exact HPQ.out⟩
      · obtain rfl : j = n := by omega
        clear hP
        go_wp2_with fail
        refine (AL.out _).mono ?_
        rintro e w9 ⟨rfl, hb9⟩
        go_wp2
        go_ret
        exact ⟨rfl, (HPL.out.grow hb9).2.2⟩

end Go.Proofs.Ytondjponengedaa
