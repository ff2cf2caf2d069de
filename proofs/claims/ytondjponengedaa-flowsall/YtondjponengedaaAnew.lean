/-
  Table.layAnew.
-/
import Derived.Test.YtondjponengedaaAnew0
namespace Go.Proofs.Ytondjponengedaa
open Go.RowKit
set_option linter.unusedVariables false
set_option linter.unusedSimpArgs false
set_option maxRecDepth 10000
attribute [local go_sem ↓] bigL73 bigS73

set_option maxHeartbeats 4000000 in
theorem layAnew_any {w : World} {B : Nat} {k : List Int} {pl : List Pc} {cs : List Int} {L : List En} (h : Tm w B k pl cs) (T : TabP (hx k) pl L) (hk : Key k) (hok : ∀ e ∈ L, OkF e.fl) :
    Calls Try.prog 65 #[.pointer (some ⟨B, 0, none⟩)] w fun e w' => e = .returned (.tuple #[]) ∧ Ta w' B k L ∧ Only (· = B) w w' := by
  have HK := Lib.hid hk
  have HN := Lib.hid (fun w => new_any k hk w)
  have HA := Lib.hid (fun W (hb : Below w.heap.size w W) => allP_any (h.below hb) T)
  have HTM := Lib.hid (fun W (hb : Below w.heap.size w W) => h.below hb)
  have HF := Lib.hid T.fine
  have HOK := Lib.hid hok
  have hlt := h.lt
  obtain ⟨k0, k1, k2, k3, k4, k5, k6, k7, k8, k9, k10, k11, k12, k13, k14, k15, hl⟩ := hk.letters
  have e0 := h.key 0 (by omega)
  have e1 := h.key 1 (by omega)
  have e2 := h.key 2 (by omega)
  have e3 := h.key 3 (by omega)
  have e4 := h.key 4 (by omega)
  have e5 := h.key 5 (by omega)
  have e6 := h.key 6 (by omega)
  have e7 := h.key 7 (by omega)
  have e8 := h.key 8 (by omega)
  have e9 := h.key 9 (by omega)
  have e10 := h.key 10 (by omega)
  have e11 := h.key 11 (by omega)
  have e12 := h.key 12 (by omega)
  have e13 := h.key 13 (by omega)
  have e14 := h.key 14 (by omega)
  have e15 := h.key 15 (by omega)
  rw [hl] at e0 e1 e2 e3 e4 e5 e6 e7 e8 e9 e10 e11 e12 e13 e14 e15
  simp only [cel, List.map_cons, List.map_nil, List.getElem?_cons_zero, List.getElem?_cons_succ] at e0 e1 e2 e3 e4 e5 e6 e7 e8 e9 e10 e11 e12 e13 e14 e15
  have HKV : Hid (kv k = .agg #[.int .u8 k0, .int .u8 k1, .int .u8 k2, .int .u8 k3, .int .u8 k4, .int .u8 k5, .int .u8 k6, .int .u8 k7, .int .u8 k8, .int .u8 k9, .int .u8 k10, .int .u8 k11, .int .u8 k12, .int .u8 k13, .int .u8 k14, .int .u8 k15]) := Lib.hid (by rw [hl, kv_lit])
  rw [HKV.out] at HN
  clear h T hk hok hl
  go_enter Try.func65, Try.ntmps65
  go_wp2_with fail
  refine (HN.out _).mono ?_
  rintro e w1 ⟨B2, rfl, hT2, hB2, hb1⟩
  have HB1 := Lib.hid hb1
  have HT2 := Lib.hid hT2
  have hB2lt := hT2.tb.lt
  clear hT2 hb1 e0 e1 e2 e3 e4 e5 e6 e7 e8 e9 e10 e11 e12 e13 e14 e15
  go_wp2_with fail
  refine (HA.out _ HB1.out).mono ?_
  rintro e w2 ⟨v, rfl, hrow, hb2⟩
  obtain ⟨va, vc, rfl, hnc, -⟩ := row_any hrow
  have hst : Hid (AnRel w B B2 w1.heap.size k L (.slice va L.length vc) L.length (.int .i64 0) w2) := Lib.hid ⟨0, _, by omega, rfl, HT2.out.below hb2, by rw [cnt_new]; rfl, by rw [cnt_new]; rfl, hrow, below_then HB1.out HB1.out.size hb2⟩
  have hL64 := HF.out.2
  clear hrow hb2
  obtain ⟨n, hn⟩ : ∃ n, L.length = n := ⟨_, rfl⟩
  have HNN := Lib.hid hn
  rw [hn] at hst hL64 hnc ⊢
  clear hn
  go_wp2
  go_loopg [4, 5, 6, 15, 19] n (fun gg s4 s5 s6 s15 s19 wr => Hid (AnRel w B B2 w1.heap.size k L (.slice va n vc) gg s15 wr))
  case atStart => exact hst
  case round =>
    clear hst
    obtain ⟨i, pl2, hi, rfl, hT, hc0, hc1, hrow, hb⟩ := hrel.out
    clear hrel
    rw [HNN.out] at hi hrow
    have HB := Lib.hid hb
    have HT := Lib.hid hT
    have HR := Lib.hid hrow
    by_cases hlt2 : i < n
    · have hltz : (i : Int) < (n : Int) := by omega
      obtain ⟨g, c', e, _⟩ := row_slice hrow (by omega)
      simp only [Value.slice.injEq, true_and] at e
      obtain ⟨rfl, rfl⟩ := e
      have hgW := (hrow.lt g rfl)
      obtain ⟨d0, d1, d2, d3, d4, d5, d6, d7⟩ := erow_at hrow hlt2
      obtain ⟨hnone, hperm, hfine, hfw⟩ := take_more HF.out (i := i) (by rw [HNN.out]; exact hlt2)
      have hin : L[i]! ∈ L := by rw [getElem!_pos L i (by rw [HNN.out]; exact hlt2)]; exact List.getElem_mem _
      have hokx := HOK.out _ hin
      generalize L[i]! = x at d0 d1 d2 d3 d4 d5 d6 d7 hnone hperm hfw hokx hin
      have hbx : Below wr.heap.size wr (wr.alloc (.cells (ecs x).toArray 39)) := below_alloc (Below.refl _ _) _
      have HFI := Lib.hid ((hT.below hbx).find x.fl hokx)
      rw [hnone] at HFI
      have HBX := Lib.hid (Bx.new wr (ecs x) 39)
      have HX := Lib.hid (And.intro hnone (And.intro hperm (And.intro hfine (And.intro hfw hokx))))
      clear hnone hperm hfine hfw hokx hin hT hrow hb
      obtain ⟨⟨x1, x2, x3, x4, x5⟩, x6, x7, x8⟩ := x
      simp only [fv, ecs, Option.isSome_none] at HFI HBX d0 d1 d2 d3 d4 d5 d6 d7
      go_wp2_with fail
      refine HFI.out.mono ?_
      rintro e w4 ⟨a, rfl, ha, hch, -, hn2, hb4⟩
      have hT4 := (HT.out.below (below_alloc (Below.refl _ _) (.cells (ecs ⟨⟨x1, x2, x3, x4, x5⟩, x6, x7, x8⟩).toArray 39))).below hb4
      have HS := Lib.hid (set_any hT4.tb a ha ⟨2, ⟨⟨x1, x2, x3, x4, x5⟩, x6, x7, x8⟩⟩ (hT4.tp.kinds a ha) (by simp) (cts_bound hT4.tp.len))
      have HT4 := Lib.hid hT4
      have HC := Lib.hid (And.intro hch hn2)
      obtain ⟨c0, c1, c2, c3, c4, c5, c6, c7⟩ := (HBX.out.below hb4).eight
      have HB4 := Lib.hid hb4
      clear hT4 hch hn2 hb4
      simp only [pv, pcs, ecs] at HS
      go_wp2_with fail
      refine HS.out.mono ?_
      rintro e w5 ⟨rfl, hs⟩
      have HS5 := Lib.hid hs
      clear hs
      go_wp2
      go_roundg (n - (i + 1))
      case measure => omega
      case rel =>
        obtain ⟨hnone, hperm, hfine, hfw, hokx⟩ := HX.out
        obtain ⟨hch, hn2⟩ := HC.out
        have hT4 := HT4.out
        have hal : a < pl2.length := by rw [hT4.tp.len]; exact ha
        have hld := hT4.laid (e := ⟨⟨x1, x2, x3, x4, x5⟩, x6, x7, x8⟩) ha hch (fun y hy => by rw [hnone] at hy; simp at hy) (fun _ => hn2 trivial) hfw HS5.out
        have h2 := hn2 trivial
        have q0 := cnt_set hal ⟨2, ⟨⟨x1, x2, x3, x4, x5⟩, x6, x7, x8⟩⟩ 0
        have q1 := cnt_set hal ⟨2, ⟨⟨x1, x2, x3, x4, x5⟩, x6, x7, x8⟩⟩ 1
        have hkd := hT4.tp.kinds a ha
        have hb4w : Below w.heap.size w w4 := below_then (below_alloc HB.out _) (below_alloc HB.out _).size HB4.out
        simp only [Nat.reduceEqDiff, if_false, Nat.add_zero] at q0 q1
        have hne1 : ¬ (pl2[a]!).is_ = 1 := fun e => by rw [if_pos e] at q1; omega
        have hz : (pl2[a]!).is_ = 0 := by omega
        rw [if_pos hz] at q0
        rw [if_neg hne1] at q1
        have p0 : ¬ (2 : Nat) = 0 := by omega
        have p1 : ¬ (2 : Nat) = 1 := by omega
        simp only [if_neg p0, if_neg p1, Nat.add_zero] at q0 q1
        refine Lib.hid ⟨i + 1, pl2.set a ⟨2, ⟨⟨x1, x2, x3, x4, x5⟩, x6, x7, x8⟩⟩, by rw [HNN.out]; omega, by go_num, ⟨hld.1, hld.2.turn hperm hfine, by omega, HK.out, fun y hy => HOK.out y (List.mem_of_mem_take hy)⟩, by omega, by omega, ?_, ?_⟩
        · rw [HNN.out]
          refine row_only (row_below (row_below HR.out (below_alloc (Below.refl _ _) _)) HB4.out) HS5.out.2 fun g' hg' => ?_
          have := (HR.out.lt g' hg').1
          omega
        · exact hb4w.trans (HS5.out.2.below hb4w.size fun j hj => by omega)
    · obtain rfl : i = n := by omega
      have hTB := HTM.out wr HB.out
      have h16 : k.length = 16 := HK.out.1
      have hTT := hT.tb
      have hld := load73 hTT
      obtain ⟨w9, hst9, hT9, ho9⟩ := store73 hTB h16 hT.tp.len (cs' := cts pl2) rfl
      generalize hD : (cel k ++ plcells pl2 ++ ics (cts pl2)).toArray = D at hld hst9
      have HT9 := Lib.hid hT9
      have HO9 := Lib.hid ho9
      clear hD hT9 ho9 hTB hTT hrow hb hT
      go_wp2
      go_end0
      refine ⟨rfl, ⟨pl2, HT9.out, ?_, HT.out.room, HK.out, HOK.out⟩, (Only.of_below HB.out).trans HO9.out fun j hj => .inl hj⟩
      have := HT.out.tp
      rwa [List.take_of_length_le (by rw [HNN.out]; exact Nat.le_refl _)] at this

end Go.Proofs.Ytondjponengedaa
