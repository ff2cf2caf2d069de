/-
  wheel.Move, to a time that is taken.
-/
import Derived.Test.YtkcndgiiangmjaaMove
namespace Go.Proofs.Ytkcndgiiangmjaa
open Go.RowKit Go.Maps
set_option linter.unusedVariables false
set_option linter.unusedSimpArgs false
set_option maxRecDepth 10000

def MvRel (w W2 : World) (F : Nat → Prop) (B m : Nat) (Q Z T : List Tm) (gg : Nat) (s29 : Value) (wr : World) : Prop :=
  ∃ j : Nat, j + gg = Q.length ∧ s29 = .int .i64 j ∧ ∃ F', Wh wr F' B m (Q.take j ++ Z) T ∧ (∀ i, F' i → F i ∨ W2.heap.size ≤ i) ∧ Only F W2 wr

set_option maxHeartbeats 4000000 in
theorem move_yes {w : World} {F : Nat → Prop} {B now m : Nat} {L : List Tm} (h : Wh w F B now L L) (hf : Fit L) (hn : now ≤ m) (hm : m ≤ 1099511627776) (hlen : L.length ≤ 1000) :
    Calls Try.prog 34 #[.pointer (some ⟨B, 0, none⟩), .int .i64 m] w fun e w' => ∃ v F', e = .returned v ∧ w'.ownsRow w.heap.size 3 1 v (due L m).length (icells (ids (due L m))) ∧ (∀ g, v.ownBlock = some g → ¬ F' g) ∧ Wh w' F' B m (left L m) (left L m) ∧ (∀ i, F' i → F i ∨ w.heap.size ≤ i) ∧ Only F w w' := by
  obtain ⟨M, sl, h⟩ := h
  have c0 := h.cells.1
  have hB := h.lt B h.inB
  have HF := Lib.hid h.lt
  -- the boxes
  obtain ⟨w4, hw4⟩ : ∃ X, X = ((((w.alloc (.cells #[.pointer (some ⟨B, 0, none⟩)] 73)).alloc (.cells #[.int .i64 (m : Int)] 3)).alloc (.cells #[.slice none 0 0] 57)).alloc (.cells #[.slice none 0 0] 83)).drew := ⟨_, rfl⟩
  have hb4 : Below w.heap.size w w4 := by rw [hw4]; exact below_drew (below_alloc (below_alloc (below_alloc (below_alloc (Below.refl _ _) _) _) _) _)
  have hMS : MS w w4 F B M sl now m L [] L (.slice none 0 0) (.slice none 0 0) := by
    refine ⟨h.below hb4, Only.of_below hb4, ?_, ?_, ?_, ?_, ?_, ?_, World.ownsRow_nil _ _ _ _, World.ownsRow_nil _ _ _ _, fun g hg => by simp [Value.ownBlock] at hg, ?_⟩
    all_goals (rw [hw4]; simp [go_sem])
  have hps := pass_any hMS HF.out hf hn hm hlen
  rw [hw4, show w.heap.size + 2 = w.heap.size + 1 + 1 from rfl, show w.heap.size + 3 = w.heap.size + 1 + 1 + 1 from rfl] at hps
  have HPS := Lib.hid hps
  have HW4 := Lib.hid hw4
  have HFit := Lib.hid hf
  have H := Lib.hid h
  have hd : decide ((m : Int) < (now : Int)) = false := decide_eq_false (by omega)
  have hd2 : decide (1099511627776 < (m : Int)) = false := decide_eq_false (by omega)
  have hd3 : decide (m < now) = false := decide_eq_false (by omega)
  have hd4 : decide (1099511627776 < m) = false := decide_eq_false (by omega)
  clear hw4 hb4 hMS hf h hps
  go_enter Try.func34, Try.ntmps34
  go_wp2_with fail
  go_region
  all_goals
    go_wp2_with fail
    refine HPS.out.mono ?_
    rintro e wp ⟨rfl, v5, v6, W1, hM1, rfl⟩
    have hn2 : now ≤ 1099511627776 := Nat.le_trans hn hm
    obtain ⟨sl', hW2, hoB⟩ := hM1.wh.passed HFit.out hn hm
    -- the world behind pass
    have hcB : (W1.setCells B 2 (List.replicate (pl now m + 1) (.slice none 0 0))).cell? ⟨B, 0, none⟩ = some (.int .i64 now) := by
      rw [World.cell?_setCells_out B _ _ _ _ (fun _ _ => .inl (by simp only; omega))]; exact hM1.wh.cells.1
    have hfB : (W1.setCells B 2 (List.replicate (pl now m + 1) (.slice none 0 0))).frozen? ⟨B, 0, none⟩ = false := by
      rw [World.frozen?_setCells]; exact hM1.wh.free 0
    have hNB : w.heap.size ≠ B := by omega
    have hc2 : (W1.setCells B 2 (List.replicate (pl now m + 1) (.slice none 0 0))).cell? ⟨w.heap.size, 0, none⟩ = some (.pointer (some ⟨B, 0, none⟩)) := by
      rw [World.cell?_setCells_out B _ _ _ _ (fun h _ => absurd h hNB)]; exact hM1.c2
    have hc3 : (W1.setCells B 2 (List.replicate (pl now m + 1) (.slice none 0 0))).cell? ⟨w.heap.size + 1, 0, none⟩ = some (.int .i64 m) := by
      rw [World.cell?_setCells_out B _ _ _ _ (fun h _ => absurd h (by simp only; omega))]; exact hM1.c3
    obtain ⟨P, hP⟩ : ∃ P, firsts now L (pl now m + 1) = P := ⟨_, rfl⟩
    obtain ⟨Z, hZ⟩ : ∃ Z, rests now L (pl now m + 1) = Z := ⟨_, rfl⟩
    have hdue : due P m = due L m := by rw [← hP]; exact due_firsts HFit.out hn hm
    have hleft : left L m = left P m ++ Z := by rw [← hP, ← hZ]; exact left_split HFit.out hn hm
    rw [hP, hZ] at hM1
    rw [hP, hZ] at hW2
    obtain ⟨Wc, hWc⟩ : ∃ X, X = W1.setCells B 2 (List.replicate (pl now m + 1) (.slice none 0 0)) := ⟨_, rfl⟩
    rw [← hWc] at hW2 hoB hcB hfB hc2 hc3 ⊢
    clear hWc hP hZ
    obtain ⟨a6, c6, rfl, hnc6, hcm6⟩ := row_any hM1.r6
    obtain ⟨a5, c5, rfl, -, -⟩ := row_any hM1.r5
    have hs1 := hM1.sz
    have hs2 := hoB.size
    have HM1 := Lib.hid hM1
    obtain ⟨Q, hQ⟩ : ∃ Q, left P m = Q := ⟨_, rfl⟩
    have HLF : Hid (left L m = Q ++ Z) := Lib.hid (by rw [← hQ]; exact hleft)
    have HDU := Lib.hid hdue
    have hQl : Q.length ≤ 1000 := by
      have h1 := congrArg List.length HLF.out
      have h2 : (left L m).length ≤ L.length := List.length_filter_le _ _
      rw [List.length_append] at h1
      omega
    have HR6 : Hid (W1.ownsRow (w.heap.size + 4) 90 2 (.slice a6 Q.length c6) Q.length (tcells Q)) := Lib.hid (by rw [← hQ]; exact hM1.r6)
    have HFQ : Hid (Fit (Q ++ Z)) := Lib.hid (by rw [← HLF.out]; exact HFit.out.filter _)
    have hW2' : WhS (Wc.setCell ⟨B, 0, none⟩ (.int .i64 m)) F B M sl' m Z (Q ++ Z) := by rw [← hQ]; exact hW2
    have HS6 : Hid (∀ g, (Value.slice a6 Q.length c6).ownBlock = some g → w.heap.size + 4 ≤ g) := Lib.hid (fun g hg => (HR6.out.lt g hg).1)
    rw [hQ] at hnc6 HM1
    obtain ⟨n6, hn6⟩ : ∃ n, n = Q.length := ⟨_, rfl⟩
    have HN6 := Lib.hid hn6
    rw [← hn6] at hQl HR6 HS6 hnc6 HM1
    obtain ⟨W2, hWW⟩ : ∃ X, X = Wc.setCell ⟨B, 0, none⟩ (.int .i64 m) := ⟨_, rfl⟩
    rw [← hWW] at hW2' hoB hs2
    have HWW := Lib.hid hWW
    have hd6 : W2.cell? ⟨w.heap.size + 3, 0, none⟩ = some (.slice a6 n6 c6) := by
      rw [hoB.cell (p := ⟨w.heap.size + 3, 0, none⟩) (by simp only; omega) (by simp only; omega)]
      exact HM1.out.c6
    have HC2 : Hid (W2.cell? ⟨w.heap.size, 0, none⟩ = some (.pointer (some ⟨B, 0, none⟩))) := Lib.hid (by
      rw [hoB.cell (p := ⟨w.heap.size, 0, none⟩) (by simp only; omega) (by simp only; omega)]; exact hM1.c2)
    have HC5 : Hid (W2.cell? ⟨w.heap.size + 2, 0, none⟩ = some (.slice a5 (due P m).length c5)) := Lib.hid (by
      rw [hoB.cell (p := ⟨w.heap.size + 2, 0, none⟩) (by simp only; omega) (by simp only; omega)]; exact hM1.c5)
    have HW2 := Lib.hid hW2'
    have HOB := Lib.hid hoB
    have hBW : B < W1.heap.size := by omega
    rw [hWW] at hd6
    clear hM1 hW2 hW2' hoB hdue hleft hQ hn6 hWW hcm6
    go_wp2_with fail
    rw [← HWW.out]
    have hsW : w.heap.size + 4 ≤ W2.heap.size := Nat.le_trans hs1 hs2
    have HLB : Hid (∀ g, (Value.slice a6 n6 c6).ownBlock = some g → g < W1.heap.size) := Lib.hid (fun g hg => (HR6.out.lt g hg).2)
    have HNF : Hid (∀ i, w.heap.size ≤ i → ¬ F i) := Lib.hid (fun i hi hf => by have := HF.out i hf; omega)
    have HR62 : Hid (W2.ownsRow (w.heap.size + 4) 90 2 (.slice a6 n6 c6) n6 (tcells Q)) := Lib.hid (row_only HR6.out HOB.out fun g hg e => by have := HS6.out g hg; omega)
    clear hd6 hc2 hc3 hcB hfB
    go_loopg [29] n6 (fun gg s29 wr => Hid (MvRel w W2 F B m Q Z (Q ++ Z) gg s29 wr))
    case atStart => exact Lib.hid ⟨0, by have := HN6.out; omega, rfl, F, by rw [List.take_zero, List.nil_append]; exact ⟨M, sl', HW2.out⟩, fun i hi => .inl hi, Only.refl _ _⟩
    case round =>
      obtain ⟨j, hj, rfl, F', hWh, hF', hO⟩ := hrel.out
      rw [← HN6.out] at hj
      clear hrel
      have hsr := hO.size
      have hc2 : wr.cell? ⟨w.heap.size, 0, none⟩ = some (.pointer (some ⟨B, 0, none⟩)) := by
        rw [hO.cell (p := ⟨w.heap.size, 0, none⟩) (by simp only; omega) (HNF.out _ (Nat.le_refl _))]; exact HC2.out
      by_cases hjn : j < n6
      · have hjz : (j : Int) < (n6 : Int) := by omega
        have hjl : j < Q.length := by rw [← HN6.out]; exact hjn
        have hrow := row_only HR62.out hO fun g hg => HNF.out g (by have := HS6.out g hg; omega)
        obtain ⟨g, c', e, _⟩ := row_slice hrow (by omega)
        simp only [Value.slice.injEq, true_and] at e
        obtain ⟨rfl, rfl⟩ := e
        obtain ⟨d0, d1⟩ := trow_at hrow hjn
        have hdr : Q.drop j = Q[j]! :: Q.drop (j + 1) := by rw [List.drop_eq_getElem_cons hjl, getElem!_pos _ j hjl]
        have htk : Q.take (j + 1) = Q.take j ++ [Q[j]!] := by rw [List.take_add_one, List.getElem?_eq_getElem hjl, getElem!_pos _ j hjl]; rfl
        generalize hT : Q[j]! = t at d0 d1 hdr htk
        clear hT hrow
        have hsp : Q ++ Z = Q.take j ++ (t :: (Q.drop (j + 1) ++ Z)) := by rw [← List.cons_append, ← hdr, ← List.append_assoc, List.take_append_drop]
        have hfq := HFQ.out
        rw [hsp] at hfq
        have hp := List.pairwise_append.1 hfq.srt
        have hd := List.pairwise_append.1 hfq.nodup
        have hp1 := List.pairwise_cons.1 hp.2.1
        have hd1 := List.pairwise_cons.1 hd.2.1
        have hins : ins t (Q.take j ++ Z) = Q.take (j + 1) ++ Z := by
          rw [ins_behind (fun x hx => hp.2.2 x hx t (by simp)) (fun x hx => hp1.1 x (by simp [hx])), htk]
          simp
        have hnot : ∀ x ∈ Q.take j ++ Z, x.id ≠ t.id := fun x hx => by
          rcases List.mem_append.1 hx with hx | hx
          · exact hd.2.2 x hx t (by simp)
          · exact Ne.symm (hd1.1 x (by simp [hx]))
        have hfs : Fit (Q.take j ++ Z) := HFQ.out.sub (List.Sublist.append (List.take_sublist _ _) (List.Sublist.refl _))
        have hta : t.at_ ≤ 1099511627776 := (hfq.wide t (by simp)).2
        have hll : (Q.take j ++ Z).length ≤ 1000 := by
          have h1 : (left L m).length ≤ L.length := List.length_filter_le _ _
          have h2 := congrArg List.length HLF.out
          rw [List.length_append] at h2 ⊢
          have h3 : (Q.take j).length ≤ Q.length := by rw [List.length_take]; omega
          omega
        obtain ⟨ti, ta⟩ := t
        have hbA : Below wr.heap.size wr (wr.alloc (.cells #[.int .i64 (ti : Int), .int .i64 (ta : Int)] 90)) := below_alloc (Below.refl _ _) _
        have hLA := lay_any (hWh.below hbA) hfs hm hta hnot hll
        rw [hins] at hLA
        have HLA := Lib.hid hLA
        have HO := Lib.hid hO
        have HFF := Lib.hid hF'
        have hNw : w.heap.size < wr.heap.size := by omega
        simp only [tv] at HLA d0 d1
        clear hWh hF' hO hdr htk hsp hfq hp hd hp1 hd1 hins hnot hfs hta hll hLA hbA hjl
        go_wp2_with (go_at_call 36; refine HLA.out.mono ?_; rintro e w1 ⟨rfl, F1, hW1, hF1, hO1⟩; have HX := Lib.hid (And.intro hW1 (And.intro hF1 hO1)); clear hW1 hF1 hO1)
        go_roundg (n6 - (j + 1))
        case measure => omega
        case rel =>
          have hOA : Only F W2 (wr.alloc (.cells #[.int .i64 (ti : Int), .int .i64 (ta : Int)] 90)) := HO.out.alloc _
          refine Lib.hid ⟨j + 1, by rw [← HN6.out]; omega, by go_num, F1, HX.out.1, fun i hi => ?_, hOA.trans HX.out.2.2 HFF.out⟩
          rcases HX.out.2.1 i hi with h | h
          · exact HFF.out i h
          · exact .inr (Nat.le_trans hOA.size h)
      · obtain rfl : j = n6 := by omega
        have hc5 : wr.cell? ⟨w.heap.size + 2, 0, none⟩ = some (.slice a5 (due P m).length c5) := by
          rw [hO.cell (p := ⟨w.heap.size + 2, 0, none⟩) (by simp only; omega) (HNF.out _ (by simp only; omega))]; exact HC5.out
        have hNw : w.heap.size + 2 < wr.heap.size := by omega
        have etk : Q.take j = Q := List.take_of_length_le (by have := HN6.out; omega)
        rw [etk, ← HLF.out] at hWh
        have HX := Lib.hid (And.intro hWh (And.intro hF' hO))
        rw [HDU.out] at hc5 HM1
        generalize hdl : (due L m).length = nd at hc5
        have HDL := Lib.hid hdl
        clear hWh hF' hO hdl etk
        go_wp2_with fail
        go_ret
        have hr5 : wr.ownsRow (w.heap.size + 4) 3 1 (.slice a5 (due L m).length c5) (due L m).length (icells (ids (due L m))) := by
          have h0 := HM1.out.r5
          rw [HDU.out] at h0
          have h1 := row_only h0 HOB.out fun g hg e => by have := (h0.lt g hg).1; omega
          exact row_only h1 HX.out.2.2 fun g hg => HNF.out g (by have := (h0.lt g hg).1; omega)
        have hlt5 : ∀ g, (Value.slice a5 (due L m).length c5).ownBlock = some g → g < W1.heap.size := fun g hg => by
          have h0 := HM1.out.r5
          rw [HDU.out] at h0
          exact (h0.lt g hg).2
        rw [← HDL.out]
        have hO1 : Only F w W1 := HM1.out.only
        have hO2 : Only F w W2 := hO1.trans (HOB.out.mono (F' := F) fun i hi => hi ▸ H.out.inB) fun i hi => .inl hi
        refine ⟨_, F', rfl, row_base hr5 (by omega), fun g hg hfg => ?_, HX.out.1, fun i hi => ?_, hO2.trans HX.out.2.2 fun i hi => .inl hi⟩
        · have h5 := (hr5.lt g hg).1
          rcases HX.out.2.1 g hfg with h | h
          · exact HNF.out g (by omega) h
          · have := hlt5 g hg
            omega
        · rcases HX.out.2.1 i hi with h | h
          · exact .inl h
          · exact .inr (by omega)

end Go.Proofs.Ytkcndgiiangmjaa
