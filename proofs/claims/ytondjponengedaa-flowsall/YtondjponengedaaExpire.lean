/-
  Table.Expire.
-/
import Derived.Test.YtondjponengedaaSee
namespace Go.Proofs.Ytondjponengedaa
open Go.RowKit
set_option linter.unusedVariables false
set_option linter.unusedSimpArgs false
set_option maxRecDepth 10000

/-- Entries but those of these. -/
def woAll (L ds : List En) : List En := L.filter fun e => ds.all fun d => decide (d.fl ≠ e.fl)
theorem woAll_nil (L : List En) : woAll L [] = L := List.filter_eq_self.2 fun _ _ => rfl
theorem woAll_next (L ds : List En) (d : En) : woAll L (ds ++ [d]) = wo (woAll L ds) d.fl := by
  unfold woAll wo
  rw [List.filter_filter]
  congr 1
  funext e
  simp only [List.all_append, List.all_cons, List.all_nil, Bool.and_true]
  rw [Bool.and_comm]
  congr 1
  exact decide_eq_decide.2 ⟨Ne.symm, Ne.symm⟩
theorem woAll_liv {L D : List En} (h : Srt L) (now : Int) (hp : D.Perm (L.filter fun e => decide (e.ends ≤ now))) : woAll L D = liv now L := by
  unfold woAll liv
  refine List.filter_congr fun e he => ?_
  rcases hd : decide (now < e.ends) with _ | _
  · have hle : e.ends ≤ now := by have := of_decide_eq_false hd; omega
    have hin : e ∈ D := hp.symm.subset (List.mem_filter.2 ⟨he, decide_eq_true hle⟩)
    rcases ha : (D.all fun d => decide (d.fl ≠ e.fl)) with _ | _
    · rfl
    · have := (List.all_eq_true.1 ha) e hin
      simp at this
  · have hlt := of_decide_eq_true hd
    refine List.all_eq_true.2 fun d hd2 => decide_eq_true fun e2 => ?_
    obtain ⟨h1, h2⟩ := List.mem_filter.1 (hp.subset hd2)
    have h3 := h.same h1 he e2
    subst h3
    have := of_decide_eq_true h2; omega

def ExRel (w : World) (B W0 : Nat) (k : List Int) (L D : List En) (v : Value) (gg : Nat) (s13 : Value) (wr : World) : Prop :=
  ∃ i : Nat, i + gg = D.length ∧ s13 = .int .i64 i ∧ Ta wr B k (woAll L (D.take i)) ∧ wr.ownsRow W0 39 8 v D.length (ecells D) ∧ Only (· = B) w wr

set_option maxHeartbeats 4000000 in
theorem expire_any {w : World} {B : Nat} {k : List Int} {L : List En} (h : Ta w B k L) (now : Int) :
    Calls Try.prog 29 #[.pointer (some ⟨B, 0, none⟩), .int .i64 now] w fun e w' => ∃ v, e = .returned v ∧ w'.ownsRow w.heap.size 39 8 v (xpd now L).length (ecells (xpd now L)) ∧ Ta w' B k (liv now L) ∧ Only (· = B) w w' := by
  obtain ⟨pl, h⟩ := h
  have hlt := h.tb.lt
  have hb0 : Below w.heap.size w (w.alloc (.cells #[.int .i64 now] 3)) := below_alloc (Below.refl _ _) _
  have h0 := h.below hb0
  have hbx := Bx.new w [.int .i64 now] 3
  have HT := Lib.hid (those49_any h0.tb h0.tp.kinds (fun e => decide (e.ends ≤ now)) w.heap.size fun e W hb => by
    have h1 := (Bx.below hbx hb).cell 0
    exact expire1_any e w.heap.size now W h1 (Bx.below hbx hb).lt)
  have H0 := Lib.hid h0
  have hq : ((ents pl).filter fun e => decide (e.ends ≤ now)).Perm (L.filter fun e => decide (e.ends ≤ now)) := h.tp.perm.filter _
  have hxp := xpd_srt h.tp.fine.1 now
  have HX1 := Lib.hid (And.intro hxp.1 (And.intro ((srt_ne h.tp.fine.1).filter _ : (L.filter fun e => decide (e.ends ≤ now)).Pairwise fun x y => x.fl ≠ y.fl) (hxp.2.trans hq.symm)))
  have HLIV := Lib.hid (woAll_liv h.tp.fine.1 now hq)
  have hDlen : ((ents pl).filter fun e => decide (e.ends ≤ now)).length ≤ 64 := by
    rw [hq.length_eq]; exact Nat.le_trans (List.length_filter_le _ _) h.tp.fine.2
  have hDok : ∀ e ∈ ((ents pl).filter fun e => decide (e.ends ≤ now)), OkF e.fl := fun e he => h.ok e (List.mem_filter.1 (hq.subset he)).1
  have HXN : Hid ((xpd now L).Pairwise fun x y => x.fl ≠ y.fl) := Lib.hid ((hxp.2.pairwise_iff (fun h => Ne.symm h)).2 ((srt_ne h.tp.fine.1).filter _))
  generalize (ents pl).filter (fun e => decide (e.ends ≤ now)) = D at HT HX1 HLIV hDlen hDok
  have HO0 : Hid (Only (· = B) w (w.alloc (.cells #[.int .i64 now] 3))) := Lib.hid ((Only.refl _ w).alloc _)
  have HDO := Lib.hid hDok
  clear h h0 hb0 hq hxp hbx hDok
  have hmf : ∀ (fn : Fn) (first cap : Array Value) (w : World), (Instr.makeFunc fn first cap).run Try.prog w = .ok (.func fn first cap) w := fun _ _ _ _ => rfl
  go_enter Try.func29, Try.ntmps29
  go_wp2_with fail
  refine HT.out.mono ?_
  rintro e w1 ⟨v, rfl, hrow, hb1⟩
  obtain ⟨va, vc, rfl, hnc, -⟩ := row_any hrow
  obtain ⟨n, hn⟩ : ∃ n, D.length = n := ⟨_, rfl⟩
  have HNN := Lib.hid hn
  have hst : Hid (ExRel w B (w.heap.size + 1) k L D (.slice va n vc) D.length (.int .i64 0) w1) := Lib.hid ⟨0, by omega, rfl, ⟨pl, by rw [List.take_zero, woAll_nil]; exact H0.out.below hb1⟩, by rw [← hn, ← World.size_alloc w (.cells #[.int .i64 now] 3)]; exact hrow, HO0.out.trans (Only.of_below (F := (· = B)) hb1) fun j hj => .inl hj⟩
  rw [hn] at hst hDlen hnc ⊢
  clear hrow hb1 hn
  go_wp2
  go_loopg [7, 13] n (fun gg s7 s13 wr => Hid (ExRel w B (w.heap.size + 1) k L D (.slice va n vc) gg s13 wr))
  case atStart => exact hst
  case round =>
    clear hst
    obtain ⟨i, hi, rfl, hT, hrow, ho⟩ := hrel.out
    clear hrel
    rw [HNN.out] at hi hrow
    have HO := Lib.hid ho
    have HTi := Lib.hid hT
    have HR := Lib.hid hrow
    by_cases hlt2 : i < n
    · have hltz : (i : Int) < (n : Int) := by omega
      obtain ⟨g, c', e, _⟩ := row_slice hrow (by omega)
      simp only [Value.slice.injEq, true_and] at e
      obtain ⟨rfl, rfl⟩ := e
      have hgW := (hrow.lt g rfl)
      obtain ⟨d0, d1, d2, d3, d4, d5, d6, d7⟩ := erow_at hrow hlt2
      have hin : D[i]! ∈ D := by rw [getElem!_pos D i (by rw [HNN.out]; exact hlt2)]; exact List.getElem_mem _
      have hokx := HDO.out _ hin
      have hnx : woAll L (D.take (i + 1)) = wo (woAll L (D.take i)) (D[i]!).fl := by
        rw [List.take_add_one, List.getElem?_eq_getElem (by rw [HNN.out]; exact hlt2), Option.toList_some, ← getElem!_pos D i (by rw [HNN.out]; exact hlt2), woAll_next]
      generalize D[i]! = x at d0 d1 d2 d3 d4 d5 d6 d7 hokx hnx
      have HD := Lib.hid (drop_any (hT.below (below_alloc (Below.refl _ _) (.cells (ecs x).toArray 39))) x.fl hokx)
      have HNX := Lib.hid hnx
      clear hin hokx hnx hT hrow ho
      obtain ⟨⟨x1, x2, x3, x4, x5⟩, x6, x7, x8⟩ := x
      simp only [fv, ecs] at HD d0 d1 d2 d3 d4 d5 d6 d7
      go_wp2_with fail
      refine HD.out.mono ?_
      rintro e w4 ⟨rfl, hT4, ho4⟩
      have HT4 := Lib.hid hT4
      have HO4 := Lib.hid ho4
      clear hT4 ho4
      go_wp2
      go_roundg (n - (i + 1))
      case measure => omega
      case rel =>
        refine Lib.hid ⟨i + 1, by rw [HNN.out]; omega, by go_num, by rw [HNX.out]; exact HT4.out, ?_, ((HO.out.alloc _).trans HO4.out fun j hj => .inl hj)⟩
        rw [HNN.out]
        refine row_only (row_below HR.out (below_alloc (Below.refl _ _) _)) HO4.out fun g' hg' e => ?_
        have := (HR.out.lt g' hg').1
        omega
    · obtain rfl : i = n := by omega
      rw [List.take_of_length_le (by rw [HNN.out]; exact Nat.le_refl _), HLIV.out] at hT
      have HSO := Lib.hid (sortE_row (w := wr) (base := w.heap.size + 1) (v := .slice va i vc) (by rw [HNN.out]; exact hrow) (by rw [HNN.out]; omega) HX1.out.1 HXN.out HX1.out.2.2)
      have HTe := Lib.hid hT
      clear hT hrow ho
      go_wp2_with fail
      refine HSO.out.mono ?_
      rintro e w5 ⟨rfl, hr5, ho5⟩
      go_wp2
      go_ret
      have hgn : ∀ j, Value.ownBlock (.slice va i vc) = some j → w.heap.size + 1 ≤ j := fun j hj => (HR.out.lt j hj).1
      exact ⟨_, rfl, row_base hr5 (Nat.le_succ _), HTe.out.only ho5 (fun hB => by have := hgn B hB; omega), HO.out.trans ho5 fun j hj => .inr (by have := hgn j hj; omega)⟩

end Go.Proofs.Ytondjponengedaa
