/-
  health's boards: Tell, Up.
-/
import Derived.Test.YtkcndgiiangmjaaCb
import Derived.Laws.OwnMore
namespace Go.Proofs.Ytkcndgiiangmjaa
open Go.RowKit Go.Maps
set_option linter.unusedVariables false
set_option linter.unusedSimpArgs false
set_option maxRecDepth 10000

set_option maxHeartbeats 2000000 in
theorem btell_any {w : World} {F : Nat → Prop} {B : Nat} {r : Ru} {b : Bo} {n : Nat} (h : Bd w F B r b) (hr : okR r = true) (ok : OkB r b n) (k : Int) (good : Bool) :
    Calls Try.prog 19 #[.pointer (some ⟨B, 0, none⟩), .int .i64 k, .bool good] w fun e w' => e = .returned (.tuple #[.bool (tellBC r b k good), .bool (isB b k)]) ∧ Bd w' F B r (tellB r b k good) ∧ Only F w w' := by
  obtain ⟨qs, v, W, G, h⟩ := h
  obtain ⟨a, c, rfl, hnc, -⟩ := row_any h.row
  have d3 := h.c3
  have hq := h.len
  have H := Lib.hid h
  by_cases hk0 : k < 0
  · have e1 : isB b k = false := decide_eq_false (by omega)
    have e2 : tellBC r b k good = false := by unfold tellBC; rw [e1]; rfl
    have e3 : tellB r b k good = b := by unfold tellB; rw [e1]; rfl
    rw [e1, e2, e3]
    clear h d3 hq e1 e2 e3
    go_enter Try.func19, Try.ntmps19
    go_wp2
    go_ret2
    exact ⟨rfl, ⟨qs, _, W, G, H.out⟩, Only.refl _ _⟩
  · obtain ⟨j, rfl⟩ := Int.eq_ofNat_of_zero_le (show 0 ≤ k by omega)
    have hk1 : ¬ ((j : Int) < 0) := by omega
    obtain ⟨m, hm⟩ : ∃ m, qs.length = m := ⟨_, rfl⟩
    by_cases hkm : j < m
    · have e1 : isB b (j : Int) = true := decide_eq_true (by omega)
      have e2 : tellBC r b (j : Int) good = tellC r b.ps[j]! good := by unfold tellBC; rw [if_pos e1]; rfl
      have e3 : tellB r b (j : Int) good = ⟨b.ps.set j (tellP r b.ps[j]! good), b.s⟩ := by unfold tellB; rw [if_pos e1]; rfl
      rw [e1, e2, e3]
      have hkz : ¬ ((j : Int) ≥ (m : Int)) := by omega
      have hkz2 : (j : Int) < (m : Int) := by omega
      have hrow := h.row
      rw [hm] at hrow d3
      obtain ⟨g, c', e, _⟩ := row_slice hrow (by omega)
      simp only [Value.slice.injEq, true_and] at e
      obtain ⟨rfl, rfl⟩ := e
      have p0 := prow_at hrow hkm
      have HT := Lib.hid (tell_any (h.pb j (by omega)) hr (ok.p j (by omega)) good)
      have HM := Lib.hid hm
      have HRX : ∀ q, qs[j]! = q → Hid (qs[j]! = q) := fun q h => Lib.hid h
      generalize hQ : qs[j]! = q at p0 HT
      have HQ := HRX q hQ
      obtain ⟨tc, htc⟩ : ∃ tc, tellC r b.ps[j]! good = tc := ⟨_, rfl⟩
      rw [htc] at HT ⊢
      clear h hq hrow hm hQ HRX e1 e2 e3 htc
      go_enter Try.func19, Try.ntmps19
      go_wp2_with (go_at_call 13; refine HT.out.mono ?_; rintro e w1 ⟨rfl, hp, ho⟩; have HP := Lib.hid hp; have HO := Lib.hid ho; clear hp ho)
      go_ret2
      have hj : j < qs.length := by rw [HM.out]; exact hkm
      refine ⟨rfl, ⟨qs, _, W, G, H.out.told hj (by rw [HQ.out]; exact HP.out) (by rw [HQ.out]; exact HO.out)⟩, HO.out.mono fun i hi => ?_⟩
      rw [hi, ← HQ.out]
      exact (H.out.pF j hj).1
    · have e1 : isB b (j : Int) = false := decide_eq_false (by omega)
      have e2 : tellBC r b (j : Int) good = false := by unfold tellBC; rw [e1]; rfl
      have e3 : tellB r b (j : Int) good = b := by unfold tellB; rw [e1]; rfl
      rw [e1, e2, e3]
      have hkz : (j : Int) ≥ (m : Int) := by omega
      rw [hm] at d3
      clear h hq hm e1 e2 e3
      go_enter Try.func19, Try.ntmps19
      go_wp2
      go_ret2
      exact ⟨rfl, ⟨qs, _, W, G, H.out⟩, Only.refl _ _⟩

/-! ## Who is up -/
def ups (ps : List Pr) : List Bool := ps.map (·.up)
def bcells (us : List Bool) : List Value := us.map Value.bool
theorem bcells_len (us : List Bool) : (bcells us).length = us.length := by simp [bcells]
theorem brow_at {w : World} {base n g c : Nat} {us : List Bool} (h : w.ownsRow base 4 1 (.slice (some ⟨g, 0, none⟩) n c) n (bcells us)) {i : Nat} (hi : i < n) : w.cell? ⟨g, i, none⟩ = some (.bool us[i]!) := by
  have hl : us.length = n := by have := h.1; rw [bcells_len] at this; omega
  rw [h.cellAt i (by omega), bcells, List.getElem?_map, List.getElem?_eq_getElem (by omega), getElem!_pos us i (by omega)]
  rfl
theorem info4 : (Try.prog.info? 4).map (fun i => (i.zero, i.size, i.bytes)) = some (some (.bool false), 1, 1) := by kernel_rfl
theorem part_next {us : List Bool} {n k : Nat} (hn : us.length = n) (hk : k < n) : (bcells (us.take k ++ List.replicate (n - k) false)).set k (.bool us[k]!) = bcells (us.take (k + 1) ++ List.replicate (n - (k + 1)) false) := by
  unfold bcells
  rw [← List.map_set]
  congr 1
  have e1 : n - k = (n - (k + 1)) + 1 := by omega
  rw [e1, List.replicate_succ, List.set_append_right _ _ (by rw [List.length_take]; omega), List.length_take, show k - min k us.length = 0 by omega, List.set_cons_zero]
  have e2 : us.take (k + 1) = us.take k ++ [us[k]!] := by rw [List.take_add_one, List.getElem?_eq_getElem (by omega), getElem!_pos us k (by omega)]; rfl
  rw [e2, List.append_assoc]
  rfl

def UpRel (w : World) (us : List Bool) (n gg : Nat) (s17 : Value) (wr : World) : Prop :=
  ∃ k : Nat, k + gg = n ∧ s17 = .int .i64 k ∧ Below w.heap.size w wr ∧ wr.ownsRow w.heap.size 4 1 (.slice (some ⟨w.heap.size, 0, none⟩) n n) n (bcells (us.take k ++ List.replicate (n - k) false))

set_option maxHeartbeats 4000000 in
theorem bup_any {w : World} {F : Nat → Prop} {B : Nat} {r : Ru} {b : Bo} (h : Bd w F B r b) (hn : b.ps.length ≤ 1000) :
    Calls Try.prog 24 #[.pointer (some ⟨B, 0, none⟩)] w fun e w' => ∃ v, e = .returned v ∧ w'.ownsRow w.heap.size 4 1 v b.ps.length (bcells (ups b.ps)) ∧ Below w.heap.size w w' := by
  obtain ⟨qs, v, W, G, h⟩ := h
  obtain ⟨a, c, rfl, hnc, -⟩ := row_any h.row
  have d3 := h.c3
  have hBl := h.lt B h.inB
  obtain ⟨n, hq⟩ : ∃ n, qs.length = n := ⟨_, rfl⟩
  have hpl : b.ps.length = n := by rw [← h.len]; exact hq
  obtain ⟨i0, hi, hz0, hz1, hz2⟩ := info_parts info4
  have hn1 : n ≤ 1000 := by omega
  obtain ⟨wm, hmk, hrow0, hgr⟩ := run_make_full (P := Try.prog) w w.heap.size 24 4 i0 _ 1 Try.underlying24 hi hz0 hz1 .i64 .i64 n (by rw [hz2]; omega) (by simp only [maxLen]; omega) (Nat.le_refl _)
  have hbm : Below w.heap.size w wm := ⟨hgr.os, hgr.tape, hgr.output, hgr.size, fun i hi => hgr.block i hi (by simp)⟩
  have hcm := hbm.cell (p := ⟨B, 3, none⟩) hBl
  have d3m := hcm.trans d3
  have H := Lib.hid h
  have hul : (ups b.ps).length = n := by simp [ups, hpl]
  have HU := Lib.hid hul
  have HQ := Lib.hid hq
  have HPL := Lib.hid hpl
  have hst : wm.ownsRow w.heap.size 4 1 (.slice (some ⟨w.heap.size, 0, none⟩) n n) n (bcells ((ups b.ps).take 0 ++ List.replicate (n - 0) false)) := by
    have e : (madeCells (Value.bool false).cells (n * 1)).toList = bcells ((ups b.ps).take 0 ++ List.replicate (n - 0) false) := by
      rw [Nat.mul_one, show (Value.bool false).cells = #[Value.bool false] from rfl, toList_madeCells_one]
      simp [bcells]
    rw [← e]
    exact hrow0
  have HST := Lib.hid hst
  have HBM := Lib.hid hbm
  rw [hq] at d3 d3m hnc
  rw [hpl]
  clear h hrow0 hgr hbm hcm hst hq hpl hul hi hz0 hz1 hz2 hn
  go_enter Try.func24, Try.ntmps24
  go_wp2
  go_loopg [17] n (fun gg s17 wr => Hid (UpRel w (ups b.ps) n gg s17 wr))
  case atStart => exact Lib.hid ⟨0, by omega, rfl, HBM.out, HST.out⟩
  case round =>
    obtain ⟨k, hk, rfl, hb, hrow⟩ := hrel.out
    clear hrel
    by_cases hkn : k < n
    · have hkz : (k : Int) < (n : Int) := by omega
      have hbd := H.out.only (F' := fun _ => False) (Only.of_below hb) (fun _ _ h => h)
      have hprow := hbd.row
      rw [HQ.out] at hprow
      obtain ⟨g, c', e, _⟩ := row_slice hprow (by omega)
      simp only [Value.slice.injEq, true_and] at e
      obtain ⟨rfl, rfl⟩ := e
      have p0 := prow_at hprow hkn
      have HP := Lib.hid (up_any (hbd.pb k (by rw [HQ.out]; exact hkn)))
      generalize qs[k]! = q at p0 HP
      have hupk : (b.ps[k]!).up = (ups b.ps)[k]! := by
        rw [getElem!_pos b.ps k (by rw [HPL.out]; exact hkn), getElem!_pos (ups b.ps) k (by rw [HU.out]; exact hkn)]
        simp [ups]
      rw [hupk] at HP
      have hpn := part_next (us := ups b.ps) HU.out hkn
      have hst := hrow.stored k (.bool (ups b.ps)[k]!)
      rw [hpn] at hst
      have hlt := (hrow.lt w.heap.size rfl).2
      have cc : ∃ u, wr.cell? ⟨w.heap.size, k, none⟩ = some u := ⟨_, brow_at hrow hkn⟩
      obtain ⟨u, cc⟩ := cc
      have ff := hrow.frozenAt k
      have HSTO := Lib.hid hst
      have HB := Lib.hid hb
      obtain ⟨uk, huk⟩ : ∃ uk, (ups b.ps)[k]! = uk := ⟨_, rfl⟩
      rw [huk] at HP HSTO
      clear hb hrow hbd hprow hupk hpn hst huk
      go_wp2_with (go_at_call 14; refine HP.out.mono ?_; rintro e w1 ⟨rfl, rfl⟩)
      go_roundg (n - (k + 1))
      case measure => omega
      case rel =>
        refine Lib.hid ⟨k + 1, by omega, by go_num, ?_, HSTO.out.1⟩
        exact HB.out.setCell (p := ⟨w.heap.size, k, none⟩) (Nat.le_refl _) _
    · obtain rfl : k = n := by omega
      have HB := Lib.hid hb
      have HR := Lib.hid hrow
      clear hb hrow
      go_wp2
      go_ret
      refine ⟨_, rfl, ?_, HB.out⟩
      have := HR.out
      rwa [List.take_of_length_le (by rw [HU.out]; exact Nat.le_refl _), Nat.sub_self, List.replicate_zero, List.append_nil] at this

end Go.Proofs.Ytkcndgiiangmjaa
