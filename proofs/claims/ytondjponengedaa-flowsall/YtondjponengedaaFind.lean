/-
  Table.find.
-/
import Derived.Test.YtondjponengedaaSet
import Derived.Test.YtondjponengedaaSmall
import Derived.WalkMore
namespace Go.Proofs.Ytondjponengedaa
open Go.RowKit
set_option linter.unusedVariables false
set_option linter.unusedSimpArgs false
set_option maxRecDepth 10000

def sameF (a b : Fl) : Bool := decide (a = b)
theorem flow_eq (p o d p' o' d' : Int) (f t f' t' : ByteArray) (w : World) :
    (Op.equalIn 10000 37 (.agg #[.int .i64 p, .string f, .string t, .int .i64 o, .int .i64 d]) (.agg #[.int .i64 p', .string f', .string t', .int .i64 o', .int .i64 d'])).run Try.prog w = .ok (sameF ⟨p, f, t, o, d⟩ ⟨p', f', t', o', d'⟩) w := by
  unfold sameF
  have e : decide ((⟨p, f, t, o, d⟩ : Fl) = ⟨p', f', t', o', d'⟩) = ((p == p') && ((f.toList == f'.toList) && ((t.toList == t'.toList) && ((o == o') && (d == d'))))) := by
    have hb : ∀ x y : ByteArray, (x.toList == y.toList) = decide (x = y) := fun x y => by
      by_cases h : x = y
      · subst h; simp
      · rw [decide_eq_false h]
        rcases h2 : (x.toList == y.toList) with _ | _
        · rfl
        · exact absurd (toList_inj (by simpa using h2)) h
    rw [hb, hb]
    simp only [Fl.mk.injEq, Bool.decide_and]
    rfl
  rw [e, show (10000 : Nat) = 9999 + 1 from rfl, run_equalIn_agg w 9999 37 _ _ (by kernel_rfl) (by kernel_rfl)]
  simp [Program.fieldsOf, Try.underlying37, Op.eqFields, part, isAgg, run_underlying Try.underlying35, run_underlying Try.underlying3, run_equalIn_int w 9998 3 .i64 .i64 _ _ Try.underlying3, run_equalIn_string w 9998 35 _ _ Try.underlying35]
  repeat' (split <;> simp_all)

attribute [local go_sem ↓] flow_eq

theorem Tm.plc {w : World} {B : Nat} {k : List Int} {pl : List Pc} {cs : List Int} (h : Tm w B k pl cs) {i : Nat} (hi : i < 128) : w.cell? ⟨B, 16 + i * 9, none⟩ = some (.int .i64 (pl[i]!).is_) ∧ EnAt w B (16 + i * 9 + 1) (pl[i]!).en := by
  have d : ∀ j, j < 9 → w.cell? ⟨B, 16 + i * 9 + j, none⟩ = (pcs pl[i]!)[j]? := fun j hj => by rw [Nat.add_assoc]; exact h.place hi hj
  exact ⟨d 0 (by omega), d 1 (by omega), d 2 (by omega), d 3 (by omega), d 4 (by omega), d 5 (by omega), d 6 (by omega), d 7 (by omega), d 8 (by omega)⟩

def fri : Option Nat → Int
  | none => -1
  | some a => (a : Nat)

def FRel (w : World) (pl : List Pc) (f : Fl) (R : Nat × Bool) (gg : Nat) (s6 s7 s17 : Value) (wr : World) : Prop :=
  ∃ (j a : Nat) (fr : Option Nat) (q : Nat), j + gg = 128 ∧ s17 = .int .i64 j ∧ s6 = .int .i64 a ∧ a < 128 ∧ s7 = .int .i64 (fri fr) ∧ wr = w.drewN q ∧ fnd pl f gg a fr = R

set_option maxHeartbeats 1000000 in
theorem find_any {w : World} {B : Nat} {k : List Int} {pl : List Pc} {cs : List Int} (h : Tm w B k pl cs) (hk : Key k) (hkd : ∀ i, i < 128 → (pl[i]!).is_ ≤ 2) (f : Fl) (hf : OkF f) :
    Calls Try.prog 36 #[.pointer (some ⟨B, 0, none⟩), fv f] w fun e w' => ∃ a b, fnd pl f 128 (hx k f) none = (a, b) ∧ e = .returned (.tuple #[.int .i64 (a : Nat), .bool b]) ∧ Below w.heap.size w w' := by
  have HH := Lib.hid (fun w => hash_any k f w hk hf)
  have HW := Lib.hid (h.alloc (.cells (fcs f).toArray 37))
  have hlt := h.lt
  obtain ⟨r, hr⟩ : ∃ r, hsh k (bts (ftext f)) = r := ⟨_, rfl⟩
  have hxr : hx k f = (r % 128).toNat := by unfold hx; rw [hr]
  rw [hr] at HH
  have hru : 0 ≤ r ∧ r < 18446744073709551616 := by
    have := hsh_u k (bts (ftext f))
    rw [hr] at this
    unfold U at this; omega
  clear hr
  have hh128 := hx_lt k f
  obtain ⟨R, hR⟩ : ∃ R, fnd pl f 128 (hx k f) none = R := ⟨_, rfl⟩
  rw [hR]
  generalize hx k f = a0 at hxr hh128 hR ⊢
  have hra : r % 128 = (a0 : Nat) := by omega
  clear hxr
  have HRR := Lib.hid hR
  clear hR
  obtain ⟨k0, k1, k2, k3, k4, k5, k6, k7, k8, k9, k10, k11, k12, k13, k14, k15, rfl⟩ := hk.letters
  have e0 := HW.out.key 0 (by omega)
  have e1 := HW.out.key 1 (by omega)
  have e2 := HW.out.key 2 (by omega)
  have e3 := HW.out.key 3 (by omega)
  have e4 := HW.out.key 4 (by omega)
  have e5 := HW.out.key 5 (by omega)
  have e6 := HW.out.key 6 (by omega)
  have e7 := HW.out.key 7 (by omega)
  have e8 := HW.out.key 8 (by omega)
  have e9 := HW.out.key 9 (by omega)
  have e10 := HW.out.key 10 (by omega)
  have e11 := HW.out.key 11 (by omega)
  have e12 := HW.out.key 12 (by omega)
  have e13 := HW.out.key 13 (by omega)
  have e14 := HW.out.key 14 (by omega)
  have e15 := HW.out.key 15 (by omega)
  simp only [cel, List.map_cons, List.map_nil, List.getElem?_cons_zero, List.getElem?_cons_succ] at e0 e1 e2 e3 e4 e5 e6 e7 e8 e9 e10 e11 e12 e13 e14 e15
  obtain ⟨p, ff, t, o, d⟩ := f
  simp only [fv, fcs, kv_lit] at HH HW e0 e1 e2 e3 e4 e5 e6 e7 e8 e9 e10 e11 e12 e13 e14 e15 ⊢
  clear h
  go_enter Try.func36, Try.ntmps36
  go_wp2
  go_step3
  go_wp2
  refine wp_region_tail 5 (by kernel_rfl) (by kernel_rfl) ?_
  simp only [List.take_succ_cons, List.take_zero, List.drop_succ_cons, List.drop_zero]
  repeat still_step
  refine wpStill_nil ?_
  go_wp2_with fail
  refine (HH.out _).mono ?_
  rintro e w1 ⟨rfl, hb1⟩
  go_wp2
  go_step3
  go_wp2
  have HB1 := Lib.hid hb1
  have HA : Ar w1 w.heap.size [.int .i64 p, .string ff, .string t, .int .i64 o, .int .i64 d] := ((Ar.new w _ 37).drew).below hb1
  obtain ⟨c0, c1, c2, c3, c4⟩ : w1.cell? ⟨w.heap.size, 0, none⟩ = some (.int .i64 p) ∧ w1.cell? ⟨w.heap.size, 1, none⟩ = some (.string ff) ∧ w1.cell? ⟨w.heap.size, 2, none⟩ = some (.string t) ∧ w1.cell? ⟨w.heap.size, 3, none⟩ = some (.int .i64 o) ∧ w1.cell? ⟨w.heap.size, 4, none⟩ = some (.int .i64 d) :=
    ⟨HA.cell 0 rfl, HA.cell 1 rfl, HA.cell 2 rfl, HA.cell 3 rfl, HA.cell 4 rfl⟩
  clear HA
  have HBB := Lib.hid (below_then (B := w.heap.size) (below_drew (below_alloc (Below.refl _ _) (.cells #[.int .i64 p, .string ff, .string t, .int .i64 o, .int .i64 d] 37))) (by simp) hb1)
  have T1 := Lib.hid (HW.out.below (w' := w1) (Below.trans (c := w1) (below_drew (Below.refl _ _)) hb1))
  clear HB1
  go_loopg [6, 7, 8, 17] 128 (fun gg s6 s7 s8 s17 wr => Hid (FRel w1 pl ⟨p, ff, t, o, d⟩ R gg s6 s7 s17 wr))
  case atStart => exact Lib.hid ⟨0, a0, none, 0, rfl, rfl, rfl, hh128, rfl, rfl, HRR.out⟩
  case round =>
    obtain ⟨j, a, fr, q, hj, rfl, rfl, ha, rfl, rfl, hfn⟩ := hrel.out
    clear hrel
    by_cases hlt : j < 128
    · have hltz : (j : Int) < 128 := by omega
      have haz : (a : Int) < 128 := by omega
      have hnx : ((a : Int) + 1) % 128 = (((a + 1) % 128 : Nat) : Int) := by omega
      obtain ⟨n, rfl⟩ : ∃ n, gk = n + 1 := ⟨gk - 1, by omega⟩
      rw [fnd] at hfn
      obtain ⟨d0, d1, d2, d3, d4, d5, -, -, -⟩ := T1.out.plc ha
      simp only [Nat.add_assoc, Nat.reduceAdd] at d1 d2 d3 d4 d5
      simp only [← Nat.add_assoc] at d1 d2 d3 d4 d5
      have ho := hkd a ha
      generalize (pl[a]!).is_ = o at d0 hfn ho
      generalize (pl[a]!).en.fl = g at d1 d2 d3 d4 d5 hfn
      obtain ⟨p', f', t', o', d'⟩ := g
      simp only at d1 d2 d3 d4 d5
      have ha1 : (a + 1) % 128 < 128 := by omega
      rcases (show o = 2 ∨ o = 1 ∨ o = 0 by omega) with rfl | rfl | rfl
      · rw [if_pos rfl] at hfn
        by_cases he : (⟨p', f', t', o', d'⟩ : Fl) = ⟨p, ff, t, o, d⟩
        · rw [if_pos he] at hfn
          have hdec : sameF ⟨p', f', t', o', d'⟩ ⟨p, ff, t, o, d⟩ = true := decide_eq_true he
          subst hfn
          clear he hj ho
          go_wp2
          go_quiet (fail)
          go_wp2
          try rw [Exit.noGoto_ret]
          go_ret2
          exact ⟨a, true, rfl, rfl, below_drewN (below_drewN HBB.out _) _⟩
        · rw [if_neg he] at hfn
          have hdec : sameF ⟨p', f', t', o', d'⟩ ⟨p, ff, t, o, d⟩ = false := decide_eq_false he
          clear he ho
          go_wp2
          go_quiet (fail)
          go_wp2
          go_roundg n
          case measure => omega
          case rel => exact Lib.hid ⟨j + 1, (a + 1) % 128, fr, q + nq, by omega, by simp, by rw [hnx], ha1, rfl, rfl, hfn⟩
      · rw [if_neg (by omega), if_pos rfl] at hfn
        rcases fr with _ | x
        · clear ho
          have hz : fri none = -1 := rfl
          go_wp2
          go_roundg n
          case measure => omega
          case rel => exact Lib.hid ⟨j + 1, (a + 1) % 128, some a, q, by omega, by simp, by rw [hnx], ha1, rfl, rfl, hfn⟩
        · clear ho
          have hz : fri (some x) = (x : Nat) := rfl
          obtain ⟨z1, z2, z3⟩ := eqz ((x : Nat) : Int) (-1) (by omega)
          go_wp2
          go_roundg n
          case measure => omega
          case rel => exact Lib.hid ⟨j + 1, (a + 1) % 128, some x, q, by omega, by simp, by rw [hnx], ha1, rfl, rfl, hfn⟩
      · rw [if_neg (by omega), if_neg (by omega)] at hfn
        subst hfn
        rcases fr with _ | x
        · clear ho hj
          have hz : fri none = -1 := rfl
          go_wp2
          try rw [Exit.noGoto_ret]
          go_ret2
          exact ⟨a, false, rfl, rfl, below_drewN HBB.out _⟩
        · clear ho hj
          have hz : fri (some x) = (x : Nat) := rfl
          obtain ⟨z1, z2, z3⟩ := eqz ((x : Nat) : Int) (-1) (by omega)
          go_wp2
          try rw [Exit.noGoto_ret]
          go_ret2
          exact ⟨x, false, rfl, rfl, below_drewN HBB.out _⟩
    · obtain rfl : j = 128 := by omega
      obtain rfl : gk = 0 := by omega
      rw [fnd] at hfn
      subst hfn
      rcases fr with _ | x
      · clear hj
        have hz : fri none = -1 := rfl
        go_wp2
        try rw [Exit.noGoto_ret]
        go_ret2
        exact ⟨a, false, rfl, rfl, below_drewN HBB.out _⟩
      · clear hj
        have hz : fri (some x) = (x : Nat) := rfl
        obtain ⟨z1, z2, z3⟩ := eqz ((x : Nat) : Int) (-1) (by omega)
        go_wp2
        try rw [Exit.noGoto_ret]
        go_ret2
        exact ⟨x, false, rfl, rfl, below_drewN HBB.out _⟩

end Go.Proofs.Ytondjponengedaa
