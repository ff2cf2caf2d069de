/-
  What sip.rounds, sip.take and sip.end do.
-/
import Derived.Test.YtondjponengedaaArr
namespace Go.Proofs.Ytondjponengedaa
open Go.RowKit

theorem rnds_zero (v : V4) : rnds 0 v = v := rfl
theorem rnds_succ (v : V4) (k : Nat) : rnds (k + 1) v = rnd (rnds k v) := rfl

/-- What holds ahead of each round. -/
def RRel (w : World) (v : V4) (k gg : Nat) (i : Value) (wr : World) : Prop :=
  ∃ j : Nat, j + gg = k ∧ i = .int .i64 j ∧ Below w.heap.size w wr ∧ w.heap.size + 1 < wr.heap.size ∧ Ar wr w.heap.size (rnds j v).cells ∧ ∃ u : V4, Ar wr (w.heap.size + 1) u.cells

set_option maxHeartbeats 1000000 in
/-- sip.rounds. -/
theorem rounds_any (v : V4) (k : Nat) (w : World) (hv : v.Ok) (hk : k ≤ 1000) : Calls Try.prog 92 #[v.val, .int .i64 k] w fun e w' => e = .returned (rnds k v).val ∧ Below w.heap.size w w' := by
  have HV := Lib.hid (fun j => rnds_ok hv j)
  have hst : Hid (RRel w v k k (.int .i64 0) ((w.alloc (.cells #[.int .u64 v.a, .int .u64 v.b, .int .u64 v.c, .int .u64 v.d] 126)).alloc (.cells #[.int .u64 0, .int .u64 0, .int .u64 0, .int .u64 0] 126))) :=
    Lib.hid ⟨0, by omega, rfl, ((Below.refl _ _).alloc (Nat.le_refl _) _).alloc (by simp) _, by simp, (Ar.new w v.cells 126).alloc _, ⟨0, 0, 0, 0⟩, by
      have := Ar.new (w.alloc (.cells #[.int .u64 v.a, .int .u64 v.b, .int .u64 v.c, .int .u64 v.d] 126)) (V4.cells ⟨0, 0, 0, 0⟩) 126
      rwa [World.size_alloc] at this⟩
  clear hv
  simp only [V4.val]
  go_enter Try.func92, Try.ntmps92
  go_wp2
  go_loopg [6] k (fun gg i wr => RRel w v k gg i wr)
  case atStart => exact hst.out
  case round =>
    clear hst
    obtain ⟨j, hj, rfl, hb, hz, hc, u, hu⟩ := hrel
    obtain ⟨⟨a, b, c, d⟩, hV⟩ : ∃ V, rnds j v = V := ⟨_, rfl⟩
    have hok := HV.out j
    rw [hV] at hc hok
    have HB := Lib.hid hb
    have HC := Lib.hid hc
    have HU := Lib.hid hu
    have HVV := Lib.hid hV
    have c0 := hc.cell 0 rfl
    have c1 := hc.cell 1 rfl
    have c2 := hc.cell 2 rfl
    have c3 := hc.cell 3 rfl
    simp only at c0 c1 c2 c3
    clear hb hc hu hV
    rcases gk with _ | og
    · have hkl : ¬ (j : Int) < (k : Int) := by omega
      have u0 := HU.out.cell 0 rfl
      have u1 := HU.out.cell 1 rfl
      have u2 := HU.out.cell 2 rfl
      have u3 := HU.out.cell 3 rfl
      have f0 := HU.out.free 0 (by simp [V4.cells])
      have f1 := HU.out.free 1 (by simp [V4.cells])
      have f2 := HU.out.free 2 (by simp [V4.cells])
      have f3 := HU.out.free 3 (by simp [V4.cells])
      go_wp2
      try rw [Exit.noGoto_ret]
      obtain rfl : j = k := by omega
      have e : (⟨a, b, c, d⟩ : V4) = rnds j v := HVV.out.symm
      rw [← e]
      exact bodyPost_ret (v := .agg #[.int .u64 a, .int .u64 b, .int .u64 c, .int .u64 d]) (by simp [results, Try.results92, go_sem, u0, u1, u2, u3]) rfl ⟨rfl, below_put HB.out (by omega) ⟨a, b, c, d⟩⟩
    · have hkl : (j : Int) < (k : Int) := by omega
      have HR := round_any ⟨a, b, c, d⟩ wr hok
      obtain ⟨⟨a', b', c', d'⟩, hV'⟩ : ∃ V, rnd ⟨a, b, c, d⟩ = V := ⟨_, rfl⟩
      rw [hV'] at HR
      simp only [V4.val] at HR
      have HVV' := Lib.hid hV'
      clear hV' hok
      have HR := Lib.hid HR
      go_wp2_with fail
      refine HR.out.mono ?_
      rintro e w1 ⟨rfl, hb1⟩
      have HC1 := Lib.hid (HC.out.below hb1)
      have HB1 := Lib.hid hb1
      have hz1 : w.heap.size < w1.heap.size := by have := hb1.size; omega
      have d0 := HC1.out.cell 0 rfl
      have d1 := HC1.out.cell 1 rfl
      have d2 := HC1.out.cell 2 rfl
      have d3 := HC1.out.cell 3 rfl
      have f0 := HC1.out.free 0 (by simp [V4.cells])
      have f1 := HC1.out.free 1 (by simp [V4.cells])
      have f2 := HC1.out.free 2 (by simp [V4.cells])
      have f3 := HC1.out.free 3 (by simp [V4.cells])
      simp only at d0 d1 d2 d3
      clear c0 c1 c2 c3 hb1
      go_wp2
      go_roundg og
      case measure => omega
      case rel =>
        obtain ⟨u, hu⟩ := (⟨u, HU.out⟩ : ∃ u : V4, Ar wr (w.heap.size + 1) u.cells)
        refine ⟨j + 1, by omega, by simp, below_put (HB.out.trans (HB1.out.mono (by omega))) (Nat.le_refl _) ⟨a', b', c', d'⟩, ?_, ?_, u, (hu.below HB1.out).put_other (by omega) ⟨a', b', c', d'⟩⟩
        · simp only [World.size_setCell]
          have := HB1.out.size
          omega
        · rw [rnds_succ, HVV.out, HVV'.out]
          exact HC1.out.put ⟨a', b', c', d'⟩

set_option maxHeartbeats 1000000 in
/-- sip.take. -/
theorem take_any (v : V4) (m : Int) (w : World) (hv : v.Ok) : Calls Try.prog 81 #[v.val, .int .u64 m] w fun e w' => e = .returned (tak v m).val ∧ Below w.heap.size w w' := by
  obtain ⟨a, b, c, d⟩ := v
  obtain ⟨d1, hd1⟩ : ∃ x, bits BinOp.xor IntKind.u64 d m = x := ⟨_, rfl⟩
  have hv1 : V4.Ok ⟨a, b, c, d1⟩ := ⟨hv.1, hv.2.1, hv.2.2.1, by rw [← hd1]; exact xr_u _ _⟩
  obtain ⟨⟨p, q, r, s⟩, hV⟩ : ∃ V, rnds 2 ⟨a, b, c, d1⟩ = V := ⟨_, rfl⟩
  obtain ⟨t, ht⟩ : ∃ x, bits BinOp.xor IntKind.u64 p m = x := ⟨_, rfl⟩
  have H : (tak ⟨a, b, c, d⟩ m).val = .agg #[.int .u64 t, .int .u64 q, .int .u64 r, .int .u64 s] := by
    simp only [tak, xr, hd1, hV, ht, V4.val]
  rw [H]
  have HR := Lib.hid (fun w => rounds_any ⟨a, b, c, d1⟩ 2 w hv1 (by omega))
  rw [hV] at HR
  simp only [V4.val] at HR
  clear H hV hv1 hv
  simp only [V4.val]
  go_enter Try.func81, Try.ntmps81
  go_wp2_with fail
  refine (HR.out _).mono ?_
  rintro e w1 ⟨rfl, hb1⟩
  have HC1 : Hid (Ar w1 w.heap.size (V4.cells ⟨a, b, c, d1⟩)) := Lib.hid (((Ar.new w _ 126).alloc _).below hb1)
  have HU1 : Hid (Ar w1 (w.heap.size + 1) (V4.cells ⟨0, 0, 0, 0⟩)) := Lib.hid (by
    have := (Ar.new (w.alloc (.cells #[.int .u64 a, .int .u64 b, .int .u64 c, .int .u64 d1] 126)) (V4.cells ⟨0, 0, 0, 0⟩) 126).below hb1
    rwa [World.size_alloc] at this)
  have HB1 : Hid (Below w.heap.size w w1) := Lib.hid (below_then (((Below.refl _ _).alloc (Nat.le_refl _) _).alloc (by simp) _) (by simp; omega) hb1)
  have d0 := HC1.out.cell 0 rfl
  have d1' := HC1.out.cell 1 rfl
  have d2 := HC1.out.cell 2 rfl
  have d3 := HC1.out.cell 3 rfl
  have f0 := HC1.out.free 0 (by simp [V4.cells])
  have f1 := HC1.out.free 1 (by simp [V4.cells])
  have f2 := HC1.out.free 2 (by simp [V4.cells])
  have f3 := HC1.out.free 3 (by simp [V4.cells])
  simp only at d0 d1' d2 d3
  have u0 := HU1.out.cell 0 rfl
  have u1 := HU1.out.cell 1 rfl
  have u2 := HU1.out.cell 2 rfl
  have u3 := HU1.out.cell 3 rfl
  have g0 := HU1.out.free 0 (by simp [V4.cells])
  have g1 := HU1.out.free 1 (by simp [V4.cells])
  have g2 := HU1.out.free 2 (by simp [V4.cells])
  have g3 := HU1.out.free 3 (by simp [V4.cells])
  simp only at u0 u1 u2 u3
  clear hb1
  go_wp2
  exact bodyPost_ret (v := .agg #[.int .u64 t, .int .u64 q, .int .u64 r, .int .u64 s]) (by simp [results, Try.results81, go_sem, u0, u1, u2, u3]) rfl ⟨rfl, below_put ((below_put HB1.out (Nat.le_refl _) ⟨p, q, r, s⟩).setCell (Nat.le_refl _) _) (Nat.le_succ _) ⟨t, q, r, s⟩⟩

set_option maxHeartbeats 1000000 in
/-- sip.end. -/
theorem end_any (v : V4) (w : World) (hv : v.Ok) : Calls Try.prog 83 #[v.val] w fun e w' => e = .returned (.int .u64 (fin v)) ∧ Below w.heap.size w w' := by
  obtain ⟨a, b, c, d⟩ := v
  obtain ⟨c1, hc1⟩ : ∃ x, bits BinOp.xor IntKind.u64 c 255 = x := ⟨_, rfl⟩
  have hv1 : V4.Ok ⟨a, b, c1, d⟩ := ⟨hv.1, hv.2.1, by rw [← hc1]; exact xr_u _ _, hv.2.2.2⟩
  obtain ⟨⟨p, q, r, s⟩, hV⟩ : ∃ V, rnds 4 ⟨a, b, c1, d⟩ = V := ⟨_, rfl⟩
  have H : fin ⟨a, b, c, d⟩ = bits BinOp.xor IntKind.u64 (bits BinOp.xor IntKind.u64 (bits BinOp.xor IntKind.u64 p q) r) s := by
    simp only [fin, xr, hc1, hV]
  rw [H]
  have HR := Lib.hid (fun w => rounds_any ⟨a, b, c1, d⟩ 4 w hv1 (by omega))
  rw [hV] at HR
  simp only [V4.val] at HR
  clear H hV hv1 hv
  simp only [V4.val]
  go_enter Try.func83, Try.ntmps83
  go_wp2_with fail
  refine (HR.out _).mono ?_
  rintro e w1 ⟨rfl, hb1⟩
  have HC1 : Hid (Ar w1 w.heap.size (V4.cells ⟨a, b, c1, d⟩)) := Lib.hid ((Ar.new w _ 126).below hb1)
  have HB1 : Hid (Below w.heap.size w w1) := Lib.hid (below_then ((Below.refl _ _).alloc (Nat.le_refl _) _) (by simp) hb1)
  have d0 := HC1.out.cell 0 rfl
  have d1' := HC1.out.cell 1 rfl
  have d2 := HC1.out.cell 2 rfl
  have d3 := HC1.out.cell 3 rfl
  have f0 := HC1.out.free 0 (by simp [V4.cells])
  have f1 := HC1.out.free 1 (by simp [V4.cells])
  have f2 := HC1.out.free 2 (by simp [V4.cells])
  have f3 := HC1.out.free 3 (by simp [V4.cells])
  simp only at d0 d1' d2 d3
  clear hb1
  go_wp2
  go_ret
  exact ⟨rfl, below_put HB1.out (Nat.le_refl _) ⟨p, q, r, s⟩⟩

end Go.Proofs.Ytondjponengedaa
