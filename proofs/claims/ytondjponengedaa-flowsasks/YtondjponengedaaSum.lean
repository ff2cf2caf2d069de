/-
  What sip.Sum does: the hash of any bytes by any key.
-/
import Derived.Test.YtondjponengedaaKey
namespace Go.Proofs.Ytondjponengedaa
set_option maxRecDepth 10000
open Go.RowKit

/-- What holds ahead of each eight bytes. -/
def SRel (w : World) (B n : Nat) (g : V4) (gg : Nat) (s : Value) (wr : World) : Prop :=
  ∃ (A : Option Addr) (m c : Nat) (l : List Int) (v : V4), m ≤ gg ∧ s = .slice A m c ∧ Part w ⟨A, m, c, l⟩ ∧ v.Ok ∧ Ar wr B v.cells ∧ ins n v l = g ∧ Below w.heap.size w wr ∧ w.heap.size ≤ B ∧ m ≤ n

theorem part_tail {w : World} {A : Option Addr} {m c : Nat} {l : List Int} (h : Part w ⟨A, m, c, l⟩) (h8 : 8 ≤ m) {A' : Option Addr} (hA : (if c = 8 then A else A.map (·.add 8)) = A') : Part w ⟨A', m - 8, c - 8, l.drop 8⟩ := by
  have := h.sub 8 (m - 8) (by omega)
  rw [hA, List.take_of_length_le (by have : l.length = m := h.1; simp; omega)] at this
  exact this

set_option maxHeartbeats 2000000 in
/-- sip.Sum. -/
theorem sum_any (k : List Int) (A : Option Addr) (n c : Nat) (bs : List Int) (w : World) (hk : Key k) (hp : Part w ⟨A, n, c, bs⟩) (hn : n ≤ 281474976710656) :
    Calls Try.prog 61 #[kv k, .slice A n c] w fun e w' => e = .returned (.int .u64 (hsh k bs)) ∧ Below w.heap.size w w' := by
  have HB0 := Lib.hid (fun w => begin_any k w hk)
  have HOK := beg_ok k
  have HL : Hid (bs.length = n) := Lib.hid hp.1
  have HH : Hid (hsh k bs = fin (ins n (beg k) bs)) := Lib.hid (by unfold hsh; rw [hp.1])
  have HP := Lib.hid hp
  have hnc : n ≤ c := hp.2.1
  clear hp
  obtain ⟨g, hg⟩ : ∃ g, ins n (beg k) bs = g := ⟨_, rfl⟩
  have HG := Lib.hid hg
  obtain ⟨⟨a0, b0, c0, d0⟩, hV⟩ : ∃ V, beg k = V := ⟨_, rfl⟩
  rw [hV] at HB0 HOK
  simp only [V4.val] at HB0
  have HV := Lib.hid hV
  have HOK := Lib.hid HOK
  obtain ⟨k0, k1, k2, k3, k4, k5, k6, k7, k8, k9, k10, k11, k12, k13, k14, k15, hl⟩ := hk.letters
  rw [hl, kv_lit] at HB0 ⊢
  have HKL := Lib.hid hl
  clear hk hV hg hl
  go_enter Try.func61, Try.ntmps61
  go_wp2_with fail
  refine (HB0.out _).mono ?_
  rintro e w1 ⟨rfl, hb1⟩
  have HB1 : Hid (Below w.heap.size w w1) := Lib.hid (below_then ((Below.refl _ _).alloc (Nat.le_refl _) _) (by simp) hb1)
  have hz1 : w.heap.size ≤ w1.heap.size := HB1.out.size
  have hst : Hid (SRel w w1.heap.size n g n (.slice A n c) (w1.alloc (.cells #[.int .u64 a0, .int .u64 b0, .int .u64 c0, .int .u64 d0] 126))) :=
    Lib.hid ⟨A, n, c, bs, ⟨a0, b0, c0, d0⟩, Nat.le_refl _, rfl, HP.out, HOK.out, Ar.new w1 (V4.cells ⟨a0, b0, c0, d0⟩) 126, by rw [← HV.out]; exact HG.out, HB1.out.alloc hz1 _, hz1, Nat.le_refl _⟩
  clear hb1 HB0
  go_wp2
  go_loopg [6] n (fun gg s wr => SRel w w1.heap.size n g gg s wr)
  case atStart => exact hst.out
  case round =>
    clear hst
    obtain ⟨A1, m, c1, l, ⟨p, q, r, s⟩, hm, rfl, hp1, hok, har, hins, hbw, hzB, hmn⟩ := hrel
    have HA := Lib.hid har
    have HI := Lib.hid hins
    have HBW := Lib.hid hbw
    have HP1 := Lib.hid hp1
    have HO1 := Lib.hid hok
    have hmc : m ≤ c1 := hp1.2.1
    have hlm : l.length = m := hp1.1
    have HLM := Lib.hid hlm
    have x0 := har.cell 0 rfl
    have x1 := har.cell 1 rfl
    have x2 := har.cell 2 rfl
    have x3 := har.cell 3 rfl
    simp only at x0 x1 x2 x3
    clear har hins hbw hp1 hok
    by_cases h8 : 8 ≤ m
    · have h8i : (8 : Int) ≤ (m : Int) := by omega
      obtain ⟨b, off, e, hcc⟩ := HP1.out.2.2.2 (show 0 < m by omega)
      have e' : A1 = some ⟨b, off, none⟩ := e
      clear hlm hcc e
      subst e'
      have HN := Lib.hid (fun w' (h : Below w.heap.size w w') => number_any (some ⟨b, off, none⟩) 8 c1 (l.take 8) w' ((HP1.out.below h).first 8 h8) (by omega))
      obtain ⟨M, hM⟩ : ∃ M, num (l.take 8) = M := ⟨_, rfl⟩
      rw [hM] at HN
      have HT := Lib.hid (fun w => take_any ⟨p, q, r, s⟩ M w HO1.out)
      have htok := tak_ok (v := ⟨p, q, r, s⟩) M
      have hnext : ins n (tak ⟨p, q, r, s⟩ M) (l.drop 8) = g := by
        have h := HI.out
        rw [ins_more (by have := HLM.out; omega), hM] at h
        exact h
      have HBR : Hid (Below w.heap.size w wr.drew) := Lib.hid (below_drew HBW.out)
      have HAR : Hid (Ar wr.drew w1.heap.size (V4.cells ⟨p, q, r, s⟩)) := Lib.hid HA.out.drew
      obtain ⟨⟨p1, q1, r1, s1⟩, hW⟩ : ∃ V, tak ⟨p, q, r, s⟩ M = V := ⟨_, rfl⟩
      rw [hW] at HT htok hnext
      have HOK1 := Lib.hid htok
      have HNX := Lib.hid hnext
      clear hM hnext htok hW
      simp only [V4.val] at HT
      have h8c : 8 ≤ c1 := by omega
      have h8ci : (8 : Int) ≤ (c1 : Int) := by omega
      have HP8 : Hid (c1 = 8 → Part w ⟨some ⟨b, off, none⟩, m - 8, 0, l.drop 8⟩) := Lib.hid (fun e => by
        have := part_tail HP1.out h8 rfl
        rw [e, if_pos rfl] at this
        exact this)
      have HPN : Hid (¬ c1 = 8 → Part w ⟨some ⟨b, off + 8, none⟩, m - 8, c1 - 8, l.drop 8⟩) := Lib.hid (fun e => by
        have := part_tail HP1.out h8 rfl
        rw [if_neg e] at this
        simpa only [Option.map_some, add_plain] using this)
      go_wp2
      refine wp_region_tail 4 (by kernel_rfl) (by kernel_rfl) ?_
      simp only [List.take_succ_cons, List.take_zero, List.drop_succ_cons, List.drop_zero]
      repeat (first | still_step | still_call (same_turn (HN.out _ HBR.out)))
      refine wpStill_nil ?_
      go_wp2_with fail
      refine (HT.out _).mono ?_
      rintro e w2 ⟨rfl, hb2⟩
      have HB2 : Hid (Below w.heap.size w w2) := Lib.hid (below_then HBR.out HBR.out.size hb2)
      have HA2 : Hid (Ar w2 w1.heap.size (V4.cells ⟨p, q, r, s⟩)) := Lib.hid (HAR.out.below hb2)
      clear hb2 x0 x1 x2 x3
      have y0 := HA2.out.cell 0 rfl
      have y1 := HA2.out.cell 1 rfl
      have y2 := HA2.out.cell 2 rfl
      have y3 := HA2.out.cell 3 rfl
      have f0 := HA2.out.free 0 (by simp [V4.cells])
      have f1 := HA2.out.free 1 (by simp [V4.cells])
      have f2 := HA2.out.free 2 (by simp [V4.cells])
      have f3 := HA2.out.free 3 (by simp [V4.cells])
      simp only at y0 y1 y2 y3
      go_wp2
      all_goals go_roundg (m - 8)
      all_goals first
        | omega
        | exact ⟨_, m - 8, _, l.drop 8, ⟨p1, q1, r1, s1⟩, Nat.le_refl _, rfl, HP8.out (by assumption), HOK1.out, HA2.out.put ⟨p1, q1, r1, s1⟩, HNX.out, below_put HB2.out hzB ⟨p1, q1, r1, s1⟩, hzB, by omega⟩
        | exact ⟨_, m - 8, _, l.drop 8, ⟨p1, q1, r1, s1⟩, Nat.le_refl _, rfl, HPN.out (by assumption), HOK1.out, HA2.out.put ⟨p1, q1, r1, s1⟩, HNX.out, below_put HB2.out hzB ⟨p1, q1, r1, s1⟩, hzB, by omega⟩
    · have h8i : ¬ (8 : Int) ≤ (m : Int) := by omega
      have HLS := Lib.hid (fun w' (h : Below w.heap.size w w') => last_any A1 m c1 l n w' (HP1.out.below h) (by omega))
      obtain ⟨M, hM⟩ : ∃ M, lst l n = M := ⟨_, rfl⟩
      rw [hM] at HLS
      have HT := Lib.hid (fun w => take_any ⟨p, q, r, s⟩ M w HO1.out)
      have HE := Lib.hid (fun w => end_any (tak ⟨p, q, r, s⟩ M) w (tak_ok M))
      have hgg : g = tak ⟨p, q, r, s⟩ M := by rw [← HI.out, ins_last (by omega), hM]
      rw [← hgg] at HT HE
      have HBR : Hid (Below w.heap.size w wr.drew) := Lib.hid (below_drew HBW.out)
      have HF : Hid (hsh [k0, k1, k2, k3, k4, k5, k6, k7, k8, k9, k10, k11, k12, k13, k14, k15] bs = fin g) := Lib.hid (by rw [← HKL.out, HH.out, HG.out])
      clear hlm hM hgg
      obtain ⟨g0, g1, g2, g3⟩ := g
      simp only [V4.val] at HT HE
      go_wp2
      refine wp_region_tail 5 (by kernel_rfl) (by kernel_rfl) ?_
      simp only [List.take_succ_cons, List.take_zero, List.drop_succ_cons, List.drop_zero]
      repeat (first | still_step | still_call (same_turn (HLS.out _ HBR.out)))
      refine wpStill_nil ?_
      go_wp2_with fail
      refine (HT.out _).mono ?_
      rintro e w2 ⟨rfl, hb2⟩
      go_wp2_with fail
      refine (HE.out _).mono ?_
      rintro e w3 ⟨rfl, hb3⟩
      go_wp2
      try rw [Exit.noGoto_ret]
      go_ret
      refine ⟨ret_int HF.out.symm, ?_⟩
      have hz2 := HBR.out.size
      have hz3 := hb2.size
      exact below_then (below_then HBR.out hz2 hb2) (by simp only [World.size_drew] at hz2 hz3 ⊢; omega) hb3

end Go.Proofs.Ytondjponengedaa
