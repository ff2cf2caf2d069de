/-
  maglev.placesOf: whose each place is.
-/
import Derived.Test.YtpkahjflhboddaaComers
import Derived.Test.YtpkahjflhboddaaWalks2
import Derived.WalkMore
namespace Go.Proofs.Ytpkahjflhboddaa
open Go.RowKit
set_option linter.unusedVariables false
set_option linter.unusedSimpArgs false
set_option maxRecDepth 10000

/-- All blocks are as they were, but for some. -/
structure Kp (L : List Nat) (w w' : World) : Prop where
  os : w'.os = w.os
  tape : w'.tape = w.tape
  output : w'.output = w.output
  size : w.heap.size ≤ w'.heap.size
  block : ∀ k, k < w.heap.size → k ∉ L → w'.heap[k]? = w.heap[k]?
theorem Kp.of2 {x y : Nat} {L : List Nat} {w w' : World} (h : Kept2 x y w w') (hx : x ∈ L) (hy : y ∈ L) : Kp L w w' :=
  ⟨h.os, h.tape, h.output, h.size, fun k hk hn => h.block k hk (fun e => hn (e ▸ hx)) (fun e => hn (e ▸ hy))⟩
theorem Kp.of_below {L : List Nat} {w w' : World} (h : Below w.heap.size w w') : Kp L w w' := ⟨h.os, h.tape, h.output, h.size, fun k hk _ => h.block k hk⟩
theorem Kp.set {L : List Nat} (w : World) {B : Nat} (hB : B ∈ L) (j : Nat) (v : Value) : Kp L w (w.setCell ⟨B, j, none⟩ v) :=
  ⟨rfl, rfl, rfl, by simp, fun k hk hn => Below.heap_setCell w ⟨B, j, none⟩ v k (fun e => hn (by rw [show k = B from e]; exact hB))⟩
theorem Kp.below {L : List Nat} {w w' : World} {B : Nat} (h : Kp L w w') (hL : ∀ x ∈ L, B ≤ x) (hB : B ≤ w.heap.size) : Below B w w' :=
  ⟨h.os, h.tape, h.output, h.size, fun k hk => h.block k (by omega) (fun hm => by have := hL k hm; omega)⟩
theorem Kp.cell {L : List Nat} {w w' : World} (h : Kp L w w') {b i : Nat} (hb : b < w.heap.size) (h1 : b ∉ L) : w'.cell? ⟨b, i, none⟩ = w.cell? ⟨b, i, none⟩ := World.cell?_of_block (h.block b hb h1)
theorem Kp.ar {L : List Nat} {w w' : World} (h : Kp L w w') {b : Nat} {xs : List Value} (ha : Ar w b xs) (h1 : b ∉ L) : Ar w' b xs :=
  ⟨Nat.lt_of_lt_of_le ha.1 h.size, fun j hj => by
    have hb := h.block b ha.1 h1
    rw [World.cell?_of_block (a := ⟨b, j, none⟩) hb, World.frozen?_of_block (a := ⟨b, j, none⟩) hb]; exact ha.2 j hj⟩

/-- The walks of all backends in memory. -/
def WkAt (W : World) (wg : Nat) (k : List Int) (l : List Bk) : Prop := wg < W.heap.size ∧ ∀ i, i < l.length →
  W.cell? ⟨wg, i * 2, none⟩ = some (.int .i64 (((hsh k (bts (l[i]!).name)).toNat % 251 : Nat) : Int)) ∧ W.cell? ⟨wg, i * 2 + 1, none⟩ = some (.int .i64 (((hsh (trn k) (bts (l[i]!).name)).toNat % 250 + 1 : Nat) : Int))

theorem wcells_at (k : List Int) : ∀ (l : List Bk) (i : Nat), i < l.length → (wcells k l)[i * 2]? = some (.int .i64 (((hsh k (bts (l[i]!).name)).toNat % 251 : Nat) : Int)) ∧ (wcells k l)[i * 2 + 1]? = some (.int .i64 (((hsh (trn k) (bts (l[i]!).name)).toNat % 250 + 1 : Nat) : Int))
  | b :: r, 0, _ => by simp [wcells, wkc]
  | b :: r, i + 1, h => by
    have ih := wcells_at k r i (by simpa using h)
    rw [Nat.succ_mul]
    simpa [wcells, wkc] using ih

/-- What stays while places are told. -/
def PW (w : World) (B rb wg : Nat) (v : Vr) (l : List Bk) (o : List Nat) (t : Nat) (k : List Int) (Z : Array Value) (W : World) : Prop :=
  Below B w W ∧ Seen W v l o t ∧ W.heap[rb]? = some (.cells Z 55 (0, 0)) ∧ WkAt W wg k l
/-- Where all lies. -/
structure PD (B pb rb wg : Nat) (v : Vr) : Prop where
  ap : v.Apart
  atb : B ≤ v.tb
  acb : B ≤ v.cb
  apb : B ≤ pb
  p1 : v.ob ≠ pb ∧ v.og ≠ pb ∧ v.lb ≠ pb ∧ v.b ≠ pb ∧ v.mb ≠ pb ∧ v.tb ≠ pb ∧ v.cb ≠ pb
  r1 : rb ≠ pb ∧ rb ≠ v.tb ∧ rb ≠ v.cb
  w1 : wg ≠ pb ∧ wg ≠ v.tb ∧ wg ≠ v.cb
theorem seen_kp {W W' : World} {v : Vr} {l : List Bk} {o : List Nat} {t : Nat} {L : List Nat} (h : Seen W v l o t) (hk : Kp L W W') (h1 : v.ob ∉ L) (h2 : v.og ∉ L) (h3 : v.lb ∉ L) (h4 : v.b ∉ L) (h5 : v.mb ∉ L) : Seen W' v l o t := by
  obtain ⟨⟨g1, g1'⟩, g2, ⟨g3, g3'⟩, ⟨g4, g4'⟩, g5, g5'⟩ := h
  refine ⟨⟨by rw [hk.cell g1' h1]; exact g1, Nat.lt_of_lt_of_le g1' hk.size⟩, ⟨Nat.lt_of_lt_of_le g2.1 hk.size, fun j hj => by rw [hk.cell g2.1 h2]; exact g2.2 j hj⟩, ⟨by rw [hk.cell g3' h3]; exact g3, Nat.lt_of_lt_of_le g3' hk.size⟩, ⟨fun i hi => ?_, Nat.lt_of_lt_of_le g4' hk.size⟩, by rw [hk.cell g5' h5]; exact g5, Nat.lt_of_lt_of_le g5' hk.size⟩
  rw [hk.cell g4' h4, hk.cell g4' h4]
  exact g4 i hi
theorem PW.kp {w : World} {B pb rb wg : Nat} {v : Vr} {l : List Bk} {o : List Nat} {t : Nat} {k : List Int} {Z : Array Value} {W W' : World} (h : PW w B rb wg v l o t k Z W) (D : PD B pb rb wg v) (hB : B ≤ W.heap.size) (hk : Kp [v.tb, v.cb, pb] W W') : PW w B rb wg v l o t k Z W' := by
  obtain ⟨h1, h2, h3, h4⟩ := h
  obtain ⟨a0, a1, a2, a3, a4, a5⟩ := D.ap
  obtain ⟨q1, q2, q3, q4, q5, q6, q7⟩ := D.p1
  obtain ⟨s1, s2, s3⟩ := D.r1
  obtain ⟨u1, u2, u3⟩ := D.w1
  refine ⟨h1.trans (hk.below (fun x hx => ?_) hB), seen_kp h2 hk ?_ ?_ ?_ ?_ ?_, ?_, Nat.lt_of_lt_of_le h4.1 hk.size, fun i hi => ?_⟩
  · simp at hx; rcases hx with rfl | rfl | rfl
    · exact D.atb
    · exact D.acb
    · exact D.apb
  · simp [a1.1, a1.2, q1]
  · simp [a2.1, a2.2, q2]
  · simp [a3.1, a3.2, q3]
  · simp [a4.1, a4.2, q4]
  · simp [a5.1, a5.2, q5]
  · rw [hk.block rb (Array.getElem?_eq_some_iff.1 h3).1 (by simp [s1, s2, s3])]; exact h3
  · rw [hk.cell h4.1 (by simp [u1, u2, u3]), hk.cell h4.1 (by simp [u1, u2, u3])]; exact h4.2 i hi

theorem pls_skip {t : Nat} {S : List Sd} (m : Nat) : ∀ j, (∀ i, m ≤ i → i < m + j → came t S (stp S.length i) = false) → pls t S (m + j) = pls t S m
  | 0, _ => rfl
  | j + 1, h => by
    have h0 := h (m + j) (by omega) (by omega)
    rw [← Nat.add_assoc]
    simp only [pls]
    rw [h0, if_neg Bool.false_ne_true]
    exact pls_skip m j fun i h1 h2 => h i h1 (by omega)

/-- The places ahead of the first turn. -/
def emp (j : Nat) : List Int := List.replicate j (-1) ++ List.replicate (251 - j) 0
theorem emp_len {j : Nat} (h : j ≤ 251) : (emp j).length = 251 := by simp [emp]; omega
theorem emp_set {j : Nat} (h : j < 251) : (emp j).set j (-1) = emp (j + 1) := by
  unfold emp
  rw [List.set_append_right _ _ (by simp), List.length_replicate, Nat.sub_self, show 251 - j = (251 - (j + 1)) + 1 by omega, List.replicate_succ, List.set_cons_zero, List.replicate_succ', List.append_assoc]
  rfl
theorem emp_all (o : List Nat) (t : Nat) (S : List Sd) : emp 251 = lab o (pls t S 0) := by
  show List.replicate 251 (-1) ++ List.replicate 0 0 = (List.replicate 251 none).map (lab1 o)
  rw [List.map_replicate]; simp [lab1]

def ERel (w : World) (A Z : Array Value) (gg : Nat) (s14 : Value) (wr : World) : Prop :=
  ∃ j : Nat, j + gg = 251 ∧ s14 = .int .i64 j ∧ Below w.heap.size w wr ∧ Ar wr w.heap.size A.toList ∧ wr.heap[w.heap.size + 1]? = some (.cells Z 55 (0, 0)) ∧ Ar wr (w.heap.size + 2) (vals (emp j))

/-- A store of a whole array, at which the walk stands. -/
def bigS (t : TypeId) (p v : Value) : Sem Unit := Instr.storeAt t p v
theorem bigS55 (p v : Value) : Instr.storeAt 55 p v = bigS 55 p v := rfl
attribute [local go_sem ↓] big51 big55 bigS55

def TRel2 (w : World) (B pb rb wg : Nat) (v : Vr) (l : List Bk) (o : List Nat) (S : List Sd) (t : Nat) (k : List Int) (Z : Array Value) (gg : Nat) (s26 : Value) (wr : World) : Prop :=
  ∃ (j m : Nat) (cs : List Int), j + gg = 251 ∧ s26 = .int .i64 j ∧ frs (pls t S m) = 251 - j ∧ PW w B rb wg v l o t k Z wr ∧ B ≤ wr.heap.size ∧ Ar wr v.tb [.int .i64 ((stp S.length m).2 : Nat)] ∧ cs.length = 16 ∧ Ar wr v.cb (vals cs) ∧ Cred S o t cs (stp S.length m) ∧
    Ar wr pb (vals (lab o (pls t S m)))
def IRel (w : World) (B pb rb wg : Nat) (v : Vr) (l : List Bk) (o : List Nat) (S : List Sd) (t : Nat) (k : List Int) (Z : Array Value) (m : Nat) (cs : List Int) (pl : List (Option Nat)) (f : Nat → Nat) (gg : Nat) (s30 : Value) (wr : World) : Prop :=
  ∃ i : Nat, i + gg = 251 ∧ s30 = .int .i64 i ∧ (∀ i', i' < i → fre pl (f i') = false) ∧ PW w B rb wg v l o t k Z wr ∧ B ≤ wr.heap.size ∧ Ar wr v.tb [.int .i64 ((stp S.length (m + 1)).2 : Nat)] ∧ Ar wr v.cb (vals cs) ∧ Cred S o t cs (stp S.length (m + 1)) ∧ Ar wr pb (vals (lab o pl))

set_option maxHeartbeats 4000000 in
theorem placesOf_any {w : World} {a : Option Addr} {n c og oc : Nat} {l : List Bk} {o : List Nat} {t T : Nat} (k : List Int) (hk : Key k) (hw : ∀ i, i < l.length → (l[i]!).name.size ≤ 40) (G : Good l o (sds k l o) t T) (ht : IsTop l (t : Int)) (h : Bks w a n c l) (hI : Ints w og 0 (ord o)) :
    Calls Try.prog 26 #[kv k, .slice a n c, .slice (some ⟨og, 0, none⟩) n oc] w fun e w' => ∃ pl, Lays t (sds k l o) pl ∧ e = .returned (.agg (vals (lab o pl)).toArray) ∧ Below w.heap.size w w' := by
  have hn := h.1
  have hn16 : n ≤ 16 := by rw [hn]; exact G.n16
  have H := Lib.hid h
  have HN := Lib.hid hn
  have HI := Lib.hid hI
  have HG := Lib.hid G
  have HTOP := Lib.hid ht
  have HW := Lib.hid (fun w' (hb : Below w.heap.size w w') => walksOf_any k hk (h.below hb) hn16 hw)
  have hogl := hI.1
  obtain ⟨Z, hZ⟩ : ∃ Z : Array Value, Array.replicate 251 (.int .i64 0) = Z := ⟨_, rfl⟩
  have hZv : Z = (vals (emp 0)).toArray := by rw [← hZ]; rfl
  have hz55 : ∀ w, Sem.run Try.prog (zeroValue 55) w = .ok (.agg Z) w := by
    rw [← hZ]
    exact (zero_of_info (n := 251) (by kernel_rfl)).1
  obtain ⟨A, hA⟩ : ∃ A, (cel k).toArray = A := ⟨_, rfl⟩
  have hAs : A.size = 16 := by rw [← hA, List.size_toArray, cel_len, hk.1]
  have hkA : kv k = .agg A := by rw [← hA]; rfl
  rw [hkA] at HW ⊢
  have HAS := Lib.hid hAs
  have HZ := Lib.hid hZv
  have HK := Lib.hid hk
  clear h hn hI G ht hw hZ hZv hA hAs hkA hk
  have hst : Hid (ERel w A Z 251 (.int .i64 0) (((w.alloc (.cells A 51)).alloc (.cells Z 55)).alloc (.cells Z 55))) := Lib.hid ⟨0, by omega, rfl, (((Below.refl _ _).alloc (Nat.le_refl _) _).alloc (by simp) _).alloc (by simp; omega) _, by
      have := ((Ar.new w A.toList 51).alloc (.cells Z 55)).alloc (.cells Z 55)
      simpa using this, by
      rw [heap_alloc_old _ _ (by simp)]
      have := heap_alloc_new (w.alloc (.cells A 51)) (.cells Z 55)
      simpa using this, by
      rw [HZ.out]
      have := Ar.new ((w.alloc (.cells A 51)).alloc (.cells (vals (emp 0)).toArray 55)) (vals (emp 0)) 55
      simpa using this⟩
  go_enter Try.func26, Try.ntmps26
  go_wp2
  go_step3
  go_wp2
  go_loopg [8, 14] 251 (fun gg _ s14 wr => Hid (ERel w A Z gg s14 wr))
  case atStart => exact hst
  case round =>
    clear hst hz55
    obtain ⟨j, hj, rfl, hb, hAr, hres, hpl⟩ := hrel.out
    clear hrel
    by_cases hlt : j < 251
    · have hltz : (j : Int) < 251 := by omega
      have hc0 := hpl.cell j (v := (vals (emp j))[j]'(by rw [vals_len, emp_len (by omega)]; exact hlt)) (by rw [List.getElem?_eq_getElem])
      generalize (vals (emp j))[j]'(by rw [vals_len, emp_len (by omega)]; exact hlt) = u at hc0
      have hc1 := hpl.free j (by rw [vals_len, emp_len (by omega)]; exact hlt)
      have HB := Lib.hid hb
      have HA := Lib.hid hAr
      have HRS := Lib.hid hres
      have HP := Lib.hid hpl
      clear hb hAr hres hpl
      go_wp2
      go_roundg (251 - (j + 1))
      case measure => omega
      case rel =>
        refine Lib.hid ⟨j + 1, by omega, by go_num, HB.out.setCell (by show w.heap.size ≤ w.heap.size + 2; omega) _, HA.out.other (p := ⟨w.heap.size + 2, j, none⟩) (by show w.heap.size + 2 ≠ w.heap.size; omega) _, ?_, ?_⟩
        · rw [Below.heap_setCell _ _ _ _ (by show w.heap.size + 1 ≠ w.heap.size + 2; omega)]; exact HRS.out
        · have := ar_put HP.out (x := j) (by rw [emp_len (by omega)]; exact hlt) (-1)
          rw [emp_set hlt] at this
          exact this
    · have hltz : ¬ (j : Int) < 251 := by omega
      obtain rfl : j = 251 := by omega
      have hkey := load_key hAr HAS.out
      have hw5 := HW.out wr hb
      have HB := Lib.hid hb
      have HA := Lib.hid hAr
      have HRS := Lib.hid hres
      have HP := Lib.hid hpl
      have hps := hpl.1
      have HW5 := Lib.hid hw5
      clear hb hAr hres hpl hw5 HW
      go_wp2_with fail
      refine HW5.out.mono ?_
      rintro e w5 ⟨wv, rfl, hwrow, hb5⟩
      have HB5 := Lib.hid (HB.out.trans (hb5.mono HB.out.size))
      have HBW := Lib.hid hb5
      have hrow := hwrow
      rcases hrow.2 with ⟨_, h0⟩ | ⟨wg, wcap, cur, rfl, hbg, hg, hnc2, hcm, hcs, htake⟩
      · exact absurd h0 (by have := HG.out.n1; have := HN.out; omega)
      have hwglt := (Array.getElem?_eq_some_iff.1 hg).1
      have hcells := hrow.cells (g := wg) rfl
      have HWK : Hid (WkAt w5 wg k l) := Lib.hid ⟨hwglt, fun i hi => by
        obtain ⟨c0, c1⟩ := wcells_at k l i hi
        have d0 := hcells _ _ c0
        have d1 := hcells _ _ c1
        rw [add_plain, Nat.zero_add] at d0 d1
        exact ⟨d0, d1⟩⟩
      have hcom := comers_any (oc := oc) HG.out HTOP.out (H.out.below HB5.out) (HI.out.below HB5.out hogl)
      simp only [comeV] at hcom
      have HC := Lib.hid hcom
      have hs5 := hb5.size
      clear hkey hb5 hwrow hcom hrow hcells hg htake
      go_wp2_with fail
      refine HC.out.mono ?_
      rintro e w6 ⟨v, cs, rfl, hap, hseen, htb, hcl, hcb, hcr, hb6, hB1, hB2, hB3, hB4, hB5, hB6, hB7, hog, hoff⟩
      have hb6s := hb6.size
      have hvb : v.b < w.heap.size := by
        obtain ⟨off, rfl⟩ := hoff
        obtain ⟨b', off', e', hbb', -⟩ := H.out.2.2.2 (by have := HG.out.n1; have := HN.out; omega)
        simp only [Option.some.injEq, Addr.mk.injEq] at e'
        omega
      have hD : Hid (PD w.heap.size (w.heap.size + 2) (w.heap.size + 1) wg v) := Lib.hid
        ⟨hap, by omega, by omega, by omega, ⟨by omega, by omega, by omega, by omega, by omega, by omega, by omega⟩, ⟨by omega, by omega, by omega⟩, ⟨by omega, by omega, by omega⟩⟩
      have HB6 := HB5.out.trans (hb6.mono HB5.out.size)
      have hst2 : Hid (TRel2 w w.heap.size (w.heap.size + 2) (w.heap.size + 1) wg v l o (sds k l o) t k Z 251 (.int .i64 0) w6) := Lib.hid
        ⟨0, 0, cs, by omega, rfl, pls_zero _ _, ⟨HB6, hseen, by
          rw [hb6.block _ (by omega), HBW.out.block _ (by omega)]; exact HRS.out, ⟨by omega, fun i hi => by
            rw [hb6.cell (p := ⟨wg, i * 2, none⟩) hwglt, hb6.cell (p := ⟨wg, i * 2 + 1, none⟩) hwglt]; exact HWK.out.2 i hi⟩⟩, by omega, htb, hcl, hcb, hcr, by
          rw [← emp_all]; exact (HP.out.below HBW.out).below hb6⟩
      clear hap hseen htb hcl hcb hcr hb6 hB1 hB2 hB3 hB4 hB5 hB6 hB7 hog hoff hvb HB6 hb6s
      go_wp2
      go_step3
      go_wp2
      go_loopg [11, 12, 13, 26, 30] 251 (fun gg _ _ _ s26 _ wr => Hid (TRel2 w w.heap.size (w.heap.size + 2) (w.heap.size + 1) wg v l o (sds k l o) t k Z gg s26 wr))
      case atStart => exact hst2
      case round =>
        clear hst2
        obtain ⟨j, m, cs1, hj, rfl, hfr, hPW, hBs, htb, hcl, hcb, hcr, hpl⟩ := hrel.out
        clear hrel
        by_cases hlt : j < 251
        · have hltz : (j : Int) < 251 := by omega
          have HNX := Lib.hid (next_any HG.out hD.out.ap hPW.2.1 htb hcl hcb hcr)
          have HPW := Lib.hid hPW
          have HPL := Lib.hid hpl
          have HFR := Lib.hid hfr
          clear hPW htb hcl hcb hcr hpl hfr
          go_wp2_with fail
          refine HNX.out.mono ?_
          rintro e w7 ⟨m', cs7, hmm, hca, hno, rfl, hk2, htb, hcl, hcb, hcr⟩
          have G := HG.out
          have hrl := stp_lt (sds k l o).length (by rw [G.len]; exact G.n1) m'
          have hpl' : pls t (sds k l o) m' = pls t (sds k l o) m := by
            obtain ⟨d, rfl⟩ := Nat.le.dest hmm
            exact pls_skip m d hno
          have hPW7 := HPW.out.kp hD.out hBs (Kp.of2 hk2 (by simp) (by simp))
          have hpl7 := (Kp.of2 hk2 (L := [v.tb, v.cb]) (by simp) (by simp)).ar HPL.out (by simp; exact ⟨fun e => hD.out.p1.2.2.2.2.2.1 e.symm, fun e => hD.out.p1.2.2.2.2.2.2 e.symm⟩)
          rw [← hpl'] at hpl7
          have hfr' := HFR.out
          rw [← hpl'] at hfr'
          have hpll := pls_len t (sds k l o) m'
          have hstep : pls t (sds k l o) (m' + 1) = fill (wk ((sds k l o)[(stp (sds k l o).length m').2]!).a ((sds k l o)[(stp (sds k l o).length m').2]!).b) (pls t (sds k l o) m') (stp (sds k l o).length m').2 := by
            simp only [pls]; rw [if_pos hca]
          have hxn := (G.ho.2 _ (by rw [← G.len]; exact hrl)).1
          have hsat := sds_at k l o (r := (stp (sds k l o).length m').2) (by rw [G.ho.1, ← G.len]; exact hrl)
          obtain ⟨r, hr⟩ : ∃ r, (stp (sds k l o).length m').2 = r := ⟨_, rfl⟩
          rw [hr] at hstep hxn hsat hrl ⊢
          rw [hsat] at hstep
          simp only [] at hstep
          obtain ⟨x, hx⟩ : ∃ x, o[r]! = x := ⟨_, rfl⟩
          rw [hx] at hstep hxn ⊢
          obtain ⟨pa, hpa⟩ : ∃ pa, (hsh k (bts (l[x]!).name)).toNat = pa := ⟨_, rfl⟩
          obtain ⟨pb, hpb⟩ : ∃ pb, (hsh (trn k) (bts (l[x]!).name)).toNat = pb := ⟨_, rfl⟩
          rw [hpa, hpb] at hstep
          obtain ⟨pl, hple⟩ : ∃ pl, pls t (sds k l o) m' = pl := ⟨_, rfl⟩
          rw [hple] at hstep hpl7 hfr' hpll
          have HSEAT := Lib.hid (seat_has (a := pa) (b := pb) hpll (by omega))
          have hk7 := hk2.size
          have hst3 : Hid (IRel w w.heap.size (w.heap.size + 2) (w.heap.size + 1) wg v l o (sds k l o) t k Z m' cs7 pl (wk pa pb) 251 (.int .i64 0) w7) := Lib.hid
            ⟨0, by omega, rfl, fun i hi => by omega, hPW7, by omega, htb, hcb, hcr, hpl7⟩
          have hxz : (x : Int) < (n : Int) := by have := HN.out; omega
          have HXN := Lib.hid hxn
          have HX := Lib.hid hx
          have HPA := Lib.hid hpa
          have HPB := Lib.hid hpb
          have HSTEP := Lib.hid hstep
          have HPLL := Lib.hid hpll
          have HFR7 := Lib.hid hfr'
          have HCL7 := Lib.hid hcl
          clear hca hno hk2 htb hcl hcb hcr hpl' hPW7 hpl7 hfr' hpll hstep hxn hsat hrl hr hx hpa hpb hple hmm hBs hk7 HPL HPW HFR HNX
          go_wp2
          go_loopg [12, 13, 30] 251 (fun gg _ _ s30 wr => Hid (IRel w w.heap.size (w.heap.size + 2) (w.heap.size + 1) wg v l o (sds k l o) t k Z m' cs7 pl (wk pa pb) gg s30 wr))
          case atStart => exact hst3
          case round =>
            clear hst3
            obtain ⟨i, hi, rfl, hno, hPW, hBs, htb, hcb, hcr, hpl⟩ := hrel.out
            clear hrel
            by_cases hlt2 : i < 251
            · have hltz2 : (i : Int) < 251 := by omega
              obtain ⟨c0, c1⟩ := hPW.2.2.2.2 x HXN.out
              rw [HPA.out] at c0
              rw [HPB.out] at c1
              have HAT := Lib.hid (fun w => walk_at pa pb i w hlt2)
              obtain ⟨xa, hxa⟩ : ∃ xa, pa % 251 = xa := ⟨_, rfl⟩
              obtain ⟨xb, hxb⟩ : ∃ xb, pb % 250 + 1 = xb := ⟨_, rfl⟩
              obtain ⟨p, hp⟩ : ∃ p, wk pa pb i = p := ⟨_, rfl⟩
              rw [hxa] at c0 HAT
              rw [hxb] at c1 HAT
              rw [hp] at HAT
              have hp251 : p < 251 := by rw [← hp]; exact wk_lt _ _ _
              have HP' := Lib.hid hp
              have HPW := Lib.hid hPW
              have HTB := Lib.hid htb
              have HCB := Lib.hid hcb
              have HCR := Lib.hid hcr
              have HPL := Lib.hid hpl
              have HNO := Lib.hid hno
              have HBS := Lib.hid hBs
              clear hPW htb hcb hcr hpl hno hxa hxb hp hBs
              go_wp2_with fail
              refine (HAT.out _).mono ?_
              rintro e w8 ⟨rfl, hb8⟩
              have hPW8 := HPW.out.kp hD.out HBS.out (Kp.of_below hb8)
              have hpl8 := HPL.out.below hb8
              have htb8 := HTB.out.below hb8
              have hcb8 := HCB.out.below hb8
              have hs8 : w.heap.size ≤ w8.heap.size := Nat.le_trans HBS.out hb8.size
              obtain ⟨y, hy, hy1, hy2⟩ := lab_fre o pl (p := p) (by rw [HPLL.out]; exact hp251)
              obtain ⟨e1, e2⟩ := ar_vals hpl8 hy
              have hpz : (p : Int) < 251 := by omega
              have hpbl := hpl8.1
              rcases hf : fre pl p with _ | _
              · have hyn := hy2 hf
                have hyne : ¬ y = -1 := by omega
                have HF := Lib.hid hf
                have HPW8 := Lib.hid hPW8
                have HTB8 := Lib.hid htb8
                have HCB8 := Lib.hid hcb8
                have HPL8 := Lib.hid hpl8
                clear hy1 hy2 hy hf hPW8 htb8 hcb8 hpl8 hb8 c0 c1
                go_wp2
                go_roundg (251 - (i + 1))
                case measure => omega
                case rel =>
                  refine Lib.hid ⟨i + 1, by omega, by go_num, fun i' hi' => ?_, HPW8.out, hs8, HTB8.out, HCB8.out, HCR.out, HPL8.out⟩
                  rcases Nat.lt_or_ge i' i with h | h
                  · exact HNO.out i' h
                  · obtain rfl : i' = i := by omega
                    rw [HP'.out]; exact HF.out
              · have hyn := hy1 hf
                subst hyn
                have HSE : Hid (seat (wk pa pb) pl = some i) := Lib.hid (seat_some hlt2 (by rw [HP'.out]; exact hf) HNO.out)
                have HF := Lib.hid hf
                have HPW8 := Lib.hid hPW8
                have HTB8 := Lib.hid htb8
                have HCB8 := Lib.hid hcb8
                have HPL8 := Lib.hid hpl8
                clear hy1 hy2 hy hf hPW8 htb8 hcb8 hpl8 hb8 c0 c1
                go_wp2
                go_roundg (251 - (j + 1))
                case measure => omega
                case rel =>
                  have hfill : pls t (sds k l o) (m' + 1) = pl.set p (some r) := by
                    rw [HSTEP.out, fill, HSE.out]; simp only [HP'.out]
                  have hcnt := (count_set (r := r) HF.out).1
                  refine Lib.hid ⟨j + 1, m' + 1, cs7, by omega, by go_num, ?_, HPW8.out.kp hD.out hs8 (Kp.set _ (by simp) _ _), by simpa using hs8, HTB8.out.other (p := ⟨w.heap.size + 2, p, none⟩) (fun e => hD.out.p1.2.2.2.2.2.1 e.symm) _, HCL7.out, HCB8.out.other (p := ⟨w.heap.size + 2, p, none⟩) (fun e => hD.out.p1.2.2.2.2.2.2 e.symm) _, HCR.out, ?_⟩
                  · rw [hfill]
                    have := HFR7.out
                    omega
                  · rw [hfill, lab_set, HX.out]
                    exact ar_put HPL8.out (by rw [lab_len, HPLL.out]; exact hp251) _
            · exfalso
              obtain ⟨i0, hi0⟩ := HSEAT.out
              have := seat_none (f := wk pa pb) (pl := pl) (fun i' hi' => hno i' (by omega))
              rw [this] at hi0
              simp at hi0
        · have hltz : ¬ (j : Int) < 251 := by omega
          obtain rfl : j = 251 := by omega
          have hlen := pls_len t (sds k l o) m
          obtain ⟨pl, hple⟩ : ∃ pl, pls t (sds k l o) m = pl := ⟨_, rfl⟩
          have hI2 : Ints wr (w.heap.size + 2) 0 (lab o pl) := ⟨hpl.1, fun q hq => by
            rw [Nat.zero_add]
            rw [hple] at hpl
            exact (ar_vals hpl (by rw [getElem!_pos _ q hq]; exact List.getElem?_eq_getElem hq)).1⟩
          have hll : (lab o pl).length = 251 := by rw [lab_len, ← hple]; exact hlen
          have hld : Sem.run Try.prog (big 55 (.pointer (some ⟨w.heap.size + 2, 0, none⟩))) wr = .ok (.agg (vals (lab o pl)).toArray) wr := load_ints_at hI2 hll
          have HLAY : Hid (Lays t (sds k l o) pl) := Lib.hid ⟨m, hple.symm, by rw [← hple, hfr]⟩
          have HLL := Lib.hid hll
          obtain ⟨C, hC⟩ : ∃ C, (vals (lab o pl)).toArray = C := ⟨_, rfl⟩
          have hCs : C.size = 251 := by rw [← hC, List.size_toArray, vals_len, hll]
          have hCo : C.all (·.oneCell') = true := by
            rw [← hC]; simp [vals, Value.oneCell']
          rw [hC] at hld
          have hZs : Z.size = 251 := by rw [HZ.out, List.size_toArray, vals_len, emp_len (by omega)]
          have hi55 : (Try.prog.info? 55).map (·.size) = some C.size := by rw [hCs]; kernel_rfl
          have hst4 : Sem.run Try.prog (bigS 55 (.pointer (some ⟨w.heap.size + 1, 0, none⟩)) (.agg C)) wr = .ok () (wr.setRow (w.heap.size + 1) C) := by
            simp only [bigS, Instr.storeAt, Instr.sureAddr, Sem.run_bind, Sem.run_pure, Result.andThen]
            exact run_storeVar_row wr (w.heap.size + 1) 55 55 Z C hPW.2.2.1 hi55 (by rw [hZs, hCs]) hCo
          have hrd : Sem.run Try.prog (loadVar 55 ⟨w.heap.size + 1, 0, none⟩) (wr.setRow (w.heap.size + 1) C) = .ok (.agg C) (wr.setRow (w.heap.size + 1) C) :=
            run_loadVar_row _ _ 55 55 C (0, 0) _ (setRow_heap wr (w.heap.size + 1) Z C 55 _ hPW.2.2.1) under55 rfl hi55
          have HRD := Lib.hid hrd
          have HBW2 : Hid (Below w.heap.size w (wr.setRow (w.heap.size + 1) C)) := Lib.hid (hPW.1.trans ⟨rfl, rfl, rfl, by simp [World.setRow], fun q hq => setRow_other wr (w.heap.size + 1) q _ (by omega)⟩)
          have HC2 := Lib.hid hC
          clear hfr hPW htb hcl hcb hcr hpl hlen hple hI2 hll hC hCs hCo hZs hi55 hrd HZ
          go_wp2
          have HL := HLAY.out
          have HE := HC2.out
          have HRD2 := HRD.out
          exact bodyPost_ret (v := .agg C) (by simp [results, Try.results26, asAddr, HRD2]) rfl ⟨pl, HL, by rw [HE], HBW2.out⟩

end Go.Proofs.Ytpkahjflhboddaa
