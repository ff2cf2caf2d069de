/-
  Who comes next: the closure of maglev.comers.
-/
import Derived.Test.YtpkahjflhboddaaCount
import Derived.Test.YtpkahjflhboddaaLists
namespace Go.Proofs.Ytpkahjflhboddaa
open Go.RowKit
set_option linter.unusedVariables false
set_option linter.unusedSimpArgs false
set_option maxRecDepth 10000

/-- All blocks are as they were, but for two. -/
structure Kept2 (x y : Nat) (w w' : World) : Prop where
  os : w'.os = w.os
  tape : w'.tape = w.tape
  output : w'.output = w.output
  size : w.heap.size ≤ w'.heap.size
  block : ∀ k, k < w.heap.size → k ≠ x → k ≠ y → w'.heap[k]? = w.heap[k]?
theorem Kept2.refl (x y : Nat) (w : World) : Kept2 x y w w := ⟨rfl, rfl, rfl, Nat.le_refl _, fun _ _ _ _ => rfl⟩
theorem Kept2.trans {x y : Nat} {a b c : World} (h : Kept2 x y a b) (g : Kept2 x y b c) : Kept2 x y a c :=
  ⟨g.os.trans h.os, g.tape.trans h.tape, g.output.trans h.output, Nat.le_trans h.size g.size, fun k hk h1 h2 => (g.block k (Nat.lt_of_lt_of_le hk h.size) h1 h2).trans (h.block k hk h1 h2)⟩
theorem Kept2.set {x y : Nat} (w : World) {B : Nat} (hB : B = x ∨ B = y) (j : Nat) (v : Value) : Kept2 x y w (w.setCell ⟨B, j, none⟩ v) :=
  ⟨rfl, rfl, rfl, by simp, fun k hk h1 h2 => Below.heap_setCell w ⟨B, j, none⟩ v k (by show k ≠ B; rcases hB with e | e <;> omega)⟩
theorem Kept2.drewN {x y : Nat} {w w' : World} (h : Kept2 x y w w') (q : Nat) : Kept2 x y w (w'.drewN q) := ⟨h.os, h.tape, h.output, h.size, h.block⟩
theorem Kept2.below {x y B : Nat} {w w' : World} (h : Kept2 x y w w') (hx : B ≤ x) (hy : B ≤ y) (hB : B ≤ w.heap.size) : Below B w w' :=
  ⟨h.os, h.tape, h.output, h.size, fun k hk => h.block k (by omega) (by omega) (by omega)⟩
theorem Kept2.cell {x y : Nat} {w w' : World} (h : Kept2 x y w w') {b i : Nat} (hb : b < w.heap.size) (h1 : b ≠ x) (h2 : b ≠ y) : w'.cell? ⟨b, i, none⟩ = w.cell? ⟨b, i, none⟩ := World.cell?_of_block (h.block b hb h1 h2)
theorem Kept2.frozen {x y : Nat} {w w' : World} (h : Kept2 x y w w') {b i : Nat} (hb : b < w.heap.size) (h1 : b ≠ x) (h2 : b ≠ y) : w'.frozen? ⟨b, i, none⟩ = w.frozen? ⟨b, i, none⟩ := World.frozen?_of_block (h.block b hb h1 h2)
theorem Kept2.ar {x y : Nat} {w w' : World} (h : Kept2 x y w w') {b : Nat} {xs : List Value} (ha : Ar w b xs) (h1 : b ≠ x) (h2 : b ≠ y) : Ar w' b xs :=
  ⟨Nat.lt_of_lt_of_le ha.1 h.size, fun j hj => by rw [h.cell ha.1 h1 h2, h.frozen ha.1 h1 h2]; exact ha.2 j hj⟩

/-- Where the closure's variables lie. -/
structure Vr where
  ob : Nat
  tb : Nat
  cb : Nat
  lb : Nat
  mb : Nat
  og : Nat
  oc : Nat
  b : Nat
  off : Nat
  c : Nat

/-- What the closure reads alone. -/
def Seen (W : World) (v : Vr) (l : List Bk) (o : List Nat) (t : Nat) : Prop :=
  (W.cell? ⟨v.ob, 0, none⟩ = some (.slice (some ⟨v.og, 0, none⟩) l.length v.oc) ∧ v.ob < W.heap.size) ∧ Ints W v.og 0 (ord o) ∧ (W.cell? ⟨v.lb, 0, none⟩ = some (.slice (some ⟨v.b, v.off, none⟩) l.length v.c) ∧ v.lb < W.heap.size) ∧ (BkAt W v.b v.off l ∧ v.b < W.heap.size) ∧ (W.cell? ⟨v.mb, 0, none⟩ = some (.int .i64 (t : Nat)) ∧ v.mb < W.heap.size)
def Vr.Apart (v : Vr) : Prop := v.tb ≠ v.cb ∧ (v.ob ≠ v.tb ∧ v.ob ≠ v.cb) ∧ (v.og ≠ v.tb ∧ v.og ≠ v.cb) ∧ (v.lb ≠ v.tb ∧ v.lb ≠ v.cb) ∧ (v.b ≠ v.tb ∧ v.b ≠ v.cb) ∧ (v.mb ≠ v.tb ∧ v.mb ≠ v.cb)
theorem Seen.kept {W W' : World} {v : Vr} {l : List Bk} {o : List Nat} {t : Nat} (h : Seen W v l o t) (ha : v.Apart) (hk : Kept2 v.tb v.cb W W') : Seen W' v l o t := by
  obtain ⟨⟨h1, h1'⟩, h2, ⟨h3, h3'⟩, ⟨h4, h4'⟩, h5, h5'⟩ := h
  obtain ⟨_, a1, a2, a3, a4, a5⟩ := ha
  refine ⟨⟨by rw [hk.cell h1' a1.1 a1.2]; exact h1, Nat.lt_of_lt_of_le h1' hk.size⟩, ⟨Nat.lt_of_lt_of_le h2.1 hk.size, fun j hj => by rw [hk.cell h2.1 a2.1 a2.2]; exact h2.2 j hj⟩, ⟨by rw [hk.cell h3' a3.1 a3.2]; exact h3, Nat.lt_of_lt_of_le h3' hk.size⟩, ⟨fun i hi => ?_, Nat.lt_of_lt_of_le h4' hk.size⟩, by rw [hk.cell h5' a5.1 a5.2]; exact h5, Nat.lt_of_lt_of_le h5' hk.size⟩
  rw [hk.cell h4' a4.1 a4.2, hk.cell h4' a4.1 a4.2]
  exact h4 i hi

/-- The credits, behind so many visits. -/
def Cred (S : List Sd) (o : List Nat) (t : Nat) (cs : List Int) (s : Nat × Nat) : Prop := ∀ r, r < S.length → cs[o[r]!]? = some ((crd (S[r]!).w t (vis r s) : Nat) : Int)

theorem cred_step {l : List Bk} {S : List Sd} {o : List Nat} {t : Nat} {cs : List Int} {s : Nat × Nat} (h : Cred S o t cs s) (ho : IsOrd l o) (hS : S.length = l.length) (hs : s.2 < S.length) (hcl : ∀ i, i < l.length → i < cs.length) :
    Cred S o t (cs.set o[s.2]! ((crd (S[s.2]!).w t (s.1 + 1) : Nat) : Int)) (nxt S.length s) := by
  intro r hr
  rw [vis_nxt S.length r s hs hr]
  by_cases e : r = s.2
  · subst e
    rw [List.getElem?_set_self (hcl _ (ho.2 _ (by omega)).1), if_pos rfl]
    have : vis s.2 s = s.1 := by simp [vis]
    rw [this]
  · rw [if_neg e, Nat.add_zero, List.getElem?_set_ne]
    · exact h r hr
    · intro e2
      exact e (ho.inj (by omega) (by omega) e2).symm
theorem cred_at {S : List Sd} {o : List Nat} {t : Nat} {cs : List Int} {s : Nat × Nat} (h : Cred S o t cs s) (hs : s.2 < S.length) : cs[o[s.2]!]? = some ((crd (S[s.2]!).w t s.1 : Nat) : Int) := by
  have := h s.2 hs
  have e : vis s.2 s = s.1 := by simp [vis]
  rwa [e] at this

/-- How far it is to the rank T. -/
def far (n T r : Nat) : Nat := if r ≤ T then T - r else n - r + T
theorem far_next {n T : Nat} {s : Nat × Nat} (hT : T < n) (hs : s.2 < n) (h : s.2 ≠ T) : far n T (nxt n s).2 + 1 = far n T s.2 := by
  simp only [far, nxt]
  split <;> split <;> split <;> simp_all <;> omega
theorem far_lt {n T r : Nat} (hT : T < n) (hr : r < n) : far n T r < n := by
  unfold far; split <;> omega

theorem ar_put {W : World} {B : Nat} {cs : List Int} (h : Ar W B (vals cs)) {x : Nat} (hx : x < cs.length) (y : Int) : Ar (W.setCell ⟨B, x, none⟩ (.int .i64 y)) B (vals (cs.set x y)) := by
  have := h.set x (by rw [vals_len]; exact hx) (.int .i64 y)
  rwa [show vals (cs.set x y) = (vals cs).set x (.int .i64 y) by simp [vals, List.map_set]]
theorem ar_vals {W : World} {B : Nat} {cs : List Int} (h : Ar W B (vals cs)) {x : Nat} {y : Int} (hx : cs[x]? = some y) : W.cell? ⟨B, x, none⟩ = some (.int .i64 y) ∧ W.frozen? ⟨B, x, none⟩ = false := by
  have hl : x < cs.length := (List.getElem?_eq_some_iff.1 hx).1
  exact ⟨h.cell x (by rw [vals, List.getElem?_map, hx]; rfl), h.free x (by rw [vals_len]; exact hl)⟩

def ComeRel (W : World) (v : Vr) (l : List Bk) (o : List Nat) (S : List Sd) (t T m : Nat) (gg : Nat) (wr : World) : Prop :=
  ∃ (m' : Nat) (cs : List Int), m ≤ m' ∧ far S.length T (stp S.length m').2 < gg ∧ (∀ j, m ≤ j → j < m' → came t S (stp S.length j) = false) ∧ Kept2 v.tb v.cb W wr ∧
    Ar wr v.tb [.int .i64 ((stp S.length m').2 : Nat)] ∧ cs.length = 16 ∧ Ar wr v.cb (vals cs) ∧ Cred S o t cs (stp S.length m')

/-- What is asked of all that the closure stands on. -/
structure Good (l : List Bk) (o : List Nat) (S : List Sd) (t T : Nat) : Prop where
  n1 : 1 ≤ l.length
  n16 : l.length ≤ 16
  ho : IsOrd l o
  len : S.length = l.length
  wt : ∀ r, r < S.length → (l[o[r]!]!).wt = ((S[r]!).w : Nat) ∧ 1 ≤ (S[r]!).w ∧ (S[r]!).w ≤ t
  top : T < S.length ∧ (S[T]!).w = t
  t100 : t ≤ 100

set_option maxHeartbeats 4000000 in
theorem next_any {W : World} {v : Vr} {l : List Bk} {o : List Nat} {S : List Sd} {t T m : Nat} {cs : List Int} (G : Good l o S t T) (hv : v.Apart) (hs : Seen W v l o t)
    (ht : Ar W v.tb [.int .i64 ((stp S.length m).2 : Nat)]) (hcl : cs.length = 16) (hc : Ar W v.cb (vals cs)) (hcr : Cred S o t cs (stp S.length m)) :
    Calls Try.prog 50 #[.pointer (some ⟨v.ob, 0, none⟩), .pointer (some ⟨v.tb, 0, none⟩), .pointer (some ⟨v.cb, 0, none⟩), .pointer (some ⟨v.lb, 0, none⟩), .pointer (some ⟨v.mb, 0, none⟩)] W
      fun e w' => ∃ (m' : Nat) (cs' : List Int), m ≤ m' ∧ came t S (stp S.length m') = true ∧ (∀ j, m ≤ j → j < m' → came t S (stp S.length j) = false) ∧ e = .returned (.int .i64 (o[(stp S.length m').2]! : Nat)) ∧ Kept2 v.tb v.cb W w' ∧
        Ar w' v.tb [.int .i64 ((stp S.length (m' + 1)).2 : Nat)] ∧ cs'.length = 16 ∧ Ar w' v.cb (vals cs') ∧ Cred S o t cs' (stp S.length (m' + 1)) := by
  have HV := Lib.hid hv
  have HS := Lib.hid hs
  have HG := Lib.hid G
  have hm0 := stp_lt S.length (by rw [G.len]; exact G.n1) m
  have hst : Hid (ComeRel W v l o S t T m S.length W) := Lib.hid ⟨m, cs, Nat.le_refl _, far_lt G.top.1 hm0, fun j h1 h2 => by omega, Kept2.refl _ _ _, ht, hcl, hc, hcr⟩
  clear hv hs ht hcl hc hcr hm0 G
  go_enter Try.func50, Try.ntmps50
  go_wp2
  go_loopg [6] S.length (fun gg _ wr => Hid (ComeRel W v l o S t T m gg wr))
  case atStart => exact hst
  case round =>
    clear hst
    obtain ⟨m', cs, hmm, hfar, hno, hk, ht, hcl, hc, hcr⟩ := hrel.out
    clear hrel
    have G := HG.out
    have hr := stp_lt S.length (by rw [G.len]; exact G.n1) m'
    have hSn := HS.out.kept HV.out hk
    have hat := cred_at hcr hr
    have hxn := (G.ho.2 (stp S.length m').2 (by rw [← G.len]; exact hr)).1
    obtain ⟨hwt, hw1, hwt2⟩ := G.wt _ hr
    have ht0 : 0 < t := by have := (G.wt _ G.top.1).2; omega
    have hstep := crd_step (S[(stp S.length m').2]!).w t (stp S.length m').1 ht0 hwt2
    have hclt := crd_lt (S[(stp S.length m').2]!).w t (stp S.length m').1 ht0
    have hcame : Hid (came t S (stp S.length m') = decide (t ≤ crd (S[(stp S.length m').2]!).w t (stp S.length m').1 + (S[(stp S.length m').2]!).w)) := Lib.hid rfl
    have hfarT : Hid ((stp S.length m').2 ≠ T → far S.length T (stp S.length (m' + 1)).2 + 1 = far S.length T (stp S.length m').2) := Lib.hid (fun h => far_next G.top.1 hr h)
    have hTop : Hid ((stp S.length m').2 = T → (S[(stp S.length m').2]!).w = t) := Lib.hid (fun h => by rw [h]; exact G.top.2)
    have hcred := cred_step hcr G.ho G.len hr (fun i hi => by have := G.n16; omega)
    have HCR : Hid (Cred S o t (cs.set o[(stp S.length m').2]! ((crd (S[(stp S.length m').2]!).w t ((stp S.length m').1 + 1) : Nat) : Int)) (stp S.length (m' + 1))) := Lib.hid hcred
    have hr2 : (stp S.length (m' + 1)).2 = (if (stp S.length m').2 + 1 = S.length then 0 else (stp S.length m').2 + 1) := by
      show (nxt S.length (stp S.length m')).2 = _
      unfold nxt; split <;> rfl
    obtain ⟨⟨h1, h1'⟩, h2, ⟨h3, h3'⟩, ⟨h4, h4'⟩, h5, h5'⟩ := hSn
    have hog := h2.2 (stp S.length m').2 (by simp [ord, G.ho.1, ← G.len, hr])
    rw [ord_at o (by rw [G.ho.1, ← G.len]; exact hr), Nat.zero_add] at hog
    have hbk := (h4 _ hxn).2
    rw [hwt] at hbk
    have hn16 := G.n16
    have ht100 := G.t100

    have ea := (HV.out : v.Apart)
    obtain ⟨a0, a1, a2, a3, a4, a5⟩ := ea
    have hlen := G.len
    have hc1 := hc.cell o[(stp S.length m').2]! (v := .int .i64 ((crd (S[(stp S.length m').2]!).w t (stp S.length m').1 : Nat) : Int)) (by rw [vals, List.getElem?_map, hat]; rfl)
    have hc2 := hc.free o[(stp S.length m').2]! (by rw [vals_len]; omega)
    have HC := Lib.hid hc
    have HT := Lib.hid ht
    have ht1 := ht.cell 0 rfl
    have ht2 := ht.free 0 (by simp)
    have hcb := hc.1
    have htb := ht.1
    have HNO := Lib.hid hno
    have HK := Lib.hid hk
    have HMM := Lib.hid hmm
    have HCL := Lib.hid hcl
    clear hat hcr hcred h2 h4 hc ht hno hk hmm hcl G
    obtain ⟨n, hn⟩ : ∃ n, l.length = n := ⟨_, rfl⟩
    rw [hn] at h1 h3 hxn hn16
    obtain ⟨r, hr'⟩ : ∃ r, (stp S.length m').2 = r := ⟨_, rfl⟩
    obtain ⟨r2, hr2'⟩ : ∃ r2, (stp S.length (m' + 1)).2 = r2 := ⟨_, rfl⟩
    rw [hr'] at hr hxn hwt hw1 hwt2 hstep hclt hcame hfarT hTop HCR hog hbk hfar hc1 hc2 HT ht1
    rw [hlen, hn] at hr
    rw [hr', hr2', hlen, hn] at hr2
    rw [hr2'] at hfarT
    obtain ⟨x, hx'⟩ : ∃ x, o[r]! = x := ⟨_, rfl⟩
    rw [hx'] at hxn hwt HCR hog hbk hc1 hc2
    obtain ⟨ww, hww'⟩ : ∃ ww, (S[r]!).w = ww := ⟨_, rfl⟩
    rw [hww'] at hwt hw1 hwt2 hstep hclt hcame hTop HCR hc1 hbk
    obtain ⟨cr, hcr'⟩ : ∃ cr, crd ww t (stp S.length m').1 = cr := ⟨_, rfl⟩
    rw [hcr'] at hstep hclt hcame hc1
    obtain ⟨cr2, hcr2'⟩ : ∃ cr2, crd ww t ((stp S.length m').1 + 1) = cr2 := ⟨_, rfl⟩
    rw [hcr2'] at hstep HCR
    have HR := Lib.hid hr'
    have HR2 := Lib.hid hr2'
    have HX := Lib.hid hx'
    have HN := Lib.hid hn
    have HLEN := Lib.hid hlen
    have HSTEP := Lib.hid hstep
    have HFAR := Lib.hid hfar
    clear hr' hr2' hx' hww' hcr' hcr2' hn hlen hwt hstep hfar
    have hrz : (r : Int) < (n : Int) := by omega
    have hxz : (x : Int) < (n : Int) := by omega
    have hx16 : (x : Int) < 16 := by omega
    have nz : (n : Int) ≠ 0 := by omega
    have hrem : ((r : Int) + 1).tmod (n : Int) = (r2 : Int) := by
      rw [Int.tmod_eq_emod_of_nonneg (by omega), hr2]
      split
      · rename_i h
        rw [show (r : Int) + 1 = (n : Int) by omega, Int.emod_self]; rfl
      · rw [Int.emod_eq_of_lt (by omega) (by omega)]; rfl
    have wr1 : IntKind.i64.wrap ((r : Int) + 1) = (r : Int) + 1 := by rw [IntKind.wrap_i64]; omega
    have wr2 : IntKind.i64.wrap ((cr : Int) + (ww : Int)) = (cr : Int) + (ww : Int) := by rw [IntKind.wrap_i64]; omega
    clear hr2
    have hxl : Hid (x < cs.length) := Lib.hid (by rw [HCL.out]; omega)
    have K1 : Hid (Kept2 v.tb v.cb wr (wr.setCell ⟨v.tb, 0, none⟩ (.int .i64 (r2 : Nat)))) := Lib.hid (Kept2.set wr (.inl rfl) 0 _)
    have T1 : Hid (Ar (wr.setCell ⟨v.tb, 0, none⟩ (.int .i64 (r2 : Nat))) v.tb [.int .i64 (r2 : Nat)]) := Lib.hid (HT.out.set 0 (by simp) _)
    have C1 : Hid (Ar (wr.setCell ⟨v.tb, 0, none⟩ (.int .i64 (r2 : Nat))) v.cb (vals cs)) := Lib.hid (HC.out.other (p := ⟨v.tb, 0, none⟩) a0 _)
    have d1 : (wr.setCell ⟨v.tb, 0, none⟩ (.int .i64 (r2 : Nat))).cell? ⟨v.cb, x, none⟩ = some (.int .i64 (cr : Nat)) := by
      rw [World.cell?_setCell_other _ _ _ _ (by simp [a0])]; exact hc1
    have d2 : (wr.setCell ⟨v.tb, 0, none⟩ (.int .i64 (r2 : Nat))).frozen? ⟨v.cb, x, none⟩ = false := by rw [World.frozen?_setCell]; exact hc2
    have d3 : (wr.setCell ⟨v.tb, 0, none⟩ (.int .i64 (r2 : Nat))).cell? ⟨v.lb, 0, none⟩ = some (.slice (some ⟨v.b, v.off, none⟩) n v.c) := by
      rw [K1.out.cell h3' a3.1 a3.2]; exact h3
    have d4 : (wr.setCell ⟨v.tb, 0, none⟩ (.int .i64 (r2 : Nat))).cell? ⟨v.b, v.off + x * 2 + 1, none⟩ = some (.int .i64 (ww : Nat)) := by
      rw [K1.out.cell h4' a4.1 a4.2]; exact hbk
    have d5 : (wr.setCell ⟨v.tb, 0, none⟩ (.int .i64 (r2 : Nat))).cell? ⟨v.mb, 0, none⟩ = some (.int .i64 (t : Nat)) := by
      rw [K1.out.cell h5' a5.1 a5.2]; exact h5
    have hs1 := K1.out.size
    have D5 := Lib.hid d5
    clear d5
    go_wp2
    clear h1 h3 h5 hog hbk hc1 hc2 ht1 ht2 HC HT hrem wr1
    generalize wr.setCell ⟨v.tb, 0, none⟩ (.int .i64 (r2 : Nat)) = W1 at K1 T1 C1 d1 d2 d3 d4 D5 hs1 ⊢
    refine wp_region_tail 10 (by kernel_rfl) (by kernel_rfl) ?_
    simp only [List.take_succ_cons, List.take_zero, List.drop_succ_cons, List.drop_zero]
    repeat (first | still_step)
    refine wpStill_nil ?_
    have K2 : Hid (Kept2 v.tb v.cb wr (W1.setCell ⟨v.cb, x, none⟩ (.int .i64 ((cr : Int) + (ww : Int))))) := Lib.hid (K1.out.trans (Kept2.set _ (.inr rfl) x _))
    have T2 : Hid (Ar (W1.setCell ⟨v.cb, x, none⟩ (.int .i64 ((cr : Int) + (ww : Int)))) v.tb [.int .i64 (r2 : Nat)]) := Lib.hid (Ar.other (w := W1) (p := ⟨v.cb, x, none⟩) T1.out (Ne.symm a0) _)
    have C2 : Hid (Ar (W1.setCell ⟨v.cb, x, none⟩ (.int .i64 ((cr : Int) + (ww : Int)))) v.cb (vals (cs.set x ((cr : Int) + (ww : Int))))) := Lib.hid (ar_put (W := W1) C1.out hxl.out _)
    obtain ⟨e1, e2⟩ := ar_vals C2.out (x := x) (y := (cr : Int) + (ww : Int)) (List.getElem?_set_self hxl.out)
    have e5 : (W1.setCell ⟨v.cb, x, none⟩ (.int .i64 ((cr : Int) + (ww : Int)))).cell? ⟨v.mb, 0, none⟩ = some (.int .i64 (t : Nat)) := by
      rw [World.cell?_setCell_other _ _ _ _ (by intro e; simp only [Addr.mk.injEq] at e; exact a5.2 e.1.symm)]; exact D5.out
    have hs2 : v.cb < (W1.setCell ⟨v.cb, x, none⟩ (.int .i64 ((cr : Int) + (ww : Int)))).heap.size := C2.out.1
    have E1 := Lib.hid e1
    have E2 := Lib.hid e2
    have E5 := Lib.hid e5
    clear e1 e2 e5
    go_wp2
    clear d1 d2 d3 d4 K1 T1 C1 D5 hs1 wr2
    generalize W1.setCell ⟨v.cb, x, none⟩ (.int .i64 ((cr : Int) + (ww : Int))) = W2 at K2 T2 C2 E1 E2 E5 hs2 ⊢
    have e1 := E1.out
    have e2 := E2.out
    have e5 := E5.out
    clear E1 E2 E5
    by_cases hge : t ≤ cr + ww
    · have hgz : (t : Int) ≤ (cr : Int) + (ww : Int) := by omega
      have hcr2 : Hid ((cr2 : Int) = (cr : Int) + (ww : Int) - (t : Int)) := Lib.hid (by have := HSTEP.out; rw [if_pos hge] at this; omega)
      have wr3 : IntKind.i64.wrap ((cr : Int) + (ww : Int) - (t : Int)) = (cr : Int) + (ww : Int) - (t : Int) := by rw [IntKind.wrap_i64]; omega
      have hca : Hid (came t S (stp S.length m') = true) := Lib.hid (by rw [hcame.out, decide_eq_true hge])
      refine wp_region_tail 4 (by kernel_rfl) (by kernel_rfl) ?_
      simp only [List.take_succ_cons, List.take_zero, List.drop_succ_cons, List.drop_zero]
      repeat (first | still_step)
      refine wpStill_nil ?_
      go_wp2
      refine wp_region_tail 6 (by kernel_rfl) (by kernel_rfl) ?_
      simp only [List.take_succ_cons, List.take_zero, List.drop_succ_cons, List.drop_zero]
      repeat (first | still_step)
      refine wpStill_nil ?_
      go_wp2
      go_ret
      refine ⟨m', cs.set x (cr2 : Int), HMM.out, hca.out, HNO.out, by rw [HR.out, HX.out]; rfl, ?_, ?_, by rw [List.length_set]; exact HCL.out, ?_, by have := HCR.out; exact this⟩
      · exact HK.out.trans (K2.out.trans ((Kept2.set W2 (.inr rfl) x _).drewN 3))
      · rw [HR2.out]
        exact Ar.other (w := W2) (p := ⟨v.cb, x, none⟩) T2.out (Ne.symm a0) _
      · have := ar_put (W := W2) C2.out (x := x) (by rw [List.length_set]; exact hxl.out) (cr2 : Int)
        rw [List.set_set, hcr2.out] at this
        rw [hcr2.out]
        exact this
    · have hgz : ¬ (t : Int) ≤ (cr : Int) + (ww : Int) := by omega
      have hcr2 : Hid ((cr2 : Int) = (cr : Int) + (ww : Int)) := Lib.hid (by have := HSTEP.out; rw [if_neg hge] at this; omega)
      have hca : Hid (came t S (stp S.length m') = false) := Lib.hid (by rw [hcame.out, decide_eq_false hge])
      have hrT : r ≠ T := fun e => hge (by have := hTop.out e; omega)
      refine wp_region_tail 4 (by kernel_rfl) (by kernel_rfl) ?_
      simp only [List.take_succ_cons, List.take_zero, List.drop_succ_cons, List.drop_zero]
      repeat (first | still_step)
      refine wpStill_nil ?_
      go_wp2
      have hf2 := hfarT.out hrT
      have hf1 := HFAR.out
      go_roundg (gk - 1)
      case measure => omega
      case rel =>
        refine Lib.hid ⟨m' + 1, cs.set x (cr2 : Int), Nat.le_succ_of_le HMM.out, by rw [HR2.out]; omega, fun j h1 h2 => ?_, HK.out.trans (K2.out.trans ((Kept2.refl _ _ W2).drewN 2)), ?_, by rw [List.length_set]; exact HCL.out, ?_, HCR.out⟩
        · rcases Nat.lt_or_ge j m' with h | h
          · exact HNO.out j h1 h
          · obtain rfl : j = m' := by omega
            exact hca.out
        · rw [HR2.out]; exact T2.out
        · rw [hcr2.out]; exact C2.out

end Go.Proofs.Ytpkahjflhboddaa
