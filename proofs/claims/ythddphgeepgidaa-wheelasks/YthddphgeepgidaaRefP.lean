/-
  plays: a script on a wheel, and on the document's.
-/
import Derived.Test.YthddphgeepgidaaRefD
import Derived.Test.YthddphgeepgidaaLaw
import Derived.Test.YthddphgeepgidaaSame
import Derived.BigQuiet
namespace Go.Proofs.Ythddphgeepgidaa
open Go.RowKit Go.Maps
set_option linter.unusedVariables false
set_option linter.unusedSimpArgs false
set_option maxRecDepth 10000

theorem bx_only {w w' : World} {N : Nat} {x y z u : Value} {F : Nat → Prop} (h : Bx w N x y z u) (ho : Only F w w') (h0 : ¬ F N) (h1 : ¬ F (N + 1)) (hB : N + 2 ≤ w.heap.size) : Bx w' N x y z u := by
  have e : ∀ p : Addr, p.block < w.heap.size → ¬ F p.block → w'.cell? p = w.cell? p := fun p hp hf => ho.cell hp hf
  have f : ∀ p : Addr, p.block < w.heap.size → ¬ F p.block → w'.frozen? p = w.frozen? p := fun p hp hf => ho.frozen hp hf
  exact ⟨(e _ (by simp; omega) h0).trans h.c0, (e _ (by simp; omega) h0).trans h.c1, (e _ (by simp; omega) h1).trans h.r0, (e _ (by simp; omega) h1).trans h.r1, (f _ (by simp; omega) h0).trans h.f0, (f _ (by simp; omega) h0).trans h.f1, (f _ (by simp; omega) h1).trans h.g0, (f _ (by simp; omega) h1).trans h.g1⟩

/-- What a round finds: the wheel and the document's are in one state. -/
structure Py (w : World) (N B : Nat) (s : St) (F : Nat → Prop) (v : Value) (wr : World) : Prop where
  wh : Wh wr F B s.now s.l s.l
  f : ∀ i, F i → w.heap.size ≤ i ∧ i ≠ N ∧ i ≠ N + 1
  b : Below w.heap.size w wr
  row : wr.ownsRow 0 58 2 v s.l.length (tcells s.l)
  vb : ∀ g, v.ownBlock = some g → ¬ F g ∧ g ≠ N ∧ g ≠ N + 1
  bx : Bx wr N (.int .i64 (s.now : Int)) v (.int .i64 0) (.slice none 0 0)
  sz : N + 2 ≤ wr.heap.size
  n : w.heap.size ≤ N

theorem Py.below {w wr wr' : World} {N B : Nat} {s : St} {F : Nat → Prop} {v : Value} (h : Py w N B s F v wr) (hb : Below wr.heap.size wr wr') : Py w N B s F v wr' :=
  ⟨h.wh.below hb, h.f, h.b.trans (hb.mono h.b.size), row_below h.row hb, h.vb, h.bx.below hb h.sz, Nat.le_trans h.sz hb.size, h.n⟩

theorem mvD_le {s : St} {n : Nat} (h : OkS s n) (x : Int) : (mvD s.l s.now x).length ≤ n := by
  unfold mvD
  split
  · exact Nat.le_trans (dueI_le _ _) h.len
  · simp

theorem py_mid {w wr w1 : World} {N B : Nat} {s s' : St} {F : Nat → Prop} {v v1 u : Value} {D : List Int} {o o2 : Obj} (h : Py w N B s F v wr) (hb1 : Below (wr.alloc o).heap.size (wr.alloc o) w1)
    (hr1 : w1.ownsRow 0 58 2 v1 s'.l.length (tcells s'.l)) (hv1 : ∀ g, v1.ownBlock = some g → v.ownBlock = some g ∨ (wr.alloc o).heap.size ≤ g) (hu : w1.ownsRow (wr.alloc o).heap.size 3 1 u D.length (icells D)) :
    ∀ W2, W2 = ((w1.setCell ⟨N, 0, none⟩ (.int .i64 (s'.now : Int))).setCell ⟨N, 1, none⟩ v1).alloc o2 →
      Wh W2 F B s.now s.l s.l ∧ W2.ownsRow 0 58 2 v1 s'.l.length (tcells s'.l) ∧ W2.ownsRow 0 3 1 u D.length (icells D) ∧ Bx W2 N (.int .i64 (s'.now : Int)) v1 (.int .i64 0) (.slice none 0 0) ∧ Below w.heap.size w W2 ∧ N + 2 ≤ W2.heap.size ∧
      (∀ g, v1.ownBlock = some g → ¬ F g ∧ g ≠ N ∧ g ≠ N + 1) ∧ (∀ g, u.ownBlock = some g → ¬ F g) := by
  rintro W2 rfl
  have hlt : ∀ i, F i → i < wr.heap.size := by obtain ⟨M, sl, h⟩ := h.wh; exact h.lt
  have hsz := h.sz
  have hs1 : wr.heap.size + 1 ≤ w1.heap.size := by have := hb1.size; simpa using this
  have hbw : Below wr.heap.size wr w1 := (below_alloc (Below.refl _ _) o).trans (hb1.mono (by simp))
  have hv : ∀ g, v1.ownBlock = some g → ¬ F g ∧ g ≠ N ∧ g ≠ N + 1 := fun g hg => by
    rcases hv1 g hg with h1 | h1
    · exact h.vb g h1
    · simp at h1
      exact ⟨fun hf => by have := hlt g hf; omega, by omega, by omega⟩
  have huu : ∀ g, u.ownBlock = some g → wr.heap.size + 1 ≤ g := fun g hg => by have := (hu.lt g hg).1; simpa using this
  have ho : Only (fun g => g = N) w1 ((w1.setCell ⟨N, 0, none⟩ (.int .i64 (s'.now : Int))).setCell ⟨N, 1, none⟩ v1) :=
    Only.setCell (F := fun g => g = N) (Only.setCell (F := fun g => g = N) (Only.refl _ w1) (Or.inl rfl) _) (Or.inl rfl) _
  have hb2 : Below ((w1.setCell ⟨N, 0, none⟩ (.int .i64 (s'.now : Int))).setCell ⟨N, 1, none⟩ v1).heap.size ((w1.setCell ⟨N, 0, none⟩ (.int .i64 (s'.now : Int))).setCell ⟨N, 1, none⟩ v1) (((w1.setCell ⟨N, 0, none⟩ (.int .i64 (s'.now : Int))).setCell ⟨N, 1, none⟩ v1).alloc o2) := below_alloc (Below.refl _ _) _
  have hbx := h.bx.below hbw h.sz
  have hx2 : Bx ((w1.setCell ⟨N, 0, none⟩ (.int .i64 (s'.now : Int))).setCell ⟨N, 1, none⟩ v1) N (.int .i64 (s'.now : Int)) v1 (.int .i64 0) (.slice none 0 0) := by
    obtain ⟨c0, c1, r0, r1, f0, f1, g0, g1⟩ := hbx
    constructor <;> simp [go_sem, c0, c1, r0, r1, f0, f1, g0, g1]
  refine ⟨((h.wh.below hbw).only ho fun i hi e => (h.f i hi).2.1 e).below hb2, row_below (row_only hr1 ho fun g hg e => (hv g hg).2.1 e) hb2, row_below (row_only (row_base hu (Nat.zero_le _)) ho fun g hg e => ?_) hb2, hx2.below hb2 (by simp; omega), ?_, by simp; omega, hv, fun g hg hf => ?_⟩
  · have h1 := huu g hg
    have h2 : g = N := e
    omega
  · refine (h.b.trans (hbw.mono h.b.size)).trans ?_
    have hn := h.n
    exact (Only.below (B := w.heap.size) ho (by have := h.b.size; omega) (fun i e => by have h2 : i = N := e; omega)).trans (hb2.mono (by have := h.b.size; simp; omega))
  · have h1 := huu g hg
    have h2 := hlt g hf
    omega

theorem py_end {w W2 w2 : World} {N B : Nat} {s' : St} {F F' : Nat → Prop} {v1 : Value} (hn : w.heap.size ≤ N) (hF : ∀ i, F i → w.heap.size ≤ i ∧ i ≠ N ∧ i ≠ N + 1) (hr : W2.ownsRow 0 58 2 v1 s'.l.length (tcells s'.l)) (hx : Bx W2 N (.int .i64 (s'.now : Int)) v1 (.int .i64 0) (.slice none 0 0)) (hb : Below w.heap.size w W2) (hsz : N + 2 ≤ W2.heap.size)
    (hv : ∀ g, v1.ownBlock = some g → ¬ F g ∧ g ≠ N ∧ g ≠ N + 1) (hW : Wh w2 F' B s'.now s'.l s'.l) (hF' : ∀ i, F' i → F i ∨ W2.heap.size ≤ i) (hO : Only F W2 w2) : Py w N B s' F' v1 w2 := by
  refine ⟨hW, fun i hi => ?_, hb.trans (hO.below hb.size fun i hi => (hF i hi).1), row_only hr hO fun g hg => (hv g hg).1, fun g hg => ⟨fun hf => ?_, (hv g hg).2⟩, bx_only hx hO (fun hf => (hF _ hf).2.1 rfl) (fun hf => (hF _ hf).2.2 rfl) hsz, Nat.le_trans hsz hO.size, hn⟩
  · rcases hF' i hi with h | h
    · exact hF i h
    · exact ⟨by omega, by omega, by omega⟩
  · rcases hF' g hf with h | h
    · exact (hv g hg).1 h
    · have := (hr.lt g hg).2
      omega

def PyRel (w : World) (N B n : Nat) (l : List Opr) (gg : Nat) (s21 : Value) (wr : World) : Prop :=
  ∃ (j : Nat) (F : Nat → Prop) (v : Value), j + gg = n ∧ s21 = .int .i64 j ∧ Py w N B (runS (l.take j)) F v wr

set_option maxHeartbeats 4000000 in
theorem plays_any {w W : World} {B n c : Nat} {a : Option Addr} {l : List Opr} (hp : Pl w W B ⟨0, []⟩) (hs : Scr w a n c l) (hn : n ≤ 500) :
    Calls Try.prog 11 #[.pointer (some ⟨B, 0, none⟩), .agg #[.int .i64 0, .slice none 0 0], .slice a n c] W fun e w' => ∃ v, e = .returned (.tuple #[rv (runS l).now v, .bool true]) ∧ w'.ownsRow 0 58 2 v (runS l).l.length (tcells (runS l).l) ∧ Pl w w' B (runS l) := by
  have HN := Lib.hid hs.1
  have hnc := hs.2.1
  have HS := Lib.hid hs
  obtain ⟨F0, hW0, hF0, hb0⟩ := hp
  have HST : Hid (Py w W.heap.size B (runS (l.take 0)) F0 (.slice none 0 0) ((W.alloc (.cells #[.int .i64 0, .slice none 0 0] 28)).alloc (.cells #[.int .i64 0, .slice none 0 0] 28))) := by
    have hbb : Below W.heap.size W ((W.alloc (.cells #[.int .i64 0, .slice none 0 0] 28)).alloc (.cells #[.int .i64 0, .slice none 0 0] 28)) := below_alloc (below_alloc (Below.refl _ _) _) _
    have hlt : ∀ i, F0 i → i < W.heap.size := by obtain ⟨M, sl, h⟩ := hW0; exact h.lt
    refine Lib.hid ⟨hW0.below hbb, fun i hi => ⟨hF0 i hi, by have := hlt i hi; omega, by have := hlt i hi; omega⟩, hb0.trans (hbb.mono hb0.size), World.ownsRow_nil _ _ _ _, fun g hg => by simp [Value.ownBlock] at hg, bx_new W _ _ _ _, by simp, hb0.size⟩
  clear hs hW0 hF0 hb0
  go_enter Try.func11, Try.ntmps11
  go_wp2
  go_loopg [21] n (fun gg s21 wr => Hid (PyRel w W.heap.size B n l gg s21 wr))
  case atStart => exact Lib.hid ⟨0, F0, _, by omega, rfl, HST.out⟩
  case round =>
    obtain ⟨j, F, v, hj, rfl, hP⟩ := hrel.out
    clear hrel HST
    obtain ⟨av, cv, rfl, hnv, -⟩ := row_any hP.row
    have HP := Lib.hid hP
    obtain ⟨c0, c1, r0, r1, f0, f1, g0, g1⟩ := hP.bx
    have hsz := hP.sz
    have hl0 : W.heap.size < wr.heap.size := by omega
    have hl1 : W.heap.size + 1 < wr.heap.size := by omega
    by_cases hjn : j < n
    · have hjz : (j : Int) < (n : Int) := by omega
      obtain ⟨b, off, rfl, hbb, d0, d1, d2, hi⟩ := (HS.out.below hP.b).at hjn
      have HNX := Lib.hid (runS_next l (by rw [← HN.out]; exact hjn))
      have hok : OkS (runS (l.take j)) 990 := (runS_ok l j (by rw [← HN.out]; omega)).mono (by omega)
      generalize hX : l[j]! = X at d0 d1 d2 hi HNX
      obtain ⟨xk, xi, xa⟩ := X
      simp only at d0 d1 d2 hi HNX
      generalize hs0 : runS (l.take j) = s at *
      have hba : Below wr.heap.size wr (wr.alloc (.cells #[.int .i64 xk, .int .i64 xi, .int .i64 xa] 38)) := below_alloc (Below.refl _ _) _
      have HD := Lib.hid (rdo_any (k := xk) (i := xi) (a := xa) (row_below hP.row hba) hok)
      have HI := Lib.hid (And.intro hi hok)
      clear hP hi hok hba hs0 hX hbb
      generalize s.l.length = m0 at *
      simp only [rv] at HD
      go_wp2_with (first
        | (go_at_call 22; refine HD.out.mono ?_; rintro e w1 ⟨v1, u1, rfl, hr1, hv1, hu1, hb1⟩; have HR1 := Lib.hid hr1; have HV1 := Lib.hid hv1; have HU1 := Lib.hid hu1; have HB1 := Lib.hid hb1; obtain ⟨a1, c1', rfl, hnc1, -⟩ := row_any hr1; obtain ⟨a2, c2, rfl, hnc2, -⟩ := row_any hu1; have HMID := Lib.hid (py_mid (o2 := .cells #[.int .i64 ((stp s xk xi xa).now : Int), .slice a1 (stp s xk xi xa).l.length c1'] 28) HP.out hb1 hr1 hv1 hu1 _ rfl); have hk0 : W.heap.size < w1.heap.size := (by have := hb1.size; simp at this; omega); have hk1 : W.heap.size + 1 < w1.heap.size := (by have := hb1.size; simp at this; omega); have hx1 := (HP.out.bx.below (below_alloc (Below.refl _ _) (.cells #[.int .i64 xk, .int .i64 xi, .int .i64 xa] 38)) HP.out.sz).below hb1 (by simp; omega); clear c0 c1 r0 r1 f0 f1 g0 g1; obtain ⟨c0, c1, r0, r1, f0, f1, g0, g1⟩ := hx1; have hop : w1.cell? ⟨wr.heap.size, 0, none⟩ = some (.int .i64 xk) ∧ w1.cell? ⟨wr.heap.size, 1, none⟩ = some (.int .i64 xi) ∧ w1.cell? ⟨wr.heap.size, 2, none⟩ = some (.int .i64 xa) := (by refine ⟨?_, ?_, ?_⟩ <;> (rw [World.cell?_of_block (hb1.block _ (by simp))]; simp [go_sem])); obtain ⟨p0, p1, p2⟩ := hop; have hk2 : wr.heap.size < w1.heap.size := (by have := hb1.size; simp at this; omega); clear hr1 hv1 hu1 hb1)
        | (go_at_call 14; obtain ⟨m1, m2, m3, m4, m5, m6, m7, m8⟩ := HMID.out; refine (does_any (k := xk) (i := xi) (a := xa) m1 HI.out.2 HI.out.1).mono ?_; rintro e w2 ⟨vm, F2, rfl, hm, hmf, hW, hFF, hO⟩; have HPY := Lib.hid (py_end HP.out.n HP.out.f m2 m4 m5 m6 m7 hW hFF hO); have HU2 := Lib.hid (row_only m3 hO m8); have HM2 := Lib.hid hm; obtain ⟨a3, c3, rfl, hnc3, -⟩ := row_any hm; have hq := HPY.out.bx; clear c0 c1 r0 r1 f0 f1 g0 g1; obtain ⟨c0, c1, r0, r1, f0, f1, g0, g1⟩ := hq; have HOK2 := Lib.hid (HI.out.2.stp xk xi xa); clear m1 m2 m3 m4 m5 m6 m7 m8 hm hmf hW hFF hO p0 p1 p2)
        | (go_at_call 20; refine (next_any HPY.out.wh HOK2.out.fit HOK2.out.now).mono ?_; rintro e w3 ⟨rfl, rfl⟩)
        | (go_at_call 23; refine (rnext_any (now := (stp s xk xi xa).now) HPY.out.row (by have := HOK2.out.len; omega)).mono ?_; rintro e w3 ⟨rfl, hb3⟩; have HPZ := Lib.hid (HPY.out.below hb3); have HU3 := Lib.hid (row_below HU2.out hb3); have HM3 := Lib.hid (row_below HM2.out hb3); have hq := HPZ.out.bx; clear c0 c1 r0 r1 f0 f1 g0 g1; obtain ⟨c0, c1, r0, r1, f0, f1, g0, g1⟩ := hq; clear hb3))
      have hdl : (tol s xk xa).length ≤ 100000 := by
        unfold tol
        split
        · exact Nat.le_trans (mvD_le HI.out.2 xa) (by omega)
        · simp
      have HQS : ∀ q, Calls Try.prog 21 #[.slice a2 (tol s xk xa).length c2, .slice a3 (tol s xk xa).length c3] (w3.drewN q) fun e w' => e = .returned (.bool true) ∧ ∃ m, w' = (w3.drewN q).drewN m := fun q =>
        (same_any (row_drewN HU3.out q) (row_drewN HM3.out q) hdl).mono fun e w' ⟨he, m, hm⟩ => ⟨by rw [he]; simp, m, hm⟩
      have HQL : ∀ q, Calls Try.prog 18 #[.pointer (some ⟨B, 0, none⟩)] (w3.drewN q) fun e w' => e = .returned (.int .i64 ((stp s xk xi xa).l.length : Int)) ∧ w' = w3.drewN q := fun q =>
        (len_any (HPZ.out.wh.below (below_drewN (Below.refl _ _) q))).mono fun e w' ⟨he, hm⟩ => ⟨he, hm.symm⟩
      have HQN : ∀ q, Calls Try.prog 16 #[.pointer (some ⟨B, 0, none⟩)] (w3.drewN q) fun e w' => e = .returned (.int .i64 ((stp s xk xi xa).now : Int)) ∧ w' = w3.drewN q := fun q =>
        (now_any (HPZ.out.wh.below (below_drewN (Below.refl _ _) q))).mono fun e w' ⟨he, hm⟩ => ⟨he, hm.symm⟩
      have HQ1 := Lib.hid HQS
      have HQ2 := Lib.hid HQL
      have HQ3 := Lib.hid HQN
      clear HQS HQL HQN hdl
      go_quiet (first
        | (go_at_call_of 21 (Value.slice a2 (tol s xk xa).length c2); exact Calls.quiet_of (HQ1.out _))
        | (go_at_call_of 18 (Value.pointer (some ⟨B, 0, none⟩)); exact Calls.quiet_of_same (HQ2.out _))
        | (go_at_call_of 16 (Value.pointer (some ⟨B, 0, none⟩)); exact Calls.quiet_of_same (HQ3.out _)))
      go_wp2
      go_roundg (n - (j + 1))
      case measure => omega
      case rel =>
        refine Lib.hid ⟨j + 1, F2, .slice a1 (stp s xk xi xa).l.length c1', by omega, by go_num, ?_⟩
        rw [HNX.out]
        exact HPZ.out.below (by first | exact below_drewN (Below.refl _ _) _ | exact below_drewN (below_drewN (Below.refl _ _) _) _ | exact below_drew (below_drewN (Below.refl _ _) _))
    · obtain rfl : j = n := by omega
      have hjz : ¬ ((j : Int) < (j : Int)) := by omega
      have he : l.take j = l := List.take_of_length_le (by rw [← HN.out]; exact Nat.le_refl _)
      rw [he] at HP c0
      clear hP
      have HVB : Hid (∀ k, k = W.heap.size + 1 → (Value.slice av (runS l).l.length cv).ownBlock ≠ some k) := Lib.hid (fun k hk e => (HP.out.vb k e).2.2 hk)
      go_wp2
      refine bodyPost_ret (v := .tuple #[.agg #[.int .i64 ((runS l).now : Int), .slice av (runS l).l.length cv], .bool true]) (by simp [results, Try.results11, go_sem, c0, c1, r0, r1]) rfl ⟨_, rfl, ?_, ?_⟩
      · repeat (first | exact HP.out.row | with_reducible refine row_drewN ?_ _ | with_reducible refine row_drew ?_ | with_reducible refine row_put ?_ (HVB.out _ (by simp)) _)
      · refine ⟨F, ?_, fun i hi => (HP.out.f i hi).1, ?_⟩
        · refine HP.out.wh.only (G := fun g => g = W.heap.size + 1) ?_ (fun i hi e => (HP.out.f i hi).2.2 e)
          repeat (first | exact Only.refl _ _ | with_reducible refine Only.drewN ?_ _ | with_reducible refine Only.drew ?_ | with_reducible refine Only.setCell (F := fun g => g = W.heap.size + 1) ?_ (Or.inl (by simp)) _)
        · have hnn := HP.out.n
          repeat (first | exact HP.out.b | with_reducible refine below_drewN ?_ _ | with_reducible refine below_drew ?_ | with_reducible refine Below.setCell ?_ (by simp only []; omega) _)

end Go.Proofs.Ythddphgeepgidaa
