/-
  The walk of FlowsKeys.
-/
import Derived.Test.YtondjponengedaaEndsWalk
import Derived.Test.YtondjponengedaaSame
import Derived.Deep.Cut
import Derived.Deep.CutBlock
import Derived.Deep.CutRange
namespace Go.Proofs.Ytondjponengedaa
open Go.RowKit
set_option linter.unusedVariables false
set_option linter.unusedSimpArgs false
set_option maxRecDepth 10000
attribute [local go_sem ↓] bigS56 entry_eq42

theorem Bx.eleven {w : World} {b : Nat} {t : TypeId} {v0 v1 v2 v3 v4 v5 v6 v7 v8 v9 v10 : Value} (h : Bx w b t [v0, v1, v2, v3, v4, v5, v6, v7, v8, v9, v10]) : w.cell? ⟨b, 0, none⟩ = some v0 ∧ w.cell? ⟨b, 1, none⟩ = some v1 ∧ w.cell? ⟨b, 2, none⟩ = some v2 ∧ w.cell? ⟨b, 3, none⟩ = some v3 ∧ w.cell? ⟨b, 4, none⟩ = some v4 ∧ w.cell? ⟨b, 5, none⟩ = some v5 ∧ w.cell? ⟨b, 6, none⟩ = some v6 ∧ w.cell? ⟨b, 7, none⟩ = some v7 ∧ w.cell? ⟨b, 8, none⟩ = some v8 ∧ w.cell? ⟨b, 9, none⟩ = some v9 ∧ w.cell? ⟨b, 10, none⟩ = some v10 :=
  ⟨h.cell 0, h.cell 1, h.cell 2, h.cell 3, h.cell 4, h.cell 5, h.cell 6, h.cell 7, h.cell 8, h.cell 9, h.cell 10⟩
theorem Pl.other {w W W' : World} {B p : Nat} {k : List Int} {L : List En} (h : Pl w W B k L) (ho : Only (· = p) W W') (hne : ¬ B = p) (hp : w.heap.size ≤ p) : Pl w W' B k L := ⟨h.1.only ho hne, h.2.1, h.2.2.trans (ho.below h.2.2.size fun i hi => by rw [hi]; exact hp)⟩
/-- A call on a table, its answer in letters. -/
theorem does_letters (L : List En) (hL : Fine L) (o : Opr) (hok : OkF o.e.fl) : ∃ (er s1 s4 s5 s6 s7 s8 : Int) (s2 s3 : ByteArray) (m : Nat) (X : List En), m ≤ 1000 ∧ ∀ (w W : World) (B : Nat) (K : List Int), Pl w W B K L →
    Calls Try.prog 24 #[.pointer (some ⟨B, 0, none⟩), opv o] W fun e w' => ∃ a c, e = .returned (.agg #[.int .i64 er, .int .i64 s1, .string s2, .string s3, .int .i64 s4, .int .i64 s5, .int .i64 s6, .int .i64 s7, .int .i64 s8, .slice a m c]) ∧
      w'.ownsRow W.heap.size 42 8 (.slice a m c) m (ecells X) ∧ Pl w w' B K (acts L o).1 ∧ Only (· = B) W w' := by
  refine ⟨(acts L o).2.err, (acts L o).2.seen.fl.proto, (acts L o).2.seen.fl.port, (acts L o).2.seen.fl.dest, (acts L o).2.seen.bk, (acts L o).2.seen.st, (acts L o).2.seen.ends, (acts L o).2.seen.fl.frm, (acts L o).2.seen.fl.to_, (acts L o).2.l.length, (acts L o).2.l, ?_, fun w W B K h => ?_⟩
  · have : (acts L o).2.l.length ≤ 64 := by
      unfold acts
      repeat' split
      all_goals first | exact xpd_len hL _ | (show 0 ≤ 64; omega)
    omega
  · refine (pl_does h o hok).mono ?_
    rintro e w' ⟨v, rfl, hr, hP, ho⟩
    obtain ⟨a, c, rfl, -, -⟩ := row_any hr
    exact ⟨a, c, rfl, hr, hP, ho⟩

def KyRel (w : World) (B C n : Nat) (K J : List Int) (l : List Opr) (gg : Nat) (sj : Value) (wr : World) : Prop :=
  ∃ j : Nat, j + gg = n ∧ sj = .int .i64 j ∧ Pl w wr B K (runS (l.take j)) ∧ Pl w wr C J (runS (l.take j))

set_option maxHeartbeats 8000000 in
theorem keys_walk (Ka Kb : List Int) (a : Option Addr) (n c : Nat) (l : List Opr) (w : World) (hK : Key Ka) (hJ : Key Kb) (hS : Scr w a n c l) :
    Calls Try.prog 8 #[kv Ka, kv Kb, .slice a n c] w fun e w' => e = .returned (.bool true) ∧ Below w.heap.size w w' := by
  have HS := Lib.hid hS
  have HN1 := Lib.hid (fun w => pl_new w hK)
  have HN2 := Lib.hid (fun w => pl_new w hJ)
  have AL := Lib.hid (fun w => alive_any w)
  have HLN := Lib.hid hS.1.1
  obtain ⟨k0, k1, k2, k3, k4, k5, k6, k7, k8, k9, k10, k11, k12, k13, k14, k15, hl⟩ := hK.letters
  obtain ⟨j0, j1, j2, j3, j4, j5, j6, j7, j8, j9, j10, j11, j12, j13, j14, j15, hm⟩ := hJ.letters
  have hh : Ar ((w.alloc (.cells #[.int .u8 k0, .int .u8 k1, .int .u8 k2, .int .u8 k3, .int .u8 k4, .int .u8 k5, .int .u8 k6, .int .u8 k7, .int .u8 k8, .int .u8 k9, .int .u8 k10, .int .u8 k11, .int .u8 k12, .int .u8 k13, .int .u8 k14, .int .u8 k15] 22)).alloc (.cells #[.int .u8 j0, .int .u8 j1, .int .u8 j2, .int .u8 j3, .int .u8 j4, .int .u8 j5, .int .u8 j6, .int .u8 j7, .int .u8 j8, .int .u8 j9, .int .u8 j10, .int .u8 j11, .int .u8 j12, .int .u8 j13, .int .u8 j14, .int .u8 j15] 22)).drew w.heap.size (cel [k0, k1, k2, k3, k4, k5, k6, k7, k8, k9, k10, k11, k12, k13, k14, k15]) ∧ Ar ((w.alloc (.cells #[.int .u8 k0, .int .u8 k1, .int .u8 k2, .int .u8 k3, .int .u8 k4, .int .u8 k5, .int .u8 k6, .int .u8 k7, .int .u8 k8, .int .u8 k9, .int .u8 k10, .int .u8 k11, .int .u8 k12, .int .u8 k13, .int .u8 k14, .int .u8 k15] 22)).alloc (.cells #[.int .u8 j0, .int .u8 j1, .int .u8 j2, .int .u8 j3, .int .u8 j4, .int .u8 j5, .int .u8 j6, .int .u8 j7, .int .u8 j8, .int .u8 j9, .int .u8 j10, .int .u8 j11, .int .u8 j12, .int .u8 j13, .int .u8 j14, .int .u8 j15] 22)).drew (w.heap.size + 1) (cel [j0, j1, j2, j3, j4, j5, j6, j7, j8, j9, j10, j11, j12, j13, j14, j15]) := by
    refine ⟨((Ar.new w _ 22).alloc _).drew, ?_⟩
    have := Ar.new (w.alloc (.cells #[.int .u8 k0, .int .u8 k1, .int .u8 k2, .int .u8 k3, .int .u8 k4, .int .u8 k5, .int .u8 k6, .int .u8 k7, .int .u8 k8, .int .u8 k9, .int .u8 k10, .int .u8 k11, .int .u8 k12, .int .u8 k13, .int .u8 k14, .int .u8 k15] 22)) (cel [j0, j1, j2, j3, j4, j5, j6, j7, j8, j9, j10, j11, j12, j13, j14, j15]) 22
    rw [World.size_alloc] at this
    exact this.drew
  have HKV : Hid (kv Ka = .agg #[.int .u8 k0, .int .u8 k1, .int .u8 k2, .int .u8 k3, .int .u8 k4, .int .u8 k5, .int .u8 k6, .int .u8 k7, .int .u8 k8, .int .u8 k9, .int .u8 k10, .int .u8 k11, .int .u8 k12, .int .u8 k13, .int .u8 k14, .int .u8 k15]) := Lib.hid (by rw [hl, kv_lit])
  have HJV : Hid (kv Kb = .agg #[.int .u8 j0, .int .u8 j1, .int .u8 j2, .int .u8 j3, .int .u8 j4, .int .u8 j5, .int .u8 j6, .int .u8 j7, .int .u8 j8, .int .u8 j9, .int .u8 j10, .int .u8 j11, .int .u8 j12, .int .u8 j13, .int .u8 j14, .int .u8 j15]) := Lib.hid (by rw [hm, kv_lit])
  rw [HKV.out] at HN1 ⊢
  rw [HJV.out] at HN2 ⊢
  have HH := Lib.hid hh
  have HB0 := Lib.hid (show Below w.heap.size w ((w.alloc (.cells #[.int .u8 k0, .int .u8 k1, .int .u8 k2, .int .u8 k3, .int .u8 k4, .int .u8 k5, .int .u8 k6, .int .u8 k7, .int .u8 k8, .int .u8 k9, .int .u8 k10, .int .u8 k11, .int .u8 k12, .int .u8 k13, .int .u8 k14, .int .u8 k15] 22)).alloc (.cells #[.int .u8 j0, .int .u8 j1, .int .u8 j2, .int .u8 j3, .int .u8 j4, .int .u8 j5, .int .u8 j6, .int .u8 j7, .int .u8 j8, .int .u8 j9, .int .u8 j10, .int .u8 j11, .int .u8 j12, .int .u8 j13, .int .u8 j14, .int .u8 j15] 22)).drew from below_drew (below_alloc (below_alloc (Below.refl _ _) _) _))
  clear hK hJ hS hl hm hh
  have hbig : decide ((400 : Int) < (n : Int)) = true ∨ (decide ((400 : Int) < (n : Int)) = false ∧ n ≤ 400) := by
    by_cases h : 400 < n
    · exact .inl (decide_eq_true (by omega))
    · exact .inr ⟨decide_eq_false (by omega), by omega⟩
  go_enter Try.func8, Try.ntmps8
  go_wp2
  refine wp_region_held_drew (S := fun W => (Ar W w.heap.size (cel [k0, k1, k2, k3, k4, k5, k6, k7, k8, k9, k10, k11, k12, k13, k14, k15]) ∧ Ar W (w.heap.size + 1) (cel [j0, j1, j2, j3, j4, j5, j6, j7, j8, j9, j10, j11, j12, j13, j14, j15]))) (by kernel_rfl) HH.out (fun hHeld => ?_)
  refine wpAnyH_take (i := 0) (oi := ({ dst := some 13, op := Go.Op.load 22 (Go.Operand.tmp 3), type := 22, pos := _, after := #[], guard := none } : Oper)) (v := ?_) rfl (by kernel_rfl) (by kernel_rfl) (by kernel_rfl) (fun _ _ _ h => h) (Or.inl ⟨by rfl, ?_⟩) (by assumption) ?_
  rotate_left
  · intro W' hSw
    try dsimp only at hSw
    obtain ⟨c0, c1, c2, c3, c4, c5, c6, c7, c8, c9, c10, c11, c12, c13, c14, c15⟩ := ar16 hSw.1
    go_simp
    try with_reducible rfl
  try simp only [Act.put, List.setIfInBounds_toArray, List.set_cons_zero, List.set_cons_succ]
  refine wpAnyH_take (i := 2) (oi := ({ dst := some 15, op := Go.Op.load 22 (Go.Operand.tmp 4), type := 22, pos := _, after := #[], guard := none } : Oper)) (v := ?_) rfl (by kernel_rfl) (by kernel_rfl) (by kernel_rfl) (fun _ _ _ h => h) (Or.inl ⟨by rfl, ?_⟩) (by assumption) ?_
  rotate_left
  · intro W' hSw
    try dsimp only at hSw
    obtain ⟨c0, c1, c2, c3, c4, c5, c6, c7, c8, c9, c10, c11, c12, c13, c14, c15⟩ := ar16 hSw.2
    go_simp
    try with_reducible rfl
  try simp only [Act.put, List.setIfInBounds_toArray, List.set_cons_zero, List.set_cons_succ]
  refine wpAnyH_ready (rs := [1]) (by kernel_rfl) (by simp) ?_
  refine AllReadyH.cons (o := ({ dst := some 14, op := Go.Op.call { callee := Go.Callee.value (Go.Operand.func 10), args := #[Go.Operand.tmp 13], argTypes := #[66] }, type := 24, pos := _, after := #[{ on := 0, ground := Go.Ground.data }], guard := none } : Oper)) rfl (fun K hK => ?_) AllReadyH.nil
  go_simp
  refine (HN1.out _).mono ?_
  rintro e w1 ⟨B, rfl, hP⟩
  go_wp2_with fail
  refine hK.out _ _ ?_ (fun hHeld => ?_)
  · exact ⟨hHeld.1.below hP.2.2, hHeld.2.below hP.2.2⟩
  clear hK K
  try simp only [Act.put, List.setIfInBounds_toArray, List.set_cons_zero, List.set_cons_succ]
  have HP1 := Lib.hid hP
  clear hP
  refine wpAnyH_ready (rs := [3]) (by kernel_rfl) (by simp) ?_
  refine AllReadyH.cons (o := ({ dst := some 16, op := Go.Op.call { callee := Go.Callee.value (Go.Operand.func 10), args := #[Go.Operand.tmp 15], argTypes := #[66] }, type := 24, pos := _, after := #[{ on := 2, ground := Go.Ground.data }, { on := 1, ground := Go.Ground.chain }], guard := none } : Oper)) rfl (fun K hK => ?_) AllReadyH.nil
  go_simp
  refine (HN2.out _).mono ?_
  rintro e w2 ⟨C, rfl, hP⟩
  go_wp2_with fail
  refine hK.out _ _ ?_ (fun hHeld => ?_)
  · exact ⟨hHeld.1.below hP.2.2, hHeld.2.below hP.2.2⟩
  clear hK K
  try simp only [Act.put, List.setIfInBounds_toArray, List.set_cons_zero, List.set_cons_succ]
  have HP2 := Lib.hid hP
  clear hP
  refine wpAnyH_take (i := 4) (oi := ({ dst := some 7, op := Go.Op.assign (Go.Operand.tmp 14), type := 24, pos := _, after := #[{ on := 1, ground := Go.Ground.data }, { on := 3, ground := Go.Ground.chain }, { on := 0, ground := Go.Ground.phase }, { on := 1, ground := Go.Ground.phase }, { on := 2, ground := Go.Ground.textOnly Go.Departure.lateStores }, { on := 3, ground := Go.Ground.textOnly Go.Departure.lateStoresUnsure }], guard := none } : Oper)) (v := ?_) rfl (by kernel_rfl) (by kernel_rfl) (by kernel_rfl) (fun _ _ _ h => h) (Or.inl ⟨by rfl, ?_⟩) (by assumption) ?_
  rotate_left
  · intro W' hSw
    try dsimp only at hSw
    go_simp
    try with_reducible rfl
  try simp only [Act.put, List.setIfInBounds_toArray, List.set_cons_zero, List.set_cons_succ]
  refine wpAnyH_take (i := 5) (oi := ({ dst := some 8, op := Go.Op.assign (Go.Operand.tmp 16), type := 24, pos := _, after := #[{ on := 3, ground := Go.Ground.data }, { on := 4, ground := Go.Ground.chain }, { on := 0, ground := Go.Ground.phase }, { on := 1, ground := Go.Ground.phase }, { on := 2, ground := Go.Ground.phase }, { on := 3, ground := Go.Ground.phase }, { on := 4, ground := Go.Ground.phase }], guard := none } : Oper)) (v := ?_) rfl (by kernel_rfl) (by kernel_rfl) (by kernel_rfl) (fun _ _ _ h => h) (Or.inl ⟨by rfl, ?_⟩) (by assumption) ?_
  rotate_left
  · intro W' hSw
    try dsimp only at hSw
    go_simp
    try with_reducible rfl
  try simp only [Act.put, List.setIfInBounds_toArray, List.set_cons_zero, List.set_cons_succ]
  refine wpAnyH_done (by kernel_rfl) ?_ _
  have HPa : Hid (Pl w w2 B Ka []) := Lib.hid (by
    have h : Pl w w1 B Ka [] := ⟨HP1.out.1, Nat.le_trans HB0.out.size HP1.out.2.1, HB0.out.trans (HP1.out.2.2.mono HB0.out.size)⟩
    exact h.grow HP2.out.2.2)
  have HPb : Hid (Pl w w2 C Kb []) := Lib.hid (by
    have h1 : Below w.heap.size w w1 := HB0.out.trans (HP1.out.2.2.mono HB0.out.size)
    exact ⟨HP2.out.1, Nat.le_trans h1.size HP2.out.2.1, h1.trans (HP2.out.2.2.mono h1.size)⟩)
  have hBC : B < C := Nat.lt_of_lt_of_le HP1.out.1.lt HP2.out.2.1
  clear HP1 HP2 hHeld
  rcases hbig with hz | ⟨hz, h400⟩
  · go_wp2_with fail
    refine (AL.out _).mono ?_
    rintro e w3 ⟨rfl, hb3⟩
    go_wp2
    go_ret
    exact ⟨rfl, below_then HPa.out.2.2 HPa.out.2.2.size hb3⟩
  · go_wp2
    go_loopg [10, 11, 12, 39] n (fun gg s10 s11 s12 s39 wr => Hid (KyRel w B C n Ka Kb l gg s39 wr))
    case atStart => exact Lib.hid ⟨0, by omega, rfl, HPa.out, HPb.out⟩
    case round =>
      obtain ⟨j, hj, rfl, hP, hQ⟩ := hrel.out
      clear hrel
      have HP := Lib.hid hP
      have HQ := Lib.hid hQ
      by_cases hlt : j < n
      · have hltz : (j : Int) < (n : Int) := by omega
        obtain ⟨sb, so, rfl, hsb, hat, hokx⟩ := (HS.out.below HP.out.2.2).at hlt
        obtain ⟨d0, d1, d2, d3, d4, d5, d6, d7, d8, d9, d10⟩ := hat
        have hnx := runS_next l (j := j) (by rw [← HLN.out]; exact hlt)
        have hfine := hP.1.fine
        generalize l[j]! = x at d0 d1 d2 d3 d4 d5 d6 d7 d8 d9 d10 hokx hnx
        generalize runS (l.take j) = L at *
        obtain ⟨er, s1, s4, s5, s6, s7, s8, s2, s3, m, X, hm9, hdo⟩ := does_letters L hfine x hokx
        rw [← hnx] at hdo
        have HDO := Lib.hid (fun W B Ka h => hdo w W B Ka h)
        have hB0 := HP.out.1.lt
        have hC0 := HQ.out.1.lt
        have hwB := HP.out.2.1
        have hwC := HQ.out.2.1
        have HBX := Lib.hid (show Bx (wr.alloc (.cells (ocs x).toArray 53)).drew wr.heap.size 53 (ocs x) from Bx.new wr (ocs x) 53)
        have T1q := Lib.hid (show Pl w (wr.alloc (.cells (ocs x).toArray 53)).drew B Ka L from hP.grow (below_drew (below_alloc (Below.refl _ _) _)))
        have T2q := Lib.hid (show Pl w (wr.alloc (.cells (ocs x).toArray 53)).drew C Kb L from hQ.grow (below_drew (below_alloc (Below.refl _ _) _)))
        clear hP hQ hnx hokx hfine hdo HP HQ
        obtain ⟨kd, fl, nw, ⟨⟨x1, x2, x3, x4, x5⟩, x6, x7, x8⟩⟩ := x
        simp only [ocs, ecs, opv] at HDO HBX T1q T2q
        simp only at d0 d1 d2 d3 d4 d5 d6 d7 d8 d9 d10
        go_upto_region 7 with fail
        go_cut [11, 12] from 43 to 48 (fun s11 s12 wx => Hid (∃ (p1 p2 : Nat) (l1 : Option Addr) (d1 : Nat) (l2 : Option Addr) (d2 : Nat), s11 = .pointer (some ⟨p1, 0, none⟩) ∧ s12 = .pointer (some ⟨p2, 0, none⟩) ∧ Pl w wx B Ka (runS (l.take (j + 1))) ∧ Pl w wx C Kb (runS (l.take (j + 1))) ∧
          Bx wx p1 56 [.int .i64 er, .int .i64 s1, .string s2, .string s3, .int .i64 s4, .int .i64 s5, .int .i64 s6, .int .i64 s7, .int .i64 s8, .slice l1 m d1] ∧ Bx wx p2 56 [.int .i64 er, .int .i64 s1, .string s2, .string s3, .int .i64 s4, .int .i64 s5, .int .i64 s6, .int .i64 s7, .int .i64 s8, .slice l2 m d2] ∧ wx.ownsRow 0 42 8 (.slice l1 m d1) m (ecells X) ∧ wx.ownsRow 0 42 8 (.slice l2 m d2) m (ecells X)))
        case first =>
          refine wp_region_held_drew (S := fun W => Bx W wr.heap.size 53 [.int .i64 kd, .int .i64 fl, .int .i64 nw, .int .i64 x1, .string x2, .string x3, .int .i64 x4, .int .i64 x5, .int .i64 x6, .int .i64 x7, .int .i64 x8]) (by kernel_rfl) HBX.out (fun hHeld => ?_)
          refine wpAnyH_take (i := 0) (oi := ({ dst := some 43, op := Go.Op.move (Go.Operand.tmp 7), type := 24, pos := _, after := #[], guard := none } : Oper)) (v := ?_) rfl (by kernel_rfl) (by kernel_rfl) (by kernel_rfl) (fun _ _ _ h => h) (Or.inl ⟨by rfl, ?_⟩) (by assumption) ?_
          rotate_left
          · intro W' hSw
            try dsimp only at hSw
            go_simp
            try with_reducible rfl
          try simp only [Act.put, List.setIfInBounds_toArray, List.set_cons_zero, List.set_cons_succ]
          refine wpAnyH_take (i := 1) (oi := ({ dst := some 44, op := Go.Op.load 53 (Go.Operand.tmp 10), type := 53, pos := _, after := #[], guard := none } : Oper)) (v := ?_) rfl (by kernel_rfl) (by kernel_rfl) (by kernel_rfl) (fun _ _ _ h => h) (Or.inl ⟨by rfl, ?_⟩) (by assumption) ?_
          rotate_left
          · intro W' hSw
            try dsimp only at hSw
            obtain ⟨b0, b1, b2, b3, b4, b5, b6, b7, b8, b9, b10⟩ := Bx.eleven hSw
            go_simp
            try with_reducible rfl
          try simp only [Act.put, List.setIfInBounds_toArray, List.set_cons_zero, List.set_cons_succ]
          refine wpAnyH_take (i := 3) (oi := ({ dst := some 46, op := Go.Op.move (Go.Operand.tmp 8), type := 24, pos := _, after := #[], guard := none } : Oper)) (v := ?_) rfl (by kernel_rfl) (by kernel_rfl) (by kernel_rfl) (fun _ _ _ h => h) (Or.inl ⟨by rfl, ?_⟩) (by assumption) ?_
          rotate_left
          · intro W' hSw
            try dsimp only at hSw
            go_simp
            try with_reducible rfl
          try simp only [Act.put, List.setIfInBounds_toArray, List.set_cons_zero, List.set_cons_succ]
          refine wpAnyH_take (i := 4) (oi := ({ dst := some 47, op := Go.Op.load 53 (Go.Operand.tmp 10), type := 53, pos := _, after := #[], guard := none } : Oper)) (v := ?_) rfl (by kernel_rfl) (by kernel_rfl) (by kernel_rfl) (fun _ _ _ h => h) (Or.inl ⟨by rfl, ?_⟩) (by assumption) ?_
          rotate_left
          · intro W' hSw
            try dsimp only at hSw
            obtain ⟨b0, b1, b2, b3, b4, b5, b6, b7, b8, b9, b10⟩ := Bx.eleven hSw
            go_simp
            try with_reducible rfl
          try simp only [Act.put, List.setIfInBounds_toArray, List.set_cons_zero, List.set_cons_succ]
          refine wpAnyH_ready (rs := [2, 6, 7]) (by kernel_rfl) (by simp) ?_
          refine (AllReadyH.cons (o := ({ dst := some 45, op := Go.Op.call { callee := Go.Callee.value (Go.Operand.func 24), args := #[Go.Operand.tmp 43, Go.Operand.tmp 44], argTypes := #[24, 53] }, type := 56, pos := _, after := #[{ on := 0, ground := Go.Ground.data }, { on := 1, ground := Go.Ground.data }], guard := none } : Oper)) rfl (fun K hK => ?_) (AllReadyH.cons (o := ({ dst := some 11, op := Go.Op.alloc 56, type := 0, pos := _, after := #[], guard := none } : Oper)) rfl (fun K hK => ?_) (AllReadyH.cons (o := ({ dst := some 12, op := Go.Op.alloc 56, type := 0, pos := _, after := #[], guard := none } : Oper)) rfl (fun K hK => ?_) AllReadyH.nil)))
          · go_simp
            have HD := Lib.hid (HDO.out (wr.alloc (.cells #[.int .i64 kd, .int .i64 fl, .int .i64 nw, .int .i64 x1, .string x2, .string x3, .int .i64 x4, .int .i64 x5, .int .i64 x6, .int .i64 x7, .int .i64 x8] 53)).drew B Ka T1q.out)
            refine HD.out.mono ?_
            rintro e w1 ⟨l1, d1, rfl, hr1, hP1, ho1⟩
            go_wp2_with fail
            refine hK.out _ _ ?_ (fun hHeld => ?_)
            · exact hHeld.only ho1 (by omega)
            clear hK K
            try simp only [Act.put, List.setIfInBounds_toArray, List.set_cons_zero, List.set_cons_succ]
            have hz : (wr.alloc (.cells #[.int .i64 kd, .int .i64 fl, .int .i64 nw, .int .i64 x1, .string x2, .string x3, .int .i64 x4, .int .i64 x5, .int .i64 x6, .int .i64 x7, .int .i64 x8] 53)).drew.heap.size = wr.heap.size + 1 := by show (wr.alloc (.cells #[.int .i64 kd, .int .i64 fl, .int .i64 nw, .int .i64 x1, .string x2, .string x3, .int .i64 x4, .int .i64 x5, .int .i64 x6, .int .i64 x7, .int .i64 x8] 53)).heap.size = _; simp
            have hs1 : wr.heap.size + 1 ≤ w1.heap.size := by rw [← hz]; exact ho1.size
            have RB1 := Lib.hid (show ∀ g, Value.ownBlock (.slice l1 m d1) = some g → wr.heap.size + 1 ≤ g ∧ g < w1.heap.size from fun g hg => by have h := hr1.lt g hg; rw [hz] at h; exact h)
            clear hz
            have T1q2 := Lib.hid hP1
            have R1q2 := Lib.hid (row_base hr1 (Nat.zero_le _))
            have T2q2 := Lib.hid (T2q.out.other ho1 (by omega) (by omega))
            clear hr1 hP1 ho1 HD
            refine wpAnyH_ready (rs := [5, 6, 7]) (by kernel_rfl) (by simp) ?_
            refine (AllReadyH.cons (o := ({ dst := some 48, op := Go.Op.call { callee := Go.Callee.value (Go.Operand.func 24), args := #[Go.Operand.tmp 46, Go.Operand.tmp 47], argTypes := #[24, 53] }, type := 56, pos := _, after := #[{ on := 3, ground := Go.Ground.data }, { on := 4, ground := Go.Ground.data }, { on := 2, ground := Go.Ground.chain }], guard := none } : Oper)) rfl (fun K hK => ?_) (AllReadyH.cons (o := ({ dst := some 11, op := Go.Op.alloc 56, type := 0, pos := _, after := #[], guard := none } : Oper)) rfl (fun K hK => ?_) (AllReadyH.cons (o := ({ dst := some 12, op := Go.Op.alloc 56, type := 0, pos := _, after := #[], guard := none } : Oper)) rfl (fun K hK => ?_) AllReadyH.nil)))
            · go_simp
              have HD := Lib.hid (HDO.out w1 C Kb T2q2.out)
              refine HD.out.mono ?_
              rintro e w2 ⟨l2, d2, rfl, hr1, hP1, ho1⟩
              go_wp2_with fail
              refine hK.out _ _ ?_ (fun hHeld => ?_)
              · exact hHeld.only ho1 (by omega)
              clear hK K
              try simp only [Act.put, List.setIfInBounds_toArray, List.set_cons_zero, List.set_cons_succ]
              have hz : w1.heap.size = w1.heap.size := by rfl
              have hs2 : w1.heap.size ≤ w2.heap.size := by rw [← hz]; exact ho1.size
              have RB2 := Lib.hid (show ∀ g, Value.ownBlock (.slice l2 m d2) = some g → w1.heap.size ≤ g ∧ g < w2.heap.size from fun g hg => by have h := hr1.lt g hg; rw [hz] at h; exact h)
              clear hz
              have T2q25 := Lib.hid hP1
              have R2q25 := Lib.hid (row_base hr1 (Nat.zero_le _))
              have T1q25 := Lib.hid (T1q2.out.other ho1 (by omega) (by omega))
              have R1q25 := Lib.hid (row_only R1q2.out ho1 fun g hg => by have := RB1.out g hg; omega)
              clear hr1 hP1 ho1 HD
              refine wpAnyH_ready (rs := [6, 7]) (by kernel_rfl) (by simp) ?_
              refine (AllReadyH.cons (o := ({ dst := some 11, op := Go.Op.alloc 56, type := 0, pos := _, after := #[], guard := none } : Oper)) rfl (fun K hK => ?_) (AllReadyH.cons (o := ({ dst := some 12, op := Go.Op.alloc 56, type := 0, pos := _, after := #[], guard := none } : Oper)) rfl (fun K hK => ?_) AllReadyH.nil))
              · go_simp
                refine hK.out _ _ ?_ (fun hHeld => ?_)
                · exact hHeld.alloc _
                clear hK K
                try simp only [Act.put, List.setIfInBounds_toArray, List.set_cons_zero, List.set_cons_succ]
                have hbA : Below w2.heap.size w2 (w2.alloc (.cells #[.int .i64 0, .int .i64 0, .string { data := #[] }, .string { data := #[] }, .int .i64 0, .int .i64 0, .int .i64 0, .int .i64 0, .int .i64 0, .slice none 0 0] 56)) := by
                  have h := below_alloc (Below.refl w2.heap.size w2) (.cells #[.int .i64 0, .int .i64 0, .string { data := #[] }, .string { data := #[] }, .int .i64 0, .int .i64 0, .int .i64 0, .int .i64 0, .int .i64 0, .slice none 0 0] 56)
                  exact ⟨h.os, h.tape, h.output, h.size, h.block⟩
                have X1q256 : Hid (Bx (w2.alloc (.cells #[.int .i64 0, .int .i64 0, .string { data := #[] }, .string { data := #[] }, .int .i64 0, .int .i64 0, .int .i64 0, .int .i64 0, .int .i64 0, .slice none 0 0] 56)) (w2.heap.size) 56 [.int .i64 0, .int .i64 0, .string { data := #[] }, .string { data := #[] }, .int .i64 0, .int .i64 0, .int .i64 0, .int .i64 0, .int .i64 0, .slice none 0 0]) := Lib.hid (by
                  have h := Bx.new w2 [.int .i64 0, .int .i64 0, .string { data := #[] }, .string { data := #[] }, .int .i64 0, .int .i64 0, .int .i64 0, .int .i64 0, .int .i64 0, .slice none 0 0] 56
                  have hz : w2.heap.size = w2.heap.size := by rfl
                  rw [hz] at h
                  exact h)
                have T1q256 := Lib.hid (T1q25.out.grow hbA)
                have T2q256 := Lib.hid (T2q25.out.grow hbA)
                have R1q256 := Lib.hid (row_below R1q25.out hbA)
                have R2q256 := Lib.hid (row_below R2q25.out hbA)
                clear hbA
                refine wpAnyH_ready (rs := [7]) (by kernel_rfl) (by simp) ?_
                refine AllReadyH.cons (o := ({ dst := some 12, op := Go.Op.alloc 56, type := 0, pos := _, after := #[], guard := none } : Oper)) rfl (fun K hK => ?_) AllReadyH.nil
                go_simp
                refine hK.out _ _ ?_ (fun hHeld => ?_)
                · exact hHeld.alloc _
                clear hK K
                try simp only [Act.put, List.setIfInBounds_toArray, List.set_cons_zero, List.set_cons_succ]
                have hbA : Below (w2.alloc (.cells #[.int .i64 0, .int .i64 0, .string { data := #[] }, .string { data := #[] }, .int .i64 0, .int .i64 0, .int .i64 0, .int .i64 0, .int .i64 0, .slice none 0 0] 56)).heap.size (w2.alloc (.cells #[.int .i64 0, .int .i64 0, .string { data := #[] }, .string { data := #[] }, .int .i64 0, .int .i64 0, .int .i64 0, .int .i64 0, .int .i64 0, .slice none 0 0] 56)) ((w2.alloc (.cells #[.int .i64 0, .int .i64 0, .string { data := #[] }, .string { data := #[] }, .int .i64 0, .int .i64 0, .int .i64 0, .int .i64 0, .int .i64 0, .slice none 0 0] 56)).alloc (.cells #[.int .i64 0, .int .i64 0, .string { data := #[] }, .string { data := #[] }, .int .i64 0, .int .i64 0, .int .i64 0, .int .i64 0, .int .i64 0, .slice none 0 0] 56)) := by
                  have h := below_alloc (Below.refl (w2.alloc (.cells #[.int .i64 0, .int .i64 0, .string { data := #[] }, .string { data := #[] }, .int .i64 0, .int .i64 0, .int .i64 0, .int .i64 0, .int .i64 0, .slice none 0 0] 56)).heap.size (w2.alloc (.cells #[.int .i64 0, .int .i64 0, .string { data := #[] }, .string { data := #[] }, .int .i64 0, .int .i64 0, .int .i64 0, .int .i64 0, .int .i64 0, .slice none 0 0] 56))) (.cells #[.int .i64 0, .int .i64 0, .string { data := #[] }, .string { data := #[] }, .int .i64 0, .int .i64 0, .int .i64 0, .int .i64 0, .int .i64 0, .slice none 0 0] 56)
                  exact ⟨h.os, h.tape, h.output, h.size, h.block⟩
                have X2q2567 : Hid (Bx ((w2.alloc (.cells #[.int .i64 0, .int .i64 0, .string { data := #[] }, .string { data := #[] }, .int .i64 0, .int .i64 0, .int .i64 0, .int .i64 0, .int .i64 0, .slice none 0 0] 56)).alloc (.cells #[.int .i64 0, .int .i64 0, .string { data := #[] }, .string { data := #[] }, .int .i64 0, .int .i64 0, .int .i64 0, .int .i64 0, .int .i64 0, .slice none 0 0] 56)) (w2.heap.size + 1) 56 [.int .i64 0, .int .i64 0, .string { data := #[] }, .string { data := #[] }, .int .i64 0, .int .i64 0, .int .i64 0, .int .i64 0, .int .i64 0, .slice none 0 0]) := Lib.hid (by
                  have h := Bx.new (w2.alloc (.cells #[.int .i64 0, .int .i64 0, .string { data := #[] }, .string { data := #[] }, .int .i64 0, .int .i64 0, .int .i64 0, .int .i64 0, .int .i64 0, .slice none 0 0] 56)) [.int .i64 0, .int .i64 0, .string { data := #[] }, .string { data := #[] }, .int .i64 0, .int .i64 0, .int .i64 0, .int .i64 0, .int .i64 0, .slice none 0 0] 56
                  have hz : (w2.alloc (.cells #[.int .i64 0, .int .i64 0, .string { data := #[] }, .string { data := #[] }, .int .i64 0, .int .i64 0, .int .i64 0, .int .i64 0, .int .i64 0, .slice none 0 0] 56)).heap.size = w2.heap.size + 1 := by simp
                  rw [hz] at h
                  exact h)
                have T1q2567 := Lib.hid (T1q256.out.grow hbA)
                have T2q2567 := Lib.hid (T2q256.out.grow hbA)
                have R1q2567 := Lib.hid (row_below R1q256.out hbA)
                have R2q2567 := Lib.hid (row_below R2q256.out hbA)
                have X1q2567 := Lib.hid (X1q256.out.below hbA)
                clear hbA
                obtain ⟨w8, hst8, hbx8, ho8⟩ := store56 X1q2567.out rfl er s1 s4 s5 s6 s7 s8 s2 s3 (.slice l1 m d1) rfl
                have X2e := Lib.hid (X2q2567.out.only ho8 (by omega))
                obtain ⟨w9, hst9, hbx9, ho9⟩ := store56 X2e.out rfl er s1 s4 s5 s6 s7 s8 s2 s3 (.slice l2 m d2) rfl
                have HO8 := Lib.hid ho8
                have HO9 := Lib.hid ho9
                have X1f := Lib.hid (hbx8.only ho9 (by omega))
                have X2f := Lib.hid hbx9
                have T1f := Lib.hid ((T1q2567.out.other ho8 (by omega) (by omega)).other ho9 (by omega) (by omega))
                have T2f := Lib.hid ((T2q2567.out.other ho8 (by omega) (by omega)).other ho9 (by omega) (by omega))
                have R1f := Lib.hid (row_only (row_only R1q2567.out ho8 fun g hg => by have := RB1.out g hg; omega) ho9 fun g hg => by have := RB1.out g hg; omega)
                have R2f := Lib.hid (row_only (row_only R2q2567.out ho8 fun g hg => by have := RB2.out g hg; omega) ho9 fun g hg => by have := RB2.out g hg; omega)
                clear hbx8 hbx9 ho8 ho9
                refine wpAnyH_ready (rs := [8]) (by kernel_rfl) (by simp) ?_
                refine AllReadyH.cons (o := ({ dst := none, op := Go.Op.store 56 (Go.Operand.tmp 11) (Go.Operand.tmp 45), type := 0, pos := _, after := #[{ on := 6, ground := Go.Ground.data }, { on := 2, ground := Go.Ground.data }, { on := 5, ground := Go.Ground.chain }, { on := 0, ground := Go.Ground.phase }, { on := 1, ground := Go.Ground.phase }, { on := 2, ground := Go.Ground.phase }, { on := 3, ground := Go.Ground.textOnly Go.Departure.lateStores }, { on := 4, ground := Go.Ground.textOnly Go.Departure.lateStores }, { on := 5, ground := Go.Ground.textOnly Go.Departure.lateStoresUnsure }, { on := 6, ground := Go.Ground.phase }, { on := 7, ground := Go.Ground.phase }], guard := none } : Oper)) rfl (fun K hK => ?_) AllReadyH.nil
                go_simp
                refine hK.out _ _ ?_ (fun hHeld => ?_)
                · exact hHeld.only HO8.out (by omega)
                clear hK K
                try simp only [Act.put, List.setIfInBounds_toArray, List.set_cons_zero, List.set_cons_succ]
                refine wpAnyH_ready (rs := [9]) (by kernel_rfl) (by simp) ?_
                refine AllReadyH.cons (o := ({ dst := none, op := Go.Op.store 56 (Go.Operand.tmp 12) (Go.Operand.tmp 48), type := 0, pos := _, after := #[{ on := 7, ground := Go.Ground.data }, { on := 5, ground := Go.Ground.data }, { on := 8, ground := Go.Ground.chain }, { on := 0, ground := Go.Ground.phase }, { on := 1, ground := Go.Ground.phase }, { on := 2, ground := Go.Ground.phase }, { on := 3, ground := Go.Ground.phase }, { on := 4, ground := Go.Ground.phase }, { on := 5, ground := Go.Ground.phase }, { on := 6, ground := Go.Ground.phase }, { on := 7, ground := Go.Ground.phase }, { on := 8, ground := Go.Ground.phase }], guard := none } : Oper)) rfl (fun K hK => ?_) AllReadyH.nil
                go_simp
                refine hK.out _ _ ?_ (fun hHeld => ?_)
                · exact hHeld.only HO9.out (by omega)
                clear hK K
                try simp only [Act.put, List.setIfInBounds_toArray, List.set_cons_zero, List.set_cons_succ]
                refine wpAnyH_done (by kernel_rfl) ?_ _
                go_wp2
                go_meet
                case rel => exact Lib.hid ⟨_, _, l1, d1, l2, d2, rfl, rfl, T1f.out, T2f.out, X1f.out, X2f.out, R1f.out, R2f.out⟩
              · go_simp
                refine hK.out _ _ ?_ (fun hHeld => ?_)
                · exact hHeld.alloc _
                clear hK K
                try simp only [Act.put, List.setIfInBounds_toArray, List.set_cons_zero, List.set_cons_succ]
                have hbA : Below w2.heap.size w2 (w2.alloc (.cells #[.int .i64 0, .int .i64 0, .string { data := #[] }, .string { data := #[] }, .int .i64 0, .int .i64 0, .int .i64 0, .int .i64 0, .int .i64 0, .slice none 0 0] 56)) := by
                  have h := below_alloc (Below.refl w2.heap.size w2) (.cells #[.int .i64 0, .int .i64 0, .string { data := #[] }, .string { data := #[] }, .int .i64 0, .int .i64 0, .int .i64 0, .int .i64 0, .int .i64 0, .slice none 0 0] 56)
                  exact ⟨h.os, h.tape, h.output, h.size, h.block⟩
                have X2q257 : Hid (Bx (w2.alloc (.cells #[.int .i64 0, .int .i64 0, .string { data := #[] }, .string { data := #[] }, .int .i64 0, .int .i64 0, .int .i64 0, .int .i64 0, .int .i64 0, .slice none 0 0] 56)) (w2.heap.size) 56 [.int .i64 0, .int .i64 0, .string { data := #[] }, .string { data := #[] }, .int .i64 0, .int .i64 0, .int .i64 0, .int .i64 0, .int .i64 0, .slice none 0 0]) := Lib.hid (by
                  have h := Bx.new w2 [.int .i64 0, .int .i64 0, .string { data := #[] }, .string { data := #[] }, .int .i64 0, .int .i64 0, .int .i64 0, .int .i64 0, .int .i64 0, .slice none 0 0] 56
                  have hz : w2.heap.size = w2.heap.size := by rfl
                  rw [hz] at h
                  exact h)
                have T1q257 := Lib.hid (T1q25.out.grow hbA)
                have T2q257 := Lib.hid (T2q25.out.grow hbA)
                have R1q257 := Lib.hid (row_below R1q25.out hbA)
                have R2q257 := Lib.hid (row_below R2q25.out hbA)
                clear hbA
                refine wpAnyH_ready (rs := [6]) (by kernel_rfl) (by simp) ?_
                refine AllReadyH.cons (o := ({ dst := some 11, op := Go.Op.alloc 56, type := 0, pos := _, after := #[], guard := none } : Oper)) rfl (fun K hK => ?_) AllReadyH.nil
                go_simp
                refine hK.out _ _ ?_ (fun hHeld => ?_)
                · exact hHeld.alloc _
                clear hK K
                try simp only [Act.put, List.setIfInBounds_toArray, List.set_cons_zero, List.set_cons_succ]
                have hbA : Below (w2.alloc (.cells #[.int .i64 0, .int .i64 0, .string { data := #[] }, .string { data := #[] }, .int .i64 0, .int .i64 0, .int .i64 0, .int .i64 0, .int .i64 0, .slice none 0 0] 56)).heap.size (w2.alloc (.cells #[.int .i64 0, .int .i64 0, .string { data := #[] }, .string { data := #[] }, .int .i64 0, .int .i64 0, .int .i64 0, .int .i64 0, .int .i64 0, .slice none 0 0] 56)) ((w2.alloc (.cells #[.int .i64 0, .int .i64 0, .string { data := #[] }, .string { data := #[] }, .int .i64 0, .int .i64 0, .int .i64 0, .int .i64 0, .int .i64 0, .slice none 0 0] 56)).alloc (.cells #[.int .i64 0, .int .i64 0, .string { data := #[] }, .string { data := #[] }, .int .i64 0, .int .i64 0, .int .i64 0, .int .i64 0, .int .i64 0, .slice none 0 0] 56)) := by
                  have h := below_alloc (Below.refl (w2.alloc (.cells #[.int .i64 0, .int .i64 0, .string { data := #[] }, .string { data := #[] }, .int .i64 0, .int .i64 0, .int .i64 0, .int .i64 0, .int .i64 0, .slice none 0 0] 56)).heap.size (w2.alloc (.cells #[.int .i64 0, .int .i64 0, .string { data := #[] }, .string { data := #[] }, .int .i64 0, .int .i64 0, .int .i64 0, .int .i64 0, .int .i64 0, .slice none 0 0] 56))) (.cells #[.int .i64 0, .int .i64 0, .string { data := #[] }, .string { data := #[] }, .int .i64 0, .int .i64 0, .int .i64 0, .int .i64 0, .int .i64 0, .slice none 0 0] 56)
                  exact ⟨h.os, h.tape, h.output, h.size, h.block⟩
                have X1q2576 : Hid (Bx ((w2.alloc (.cells #[.int .i64 0, .int .i64 0, .string { data := #[] }, .string { data := #[] }, .int .i64 0, .int .i64 0, .int .i64 0, .int .i64 0, .int .i64 0, .slice none 0 0] 56)).alloc (.cells #[.int .i64 0, .int .i64 0, .string { data := #[] }, .string { data := #[] }, .int .i64 0, .int .i64 0, .int .i64 0, .int .i64 0, .int .i64 0, .slice none 0 0] 56)) (w2.heap.size + 1) 56 [.int .i64 0, .int .i64 0, .string { data := #[] }, .string { data := #[] }, .int .i64 0, .int .i64 0, .int .i64 0, .int .i64 0, .int .i64 0, .slice none 0 0]) := Lib.hid (by
                  have h := Bx.new (w2.alloc (.cells #[.int .i64 0, .int .i64 0, .string { data := #[] }, .string { data := #[] }, .int .i64 0, .int .i64 0, .int .i64 0, .int .i64 0, .int .i64 0, .slice none 0 0] 56)) [.int .i64 0, .int .i64 0, .string { data := #[] }, .string { data := #[] }, .int .i64 0, .int .i64 0, .int .i64 0, .int .i64 0, .int .i64 0, .slice none 0 0] 56
                  have hz : (w2.alloc (.cells #[.int .i64 0, .int .i64 0, .string { data := #[] }, .string { data := #[] }, .int .i64 0, .int .i64 0, .int .i64 0, .int .i64 0, .int .i64 0, .slice none 0 0] 56)).heap.size = w2.heap.size + 1 := by simp
                  rw [hz] at h
                  exact h)
                have T1q2576 := Lib.hid (T1q257.out.grow hbA)
                have T2q2576 := Lib.hid (T2q257.out.grow hbA)
                have R1q2576 := Lib.hid (row_below R1q257.out hbA)
                have R2q2576 := Lib.hid (row_below R2q257.out hbA)
                have X2q2576 := Lib.hid (X2q257.out.below hbA)
                clear hbA
                obtain ⟨w8, hst8, hbx8, ho8⟩ := store56 X1q2576.out rfl er s1 s4 s5 s6 s7 s8 s2 s3 (.slice l1 m d1) rfl
                have X2e := Lib.hid (X2q2576.out.only ho8 (by omega))
                obtain ⟨w9, hst9, hbx9, ho9⟩ := store56 X2e.out rfl er s1 s4 s5 s6 s7 s8 s2 s3 (.slice l2 m d2) rfl
                have HO8 := Lib.hid ho8
                have HO9 := Lib.hid ho9
                have X1f := Lib.hid (hbx8.only ho9 (by omega))
                have X2f := Lib.hid hbx9
                have T1f := Lib.hid ((T1q2576.out.other ho8 (by omega) (by omega)).other ho9 (by omega) (by omega))
                have T2f := Lib.hid ((T2q2576.out.other ho8 (by omega) (by omega)).other ho9 (by omega) (by omega))
                have R1f := Lib.hid (row_only (row_only R1q2576.out ho8 fun g hg => by have := RB1.out g hg; omega) ho9 fun g hg => by have := RB1.out g hg; omega)
                have R2f := Lib.hid (row_only (row_only R2q2576.out ho8 fun g hg => by have := RB2.out g hg; omega) ho9 fun g hg => by have := RB2.out g hg; omega)
                clear hbx8 hbx9 ho8 ho9
                refine wpAnyH_ready (rs := [8]) (by kernel_rfl) (by simp) ?_
                refine AllReadyH.cons (o := ({ dst := none, op := Go.Op.store 56 (Go.Operand.tmp 11) (Go.Operand.tmp 45), type := 0, pos := _, after := #[{ on := 6, ground := Go.Ground.data }, { on := 2, ground := Go.Ground.data }, { on := 5, ground := Go.Ground.chain }, { on := 0, ground := Go.Ground.phase }, { on := 1, ground := Go.Ground.phase }, { on := 2, ground := Go.Ground.phase }, { on := 3, ground := Go.Ground.textOnly Go.Departure.lateStores }, { on := 4, ground := Go.Ground.textOnly Go.Departure.lateStores }, { on := 5, ground := Go.Ground.textOnly Go.Departure.lateStoresUnsure }, { on := 6, ground := Go.Ground.phase }, { on := 7, ground := Go.Ground.phase }], guard := none } : Oper)) rfl (fun K hK => ?_) AllReadyH.nil
                go_simp
                refine hK.out _ _ ?_ (fun hHeld => ?_)
                · exact hHeld.only HO8.out (by omega)
                clear hK K
                try simp only [Act.put, List.setIfInBounds_toArray, List.set_cons_zero, List.set_cons_succ]
                refine wpAnyH_ready (rs := [9]) (by kernel_rfl) (by simp) ?_
                refine AllReadyH.cons (o := ({ dst := none, op := Go.Op.store 56 (Go.Operand.tmp 12) (Go.Operand.tmp 48), type := 0, pos := _, after := #[{ on := 7, ground := Go.Ground.data }, { on := 5, ground := Go.Ground.data }, { on := 8, ground := Go.Ground.chain }, { on := 0, ground := Go.Ground.phase }, { on := 1, ground := Go.Ground.phase }, { on := 2, ground := Go.Ground.phase }, { on := 3, ground := Go.Ground.phase }, { on := 4, ground := Go.Ground.phase }, { on := 5, ground := Go.Ground.phase }, { on := 6, ground := Go.Ground.phase }, { on := 7, ground := Go.Ground.phase }, { on := 8, ground := Go.Ground.phase }], guard := none } : Oper)) rfl (fun K hK => ?_) AllReadyH.nil
                go_simp
                refine hK.out _ _ ?_ (fun hHeld => ?_)
                · exact hHeld.only HO9.out (by omega)
                clear hK K
                try simp only [Act.put, List.setIfInBounds_toArray, List.set_cons_zero, List.set_cons_succ]
                refine wpAnyH_done (by kernel_rfl) ?_ _
                go_wp2
                go_meet
                case rel => exact Lib.hid ⟨_, _, l1, d1, l2, d2, rfl, rfl, T1f.out, T2f.out, X1f.out, X2f.out, R1f.out, R2f.out⟩
            · go_simp
              refine hK.out _ _ ?_ (fun hHeld => ?_)
              · exact hHeld.alloc _
              clear hK K
              try simp only [Act.put, List.setIfInBounds_toArray, List.set_cons_zero, List.set_cons_succ]
              have hbA : Below w1.heap.size w1 (w1.alloc (.cells #[.int .i64 0, .int .i64 0, .string { data := #[] }, .string { data := #[] }, .int .i64 0, .int .i64 0, .int .i64 0, .int .i64 0, .int .i64 0, .slice none 0 0] 56)) := by
                have h := below_alloc (Below.refl w1.heap.size w1) (.cells #[.int .i64 0, .int .i64 0, .string { data := #[] }, .string { data := #[] }, .int .i64 0, .int .i64 0, .int .i64 0, .int .i64 0, .int .i64 0, .slice none 0 0] 56)
                exact ⟨h.os, h.tape, h.output, h.size, h.block⟩
              have X1q26 : Hid (Bx (w1.alloc (.cells #[.int .i64 0, .int .i64 0, .string { data := #[] }, .string { data := #[] }, .int .i64 0, .int .i64 0, .int .i64 0, .int .i64 0, .int .i64 0, .slice none 0 0] 56)) (w1.heap.size) 56 [.int .i64 0, .int .i64 0, .string { data := #[] }, .string { data := #[] }, .int .i64 0, .int .i64 0, .int .i64 0, .int .i64 0, .int .i64 0, .slice none 0 0]) := Lib.hid (by
                have h := Bx.new w1 [.int .i64 0, .int .i64 0, .string { data := #[] }, .string { data := #[] }, .int .i64 0, .int .i64 0, .int .i64 0, .int .i64 0, .int .i64 0, .slice none 0 0] 56
                have hz : w1.heap.size = w1.heap.size := by rfl
                rw [hz] at h
                exact h)
              have T1q26 := Lib.hid (T1q2.out.grow hbA)
              have T2q26 := Lib.hid (T2q2.out.grow hbA)
              have R1q26 := Lib.hid (row_below R1q2.out hbA)
              clear hbA
              refine wpAnyH_ready (rs := [5, 7]) (by kernel_rfl) (by simp) ?_
              refine (AllReadyH.cons (o := ({ dst := some 48, op := Go.Op.call { callee := Go.Callee.value (Go.Operand.func 24), args := #[Go.Operand.tmp 46, Go.Operand.tmp 47], argTypes := #[24, 53] }, type := 56, pos := _, after := #[{ on := 3, ground := Go.Ground.data }, { on := 4, ground := Go.Ground.data }, { on := 2, ground := Go.Ground.chain }], guard := none } : Oper)) rfl (fun K hK => ?_) (AllReadyH.cons (o := ({ dst := some 12, op := Go.Op.alloc 56, type := 0, pos := _, after := #[], guard := none } : Oper)) rfl (fun K hK => ?_) AllReadyH.nil))
              · go_simp
                have HD := Lib.hid (HDO.out (w1.alloc (.cells #[.int .i64 0, .int .i64 0, .string { data := #[] }, .string { data := #[] }, .int .i64 0, .int .i64 0, .int .i64 0, .int .i64 0, .int .i64 0, .slice none 0 0] 56)) C Kb T2q26.out)
                refine HD.out.mono ?_
                rintro e w2 ⟨l2, d2, rfl, hr1, hP1, ho1⟩
                go_wp2_with fail
                refine hK.out _ _ ?_ (fun hHeld => ?_)
                · exact hHeld.only ho1 (by omega)
                clear hK K
                try simp only [Act.put, List.setIfInBounds_toArray, List.set_cons_zero, List.set_cons_succ]
                have hz : (w1.alloc (.cells #[.int .i64 0, .int .i64 0, .string { data := #[] }, .string { data := #[] }, .int .i64 0, .int .i64 0, .int .i64 0, .int .i64 0, .int .i64 0, .slice none 0 0] 56)).heap.size = w1.heap.size + 1 := by show (w1.alloc (.cells #[.int .i64 0, .int .i64 0, .string { data := #[] }, .string { data := #[] }, .int .i64 0, .int .i64 0, .int .i64 0, .int .i64 0, .int .i64 0, .slice none 0 0] 56)).heap.size = _; simp
                have hs2 : w1.heap.size + 1 ≤ w2.heap.size := by rw [← hz]; exact ho1.size
                have RB2 := Lib.hid (show ∀ g, Value.ownBlock (.slice l2 m d2) = some g → w1.heap.size + 1 ≤ g ∧ g < w2.heap.size from fun g hg => by have h := hr1.lt g hg; rw [hz] at h; exact h)
                clear hz
                have T2q265 := Lib.hid hP1
                have R2q265 := Lib.hid (row_base hr1 (Nat.zero_le _))
                have T1q265 := Lib.hid (T1q26.out.other ho1 (by omega) (by omega))
                have R1q265 := Lib.hid (row_only R1q26.out ho1 fun g hg => by have := RB1.out g hg; omega)
                have X1q265 := Lib.hid (X1q26.out.only ho1 (by omega))
                clear hr1 hP1 ho1 HD
                refine wpAnyH_ready (rs := [7]) (by kernel_rfl) (by simp) ?_
                refine AllReadyH.cons (o := ({ dst := some 12, op := Go.Op.alloc 56, type := 0, pos := _, after := #[], guard := none } : Oper)) rfl (fun K hK => ?_) AllReadyH.nil
                go_simp
                refine hK.out _ _ ?_ (fun hHeld => ?_)
                · exact hHeld.alloc _
                clear hK K
                try simp only [Act.put, List.setIfInBounds_toArray, List.set_cons_zero, List.set_cons_succ]
                have hbA : Below w2.heap.size w2 (w2.alloc (.cells #[.int .i64 0, .int .i64 0, .string { data := #[] }, .string { data := #[] }, .int .i64 0, .int .i64 0, .int .i64 0, .int .i64 0, .int .i64 0, .slice none 0 0] 56)) := by
                  have h := below_alloc (Below.refl w2.heap.size w2) (.cells #[.int .i64 0, .int .i64 0, .string { data := #[] }, .string { data := #[] }, .int .i64 0, .int .i64 0, .int .i64 0, .int .i64 0, .int .i64 0, .slice none 0 0] 56)
                  exact ⟨h.os, h.tape, h.output, h.size, h.block⟩
                have X2q2657 : Hid (Bx (w2.alloc (.cells #[.int .i64 0, .int .i64 0, .string { data := #[] }, .string { data := #[] }, .int .i64 0, .int .i64 0, .int .i64 0, .int .i64 0, .int .i64 0, .slice none 0 0] 56)) (w2.heap.size) 56 [.int .i64 0, .int .i64 0, .string { data := #[] }, .string { data := #[] }, .int .i64 0, .int .i64 0, .int .i64 0, .int .i64 0, .int .i64 0, .slice none 0 0]) := Lib.hid (by
                  have h := Bx.new w2 [.int .i64 0, .int .i64 0, .string { data := #[] }, .string { data := #[] }, .int .i64 0, .int .i64 0, .int .i64 0, .int .i64 0, .int .i64 0, .slice none 0 0] 56
                  have hz : w2.heap.size = w2.heap.size := by rfl
                  rw [hz] at h
                  exact h)
                have T1q2657 := Lib.hid (T1q265.out.grow hbA)
                have T2q2657 := Lib.hid (T2q265.out.grow hbA)
                have R1q2657 := Lib.hid (row_below R1q265.out hbA)
                have R2q2657 := Lib.hid (row_below R2q265.out hbA)
                have X1q2657 := Lib.hid (X1q265.out.below hbA)
                clear hbA
                obtain ⟨w8, hst8, hbx8, ho8⟩ := store56 X1q2657.out rfl er s1 s4 s5 s6 s7 s8 s2 s3 (.slice l1 m d1) rfl
                have X2e := Lib.hid (X2q2657.out.only ho8 (by omega))
                obtain ⟨w9, hst9, hbx9, ho9⟩ := store56 X2e.out rfl er s1 s4 s5 s6 s7 s8 s2 s3 (.slice l2 m d2) rfl
                have HO8 := Lib.hid ho8
                have HO9 := Lib.hid ho9
                have X1f := Lib.hid (hbx8.only ho9 (by omega))
                have X2f := Lib.hid hbx9
                have T1f := Lib.hid ((T1q2657.out.other ho8 (by omega) (by omega)).other ho9 (by omega) (by omega))
                have T2f := Lib.hid ((T2q2657.out.other ho8 (by omega) (by omega)).other ho9 (by omega) (by omega))
                have R1f := Lib.hid (row_only (row_only R1q2657.out ho8 fun g hg => by have := RB1.out g hg; omega) ho9 fun g hg => by have := RB1.out g hg; omega)
                have R2f := Lib.hid (row_only (row_only R2q2657.out ho8 fun g hg => by have := RB2.out g hg; omega) ho9 fun g hg => by have := RB2.out g hg; omega)
                clear hbx8 hbx9 ho8 ho9
                refine wpAnyH_ready (rs := [8]) (by kernel_rfl) (by simp) ?_
                refine AllReadyH.cons (o := ({ dst := none, op := Go.Op.store 56 (Go.Operand.tmp 11) (Go.Operand.tmp 45), type := 0, pos := _, after := #[{ on := 6, ground := Go.Ground.data }, { on := 2, ground := Go.Ground.data }, { on := 5, ground := Go.Ground.chain }, { on := 0, ground := Go.Ground.phase }, { on := 1, ground := Go.Ground.phase }, { on := 2, ground := Go.Ground.phase }, { on := 3, ground := Go.Ground.textOnly Go.Departure.lateStores }, { on := 4, ground := Go.Ground.textOnly Go.Departure.lateStores }, { on := 5, ground := Go.Ground.textOnly Go.Departure.lateStoresUnsure }, { on := 6, ground := Go.Ground.phase }, { on := 7, ground := Go.Ground.phase }], guard := none } : Oper)) rfl (fun K hK => ?_) AllReadyH.nil
                go_simp
                refine hK.out _ _ ?_ (fun hHeld => ?_)
                · exact hHeld.only HO8.out (by omega)
                clear hK K
                try simp only [Act.put, List.setIfInBounds_toArray, List.set_cons_zero, List.set_cons_succ]
                refine wpAnyH_ready (rs := [9]) (by kernel_rfl) (by simp) ?_
                refine AllReadyH.cons (o := ({ dst := none, op := Go.Op.store 56 (Go.Operand.tmp 12) (Go.Operand.tmp 48), type := 0, pos := _, after := #[{ on := 7, ground := Go.Ground.data }, { on := 5, ground := Go.Ground.data }, { on := 8, ground := Go.Ground.chain }, { on := 0, ground := Go.Ground.phase }, { on := 1, ground := Go.Ground.phase }, { on := 2, ground := Go.Ground.phase }, { on := 3, ground := Go.Ground.phase }, { on := 4, ground := Go.Ground.phase }, { on := 5, ground := Go.Ground.phase }, { on := 6, ground := Go.Ground.phase }, { on := 7, ground := Go.Ground.phase }, { on := 8, ground := Go.Ground.phase }], guard := none } : Oper)) rfl (fun K hK => ?_) AllReadyH.nil
                go_simp
                refine hK.out _ _ ?_ (fun hHeld => ?_)
                · exact hHeld.only HO9.out (by omega)
                clear hK K
                try simp only [Act.put, List.setIfInBounds_toArray, List.set_cons_zero, List.set_cons_succ]
                refine wpAnyH_done (by kernel_rfl) ?_ _
                go_wp2
                go_meet
                case rel => exact Lib.hid ⟨_, _, l1, d1, l2, d2, rfl, rfl, T1f.out, T2f.out, X1f.out, X2f.out, R1f.out, R2f.out⟩
              · go_simp
                refine hK.out _ _ ?_ (fun hHeld => ?_)
                · exact hHeld.alloc _
                clear hK K
                try simp only [Act.put, List.setIfInBounds_toArray, List.set_cons_zero, List.set_cons_succ]
                have hbA : Below (w1.alloc (.cells #[.int .i64 0, .int .i64 0, .string { data := #[] }, .string { data := #[] }, .int .i64 0, .int .i64 0, .int .i64 0, .int .i64 0, .int .i64 0, .slice none 0 0] 56)).heap.size (w1.alloc (.cells #[.int .i64 0, .int .i64 0, .string { data := #[] }, .string { data := #[] }, .int .i64 0, .int .i64 0, .int .i64 0, .int .i64 0, .int .i64 0, .slice none 0 0] 56)) ((w1.alloc (.cells #[.int .i64 0, .int .i64 0, .string { data := #[] }, .string { data := #[] }, .int .i64 0, .int .i64 0, .int .i64 0, .int .i64 0, .int .i64 0, .slice none 0 0] 56)).alloc (.cells #[.int .i64 0, .int .i64 0, .string { data := #[] }, .string { data := #[] }, .int .i64 0, .int .i64 0, .int .i64 0, .int .i64 0, .int .i64 0, .slice none 0 0] 56)) := by
                  have h := below_alloc (Below.refl (w1.alloc (.cells #[.int .i64 0, .int .i64 0, .string { data := #[] }, .string { data := #[] }, .int .i64 0, .int .i64 0, .int .i64 0, .int .i64 0, .int .i64 0, .slice none 0 0] 56)).heap.size (w1.alloc (.cells #[.int .i64 0, .int .i64 0, .string { data := #[] }, .string { data := #[] }, .int .i64 0, .int .i64 0, .int .i64 0, .int .i64 0, .int .i64 0, .slice none 0 0] 56))) (.cells #[.int .i64 0, .int .i64 0, .string { data := #[] }, .string { data := #[] }, .int .i64 0, .int .i64 0, .int .i64 0, .int .i64 0, .int .i64 0, .slice none 0 0] 56)
                  exact ⟨h.os, h.tape, h.output, h.size, h.block⟩
                have X2q267 : Hid (Bx ((w1.alloc (.cells #[.int .i64 0, .int .i64 0, .string { data := #[] }, .string { data := #[] }, .int .i64 0, .int .i64 0, .int .i64 0, .int .i64 0, .int .i64 0, .slice none 0 0] 56)).alloc (.cells #[.int .i64 0, .int .i64 0, .string { data := #[] }, .string { data := #[] }, .int .i64 0, .int .i64 0, .int .i64 0, .int .i64 0, .int .i64 0, .slice none 0 0] 56)) (w1.heap.size + 1) 56 [.int .i64 0, .int .i64 0, .string { data := #[] }, .string { data := #[] }, .int .i64 0, .int .i64 0, .int .i64 0, .int .i64 0, .int .i64 0, .slice none 0 0]) := Lib.hid (by
                  have h := Bx.new (w1.alloc (.cells #[.int .i64 0, .int .i64 0, .string { data := #[] }, .string { data := #[] }, .int .i64 0, .int .i64 0, .int .i64 0, .int .i64 0, .int .i64 0, .slice none 0 0] 56)) [.int .i64 0, .int .i64 0, .string { data := #[] }, .string { data := #[] }, .int .i64 0, .int .i64 0, .int .i64 0, .int .i64 0, .int .i64 0, .slice none 0 0] 56
                  have hz : (w1.alloc (.cells #[.int .i64 0, .int .i64 0, .string { data := #[] }, .string { data := #[] }, .int .i64 0, .int .i64 0, .int .i64 0, .int .i64 0, .int .i64 0, .slice none 0 0] 56)).heap.size = w1.heap.size + 1 := by simp
                  rw [hz] at h
                  exact h)
                have T1q267 := Lib.hid (T1q26.out.grow hbA)
                have T2q267 := Lib.hid (T2q26.out.grow hbA)
                have R1q267 := Lib.hid (row_below R1q26.out hbA)
                have X1q267 := Lib.hid (X1q26.out.below hbA)
                clear hbA
                refine wpAnyH_ready (rs := [5]) (by kernel_rfl) (by simp) ?_
                refine AllReadyH.cons (o := ({ dst := some 48, op := Go.Op.call { callee := Go.Callee.value (Go.Operand.func 24), args := #[Go.Operand.tmp 46, Go.Operand.tmp 47], argTypes := #[24, 53] }, type := 56, pos := _, after := #[{ on := 3, ground := Go.Ground.data }, { on := 4, ground := Go.Ground.data }, { on := 2, ground := Go.Ground.chain }], guard := none } : Oper)) rfl (fun K hK => ?_) AllReadyH.nil
                go_simp
                have HD := Lib.hid (HDO.out ((w1.alloc (.cells #[.int .i64 0, .int .i64 0, .string { data := #[] }, .string { data := #[] }, .int .i64 0, .int .i64 0, .int .i64 0, .int .i64 0, .int .i64 0, .slice none 0 0] 56)).alloc (.cells #[.int .i64 0, .int .i64 0, .string { data := #[] }, .string { data := #[] }, .int .i64 0, .int .i64 0, .int .i64 0, .int .i64 0, .int .i64 0, .slice none 0 0] 56)) C Kb T2q267.out)
                refine HD.out.mono ?_
                rintro e w2 ⟨l2, d2, rfl, hr1, hP1, ho1⟩
                go_wp2_with fail
                refine hK.out _ _ ?_ (fun hHeld => ?_)
                · exact hHeld.only ho1 (by omega)
                clear hK K
                try simp only [Act.put, List.setIfInBounds_toArray, List.set_cons_zero, List.set_cons_succ]
                have hz : ((w1.alloc (.cells #[.int .i64 0, .int .i64 0, .string { data := #[] }, .string { data := #[] }, .int .i64 0, .int .i64 0, .int .i64 0, .int .i64 0, .int .i64 0, .slice none 0 0] 56)).alloc (.cells #[.int .i64 0, .int .i64 0, .string { data := #[] }, .string { data := #[] }, .int .i64 0, .int .i64 0, .int .i64 0, .int .i64 0, .int .i64 0, .slice none 0 0] 56)).heap.size = w1.heap.size + 1 + 1 := by show ((w1.alloc (.cells #[.int .i64 0, .int .i64 0, .string { data := #[] }, .string { data := #[] }, .int .i64 0, .int .i64 0, .int .i64 0, .int .i64 0, .int .i64 0, .slice none 0 0] 56)).alloc (.cells #[.int .i64 0, .int .i64 0, .string { data := #[] }, .string { data := #[] }, .int .i64 0, .int .i64 0, .int .i64 0, .int .i64 0, .int .i64 0, .slice none 0 0] 56)).heap.size = _; simp
                have hs2 : w1.heap.size + 1 + 1 ≤ w2.heap.size := by rw [← hz]; exact ho1.size
                have RB2 := Lib.hid (show ∀ g, Value.ownBlock (.slice l2 m d2) = some g → w1.heap.size + 1 + 1 ≤ g ∧ g < w2.heap.size from fun g hg => by have h := hr1.lt g hg; rw [hz] at h; exact h)
                clear hz
                have T2q2675 := Lib.hid hP1
                have R2q2675 := Lib.hid (row_base hr1 (Nat.zero_le _))
                have T1q2675 := Lib.hid (T1q267.out.other ho1 (by omega) (by omega))
                have R1q2675 := Lib.hid (row_only R1q267.out ho1 fun g hg => by have := RB1.out g hg; omega)
                have X1q2675 := Lib.hid (X1q267.out.only ho1 (by omega))
                have X2q2675 := Lib.hid (X2q267.out.only ho1 (by omega))
                clear hr1 hP1 ho1 HD
                obtain ⟨w8, hst8, hbx8, ho8⟩ := store56 X1q2675.out rfl er s1 s4 s5 s6 s7 s8 s2 s3 (.slice l1 m d1) rfl
                have X2e := Lib.hid (X2q2675.out.only ho8 (by omega))
                obtain ⟨w9, hst9, hbx9, ho9⟩ := store56 X2e.out rfl er s1 s4 s5 s6 s7 s8 s2 s3 (.slice l2 m d2) rfl
                have HO8 := Lib.hid ho8
                have HO9 := Lib.hid ho9
                have X1f := Lib.hid (hbx8.only ho9 (by omega))
                have X2f := Lib.hid hbx9
                have T1f := Lib.hid ((T1q2675.out.other ho8 (by omega) (by omega)).other ho9 (by omega) (by omega))
                have T2f := Lib.hid ((T2q2675.out.other ho8 (by omega) (by omega)).other ho9 (by omega) (by omega))
                have R1f := Lib.hid (row_only (row_only R1q2675.out ho8 fun g hg => by have := RB1.out g hg; omega) ho9 fun g hg => by have := RB1.out g hg; omega)
                have R2f := Lib.hid (row_only (row_only R2q2675.out ho8 fun g hg => by have := RB2.out g hg; omega) ho9 fun g hg => by have := RB2.out g hg; omega)
                clear hbx8 hbx9 ho8 ho9
                refine wpAnyH_ready (rs := [8]) (by kernel_rfl) (by simp) ?_
                refine AllReadyH.cons (o := ({ dst := none, op := Go.Op.store 56 (Go.Operand.tmp 11) (Go.Operand.tmp 45), type := 0, pos := _, after := #[{ on := 6, ground := Go.Ground.data }, { on := 2, ground := Go.Ground.data }, { on := 5, ground := Go.Ground.chain }, { on := 0, ground := Go.Ground.phase }, { on := 1, ground := Go.Ground.phase }, { on := 2, ground := Go.Ground.phase }, { on := 3, ground := Go.Ground.textOnly Go.Departure.lateStores }, { on := 4, ground := Go.Ground.textOnly Go.Departure.lateStores }, { on := 5, ground := Go.Ground.textOnly Go.Departure.lateStoresUnsure }, { on := 6, ground := Go.Ground.phase }, { on := 7, ground := Go.Ground.phase }], guard := none } : Oper)) rfl (fun K hK => ?_) AllReadyH.nil
                go_simp
                refine hK.out _ _ ?_ (fun hHeld => ?_)
                · exact hHeld.only HO8.out (by omega)
                clear hK K
                try simp only [Act.put, List.setIfInBounds_toArray, List.set_cons_zero, List.set_cons_succ]
                refine wpAnyH_ready (rs := [9]) (by kernel_rfl) (by simp) ?_
                refine AllReadyH.cons (o := ({ dst := none, op := Go.Op.store 56 (Go.Operand.tmp 12) (Go.Operand.tmp 48), type := 0, pos := _, after := #[{ on := 7, ground := Go.Ground.data }, { on := 5, ground := Go.Ground.data }, { on := 8, ground := Go.Ground.chain }, { on := 0, ground := Go.Ground.phase }, { on := 1, ground := Go.Ground.phase }, { on := 2, ground := Go.Ground.phase }, { on := 3, ground := Go.Ground.phase }, { on := 4, ground := Go.Ground.phase }, { on := 5, ground := Go.Ground.phase }, { on := 6, ground := Go.Ground.phase }, { on := 7, ground := Go.Ground.phase }, { on := 8, ground := Go.Ground.phase }], guard := none } : Oper)) rfl (fun K hK => ?_) AllReadyH.nil
                go_simp
                refine hK.out _ _ ?_ (fun hHeld => ?_)
                · exact hHeld.only HO9.out (by omega)
                clear hK K
                try simp only [Act.put, List.setIfInBounds_toArray, List.set_cons_zero, List.set_cons_succ]
                refine wpAnyH_done (by kernel_rfl) ?_ _
                go_wp2
                go_meet
                case rel => exact Lib.hid ⟨_, _, l1, d1, l2, d2, rfl, rfl, T1f.out, T2f.out, X1f.out, X2f.out, R1f.out, R2f.out⟩
            · go_simp
              refine hK.out _ _ ?_ (fun hHeld => ?_)
              · exact hHeld.alloc _
              clear hK K
              try simp only [Act.put, List.setIfInBounds_toArray, List.set_cons_zero, List.set_cons_succ]
              have hbA : Below w1.heap.size w1 (w1.alloc (.cells #[.int .i64 0, .int .i64 0, .string { data := #[] }, .string { data := #[] }, .int .i64 0, .int .i64 0, .int .i64 0, .int .i64 0, .int .i64 0, .slice none 0 0] 56)) := by
                have h := below_alloc (Below.refl w1.heap.size w1) (.cells #[.int .i64 0, .int .i64 0, .string { data := #[] }, .string { data := #[] }, .int .i64 0, .int .i64 0, .int .i64 0, .int .i64 0, .int .i64 0, .slice none 0 0] 56)
                exact ⟨h.os, h.tape, h.output, h.size, h.block⟩
              have X2q27 : Hid (Bx (w1.alloc (.cells #[.int .i64 0, .int .i64 0, .string { data := #[] }, .string { data := #[] }, .int .i64 0, .int .i64 0, .int .i64 0, .int .i64 0, .int .i64 0, .slice none 0 0] 56)) (w1.heap.size) 56 [.int .i64 0, .int .i64 0, .string { data := #[] }, .string { data := #[] }, .int .i64 0, .int .i64 0, .int .i64 0, .int .i64 0, .int .i64 0, .slice none 0 0]) := Lib.hid (by
                have h := Bx.new w1 [.int .i64 0, .int .i64 0, .string { data := #[] }, .string { data := #[] }, .int .i64 0, .int .i64 0, .int .i64 0, .int .i64 0, .int .i64 0, .slice none 0 0] 56
                have hz : w1.heap.size = w1.heap.size := by rfl
                rw [hz] at h
                exact h)
              have T1q27 := Lib.hid (T1q2.out.grow hbA)
              have T2q27 := Lib.hid (T2q2.out.grow hbA)
              have R1q27 := Lib.hid (row_below R1q2.out hbA)
              clear hbA
              refine wpAnyH_ready (rs := [5, 6]) (by kernel_rfl) (by simp) ?_
              refine (AllReadyH.cons (o := ({ dst := some 48, op := Go.Op.call { callee := Go.Callee.value (Go.Operand.func 24), args := #[Go.Operand.tmp 46, Go.Operand.tmp 47], argTypes := #[24, 53] }, type := 56, pos := _, after := #[{ on := 3, ground := Go.Ground.data }, { on := 4, ground := Go.Ground.data }, { on := 2, ground := Go.Ground.chain }], guard := none } : Oper)) rfl (fun K hK => ?_) (AllReadyH.cons (o := ({ dst := some 11, op := Go.Op.alloc 56, type := 0, pos := _, after := #[], guard := none } : Oper)) rfl (fun K hK => ?_) AllReadyH.nil))
              · go_simp
                have HD := Lib.hid (HDO.out (w1.alloc (.cells #[.int .i64 0, .int .i64 0, .string { data := #[] }, .string { data := #[] }, .int .i64 0, .int .i64 0, .int .i64 0, .int .i64 0, .int .i64 0, .slice none 0 0] 56)) C Kb T2q27.out)
                refine HD.out.mono ?_
                rintro e w2 ⟨l2, d2, rfl, hr1, hP1, ho1⟩
                go_wp2_with fail
                refine hK.out _ _ ?_ (fun hHeld => ?_)
                · exact hHeld.only ho1 (by omega)
                clear hK K
                try simp only [Act.put, List.setIfInBounds_toArray, List.set_cons_zero, List.set_cons_succ]
                have hz : (w1.alloc (.cells #[.int .i64 0, .int .i64 0, .string { data := #[] }, .string { data := #[] }, .int .i64 0, .int .i64 0, .int .i64 0, .int .i64 0, .int .i64 0, .slice none 0 0] 56)).heap.size = w1.heap.size + 1 := by show (w1.alloc (.cells #[.int .i64 0, .int .i64 0, .string { data := #[] }, .string { data := #[] }, .int .i64 0, .int .i64 0, .int .i64 0, .int .i64 0, .int .i64 0, .slice none 0 0] 56)).heap.size = _; simp
                have hs2 : w1.heap.size + 1 ≤ w2.heap.size := by rw [← hz]; exact ho1.size
                have RB2 := Lib.hid (show ∀ g, Value.ownBlock (.slice l2 m d2) = some g → w1.heap.size + 1 ≤ g ∧ g < w2.heap.size from fun g hg => by have h := hr1.lt g hg; rw [hz] at h; exact h)
                clear hz
                have T2q275 := Lib.hid hP1
                have R2q275 := Lib.hid (row_base hr1 (Nat.zero_le _))
                have T1q275 := Lib.hid (T1q27.out.other ho1 (by omega) (by omega))
                have R1q275 := Lib.hid (row_only R1q27.out ho1 fun g hg => by have := RB1.out g hg; omega)
                have X2q275 := Lib.hid (X2q27.out.only ho1 (by omega))
                clear hr1 hP1 ho1 HD
                refine wpAnyH_ready (rs := [6]) (by kernel_rfl) (by simp) ?_
                refine AllReadyH.cons (o := ({ dst := some 11, op := Go.Op.alloc 56, type := 0, pos := _, after := #[], guard := none } : Oper)) rfl (fun K hK => ?_) AllReadyH.nil
                go_simp
                refine hK.out _ _ ?_ (fun hHeld => ?_)
                · exact hHeld.alloc _
                clear hK K
                try simp only [Act.put, List.setIfInBounds_toArray, List.set_cons_zero, List.set_cons_succ]
                have hbA : Below w2.heap.size w2 (w2.alloc (.cells #[.int .i64 0, .int .i64 0, .string { data := #[] }, .string { data := #[] }, .int .i64 0, .int .i64 0, .int .i64 0, .int .i64 0, .int .i64 0, .slice none 0 0] 56)) := by
                  have h := below_alloc (Below.refl w2.heap.size w2) (.cells #[.int .i64 0, .int .i64 0, .string { data := #[] }, .string { data := #[] }, .int .i64 0, .int .i64 0, .int .i64 0, .int .i64 0, .int .i64 0, .slice none 0 0] 56)
                  exact ⟨h.os, h.tape, h.output, h.size, h.block⟩
                have X1q2756 : Hid (Bx (w2.alloc (.cells #[.int .i64 0, .int .i64 0, .string { data := #[] }, .string { data := #[] }, .int .i64 0, .int .i64 0, .int .i64 0, .int .i64 0, .int .i64 0, .slice none 0 0] 56)) (w2.heap.size) 56 [.int .i64 0, .int .i64 0, .string { data := #[] }, .string { data := #[] }, .int .i64 0, .int .i64 0, .int .i64 0, .int .i64 0, .int .i64 0, .slice none 0 0]) := Lib.hid (by
                  have h := Bx.new w2 [.int .i64 0, .int .i64 0, .string { data := #[] }, .string { data := #[] }, .int .i64 0, .int .i64 0, .int .i64 0, .int .i64 0, .int .i64 0, .slice none 0 0] 56
                  have hz : w2.heap.size = w2.heap.size := by rfl
                  rw [hz] at h
                  exact h)
                have T1q2756 := Lib.hid (T1q275.out.grow hbA)
                have T2q2756 := Lib.hid (T2q275.out.grow hbA)
                have R1q2756 := Lib.hid (row_below R1q275.out hbA)
                have R2q2756 := Lib.hid (row_below R2q275.out hbA)
                have X2q2756 := Lib.hid (X2q275.out.below hbA)
                clear hbA
                obtain ⟨w8, hst8, hbx8, ho8⟩ := store56 X1q2756.out rfl er s1 s4 s5 s6 s7 s8 s2 s3 (.slice l1 m d1) rfl
                have X2e := Lib.hid (X2q2756.out.only ho8 (by omega))
                obtain ⟨w9, hst9, hbx9, ho9⟩ := store56 X2e.out rfl er s1 s4 s5 s6 s7 s8 s2 s3 (.slice l2 m d2) rfl
                have HO8 := Lib.hid ho8
                have HO9 := Lib.hid ho9
                have X1f := Lib.hid (hbx8.only ho9 (by omega))
                have X2f := Lib.hid hbx9
                have T1f := Lib.hid ((T1q2756.out.other ho8 (by omega) (by omega)).other ho9 (by omega) (by omega))
                have T2f := Lib.hid ((T2q2756.out.other ho8 (by omega) (by omega)).other ho9 (by omega) (by omega))
                have R1f := Lib.hid (row_only (row_only R1q2756.out ho8 fun g hg => by have := RB1.out g hg; omega) ho9 fun g hg => by have := RB1.out g hg; omega)
                have R2f := Lib.hid (row_only (row_only R2q2756.out ho8 fun g hg => by have := RB2.out g hg; omega) ho9 fun g hg => by have := RB2.out g hg; omega)
                clear hbx8 hbx9 ho8 ho9
                refine wpAnyH_ready (rs := [8]) (by kernel_rfl) (by simp) ?_
                refine AllReadyH.cons (o := ({ dst := none, op := Go.Op.store 56 (Go.Operand.tmp 11) (Go.Operand.tmp 45), type := 0, pos := _, after := #[{ on := 6, ground := Go.Ground.data }, { on := 2, ground := Go.Ground.data }, { on := 5, ground := Go.Ground.chain }, { on := 0, ground := Go.Ground.phase }, { on := 1, ground := Go.Ground.phase }, { on := 2, ground := Go.Ground.phase }, { on := 3, ground := Go.Ground.textOnly Go.Departure.lateStores }, { on := 4, ground := Go.Ground.textOnly Go.Departure.lateStores }, { on := 5, ground := Go.Ground.textOnly Go.Departure.lateStoresUnsure }, { on := 6, ground := Go.Ground.phase }, { on := 7, ground := Go.Ground.phase }], guard := none } : Oper)) rfl (fun K hK => ?_) AllReadyH.nil
                go_simp
                refine hK.out _ _ ?_ (fun hHeld => ?_)
                · exact hHeld.only HO8.out (by omega)
                clear hK K
                try simp only [Act.put, List.setIfInBounds_toArray, List.set_cons_zero, List.set_cons_succ]
                refine wpAnyH_ready (rs := [9]) (by kernel_rfl) (by simp) ?_
                refine AllReadyH.cons (o := ({ dst := none, op := Go.Op.store 56 (Go.Operand.tmp 12) (Go.Operand.tmp 48), type := 0, pos := _, after := #[{ on := 7, ground := Go.Ground.data }, { on := 5, ground := Go.Ground.data }, { on := 8, ground := Go.Ground.chain }, { on := 0, ground := Go.Ground.phase }, { on := 1, ground := Go.Ground.phase }, { on := 2, ground := Go.Ground.phase }, { on := 3, ground := Go.Ground.phase }, { on := 4, ground := Go.Ground.phase }, { on := 5, ground := Go.Ground.phase }, { on := 6, ground := Go.Ground.phase }, { on := 7, ground := Go.Ground.phase }, { on := 8, ground := Go.Ground.phase }], guard := none } : Oper)) rfl (fun K hK => ?_) AllReadyH.nil
                go_simp
                refine hK.out _ _ ?_ (fun hHeld => ?_)
                · exact hHeld.only HO9.out (by omega)
                clear hK K
                try simp only [Act.put, List.setIfInBounds_toArray, List.set_cons_zero, List.set_cons_succ]
                refine wpAnyH_done (by kernel_rfl) ?_ _
                go_wp2
                go_meet
                case rel => exact Lib.hid ⟨_, _, l1, d1, l2, d2, rfl, rfl, T1f.out, T2f.out, X1f.out, X2f.out, R1f.out, R2f.out⟩
              · go_simp
                refine hK.out _ _ ?_ (fun hHeld => ?_)
                · exact hHeld.alloc _
                clear hK K
                try simp only [Act.put, List.setIfInBounds_toArray, List.set_cons_zero, List.set_cons_succ]
                have hbA : Below (w1.alloc (.cells #[.int .i64 0, .int .i64 0, .string { data := #[] }, .string { data := #[] }, .int .i64 0, .int .i64 0, .int .i64 0, .int .i64 0, .int .i64 0, .slice none 0 0] 56)).heap.size (w1.alloc (.cells #[.int .i64 0, .int .i64 0, .string { data := #[] }, .string { data := #[] }, .int .i64 0, .int .i64 0, .int .i64 0, .int .i64 0, .int .i64 0, .slice none 0 0] 56)) ((w1.alloc (.cells #[.int .i64 0, .int .i64 0, .string { data := #[] }, .string { data := #[] }, .int .i64 0, .int .i64 0, .int .i64 0, .int .i64 0, .int .i64 0, .slice none 0 0] 56)).alloc (.cells #[.int .i64 0, .int .i64 0, .string { data := #[] }, .string { data := #[] }, .int .i64 0, .int .i64 0, .int .i64 0, .int .i64 0, .int .i64 0, .slice none 0 0] 56)) := by
                  have h := below_alloc (Below.refl (w1.alloc (.cells #[.int .i64 0, .int .i64 0, .string { data := #[] }, .string { data := #[] }, .int .i64 0, .int .i64 0, .int .i64 0, .int .i64 0, .int .i64 0, .slice none 0 0] 56)).heap.size (w1.alloc (.cells #[.int .i64 0, .int .i64 0, .string { data := #[] }, .string { data := #[] }, .int .i64 0, .int .i64 0, .int .i64 0, .int .i64 0, .int .i64 0, .slice none 0 0] 56))) (.cells #[.int .i64 0, .int .i64 0, .string { data := #[] }, .string { data := #[] }, .int .i64 0, .int .i64 0, .int .i64 0, .int .i64 0, .int .i64 0, .slice none 0 0] 56)
                  exact ⟨h.os, h.tape, h.output, h.size, h.block⟩
                have X1q276 : Hid (Bx ((w1.alloc (.cells #[.int .i64 0, .int .i64 0, .string { data := #[] }, .string { data := #[] }, .int .i64 0, .int .i64 0, .int .i64 0, .int .i64 0, .int .i64 0, .slice none 0 0] 56)).alloc (.cells #[.int .i64 0, .int .i64 0, .string { data := #[] }, .string { data := #[] }, .int .i64 0, .int .i64 0, .int .i64 0, .int .i64 0, .int .i64 0, .slice none 0 0] 56)) (w1.heap.size + 1) 56 [.int .i64 0, .int .i64 0, .string { data := #[] }, .string { data := #[] }, .int .i64 0, .int .i64 0, .int .i64 0, .int .i64 0, .int .i64 0, .slice none 0 0]) := Lib.hid (by
                  have h := Bx.new (w1.alloc (.cells #[.int .i64 0, .int .i64 0, .string { data := #[] }, .string { data := #[] }, .int .i64 0, .int .i64 0, .int .i64 0, .int .i64 0, .int .i64 0, .slice none 0 0] 56)) [.int .i64 0, .int .i64 0, .string { data := #[] }, .string { data := #[] }, .int .i64 0, .int .i64 0, .int .i64 0, .int .i64 0, .int .i64 0, .slice none 0 0] 56
                  have hz : (w1.alloc (.cells #[.int .i64 0, .int .i64 0, .string { data := #[] }, .string { data := #[] }, .int .i64 0, .int .i64 0, .int .i64 0, .int .i64 0, .int .i64 0, .slice none 0 0] 56)).heap.size = w1.heap.size + 1 := by simp
                  rw [hz] at h
                  exact h)
                have T1q276 := Lib.hid (T1q27.out.grow hbA)
                have T2q276 := Lib.hid (T2q27.out.grow hbA)
                have R1q276 := Lib.hid (row_below R1q27.out hbA)
                have X2q276 := Lib.hid (X2q27.out.below hbA)
                clear hbA
                refine wpAnyH_ready (rs := [5]) (by kernel_rfl) (by simp) ?_
                refine AllReadyH.cons (o := ({ dst := some 48, op := Go.Op.call { callee := Go.Callee.value (Go.Operand.func 24), args := #[Go.Operand.tmp 46, Go.Operand.tmp 47], argTypes := #[24, 53] }, type := 56, pos := _, after := #[{ on := 3, ground := Go.Ground.data }, { on := 4, ground := Go.Ground.data }, { on := 2, ground := Go.Ground.chain }], guard := none } : Oper)) rfl (fun K hK => ?_) AllReadyH.nil
                go_simp
                have HD := Lib.hid (HDO.out ((w1.alloc (.cells #[.int .i64 0, .int .i64 0, .string { data := #[] }, .string { data := #[] }, .int .i64 0, .int .i64 0, .int .i64 0, .int .i64 0, .int .i64 0, .slice none 0 0] 56)).alloc (.cells #[.int .i64 0, .int .i64 0, .string { data := #[] }, .string { data := #[] }, .int .i64 0, .int .i64 0, .int .i64 0, .int .i64 0, .int .i64 0, .slice none 0 0] 56)) C Kb T2q276.out)
                refine HD.out.mono ?_
                rintro e w2 ⟨l2, d2, rfl, hr1, hP1, ho1⟩
                go_wp2_with fail
                refine hK.out _ _ ?_ (fun hHeld => ?_)
                · exact hHeld.only ho1 (by omega)
                clear hK K
                try simp only [Act.put, List.setIfInBounds_toArray, List.set_cons_zero, List.set_cons_succ]
                have hz : ((w1.alloc (.cells #[.int .i64 0, .int .i64 0, .string { data := #[] }, .string { data := #[] }, .int .i64 0, .int .i64 0, .int .i64 0, .int .i64 0, .int .i64 0, .slice none 0 0] 56)).alloc (.cells #[.int .i64 0, .int .i64 0, .string { data := #[] }, .string { data := #[] }, .int .i64 0, .int .i64 0, .int .i64 0, .int .i64 0, .int .i64 0, .slice none 0 0] 56)).heap.size = w1.heap.size + 1 + 1 := by show ((w1.alloc (.cells #[.int .i64 0, .int .i64 0, .string { data := #[] }, .string { data := #[] }, .int .i64 0, .int .i64 0, .int .i64 0, .int .i64 0, .int .i64 0, .slice none 0 0] 56)).alloc (.cells #[.int .i64 0, .int .i64 0, .string { data := #[] }, .string { data := #[] }, .int .i64 0, .int .i64 0, .int .i64 0, .int .i64 0, .int .i64 0, .slice none 0 0] 56)).heap.size = _; simp
                have hs2 : w1.heap.size + 1 + 1 ≤ w2.heap.size := by rw [← hz]; exact ho1.size
                have RB2 := Lib.hid (show ∀ g, Value.ownBlock (.slice l2 m d2) = some g → w1.heap.size + 1 + 1 ≤ g ∧ g < w2.heap.size from fun g hg => by have h := hr1.lt g hg; rw [hz] at h; exact h)
                clear hz
                have T2q2765 := Lib.hid hP1
                have R2q2765 := Lib.hid (row_base hr1 (Nat.zero_le _))
                have T1q2765 := Lib.hid (T1q276.out.other ho1 (by omega) (by omega))
                have R1q2765 := Lib.hid (row_only R1q276.out ho1 fun g hg => by have := RB1.out g hg; omega)
                have X1q2765 := Lib.hid (X1q276.out.only ho1 (by omega))
                have X2q2765 := Lib.hid (X2q276.out.only ho1 (by omega))
                clear hr1 hP1 ho1 HD
                obtain ⟨w8, hst8, hbx8, ho8⟩ := store56 X1q2765.out rfl er s1 s4 s5 s6 s7 s8 s2 s3 (.slice l1 m d1) rfl
                have X2e := Lib.hid (X2q2765.out.only ho8 (by omega))
                obtain ⟨w9, hst9, hbx9, ho9⟩ := store56 X2e.out rfl er s1 s4 s5 s6 s7 s8 s2 s3 (.slice l2 m d2) rfl
                have HO8 := Lib.hid ho8
                have HO9 := Lib.hid ho9
                have X1f := Lib.hid (hbx8.only ho9 (by omega))
                have X2f := Lib.hid hbx9
                have T1f := Lib.hid ((T1q2765.out.other ho8 (by omega) (by omega)).other ho9 (by omega) (by omega))
                have T2f := Lib.hid ((T2q2765.out.other ho8 (by omega) (by omega)).other ho9 (by omega) (by omega))
                have R1f := Lib.hid (row_only (row_only R1q2765.out ho8 fun g hg => by have := RB1.out g hg; omega) ho9 fun g hg => by have := RB1.out g hg; omega)
                have R2f := Lib.hid (row_only (row_only R2q2765.out ho8 fun g hg => by have := RB2.out g hg; omega) ho9 fun g hg => by have := RB2.out g hg; omega)
                clear hbx8 hbx9 ho8 ho9
                refine wpAnyH_ready (rs := [8]) (by kernel_rfl) (by simp) ?_
                refine AllReadyH.cons (o := ({ dst := none, op := Go.Op.store 56 (Go.Operand.tmp 11) (Go.Operand.tmp 45), type := 0, pos := _, after := #[{ on := 6, ground := Go.Ground.data }, { on := 2, ground := Go.Ground.data }, { on := 5, ground := Go.Ground.chain }, { on := 0, ground := Go.Ground.phase }, { on := 1, ground := Go.Ground.phase }, { on := 2, ground := Go.Ground.phase }, { on := 3, ground := Go.Ground.textOnly Go.Departure.lateStores }, { on := 4, ground := Go.Ground.textOnly Go.Departure.lateStores }, { on := 5, ground := Go.Ground.textOnly Go.Departure.lateStoresUnsure }, { on := 6, ground := Go.Ground.phase }, { on := 7, ground := Go.Ground.phase }], guard := none } : Oper)) rfl (fun K hK => ?_) AllReadyH.nil
                go_simp
                refine hK.out _ _ ?_ (fun hHeld => ?_)
                · exact hHeld.only HO8.out (by omega)
                clear hK K
                try simp only [Act.put, List.setIfInBounds_toArray, List.set_cons_zero, List.set_cons_succ]
                refine wpAnyH_ready (rs := [9]) (by kernel_rfl) (by simp) ?_
                refine AllReadyH.cons (o := ({ dst := none, op := Go.Op.store 56 (Go.Operand.tmp 12) (Go.Operand.tmp 48), type := 0, pos := _, after := #[{ on := 7, ground := Go.Ground.data }, { on := 5, ground := Go.Ground.data }, { on := 8, ground := Go.Ground.chain }, { on := 0, ground := Go.Ground.phase }, { on := 1, ground := Go.Ground.phase }, { on := 2, ground := Go.Ground.phase }, { on := 3, ground := Go.Ground.phase }, { on := 4, ground := Go.Ground.phase }, { on := 5, ground := Go.Ground.phase }, { on := 6, ground := Go.Ground.phase }, { on := 7, ground := Go.Ground.phase }, { on := 8, ground := Go.Ground.phase }], guard := none } : Oper)) rfl (fun K hK => ?_) AllReadyH.nil
                go_simp
                refine hK.out _ _ ?_ (fun hHeld => ?_)
                · exact hHeld.only HO9.out (by omega)
                clear hK K
                try simp only [Act.put, List.setIfInBounds_toArray, List.set_cons_zero, List.set_cons_succ]
                refine wpAnyH_done (by kernel_rfl) ?_ _
                go_wp2
                go_meet
                case rel => exact Lib.hid ⟨_, _, l1, d1, l2, d2, rfl, rfl, T1f.out, T2f.out, X1f.out, X2f.out, R1f.out, R2f.out⟩
          · go_simp
            refine hK.out _ _ ?_ (fun hHeld => ?_)
            · exact hHeld.alloc _
            clear hK K
            try simp only [Act.put, List.setIfInBounds_toArray, List.set_cons_zero, List.set_cons_succ]
            have hbA : Below (wr.alloc (.cells #[.int .i64 kd, .int .i64 fl, .int .i64 nw, .int .i64 x1, .string x2, .string x3, .int .i64 x4, .int .i64 x5, .int .i64 x6, .int .i64 x7, .int .i64 x8] 53)).drew.heap.size (wr.alloc (.cells #[.int .i64 kd, .int .i64 fl, .int .i64 nw, .int .i64 x1, .string x2, .string x3, .int .i64 x4, .int .i64 x5, .int .i64 x6, .int .i64 x7, .int .i64 x8] 53)).drew ((wr.alloc (.cells #[.int .i64 kd, .int .i64 fl, .int .i64 nw, .int .i64 x1, .string x2, .string x3, .int .i64 x4, .int .i64 x5, .int .i64 x6, .int .i64 x7, .int .i64 x8] 53)).alloc (.cells #[.int .i64 0, .int .i64 0, .string { data := #[] }, .string { data := #[] }, .int .i64 0, .int .i64 0, .int .i64 0, .int .i64 0, .int .i64 0, .slice none 0 0] 56)).drew := by
              have h := below_alloc (Below.refl (wr.alloc (.cells #[.int .i64 kd, .int .i64 fl, .int .i64 nw, .int .i64 x1, .string x2, .string x3, .int .i64 x4, .int .i64 x5, .int .i64 x6, .int .i64 x7, .int .i64 x8] 53)).heap.size (wr.alloc (.cells #[.int .i64 kd, .int .i64 fl, .int .i64 nw, .int .i64 x1, .string x2, .string x3, .int .i64 x4, .int .i64 x5, .int .i64 x6, .int .i64 x7, .int .i64 x8] 53))) (.cells #[.int .i64 0, .int .i64 0, .string { data := #[] }, .string { data := #[] }, .int .i64 0, .int .i64 0, .int .i64 0, .int .i64 0, .int .i64 0, .slice none 0 0] 56)
              exact ⟨h.os, h.tape, h.output, h.size, h.block⟩
            have X1q6 : Hid (Bx ((wr.alloc (.cells #[.int .i64 kd, .int .i64 fl, .int .i64 nw, .int .i64 x1, .string x2, .string x3, .int .i64 x4, .int .i64 x5, .int .i64 x6, .int .i64 x7, .int .i64 x8] 53)).alloc (.cells #[.int .i64 0, .int .i64 0, .string { data := #[] }, .string { data := #[] }, .int .i64 0, .int .i64 0, .int .i64 0, .int .i64 0, .int .i64 0, .slice none 0 0] 56)).drew (wr.heap.size + 1) 56 [.int .i64 0, .int .i64 0, .string { data := #[] }, .string { data := #[] }, .int .i64 0, .int .i64 0, .int .i64 0, .int .i64 0, .int .i64 0, .slice none 0 0]) := Lib.hid (by
              have h := Bx.new (wr.alloc (.cells #[.int .i64 kd, .int .i64 fl, .int .i64 nw, .int .i64 x1, .string x2, .string x3, .int .i64 x4, .int .i64 x5, .int .i64 x6, .int .i64 x7, .int .i64 x8] 53)) [.int .i64 0, .int .i64 0, .string { data := #[] }, .string { data := #[] }, .int .i64 0, .int .i64 0, .int .i64 0, .int .i64 0, .int .i64 0, .slice none 0 0] 56
              have hz : (wr.alloc (.cells #[.int .i64 kd, .int .i64 fl, .int .i64 nw, .int .i64 x1, .string x2, .string x3, .int .i64 x4, .int .i64 x5, .int .i64 x6, .int .i64 x7, .int .i64 x8] 53)).heap.size = wr.heap.size + 1 := by simp
              rw [hz] at h
              exact h)
            have T1q6 := Lib.hid (T1q.out.grow hbA)
            have T2q6 := Lib.hid (T2q.out.grow hbA)
            clear hbA
            refine wpAnyH_ready (rs := [2, 7]) (by kernel_rfl) (by simp) ?_
            refine (AllReadyH.cons (o := ({ dst := some 45, op := Go.Op.call { callee := Go.Callee.value (Go.Operand.func 24), args := #[Go.Operand.tmp 43, Go.Operand.tmp 44], argTypes := #[24, 53] }, type := 56, pos := _, after := #[{ on := 0, ground := Go.Ground.data }, { on := 1, ground := Go.Ground.data }], guard := none } : Oper)) rfl (fun K hK => ?_) (AllReadyH.cons (o := ({ dst := some 12, op := Go.Op.alloc 56, type := 0, pos := _, after := #[], guard := none } : Oper)) rfl (fun K hK => ?_) AllReadyH.nil))
            · go_simp
              have HD := Lib.hid (HDO.out ((wr.alloc (.cells #[.int .i64 kd, .int .i64 fl, .int .i64 nw, .int .i64 x1, .string x2, .string x3, .int .i64 x4, .int .i64 x5, .int .i64 x6, .int .i64 x7, .int .i64 x8] 53)).alloc (.cells #[.int .i64 0, .int .i64 0, .string { data := #[] }, .string { data := #[] }, .int .i64 0, .int .i64 0, .int .i64 0, .int .i64 0, .int .i64 0, .slice none 0 0] 56)).drew B Ka T1q6.out)
              refine HD.out.mono ?_
              rintro e w1 ⟨l1, d1, rfl, hr1, hP1, ho1⟩
              go_wp2_with fail
              refine hK.out _ _ ?_ (fun hHeld => ?_)
              · exact hHeld.only ho1 (by omega)
              clear hK K
              try simp only [Act.put, List.setIfInBounds_toArray, List.set_cons_zero, List.set_cons_succ]
              have hz : ((wr.alloc (.cells #[.int .i64 kd, .int .i64 fl, .int .i64 nw, .int .i64 x1, .string x2, .string x3, .int .i64 x4, .int .i64 x5, .int .i64 x6, .int .i64 x7, .int .i64 x8] 53)).alloc (.cells #[.int .i64 0, .int .i64 0, .string { data := #[] }, .string { data := #[] }, .int .i64 0, .int .i64 0, .int .i64 0, .int .i64 0, .int .i64 0, .slice none 0 0] 56)).drew.heap.size = wr.heap.size + 1 + 1 := by show ((wr.alloc (.cells #[.int .i64 kd, .int .i64 fl, .int .i64 nw, .int .i64 x1, .string x2, .string x3, .int .i64 x4, .int .i64 x5, .int .i64 x6, .int .i64 x7, .int .i64 x8] 53)).alloc (.cells #[.int .i64 0, .int .i64 0, .string { data := #[] }, .string { data := #[] }, .int .i64 0, .int .i64 0, .int .i64 0, .int .i64 0, .int .i64 0, .slice none 0 0] 56)).heap.size = _; simp
              have hs1 : wr.heap.size + 1 + 1 ≤ w1.heap.size := by rw [← hz]; exact ho1.size
              have RB1 := Lib.hid (show ∀ g, Value.ownBlock (.slice l1 m d1) = some g → wr.heap.size + 1 + 1 ≤ g ∧ g < w1.heap.size from fun g hg => by have h := hr1.lt g hg; rw [hz] at h; exact h)
              clear hz
              have T1q62 := Lib.hid hP1
              have R1q62 := Lib.hid (row_base hr1 (Nat.zero_le _))
              have T2q62 := Lib.hid (T2q6.out.other ho1 (by omega) (by omega))
              have X1q62 := Lib.hid (X1q6.out.only ho1 (by omega))
              clear hr1 hP1 ho1 HD
              refine wpAnyH_ready (rs := [5, 7]) (by kernel_rfl) (by simp) ?_
              refine (AllReadyH.cons (o := ({ dst := some 48, op := Go.Op.call { callee := Go.Callee.value (Go.Operand.func 24), args := #[Go.Operand.tmp 46, Go.Operand.tmp 47], argTypes := #[24, 53] }, type := 56, pos := _, after := #[{ on := 3, ground := Go.Ground.data }, { on := 4, ground := Go.Ground.data }, { on := 2, ground := Go.Ground.chain }], guard := none } : Oper)) rfl (fun K hK => ?_) (AllReadyH.cons (o := ({ dst := some 12, op := Go.Op.alloc 56, type := 0, pos := _, after := #[], guard := none } : Oper)) rfl (fun K hK => ?_) AllReadyH.nil))
              · go_simp
                have HD := Lib.hid (HDO.out w1 C Kb T2q62.out)
                refine HD.out.mono ?_
                rintro e w2 ⟨l2, d2, rfl, hr1, hP1, ho1⟩
                go_wp2_with fail
                refine hK.out _ _ ?_ (fun hHeld => ?_)
                · exact hHeld.only ho1 (by omega)
                clear hK K
                try simp only [Act.put, List.setIfInBounds_toArray, List.set_cons_zero, List.set_cons_succ]
                have hz : w1.heap.size = w1.heap.size := by rfl
                have hs2 : w1.heap.size ≤ w2.heap.size := by rw [← hz]; exact ho1.size
                have RB2 := Lib.hid (show ∀ g, Value.ownBlock (.slice l2 m d2) = some g → w1.heap.size ≤ g ∧ g < w2.heap.size from fun g hg => by have h := hr1.lt g hg; rw [hz] at h; exact h)
                clear hz
                have T2q625 := Lib.hid hP1
                have R2q625 := Lib.hid (row_base hr1 (Nat.zero_le _))
                have T1q625 := Lib.hid (T1q62.out.other ho1 (by omega) (by omega))
                have R1q625 := Lib.hid (row_only R1q62.out ho1 fun g hg => by have := RB1.out g hg; omega)
                have X1q625 := Lib.hid (X1q62.out.only ho1 (by omega))
                clear hr1 hP1 ho1 HD
                refine wpAnyH_ready (rs := [7]) (by kernel_rfl) (by simp) ?_
                refine AllReadyH.cons (o := ({ dst := some 12, op := Go.Op.alloc 56, type := 0, pos := _, after := #[], guard := none } : Oper)) rfl (fun K hK => ?_) AllReadyH.nil
                go_simp
                refine hK.out _ _ ?_ (fun hHeld => ?_)
                · exact hHeld.alloc _
                clear hK K
                try simp only [Act.put, List.setIfInBounds_toArray, List.set_cons_zero, List.set_cons_succ]
                have hbA : Below w2.heap.size w2 (w2.alloc (.cells #[.int .i64 0, .int .i64 0, .string { data := #[] }, .string { data := #[] }, .int .i64 0, .int .i64 0, .int .i64 0, .int .i64 0, .int .i64 0, .slice none 0 0] 56)) := by
                  have h := below_alloc (Below.refl w2.heap.size w2) (.cells #[.int .i64 0, .int .i64 0, .string { data := #[] }, .string { data := #[] }, .int .i64 0, .int .i64 0, .int .i64 0, .int .i64 0, .int .i64 0, .slice none 0 0] 56)
                  exact ⟨h.os, h.tape, h.output, h.size, h.block⟩
                have X2q6257 : Hid (Bx (w2.alloc (.cells #[.int .i64 0, .int .i64 0, .string { data := #[] }, .string { data := #[] }, .int .i64 0, .int .i64 0, .int .i64 0, .int .i64 0, .int .i64 0, .slice none 0 0] 56)) (w2.heap.size) 56 [.int .i64 0, .int .i64 0, .string { data := #[] }, .string { data := #[] }, .int .i64 0, .int .i64 0, .int .i64 0, .int .i64 0, .int .i64 0, .slice none 0 0]) := Lib.hid (by
                  have h := Bx.new w2 [.int .i64 0, .int .i64 0, .string { data := #[] }, .string { data := #[] }, .int .i64 0, .int .i64 0, .int .i64 0, .int .i64 0, .int .i64 0, .slice none 0 0] 56
                  have hz : w2.heap.size = w2.heap.size := by rfl
                  rw [hz] at h
                  exact h)
                have T1q6257 := Lib.hid (T1q625.out.grow hbA)
                have T2q6257 := Lib.hid (T2q625.out.grow hbA)
                have R1q6257 := Lib.hid (row_below R1q625.out hbA)
                have R2q6257 := Lib.hid (row_below R2q625.out hbA)
                have X1q6257 := Lib.hid (X1q625.out.below hbA)
                clear hbA
                obtain ⟨w8, hst8, hbx8, ho8⟩ := store56 X1q6257.out rfl er s1 s4 s5 s6 s7 s8 s2 s3 (.slice l1 m d1) rfl
                have X2e := Lib.hid (X2q6257.out.only ho8 (by omega))
                obtain ⟨w9, hst9, hbx9, ho9⟩ := store56 X2e.out rfl er s1 s4 s5 s6 s7 s8 s2 s3 (.slice l2 m d2) rfl
                have HO8 := Lib.hid ho8
                have HO9 := Lib.hid ho9
                have X1f := Lib.hid (hbx8.only ho9 (by omega))
                have X2f := Lib.hid hbx9
                have T1f := Lib.hid ((T1q6257.out.other ho8 (by omega) (by omega)).other ho9 (by omega) (by omega))
                have T2f := Lib.hid ((T2q6257.out.other ho8 (by omega) (by omega)).other ho9 (by omega) (by omega))
                have R1f := Lib.hid (row_only (row_only R1q6257.out ho8 fun g hg => by have := RB1.out g hg; omega) ho9 fun g hg => by have := RB1.out g hg; omega)
                have R2f := Lib.hid (row_only (row_only R2q6257.out ho8 fun g hg => by have := RB2.out g hg; omega) ho9 fun g hg => by have := RB2.out g hg; omega)
                clear hbx8 hbx9 ho8 ho9
                refine wpAnyH_ready (rs := [8]) (by kernel_rfl) (by simp) ?_
                refine AllReadyH.cons (o := ({ dst := none, op := Go.Op.store 56 (Go.Operand.tmp 11) (Go.Operand.tmp 45), type := 0, pos := _, after := #[{ on := 6, ground := Go.Ground.data }, { on := 2, ground := Go.Ground.data }, { on := 5, ground := Go.Ground.chain }, { on := 0, ground := Go.Ground.phase }, { on := 1, ground := Go.Ground.phase }, { on := 2, ground := Go.Ground.phase }, { on := 3, ground := Go.Ground.textOnly Go.Departure.lateStores }, { on := 4, ground := Go.Ground.textOnly Go.Departure.lateStores }, { on := 5, ground := Go.Ground.textOnly Go.Departure.lateStoresUnsure }, { on := 6, ground := Go.Ground.phase }, { on := 7, ground := Go.Ground.phase }], guard := none } : Oper)) rfl (fun K hK => ?_) AllReadyH.nil
                go_simp
                refine hK.out _ _ ?_ (fun hHeld => ?_)
                · exact hHeld.only HO8.out (by omega)
                clear hK K
                try simp only [Act.put, List.setIfInBounds_toArray, List.set_cons_zero, List.set_cons_succ]
                refine wpAnyH_ready (rs := [9]) (by kernel_rfl) (by simp) ?_
                refine AllReadyH.cons (o := ({ dst := none, op := Go.Op.store 56 (Go.Operand.tmp 12) (Go.Operand.tmp 48), type := 0, pos := _, after := #[{ on := 7, ground := Go.Ground.data }, { on := 5, ground := Go.Ground.data }, { on := 8, ground := Go.Ground.chain }, { on := 0, ground := Go.Ground.phase }, { on := 1, ground := Go.Ground.phase }, { on := 2, ground := Go.Ground.phase }, { on := 3, ground := Go.Ground.phase }, { on := 4, ground := Go.Ground.phase }, { on := 5, ground := Go.Ground.phase }, { on := 6, ground := Go.Ground.phase }, { on := 7, ground := Go.Ground.phase }, { on := 8, ground := Go.Ground.phase }], guard := none } : Oper)) rfl (fun K hK => ?_) AllReadyH.nil
                go_simp
                refine hK.out _ _ ?_ (fun hHeld => ?_)
                · exact hHeld.only HO9.out (by omega)
                clear hK K
                try simp only [Act.put, List.setIfInBounds_toArray, List.set_cons_zero, List.set_cons_succ]
                refine wpAnyH_done (by kernel_rfl) ?_ _
                go_wp2
                go_meet
                case rel => exact Lib.hid ⟨_, _, l1, d1, l2, d2, rfl, rfl, T1f.out, T2f.out, X1f.out, X2f.out, R1f.out, R2f.out⟩
              · go_simp
                refine hK.out _ _ ?_ (fun hHeld => ?_)
                · exact hHeld.alloc _
                clear hK K
                try simp only [Act.put, List.setIfInBounds_toArray, List.set_cons_zero, List.set_cons_succ]
                have hbA : Below w1.heap.size w1 (w1.alloc (.cells #[.int .i64 0, .int .i64 0, .string { data := #[] }, .string { data := #[] }, .int .i64 0, .int .i64 0, .int .i64 0, .int .i64 0, .int .i64 0, .slice none 0 0] 56)) := by
                  have h := below_alloc (Below.refl w1.heap.size w1) (.cells #[.int .i64 0, .int .i64 0, .string { data := #[] }, .string { data := #[] }, .int .i64 0, .int .i64 0, .int .i64 0, .int .i64 0, .int .i64 0, .slice none 0 0] 56)
                  exact ⟨h.os, h.tape, h.output, h.size, h.block⟩
                have X2q627 : Hid (Bx (w1.alloc (.cells #[.int .i64 0, .int .i64 0, .string { data := #[] }, .string { data := #[] }, .int .i64 0, .int .i64 0, .int .i64 0, .int .i64 0, .int .i64 0, .slice none 0 0] 56)) (w1.heap.size) 56 [.int .i64 0, .int .i64 0, .string { data := #[] }, .string { data := #[] }, .int .i64 0, .int .i64 0, .int .i64 0, .int .i64 0, .int .i64 0, .slice none 0 0]) := Lib.hid (by
                  have h := Bx.new w1 [.int .i64 0, .int .i64 0, .string { data := #[] }, .string { data := #[] }, .int .i64 0, .int .i64 0, .int .i64 0, .int .i64 0, .int .i64 0, .slice none 0 0] 56
                  have hz : w1.heap.size = w1.heap.size := by rfl
                  rw [hz] at h
                  exact h)
                have T1q627 := Lib.hid (T1q62.out.grow hbA)
                have T2q627 := Lib.hid (T2q62.out.grow hbA)
                have R1q627 := Lib.hid (row_below R1q62.out hbA)
                have X1q627 := Lib.hid (X1q62.out.below hbA)
                clear hbA
                refine wpAnyH_ready (rs := [5]) (by kernel_rfl) (by simp) ?_
                refine AllReadyH.cons (o := ({ dst := some 48, op := Go.Op.call { callee := Go.Callee.value (Go.Operand.func 24), args := #[Go.Operand.tmp 46, Go.Operand.tmp 47], argTypes := #[24, 53] }, type := 56, pos := _, after := #[{ on := 3, ground := Go.Ground.data }, { on := 4, ground := Go.Ground.data }, { on := 2, ground := Go.Ground.chain }], guard := none } : Oper)) rfl (fun K hK => ?_) AllReadyH.nil
                go_simp
                have HD := Lib.hid (HDO.out (w1.alloc (.cells #[.int .i64 0, .int .i64 0, .string { data := #[] }, .string { data := #[] }, .int .i64 0, .int .i64 0, .int .i64 0, .int .i64 0, .int .i64 0, .slice none 0 0] 56)) C Kb T2q627.out)
                refine HD.out.mono ?_
                rintro e w2 ⟨l2, d2, rfl, hr1, hP1, ho1⟩
                go_wp2_with fail
                refine hK.out _ _ ?_ (fun hHeld => ?_)
                · exact hHeld.only ho1 (by omega)
                clear hK K
                try simp only [Act.put, List.setIfInBounds_toArray, List.set_cons_zero, List.set_cons_succ]
                have hz : (w1.alloc (.cells #[.int .i64 0, .int .i64 0, .string { data := #[] }, .string { data := #[] }, .int .i64 0, .int .i64 0, .int .i64 0, .int .i64 0, .int .i64 0, .slice none 0 0] 56)).heap.size = w1.heap.size + 1 := by show (w1.alloc (.cells #[.int .i64 0, .int .i64 0, .string { data := #[] }, .string { data := #[] }, .int .i64 0, .int .i64 0, .int .i64 0, .int .i64 0, .int .i64 0, .slice none 0 0] 56)).heap.size = _; simp
                have hs2 : w1.heap.size + 1 ≤ w2.heap.size := by rw [← hz]; exact ho1.size
                have RB2 := Lib.hid (show ∀ g, Value.ownBlock (.slice l2 m d2) = some g → w1.heap.size + 1 ≤ g ∧ g < w2.heap.size from fun g hg => by have h := hr1.lt g hg; rw [hz] at h; exact h)
                clear hz
                have T2q6275 := Lib.hid hP1
                have R2q6275 := Lib.hid (row_base hr1 (Nat.zero_le _))
                have T1q6275 := Lib.hid (T1q627.out.other ho1 (by omega) (by omega))
                have R1q6275 := Lib.hid (row_only R1q627.out ho1 fun g hg => by have := RB1.out g hg; omega)
                have X1q6275 := Lib.hid (X1q627.out.only ho1 (by omega))
                have X2q6275 := Lib.hid (X2q627.out.only ho1 (by omega))
                clear hr1 hP1 ho1 HD
                obtain ⟨w8, hst8, hbx8, ho8⟩ := store56 X1q6275.out rfl er s1 s4 s5 s6 s7 s8 s2 s3 (.slice l1 m d1) rfl
                have X2e := Lib.hid (X2q6275.out.only ho8 (by omega))
                obtain ⟨w9, hst9, hbx9, ho9⟩ := store56 X2e.out rfl er s1 s4 s5 s6 s7 s8 s2 s3 (.slice l2 m d2) rfl
                have HO8 := Lib.hid ho8
                have HO9 := Lib.hid ho9
                have X1f := Lib.hid (hbx8.only ho9 (by omega))
                have X2f := Lib.hid hbx9
                have T1f := Lib.hid ((T1q6275.out.other ho8 (by omega) (by omega)).other ho9 (by omega) (by omega))
                have T2f := Lib.hid ((T2q6275.out.other ho8 (by omega) (by omega)).other ho9 (by omega) (by omega))
                have R1f := Lib.hid (row_only (row_only R1q6275.out ho8 fun g hg => by have := RB1.out g hg; omega) ho9 fun g hg => by have := RB1.out g hg; omega)
                have R2f := Lib.hid (row_only (row_only R2q6275.out ho8 fun g hg => by have := RB2.out g hg; omega) ho9 fun g hg => by have := RB2.out g hg; omega)
                clear hbx8 hbx9 ho8 ho9
                refine wpAnyH_ready (rs := [8]) (by kernel_rfl) (by simp) ?_
                refine AllReadyH.cons (o := ({ dst := none, op := Go.Op.store 56 (Go.Operand.tmp 11) (Go.Operand.tmp 45), type := 0, pos := _, after := #[{ on := 6, ground := Go.Ground.data }, { on := 2, ground := Go.Ground.data }, { on := 5, ground := Go.Ground.chain }, { on := 0, ground := Go.Ground.phase }, { on := 1, ground := Go.Ground.phase }, { on := 2, ground := Go.Ground.phase }, { on := 3, ground := Go.Ground.textOnly Go.Departure.lateStores }, { on := 4, ground := Go.Ground.textOnly Go.Departure.lateStores }, { on := 5, ground := Go.Ground.textOnly Go.Departure.lateStoresUnsure }, { on := 6, ground := Go.Ground.phase }, { on := 7, ground := Go.Ground.phase }], guard := none } : Oper)) rfl (fun K hK => ?_) AllReadyH.nil
                go_simp
                refine hK.out _ _ ?_ (fun hHeld => ?_)
                · exact hHeld.only HO8.out (by omega)
                clear hK K
                try simp only [Act.put, List.setIfInBounds_toArray, List.set_cons_zero, List.set_cons_succ]
                refine wpAnyH_ready (rs := [9]) (by kernel_rfl) (by simp) ?_
                refine AllReadyH.cons (o := ({ dst := none, op := Go.Op.store 56 (Go.Operand.tmp 12) (Go.Operand.tmp 48), type := 0, pos := _, after := #[{ on := 7, ground := Go.Ground.data }, { on := 5, ground := Go.Ground.data }, { on := 8, ground := Go.Ground.chain }, { on := 0, ground := Go.Ground.phase }, { on := 1, ground := Go.Ground.phase }, { on := 2, ground := Go.Ground.phase }, { on := 3, ground := Go.Ground.phase }, { on := 4, ground := Go.Ground.phase }, { on := 5, ground := Go.Ground.phase }, { on := 6, ground := Go.Ground.phase }, { on := 7, ground := Go.Ground.phase }, { on := 8, ground := Go.Ground.phase }], guard := none } : Oper)) rfl (fun K hK => ?_) AllReadyH.nil
                go_simp
                refine hK.out _ _ ?_ (fun hHeld => ?_)
                · exact hHeld.only HO9.out (by omega)
                clear hK K
                try simp only [Act.put, List.setIfInBounds_toArray, List.set_cons_zero, List.set_cons_succ]
                refine wpAnyH_done (by kernel_rfl) ?_ _
                go_wp2
                go_meet
                case rel => exact Lib.hid ⟨_, _, l1, d1, l2, d2, rfl, rfl, T1f.out, T2f.out, X1f.out, X2f.out, R1f.out, R2f.out⟩
            · go_simp
              refine hK.out _ _ ?_ (fun hHeld => ?_)
              · exact hHeld.alloc _
              clear hK K
              try simp only [Act.put, List.setIfInBounds_toArray, List.set_cons_zero, List.set_cons_succ]
              have hbA : Below ((wr.alloc (.cells #[.int .i64 kd, .int .i64 fl, .int .i64 nw, .int .i64 x1, .string x2, .string x3, .int .i64 x4, .int .i64 x5, .int .i64 x6, .int .i64 x7, .int .i64 x8] 53)).alloc (.cells #[.int .i64 0, .int .i64 0, .string { data := #[] }, .string { data := #[] }, .int .i64 0, .int .i64 0, .int .i64 0, .int .i64 0, .int .i64 0, .slice none 0 0] 56)).drew.heap.size ((wr.alloc (.cells #[.int .i64 kd, .int .i64 fl, .int .i64 nw, .int .i64 x1, .string x2, .string x3, .int .i64 x4, .int .i64 x5, .int .i64 x6, .int .i64 x7, .int .i64 x8] 53)).alloc (.cells #[.int .i64 0, .int .i64 0, .string { data := #[] }, .string { data := #[] }, .int .i64 0, .int .i64 0, .int .i64 0, .int .i64 0, .int .i64 0, .slice none 0 0] 56)).drew (((wr.alloc (.cells #[.int .i64 kd, .int .i64 fl, .int .i64 nw, .int .i64 x1, .string x2, .string x3, .int .i64 x4, .int .i64 x5, .int .i64 x6, .int .i64 x7, .int .i64 x8] 53)).alloc (.cells #[.int .i64 0, .int .i64 0, .string { data := #[] }, .string { data := #[] }, .int .i64 0, .int .i64 0, .int .i64 0, .int .i64 0, .int .i64 0, .slice none 0 0] 56)).alloc (.cells #[.int .i64 0, .int .i64 0, .string { data := #[] }, .string { data := #[] }, .int .i64 0, .int .i64 0, .int .i64 0, .int .i64 0, .int .i64 0, .slice none 0 0] 56)).drew := by
                have h := below_alloc (Below.refl ((wr.alloc (.cells #[.int .i64 kd, .int .i64 fl, .int .i64 nw, .int .i64 x1, .string x2, .string x3, .int .i64 x4, .int .i64 x5, .int .i64 x6, .int .i64 x7, .int .i64 x8] 53)).alloc (.cells #[.int .i64 0, .int .i64 0, .string { data := #[] }, .string { data := #[] }, .int .i64 0, .int .i64 0, .int .i64 0, .int .i64 0, .int .i64 0, .slice none 0 0] 56)).heap.size ((wr.alloc (.cells #[.int .i64 kd, .int .i64 fl, .int .i64 nw, .int .i64 x1, .string x2, .string x3, .int .i64 x4, .int .i64 x5, .int .i64 x6, .int .i64 x7, .int .i64 x8] 53)).alloc (.cells #[.int .i64 0, .int .i64 0, .string { data := #[] }, .string { data := #[] }, .int .i64 0, .int .i64 0, .int .i64 0, .int .i64 0, .int .i64 0, .slice none 0 0] 56))) (.cells #[.int .i64 0, .int .i64 0, .string { data := #[] }, .string { data := #[] }, .int .i64 0, .int .i64 0, .int .i64 0, .int .i64 0, .int .i64 0, .slice none 0 0] 56)
                exact ⟨h.os, h.tape, h.output, h.size, h.block⟩
              have X2q67 : Hid (Bx (((wr.alloc (.cells #[.int .i64 kd, .int .i64 fl, .int .i64 nw, .int .i64 x1, .string x2, .string x3, .int .i64 x4, .int .i64 x5, .int .i64 x6, .int .i64 x7, .int .i64 x8] 53)).alloc (.cells #[.int .i64 0, .int .i64 0, .string { data := #[] }, .string { data := #[] }, .int .i64 0, .int .i64 0, .int .i64 0, .int .i64 0, .int .i64 0, .slice none 0 0] 56)).alloc (.cells #[.int .i64 0, .int .i64 0, .string { data := #[] }, .string { data := #[] }, .int .i64 0, .int .i64 0, .int .i64 0, .int .i64 0, .int .i64 0, .slice none 0 0] 56)).drew (wr.heap.size + 1 + 1) 56 [.int .i64 0, .int .i64 0, .string { data := #[] }, .string { data := #[] }, .int .i64 0, .int .i64 0, .int .i64 0, .int .i64 0, .int .i64 0, .slice none 0 0]) := Lib.hid (by
                have h := Bx.new ((wr.alloc (.cells #[.int .i64 kd, .int .i64 fl, .int .i64 nw, .int .i64 x1, .string x2, .string x3, .int .i64 x4, .int .i64 x5, .int .i64 x6, .int .i64 x7, .int .i64 x8] 53)).alloc (.cells #[.int .i64 0, .int .i64 0, .string { data := #[] }, .string { data := #[] }, .int .i64 0, .int .i64 0, .int .i64 0, .int .i64 0, .int .i64 0, .slice none 0 0] 56)) [.int .i64 0, .int .i64 0, .string { data := #[] }, .string { data := #[] }, .int .i64 0, .int .i64 0, .int .i64 0, .int .i64 0, .int .i64 0, .slice none 0 0] 56
                have hz : ((wr.alloc (.cells #[.int .i64 kd, .int .i64 fl, .int .i64 nw, .int .i64 x1, .string x2, .string x3, .int .i64 x4, .int .i64 x5, .int .i64 x6, .int .i64 x7, .int .i64 x8] 53)).alloc (.cells #[.int .i64 0, .int .i64 0, .string { data := #[] }, .string { data := #[] }, .int .i64 0, .int .i64 0, .int .i64 0, .int .i64 0, .int .i64 0, .slice none 0 0] 56)).heap.size = wr.heap.size + 1 + 1 := by simp
                rw [hz] at h
                exact h)
              have T1q67 := Lib.hid (T1q6.out.grow hbA)
              have T2q67 := Lib.hid (T2q6.out.grow hbA)
              have X1q67 := Lib.hid (X1q6.out.below hbA)
              clear hbA
              refine wpAnyH_ready (rs := [2]) (by kernel_rfl) (by simp) ?_
              refine AllReadyH.cons (o := ({ dst := some 45, op := Go.Op.call { callee := Go.Callee.value (Go.Operand.func 24), args := #[Go.Operand.tmp 43, Go.Operand.tmp 44], argTypes := #[24, 53] }, type := 56, pos := _, after := #[{ on := 0, ground := Go.Ground.data }, { on := 1, ground := Go.Ground.data }], guard := none } : Oper)) rfl (fun K hK => ?_) AllReadyH.nil
              go_simp
              have HD := Lib.hid (HDO.out (((wr.alloc (.cells #[.int .i64 kd, .int .i64 fl, .int .i64 nw, .int .i64 x1, .string x2, .string x3, .int .i64 x4, .int .i64 x5, .int .i64 x6, .int .i64 x7, .int .i64 x8] 53)).alloc (.cells #[.int .i64 0, .int .i64 0, .string { data := #[] }, .string { data := #[] }, .int .i64 0, .int .i64 0, .int .i64 0, .int .i64 0, .int .i64 0, .slice none 0 0] 56)).alloc (.cells #[.int .i64 0, .int .i64 0, .string { data := #[] }, .string { data := #[] }, .int .i64 0, .int .i64 0, .int .i64 0, .int .i64 0, .int .i64 0, .slice none 0 0] 56)).drew B Ka T1q67.out)
              refine HD.out.mono ?_
              rintro e w1 ⟨l1, d1, rfl, hr1, hP1, ho1⟩
              go_wp2_with fail
              refine hK.out _ _ ?_ (fun hHeld => ?_)
              · exact hHeld.only ho1 (by omega)
              clear hK K
              try simp only [Act.put, List.setIfInBounds_toArray, List.set_cons_zero, List.set_cons_succ]
              have hz : (((wr.alloc (.cells #[.int .i64 kd, .int .i64 fl, .int .i64 nw, .int .i64 x1, .string x2, .string x3, .int .i64 x4, .int .i64 x5, .int .i64 x6, .int .i64 x7, .int .i64 x8] 53)).alloc (.cells #[.int .i64 0, .int .i64 0, .string { data := #[] }, .string { data := #[] }, .int .i64 0, .int .i64 0, .int .i64 0, .int .i64 0, .int .i64 0, .slice none 0 0] 56)).alloc (.cells #[.int .i64 0, .int .i64 0, .string { data := #[] }, .string { data := #[] }, .int .i64 0, .int .i64 0, .int .i64 0, .int .i64 0, .int .i64 0, .slice none 0 0] 56)).drew.heap.size = wr.heap.size + 1 + 1 + 1 := by show (((wr.alloc (.cells #[.int .i64 kd, .int .i64 fl, .int .i64 nw, .int .i64 x1, .string x2, .string x3, .int .i64 x4, .int .i64 x5, .int .i64 x6, .int .i64 x7, .int .i64 x8] 53)).alloc (.cells #[.int .i64 0, .int .i64 0, .string { data := #[] }, .string { data := #[] }, .int .i64 0, .int .i64 0, .int .i64 0, .int .i64 0, .int .i64 0, .slice none 0 0] 56)).alloc (.cells #[.int .i64 0, .int .i64 0, .string { data := #[] }, .string { data := #[] }, .int .i64 0, .int .i64 0, .int .i64 0, .int .i64 0, .int .i64 0, .slice none 0 0] 56)).heap.size = _; simp
              have hs1 : wr.heap.size + 1 + 1 + 1 ≤ w1.heap.size := by rw [← hz]; exact ho1.size
              have RB1 := Lib.hid (show ∀ g, Value.ownBlock (.slice l1 m d1) = some g → wr.heap.size + 1 + 1 + 1 ≤ g ∧ g < w1.heap.size from fun g hg => by have h := hr1.lt g hg; rw [hz] at h; exact h)
              clear hz
              have T1q672 := Lib.hid hP1
              have R1q672 := Lib.hid (row_base hr1 (Nat.zero_le _))
              have T2q672 := Lib.hid (T2q67.out.other ho1 (by omega) (by omega))
              have X1q672 := Lib.hid (X1q67.out.only ho1 (by omega))
              have X2q672 := Lib.hid (X2q67.out.only ho1 (by omega))
              clear hr1 hP1 ho1 HD
              refine wpAnyH_ready (rs := [5]) (by kernel_rfl) (by simp) ?_
              refine AllReadyH.cons (o := ({ dst := some 48, op := Go.Op.call { callee := Go.Callee.value (Go.Operand.func 24), args := #[Go.Operand.tmp 46, Go.Operand.tmp 47], argTypes := #[24, 53] }, type := 56, pos := _, after := #[{ on := 3, ground := Go.Ground.data }, { on := 4, ground := Go.Ground.data }, { on := 2, ground := Go.Ground.chain }], guard := none } : Oper)) rfl (fun K hK => ?_) AllReadyH.nil
              go_simp
              have HD := Lib.hid (HDO.out w1 C Kb T2q672.out)
              refine HD.out.mono ?_
              rintro e w2 ⟨l2, d2, rfl, hr1, hP1, ho1⟩
              go_wp2_with fail
              refine hK.out _ _ ?_ (fun hHeld => ?_)
              · exact hHeld.only ho1 (by omega)
              clear hK K
              try simp only [Act.put, List.setIfInBounds_toArray, List.set_cons_zero, List.set_cons_succ]
              have hz : w1.heap.size = w1.heap.size := by rfl
              have hs2 : w1.heap.size ≤ w2.heap.size := by rw [← hz]; exact ho1.size
              have RB2 := Lib.hid (show ∀ g, Value.ownBlock (.slice l2 m d2) = some g → w1.heap.size ≤ g ∧ g < w2.heap.size from fun g hg => by have h := hr1.lt g hg; rw [hz] at h; exact h)
              clear hz
              have T2q6725 := Lib.hid hP1
              have R2q6725 := Lib.hid (row_base hr1 (Nat.zero_le _))
              have T1q6725 := Lib.hid (T1q672.out.other ho1 (by omega) (by omega))
              have R1q6725 := Lib.hid (row_only R1q672.out ho1 fun g hg => by have := RB1.out g hg; omega)
              have X1q6725 := Lib.hid (X1q672.out.only ho1 (by omega))
              have X2q6725 := Lib.hid (X2q672.out.only ho1 (by omega))
              clear hr1 hP1 ho1 HD
              obtain ⟨w8, hst8, hbx8, ho8⟩ := store56 X1q6725.out rfl er s1 s4 s5 s6 s7 s8 s2 s3 (.slice l1 m d1) rfl
              have X2e := Lib.hid (X2q6725.out.only ho8 (by omega))
              obtain ⟨w9, hst9, hbx9, ho9⟩ := store56 X2e.out rfl er s1 s4 s5 s6 s7 s8 s2 s3 (.slice l2 m d2) rfl
              have HO8 := Lib.hid ho8
              have HO9 := Lib.hid ho9
              have X1f := Lib.hid (hbx8.only ho9 (by omega))
              have X2f := Lib.hid hbx9
              have T1f := Lib.hid ((T1q6725.out.other ho8 (by omega) (by omega)).other ho9 (by omega) (by omega))
              have T2f := Lib.hid ((T2q6725.out.other ho8 (by omega) (by omega)).other ho9 (by omega) (by omega))
              have R1f := Lib.hid (row_only (row_only R1q6725.out ho8 fun g hg => by have := RB1.out g hg; omega) ho9 fun g hg => by have := RB1.out g hg; omega)
              have R2f := Lib.hid (row_only (row_only R2q6725.out ho8 fun g hg => by have := RB2.out g hg; omega) ho9 fun g hg => by have := RB2.out g hg; omega)
              clear hbx8 hbx9 ho8 ho9
              refine wpAnyH_ready (rs := [8]) (by kernel_rfl) (by simp) ?_
              refine AllReadyH.cons (o := ({ dst := none, op := Go.Op.store 56 (Go.Operand.tmp 11) (Go.Operand.tmp 45), type := 0, pos := _, after := #[{ on := 6, ground := Go.Ground.data }, { on := 2, ground := Go.Ground.data }, { on := 5, ground := Go.Ground.chain }, { on := 0, ground := Go.Ground.phase }, { on := 1, ground := Go.Ground.phase }, { on := 2, ground := Go.Ground.phase }, { on := 3, ground := Go.Ground.textOnly Go.Departure.lateStores }, { on := 4, ground := Go.Ground.textOnly Go.Departure.lateStores }, { on := 5, ground := Go.Ground.textOnly Go.Departure.lateStoresUnsure }, { on := 6, ground := Go.Ground.phase }, { on := 7, ground := Go.Ground.phase }], guard := none } : Oper)) rfl (fun K hK => ?_) AllReadyH.nil
              go_simp
              refine hK.out _ _ ?_ (fun hHeld => ?_)
              · exact hHeld.only HO8.out (by omega)
              clear hK K
              try simp only [Act.put, List.setIfInBounds_toArray, List.set_cons_zero, List.set_cons_succ]
              refine wpAnyH_ready (rs := [9]) (by kernel_rfl) (by simp) ?_
              refine AllReadyH.cons (o := ({ dst := none, op := Go.Op.store 56 (Go.Operand.tmp 12) (Go.Operand.tmp 48), type := 0, pos := _, after := #[{ on := 7, ground := Go.Ground.data }, { on := 5, ground := Go.Ground.data }, { on := 8, ground := Go.Ground.chain }, { on := 0, ground := Go.Ground.phase }, { on := 1, ground := Go.Ground.phase }, { on := 2, ground := Go.Ground.phase }, { on := 3, ground := Go.Ground.phase }, { on := 4, ground := Go.Ground.phase }, { on := 5, ground := Go.Ground.phase }, { on := 6, ground := Go.Ground.phase }, { on := 7, ground := Go.Ground.phase }, { on := 8, ground := Go.Ground.phase }], guard := none } : Oper)) rfl (fun K hK => ?_) AllReadyH.nil
              go_simp
              refine hK.out _ _ ?_ (fun hHeld => ?_)
              · exact hHeld.only HO9.out (by omega)
              clear hK K
              try simp only [Act.put, List.setIfInBounds_toArray, List.set_cons_zero, List.set_cons_succ]
              refine wpAnyH_done (by kernel_rfl) ?_ _
              go_wp2
              go_meet
              case rel => exact Lib.hid ⟨_, _, l1, d1, l2, d2, rfl, rfl, T1f.out, T2f.out, X1f.out, X2f.out, R1f.out, R2f.out⟩
          · go_simp
            refine hK.out _ _ ?_ (fun hHeld => ?_)
            · exact hHeld.alloc _
            clear hK K
            try simp only [Act.put, List.setIfInBounds_toArray, List.set_cons_zero, List.set_cons_succ]
            have hbA : Below (wr.alloc (.cells #[.int .i64 kd, .int .i64 fl, .int .i64 nw, .int .i64 x1, .string x2, .string x3, .int .i64 x4, .int .i64 x5, .int .i64 x6, .int .i64 x7, .int .i64 x8] 53)).drew.heap.size (wr.alloc (.cells #[.int .i64 kd, .int .i64 fl, .int .i64 nw, .int .i64 x1, .string x2, .string x3, .int .i64 x4, .int .i64 x5, .int .i64 x6, .int .i64 x7, .int .i64 x8] 53)).drew ((wr.alloc (.cells #[.int .i64 kd, .int .i64 fl, .int .i64 nw, .int .i64 x1, .string x2, .string x3, .int .i64 x4, .int .i64 x5, .int .i64 x6, .int .i64 x7, .int .i64 x8] 53)).alloc (.cells #[.int .i64 0, .int .i64 0, .string { data := #[] }, .string { data := #[] }, .int .i64 0, .int .i64 0, .int .i64 0, .int .i64 0, .int .i64 0, .slice none 0 0] 56)).drew := by
              have h := below_alloc (Below.refl (wr.alloc (.cells #[.int .i64 kd, .int .i64 fl, .int .i64 nw, .int .i64 x1, .string x2, .string x3, .int .i64 x4, .int .i64 x5, .int .i64 x6, .int .i64 x7, .int .i64 x8] 53)).heap.size (wr.alloc (.cells #[.int .i64 kd, .int .i64 fl, .int .i64 nw, .int .i64 x1, .string x2, .string x3, .int .i64 x4, .int .i64 x5, .int .i64 x6, .int .i64 x7, .int .i64 x8] 53))) (.cells #[.int .i64 0, .int .i64 0, .string { data := #[] }, .string { data := #[] }, .int .i64 0, .int .i64 0, .int .i64 0, .int .i64 0, .int .i64 0, .slice none 0 0] 56)
              exact ⟨h.os, h.tape, h.output, h.size, h.block⟩
            have X2q7 : Hid (Bx ((wr.alloc (.cells #[.int .i64 kd, .int .i64 fl, .int .i64 nw, .int .i64 x1, .string x2, .string x3, .int .i64 x4, .int .i64 x5, .int .i64 x6, .int .i64 x7, .int .i64 x8] 53)).alloc (.cells #[.int .i64 0, .int .i64 0, .string { data := #[] }, .string { data := #[] }, .int .i64 0, .int .i64 0, .int .i64 0, .int .i64 0, .int .i64 0, .slice none 0 0] 56)).drew (wr.heap.size + 1) 56 [.int .i64 0, .int .i64 0, .string { data := #[] }, .string { data := #[] }, .int .i64 0, .int .i64 0, .int .i64 0, .int .i64 0, .int .i64 0, .slice none 0 0]) := Lib.hid (by
              have h := Bx.new (wr.alloc (.cells #[.int .i64 kd, .int .i64 fl, .int .i64 nw, .int .i64 x1, .string x2, .string x3, .int .i64 x4, .int .i64 x5, .int .i64 x6, .int .i64 x7, .int .i64 x8] 53)) [.int .i64 0, .int .i64 0, .string { data := #[] }, .string { data := #[] }, .int .i64 0, .int .i64 0, .int .i64 0, .int .i64 0, .int .i64 0, .slice none 0 0] 56
              have hz : (wr.alloc (.cells #[.int .i64 kd, .int .i64 fl, .int .i64 nw, .int .i64 x1, .string x2, .string x3, .int .i64 x4, .int .i64 x5, .int .i64 x6, .int .i64 x7, .int .i64 x8] 53)).heap.size = wr.heap.size + 1 := by simp
              rw [hz] at h
              exact h)
            have T1q7 := Lib.hid (T1q.out.grow hbA)
            have T2q7 := Lib.hid (T2q.out.grow hbA)
            clear hbA
            refine wpAnyH_ready (rs := [2, 6]) (by kernel_rfl) (by simp) ?_
            refine (AllReadyH.cons (o := ({ dst := some 45, op := Go.Op.call { callee := Go.Callee.value (Go.Operand.func 24), args := #[Go.Operand.tmp 43, Go.Operand.tmp 44], argTypes := #[24, 53] }, type := 56, pos := _, after := #[{ on := 0, ground := Go.Ground.data }, { on := 1, ground := Go.Ground.data }], guard := none } : Oper)) rfl (fun K hK => ?_) (AllReadyH.cons (o := ({ dst := some 11, op := Go.Op.alloc 56, type := 0, pos := _, after := #[], guard := none } : Oper)) rfl (fun K hK => ?_) AllReadyH.nil))
            · go_simp
              have HD := Lib.hid (HDO.out ((wr.alloc (.cells #[.int .i64 kd, .int .i64 fl, .int .i64 nw, .int .i64 x1, .string x2, .string x3, .int .i64 x4, .int .i64 x5, .int .i64 x6, .int .i64 x7, .int .i64 x8] 53)).alloc (.cells #[.int .i64 0, .int .i64 0, .string { data := #[] }, .string { data := #[] }, .int .i64 0, .int .i64 0, .int .i64 0, .int .i64 0, .int .i64 0, .slice none 0 0] 56)).drew B Ka T1q7.out)
              refine HD.out.mono ?_
              rintro e w1 ⟨l1, d1, rfl, hr1, hP1, ho1⟩
              go_wp2_with fail
              refine hK.out _ _ ?_ (fun hHeld => ?_)
              · exact hHeld.only ho1 (by omega)
              clear hK K
              try simp only [Act.put, List.setIfInBounds_toArray, List.set_cons_zero, List.set_cons_succ]
              have hz : ((wr.alloc (.cells #[.int .i64 kd, .int .i64 fl, .int .i64 nw, .int .i64 x1, .string x2, .string x3, .int .i64 x4, .int .i64 x5, .int .i64 x6, .int .i64 x7, .int .i64 x8] 53)).alloc (.cells #[.int .i64 0, .int .i64 0, .string { data := #[] }, .string { data := #[] }, .int .i64 0, .int .i64 0, .int .i64 0, .int .i64 0, .int .i64 0, .slice none 0 0] 56)).drew.heap.size = wr.heap.size + 1 + 1 := by show ((wr.alloc (.cells #[.int .i64 kd, .int .i64 fl, .int .i64 nw, .int .i64 x1, .string x2, .string x3, .int .i64 x4, .int .i64 x5, .int .i64 x6, .int .i64 x7, .int .i64 x8] 53)).alloc (.cells #[.int .i64 0, .int .i64 0, .string { data := #[] }, .string { data := #[] }, .int .i64 0, .int .i64 0, .int .i64 0, .int .i64 0, .int .i64 0, .slice none 0 0] 56)).heap.size = _; simp
              have hs1 : wr.heap.size + 1 + 1 ≤ w1.heap.size := by rw [← hz]; exact ho1.size
              have RB1 := Lib.hid (show ∀ g, Value.ownBlock (.slice l1 m d1) = some g → wr.heap.size + 1 + 1 ≤ g ∧ g < w1.heap.size from fun g hg => by have h := hr1.lt g hg; rw [hz] at h; exact h)
              clear hz
              have T1q72 := Lib.hid hP1
              have R1q72 := Lib.hid (row_base hr1 (Nat.zero_le _))
              have T2q72 := Lib.hid (T2q7.out.other ho1 (by omega) (by omega))
              have X2q72 := Lib.hid (X2q7.out.only ho1 (by omega))
              clear hr1 hP1 ho1 HD
              refine wpAnyH_ready (rs := [5, 6]) (by kernel_rfl) (by simp) ?_
              refine (AllReadyH.cons (o := ({ dst := some 48, op := Go.Op.call { callee := Go.Callee.value (Go.Operand.func 24), args := #[Go.Operand.tmp 46, Go.Operand.tmp 47], argTypes := #[24, 53] }, type := 56, pos := _, after := #[{ on := 3, ground := Go.Ground.data }, { on := 4, ground := Go.Ground.data }, { on := 2, ground := Go.Ground.chain }], guard := none } : Oper)) rfl (fun K hK => ?_) (AllReadyH.cons (o := ({ dst := some 11, op := Go.Op.alloc 56, type := 0, pos := _, after := #[], guard := none } : Oper)) rfl (fun K hK => ?_) AllReadyH.nil))
              · go_simp
                have HD := Lib.hid (HDO.out w1 C Kb T2q72.out)
                refine HD.out.mono ?_
                rintro e w2 ⟨l2, d2, rfl, hr1, hP1, ho1⟩
                go_wp2_with fail
                refine hK.out _ _ ?_ (fun hHeld => ?_)
                · exact hHeld.only ho1 (by omega)
                clear hK K
                try simp only [Act.put, List.setIfInBounds_toArray, List.set_cons_zero, List.set_cons_succ]
                have hz : w1.heap.size = w1.heap.size := by rfl
                have hs2 : w1.heap.size ≤ w2.heap.size := by rw [← hz]; exact ho1.size
                have RB2 := Lib.hid (show ∀ g, Value.ownBlock (.slice l2 m d2) = some g → w1.heap.size ≤ g ∧ g < w2.heap.size from fun g hg => by have h := hr1.lt g hg; rw [hz] at h; exact h)
                clear hz
                have T2q725 := Lib.hid hP1
                have R2q725 := Lib.hid (row_base hr1 (Nat.zero_le _))
                have T1q725 := Lib.hid (T1q72.out.other ho1 (by omega) (by omega))
                have R1q725 := Lib.hid (row_only R1q72.out ho1 fun g hg => by have := RB1.out g hg; omega)
                have X2q725 := Lib.hid (X2q72.out.only ho1 (by omega))
                clear hr1 hP1 ho1 HD
                refine wpAnyH_ready (rs := [6]) (by kernel_rfl) (by simp) ?_
                refine AllReadyH.cons (o := ({ dst := some 11, op := Go.Op.alloc 56, type := 0, pos := _, after := #[], guard := none } : Oper)) rfl (fun K hK => ?_) AllReadyH.nil
                go_simp
                refine hK.out _ _ ?_ (fun hHeld => ?_)
                · exact hHeld.alloc _
                clear hK K
                try simp only [Act.put, List.setIfInBounds_toArray, List.set_cons_zero, List.set_cons_succ]
                have hbA : Below w2.heap.size w2 (w2.alloc (.cells #[.int .i64 0, .int .i64 0, .string { data := #[] }, .string { data := #[] }, .int .i64 0, .int .i64 0, .int .i64 0, .int .i64 0, .int .i64 0, .slice none 0 0] 56)) := by
                  have h := below_alloc (Below.refl w2.heap.size w2) (.cells #[.int .i64 0, .int .i64 0, .string { data := #[] }, .string { data := #[] }, .int .i64 0, .int .i64 0, .int .i64 0, .int .i64 0, .int .i64 0, .slice none 0 0] 56)
                  exact ⟨h.os, h.tape, h.output, h.size, h.block⟩
                have X1q7256 : Hid (Bx (w2.alloc (.cells #[.int .i64 0, .int .i64 0, .string { data := #[] }, .string { data := #[] }, .int .i64 0, .int .i64 0, .int .i64 0, .int .i64 0, .int .i64 0, .slice none 0 0] 56)) (w2.heap.size) 56 [.int .i64 0, .int .i64 0, .string { data := #[] }, .string { data := #[] }, .int .i64 0, .int .i64 0, .int .i64 0, .int .i64 0, .int .i64 0, .slice none 0 0]) := Lib.hid (by
                  have h := Bx.new w2 [.int .i64 0, .int .i64 0, .string { data := #[] }, .string { data := #[] }, .int .i64 0, .int .i64 0, .int .i64 0, .int .i64 0, .int .i64 0, .slice none 0 0] 56
                  have hz : w2.heap.size = w2.heap.size := by rfl
                  rw [hz] at h
                  exact h)
                have T1q7256 := Lib.hid (T1q725.out.grow hbA)
                have T2q7256 := Lib.hid (T2q725.out.grow hbA)
                have R1q7256 := Lib.hid (row_below R1q725.out hbA)
                have R2q7256 := Lib.hid (row_below R2q725.out hbA)
                have X2q7256 := Lib.hid (X2q725.out.below hbA)
                clear hbA
                obtain ⟨w8, hst8, hbx8, ho8⟩ := store56 X1q7256.out rfl er s1 s4 s5 s6 s7 s8 s2 s3 (.slice l1 m d1) rfl
                have X2e := Lib.hid (X2q7256.out.only ho8 (by omega))
                obtain ⟨w9, hst9, hbx9, ho9⟩ := store56 X2e.out rfl er s1 s4 s5 s6 s7 s8 s2 s3 (.slice l2 m d2) rfl
                have HO8 := Lib.hid ho8
                have HO9 := Lib.hid ho9
                have X1f := Lib.hid (hbx8.only ho9 (by omega))
                have X2f := Lib.hid hbx9
                have T1f := Lib.hid ((T1q7256.out.other ho8 (by omega) (by omega)).other ho9 (by omega) (by omega))
                have T2f := Lib.hid ((T2q7256.out.other ho8 (by omega) (by omega)).other ho9 (by omega) (by omega))
                have R1f := Lib.hid (row_only (row_only R1q7256.out ho8 fun g hg => by have := RB1.out g hg; omega) ho9 fun g hg => by have := RB1.out g hg; omega)
                have R2f := Lib.hid (row_only (row_only R2q7256.out ho8 fun g hg => by have := RB2.out g hg; omega) ho9 fun g hg => by have := RB2.out g hg; omega)
                clear hbx8 hbx9 ho8 ho9
                refine wpAnyH_ready (rs := [8]) (by kernel_rfl) (by simp) ?_
                refine AllReadyH.cons (o := ({ dst := none, op := Go.Op.store 56 (Go.Operand.tmp 11) (Go.Operand.tmp 45), type := 0, pos := _, after := #[{ on := 6, ground := Go.Ground.data }, { on := 2, ground := Go.Ground.data }, { on := 5, ground := Go.Ground.chain }, { on := 0, ground := Go.Ground.phase }, { on := 1, ground := Go.Ground.phase }, { on := 2, ground := Go.Ground.phase }, { on := 3, ground := Go.Ground.textOnly Go.Departure.lateStores }, { on := 4, ground := Go.Ground.textOnly Go.Departure.lateStores }, { on := 5, ground := Go.Ground.textOnly Go.Departure.lateStoresUnsure }, { on := 6, ground := Go.Ground.phase }, { on := 7, ground := Go.Ground.phase }], guard := none } : Oper)) rfl (fun K hK => ?_) AllReadyH.nil
                go_simp
                refine hK.out _ _ ?_ (fun hHeld => ?_)
                · exact hHeld.only HO8.out (by omega)
                clear hK K
                try simp only [Act.put, List.setIfInBounds_toArray, List.set_cons_zero, List.set_cons_succ]
                refine wpAnyH_ready (rs := [9]) (by kernel_rfl) (by simp) ?_
                refine AllReadyH.cons (o := ({ dst := none, op := Go.Op.store 56 (Go.Operand.tmp 12) (Go.Operand.tmp 48), type := 0, pos := _, after := #[{ on := 7, ground := Go.Ground.data }, { on := 5, ground := Go.Ground.data }, { on := 8, ground := Go.Ground.chain }, { on := 0, ground := Go.Ground.phase }, { on := 1, ground := Go.Ground.phase }, { on := 2, ground := Go.Ground.phase }, { on := 3, ground := Go.Ground.phase }, { on := 4, ground := Go.Ground.phase }, { on := 5, ground := Go.Ground.phase }, { on := 6, ground := Go.Ground.phase }, { on := 7, ground := Go.Ground.phase }, { on := 8, ground := Go.Ground.phase }], guard := none } : Oper)) rfl (fun K hK => ?_) AllReadyH.nil
                go_simp
                refine hK.out _ _ ?_ (fun hHeld => ?_)
                · exact hHeld.only HO9.out (by omega)
                clear hK K
                try simp only [Act.put, List.setIfInBounds_toArray, List.set_cons_zero, List.set_cons_succ]
                refine wpAnyH_done (by kernel_rfl) ?_ _
                go_wp2
                go_meet
                case rel => exact Lib.hid ⟨_, _, l1, d1, l2, d2, rfl, rfl, T1f.out, T2f.out, X1f.out, X2f.out, R1f.out, R2f.out⟩
              · go_simp
                refine hK.out _ _ ?_ (fun hHeld => ?_)
                · exact hHeld.alloc _
                clear hK K
                try simp only [Act.put, List.setIfInBounds_toArray, List.set_cons_zero, List.set_cons_succ]
                have hbA : Below w1.heap.size w1 (w1.alloc (.cells #[.int .i64 0, .int .i64 0, .string { data := #[] }, .string { data := #[] }, .int .i64 0, .int .i64 0, .int .i64 0, .int .i64 0, .int .i64 0, .slice none 0 0] 56)) := by
                  have h := below_alloc (Below.refl w1.heap.size w1) (.cells #[.int .i64 0, .int .i64 0, .string { data := #[] }, .string { data := #[] }, .int .i64 0, .int .i64 0, .int .i64 0, .int .i64 0, .int .i64 0, .slice none 0 0] 56)
                  exact ⟨h.os, h.tape, h.output, h.size, h.block⟩
                have X1q726 : Hid (Bx (w1.alloc (.cells #[.int .i64 0, .int .i64 0, .string { data := #[] }, .string { data := #[] }, .int .i64 0, .int .i64 0, .int .i64 0, .int .i64 0, .int .i64 0, .slice none 0 0] 56)) (w1.heap.size) 56 [.int .i64 0, .int .i64 0, .string { data := #[] }, .string { data := #[] }, .int .i64 0, .int .i64 0, .int .i64 0, .int .i64 0, .int .i64 0, .slice none 0 0]) := Lib.hid (by
                  have h := Bx.new w1 [.int .i64 0, .int .i64 0, .string { data := #[] }, .string { data := #[] }, .int .i64 0, .int .i64 0, .int .i64 0, .int .i64 0, .int .i64 0, .slice none 0 0] 56
                  have hz : w1.heap.size = w1.heap.size := by rfl
                  rw [hz] at h
                  exact h)
                have T1q726 := Lib.hid (T1q72.out.grow hbA)
                have T2q726 := Lib.hid (T2q72.out.grow hbA)
                have R1q726 := Lib.hid (row_below R1q72.out hbA)
                have X2q726 := Lib.hid (X2q72.out.below hbA)
                clear hbA
                refine wpAnyH_ready (rs := [5]) (by kernel_rfl) (by simp) ?_
                refine AllReadyH.cons (o := ({ dst := some 48, op := Go.Op.call { callee := Go.Callee.value (Go.Operand.func 24), args := #[Go.Operand.tmp 46, Go.Operand.tmp 47], argTypes := #[24, 53] }, type := 56, pos := _, after := #[{ on := 3, ground := Go.Ground.data }, { on := 4, ground := Go.Ground.data }, { on := 2, ground := Go.Ground.chain }], guard := none } : Oper)) rfl (fun K hK => ?_) AllReadyH.nil
                go_simp
                have HD := Lib.hid (HDO.out (w1.alloc (.cells #[.int .i64 0, .int .i64 0, .string { data := #[] }, .string { data := #[] }, .int .i64 0, .int .i64 0, .int .i64 0, .int .i64 0, .int .i64 0, .slice none 0 0] 56)) C Kb T2q726.out)
                refine HD.out.mono ?_
                rintro e w2 ⟨l2, d2, rfl, hr1, hP1, ho1⟩
                go_wp2_with fail
                refine hK.out _ _ ?_ (fun hHeld => ?_)
                · exact hHeld.only ho1 (by omega)
                clear hK K
                try simp only [Act.put, List.setIfInBounds_toArray, List.set_cons_zero, List.set_cons_succ]
                have hz : (w1.alloc (.cells #[.int .i64 0, .int .i64 0, .string { data := #[] }, .string { data := #[] }, .int .i64 0, .int .i64 0, .int .i64 0, .int .i64 0, .int .i64 0, .slice none 0 0] 56)).heap.size = w1.heap.size + 1 := by show (w1.alloc (.cells #[.int .i64 0, .int .i64 0, .string { data := #[] }, .string { data := #[] }, .int .i64 0, .int .i64 0, .int .i64 0, .int .i64 0, .int .i64 0, .slice none 0 0] 56)).heap.size = _; simp
                have hs2 : w1.heap.size + 1 ≤ w2.heap.size := by rw [← hz]; exact ho1.size
                have RB2 := Lib.hid (show ∀ g, Value.ownBlock (.slice l2 m d2) = some g → w1.heap.size + 1 ≤ g ∧ g < w2.heap.size from fun g hg => by have h := hr1.lt g hg; rw [hz] at h; exact h)
                clear hz
                have T2q7265 := Lib.hid hP1
                have R2q7265 := Lib.hid (row_base hr1 (Nat.zero_le _))
                have T1q7265 := Lib.hid (T1q726.out.other ho1 (by omega) (by omega))
                have R1q7265 := Lib.hid (row_only R1q726.out ho1 fun g hg => by have := RB1.out g hg; omega)
                have X1q7265 := Lib.hid (X1q726.out.only ho1 (by omega))
                have X2q7265 := Lib.hid (X2q726.out.only ho1 (by omega))
                clear hr1 hP1 ho1 HD
                obtain ⟨w8, hst8, hbx8, ho8⟩ := store56 X1q7265.out rfl er s1 s4 s5 s6 s7 s8 s2 s3 (.slice l1 m d1) rfl
                have X2e := Lib.hid (X2q7265.out.only ho8 (by omega))
                obtain ⟨w9, hst9, hbx9, ho9⟩ := store56 X2e.out rfl er s1 s4 s5 s6 s7 s8 s2 s3 (.slice l2 m d2) rfl
                have HO8 := Lib.hid ho8
                have HO9 := Lib.hid ho9
                have X1f := Lib.hid (hbx8.only ho9 (by omega))
                have X2f := Lib.hid hbx9
                have T1f := Lib.hid ((T1q7265.out.other ho8 (by omega) (by omega)).other ho9 (by omega) (by omega))
                have T2f := Lib.hid ((T2q7265.out.other ho8 (by omega) (by omega)).other ho9 (by omega) (by omega))
                have R1f := Lib.hid (row_only (row_only R1q7265.out ho8 fun g hg => by have := RB1.out g hg; omega) ho9 fun g hg => by have := RB1.out g hg; omega)
                have R2f := Lib.hid (row_only (row_only R2q7265.out ho8 fun g hg => by have := RB2.out g hg; omega) ho9 fun g hg => by have := RB2.out g hg; omega)
                clear hbx8 hbx9 ho8 ho9
                refine wpAnyH_ready (rs := [8]) (by kernel_rfl) (by simp) ?_
                refine AllReadyH.cons (o := ({ dst := none, op := Go.Op.store 56 (Go.Operand.tmp 11) (Go.Operand.tmp 45), type := 0, pos := _, after := #[{ on := 6, ground := Go.Ground.data }, { on := 2, ground := Go.Ground.data }, { on := 5, ground := Go.Ground.chain }, { on := 0, ground := Go.Ground.phase }, { on := 1, ground := Go.Ground.phase }, { on := 2, ground := Go.Ground.phase }, { on := 3, ground := Go.Ground.textOnly Go.Departure.lateStores }, { on := 4, ground := Go.Ground.textOnly Go.Departure.lateStores }, { on := 5, ground := Go.Ground.textOnly Go.Departure.lateStoresUnsure }, { on := 6, ground := Go.Ground.phase }, { on := 7, ground := Go.Ground.phase }], guard := none } : Oper)) rfl (fun K hK => ?_) AllReadyH.nil
                go_simp
                refine hK.out _ _ ?_ (fun hHeld => ?_)
                · exact hHeld.only HO8.out (by omega)
                clear hK K
                try simp only [Act.put, List.setIfInBounds_toArray, List.set_cons_zero, List.set_cons_succ]
                refine wpAnyH_ready (rs := [9]) (by kernel_rfl) (by simp) ?_
                refine AllReadyH.cons (o := ({ dst := none, op := Go.Op.store 56 (Go.Operand.tmp 12) (Go.Operand.tmp 48), type := 0, pos := _, after := #[{ on := 7, ground := Go.Ground.data }, { on := 5, ground := Go.Ground.data }, { on := 8, ground := Go.Ground.chain }, { on := 0, ground := Go.Ground.phase }, { on := 1, ground := Go.Ground.phase }, { on := 2, ground := Go.Ground.phase }, { on := 3, ground := Go.Ground.phase }, { on := 4, ground := Go.Ground.phase }, { on := 5, ground := Go.Ground.phase }, { on := 6, ground := Go.Ground.phase }, { on := 7, ground := Go.Ground.phase }, { on := 8, ground := Go.Ground.phase }], guard := none } : Oper)) rfl (fun K hK => ?_) AllReadyH.nil
                go_simp
                refine hK.out _ _ ?_ (fun hHeld => ?_)
                · exact hHeld.only HO9.out (by omega)
                clear hK K
                try simp only [Act.put, List.setIfInBounds_toArray, List.set_cons_zero, List.set_cons_succ]
                refine wpAnyH_done (by kernel_rfl) ?_ _
                go_wp2
                go_meet
                case rel => exact Lib.hid ⟨_, _, l1, d1, l2, d2, rfl, rfl, T1f.out, T2f.out, X1f.out, X2f.out, R1f.out, R2f.out⟩
            · go_simp
              refine hK.out _ _ ?_ (fun hHeld => ?_)
              · exact hHeld.alloc _
              clear hK K
              try simp only [Act.put, List.setIfInBounds_toArray, List.set_cons_zero, List.set_cons_succ]
              have hbA : Below ((wr.alloc (.cells #[.int .i64 kd, .int .i64 fl, .int .i64 nw, .int .i64 x1, .string x2, .string x3, .int .i64 x4, .int .i64 x5, .int .i64 x6, .int .i64 x7, .int .i64 x8] 53)).alloc (.cells #[.int .i64 0, .int .i64 0, .string { data := #[] }, .string { data := #[] }, .int .i64 0, .int .i64 0, .int .i64 0, .int .i64 0, .int .i64 0, .slice none 0 0] 56)).drew.heap.size ((wr.alloc (.cells #[.int .i64 kd, .int .i64 fl, .int .i64 nw, .int .i64 x1, .string x2, .string x3, .int .i64 x4, .int .i64 x5, .int .i64 x6, .int .i64 x7, .int .i64 x8] 53)).alloc (.cells #[.int .i64 0, .int .i64 0, .string { data := #[] }, .string { data := #[] }, .int .i64 0, .int .i64 0, .int .i64 0, .int .i64 0, .int .i64 0, .slice none 0 0] 56)).drew (((wr.alloc (.cells #[.int .i64 kd, .int .i64 fl, .int .i64 nw, .int .i64 x1, .string x2, .string x3, .int .i64 x4, .int .i64 x5, .int .i64 x6, .int .i64 x7, .int .i64 x8] 53)).alloc (.cells #[.int .i64 0, .int .i64 0, .string { data := #[] }, .string { data := #[] }, .int .i64 0, .int .i64 0, .int .i64 0, .int .i64 0, .int .i64 0, .slice none 0 0] 56)).alloc (.cells #[.int .i64 0, .int .i64 0, .string { data := #[] }, .string { data := #[] }, .int .i64 0, .int .i64 0, .int .i64 0, .int .i64 0, .int .i64 0, .slice none 0 0] 56)).drew := by
                have h := below_alloc (Below.refl ((wr.alloc (.cells #[.int .i64 kd, .int .i64 fl, .int .i64 nw, .int .i64 x1, .string x2, .string x3, .int .i64 x4, .int .i64 x5, .int .i64 x6, .int .i64 x7, .int .i64 x8] 53)).alloc (.cells #[.int .i64 0, .int .i64 0, .string { data := #[] }, .string { data := #[] }, .int .i64 0, .int .i64 0, .int .i64 0, .int .i64 0, .int .i64 0, .slice none 0 0] 56)).heap.size ((wr.alloc (.cells #[.int .i64 kd, .int .i64 fl, .int .i64 nw, .int .i64 x1, .string x2, .string x3, .int .i64 x4, .int .i64 x5, .int .i64 x6, .int .i64 x7, .int .i64 x8] 53)).alloc (.cells #[.int .i64 0, .int .i64 0, .string { data := #[] }, .string { data := #[] }, .int .i64 0, .int .i64 0, .int .i64 0, .int .i64 0, .int .i64 0, .slice none 0 0] 56))) (.cells #[.int .i64 0, .int .i64 0, .string { data := #[] }, .string { data := #[] }, .int .i64 0, .int .i64 0, .int .i64 0, .int .i64 0, .int .i64 0, .slice none 0 0] 56)
                exact ⟨h.os, h.tape, h.output, h.size, h.block⟩
              have X1q76 : Hid (Bx (((wr.alloc (.cells #[.int .i64 kd, .int .i64 fl, .int .i64 nw, .int .i64 x1, .string x2, .string x3, .int .i64 x4, .int .i64 x5, .int .i64 x6, .int .i64 x7, .int .i64 x8] 53)).alloc (.cells #[.int .i64 0, .int .i64 0, .string { data := #[] }, .string { data := #[] }, .int .i64 0, .int .i64 0, .int .i64 0, .int .i64 0, .int .i64 0, .slice none 0 0] 56)).alloc (.cells #[.int .i64 0, .int .i64 0, .string { data := #[] }, .string { data := #[] }, .int .i64 0, .int .i64 0, .int .i64 0, .int .i64 0, .int .i64 0, .slice none 0 0] 56)).drew (wr.heap.size + 1 + 1) 56 [.int .i64 0, .int .i64 0, .string { data := #[] }, .string { data := #[] }, .int .i64 0, .int .i64 0, .int .i64 0, .int .i64 0, .int .i64 0, .slice none 0 0]) := Lib.hid (by
                have h := Bx.new ((wr.alloc (.cells #[.int .i64 kd, .int .i64 fl, .int .i64 nw, .int .i64 x1, .string x2, .string x3, .int .i64 x4, .int .i64 x5, .int .i64 x6, .int .i64 x7, .int .i64 x8] 53)).alloc (.cells #[.int .i64 0, .int .i64 0, .string { data := #[] }, .string { data := #[] }, .int .i64 0, .int .i64 0, .int .i64 0, .int .i64 0, .int .i64 0, .slice none 0 0] 56)) [.int .i64 0, .int .i64 0, .string { data := #[] }, .string { data := #[] }, .int .i64 0, .int .i64 0, .int .i64 0, .int .i64 0, .int .i64 0, .slice none 0 0] 56
                have hz : ((wr.alloc (.cells #[.int .i64 kd, .int .i64 fl, .int .i64 nw, .int .i64 x1, .string x2, .string x3, .int .i64 x4, .int .i64 x5, .int .i64 x6, .int .i64 x7, .int .i64 x8] 53)).alloc (.cells #[.int .i64 0, .int .i64 0, .string { data := #[] }, .string { data := #[] }, .int .i64 0, .int .i64 0, .int .i64 0, .int .i64 0, .int .i64 0, .slice none 0 0] 56)).heap.size = wr.heap.size + 1 + 1 := by simp
                rw [hz] at h
                exact h)
              have T1q76 := Lib.hid (T1q7.out.grow hbA)
              have T2q76 := Lib.hid (T2q7.out.grow hbA)
              have X2q76 := Lib.hid (X2q7.out.below hbA)
              clear hbA
              refine wpAnyH_ready (rs := [2]) (by kernel_rfl) (by simp) ?_
              refine AllReadyH.cons (o := ({ dst := some 45, op := Go.Op.call { callee := Go.Callee.value (Go.Operand.func 24), args := #[Go.Operand.tmp 43, Go.Operand.tmp 44], argTypes := #[24, 53] }, type := 56, pos := _, after := #[{ on := 0, ground := Go.Ground.data }, { on := 1, ground := Go.Ground.data }], guard := none } : Oper)) rfl (fun K hK => ?_) AllReadyH.nil
              go_simp
              have HD := Lib.hid (HDO.out (((wr.alloc (.cells #[.int .i64 kd, .int .i64 fl, .int .i64 nw, .int .i64 x1, .string x2, .string x3, .int .i64 x4, .int .i64 x5, .int .i64 x6, .int .i64 x7, .int .i64 x8] 53)).alloc (.cells #[.int .i64 0, .int .i64 0, .string { data := #[] }, .string { data := #[] }, .int .i64 0, .int .i64 0, .int .i64 0, .int .i64 0, .int .i64 0, .slice none 0 0] 56)).alloc (.cells #[.int .i64 0, .int .i64 0, .string { data := #[] }, .string { data := #[] }, .int .i64 0, .int .i64 0, .int .i64 0, .int .i64 0, .int .i64 0, .slice none 0 0] 56)).drew B Ka T1q76.out)
              refine HD.out.mono ?_
              rintro e w1 ⟨l1, d1, rfl, hr1, hP1, ho1⟩
              go_wp2_with fail
              refine hK.out _ _ ?_ (fun hHeld => ?_)
              · exact hHeld.only ho1 (by omega)
              clear hK K
              try simp only [Act.put, List.setIfInBounds_toArray, List.set_cons_zero, List.set_cons_succ]
              have hz : (((wr.alloc (.cells #[.int .i64 kd, .int .i64 fl, .int .i64 nw, .int .i64 x1, .string x2, .string x3, .int .i64 x4, .int .i64 x5, .int .i64 x6, .int .i64 x7, .int .i64 x8] 53)).alloc (.cells #[.int .i64 0, .int .i64 0, .string { data := #[] }, .string { data := #[] }, .int .i64 0, .int .i64 0, .int .i64 0, .int .i64 0, .int .i64 0, .slice none 0 0] 56)).alloc (.cells #[.int .i64 0, .int .i64 0, .string { data := #[] }, .string { data := #[] }, .int .i64 0, .int .i64 0, .int .i64 0, .int .i64 0, .int .i64 0, .slice none 0 0] 56)).drew.heap.size = wr.heap.size + 1 + 1 + 1 := by show (((wr.alloc (.cells #[.int .i64 kd, .int .i64 fl, .int .i64 nw, .int .i64 x1, .string x2, .string x3, .int .i64 x4, .int .i64 x5, .int .i64 x6, .int .i64 x7, .int .i64 x8] 53)).alloc (.cells #[.int .i64 0, .int .i64 0, .string { data := #[] }, .string { data := #[] }, .int .i64 0, .int .i64 0, .int .i64 0, .int .i64 0, .int .i64 0, .slice none 0 0] 56)).alloc (.cells #[.int .i64 0, .int .i64 0, .string { data := #[] }, .string { data := #[] }, .int .i64 0, .int .i64 0, .int .i64 0, .int .i64 0, .int .i64 0, .slice none 0 0] 56)).heap.size = _; simp
              have hs1 : wr.heap.size + 1 + 1 + 1 ≤ w1.heap.size := by rw [← hz]; exact ho1.size
              have RB1 := Lib.hid (show ∀ g, Value.ownBlock (.slice l1 m d1) = some g → wr.heap.size + 1 + 1 + 1 ≤ g ∧ g < w1.heap.size from fun g hg => by have h := hr1.lt g hg; rw [hz] at h; exact h)
              clear hz
              have T1q762 := Lib.hid hP1
              have R1q762 := Lib.hid (row_base hr1 (Nat.zero_le _))
              have T2q762 := Lib.hid (T2q76.out.other ho1 (by omega) (by omega))
              have X1q762 := Lib.hid (X1q76.out.only ho1 (by omega))
              have X2q762 := Lib.hid (X2q76.out.only ho1 (by omega))
              clear hr1 hP1 ho1 HD
              refine wpAnyH_ready (rs := [5]) (by kernel_rfl) (by simp) ?_
              refine AllReadyH.cons (o := ({ dst := some 48, op := Go.Op.call { callee := Go.Callee.value (Go.Operand.func 24), args := #[Go.Operand.tmp 46, Go.Operand.tmp 47], argTypes := #[24, 53] }, type := 56, pos := _, after := #[{ on := 3, ground := Go.Ground.data }, { on := 4, ground := Go.Ground.data }, { on := 2, ground := Go.Ground.chain }], guard := none } : Oper)) rfl (fun K hK => ?_) AllReadyH.nil
              go_simp
              have HD := Lib.hid (HDO.out w1 C Kb T2q762.out)
              refine HD.out.mono ?_
              rintro e w2 ⟨l2, d2, rfl, hr1, hP1, ho1⟩
              go_wp2_with fail
              refine hK.out _ _ ?_ (fun hHeld => ?_)
              · exact hHeld.only ho1 (by omega)
              clear hK K
              try simp only [Act.put, List.setIfInBounds_toArray, List.set_cons_zero, List.set_cons_succ]
              have hz : w1.heap.size = w1.heap.size := by rfl
              have hs2 : w1.heap.size ≤ w2.heap.size := by rw [← hz]; exact ho1.size
              have RB2 := Lib.hid (show ∀ g, Value.ownBlock (.slice l2 m d2) = some g → w1.heap.size ≤ g ∧ g < w2.heap.size from fun g hg => by have h := hr1.lt g hg; rw [hz] at h; exact h)
              clear hz
              have T2q7625 := Lib.hid hP1
              have R2q7625 := Lib.hid (row_base hr1 (Nat.zero_le _))
              have T1q7625 := Lib.hid (T1q762.out.other ho1 (by omega) (by omega))
              have R1q7625 := Lib.hid (row_only R1q762.out ho1 fun g hg => by have := RB1.out g hg; omega)
              have X1q7625 := Lib.hid (X1q762.out.only ho1 (by omega))
              have X2q7625 := Lib.hid (X2q762.out.only ho1 (by omega))
              clear hr1 hP1 ho1 HD
              obtain ⟨w8, hst8, hbx8, ho8⟩ := store56 X1q7625.out rfl er s1 s4 s5 s6 s7 s8 s2 s3 (.slice l1 m d1) rfl
              have X2e := Lib.hid (X2q7625.out.only ho8 (by omega))
              obtain ⟨w9, hst9, hbx9, ho9⟩ := store56 X2e.out rfl er s1 s4 s5 s6 s7 s8 s2 s3 (.slice l2 m d2) rfl
              have HO8 := Lib.hid ho8
              have HO9 := Lib.hid ho9
              have X1f := Lib.hid (hbx8.only ho9 (by omega))
              have X2f := Lib.hid hbx9
              have T1f := Lib.hid ((T1q7625.out.other ho8 (by omega) (by omega)).other ho9 (by omega) (by omega))
              have T2f := Lib.hid ((T2q7625.out.other ho8 (by omega) (by omega)).other ho9 (by omega) (by omega))
              have R1f := Lib.hid (row_only (row_only R1q7625.out ho8 fun g hg => by have := RB1.out g hg; omega) ho9 fun g hg => by have := RB1.out g hg; omega)
              have R2f := Lib.hid (row_only (row_only R2q7625.out ho8 fun g hg => by have := RB2.out g hg; omega) ho9 fun g hg => by have := RB2.out g hg; omega)
              clear hbx8 hbx9 ho8 ho9
              refine wpAnyH_ready (rs := [8]) (by kernel_rfl) (by simp) ?_
              refine AllReadyH.cons (o := ({ dst := none, op := Go.Op.store 56 (Go.Operand.tmp 11) (Go.Operand.tmp 45), type := 0, pos := _, after := #[{ on := 6, ground := Go.Ground.data }, { on := 2, ground := Go.Ground.data }, { on := 5, ground := Go.Ground.chain }, { on := 0, ground := Go.Ground.phase }, { on := 1, ground := Go.Ground.phase }, { on := 2, ground := Go.Ground.phase }, { on := 3, ground := Go.Ground.textOnly Go.Departure.lateStores }, { on := 4, ground := Go.Ground.textOnly Go.Departure.lateStores }, { on := 5, ground := Go.Ground.textOnly Go.Departure.lateStoresUnsure }, { on := 6, ground := Go.Ground.phase }, { on := 7, ground := Go.Ground.phase }], guard := none } : Oper)) rfl (fun K hK => ?_) AllReadyH.nil
              go_simp
              refine hK.out _ _ ?_ (fun hHeld => ?_)
              · exact hHeld.only HO8.out (by omega)
              clear hK K
              try simp only [Act.put, List.setIfInBounds_toArray, List.set_cons_zero, List.set_cons_succ]
              refine wpAnyH_ready (rs := [9]) (by kernel_rfl) (by simp) ?_
              refine AllReadyH.cons (o := ({ dst := none, op := Go.Op.store 56 (Go.Operand.tmp 12) (Go.Operand.tmp 48), type := 0, pos := _, after := #[{ on := 7, ground := Go.Ground.data }, { on := 5, ground := Go.Ground.data }, { on := 8, ground := Go.Ground.chain }, { on := 0, ground := Go.Ground.phase }, { on := 1, ground := Go.Ground.phase }, { on := 2, ground := Go.Ground.phase }, { on := 3, ground := Go.Ground.phase }, { on := 4, ground := Go.Ground.phase }, { on := 5, ground := Go.Ground.phase }, { on := 6, ground := Go.Ground.phase }, { on := 7, ground := Go.Ground.phase }, { on := 8, ground := Go.Ground.phase }], guard := none } : Oper)) rfl (fun K hK => ?_) AllReadyH.nil
              go_simp
              refine hK.out _ _ ?_ (fun hHeld => ?_)
              · exact hHeld.only HO9.out (by omega)
              clear hK K
              try simp only [Act.put, List.setIfInBounds_toArray, List.set_cons_zero, List.set_cons_succ]
              refine wpAnyH_done (by kernel_rfl) ?_ _
              go_wp2
              go_meet
              case rel => exact Lib.hid ⟨_, _, l1, d1, l2, d2, rfl, rfl, T1f.out, T2f.out, X1f.out, X2f.out, R1f.out, R2f.out⟩
        case rest =>
          obtain ⟨p1, p2, l1, e1, l2, e2, rfl, rfl, hP, hQ, hx1, hx2, hr1, hr2⟩ := hcut.out
          clear hcut
          obtain ⟨b0, b1, b2, b3, b4, b5, b6, b7, b8, b9⟩ := hx1.ten
          obtain ⟨t0, t1, t2, t3, t4, t5, t6, t7, t8, t9⟩ := hx2.ten
          have hsm := sameE_refl ⟨⟨s1, s2, s3, s4, s5⟩, s6, s7, s8⟩
          have HSM := Lib.hid (same_any hr1 hr2 hm9)
          have HP := Lib.hid hP
          have HQ := Lib.hid hQ
          clear hP hQ hx1 hx2 hr1 hr2
          go_wp2_with (go_at_call 13; refine HSM.out.mono ?_; rintro e w' ⟨rfl, qq, rfl⟩)
          go_roundg (n - (j + 1))
          case measure => omega
          case rel => exact Lib.hid ⟨j + 1, by omega, by go_num, HP.out.grow (below_drewN (Below.refl _ _) qq), HQ.out.grow (below_drewN (Below.refl _ _) qq)⟩
      · obtain rfl : j = n := by omega
        rw [List.take_of_length_le (by rw [← HLN.out]; exact Nat.le_refl _)] at hP hQ
        generalize runS l = L at hP hQ
        have h64 := hP.1.fine.2
        have HP := Lib.hid hP
        have HQ := Lib.hid hQ
        clear hP hQ
        go_wp2_with fail
        refine (AL.out _).mono ?_
        rintro e w3 ⟨rfl, hb3⟩
        have HP3 := Lib.hid (HP.out.grow hb3)
        have HQ3 := Lib.hid (HQ.out.grow hb3)
        clear hb3 HP HQ
        go_wp2_with fail
        refine (all_any HP3.out.1).mono ?_
        rintro e w4 ⟨v4, rfl, hr4, hb4⟩
        have HP4 := Lib.hid (HP3.out.grow hb4)
        have HQ4 := Lib.hid (HQ3.out.grow hb4)
        have HPL := Lib.hid (plain_any hr4 (by omega))
        obtain ⟨a4, c4, rfl, -, -⟩ := row_any hr4
        clear hr4 hb4
        go_wp2_with fail
        refine HPL.out.mono ?_
        rintro e w5 ⟨v5, rfl, hr5, hb5⟩
        have HQ5 := Lib.hid (HQ4.out.grow hb5)
        have HP5 := Lib.hid (HP4.out.grow hb5)
        obtain ⟨a5, c5, rfl, -, -⟩ := row_any hr5
        have HR5 := Lib.hid hr5
        clear hr5 hb5
        go_wp2_with fail
        refine (all_any HQ5.out.1).mono ?_
        rintro e w6 ⟨v6, rfl, hr6, hb6⟩
        have HP6 := Lib.hid (HP5.out.grow hb6)
        have HR6 := Lib.hid (row_below HR5.out hb6)
        have HPL2 := Lib.hid (plain_any hr6 (by omega))
        obtain ⟨a6, c6, rfl, -, -⟩ := row_any hr6
        clear hr6 hb6
        go_wp2_with fail
        refine HPL2.out.mono ?_
        rintro e w7 ⟨v7, rfl, hr7, hb7⟩
        obtain ⟨a7, c7, rfl, -, -⟩ := row_any hr7
        have HP7 := Lib.hid (HP6.out.grow hb7)
        have HSM := Lib.hid (same_any (row_below HR6.out hb7) hr7 (by omega))
        clear hr7 hb7
        go_wp2_with (go_at_call 13; refine HSM.out.mono ?_; rintro e w' ⟨rfl, qq, rfl⟩)
        go_ret
        exact ⟨rfl, below_drewN HP7.out.2.2 qq⟩

end Go.Proofs.Ytondjponengedaa
