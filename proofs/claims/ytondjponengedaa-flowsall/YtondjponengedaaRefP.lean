/-
  plays: a script on a table, and on the document's.
-/
import Derived.Test.YtondjponengedaaRefs3
import Derived.Test.YtondjponengedaaLaw
namespace Go.Proofs.Ytondjponengedaa
open Go.RowKit
set_option linter.unusedVariables false
set_option linter.unusedSimpArgs false
set_option maxRecDepth 10000
attribute [local go_sem ↓] bigS56 entry_eq42

theorem rdo_any {w : World} {L : List En} {v : Value} (h : Rf w v L) (hn : L.length ≤ 64) (o : Opr) :
    Calls Try.prog 31 #[v, opv o] w fun e w' => RdTo w v (acts L o).1 (acts L o).2 e w' := by
  by_cases h0 : o.kind = 0
  · exact rdoA_any h hn o h0
  · by_cases h1 : o.kind = 1
    · exact rdoB_any h hn o h1
    · by_cases h2 : o.kind = 2
      · exact rdoC_any h hn o h2
      · by_cases h3 : o.kind = 3
        · exact rdoD_any h hn o h3
        · by_cases h4 : o.kind = 4
          · exact rdoE_any h hn o h4
          · exact rdoF_any h hn o ⟨h0, h1, h2, h3, h4⟩
theorem acts_len {L : List En} (hn : L.length ≤ 64) (o : Opr) : (acts L o).2.l.length ≤ 64 := by
  unfold acts
  split
  · simp
  · split
    · simp
    · split
      · simp
      · split
        · simp
        · split
          · exact Nat.le_trans (xpd_le _ _) hn
          · simp

theorem box56 (W : World) (x0 x1 x4 x5 x6 x7 x8 : Int) (x2 x3 : ByteArray) (v : Value) (hv : v.oneCell' = true) :
    ∃ W', (bigS 56 ⟨W.heap.size, 0, none⟩ (.agg #[.int .i64 x0, .int .i64 x1, .string x2, .string x3, .int .i64 x4, .int .i64 x5, .int .i64 x6, .int .i64 x7, .int .i64 x8, v])).run Try.prog (W.alloc (.cells #[.int .i64 0, .int .i64 0, .string { data := #[] }, .string { data := #[] }, .int .i64 0, .int .i64 0, .int .i64 0, .int .i64 0, .int .i64 0, .slice none 0 0] 56)) = .ok () W' ∧
      Bx W' W.heap.size 56 [.int .i64 x0, .int .i64 x1, .string x2, .string x3, .int .i64 x4, .int .i64 x5, .int .i64 x6, .int .i64 x7, .int .i64 x8, v] ∧ Below W.heap.size W W' := by
  obtain ⟨W', h1, h2, h3⟩ := store56 (show Bx (W.alloc (.cells #[.int .i64 0, .int .i64 0, .string { data := #[] }, .string { data := #[] }, .int .i64 0, .int .i64 0, .int .i64 0, .int .i64 0, .int .i64 0, .slice none 0 0] 56)) W.heap.size 56 [.int .i64 0, .int .i64 0, .string { data := #[] }, .string { data := #[] }, .int .i64 0, .int .i64 0, .int .i64 0, .int .i64 0, .int .i64 0, .slice none 0 0] from Bx.new W _ 56) rfl x0 x1 x4 x5 x6 x7 x8 x2 x3 v hv
  exact ⟨W', h1, h2, only_below (below_alloc (Below.refl _ _) _) h3 (Nat.le_refl _)⟩

/-- What a round finds: the table and the document's row hold the same. -/
def PyRel (w : World) (B n : Nat) (K : List Int) (l : List Opr) (gg : Nat) (s1 s15 : Value) (wr : World) : Prop :=
  ∃ j : Nat, j + gg = n ∧ s15 = .int .i64 j ∧ Pl w wr B K (runS (l.take j)) ∧ Rf wr s1 (runS (l.take j)) ∧ ∀ g, s1.ownBlock = some g → g ≠ B

set_option maxHeartbeats 8000000 in
theorem plays_any {w W : World} {B n c : Nat} {K : List Int} {a : Option Addr} {l : List Opr} (hp : Pl w W B K []) (hs : Scr w a n c l) (hn6 : n ≤ 600) :
    Calls Try.prog 12 #[.pointer (some ⟨B, 0, none⟩), .slice none 0 0, .slice a n c] W fun e w' => ∃ v, e = .returned (.tuple #[v, .bool true]) ∧ Rf w' v (runS l) ∧ Pl w w' B K (runS l) := by
  have HP0 := Lib.hid hp
  have HS := Lib.hid hs
  have HLN := Lib.hid hs.1.1
  clear hp hs
  go_enter Try.func12, Try.ntmps12
  go_wp2
  go_loopg [1, 9, 10, 11, 12, 15] n (fun gg s1 s9 s10 s11 s12 s15 wr => Hid (PyRel w B n K l gg s1 s15 wr))
  case atStart => exact Lib.hid ⟨0, by omega, rfl, HP0.out, World.ownsRow_nil _ 0 42 8, fun g hg => by simp [Value.ownBlock] at hg⟩
  case round =>
    obtain ⟨j, hj, rfl, hP, hR, hv⟩ := hrel.out
    clear hrel
    obtain ⟨ar, cr, rfl, -, -⟩ := row_any hR
    by_cases hlt : j < n
    · have hltz : (j : Int) < (n : Int) := by omega
      obtain ⟨sb, so, rfl, hsb, hat, hokx⟩ := (HS.out.below hP.2.2).at hlt
      obtain ⟨d0, d1, d2, d3, d4, d5, d6, d7, d8, d9, d10⟩ := hat
      have hnx := runS_next l (j := j) (by rw [← HLN.out]; exact hlt)
      have hfine := hP.1.fine
      have hB := hP.1.lt
      generalize l[j]! = x at d0 d1 d2 d3 d4 d5 d6 d7 d8 d9 d10 hokx hnx
      generalize runS (l.take j) = L at *
      have hb1 : Below wr.heap.size wr (wr.alloc (.cells (ocs x).toArray 53)) := below_alloc (Below.refl _ _) _
      have HD := Lib.hid (rdo_any (hR.below hb1) hfine.2 x)
      have HX := Lib.hid (acts_len hfine.2 x)
      have HP1 := Lib.hid (hP.grow hb1)
      have HBO := Lib.hid (Bx.new wr (ocs x) 53)
      have HDS := Lib.hid (fun W (h : Pl w W B K L) => pl_does h x hokx)
      have HV := Lib.hid hv
      have HNX := Lib.hid hnx
      clear hb1 hP hR hv hnx hfine hokx
      obtain ⟨nl, hnl⟩ : ∃ nl, L.length = nl := ⟨_, rfl⟩
      rw [hnl] at HD HV ⊢
      clear hnl
      unfold RdTo at HD
      generalize (acts L x).2.err = er at *
      generalize (acts L x).2.seen = y at *
      generalize (acts L x).2.l = X at *
      generalize (acts L x).1 = L' at *
      obtain ⟨kd, fl, nw, ⟨⟨x1, x2, x3, x4, x5⟩, x6, x7, x8⟩⟩ := x
      obtain ⟨⟨y1, y2, y3, y4, y5⟩, y6, y7, y8⟩ := y
      simp only [ocs, ecs, opv, ansv] at HD HP1 HBO HDS
      simp only at d0 d1 d2 d3 d4 d5 d6 d7 d8 d9 d10
      go_wp2_with fail
      refine HD.out.mono ?_
      rintro e w1 ⟨v1, u1, rfl, hr1, hl1, hu1, hb1⟩
      obtain ⟨a1, c1, rfl, -, -⟩ := row_any hr1
      obtain ⟨au, cu, rfl, -, -⟩ := row_any hu1
      obtain ⟨m, hm⟩ : ∃ m, X.length = m := ⟨_, rfl⟩
      have HM := Lib.hid hm
      rw [hm] at hu1 ⊢
      obtain ⟨n1, hn1⟩ : ∃ n1, L'.length = n1 := ⟨_, rfl⟩
      have HN1 := Lib.hid hn1
      have hr1' := hr1
      rw [hn1] at hr1' hl1 ⊢
      have hsz1 : wr.heap.size + 1 ≤ w1.heap.size := by have := hb1.size; simpa using this
      have HV1 : Hid (∀ g, (Value.slice a1 n1 c1).ownBlock = some g → g ≠ B) := Lib.hid fun g hg => by
        rcases hl1 g hg with h | h
        · exact HV.out g h
        · simp at h; omega
      have HVU : Hid (∀ g, (Value.slice au m cu).ownBlock = some g → g ≠ B) := Lib.hid fun g hg => by
        have := (hu1.lt g hg).1
        simp at this
        omega
      have HP2 := Lib.hid (HP1.out.grow hb1)
      have HBO2 := Lib.hid (HBO.out.below hb1)
      have HR2 := Lib.hid hr1'
      have HU2 := Lib.hid (row_base hu1 (Nat.zero_le _))
      obtain ⟨w2, hst2, hbx2, hb2⟩ := box56 w1 er y1 y4 y5 y6 y7 y8 y2 y3 (.slice au m cu) rfl
      have HX2 := Lib.hid hbx2
      have HP3 := Lib.hid (HP2.out.grow hb2)
      have HBO3 := Lib.hid (HBO2.out.below hb2)
      have HR3 : Hid (Rf w2 (.slice a1 n1 c1) L') := Lib.hid (by unfold Rf; rw [HN1.out]; exact row_below (by have h := HR2.out; unfold Rf at h; rw [HN1.out] at h; exact h) hb2)
      have HU3 := Lib.hid (row_below HU2.out hb2)
      have hsz2 : w1.heap.size < w2.heap.size := hbx2.lt
      obtain ⟨o0, o1, o2, o3, o4, o5, o6, o7, o8, o9, o10⟩ : w2.cell? ⟨wr.heap.size, 0, none⟩ = some (.int .i64 kd) ∧ w2.cell? ⟨wr.heap.size, 1, none⟩ = some (.int .i64 fl) ∧ w2.cell? ⟨wr.heap.size, 2, none⟩ = some (.int .i64 nw) ∧ w2.cell? ⟨wr.heap.size, 3, none⟩ = some (.int .i64 x1) ∧ w2.cell? ⟨wr.heap.size, 4, none⟩ = some (.string x2) ∧ w2.cell? ⟨wr.heap.size, 5, none⟩ = some (.string x3) ∧ w2.cell? ⟨wr.heap.size, 6, none⟩ = some (.int .i64 x4) ∧ w2.cell? ⟨wr.heap.size, 7, none⟩ = some (.int .i64 x5) ∧ w2.cell? ⟨wr.heap.size, 8, none⟩ = some (.int .i64 x6) ∧ w2.cell? ⟨wr.heap.size, 9, none⟩ = some (.int .i64 x7) ∧ w2.cell? ⟨wr.heap.size, 10, none⟩ = some (.int .i64 x8) :=
        ⟨HBO3.out.cell 0, HBO3.out.cell 1, HBO3.out.cell 2, HBO3.out.cell 3, HBO3.out.cell 4, HBO3.out.cell 5, HBO3.out.cell 6, HBO3.out.cell 7, HBO3.out.cell 8, HBO3.out.cell 9, HBO3.out.cell 10⟩
      have HD2 := Lib.hid (HDS.out w2 HP3.out)
      clear hr1 hr1' hl1 hu1 hb1 hbx2 hb2 hm hn1
      go_wp2_with fail
      refine HD2.out.mono ?_
      rintro e w3 ⟨v3, rfl, hr3, hP3, ho3⟩
      obtain ⟨a3, c3, rfl, -, -⟩ := row_any hr3
      rw [HM.out] at hr3 ⊢
      obtain ⟨w4, hst4, hbx4, hb4⟩ := box56 w3 er y1 y4 y5 y6 y7 y8 y2 y3 (.slice a3 m c3) rfl
      have HP4 := Lib.hid (hP3.grow hb4)
      have HR4 : Hid (Rf w4 (.slice a1 n1 c1) L') := Lib.hid (row_below (row_only (F := (· = B)) HR3.out ho3 fun g hg e => HV1.out g hg e) hb4)
      have HU4 := Lib.hid (row_below (row_only (F := (· = B)) HU3.out ho3 fun g hg e => HVU.out g hg e) hb4)
      have HG4 := Lib.hid (row_below hr3 hb4)
      have HX4 := Lib.hid ((HX2.out.only ho3 (by omega)).below hb4)
      have hBl : B < w1.heap.size := by omega
      obtain ⟨p0, p1, p2, p3, p4, p5, p6, p7, p8, p9⟩ := hbx4.ten
      obtain ⟨q0, q1, q2, q3, q4, q5, q6, q7, q8, q9⟩ := HX4.out.ten
      have hsm := sameE_refl ⟨⟨y1, y2, y3, y4, y5⟩, y6, y7, y8⟩
      have HSM := Lib.hid (same_any HG4.out HU4.out (by have := HX.out; rw [HM.out] at this; omega))
      have HLE := Lib.hid HP4.out.1.lenT
      rw [HN1.out] at HLE
      clear hr3 hP3 ho3 hbx4 hb4 o0 o1 o2 o3 o4 o5 o6 o7 o8 o9 o10
      have HLE2 : Hid (∀ q, Calls Try.prog 25 #[.pointer (some ⟨B, 0, none⟩)] (w4.drewN q) fun e w' => e = .returned (.int .i64 (n1 : Int)) ∧ w4.drewN q = w') := Lib.hid fun q => by
        have h := (HP4.out.grow (below_drewN (Below.refl _ _) q)).1.lenT
        rw [HN1.out] at h
        exact h
      go_wp2_with (first | (go_at_call 13; refine HSM.out.mono ?_; rintro e w' ⟨rfl, qq, rfl⟩) | (go_at_call 25; refine (HLE2.out _).mono ?_; rintro e w' ⟨rfl, rfl⟩))
      go_roundg (n - (j + 1))
      case measure => omega
      case rel =>
        have hd := below_drewN (Below.refl w4.heap.size w4) qq
        exact Lib.hid ⟨j + 1, by omega, by go_num, by rw [HNX.out]; exact HP4.out.grow hd, by rw [HNX.out]; exact HR4.out.below hd, HV1.out⟩
    · obtain rfl : j = n := by omega
      rw [List.take_of_length_le (by rw [← HLN.out]; exact Nat.le_refl _)] at hP hR ⊢
      have HP := Lib.hid hP
      have HR := Lib.hid hR
      clear hP hR hv
      obtain ⟨nl, hnl⟩ : ∃ nl, (runS l).length = nl := ⟨_, rfl⟩
      have HNL := Lib.hid hnl
      unfold Rf at HR
      rw [hnl] at HR ⊢
      clear hnl
      go_wp2
      go_ret2
      exact ⟨_, rfl, by unfold Rf; rw [HNL.out]; exact HR.out, HP.out⟩

end Go.Proofs.Ytondjponengedaa
