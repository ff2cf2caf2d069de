/-
  The law's own small play: a flow that is opened, seen, and ends.
-/
import Derived.Test.YtondjponengedaaExpire
namespace Go.Proofs.Ytondjponengedaa
open Go.RowKit
set_option linter.unusedVariables false
set_option linter.unusedSimpArgs false
set_option maxRecDepth 10000

/-! ## Entries are compared -/
theorem flow_eq_at (n : Nat) (p o d p' o' d' : Int) (f t f' t' : ByteArray) (w : World) :
    (Op.equalIn (n + 2) 37 (.agg #[.int .i64 p, .string f, .string t, .int .i64 o, .int .i64 d]) (.agg #[.int .i64 p', .string f', .string t', .int .i64 o', .int .i64 d'])).run Try.prog w = .ok (sameF ⟨p, f, t, o, d⟩ ⟨p', f', t', o', d'⟩) w := by
  unfold sameF
  have e : decide ((⟨p, f, t, o, d⟩ : Fl) = ⟨p', f', t', o', d'⟩) = ((p == p') && ((f.toList == f'.toList) && ((t.toList == t'.toList) && ((o == o') && (d == d'))))) := by
    have hb : ∀ x y : ByteArray, (x.toList == y.toList) = decide (x = y) := fun x y => by
      by_cases h : x = y
      · subst h; simp
      · rw [decide_eq_false h]
        rcases h2 : (x.toList == y.toList) with _ | _
        · rfl
        · exact absurd (toList_inj (by simpa using h2)) h
    rw [hb, hb]
    simp only [Fl.mk.injEq, Bool.decide_and]
    rfl
  rw [e, run_equalIn_agg w (n + 1) 37 _ _ (by kernel_rfl) (by kernel_rfl)]
  simp [Program.fieldsOf, Try.underlying37, Op.eqFields, part, isAgg, run_underlying Try.underlying35, run_underlying Try.underlying3, run_equalIn_int w n 3 .i64 .i64 _ _ Try.underlying3, run_equalIn_string w n 35 _ _ Try.underlying35]
  repeat' (split <;> simp_all)

/-- Are two entries the same? -/
def sameE (a b : En) : Bool := sameF a.fl b.fl && ((a.bk == b.bk) && ((a.st == b.st) && (a.ends == b.ends)))
theorem sameE_iff (a b : En) : sameE a b = true ↔ a = b := by
  obtain ⟨f, x, y, z⟩ := a
  obtain ⟨f', x', y', z'⟩ := b
  simp [sameE, sameF]
theorem entry_eq39 (p o d k s n p' o' d' k' s' n' : Int) (f t f' t' : ByteArray) (w : World) :
    (Op.equalIn 10000 39 (.agg #[.int .i64 p, .string f, .string t, .int .i64 o, .int .i64 d, .int .i64 k, .int .i64 s, .int .i64 n]) (.agg #[.int .i64 p', .string f', .string t', .int .i64 o', .int .i64 d', .int .i64 k', .int .i64 s', .int .i64 n'])).run Try.prog w = .ok (sameE ⟨⟨p, f, t, o, d⟩, k, s, n⟩ ⟨⟨p', f', t', o', d'⟩, k', s', n'⟩) w := by
  rw [show (10000 : Nat) = 9999 + 1 from rfl, run_equalIn_agg w 9999 39 _ _ (by kernel_rfl) (by kernel_rfl)]
  simp [Program.fieldsOf, Try.underlying39, Op.eqFields, part, isAgg, run_underlying Try.underlying37, Try.sizeOf37, run_underlying Try.underlying3, run_equalIn_int w 9998 3 .i64 .i64 _ _ Try.underlying3, flow_eq_at 9997, sameE]
  repeat' (split <;> simp_all)
theorem entry_eq42 (p o d k s n p' o' d' k' s' n' : Int) (f t f' t' : ByteArray) (w : World) :
    (Op.equalIn 10000 42 (.agg #[.int .i64 p, .string f, .string t, .int .i64 o, .int .i64 d, .int .i64 k, .int .i64 s, .int .i64 n]) (.agg #[.int .i64 p', .string f', .string t', .int .i64 o', .int .i64 d', .int .i64 k', .int .i64 s', .int .i64 n'])).run Try.prog w = .ok (sameE ⟨⟨p, f, t, o, d⟩, k, s, n⟩ ⟨⟨p', f', t', o', d'⟩, k', s', n'⟩) w := by
  rw [show (10000 : Nat) = 9999 + 1 from rfl, run_equalIn_agg w 9999 42 _ _ (by kernel_rfl) (by kernel_rfl)]
  simp [Program.fieldsOf, Try.underlying42, Op.eqFields, part, isAgg, run_underlying Try.underlying37, Try.sizeOf37, run_underlying Try.underlying3, run_equalIn_int w 9998 3 .i64 .i64 _ _ Try.underlying3, flow_eq_at 9997, sameE]
  repeat' (split <;> simp_all)

attribute [local go_sem ↓] entry_eq39

/-! ## The play -/
def f0 : Fl := ⟨6, { data := #[97] }, { data := #[98] }, 1, 2⟩
def e1 : En := ⟨f0, 3, 1, 160⟩
def e2 : En := ⟨f0, 3, 2, 1010⟩
theorem a_open : opn [] f0 3 2 100 = ([e1], 0) := by kernel_rfl
theorem a_got : gotE [e1] f0 = e1 := by kernel_rfl
theorem a_is : (getF [e1] f0).isSome = true := by kernel_rfl
theorem a_see : see [e1] f0 16 110 = ([e2], e2, true) := by kernel_rfl
theorem a_xpd : xpd 2000 [e2] = [e2] := by kernel_rfl
theorem a_liv : liv 2000 [e2] = [] := by kernel_rfl
theorem a_same : sameE ⟨⟨6, { data := #[97] }, { data := #[98] }, 1, 2⟩, 3, 1, 160⟩ ⟨⟨6, { data := #[97] }, { data := #[98] }, 1, 2⟩, 3, 1, 160⟩ = true := by kernel_rfl
theorem ok0 : OkF f0 := ⟨by show (1 : Nat) ≤ _; omega, by show (1 : Nat) ≤ _; omega⟩
theorem key0 : Key [0, 0, 0, 0, 0, 0, 0, 0, 0, 0, 0, 0, 0, 0, 0, 0] := ⟨rfl, fun x hx => by simp at hx; omega⟩
theorem TaS.lenT {w : World} {B : Nat} {k : List Int} {pl : List Pc} {L : List En} (h : TaS w B k pl L) : Calls Try.prog 25 #[.pointer (some ⟨B, 0, none⟩)] w fun e w' => e = .returned (.int .i64 L.length) ∧ w = w' :=
  (len_any h.tb).mono fun e w' ⟨h1, h2⟩ => ⟨h1.trans (ret_int (by rw [cts_at _ 2 (by omega), h.tp.count])), h2⟩
theorem Ta.lenT {w : World} {B : Nat} {k : List Int} {L : List En} (h : Ta w B k L) : Calls Try.prog 25 #[.pointer (some ⟨B, 0, none⟩)] w fun e w' => e = .returned (.int .i64 L.length) ∧ w = w' := by
  obtain ⟨pl, h⟩ := h
  exact h.lenT

set_option maxHeartbeats 4000000 in
theorem alive_any (w : World) : Calls Try.prog 11 #[] w fun e w' => e = .returned (.bool true) ∧ Below w.heap.size w w' := by
  have HN := Lib.hid (new_any _ key0 w)
  simp only [kv_lit] at HN
  go_enter Try.func11, Try.ntmps11
  go_wp2_with fail
  refine HN.out.mono ?_
  rintro e w1 ⟨B, rfl, hT1, hB1, hb1⟩
  have hb1' : Below w.heap.size w (w1.alloc (.cells (fcs f0).toArray 37)) := hb1.alloc hb1.size _
  have hbx := Bx.new w1 (fcs f0) 37
  have HC := Lib.hid (open_any (L := []) ⟨_, hT1.below (below_alloc (Below.refl _ _) (.cells (fcs f0).toArray 37))⟩ f0 3 2 100 ok0)
  rw [a_open] at HC
  have HB1 := Lib.hid hb1'
  have HBX := Lib.hid hbx
  have hBlt := hT1.tb.lt
  have hsz := hb1.size
  clear hT1 hb1' hbx hb1
  simp only [f0, fv, fcs] at HC HB1 HBX
  go_wp2_with fail
  refine HC.out.mono ?_
  rintro e w2 ⟨rfl, hT2, ho2⟩
  have HB2 := Lib.hid (HB1.out.trans (ho2.below HB1.out.size fun i hi => by omega))
  have HBX2 := Lib.hid (HBX.out.only ho2 (by omega))
  have HG := Lib.hid (get_any hT2 f0 ok0)
  have HT2 := Lib.hid hT2
  rw [a_got, a_is] at HG
  simp only [f0, fv, ev, e1] at HG
  have c0 := HBX2.out.cell 0
  have c1 := HBX2.out.cell 1
  have c2 := HBX2.out.cell 2
  have c3 := HBX2.out.cell 3
  have c4 := HBX2.out.cell 4
  simp only [List.getElem?_cons_zero, List.getElem?_cons_succ] at c0 c1 c2 c3 c4
  clear hT2 ho2
  go_wp2_with fail
  refine HG.out.mono ?_
  rintro e w3 ⟨rfl, hb3⟩
  have HB3 := Lib.hid (below_then HB2.out HB2.out.size hb3)
  have HBX3 := Lib.hid (HBX2.out.below hb3)
  have HT3 := Lib.hid (HT2.out.below hb3)
  have HSE := Lib.hid (see_any (HT3.out.below (below_alloc (Below.refl _ _) (.cells (ecs e1).toArray 39))) f0 16 110 ok0)
  rw [a_see] at HSE
  have HE3 := Lib.hid (Bx.new w3 (ecs e1) 39)
  clear hb3 c0 c1 c2 c3 c4
  have HBX3b := Lib.hid (HBX3.out.alloc (.cells (ecs e1).toArray 39))
  have HB3b := Lib.hid (below_alloc HB3.out (.cells (ecs e1).toArray 39))
  simp only [f0, fv, ev, e1, e2, ecs] at HSE HE3 HBX3b HB3b
  have c0 := HBX3b.out.cell 0
  have c1 := HBX3b.out.cell 1
  have c2 := HBX3b.out.cell 2
  have c3 := HBX3b.out.cell 3
  have c4 := HBX3b.out.cell 4
  simp only [List.getElem?_cons_zero, List.getElem?_cons_succ] at c0 c1 c2 c3 c4
  go_wp2_with fail
  refine HSE.out.mono ?_
  rintro e w4 ⟨rfl, hT4, ho4⟩
  have HB4 := Lib.hid (HB3b.out.trans (ho4.below HB3b.out.size fun i hi => by omega))
  have hsz3 := HB3.out.size
  have q3 := HBX3.out.lt
  have HBX4 := Lib.hid (HBX3b.out.only ho4 (by omega))
  have HE4 := Lib.hid (HE3.out.only ho4 (by omega))
  have HT4 := Lib.hid hT4
  have HB4b := Lib.hid (below_alloc HB4.out (.cells (ecs e2).toArray 39))
  have HBX4b := Lib.hid (HBX4.out.alloc (.cells (ecs e2).toArray 39))
  have HE4b := Lib.hid (HE4.out.alloc (.cells (ecs e2).toArray 39))
  have HS4 := Lib.hid (Bx.new w4 (ecs e2) 39)
  have HEX := Lib.hid (expire_any (HT4.out.below (below_alloc (Below.refl _ _) (.cells (ecs e2).toArray 39))) 2000)
  rw [show ([⟨⟨6, { data := #[97] }, { data := #[98] }, 1, 2⟩, 3, 2, 1010⟩] : List En) = [e2] from rfl, a_xpd, a_liv] at HEX
  clear hT4 ho4 c0 c1 c2 c3 c4
  simp only [f0, e2, ecs] at HEX HB4b HBX4b HE4b HS4
  go_wp2_with fail
  refine HEX.out.mono ?_
  rintro e w5 ⟨v, rfl, hr5, hT5, ho5⟩
  have HB5 := Lib.hid (HB4b.out.trans (ho5.below HB4b.out.size fun i hi => by omega))
  have hsz4 := HB4.out.size
  have q4 := HBX4.out.lt
  have qe4 := HE4.out.lt
  have HBX5 := Lib.hid (HBX4b.out.only ho5 (by omega))
  have HE5 := Lib.hid (HE4b.out.only ho5 (by omega))
  have HS5 := Lib.hid (HS4.out.only ho5 (by omega))
  have HLE := Lib.hid hT5.lenT
  obtain ⟨va, vc, rfl, -, -⟩ := row_any hr5
  clear hr5 hT5 ho5
  have c0 := HBX5.out.cell 0
  have c1 := HBX5.out.cell 1
  have c2 := HBX5.out.cell 2
  have c3 := HBX5.out.cell 3
  have c4 := HBX5.out.cell 4
  simp only [List.getElem?_cons_zero, List.getElem?_cons_succ] at c0 c1 c2 c3 c4
  have d0 := HE5.out.cell 0
  have d1 := HE5.out.cell 1
  have d2 := HE5.out.cell 2
  have d3 := HE5.out.cell 3
  have d4 := HE5.out.cell 4
  have d5 := HE5.out.cell 5
  have d6 := HE5.out.cell 6
  have d7 := HE5.out.cell 7
  simp only [List.getElem?_cons_zero, List.getElem?_cons_succ] at d0 d1 d2 d3 d4 d5 d6 d7
  have b0 := HS5.out.cell 0
  have b1 := HS5.out.cell 1
  have b2 := HS5.out.cell 2
  have b3 := HS5.out.cell 3
  have b4 := HS5.out.cell 4
  have b5 := HS5.out.cell 5
  have b6 := HS5.out.cell 6
  have b7 := HS5.out.cell 7
  simp only [List.getElem?_cons_zero, List.getElem?_cons_succ] at b0 b1 b2 b3 b4 b5 b6 b7
  have hsm := a_same
  go_wp2_with (first | (go_at_call 25; refine HLE.out.mono ?_; rintro e w' ⟨rfl, rfl⟩) | (go_at_call 20; refine (life_any 4 _).mono ?_; rintro e w' ⟨rfl, rfl⟩))
  go_ret
  exact ⟨rfl, HB5.out⟩

end Go.Proofs.Ytondjponengedaa
