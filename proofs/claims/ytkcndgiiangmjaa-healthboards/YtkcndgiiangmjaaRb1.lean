/-
  The document's boards: values, rows; Up; its wheel's Set and Move of whatever numbers.
-/
import Derived.Test.YtkcndgiiangmjaaRsm
import Derived.Test.YtkcndgiiangmjaaRefT
import Derived.Test.YtkcndgiiangmjaaRefM
namespace Go.Proofs.Ytkcndgiiangmjaa
open Go.RowKit Go.Maps
set_option linter.unusedVariables false
set_option linter.unusedSimpArgs false
set_option maxRecDepth 10000

/-! ## Rows -/
def pcells : List Pr → List Value
  | [] => []
  | p :: r => .bool p.up :: .int .i64 p.run :: pcells r
theorem pcells_len : ∀ l : List Pr, (pcells l).length = l.length * 2
  | [] => rfl
  | t :: r => by simp [pcells, pcells_len r]; omega
theorem pcells_app : ∀ (l m : List Pr), pcells (l ++ m) = pcells l ++ pcells m
  | [], m => rfl
  | t :: r, m => by simp [pcells, pcells_app r m]
theorem pcells_at : ∀ (l : List Pr) (i : Nat), i < l.length → (pcells l)[i * 2]? = some (.bool (l[i]!).up) ∧ (pcells l)[i * 2 + 1]? = some (.int .i64 (l[i]!).run)
  | t :: r, 0, _ => by simp [pcells]
  | t :: r, i + 1, h => by
    have ih := pcells_at r i (by simpa using h)
    rw [Nat.succ_mul]
    simpa [pcells] using ih
theorem pcells_one : ∀ (l : List Pr) (u : Value), u ∈ pcells l → u.oneCell' = true
  | [], u, h => by simp [pcells] at h
  | t :: r, u, h => by
    simp only [pcells, List.mem_cons] at h
    rcases h with rfl | rfl | h
    · rfl
    · rfl
    · exact pcells_one r u h
theorem pcells_set : ∀ (l : List Pr) (i : Nat) (p : Pr), i < l.length → ((pcells l).set (i * 2) (.bool p.up)).set (i * 2 + 1) (.int .i64 p.run) = pcells (l.set i p)
  | t :: r, 0, p, _ => by simp [pcells]
  | t :: r, i + 1, p, h => by
    have ih := pcells_set r i p (by simpa using h)
    rw [Nat.succ_mul]
    simpa [pcells] using ih
theorem prow2_at {w : World} {base n g c : Nat} {l : List Pr} (h : w.ownsRow base 33 2 (.slice (some ⟨g, 0, none⟩) n c) n (pcells l)) {i : Nat} (hi : i < n) :
    w.cell? ⟨g, i * 2, none⟩ = some (.bool (l[i]!).up) ∧ w.cell? ⟨g, i * 2 + 1, none⟩ = some (.int .i64 (l[i]!).run) := by
  have hl : l.length = n := by have := h.1; rw [pcells_len] at this; omega
  obtain ⟨h0, h1⟩ := pcells_at l i (by omega)
  exact ⟨(h.cellAt _ (by omega)).trans h0, (h.cellAt _ (by omega)).trans h1⟩

theorem ups_at0 {ps : List Pr} {i : Nat} (h : i < ps.length) : (ups ps)[i]! = (ps[i]!).up := by
  rw [getElem!_pos (ups ps) i (by simpa [ups] using h), getElem!_pos ps i h]
  simp [ups]
/-- A board of the document's, as a value. -/
def rbv (r : Ru) (vp : Value) (now : Nat) (vt : Value) : Value := .agg #[.int .i64 r.rise, .int .i64 r.fall, .int .i64 r.every, vp, .int .i64 now, vt]

theorem append_bool {w : World} {b : Nat} {o : Value} {O : List Bool} {x : Bool} (ho : w.ownsRow b 4 1 o O.length (bcells O)) (hb : b ≤ w.heap.size) (hl : O.length ≤ 1000) :
    ∃ v' w', (Builtin.append_ #[24, 24] 24 #[o, .slice (some ⟨w.heap.size, 0, none⟩) 1 1]).run Try.prog (w.alloc (.cells #[.bool x] 4)) = .ok v' w' ∧ w'.ownsRow b 4 1 v' (O ++ [x]).length (bcells (O ++ [x])) ∧ Below b w w' := by
  have hb2 : Below w.heap.size w (w.alloc (.cells #[.bool x] 4)) := below_alloc (Below.refl _ _) _
  obtain ⟨i0, hi, hz0, hz1, hz2⟩ := info_parts info4
  obtain ⟨v', w', hr, h2, h3, _, h5⟩ := run_append_own_at (P := Try.prog) (w.alloc (.cells #[.bool x] 4)) b 24 24 4 i0 _ 1 1 Try.underlying24 hi hz0 hz1 hz2 rfl (by decide) o O.length _ (row_below ho hb2) ⟨w.heap.size, 0, none⟩ 1 1 [.bool x] rfl (cell_one_new _ _ _) (by simp [Value.oneCell']) (by simp only [maxLen]; omega) (by omega) (Nat.le_trans hb hb2.size)
  refine ⟨v', w', hr, ?_, ?_⟩
  · rw [List.length_append, bcells, List.map_append]; exact h2
  · exact (hb2.mono hb).trans (Only.below (F := fun i => o.ownBlock = some i) (Only.of_grown h3 fun i hi => hi) (Nat.le_trans hb hb2.size) fun i hi => (ho.lt i hi).1)

def RuRel (w : World) (ps : List Pr) (n gg : Nat) (s3 s4 : Value) (wr : World) : Prop :=
  ∃ i : Nat, i + gg = n ∧ s4 = .int .i64 (i : Int) ∧ wr.ownsRow w.heap.size 4 1 s3 (((ups ps).take i).length) (bcells ((ups ps).take i)) ∧ Below w.heap.size w wr

set_option maxHeartbeats 4000000 in
theorem rup_any {w : World} {r : Ru} {ps : List Pr} {vp vt : Value} {now : Nat} (h : w.ownsRow 0 33 2 vp ps.length (pcells ps)) (hn : ps.length ≤ 1000) :
    Calls Try.prog 25 #[rbv r vp now vt] w fun e w' => ∃ v, e = .returned v ∧ w'.ownsRow w.heap.size 4 1 v ps.length (bcells (ups ps)) ∧ Below w.heap.size w w' := by
  obtain ⟨a, c, rfl, -, -⟩ := row_any h
  obtain ⟨n, hl⟩ : ∃ n, ps.length = n := ⟨_, rfl⟩
  obtain ⟨w0, hw0⟩ : ∃ X, X = w.alloc (.cells #[.int .i64 r.rise, .int .i64 r.fall, .int .i64 r.every, .slice a n c, .int .i64 now, vt] 48) := ⟨_, rfl⟩
  have HC := Lib.hid (show Cb w0 w.heap.size 48 [.int .i64 r.rise, .int .i64 r.fall, .int .i64 r.every, .slice a n c, .int .i64 now, vt] by rw [hw0]; exact Cb.new6 w _ _ _ _ _ _ 48)
  have HB0 := Lib.hid (show Below w.heap.size w w0 by rw [hw0]; exact below_alloc (Below.refl _ _) _)
  have hs0 : w0.heap.size = w.heap.size + 1 := by rw [hw0]; simp
  have HR := Lib.hid (row_below h HB0.out)
  have hul : (ups ps).length = n := by simp [ups, hl]
  have HU := Lib.hid hul
  have HL := Lib.hid hl
  have HW0 := Lib.hid hw0
  rw [hl] at hn HR ⊢
  unfold rbv
  clear h hl hw0 hul
  go_enter Try.func25, Try.ntmps25
  go_wp2
  rw [← HW0.out]
  go_loopg [3, 4] n (fun gg s3 s4 wr => Hid (RuRel w0 ps n gg s3 s4 wr))
  case atStart => exact Lib.hid ⟨0, by omega, rfl, World.ownsRow_nil _ _ _ _, Below.refl _ _⟩
  case round =>
    obtain ⟨i, hi, rfl, hrow, hb⟩ := hrel.out
    clear hrel
    obtain ⟨-, -, -, c3, -, -⟩ := (HC.out.below hb).six
    have hlt : w.heap.size < wr.heap.size := (HC.out.below hb).lt
    by_cases hin : i < n
    · have hiz : (i : Int) < (n : Int) := by omega
      have hpr := row_below HR.out hb
      obtain ⟨g, c', e, _⟩ := row_slice hpr (by omega)
      simp only [Value.slice.injEq, true_and] at e
      obtain ⟨rfl, rfl⟩ := e
      obtain ⟨p0, -⟩ := prow2_at hpr hin
      rw [← ups_at0 (by rw [HL.out]; exact hin)] at p0
      have hle : ((ups ps).take i).length = i := by rw [List.length_take, HU.out]; omega
      obtain ⟨v3, w3, happ, hown, hbw⟩ := append_bool (x := (ups ps)[i]!) hrow hb.size (by omega)
      have htk : (ups ps).take (i + 1) = (ups ps).take i ++ [(ups ps)[i]!] := by rw [List.take_add_one, List.getElem?_eq_getElem (by rw [HU.out]; exact hin), getElem!_pos (ups ps) i (by rw [HU.out]; exact hin)]; rfl
      obtain ⟨a3, c3', rfl, -, -⟩ := row_any hrow
      rw [hle] at happ
      have HRUN := Lib.hid happ
      have HOWN := Lib.hid hown
      have HBW := Lib.hid (hb.trans hbw)
      have HTK := Lib.hid htk
      rw [hle]
      generalize (ups ps)[i]! = u at p0 HRUN HOWN HTK
      clear hrow hb hpr happ hown hbw htk
      go_wp2_with (at_builtin; refine Lib.wpList_append_run _ rfl _ _ _ _ rfl _ _ rfl rfl _ _ HRUN.out ?_)
      go_roundg (n - (i + 1))
      case measure => omega
      case rel => exact Lib.hid ⟨i + 1, by omega, by go_num, by rw [HTK.out]; exact HOWN.out, HBW.out⟩
    · obtain rfl : i = n := by omega
      have hiz : ¬ ((i : Int) < (i : Int)) := by omega
      rw [List.take_of_length_le (by rw [HU.out]; exact Nat.le_refl _), HU.out] at hrow
      have HROW := Lib.hid hrow
      have HB := Lib.hid hb
      clear hrow hb
      go_wp2
      go_ret
      exact ⟨_, rfl, row_base HROW.out (by omega), HB0.out.trans (HB.out.mono (by omega))⟩

/-! ## The wheel of the document's -/
theorem rset_any {w : World} {now : Nat} {v : Value} {L : List Tm} (hrow : w.ownsRow 0 93 2 v L.length (tcells L)) (hlen : L.length ≤ 1000) (x a : Int) :
    Calls Try.prog 32 #[rv now v, .int .i64 x, .int .i64 a] w fun e w' => ∃ v', e = .returned (.tuple #[rv now v', .bool (inR x a)]) ∧ w'.ownsRow 0 93 2 v' (setL L x a).length (tcells (setL L x a)) ∧ Below w.heap.size w w' ∧ (∀ g, v'.ownBlock = some g → v.ownBlock = some g ∨ w.heap.size ≤ g) := by
  by_cases hr : 0 ≤ x ∧ x ≤ 65535 ∧ 0 ≤ a ∧ a ≤ 1099511627776
  · have e1 : inR x a = true := decide_eq_true hr
    obtain ⟨id, rfl⟩ := Int.eq_ofNat_of_zero_le hr.1
    obtain ⟨at_, rfl⟩ := Int.eq_ofNat_of_zero_le hr.2.2.1
    have e2 : setL L (id : Int) (at_ : Int) = ins ⟨id, at_⟩ (woutI L id) := by unfold setL; rw [if_pos e1]; simp
    rw [e1, e2]
    refine (rset_yes hrow hlen (by omega) (by omega)).mono ?_
    rintro e w' ⟨v', he, hr', hb⟩
    exact ⟨v', he, row_base hr' (Nat.zero_le _), hb, fun g hg => .inr (hr'.lt g hg).1⟩
  · have e1 : inR x a = false := decide_eq_false hr
    have e2 : setL L x a = L := by unfold setL; rw [e1]; simp
    rw [e1, e2]
    refine (rset_no hrow hr).mono ?_
    rintro e w' ⟨he, hb⟩
    exact ⟨v, he, row_below hrow hb, hb, fun g hg => .inl hg⟩
theorem rmove_any {w : World} {now : Nat} {v : Value} {L : List Tm} (hrow : w.ownsRow 0 93 2 v L.length (tcells L)) (hlen : L.length ≤ 1000) (x : Int) :
    Calls Try.prog 33 #[rv now v, .int .i64 x] w fun e w' => ∃ v' u, e = .returned (.tuple #[rv (mvN now x) v', u]) ∧ w'.ownsRow 0 93 2 v' (mvL L now x).length (tcells (mvL L now x)) ∧ w'.ownsRow w.heap.size 3 1 u (mvD L now x).length (icells (mvD L now x)) ∧
      Below w.heap.size w w' ∧ (∀ g, v'.ownBlock = some g → v.ownBlock = some g ∨ w.heap.size ≤ g) := by
  by_cases hx : okM now x = true
  · have h2 := of_decide_eq_true hx
    obtain ⟨m, rfl⟩ := Int.eq_ofNat_of_zero_le (show 0 ≤ x by omega)
    have e2 : mvD L now (m : Int) = ids (due L m) := by unfold mvD; rw [if_pos hx]; rfl
    have e3 : mvN now (m : Int) = m := by unfold mvN; rw [if_pos hx]; rfl
    have e4 : mvL L now (m : Int) = left L m := by unfold mvL; rw [if_pos hx]; rfl
    rw [e2, e3, e4]
    refine (rmove_yes hrow hlen (by omega) (by omega)).mono ?_
    rintro e w' ⟨v', u, he, h1, h3, hb⟩
    exact ⟨v', u, he, row_base h1 (Nat.zero_le _), h3, hb, fun g hg => .inr (h1.lt g hg).1⟩
  · have hx : okM now x = false := by simpa using hx
    have e2 : mvD L now x = [] := by unfold mvD; rw [hx]; simp
    have e3 : mvN now x = now := by unfold mvN; rw [hx]; simp
    have e4 : mvL L now x = L := by unfold mvL; rw [hx]; simp
    rw [e2, e3, e4]
    refine (rmove_no hrow hx).mono ?_
    rintro e w' ⟨he, hb⟩
    exact ⟨v, _, he, row_below hrow hb, World.ownsRow_nil _ _ _ _, hb, fun g hg => .inl hg⟩

end Go.Proofs.Ytkcndgiiangmjaa
