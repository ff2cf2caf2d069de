/-
  Table.All: every entry, in order.
-/
import Derived.Test.YtondjponengedaaThose
namespace Go.Proofs.Ytondjponengedaa
open Go.RowKit
set_option linter.unusedVariables false
set_option linter.unusedSimpArgs false
set_option maxRecDepth 10000

theorem len0_any (w : World) : Calls Try.prog 57 #[.int .u64 0] w fun e w' => e = .returned (.int .i64 0) ∧ w = w' := by
  have h := Any.bits_Len (SlLaysF0.n15.bits (P := Try.prog) (ρ := laysSort_ren) { laysSort with }) (0 : Int) w (by omega) (by omega)
  exact h.mono fun e w' ⟨h1, h2⟩ => ⟨h1, h2.symm⟩
set_option maxHeartbeats 1000000 in
theorem insertion_nil (fn : Nat) (w : World) : Calls Try.prog 68 #[.slice none 0 0, .int .i64 0, .int .i64 0, .func (.func fn) #[] #[]] w fun e w' => e = .returned (.tuple #[]) ∧ w = w' := by
  go_enter Try.func68, Try.ntmps68
  go_wp2
  go_loopg [8] 1 (fun gg s8 wr => s8 = .int .i64 1 ∧ wr = w)
  case atStart => exact ⟨rfl, rfl⟩
  case round =>
    obtain ⟨rfl, rfl⟩ := hrel
    go_wp2
    go_end0
    exact ⟨rfl, rfl⟩
set_option maxHeartbeats 1000000 in
theorem pdq_nil (fn : Nat) (w : World) : Calls Try.prog 56 #[.slice none 0 0, .int .i64 0, .int .i64 0, .int .i64 0, .func (.func fn) #[] #[]] w fun e w' => e = .returned (.tuple #[]) ∧ w = w' := by
  go_enter Try.func56, Try.ntmps56
  go_wp2
  go_loopg [1, 2, 3, 10, 11, 12] 1 (fun gg s1 s2 s3 s10 s11 s12 wr => s1 = .int .i64 0 ∧ s2 = .int .i64 0 ∧ s3 = .int .i64 0 ∧ wr = w)
  case atStart => exact ⟨rfl, rfl, rfl, rfl⟩
  case round =>
    obtain ⟨rfl, rfl, rfl, rfl⟩ := hrel
    go_wp2_with (go_at_call 68; refine (insertion_nil fn _).mono ?_; rintro e w' ⟨rfl, rfl⟩)
    refine bodyPost_ret (results_none rfl _ _ _) rfl ?_
    exact ⟨rfl, rfl⟩
theorem sort_nil (fn : Nat) (w : World) : Calls Try.prog 34 #[.slice none 0 0, .func (.func fn) #[] #[]] w fun e w' => e = .returned (.tuple #[]) ∧ w = w' := by
  go_enter Try.func34, Try.ntmps34
  go_wp2_with (first | (go_at_call 57; refine (len0_any _).mono ?_; rintro e w' ⟨rfl, rfl⟩) | (go_at_call 56; refine (pdq_nil fn _).mono ?_; rintro e w' ⟨rfl, rfl⟩))
  go_end0
  exact ⟨rfl, rfl⟩

/-- A row of entries, in some order, is put in order. -/
theorem sortF_row {w : World} {base : Nat} {v : Value} {l L : List En} (h : w.ownsRow base 39 8 v l.length (ecells l)) (hn9 : l.length ≤ 1000) (hL : Srt L) (hp : L.Perm l) :
    Calls Try.prog 34 #[v, .func (.func 35) #[] #[]] w fun e w' => e = .returned (.tuple #[]) ∧ w'.ownsRow base 39 8 v L.length (ecells L) ∧ Only (fun i => v.ownBlock = some i) w w' := by
  have hl := hp.length_eq
  rcases h.2 with ⟨rfl, h0⟩ | ⟨g, cap, cur, rfl, hb, hg, hnc, hcm, hcs, _⟩
  · have : l = [] := List.eq_nil_of_length_eq_zero h0
    subst this
    have : L = [] := List.eq_nil_of_length_eq_zero (by simpa using hl)
    subst this
    refine (sort_nil 35 w).mono ?_
    rintro e w' ⟨rfl, rfl⟩
    exact ⟨rfl, World.ownsRow_nil w base 39 8, Only.refl _ _⟩
  · refine (sortF_any h hn9 hL hp).mono ?_
    rintro e w' ⟨rfl, hr, ho⟩
    refine ⟨rfl, by rw [hl]; exact hr, ho.mono fun i hi => by rw [hi]; rfl⟩
theorem sortE_row {w : World} {base : Nat} {v : Value} {l L : List En} (h : w.ownsRow base 39 8 v l.length (ecells l)) (hn9 : l.length ≤ 1000) (hL : L.Pairwise LtE) (hne : L.Pairwise fun x y => x.fl ≠ y.fl) (hp : L.Perm l) :
    Calls Try.prog 34 #[v, .func (.func 50) #[] #[]] w fun e w' => e = .returned (.tuple #[]) ∧ w'.ownsRow base 39 8 v L.length (ecells L) ∧ Only (fun i => v.ownBlock = some i) w w' := by
  have hl := hp.length_eq
  rcases h.2 with ⟨rfl, h0⟩ | ⟨g, cap, cur, rfl, hb, hg, hnc, hcm, hcs, _⟩
  · have : l = [] := List.eq_nil_of_length_eq_zero h0
    subst this
    have : L = [] := List.eq_nil_of_length_eq_zero (by simpa using hl)
    subst this
    refine (sort_nil 50 w).mono ?_
    rintro e w' ⟨rfl, rfl⟩
    exact ⟨rfl, World.ownsRow_nil w base 39 8, Only.refl _ _⟩
  · refine (sortE_any h hn9 hL hne hp).mono ?_
    rintro e w' ⟨rfl, hr, ho⟩
    refine ⟨rfl, by rw [hl]; exact hr, ho.mono fun i hi => by rw [hi]; rfl⟩

theorem filter_all (l : List En) : l.filter (fun _ => true) = l := List.filter_eq_self.2 fun _ _ => rfl

/-- Table.All, whatever is left. -/
theorem allP_any {w : World} {B : Nat} {k : List Int} {pl : List Pc} {cs : List Int} {L : List En} (h : Tm w B k pl cs) (T : TabP (hx k) pl L) :
    Calls Try.prog 15 #[.pointer (some ⟨B, 0, none⟩)] w fun e w' => ∃ v, e = .returned v ∧ w'.ownsRow w.heap.size 39 8 v L.length (ecells L) ∧ Below w.heap.size w w' := by
  have HT := Lib.hid (those33_any h T.kinds (fun _ => true) fun e W _ => all1_any e W)
  rw [filter_all] at HT
  have hlen : (ents pl).length ≤ 1000 := by
    rw [T.perm.length_eq]
    have := T.fine.2; omega
  have hp := T.perm.symm
  have hs := T.fine.1
  go_enter Try.func15, Try.ntmps15
  go_wp2_with fail
  refine HT.out.mono ?_
  rintro e w1 ⟨v, rfl, hr, hb⟩
  go_wp2_with fail
  refine (sortF_row hr hlen hs hp).mono ?_
  rintro e w2 ⟨rfl, hr2, ho⟩
  go_wp2
  go_ret
  exact ⟨v, rfl, hr2, hb.trans (ho.below hb.size fun i hi => (hr.lt i hi).1)⟩

end Go.Proofs.Ytondjponengedaa
