/-
  What the small functions do: isBase, holds, counts, sum; the law's own and same.
-/
import Derived.Test.YtbeacddclphjgaaMp
namespace Go.Proofs.Ytbeacddclphjgaa
open Go.RowKit Go.Maps
set_option linter.unusedVariables false
set_option linter.unusedSimpArgs false
set_option maxRecDepth 10000

def isB (n : Int) : Bool := decide (1 ≤ n ∧ n ≤ 255)
set_option maxHeartbeats 400000 in
/-- tracks.isBase. -/
theorem isBase_any {n : Int} {r : Bool} {w : World} (hr : isB n = r) : Calls Try.prog 22 #[.int .i64 n] w fun e w' => e = .returned (.bool r) ∧ w = w' := by
  subst hr
  by_cases h : 1 ≤ n
  · have h1 : decide (1 ≤ n) = true := by simpa using h
    go_enter Try.func22, Try.ntmps22
    go_wp2
    go_ret
    exact ⟨ret_bool (by rw [Bool.eq_iff_iff]; simp [isB]; try omega), rfl⟩
  · have h1 : decide (1 ≤ n) = false := by simpa using h
    go_enter Try.func22, Try.ntmps22
    go_wp2
    go_ret
    exact ⟨ret_bool (by rw [Bool.eq_iff_iff]; simp [isB]; try omega), rfl⟩

theorem fit_iff (b : Bk) : Fit b ↔ (1 ≤ (b.name.size : Int) ∧ (b.name.size : Int) ≤ 40 ∧ b.wt ≠ 0 ∧ -254 ≤ b.wt ∧ b.wt ≤ 254) := by
  unfold Fit
  constructor
  · rintro ⟨h1, h2, h3⟩; exact ⟨by omega, by omega, h3⟩
  · rintro ⟨h1, h2, h3⟩; exact ⟨by omega, by omega, h3⟩

set_option maxHeartbeats 1000000 in
/-- Track.holds. -/
theorem holds_any (nm : ByteArray) (wt : Int) (w : World) : Calls Try.prog 23 #[.agg #[.string nm, .int .i64 wt]] w fun e w' => e = .returned (.bool (decide (Fit ⟨nm, wt⟩))) ∧ Below w.heap.size w w' := by
  generalize hr : decide (Fit ⟨nm, wt⟩) = r
  have HR := Lib.hid hr
  clear hr
  by_cases h1 : (nm.size : Int) ≥ 1
  case neg =>
    obtain rfl : r = false := by rw [← HR.out]; exact decide_eq_false fun h => h1 ((fit_iff _).1 h).1
    have e1 : decide ((nm.size : Int) ≥ 1) = false := decide_eq_false h1
    have e2 : decide (1 ≤ (nm.size : Int)) = false := decide_eq_false h1
    go_enter Try.func23, Try.ntmps23
    go_wp2
    go_ret
    exact ⟨rfl, (Below.refl _ _).alloc (Nat.le_refl _) _⟩
  by_cases h2 : (nm.size : Int) ≤ 40
  case neg =>
    obtain rfl : r = false := by rw [← HR.out]; exact decide_eq_false fun h => h2 ((fit_iff _).1 h).2.1
    have e1 : decide ((nm.size : Int) ≤ 40) = false := decide_eq_false h2
    go_enter Try.func23, Try.ntmps23
    go_wp2
    go_ret
    exact ⟨rfl, (Below.refl _ _).alloc (Nat.le_refl _) _⟩
  by_cases h3 : wt = 0
  case pos =>
    obtain rfl : r = false := by rw [← HR.out]; exact decide_eq_false fun h => ((fit_iff _).1 h).2.2.1 h3
    subst h3
    go_enter Try.func23, Try.ntmps23
    go_wp2
    go_ret
    exact ⟨rfl, (Below.refl _ _).alloc (Nat.le_refl _) _⟩
  have e3 : (wt != 0) = true := by simp [h3]
  have e3' : (wt == 0) = false := by simp [h3]
  by_cases h4 : wt ≥ -254
  case neg =>
    obtain rfl : r = false := by rw [← HR.out]; exact decide_eq_false fun h => h4 ((fit_iff _).1 h).2.2.2.1
    have e1 : decide (-254 ≤ wt) = false := decide_eq_false h4
    have e2 : decide (wt ≥ -254) = false := decide_eq_false h4
    go_enter Try.func23, Try.ntmps23
    go_wp2
    go_ret
    exact ⟨rfl, (Below.refl _ _).alloc (Nat.le_refl _) _⟩
  by_cases h5 : wt ≤ 254
  case neg =>
    obtain rfl : r = false := by rw [← HR.out]; exact decide_eq_false fun h => h5 ((fit_iff _).1 h).2.2.2.2
    have e1 : decide (wt ≤ 254) = false := decide_eq_false h5
    go_enter Try.func23, Try.ntmps23
    go_wp2
    go_ret
    exact ⟨rfl, (Below.refl _ _).alloc (Nat.le_refl _) _⟩
  obtain rfl : r = true := by rw [← HR.out]; exact decide_eq_true ((fit_iff _).2 ⟨h1, h2, h3, h4, h5⟩)
  go_enter Try.func23, Try.ntmps23
  go_wp2
  go_ret
  exact ⟨rfl, (Below.refl _ _).alloc (Nat.le_refl _) _⟩

set_option maxHeartbeats 400000 in
/-- state.counts. -/
theorem counts_any {t : Tk} {x : Int} (hx : cnt t = x) (w : World) : Calls Try.prog 25 #[ev t.wt t.up] w fun e w' => e = .returned (.int .i64 x) ∧ Below w.heap.size w w' := by
  obtain ⟨nm, wt, up⟩ := t
  unfold ev
  unfold cnt at hx
  simp only at hx ⊢
  cases up
  · rw [if_neg (by simp)] at hx
    by_cases h : wt ≤ 0
    · obtain rfl : wt = x := by omega
      go_enter Try.func25, Try.ntmps25
      go_wp2
      go_ret
      exact ⟨ret_int (by omega), (Below.refl _ _).alloc (Nat.le_refl _) _⟩
    · obtain rfl : 0 = x := by omega
      go_enter Try.func25, Try.ntmps25
      go_wp2
      go_ret
      exact ⟨ret_int (by omega), (Below.refl _ _).alloc (Nat.le_refl _) _⟩
  · rw [if_pos rfl] at hx
    by_cases h : 0 ≤ wt
    · obtain rfl : wt = x := by omega
      go_enter Try.func25, Try.ntmps25
      go_wp2
      go_ret
      exact ⟨ret_int (by omega), (Below.refl _ _).alloc (Nat.le_refl _) _⟩
    · obtain rfl : 0 = x := by omega
      go_enter Try.func25, Try.ntmps25
      go_wp2
      go_ret
      exact ⟨ret_int (by omega), (Below.refl _ _).alloc (Nat.le_refl _) _⟩

def sumI : List Int → Int
  | [] => 0
  | x :: r => x + sumI r
theorem sumI_app : ∀ l m : List Int, sumI (l ++ m) = sumI l + sumI m
  | [], m => by simp [sumI]
  | x :: r, m => by simp only [List.cons_append, sumI, sumI_app r m]; omega
theorem sumI_next {l : List Int} {k : Nat} (hk : k < l.length) : sumI (l.take (k + 1)) = sumI (l.take k) + l[k]! := by
  have e : l.take (k + 1) = l.take k ++ [l[k]!] := by rw [List.take_add_one, List.getElem?_eq_getElem hk, getElem!_pos l k hk]; rfl
  rw [e, sumI_app]
  simp [sumI]
theorem sumI_bd : ∀ {l : List Int}, (∀ x ∈ l, -254 ≤ x ∧ x ≤ 254) → -254 * (l.length : Int) ≤ sumI l ∧ sumI l ≤ 254 * (l.length : Int)
  | [], _ => by simp [sumI]
  | x :: r, h => by
    have ih := sumI_bd (l := r) fun y hy => h y (by simp [hy])
    have hx := h x (by simp)
    simp only [sumI, List.length_cons]
    omega

def SumRel (w : World) (l : List Int) (f : Int) (n gg : Nat) (s0 s9 : Value) (wr : World) : Prop :=
  ∃ k : Nat, k + gg = n ∧ s9 = .int .i64 k ∧ s0 = .int .i64 (f + sumI (l.take k)) ∧ Below w.heap.size w wr

set_option maxHeartbeats 1000000 in
/-- tracks.sum. -/
theorem sum_any {w : World} {base : Nat} {v : Value} {l : List Int} {f : Int} (h : w.ownsRow base 3 1 v l.length (icells l)) (hl : l.length ≤ 8) (hb : ∀ x ∈ l, -254 ≤ x ∧ x ≤ 254) (hf : 0 ≤ f ∧ f ≤ 255) :
    Calls Try.prog 26 #[.int .i64 f, v] w fun e w' => e = .returned (.int .i64 (f + sumI l)) ∧ Below w.heap.size w w' := by
  obtain ⟨n, hn⟩ : ∃ n, l.length = n := ⟨_, rfl⟩
  rw [hn] at h hl
  obtain ⟨a, c, rfl, hnc, -⟩ := row_any h
  have H := Lib.hid h
  have HN := Lib.hid hn
  have HB := Lib.hid hb
  clear h hn hb
  go_enter Try.func26, Try.ntmps26
  go_wp2
  go_loopg [0, 6, 9] n (fun gg s0 _ s9 wr => Hid (SumRel w l f n gg s0 s9 wr))
  case atStart => exact Lib.hid ⟨0, by omega, rfl, by simp [sumI], Below.refl _ _⟩
  case round =>
    obtain ⟨k, hk, rfl, rfl, hb⟩ := hrel.out
    clear hrel
    by_cases hkn : k < n
    · have hkz : (k : Int) < (n : Int) := by omega
      have hr := row_below H.out hb
      obtain ⟨g, c', e, _⟩ := row_slice hr (by omega)
      simp only [Value.slice.injEq, true_and] at e
      obtain ⟨rfl, rfl⟩ := e
      have p0 := irow_at hr hkn
      have hkl : k < l.length := by rw [HN.out]; exact hkn
      have hnx := sumI_next hkl
      have hbd := sumI_bd (l := l.take k) fun x hx => HB.out x (List.mem_of_mem_take hx)
      have hbd2 := HB.out l[k]! (by rw [getElem!_pos l k hkl]; exact List.getElem_mem hkl)
      have hlen : ((l.take k).length : Int) ≤ 8 := by rw [List.length_take]; omega
      have HE : IntKind.i64.wrap (f + sumI (l.take k) + l[k]!) = f + sumI (l.take (k + 1)) := by rw [IntKind.wrap_i64, hnx]; omega
      generalize l[k]! = x at p0 HE
      generalize f + sumI (l.take k) = s at HE
      obtain ⟨s2, hs2⟩ : ∃ s2, f + sumI (l.take (k + 1)) = s2 := ⟨_, rfl⟩
      rw [hs2] at HE
      have HS := Lib.hid hs2
      clear hr hnx hbd hbd2 hlen hs2
      go_wp2
      go_roundg (n - (k + 1))
      case measure => omega
      case rel => exact Lib.hid ⟨k + 1, by omega, by go_num, by rw [HS.out], hb⟩
    · have hkz : ¬ (k : Int) < (n : Int) := by omega
      obtain rfl : k = n := by omega
      have e : l.take k = l := List.take_of_length_le (by rw [HN.out]; exact Nat.le_refl _)
      rw [e]
      go_wp2
      go_ret
      exact ⟨rfl, hb⟩

def OwnRel (w : World) (a : Option Addr) (n c : Nat) (l : List Bk) (gg : Nat) (s3 s8 : Value) (wr : World) : Prop :=
  ∃ k : Nat, k + gg = n ∧ s8 = .int .i64 k ∧ wr.ownsRow w.heap.size 58 2 s3 k (bcells (l.take k)) ∧ Below w.heap.size w wr

set_option maxHeartbeats 800000 in
theorem own_any {w : World} {a : Option Addr} {n c : Nat} {l : List Bk} (h : Bks w a n c l) : Calls Try.prog 9 #[.slice a n c] w fun e w' => ∃ a' c', e = .returned (.slice a' n c') ∧ Bks w' a' n c' l ∧ Below w.heap.size w w' := by
  have H := Lib.hid h
  obtain ⟨hn, hnc, hn2, -⟩ := h
  have HN := Lib.hid hn
  clear hn
  obtain ⟨i0, hi, hz0, hz1, hz2⟩ := info_parts info58
  go_enter Try.func9, Try.ntmps9
  go_wp2
  go_loopg [3, 5, 8] n (fun gg s3 _ s8 wr => Hid (OwnRel w a n c l gg s3 s8 wr))
  case atStart => exact Lib.hid ⟨0, by omega, rfl, by simpa [bcells] using World.ownsRow_nil w w.heap.size 58 2, Below.refl _ _⟩
  case round =>
    obtain ⟨k, hk, rfl, hrow, hb⟩ := hrel.out
    clear hrel
    by_cases hlt : k < n
    · have hltz : (k : Int) < (n : Int) := by omega
      obtain ⟨b, off, rfl, hbb, c0, c1⟩ := bk_at (H.out.below hb) hlt
      have HT : Hid (bcells (l.take (k + 1)) = bcells (l.take k) ++ [.string (l[k]!).name, .int .i64 (l[k]!).wt]) := Lib.hid (by
        rw [take_next l k (by rw [← HN.out]; exact hlt), bcells_app]; rfl)
      generalize (l[k]!).name = nm at c0 c1 HT
      generalize (l[k]!).wt = wt at c0 c1 HT
      generalize bcells (l.take k) = zs at HT hrow
      have hrow2 := World.ownsRow.alloc hrow (.cells #[.string nm, .int .i64 wt] 53)
      have HR := Lib.hid (World.ownsRow.alloc hrow2 (.cells #[.string nm, .int .i64 wt] 58))
      have HB := Lib.hid hb
      have hsz := hb.size
      clear hrow hrow2 hb
      go_wp2_with (at_builtin; refine wpList_append_own _ rfl _ _ 28 rfl w.heap.size 58 i0 _ 2 24 Try.underlying28 hi hz0 hz1 hz2 rfl (by decide) _ k zs rfl HR.out ⟨wr.heap.size + 1, 0, none⟩ 1 1 [.string nm, .int .i64 wt] rfl rfl (cell_two_at _ _ _ (by simp)) (by intro u hu; simp at hu; rcases hu with rfl | rfl <;> rfl) (by simp only [maxLen]; omega) (by omega) (by simp; omega) ?_; intro v1 w1 hown1 hgrow1 hnil1)
      go_roundg (n - (k + 1))
      case measure => omega
      case rel =>
        refine Lib.hid ⟨k + 1, by omega, by go_num, by rw [HT.out]; exact hown1, ?_⟩
        exact ((HB.out.alloc (by omega) _).alloc (by simp; omega) _).grown hgrow1 (by simp; omega) (fun j hj => (HR.out.lt j hj).1)
    · have hltz : ¬ (k : Int) < (n : Int) := by omega
      obtain rfl : k = n := by omega
      have he : l.take k = l := by rw [HN.out]; exact List.take_length
      rw [he] at hrow
      go_wp2
      go_ret
      rw [HN.out] at hrow hn2
      obtain ⟨a', c', e, hB⟩ := bks_of_row hrow hn2
      rw [← HN.out] at hB e
      exact ⟨a', c', by rw [e]; rfl, hB, hb⟩


def SameRel (w : World) (n gg : Nat) (s13 : Value) (wr : World) : Prop := ∃ k : Nat, k + gg = n ∧ s13 = .int .i64 k ∧ Below w.heap.size w wr

set_option maxHeartbeats 1000000 in
/-- The law's same, of two rows of the same names. -/
theorem same_any {w : World} {b1 b2 : Nat} {v1 v2 : Value} {l : List ByteArray} (h1 : Nms w b1 v1 l) (h2 : Nms w b2 v2 l) :
    Calls Try.prog 19 #[v1, v2] w fun e w' => e = .returned (.bool true) ∧ Below w.heap.size w w' := by
  unfold Nms at h1 h2
  obtain ⟨n, hn⟩ : ∃ n, l.length = n := ⟨_, rfl⟩
  rw [hn] at h1 h2
  obtain ⟨a1, c1, rfl, hnc1, hm1⟩ := row_any h1
  have hmx : n ≤ 9223372036854775807 := by simp only [maxLen] at hm1; omega
  clear hm1
  obtain ⟨a2, c2, rfl, hnc2, -⟩ := row_any h2
  have H1 := Lib.hid h1
  have H2 := Lib.hid h2
  clear h1 h2 hn
  go_enter Try.func19, Try.ntmps19
  go_wp2
  go_loopg [5, 13] n (fun gg _ s13 wr => Hid (SameRel w n gg s13 wr))
  case atStart => exact Lib.hid ⟨0, by omega, rfl, Below.refl _ _⟩
  case round =>
    obtain ⟨k, hk, rfl, hb⟩ := hrel.out
    clear hrel
    by_cases hkn : k < n
    · have hkz : (k : Int) < (n : Int) := by omega
      have r1 := row_below H1.out hb
      have r2 := row_below H2.out hb
      obtain ⟨g1, c1', e1, _⟩ := row_slice r1 (by omega)
      obtain ⟨g2, c2', e2, _⟩ := row_slice r2 (by omega)
      simp only [Value.slice.injEq, true_and] at e1 e2
      obtain ⟨rfl, rfl⟩ := e1
      obtain ⟨rfl, rfl⟩ := e2
      have p1 := nrow_at r1 hkn
      have p2 := nrow_at r2 hkn
      generalize l[k]! = x at p1 p2
      have HB := Lib.hid hb
      clear r1 r2 hb
      go_wp2
      go_quiet (fail)
      go_wp2
      go_roundg (n - (k + 1))
      case measure => omega
      case rel => exact Lib.hid ⟨k + 1, by omega, by go_num, below_drewN HB.out _⟩
    · have hkz : ¬ (k : Int) < (n : Int) := by omega
      go_wp2
      go_ret
      exact ⟨rfl, hb⟩

end Go.Proofs.Ytbeacddclphjgaa
