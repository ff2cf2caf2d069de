/-
  The small functions of maglev: mayName, mayWeight, the closure of mayBe, walk.at, cmp.Compare of texts, greatest.
-/
import Derived.Test.YtpkahjflhboddaaMem
import Derived.Laws.Cover1
namespace Go.Proofs.Ytpkahjflhboddaa
open Go.RowKit
set_option linter.unusedVariables false

/-- A bool that says whether p. -/
def Tells (e : Ending) (p : Prop) : Prop := ∃ r, e = .returned (.bool r) ∧ (r = true ↔ p)

set_option maxHeartbeats 400000 in
theorem mayName_any (s : ByteArray) (w : World) (hs : s.size ≤ 9223372036854775807) : Calls Try.prog 34 #[.string s] w fun e w' => Tells e (1 ≤ s.size ∧ s.size ≤ 40) ∧ w' = w := by
  obtain ⟨n, hn⟩ : ∃ n, s.size = n := ⟨_, rfl⟩
  have HN := Lib.hid hn
  by_cases h1 : 1 ≤ n
  · have H1 := Lib.hid h1
    have g1 : (1 : Int) ≤ (s.size : Int) := by omega
    by_cases h2 : n ≤ 40
    · have H2 := Lib.hid h2
      have g2 : (s.size : Int) ≤ 40 := by omega
      clear h1 h2 hn
      go_enter Try.func34, Try.ntmps34
      go_wp2
      go_ret
      exact ⟨⟨true, rfl, by simp; rw [HN.out]; exact ⟨H1.out, H2.out⟩⟩, rfl⟩
    · have H2 := Lib.hid h2
      have g2 : ¬ (s.size : Int) ≤ 40 := by omega
      clear h1 h2 hn
      go_enter Try.func34, Try.ntmps34
      go_wp2
      go_ret
      exact ⟨⟨false, rfl, by simp only [Bool.false_eq_true, false_iff]; rw [HN.out]; exact fun h => H2.out h.2⟩, rfl⟩
  · have H1 := Lib.hid h1
    have g1 : ¬ (1 : Int) ≤ (s.size : Int) := by omega
    clear h1 hn
    go_enter Try.func34, Try.ntmps34
    go_wp2
    go_ret
    exact ⟨⟨false, rfl, by simp only [Bool.false_eq_true, false_iff]; rw [HN.out]; exact fun h => H1.out h.1⟩, rfl⟩

set_option maxHeartbeats 400000 in
theorem mayWeight_any (x : Int) (w : World) : Calls Try.prog 35 #[.int .i64 x] w fun e w' => Tells e (1 ≤ x ∧ x ≤ 100) ∧ w' = w := by
  by_cases h1 : 1 ≤ x
  · by_cases h2 : x ≤ 100
    · go_enter Try.func35, Try.ntmps35
      go_wp2
      go_ret
      exact ⟨⟨true, rfl, by simp; exact ⟨h1, h2⟩⟩, rfl⟩
    · go_enter Try.func35, Try.ntmps35
      go_wp2
      go_ret
      exact ⟨⟨false, rfl, by simp only [Bool.false_eq_true, false_iff]; omega⟩, rfl⟩
  · go_enter Try.func35, Try.ntmps35
    go_wp2
    go_ret
    exact ⟨⟨false, rfl, by simp only [Bool.false_eq_true, false_iff]; omega⟩, rfl⟩

set_option maxHeartbeats 400000 in
/-- The closure of mayBe: has another one the same name? -/
theorem alike_any (nm nm2 : ByteArray) (wt : Int) (bp : Nat) (W : World) (hb : W.cell? ⟨bp, 0, none⟩ = some (.string nm2)) :
    Calls Try.prog 33 #[.agg #[.string nm, .int .i64 wt], .pointer (some ⟨bp, 0, none⟩)] W fun e w' => e = .returned (.bool (nm.toList == nm2.toList)) ∧ Below W.heap.size W w' := by
  have hlt := World.block_lt_of_cell? _ _ hb
  have hlt : bp < W.heap.size := hlt
  have hb2 : (W.alloc (.cells #[.string nm, .int .i64 wt] 50)).cell? ⟨bp, 0, none⟩ = some (.string nm2) := by rw [World.cell?_alloc_lt _ _ _ hlt]; exact hb
  generalize hr : (nm.toList == nm2.toList) = r
  go_enter Try.func33, Try.ntmps33
  go_wp2
  go_ret
  exact ⟨by rfl, (Below.refl _ _).alloc (Nat.le_refl _) _⟩

set_option maxHeartbeats 400000 in
/-- walk.at. -/
theorem walk_at (a b i : Nat) (w : World) (hi : i < 251) :
    Calls Try.prog 42 #[.agg #[.int .i64 (a % 251 : Nat), .int .i64 (b % 250 + 1 : Nat)], .int .i64 i] w fun e w' => e = .returned (.int .i64 (wk a b i : Nat)) ∧ Below w.heap.size w w' := by
  obtain ⟨x, hx⟩ : ∃ x, a % 251 = x := ⟨_, rfl⟩
  obtain ⟨y, hy⟩ : ∃ y, b % 250 + 1 = y := ⟨_, rfl⟩
  obtain ⟨m, hm⟩ : ∃ m, i * y = m := ⟨_, rfl⟩
  have hx2 : x < 251 := by omega
  have hy2 : y ≤ 250 := by omega
  have hm2 : m ≤ 62750 := by
    rw [← hm]
    calc i * y ≤ 251 * 250 := Nat.mul_le_mul (by omega) hy2
      _ = 62750 := rfl
  have hk : wk a b i = (x + m) % 251 := by rw [wk, hx, hy, hm]
  have HM : IntKind.i64.wrap ((i : Int) * (y : Int)) = (m : Int) := by rw [IntKind.wrap_i64, ← Int.natCast_mul, hm]; omega
  have HA : IntKind.i64.wrap ((x : Int) + (m : Int)) = ((x + m : Nat) : Int) := by rw [IntKind.wrap_i64]; omega
  have HR : ((x + m : Nat) : Int).tmod 251 = (((x + m) % 251 : Nat) : Int) := by rw [Int.tmod_eq_emod_of_nonneg (by omega)]; omega
  rw [hk, hx, hy]
  obtain ⟨z, hz⟩ : ∃ z, ((x + m : Nat) : Int) = z := ⟨_, rfl⟩
  obtain ⟨u, hu⟩ : ∃ u, (((x + m) % 251 : Nat) : Int) = u := ⟨_, rfl⟩
  rw [hz] at HA HR
  rw [hu] at HR ⊢
  clear hk hx hy hm hz hu
  go_enter Try.func42, Try.ntmps42
  go_wp2
  go_ret
  exact ⟨by rfl, (Below.refl _ _).alloc (Nat.le_refl _) _⟩

/-- cmp.Compare of two texts. -/
def cmp8 (x y : ByteArray) : Int := if lt8 x y then -1 else if x.toList == y.toList then 0 else 1

theorem isNaN_any (s : ByteArray) (w : World) : Calls Try.prog 47 #[.string s] w fun e w' => e = .returned (.bool false) ∧ w' = w := by
  go_enter Try.func47, Try.ntmps47
  go_wp2
  go_ret
  exact ⟨by rfl, rfl⟩

set_option maxHeartbeats 400000 in
theorem compare_any (x y : ByteArray) (w : World) : Calls Try.prog 39 #[.string x, .string y] w fun e w' => e = .returned (.int .i64 (cmp8 x y)) ∧ w' = w := by
  have H1 := Lib.hid (isNaN_any x w)
  have H2 := Lib.hid (isNaN_any y w)
  have e0 : Op.bytesLess x.toList y.toList = lt8 x y := rfl
  rcases h1 : lt8 x y with _ | _
  · rw [h1] at e0
    rcases h2 : (x.toList == y.toList) with _ | _
    · have hc : cmp8 x y = 1 := by simp [cmp8, h1, h2]
      rw [hc]
      go_enter Try.func39, Try.ntmps39
      go_wp2_with (first | (go_at_call_of 47 (Value.string x); refine H1.out.mono ?_; rintro e w' ⟨rfl, rfl⟩) | (go_at_call_of 47 (Value.string y); refine H2.out.mono ?_; rintro e w' ⟨rfl, rfl⟩))
      go_ret
      exact ⟨by rfl, rfl⟩
    · have hc : cmp8 x y = 0 := by simp [cmp8, h1, h2]
      rw [hc]
      go_enter Try.func39, Try.ntmps39
      go_wp2_with (first | (go_at_call_of 47 (Value.string x); refine H1.out.mono ?_; rintro e w' ⟨rfl, rfl⟩) | (go_at_call_of 47 (Value.string y); refine H2.out.mono ?_; rintro e w' ⟨rfl, rfl⟩))
      go_ret
      exact ⟨by rfl, rfl⟩
  · rw [h1] at e0
    have hc : cmp8 x y = -1 := by simp [cmp8, h1]
    rw [hc]
    go_enter Try.func39, Try.ntmps39
    go_wp2_with (first | (go_at_call_of 47 (Value.string x); refine H1.out.mono ?_; rintro e w' ⟨rfl, rfl⟩) | (go_at_call_of 47 (Value.string y); refine H2.out.mono ?_; rintro e w' ⟨rfl, rfl⟩))
    go_ret
    exact ⟨by rfl, rfl⟩

/-- The greatest weight of the first k. -/
def TopTo (l : List Bk) (k : Nat) (t : Int) : Prop := 0 ≤ t ∧ (∀ i, i < k → (l[i]!).wt ≤ t) ∧ (t = 0 ∨ ∃ i, i < k ∧ (l[i]!).wt = t)
theorem TopTo.next {l : List Bk} {k : Nat} {t : Int} (h : TopTo l k t) : TopTo l (k + 1) (max t (l[k]!).wt) := by
  obtain ⟨h0, h1, h2⟩ := h
  refine ⟨by omega, fun i hi => ?_, ?_⟩
  · rcases Nat.lt_or_ge i k with hik | hik
    · have := h1 i hik; omega
    · obtain rfl : i = k := by omega
      omega
  · rcases Int.le_total t (l[k]!).wt with h | h
    · exact .inr ⟨k, by omega, by omega⟩
    · rcases h2 with h2 | ⟨i, hi, e⟩
      · by_cases h3 : (l[k]!).wt = 0
        · exact .inr ⟨k, by omega, by omega⟩
        · exact .inl (by omega)
      · exact .inr ⟨i, by omega, by omega⟩
theorem TopTo.isTop {l : List Bk} {t : Int} (h : TopTo l l.length t) (h1 : 1 ≤ l.length) (hf : ∀ i, i < l.length → 1 ≤ (l[i]!).wt) : IsTop l t := by
  obtain ⟨h0, ha, hb⟩ := h
  refine ⟨ha, hb.resolve_left fun e => ?_⟩
  have := ha 0 (by omega)
  have := hf 0 (by omega)
  omega

def TopRel (w : World) (l : List Bk) (n gg : Nat) (s3 s8 : Value) (wr : World) : Prop :=
  ∃ (k : Nat) (t : Int), k + gg = n ∧ s8 = .int .i64 k ∧ s3 = .int .i64 t ∧ TopTo l k t ∧ Below w.heap.size w wr

set_option maxHeartbeats 800000 in
theorem greatest_any {w : World} {a : Option Addr} {n c : Nat} {l : List Bk} (h : Bks w a n c l) : Calls Try.prog 49 #[.slice a n c] w fun e w' => ∃ t, e = .returned (.int .i64 t) ∧ TopTo l n t ∧ Below w.heap.size w w' := by
  have H := Lib.hid h
  obtain ⟨hn, hnc, hn2, -⟩ := h
  clear hn
  go_enter Try.func49, Try.ntmps49
  go_wp2
  go_loopg [3, 5, 8] n (fun gg s3 _ s8 wr => Hid (TopRel w l n gg s3 s8 wr))
  case atStart => exact Lib.hid ⟨0, 0, by omega, rfl, rfl, ⟨by omega, fun i hi => by omega, .inl rfl⟩, Below.refl _ _⟩
  case round =>
    obtain ⟨k, t, hk, rfl, rfl, ht, hb⟩ := hrel.out
    clear hrel
    by_cases hlt : k < n
    · have hltz : (k : Int) < (n : Int) := by omega
      obtain ⟨b, off, rfl, hbb, c0, c1⟩ := bk_at (H.out.below hb) hlt
      have HT := Lib.hid ht.next
      have HB := Lib.hid hb
      have hsz := hb.size
      generalize (l[k]!).name = nm at c0 c1 HT
      generalize (l[k]!).wt = wt at c0 c1 HT
      clear ht hb
      by_cases hle : t < wt
      · have e : max t wt = wt := by omega
        rw [e] at HT
        clear e
        go_wp2
        go_roundg (n - (k + 1))
        case measure => omega
        case rel =>
          exact Lib.hid ⟨k + 1, _, by omega, by go_num, rfl, HT.out, HB.out.alloc (by omega) _⟩
      · have e : max t wt = t := by omega
        rw [e] at HT
        clear e
        go_wp2
        go_roundg (n - (k + 1))
        case measure => omega
        case rel =>
          exact Lib.hid ⟨k + 1, _, by omega, by go_num, rfl, HT.out, HB.out.alloc (by omega) _⟩
    · have hltz : ¬ (k : Int) < (n : Int) := by omega
      obtain rfl : k = n := by omega
      go_wp2
      go_ret
      exact ⟨t, by rfl, ht, hb⟩

end Go.Proofs.Ytpkahjflhboddaa
