/-
  A table in memory, and what is read of it: Len, At, firstUp, Find, Turn.
-/
import Derived.Test.YtpkahjflhboddaaMem
namespace Go.Proofs.Ytpkahjflhboddaa
open Go.RowKit
set_option linter.unusedVariables false

/-- Numbers that lie from a place on. -/
def Ints (w : World) (g off : Nat) (xs : List Int) : Prop := g < w.heap.size ∧ ∀ j, j < xs.length → w.cell? ⟨g, off + j, none⟩ = some (.int .i64 xs[j]!)
theorem Ints.below {w w' : World} {g off B : Nat} {xs : List Int} (h : Ints w g off xs) (hb : Below B w w') (hB : g < B) : Ints w' g off xs :=
  ⟨Nat.lt_of_lt_of_le h.1 hb.size, fun j hj => by rw [hb.cell (p := ⟨g, off + j, none⟩) hB]; exact h.2 j hj⟩

/-- Whether each is up. -/
def Bls (w : World) (a : Option Addr) (n c : Nat) (up : List Bool) : Prop := n = up.length ∧ n ≤ c ∧ (0 < n → ∃ b off, a = some ⟨b, off, none⟩ ∧ b < w.heap.size ∧ ∀ j, j < n → w.cell? ⟨b, off + j, none⟩ = some (.bool up[j]!))
theorem Bls.below {w w' : World} {a : Option Addr} {n c : Nat} {up : List Bool} (h : Bls w a n c up) (hb : Below w.heap.size w w') : Bls w' a n c up :=
  ⟨h.1, h.2.1, fun hn => by
    obtain ⟨b, off, e, hlt, hat⟩ := h.2.2 hn
    exact ⟨b, off, e, Nat.lt_of_lt_of_le hlt hb.size, fun j hj => by rw [hb.cell (p := ⟨b, off + j, none⟩) hlt]; exact hat j hj⟩⟩

def upAt (up : List Bool) (k : Int) : Bool := decide (k < up.length) && up[k.toNat]!
/-- The first one of a ring who is up. -/
def fst (rg : List Int) (s : Nat) (up : List Bool) : Option Nat := (List.range rg.length).find? fun j => upAt up rg[(s + j) % rg.length]!
def who (rg : List Int) (s : Nat) (up : List Bool) : Int := match fst rg s up with
  | some j => rg[(s + j) % rg.length]!
  | none => -1
def whoIs (rg : List Int) (s : Nat) (up : List Bool) : Bool := (fst rg s up).isSome
theorem fst_some {rg : List Int} {s : Nat} {up : List Bool} {j : Nat} (hj : j < rg.length) (h : upAt up rg[(s + j) % rg.length]! = true) (hn : ∀ i, i < j → upAt up rg[(s + i) % rg.length]! = false) : fst rg s up = some j := by
  unfold fst
  rw [List.find?_range_eq_some]
  exact ⟨h, List.mem_range.2 hj, fun i hi => by show (!upAt up _) = true; rw [hn i hi]; rfl⟩
theorem fst_none {rg : List Int} {s : Nat} {up : List Bool} (hn : ∀ i, i < rg.length → upAt up rg[(s + i) % rg.length]! = false) : fst rg s up = none := by
  unfold fst
  rw [List.find?_eq_none]
  intro i hi
  rw [hn i (List.mem_range.1 hi)]; exact Bool.false_ne_true

/-- A table in memory. -/
def Tab (w : World) (tb : Nat) (l : List Bk) (pl rg : List Int) : Prop :=
  pl.length = 251 ∧ Ints w tb 1 pl ∧
  (∃ g c, w.cell? ⟨tb, 0, none⟩ = some (.slice (some ⟨g, 0, none⟩) l.length c) ∧ l.length ≤ c ∧ g < w.heap.size ∧ ∀ i, i < l.length → w.cell? ⟨g, i, none⟩ = some (.string (l[i]!).name)) ∧
  (∃ g c, w.cell? ⟨tb, 252, none⟩ = some (.slice (some ⟨g, 0, none⟩) rg.length c) ∧ rg.length ≤ c ∧ Ints w g 0 rg)
theorem Tab.below {w w' : World} {tb : Nat} {l : List Bk} {pl rg : List Int} (h : Tab w tb l pl rg) (hb : Below w.heap.size w w') : Tab w' tb l pl rg := by
  obtain ⟨h1, h2, ⟨g, c, h3, h4, h5, h6⟩, g2, c2, h7, h8, h9⟩ := h
  have ht := h2.1
  refine ⟨h1, h2.below hb ht, ⟨g, c, ?_, h4, Nat.lt_of_lt_of_le h5 hb.size, fun i hi => ?_⟩, g2, c2, ?_, h8, h9.below hb h9.1⟩
  · rw [hb.cell (p := ⟨tb, 0, none⟩) ht]; exact h3
  · rw [hb.cell (p := ⟨g, i, none⟩) h5]; exact h6 i hi
  · rw [hb.cell (p := ⟨tb, 252, none⟩) ht]; exact h7

theorem len_any {w : World} {tb : Nat} {l : List Bk} {pl rg : List Int} (h : Tab w tb l pl rg) : Calls Try.prog 14 #[.pointer (some ⟨tb, 0, none⟩)] w fun e w' => e = .returned (.int .i64 l.length) ∧ w' = w := by
  obtain ⟨-, -, ⟨g, c, h3, -⟩, -⟩ := h
  generalize l.length = n at h3 ⊢
  go_enter Try.func14, Try.ntmps14
  go_wp2
  go_ret
  exact ⟨by rfl, rfl⟩

def atOf (pl : List Int) (p : Int) : Int := if 0 ≤ p ∧ p < 251 then pl[p.toNat]! else -1

set_option maxHeartbeats 400000 in
theorem at_any {w : World} {tb : Nat} {l : List Bk} {pl rg : List Int} (h : Tab w tb l pl rg) (p : Int) : Calls Try.prog 15 #[.pointer (some ⟨tb, 0, none⟩), .int .i64 p] w fun e w' => e = .returned (.int .i64 (atOf pl p)) ∧ w' = w := by
  obtain ⟨hl, hI, -⟩ := h
  by_cases h0 : p < 0
  · have hv : atOf pl p = -1 := by rw [atOf, if_neg (by omega)]
    rw [hv]
    clear hI hl
    go_enter Try.func15, Try.ntmps15
    go_wp2
    go_ret
    exact ⟨by rfl, rfl⟩
  · by_cases h1 : 251 ≤ p
    · have hv : atOf pl p = -1 := by rw [atOf, if_neg (by omega)]
      rw [hv]
      clear hI hl
      go_enter Try.func15, Try.ntmps15
      go_wp2
      go_ret
      exact ⟨by rfl, rfl⟩
    · obtain ⟨n, rfl⟩ := Int.eq_ofNat_of_zero_le (show 0 ≤ p by omega)
      have hv : atOf pl (n : Int) = pl[n]! := by rw [atOf, if_pos (by omega)]; simp
      have hc := hI.2 n (by omega)
      rw [hv]
      generalize pl[n]! = x at hc ⊢
      clear hI hl hv
      have h2 : (n : Int) < 251 := by omega
      go_enter Try.func15, Try.ntmps15
      go_wp2
      go_ret
      exact ⟨by rfl, rfl⟩

def FRel (rg : List Int) (s : Nat) (up : List Bool) (w : World) (gg : Nat) (s19 : Value) (wr : World) : Prop :=
  ∃ k : Nat, k + gg = rg.length ∧ s19 = .int .i64 k ∧ wr = w ∧ ∀ i, i < k → upAt up rg[(s + i) % rg.length]! = false

set_option maxHeartbeats 1000000 in
theorem firstUp_any {w : World} {g off c : Nat} {rg : List Int} {ua : Option Addr} {un uc : Nat} {up : List Bool} (h : Int) (hI : Ints w g off rg) (hU : Bls w ua un uc up) (hr : 1 ≤ rg.length) (hr2 : rg.length ≤ 100000) (hp : ∀ j, j < rg.length → 0 ≤ rg[j]!) (hu2 : un ≤ 140737488355328) (h0 : 0 ≤ h) (h1 : h ≤ 18446744073709551615) :
    Calls Try.prog 32 #[.slice (some ⟨g, off, none⟩) rg.length c, .int .u64 h, .slice ua un uc] w fun e w' => e = .returned (.tuple #[.int .i64 (who rg (h.toNat % rg.length) up), .bool (whoIs rg (h.toNat % rg.length) up)]) ∧ w' = w := by
  obtain ⟨n, hn⟩ : ∃ n, rg.length = n := ⟨_, rfl⟩
  obtain ⟨s, hs⟩ : ∃ s, h.toNat % rg.length = s := ⟨_, rfl⟩
  have hs2 : s < n := by rw [← hs, hn]; exact Nat.mod_lt _ (by omega)
  have HI := Lib.hid hI
  have HU := Lib.hid hU
  have HP := Lib.hid hp
  have HN := Lib.hid hn
  rw [hs, hn]
  rw [hn] at hr hr2 hs
  have w1 : IntKind.u64.wrap (n : Int) = (n : Int) := by rw [IntKind.wrap_u64]; omega
  have w2 : h.tmod (n : Int) = (s : Int) := by
    rw [Int.tmod_eq_emod_of_nonneg h0, ← hs, Int.natCast_emod, Int.toNat_of_nonneg h0]
  have w3 : IntKind.i64.wrap (s : Int) = (s : Int) := by rw [IntKind.wrap_i64]; omega
  have nz : (n : Int) ≠ 0 := by omega
  clear hI hU hp hn hs
  go_enter Try.func32, Try.ntmps32
  go_wp2
  go_loopg [9, 10, 19] n (fun gg _ _ s19 wr => Hid (FRel rg s up w gg s19 wr))
  case atStart => exact Lib.hid ⟨0, by rw [HN.out]; omega, rfl, rfl, fun i hi => by omega⟩
  case round =>
    obtain ⟨k, hk, rfl, rfl, hq⟩ := hrel.out
    rw [HN.out] at hk
    clear hrel
    have HQ := Lib.hid hq
    clear hq
    by_cases hlt : k < n
    · have hltz : (k : Int) < (n : Int) := by omega
      obtain ⟨m, hm⟩ : ∃ m, (s + k) % n = m := ⟨_, rfl⟩
      have hm2 : m < n := by rw [← hm]; exact Nat.mod_lt _ (by omega)
      have a1 : IntKind.i64.wrap ((s : Int) + (k : Int)) = ((s + k : Nat) : Int) := by rw [IntKind.wrap_i64]; omega
      have a2 : ((s + k : Nat) : Int).tmod (n : Int) = (m : Int) := by rw [Int.tmod_eq_emod_of_nonneg (by omega), ← hm, Int.natCast_emod]
      obtain ⟨z, hz⟩ : ∃ z, ((s + k : Nat) : Int) = z := ⟨_, rfl⟩
      rw [hz] at a1 a2
      have HM := Lib.hid hm
      have c0 := HI.out.2 m (by rw [HN.out]; exact hm2)
      obtain ⟨x, hx⟩ : ∃ x : Nat, rg[m]! = (x : Int) := by
        obtain ⟨x, hx⟩ := Int.eq_ofNat_of_zero_le (HP.out m (by rw [HN.out]; exact hm2))
        exact ⟨x, hx⟩
      rw [hx] at c0
      have HX := Lib.hid hx
      have m0 : (m : Int) < (n : Int) := by omega
      clear hm hz hx
      have hxat : Hid (upAt up rg[(s + k) % rg.length]! = upAt up (x : Int)) := Lib.hid (by rw [HN.out, HM.out, HX.out])
      by_cases hxu : x < un
      · have hxz : (x : Int) < (un : Int) := by omega
        obtain ⟨ub, uo, rfl, hub, hcu⟩ := HU.out.2.2 (by omega)
        have c1 := hcu x hxu
        obtain ⟨r, hr'⟩ : ∃ r, up[x]! = r := ⟨_, rfl⟩
        rw [hr'] at c1
        have hxat2 : Hid (upAt up (x : Int) = r) := Lib.hid (by rw [upAt, Int.toNat_natCast, hr', decide_eq_true (by rw [← HU.out.1]; omega)]; simp)
        clear hr' hcu
        rcases r with _ | _
        · go_wp2
          go_roundg (n - (k + 1))
          case measure => omega
          case rel =>
            refine Lib.hid ⟨k + 1, by rw [HN.out]; omega, by go_num, rfl, fun i hi => ?_⟩
            rcases Nat.lt_or_ge i k with hik | hik
            · exact HQ.out i hik
            · obtain rfl : i = k := by omega
              rw [hxat.out, hxat2.out]
        · go_wp2
          go_ret2
          have hf := fst_some (rg := rg) (s := s) (up := up) (j := k) (by rw [HN.out]; exact hlt) (by rw [hxat.out, hxat2.out]) HQ.out
          refine ⟨?_, rfl⟩
          rw [who, whoIs, hf]
          simp only [HN.out, HM.out, HX.out]
          rfl
      · have hxz : ¬ (x : Int) < (un : Int) := by omega
        have hxat2 : Hid (upAt up (x : Int) = false) := Lib.hid (by rw [upAt, decide_eq_false (by rw [← HU.out.1]; omega)]; rfl)
        go_wp2
        go_roundg (n - (k + 1))
        case measure => omega
        case rel =>
          refine Lib.hid ⟨k + 1, by rw [HN.out]; omega, by go_num, rfl, fun i hi => ?_⟩
          rcases Nat.lt_or_ge i k with hik | hik
          · exact HQ.out i hik
          · obtain rfl : i = k := by omega
            rw [hxat.out, hxat2.out]
    · have hltz : ¬ (k : Int) < (n : Int) := by omega
      go_wp2
      go_ret2
      have hf := fst_none (rg := rg) (s := s) (up := up) (fun i hi => HQ.out i (by rw [HN.out] at hi; omega))
      refine ⟨?_, rfl⟩
      rw [who, whoIs, hf]
      rfl

theorem find_any {w : World} {tb : Nat} {l : List Bk} {pl rg : List Int} {ua : Option Addr} {un uc : Nat} {up : List Bool} (h : Int) (hT : Tab w tb l pl rg) (hU : Bls w ua un uc up) (hp : ∀ j, j < pl.length → 0 ≤ pl[j]!) (hu2 : un ≤ 140737488355328) (h0 : 0 ≤ h) (h1 : h ≤ 18446744073709551615) :
    Calls Try.prog 19 #[.pointer (some ⟨tb, 0, none⟩), .int .u64 h, .slice ua un uc] w fun e w' => e = .returned (.tuple #[.int .i64 (who pl (h.toNat % 251) up), .bool (whoIs pl (h.toNat % 251) up)]) ∧ w' = w := by
  have hc := fun c => firstUp_any (c := c) h hT.2.1 hU (by rw [hT.1]; omega) (by rw [hT.1]; omega) hp hu2 h0 h1
  rw [hT.1] at hc
  generalize who pl (h.toNat % 251) up = x at hc ⊢
  generalize whoIs pl (h.toNat % 251) up = y at hc ⊢
  have HC := Lib.hid hc
  clear hc hT hU hp
  go_enter Try.func19, Try.ntmps19
  go_wp2_with (go_at_call 32; refine (HC.out _).mono ?_; rintro e w' ⟨rfl, rfl⟩)
  go_ret2
  exact ⟨by rfl, rfl⟩

theorem turn_any {w : World} {tb : Nat} {l : List Bk} {pl rg : List Int} {ua : Option Addr} {un uc : Nat} {up : List Bool} (h : Int) (hT : Tab w tb l pl rg) (hU : Bls w ua un uc up) (hr : 1 ≤ rg.length) (hr2 : rg.length ≤ 100000) (hp : ∀ j, j < rg.length → 0 ≤ rg[j]!) (hu2 : un ≤ 140737488355328) (h0 : 0 ≤ h) (h1 : h ≤ 18446744073709551615) :
    Calls Try.prog 21 #[.pointer (some ⟨tb, 0, none⟩), .int .u64 h, .slice ua un uc] w fun e w' => e = .returned (.tuple #[.int .i64 (who rg (h.toNat % rg.length) up), .bool (whoIs rg (h.toNat % rg.length) up)]) ∧ w' = w := by
  obtain ⟨-, -, -, g, c, hcell, -, hI⟩ := hT
  have hc := firstUp_any (c := c) h hI hU hr hr2 hp hu2 h0 h1
  generalize who rg (h.toNat % rg.length) up = x at hc ⊢
  generalize whoIs rg (h.toNat % rg.length) up = y at hc ⊢
  generalize rg.length = n at hcell hc
  have HC := Lib.hid hc
  clear hc hI hU hp
  go_enter Try.func21, Try.ntmps21
  go_wp2_with (go_at_call 32; refine HC.out.mono ?_; rintro e w' ⟨rfl, rfl⟩)
  go_ret2
  exact ⟨by rfl, rfl⟩

end Go.Proofs.Ytpkahjflhboddaa
