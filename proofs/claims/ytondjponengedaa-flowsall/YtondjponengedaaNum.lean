/-
  What sip.number and the reference's number do: bytes as a number, the lowest first.
-/
import Derived.Test.YtondjponengedaaPart
namespace Go.Proofs.Ytondjponengedaa
open Go.RowKit

theorem get_take (l : List Int) (j : Nat) (x : Int) (h : l[j]? = some x) : l.take (j + 1) = l.take j ++ [x] := by
  rw [List.take_add_one, h]; rfl

/-- One byte more. -/
theorem num_or (l : List Int) (j : Nat) (x : Int) (hb : Byt l) (hj : l[j]? = some x) (h8 : j < 8) :
    bits BinOp.or IntKind.u64 (num (l.take j)) (x * 256 ^ j % 18446744073709551616) = num (l.take (j + 1)) := by
  have hx : 0 ≤ x ∧ x ≤ 255 := hb x (List.mem_of_getElem? hj)
  have hl : (l.take j).length = j := by
    have : j < l.length := by
      rcases Nat.lt_or_ge j l.length with h | h
      · exact h
      · simp [h] at hj
    simp; omega
  have hn := num_bd (l.take j) (hb.take j)
  rw [hl] at hn
  rw [get_take l j x hj, num_snoc, hl]
  obtain ⟨n, hnn⟩ : ∃ n, num (l.take j) = n := ⟨_, rfl⟩
  rw [hnn] at hn ⊢
  have hc : j = 0 ∨ j = 1 ∨ j = 2 ∨ j = 3 ∨ j = 4 ∨ j = 5 ∨ j = 6 ∨ j = 7 := by omega
  have go : ∀ (k : Nat) (m : Int), ((2 ^ k : Nat) : Int) = m → 0 ≤ n ∧ n < m → 0 ≤ x * m ∧ x * m < 18446744073709551616 → (x * m) % m = 0 → n < 18446744073709551616 → bits BinOp.or IntKind.u64 n (x * m % 18446744073709551616) = n + x * m := by
    intro k m hm h1 h2 h3 h4
    have e : x * m % 18446744073709551616 = x * m := by omega
    have hj := u64_join (x * m) n k (by omega) (by omega) (by rw [hm]; exact h3) (by omega)
    rw [e, Int.add_comm, ← hj, u64_or n (x * m) h1.1 h4 h2.1 h2.2, u64_or (x * m) n h2.1 h2.2 h1.1 h4, Nat.or_comm]
  rcases hc with rfl | rfl | rfl | rfl | rfl | rfl | rfl | rfl
  · exact go 0 (256 ^ 0) (by decide) hn (by omega) (by omega) (by omega)
  · exact go 8 (256 ^ 1) (by decide) hn (by omega) (by omega) (by omega)
  · exact go 16 (256 ^ 2) (by decide) hn (by omega) (by omega) (by omega)
  · exact go 24 (256 ^ 3) (by decide) hn (by omega) (by omega) (by omega)
  · exact go 32 (256 ^ 4) (by decide) hn (by omega) (by omega) (by omega)
  · exact go 40 (256 ^ 5) (by decide) hn (by omega) (by omega) (by omega)
  · exact go 48 (256 ^ 6) (by decide) hn (by omega) (by omega) (by omega)
  · exact go 56 (256 ^ 7) (by decide) hn (by omega) (by omega) (by omega)

set_option maxHeartbeats 1000000 in
/-- sip.number. -/
theorem number_any (A : Option Addr) (n c : Nat) (bs : List Int) (w : World) (hp : Part w ⟨A, n, c, bs⟩) (hn : n ≤ 8) :
    Calls Try.prog 82 #[.slice A n c] w fun e w' => e = .returned (.int .u64 (num bs)) ∧ w = w' := by
  have HP := Lib.hid hp
  have hpc : n ≤ c := hp.2.1
  have hl : bs.length = n := hp.1
  clear hp
  have HL := Lib.hid hl
  clear hl
  go_enter Try.func82, Try.ntmps82
  go_wp2
  go_loopg [3, 8] n (fun gg v i wr => ∃ j : Nat, j + gg = n ∧ v = .int .u64 (num (bs.take j)) ∧ i = .int .i64 j ∧ wr = w)
  case atStart => exact ⟨0, by omega, rfl, rfl, rfl⟩
  case round =>
    obtain ⟨j, hj, rfl, rfl, rfl⟩ := hrel
    rcases gk with _ | og
    · have hkl : ¬ (j : Int) < (n : Int) := by omega
      go_wp2
      try rw [Exit.noGoto_ret]
      go_ret
      refine ⟨ret_int ?_, rfl⟩
      rw [List.take_of_length_le (by have := HL.out; omega)]
    · have hkl : (j : Int) < (n : Int) := by omega
      obtain ⟨b, off, e, hcc⟩ := HP.out.2.2.2 (show 0 < n by omega)
      have e' : A = some ⟨b, off, none⟩ := e
      subst e'
      obtain ⟨x, hx⟩ : ∃ x, bs[j]? = some x := ⟨_, List.getElem?_eq_getElem (by have := HL.out; omega)⟩
      have hc0 := hcc j (show j < n by omega)
      simp only [hx, Option.getD_some] at hc0
      have HO := Lib.hid (num_or bs j x HP.out.2.2.1 hx (by omega))
      have hx0 : 0 ≤ x ∧ x ≤ 255 := HP.out.2.2.1 x (List.mem_of_getElem? hx)
      clear hcc e hx
      go_wp2
      go_roundg og
      case measure => omega
      case rel =>
        refine ⟨j + 1, by omega, ?_, by simp, rfl⟩
        rw [IntKind.wrap_u64, show (2 : Int) ^ (8 * j) = 256 ^ j by rw [Int.pow_mul]; rfl, HO.out]

/-- The last number's highest byte. -/
theorem lst_or (l : List Int) (n : Nat) (hb : Byt l) (hl : l.length ≤ 7) : bits BinOp.or IntKind.u64 (num l) ((n : Int) % 256 * 72057594037927936) = lst l n := by
  have h := num_56 l hb hl
  unfold lst
  have hj := u64_join ((n : Int) % 256 * 72057594037927936) (num l) 56 (by omega) (by omega) (by omega) (by omega)
  rw [Int.add_comm, ← hj, u64_or _ _ h.1 (by omega) (by omega) (by omega), u64_or _ _ (by omega) (by omega) h.1 (by omega), Nat.or_comm]

set_option maxHeartbeats 1000000 in
/-- sip.last. -/
theorem last_any (A : Option Addr) (n c : Nat) (bs : List Int) (m : Nat) (w : World) (hp : Part w ⟨A, n, c, bs⟩) (hn : n ≤ 7) :
    Calls Try.prog 84 #[.slice A n c, .int .i64 m] w fun e w' => e = .returned (.int .u64 (lst bs m)) ∧ w = w' := by
  have hl : bs.length = n := hp.1
  have HO := Lib.hid (lst_or bs m hp.2.2.1 (by omega))
  have HN := Lib.hid (number_any A n c bs w hp (by omega))
  clear hp hl
  go_enter Try.func84, Try.ntmps84
  go_wp2_with (go_at_call 82; refine HN.out.mono ?_; rintro e w' ⟨rfl, rfl⟩)
  go_ret
  exact ⟨ret_int HO.out, rfl⟩

/-- What is left behind byte i of eight. -/
theorem num_step (l : List Int) (i : Nat) (hb : Byt l) (h8 : i < 8) : 0 ≤ num ((l.take 8).drop (i + 1)) ∧ num ((l.take 8).drop (i + 1)) < 72057594037927936 :=
  num_56 _ ((hb.take 8).drop _) (by simp; omega)

theorem num_drop_in (l : List Int) (i : Nat) (x : Int) (h : l[i]? = some x) (h8 : i < 8) : num ((l.take 8).drop i) = num ((l.take 8).drop (i + 1)) * 256 + x := by
  have hx : (l.take 8)[i]? = some x := by rw [List.getElem?_take, if_pos h8, h]
  obtain ⟨hi, hv⟩ := List.getElem?_eq_some_iff.1 hx
  rw [List.drop_eq_getElem_cons hi, hv]
  simp only [num]
  omega
theorem num_drop_out (l : List Int) (i : Nat) (h : l.length ≤ i) : num ((l.take 8).drop i) = 0 := by
  rw [List.drop_of_length_le (by simp; omega)]; rfl

set_option maxHeartbeats 1000000 in
/-- outriderref07.number. -/
theorem rnumber_any (A : Option Addr) (n c : Nat) (bs : List Int) (k : Nat) (w : World) (hp : Part w ⟨A, n, c, bs⟩) (hk : k ≤ 281474976710656) (hn : n ≤ 281474976710656) :
    Calls Try.prog 62 #[.slice A n c, .int .i64 k] w fun e w' => e = .returned (.int .u64 (num ((bs.drop k).take 8))) ∧ w = w' := by
  have HP := Lib.hid hp
  have hpc : n ≤ c := hp.2.1
  have hl : bs.length = n := hp.1
  have hb : Byt (bs.drop k) := hp.2.2.1.drop k
  clear hp
  have HL := Lib.hid hl
  have HBY := Lib.hid hb
  clear hl hb
  go_enter Try.func62, Try.ntmps62
  go_wp2
  go_loopg [5, 6] 8 (fun gg v i wr => v = .int .u64 (num (((bs.drop k).take 8).drop gg)) ∧ i = .int .i64 ((gg : Int) - 1) ∧ gg ≤ 8 ∧ wr = w)
  case atStart => exact ⟨by simp [num], rfl, by omega, rfl⟩
  case round =>
    obtain ⟨rfl, rfl, hg, rfl⟩ := hrel
    rcases gk with _ | og
    · have hkl : ¬ (0 : Int) ≤ ((0 : Nat) : Int) - 1 := by omega
      go_wp2
      try rw [Exit.noGoto_ret]
      go_ret
      exact ⟨ret_int (by simp), rfl⟩
    · have hs := num_step (bs.drop k) og HBY.out (by omega)
      obtain ⟨N, hN⟩ : ∃ N, num (((bs.drop k).take 8).drop (og + 1)) = N := ⟨_, rfl⟩
      rw [hN] at hs ⊢
      have HNN := Lib.hid hN
      have ei : ((og + 1 : Nat) : Int) - 1 = og := by omega
      rw [ei]
      clear hN ei
      by_cases hin : k + og < n
      · have hkl : (k : Int) + og < (n : Int) := by omega
        obtain ⟨b, off, e, hcc⟩ := HP.out.2.2.2 (show 0 < n by omega)
        have e' : A = some ⟨b, off, none⟩ := e
        subst e'
        obtain ⟨x, hx⟩ : ∃ x, bs[k + og]? = some x := ⟨_, List.getElem?_eq_getElem (by have := HL.out; omega)⟩
        have hc0 := hcc (k + og) (show k + og < n by omega)
        simp only [hx, Option.getD_some] at hc0
        have hx0 : 0 ≤ x ∧ x ≤ 255 := HP.out.2.2.1 x (List.mem_of_getElem? hx)
        have HX := Lib.hid hx
        clear hcc e hx
        go_wp2
        go_roundg og
        case measure => omega
        case rel =>
          refine ⟨?_, rfl, by omega, rfl⟩
          rw [num_drop_in (bs.drop k) og x (by rw [List.getElem?_drop]; exact HX.out) (by omega), HNN.out]
      · have hkl : ¬ (k : Int) + og < (n : Int) := by omega
        go_wp2
        go_roundg og
        case measure => omega
        case rel =>
          have h0 := num_drop_out (bs.drop k) (og + 1) (by have := HL.out; simp; omega)
          rw [HNN.out] at h0
          subst h0
          refine ⟨?_, rfl, by omega, rfl⟩
          rw [num_drop_out (bs.drop k) og (by have := HL.out; simp; omega)]
          rfl

end Go.Proofs.Ytondjponengedaa
