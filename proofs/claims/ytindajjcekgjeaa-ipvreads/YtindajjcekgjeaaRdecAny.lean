/-
  What the reference's Decode does, in one contract.
-/
import Derived.Test.YtindajjcekgjeaaRdec
namespace Go.Proofs.Ytindajjcekgjeaa
open Go.RowKit
set_option linter.unusedVariables false

/-- outriderref03.Decode. -/
theorem rdec_any (a : Option Addr) (n c : Nat) (bs : List Int) (w : World) (hp : Part w ⟨a, n, c, bs⟩) (hn : n ≤ 140737488355328) (f t : ByteArray) (p l : Int) (s : ByteArray) (r : Int) (hd : dec bs = (⟨f, t, p, l, s⟩, r)) :
    Calls Try.prog 14 #[.slice a n c] w fun e w' => e = .returned (.tuple #[.agg #[.string f, .string t, .int .i64 p, .int .i64 l, .string s], .int .i64 r]) ∧ Below w.heap.size w w' := by
  have hbn : bs.length = n := hp.1
  unfold dec at hd
  rw [hbn] at hd
  by_cases h0 : n = 0
  · rw [if_pos h0] at hd
    subst h0
    simp [Pk.zero] at hd
    obtain ⟨⟨rfl, rfl, rfl, rfl, rfl⟩, rfl⟩ := hd
    exact rdec_empty a c w
  rw [if_neg h0] at hd
  obtain ⟨b, off, e, _⟩ := hp.2.2.2 (show 0 < n by omega)
  have e' : a = some ⟨b, off, none⟩ := e
  subst e'
  have h1 : 1 ≤ n := by omega
  by_cases h6 : byteAt bs 0 / 16 = 6
  · rw [if_pos h6] at hd
    exact rdec_six b off n c bs w hp hn h1 _ rfl h6 f t p l s r hd
  rw [if_neg h6] at hd
  by_cases h4 : byteAt bs 0 / 16 = 4
  · rw [if_pos h4] at hd
    have hb2 : 0 ≤ byteAt bs 2 ∧ byteAt bs 2 ≤ 255 := byteAt_bd hp.2.2.1 2
    have hb3 : 0 ≤ byteAt bs 3 ∧ byteAt bs 3 ≤ 255 := byteAt_bd hp.2.2.1 3
    have t2 : byteAt bs 2 * 256 + byteAt bs 3 = twoAt bs 2 := rfl
    unfold dec4 at hd
    rw [hbn] at hd
    by_cases h20 : n < 20
    · rw [if_pos h20] at hd
      simp [Pk.zero] at hd
      obtain ⟨⟨rfl, rfl, rfl, rfl, rfl⟩, rfl⟩ := hd
      exact rdec_short b off n c bs w hp hn h1 _ rfl h4 h20
    rw [if_neg h20] at hd
    have h20' : 20 ≤ n := by omega
    by_cases h69 : byteAt bs 0 ≠ 69
    · rw [if_pos h69] at hd
      simp [Pk.zero] at hd
      obtain ⟨⟨rfl, rfl, rfl, rfl, rfl⟩, rfl⟩ := hd
      exact rdec_head b off n c bs w hp hn h1 _ rfl h4 h20' h69
    rw [if_neg h69] at hd
    have e0 : byteAt bs 0 = 69 := by omega
    by_cases hl : twoAt bs 2 < 20 ∨ (n : Int) < twoAt bs 2
    · rw [if_pos hl] at hd
      simp [Pk.zero] at hd
      obtain ⟨⟨rfl, rfl, rfl, rfl, rfl⟩, rfl⟩ := hd
      by_cases hl2 : twoAt bs 2 < 20
      · exact rdec_low b off n c bs w hp hn h1 e0 _ rfl _ rfl _ t2 h20' hl2
      · exact rdec_long b off n c bs w hp hn h1 e0 _ rfl _ rfl _ t2 h20' (by omega) (by omega)
    rw [if_neg hl] at hd
    by_cases hs : fd (tot (bs.take 20)) ≠ 65535
    · rw [if_pos hs] at hd
      simp [Pk.zero] at hd
      obtain ⟨⟨rfl, rfl, rfl, rfl, rfl⟩, rfl⟩ := hd
      exact rdec_sum b off n c bs w hp hn h1 e0 _ rfl _ rfl _ t2 h20' (by omega) (by omega) _ rfl hs
    rw [if_neg hs] at hd
    have hs' : fd (tot (bs.take 20)) = 65535 := by omega
    by_cases hv : byteAt bs 7 ≠ 0 ∨ (byteAt bs 6 ≠ 0 ∧ byteAt bs 6 ≠ 64)
    · rw [if_pos hv] at hd
      simp [Pk.zero] at hd
      obtain ⟨⟨rfl, rfl, rfl, rfl, rfl⟩, rfl⟩ := hd
      by_cases h7 : byteAt bs 7 ≠ 0
      · exact rdec_part7 b off n c bs w hp hn h1 e0 _ rfl _ rfl _ t2 h20' _ rfl (by omega) (by omega) hs' h7
      · exact rdec_part6 b off n c bs w hp hn h1 e0 _ rfl _ rfl _ t2 h20' _ rfl (by omega) (by omega) (by omega) hs' (by omega) (by omega)
    · rw [if_neg hv] at hd
      simp at hd
      obtain ⟨⟨rfl, rfl, rfl, rfl, rfl⟩, rfl⟩ := hd
      by_cases h60 : byteAt bs 6 = 0
      · exact rdec_ok0 b off n c bs w hp hn h1 e0 _ rfl _ rfl _ t2 h20' h60 (by omega) _ rfl _ rfl ((twoAt bs 2).toNat - 20) (by omega) (by omega) hs' _ rfl
      · exact rdec_ok64 b off n c bs w hp hn h1 e0 _ rfl _ rfl _ t2 h20' (by omega) (by omega) _ rfl _ rfl ((twoAt bs 2).toNat - 20) (by omega) (by omega) hs' _ rfl
  rw [if_neg h4] at hd
  simp [Pk.zero] at hd
  obtain ⟨⟨rfl, rfl, rfl, rfl, rfl⟩, rfl⟩ := hd
  exact rdec_version b off n c bs w hp hn h1 _ rfl h6 h4

end Go.Proofs.Ytindajjcekgjeaa
