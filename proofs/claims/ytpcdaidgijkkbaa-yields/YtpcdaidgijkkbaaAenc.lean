/-
  What advert.mayAddrs and advert.lay do.
-/
import Derived.Test.YtpcdaidgijkkbaaAdecb
namespace Go.Proofs.Ytpcdaidgijkkbaa
open Go.RowKit
set_option linter.unusedVariables false
set_option maxRecDepth 40000

def addrsB (ss : List ByteArray) (f : ByteArray) : Bool := mayCountB (ss.length : Int) && ss.all (fun s => decide (s.size = f.size))

def MRel (ss : List ByteArray) (f : ByteArray) (n gg : Nat) (i : Value) (w wr : World) : Prop :=
  ∃ k : Nat, k + gg = n ∧ i = .int .i64 (k : Int) ∧ (∀ s ∈ ss.take k, s.size = f.size) ∧ w = wr

set_option maxHeartbeats 1000000 in
/-- advert.mayAddrs. -/
theorem mayAddrs_at {A : Option Addr} {n c : Nat} {ss : List ByteArray} {f : ByteArray} {r : Bool} {w : World} (hS : Strs w A n c ss) (hf : f.size ≤ 140737488351232) (hn : n ≤ 140737488351232) (hr : addrsB ss f = r) :
    Calls Try.prog 52 #[.slice A n c, .string f] w fun e w' => e = .returned (.bool r) ∧ w = w' := by
  have hl : ss.length = n := hS.1
  subst hr
  rcases hm : mayCountB (n : Int) with _ | _
  · have HM := Lib.hid hm
    have HL := Lib.hid hl
    clear hm hl hS
    go_enter Try.func52, Try.ntmps52
    go_wp2_with (go_at_call 64; refine (mayCount_at HM.out).mono ?_; rintro e w' ⟨rfl, rfl⟩)
    go_ret
    exact ⟨ret_bool (by simp [addrsB, HL.out, HM.out]), rfl⟩
  · have HM := Lib.hid hm
    have HL := Lib.hid hl
    have hn1 : 1 ≤ n ∧ n ≤ 8 := by simp [mayCountB] at hm; omega
    obtain ⟨b, off, e, hc⟩ := hS.2.2.2.2 (by omega)
    have HC := Lib.hid hc
    have HZ := Lib.hid hS.2.2.2.1
    subst e
    clear hm hl hS hc
    go_enter Try.func52, Try.ntmps52
    go_wp2_with (go_at_call 64; refine (mayCount_at HM.out).mono ?_; rintro e w' ⟨rfl, rfl⟩)
    go_loopg [13] n (fun gg i wr => MRel ss f n gg i w wr)
    case atStart => exact ⟨0, by omega, rfl, by simp, rfl⟩
    case round =>
      obtain ⟨k, hk, rfl, hall, rfl⟩ := hrel
      have HA := Lib.hid hall
      clear hall
      by_cases hlt : k < n
      · have hk' : k < ss.length := by rw [HL.out]; exact hlt
        obtain ⟨s, hs⟩ : ∃ s, ss[k]? = some s := ⟨_, List.getElem?_eq_getElem hk'⟩
        have c1 := HC.out k s hs
        have hz := HZ.out s (List.mem_of_getElem? hs)
        have HS := Lib.hid hs
        have hkn : (k : Int) < (n : Int) := by omega
        clear hs hk'
        by_cases he : s.size = f.size
        · have e1 : ((s.size : Int) != (f.size : Int)) = false := by simp; omega
          go_wp2
          go_roundg (n - (k + 1))
          case measure => omega
          case rel =>
            refine ⟨k + 1, by omega, by simp, ?_, rfl⟩
            intro x hx
            rw [List.take_add_one, HS.out] at hx
            simp at hx
            rcases hx with hx | rfl
            · exact HA.out x hx
            · exact he
        · have e1 : ((s.size : Int) != (f.size : Int)) = true := by simp; omega
          go_wp2
          go_ret
          refine ⟨ret_bool ?_, rfl⟩
          symm
          simp only [addrsB, Bool.and_eq_false_iff, List.all_eq_false]
          exact .inr ⟨s, List.mem_of_getElem? HS.out, by simpa using he⟩
      · have hkn : ¬ ((k : Int) < (n : Int)) := by omega
        go_wp2
        go_ret
        refine ⟨ret_bool ?_, rfl⟩
        symm
        simp only [addrsB, HL.out, HM.out, Bool.true_and, List.all_eq_true]
        intro x hx
        have := HA.out x (by rw [List.take_of_length_le (by rw [HL.out]; omega)]; exact hx)
        simpa using this

/-- All bytes of some addresses. -/
def joined (ss : List ByteArray) : List Int := (ss.map bts).flatten
theorem joined_snoc (ss : List ByteArray) (s : ByteArray) : joined (ss ++ [s]) = joined ss ++ bts s := by simp [joined]
theorem joined_byt (ss : List ByteArray) : Byt (joined ss) := by
  intro x hx
  simp [joined] at hx
  obtain ⟨l, ⟨s, _, rfl⟩, h⟩ := hx
  exact bts_byt s x h
theorem joined_len (ss : List ByteArray) (q : Nat) (h : ∀ s ∈ ss, s.size = q) : (joined ss).length = ss.length * q := by
  induction ss with
  | nil => simp [joined]
  | cons a r ih =>
    have h1 := ih (fun s hs => h s (by simp [hs]))
    have h2 := h a (by simp)
    simp [joined, bts_len, h2] at h1 ⊢
    rw [h1, Nat.succ_mul]
    omega
/-- The Body of an advertisement, with two bytes for its sum. -/
def bodyL (i p e : Int) (ss : List ByteArray) (hi lo : Int) : List Int := [49, i, p, (ss.length : Int), e / 256, e % 256, hi, lo] ++ joined ss
theorem bodyL_byt {i p e hi lo : Int} {ss : List ByteArray} (h1 : 0 ≤ i ∧ i ≤ 255) (h2 : 0 ≤ p ∧ p ≤ 255) (h3 : 0 ≤ e ∧ e ≤ 65535) (h4 : ss.length ≤ 255) (h5 : 0 ≤ hi ∧ hi ≤ 255) (h6 : 0 ≤ lo ∧ lo ≤ 255) : Byt (bodyL i p e ss hi lo) := by
  refine Byt.append ?_ (joined_byt ss)
  intro x hx
  simp at hx
  omega
theorem bodyL_len (i p e : Int) (ss : List ByteArray) (hi lo : Int) (q : Nat) (h : ∀ s ∈ ss, s.size = q) : (bodyL i p e ss hi lo).length = 8 + ss.length * q := by
  simp [bodyL, joined_len ss q h]
  omega

def LRel (w : World) (B : Nat) (z : List Int) (ss : List ByteArray) (n q gg : Nat) (v i : Value) (wr : World) : Prop :=
  ∃ k N g cap : Nat, k + gg = n ∧ i = .int .i64 (k : Int) ∧ Hid (N = 8 + k * q) ∧ v = .slice (some ⟨g, 0, none⟩) N cap ∧ Hid (Own wr B g N cap (z ++ joined (ss.take k))) ∧ Hid (Below B w wr)

set_option maxHeartbeats 2000000 in
/-- advert.lay. -/
theorem lay_at {A : Option Addr} {n c : Nat} {ss : List ByteArray} {i p e : Int} {q : Nat} {w : World} (hS : Strs w A n c ss) (hi : 0 ≤ i ∧ i ≤ 255) (hp : 0 ≤ p ∧ p ≤ 255) (he : 0 ≤ e ∧ e ≤ 65535) (hn : n ≤ 8) (hq : q ≤ 16) (hss : ∀ s ∈ ss, s.size = q) :
    Calls Try.prog 55 #[.agg #[.int .i64 i, .int .i64 p, .int .i64 e, .slice A n c]] w fun r w' => ∃ g cap, r = .returned (.slice (some ⟨g, 0, none⟩) (8 + n * q) cap) ∧ Hid (Own w' w.heap.size g (8 + n * q) cap (bodyL i p e ss 0 0)) ∧ Hid (Below w.heap.size w w') := by
  have hl : ss.length = n := hS.1
  have HL := Lib.hid hl
  have HSS := Lib.hid hss
  have HS := Lib.hid hS.at
  have hq8 : n * q ≤ 128 := by have := Nat.mul_le_mul hn hq; omega
  have hzl : ∀ z : List Int, True := fun _ => trivial
  have HO : Hid (Own ((w.alloc (.cells #[.int .i64 i, .int .i64 p, .int .i64 e, .slice A n c] 55)).alloc (.cells #[.int .u8 49, .int .u8 i, .int .u8 p, .int .u8 n, .int .u8 (e / 256), .int .u8 (e % 256), .int .u8 0, .int .u8 0] 5)) w.heap.size (w.heap.size + 1) 8 8 [49, i, p, (n : Int), e / 256, e % 256, 0, 0]) := Lib.hid ⟨rfl, Nat.le_succ _, Nat.le_refl _, by simp [maxLen], _, (0, 0), by simpa using heap_alloc_new (w.alloc (.cells #[.int .i64 i, .int .i64 p, .int .i64 e, .slice A n c] 55)) _, .inl rfl, rfl, rfl⟩
  have HB : Hid (Below w.heap.size w ((w.alloc (.cells #[.int .i64 i, .int .i64 p, .int .i64 e, .slice A n c] 55)).alloc (.cells #[.int .u8 49, .int .u8 i, .int .u8 p, .int .u8 n, .int .u8 (e / 256), .int .u8 (e % 256), .int .u8 0, .int .u8 0] 5))) := Lib.hid (((Below.refl _ _).alloc (Nat.le_refl _) _).alloc (by simp) _)
  clear hS hl hss hzl
  go_enter Try.func55, Try.ntmps55
  go_wp2
  go_loopg [3, 27] n (fun gg v x wr => LRel w w.heap.size [49, i, p, (n : Int), e / 256, e % 256, 0, 0] ss n q gg v x wr)
  case atStart => exact ⟨0, 8, _, _, by omega, rfl, Lib.hid (by omega), rfl, Lib.hid (by simpa [joined] using HO.out), HB⟩
  case round =>
    obtain ⟨k, N, g, cap, hk, rfl, hN, rfl, hO, hB⟩ := hrel
    by_cases hlt : k < n
    · have hk' : k < ss.length := by rw [HL.out]; exact hlt
      obtain ⟨s, hs⟩ : ∃ s, ss[k]? = some s := ⟨_, List.getElem?_eq_getElem hk'⟩
      obtain ⟨b, off, rfl, hbl, hc⟩ := HS.out.2.2.2.2 (by omega)
      have c1 : wr.cell? ⟨b, off + k, none⟩ = some (.string s) := (hB.out.cell (p := ⟨b, off + k, none⟩) hbl).trans (hc k s hs)
      have hsq : s.size = q := HSS.out s (List.mem_of_getElem? hs)
      have hN2 : N ≤ 1000 := by
        have h1 := hN.out
        have : k * q ≤ 8 * 16 := Nat.mul_le_mul (by omega) hq
        omega
      obtain ⟨g2, cap2, w2, hr2, hg2⟩ := append_text wr w.heap.size g N cap _ s hO.out hB.out.size (by omega) 22 Try.underlying22 (N + q) (by omega)
      have HA2 := Lib.hid hr2
      have HG2 := Lib.hid hg2
      have HS2 := Lib.hid hs
      have hkn : (k : Int) < (n : Int) := by omega
      clear hs hk' hc hr2 hg2 hsq
      go_wp2_with (at_builtin; ((with_reducible refine wpList_append_run ?_ (.tmp 31) (.tmp 32) 87 22 ?_ ?_ ?_ 87 ?_ HA2.out ?_); (focus rfl); (focus rfl); (focus rfl); (focus rfl); (focus rfl)))
      go_roundg (n - (k + 1))
      case measure => omega
      case rel =>
        refine ⟨k + 1, N + q, g2, cap2, by omega, by simp, Lib.hid (by rw [hN.out, Nat.succ_mul]; omega), rfl, Lib.hid ?_, Lib.hid (hB.out.trans HG2.out.2.1)⟩
        have h := HG2.out.1
        rw [List.take_add_one, HS2.out]
        simpa [joined] using h
    · have hkn : ¬ ((k : Int) < (n : Int)) := by omega
      go_wp2
      go_ret
      have h := hO.out
      have hkn' : k = n := by omega
      subst hkn'
      rw [List.take_of_length_le (by rw [HL.out]; omega)] at h
      rw [← hN.out]
      refine ⟨_, _, rfl, Lib.hid ?_, hB⟩
      rw [bodyL, HL.out]
      exact h
end Go.Proofs.Ytpcdaidgijkkbaa
