/-
  What advert.Encode does.
-/
import Derived.Test.YtpcdaidgijkkbaaAenc
namespace Go.Proofs.Ytpcdaidgijkkbaa
open Go.RowKit
set_option linter.unusedVariables false
set_option maxRecDepth 40000

theorem right_at {s : ByteArray} {r : Bool} {w : World} (hs : s.size ≤ 140737488351232) (h : rightB s = r) : Calls Try.prog 48 #[.string s] w fun e w' => e = .returned (.bool r) ∧ w = w' := by subst h; exact right_any s w hs
theorem Own.stored2 {w : World} {B g n cap : Nat} {zs : List Int} (h : Own w B g n cap zs) (i j : Nat) (x y : Int) :
    Own ((w.setCell ⟨g, i, none⟩ (.int .u8 x)).setCell ⟨g, j, none⟩ (.int .u8 y)) B g n cap ((zs.set i x).set j y) ∧ Below B w ((w.setCell ⟨g, i, none⟩ (.int .u8 x)).setCell ⟨g, j, none⟩ (.int .u8 y)) :=
  ⟨((h.stored i x).1.stored j y).1, ((Below.refl _ _).setCell h.2.1 _).setCell h.2.1 _⟩
theorem below5 {B : Nat} {w W : World} (h : Below B w W) {N : Nat} (hN : B ≤ N) {v0 v1 v2 v3 v4 : Value} :
    Below B w (((((W.setCell ⟨N, 0, none⟩ v0).setCell ⟨N, 1, none⟩ v1).setCell ⟨N, 2, none⟩ v2).setCell ⟨N, 3, none⟩ v3).setCell ⟨N, 4, none⟩ v4) :=
  ((((h.setCell hN _).setCell hN _).setCell hN _).setCell hN _).setCell hN _
theorem Boxed.body {W : World} {N : Nat} {f t : ByteArray} {p l : Int} {s : ByteArray} (h : Boxed W N f t p l s) (s' : ByteArray) : Boxed (W.setCell ⟨N, 4, none⟩ (.string s')) N f t p l s' := by
  obtain ⟨h0, h1, h2, h3, h4⟩ := h
  have hN := World.block_lt_of_cell? _ _ h0
  refine ⟨?_, ?_, ?_, ?_, ?_⟩ <;> simp [go_sem, *]

/-- May an advertisement be, from this address. -/
def okA (f : ByteArray) (i p e : Int) (ss : List ByteArray) : Bool := rightB f && (mayIdB i && (mayPriorityB p && (mayEveryB e && (addrsB ss f))))
/-- Its sum. -/
def sumA (f : ByteArray) (i p e : Int) (ss : List ByteArray) : Int := 65535 - fd (tot (psx f (grp (decide (f.size = 16))) 112 ((8 + ss.length * f.size : Nat) : Int) ++ bodyL i p e ss 0 0))
theorem sumA_bd (f : ByteArray) (i p e : Int) (ss : List ByteArray) : 0 ≤ sumA f i p e ss ∧ sumA f i p e ss ≤ 65535 := by
  have := fd_bd (tot (psx f (grp (decide (f.size = 16))) 112 ((8 + ss.length * f.size : Nat) : Int) ++ bodyL i p e ss 0 0))
  unfold sumA
  omega
/-- Its Body. -/
def wireA (f : ByteArray) (i p e : Int) (ss : List ByteArray) : List Int := bodyL i p e ss (sumA f i p e ss / 256) (sumA f i p e ss % 256)
theorem body_sum (i p e : Int) (ss : List ByteArray) (hi lo : Int) : ((bodyL i p e ss 0 0).set 6 hi).set 7 lo = bodyL i p e ss hi lo := by simp [bodyL]

section
variable {f : ByteArray} {i p e : Int} {A : Option Addr} {n c : Nat} {ss : List ByteArray} {w : World}

set_option maxHeartbeats 1000000 in
theorem enc_no1 (hS : Strs w A n c ss) (hf : f.size ≤ 140737488351232) (hn : n ≤ 140737488351232) (h1 : rightB f = false) :
    Calls Try.prog 30 #[.agg #[.int .i64 i, .int .i64 p, .int .i64 e, .slice A n c], .string f] w fun e w' => e = .returned (.tuple #[.agg #[.string ⟨#[]⟩, .string ⟨#[]⟩, .int .i64 0, .int .i64 0, .string ⟨#[]⟩], .int .i64 1]) ∧ Below w.heap.size w w' := by
  have H1 := Lib.hid h1
  have HS := Lib.hid (show Strs ((w.alloc (.cells #[.int .i64 i, .int .i64 p, .int .i64 e, .slice A n c] 55)).alloc (.cells #[.string ⟨#[]⟩, .string ⟨#[]⟩, .int .i64 0, .int .i64 0, .string ⟨#[]⟩] 66)) A n c ss from (hS.alloc _).alloc _)
  clear hS h1
  go_enter Try.func30, Try.ntmps30
  go_wp2_with (first | (go_at_call 48; refine (right_at hf H1.out).mono ?_; rintro e w' ⟨rfl, rfl⟩))
  exact bodyPost_ret (v := .tuple #[.agg #[.string ⟨#[]⟩, .string ⟨#[]⟩, .int .i64 0, .int .i64 0, .string ⟨#[]⟩], .int .i64 1]) (by simp [results, Try.results30, go_sem]) rfl ⟨rfl, ((Below.refl _ _).alloc (Nat.le_refl _) _).alloc (by simp) _⟩

set_option maxHeartbeats 1000000 in
theorem enc_no2 (hS : Strs w A n c ss) (hf : f.size ≤ 140737488351232) (hn : n ≤ 140737488351232) (h1 : rightB f = true) (h2 : mayIdB i = false) :
    Calls Try.prog 30 #[.agg #[.int .i64 i, .int .i64 p, .int .i64 e, .slice A n c], .string f] w fun e w' => e = .returned (.tuple #[.agg #[.string ⟨#[]⟩, .string ⟨#[]⟩, .int .i64 0, .int .i64 0, .string ⟨#[]⟩], .int .i64 1]) ∧ Below w.heap.size w w' := by
  have H1 := Lib.hid h1
  have H2 := Lib.hid h2
  have HS := Lib.hid (show Strs ((w.alloc (.cells #[.int .i64 i, .int .i64 p, .int .i64 e, .slice A n c] 55)).alloc (.cells #[.string ⟨#[]⟩, .string ⟨#[]⟩, .int .i64 0, .int .i64 0, .string ⟨#[]⟩] 66)) A n c ss from (hS.alloc _).alloc _)
  clear hS h1 h2
  go_enter Try.func30, Try.ntmps30
  go_wp2_with (first | (go_at_call 48; refine (right_at hf H1.out).mono ?_; rintro e w' ⟨rfl, rfl⟩) | (go_at_call 49; refine (mayId_at H2.out).mono ?_; rintro e w' ⟨rfl, rfl⟩))
  exact bodyPost_ret (v := .tuple #[.agg #[.string ⟨#[]⟩, .string ⟨#[]⟩, .int .i64 0, .int .i64 0, .string ⟨#[]⟩], .int .i64 1]) (by simp [results, Try.results30, go_sem]) rfl ⟨rfl, ((Below.refl _ _).alloc (Nat.le_refl _) _).alloc (by simp) _⟩

set_option maxHeartbeats 1000000 in
theorem enc_no3 (hS : Strs w A n c ss) (hf : f.size ≤ 140737488351232) (hn : n ≤ 140737488351232) (h1 : rightB f = true) (h2 : mayIdB i = true) (h3 : mayPriorityB p = false) :
    Calls Try.prog 30 #[.agg #[.int .i64 i, .int .i64 p, .int .i64 e, .slice A n c], .string f] w fun e w' => e = .returned (.tuple #[.agg #[.string ⟨#[]⟩, .string ⟨#[]⟩, .int .i64 0, .int .i64 0, .string ⟨#[]⟩], .int .i64 1]) ∧ Below w.heap.size w w' := by
  have H1 := Lib.hid h1
  have H2 := Lib.hid h2
  have H3 := Lib.hid h3
  have HS := Lib.hid (show Strs ((w.alloc (.cells #[.int .i64 i, .int .i64 p, .int .i64 e, .slice A n c] 55)).alloc (.cells #[.string ⟨#[]⟩, .string ⟨#[]⟩, .int .i64 0, .int .i64 0, .string ⟨#[]⟩] 66)) A n c ss from (hS.alloc _).alloc _)
  clear hS h1 h2 h3
  go_enter Try.func30, Try.ntmps30
  go_wp2_with (first | (go_at_call 48; refine (right_at hf H1.out).mono ?_; rintro e w' ⟨rfl, rfl⟩) | (go_at_call 49; refine (mayId_at H2.out).mono ?_; rintro e w' ⟨rfl, rfl⟩) | (go_at_call 50; refine (mayPriority_at H3.out).mono ?_; rintro e w' ⟨rfl, rfl⟩))
  exact bodyPost_ret (v := .tuple #[.agg #[.string ⟨#[]⟩, .string ⟨#[]⟩, .int .i64 0, .int .i64 0, .string ⟨#[]⟩], .int .i64 1]) (by simp [results, Try.results30, go_sem]) rfl ⟨rfl, ((Below.refl _ _).alloc (Nat.le_refl _) _).alloc (by simp) _⟩

set_option maxHeartbeats 1000000 in
theorem enc_no4 (hS : Strs w A n c ss) (hf : f.size ≤ 140737488351232) (hn : n ≤ 140737488351232) (h1 : rightB f = true) (h2 : mayIdB i = true) (h3 : mayPriorityB p = true) (h4 : mayEveryB e = false) :
    Calls Try.prog 30 #[.agg #[.int .i64 i, .int .i64 p, .int .i64 e, .slice A n c], .string f] w fun e w' => e = .returned (.tuple #[.agg #[.string ⟨#[]⟩, .string ⟨#[]⟩, .int .i64 0, .int .i64 0, .string ⟨#[]⟩], .int .i64 1]) ∧ Below w.heap.size w w' := by
  have H1 := Lib.hid h1
  have H2 := Lib.hid h2
  have H3 := Lib.hid h3
  have H4 := Lib.hid h4
  have HS := Lib.hid (show Strs ((w.alloc (.cells #[.int .i64 i, .int .i64 p, .int .i64 e, .slice A n c] 55)).alloc (.cells #[.string ⟨#[]⟩, .string ⟨#[]⟩, .int .i64 0, .int .i64 0, .string ⟨#[]⟩] 66)) A n c ss from (hS.alloc _).alloc _)
  clear hS h1 h2 h3 h4
  go_enter Try.func30, Try.ntmps30
  go_wp2_with (first | (go_at_call 48; refine (right_at hf H1.out).mono ?_; rintro e w' ⟨rfl, rfl⟩) | (go_at_call 49; refine (mayId_at H2.out).mono ?_; rintro e w' ⟨rfl, rfl⟩) | (go_at_call 50; refine (mayPriority_at H3.out).mono ?_; rintro e w' ⟨rfl, rfl⟩) | (go_at_call 51; refine (mayEvery_at H4.out).mono ?_; rintro e w' ⟨rfl, rfl⟩))
  exact bodyPost_ret (v := .tuple #[.agg #[.string ⟨#[]⟩, .string ⟨#[]⟩, .int .i64 0, .int .i64 0, .string ⟨#[]⟩], .int .i64 1]) (by simp [results, Try.results30, go_sem]) rfl ⟨rfl, ((Below.refl _ _).alloc (Nat.le_refl _) _).alloc (by simp) _⟩

set_option maxHeartbeats 1000000 in
theorem enc_no5 (hS : Strs w A n c ss) (hf : f.size ≤ 140737488351232) (hn : n ≤ 140737488351232) (h1 : rightB f = true) (h2 : mayIdB i = true) (h3 : mayPriorityB p = true) (h4 : mayEveryB e = true) (h5 : addrsB ss f = false) :
    Calls Try.prog 30 #[.agg #[.int .i64 i, .int .i64 p, .int .i64 e, .slice A n c], .string f] w fun e w' => e = .returned (.tuple #[.agg #[.string ⟨#[]⟩, .string ⟨#[]⟩, .int .i64 0, .int .i64 0, .string ⟨#[]⟩], .int .i64 1]) ∧ Below w.heap.size w w' := by
  have H1 := Lib.hid h1
  have H2 := Lib.hid h2
  have H3 := Lib.hid h3
  have H4 := Lib.hid h4
  have H5 := Lib.hid h5
  have HS := Lib.hid (show Strs ((w.alloc (.cells #[.int .i64 i, .int .i64 p, .int .i64 e, .slice A n c] 55)).alloc (.cells #[.string ⟨#[]⟩, .string ⟨#[]⟩, .int .i64 0, .int .i64 0, .string ⟨#[]⟩] 66)) A n c ss from (hS.alloc _).alloc _)
  clear hS h1 h2 h3 h4 h5
  go_enter Try.func30, Try.ntmps30
  go_wp2_with (first | (go_at_call 48; refine (right_at hf H1.out).mono ?_; rintro e w' ⟨rfl, rfl⟩) | (go_at_call 49; refine (mayId_at H2.out).mono ?_; rintro e w' ⟨rfl, rfl⟩) | (go_at_call 50; refine (mayPriority_at H3.out).mono ?_; rintro e w' ⟨rfl, rfl⟩) | (go_at_call 51; refine (mayEvery_at H4.out).mono ?_; rintro e w' ⟨rfl, rfl⟩) | (go_at_call 52; refine (mayAddrs_at HS.out hf hn H5.out).mono ?_; rintro e w' ⟨rfl, rfl⟩))
  exact bodyPost_ret (v := .tuple #[.agg #[.string ⟨#[]⟩, .string ⟨#[]⟩, .int .i64 0, .int .i64 0, .string ⟨#[]⟩], .int .i64 1]) (by simp [results, Try.results30, go_sem]) rfl ⟨rfl, ((Below.refl _ _).alloc (Nat.le_refl _) _).alloc (by simp) _⟩

/-- advert.Encode of what may not be. -/
theorem encode_no (hS : Strs w A n c ss) (hf : f.size ≤ 140737488351232) (hn : n ≤ 140737488351232) (h : okA f i p e ss = false) :
    Calls Try.prog 30 #[.agg #[.int .i64 i, .int .i64 p, .int .i64 e, .slice A n c], .string f] w fun e w' => e = .returned (.tuple #[.agg #[.string ⟨#[]⟩, .string ⟨#[]⟩, .int .i64 0, .int .i64 0, .string ⟨#[]⟩], .int .i64 1]) ∧ Below w.heap.size w w' := by
  rcases h1 : rightB f with _ | _
  · exact enc_no1 hS hf hn h1
  rcases h2 : mayIdB i with _ | _
  · exact enc_no2 hS hf hn h1 h2
  rcases h3 : mayPriorityB p with _ | _
  · exact enc_no3 hS hf hn h1 h2 h3
  rcases h4 : mayEveryB e with _ | _
  · exact enc_no4 hS hf hn h1 h2 h3 h4
  rcases h5 : addrsB ss f with _ | _
  · exact enc_no5 hS hf hn h1 h2 h3 h4 h5
  simp [okA, h1, h2, h3, h4, h5] at h

theorem okA_all (h : okA f i p e ss = true) : (f.size = 4 ∨ f.size = 16) ∧ (1 ≤ i ∧ i ≤ 255) ∧ (0 ≤ p ∧ p ≤ 255) ∧ (1 ≤ e ∧ e ≤ 4095) ∧ (1 ≤ ss.length ∧ ss.length ≤ 8) ∧ (∀ s ∈ ss, s.size = f.size) := by
  simp [okA, rightB, mayIdB, mayPriorityB, mayEveryB, addrsB, mayCountB] at h
  exact ⟨h.1, h.2.1, h.2.2.1, h.2.2.2.1, ⟨by omega, by omega⟩, h.2.2.2.2.2⟩

set_option maxHeartbeats 4000000 in
/-- advert.Encode of an advertisement. -/
theorem encode_ok (hS : Strs w A n c ss) (h : okA f i p e ss = true) :
    Calls Try.prog 30 #[.agg #[.int .i64 i, .int .i64 p, .int .i64 e, .slice A n c], .string f] w fun r w' => r = .returned (.tuple #[.agg #[.string f, .string (grp (decide (f.size = 16))), .int .i64 112, .int .i64 255, .string (strOfNums (wireA f i p e ss))], .int .i64 0]) ∧ Below w.heap.size w w' := by
  obtain ⟨g1, g2, g3, g4, g5, g6⟩ := okA_all h
  have hl : ss.length = n := hS.1
  have hf : f.size ≤ 140737488351232 := by omega
  have hn : n ≤ 140737488351232 := by omega
  have hn8 : n ≤ 8 := by omega
  have H1 := Lib.hid (show rightB f = true by simp [rightB]; omega)
  have H2 := Lib.hid (show mayIdB i = true by simp [mayIdB]; omega)
  have H3 := Lib.hid (show mayPriorityB p = true by simp [mayPriorityB]; omega)
  have H4 := Lib.hid (show mayEveryB e = true by simp [mayEveryB]; omega)
  have H5 := Lib.hid (show addrsB ss f = true by simp [okA] at h; exact h.2.2.2.2)
  have H6 := Lib.hid (show decide (f.size = 16) = decide (f.size = 16) from rfl)
  obtain ⟨b6, hb6⟩ : ∃ b, decide (f.size = 16) = b := ⟨_, rfl⟩
  obtain ⟨G, hG⟩ : ∃ G, grp b6 = G := ⟨_, rfl⟩
  have hGs : G.size ≤ 16 := by rw [← hG, grp_size]; split <;> omega
  obtain ⟨q, hq⟩ : ∃ q, f.size = q := ⟨_, rfl⟩
  have hq16 : q ≤ 16 := by omega
  have hnq : n * q ≤ 128 := by have := Nat.mul_le_mul hn8 hq16; omega
  obtain ⟨M, hM⟩ : ∃ M, 8 + n * q = M := ⟨_, rfl⟩
  have hM1 : 8 ≤ M ∧ M ≤ 136 := by omega
  have HSX := Lib.hid (six_any f)
  obtain ⟨v, hv⟩ : ∃ v, sumA f i p e ss = v := ⟨_, rfl⟩
  have hvb := sumA_bd f i p e ss
  rw [hv] at hvb
  have HV : Hid (65535 - fd (tot (psx f G 112 (M : Int) ++ bodyL i p e ss 0 0)) = v) := Lib.hid (by rw [← hv, sumA, hb6, hG, hl, hq, hM])
  have HW : Hid (wireA f i p e ss = bodyL i p e ss (v / 256) (v % 256)) := Lib.hid (by rw [wireA, hv])
  have HT := Lib.hid (bodyL_byt (hi := 0) (lo := 0) (show 0 ≤ i ∧ i ≤ 255 by omega) g3 (show 0 ≤ e ∧ e ≤ 65535 by omega) (show ss.length ≤ 255 by omega) (by omega) (by omega))
  have HT2 := Lib.hid (bodyL_byt (show 0 ≤ i ∧ i ≤ 255 by omega) g3 (show 0 ≤ e ∧ e ≤ 65535 by omega) (show ss.length ≤ 255 by omega) (show 0 ≤ v / 256 ∧ v / 256 ≤ 255 by omega) (show 0 ≤ v % 256 ∧ v % 256 ≤ 255 by omega))
  obtain ⟨B, hB⟩ : ∃ B, strOfNums (bodyL i p e ss (v / 256) (v % 256)) = B := ⟨_, rfl⟩
  rw [hb6, hG, HW.out, hB]
  have HBB := Lib.hid hB
  clear hB
  have HS := Lib.hid (show Strs ((w.alloc (.cells #[.int .i64 i, .int .i64 p, .int .i64 e, .slice A n c] 55)).alloc (.cells #[.string ⟨#[]⟩, .string ⟨#[]⟩, .int .i64 0, .int .i64 0, .string ⟨#[]⟩] 66)) A n c ss from (hS.alloc _).alloc _)
  have HSa := Lib.hid (show Strs (((w.alloc (.cells #[.int .i64 i, .int .i64 p, .int .i64 e, .slice A n c] 55)).alloc (.cells #[.string ⟨#[]⟩, .string ⟨#[]⟩, .int .i64 0, .int .i64 0, .string ⟨#[]⟩] 66)).alloc (.cells #[.string f, .string G, .int .i64 112, .int .i64 255, .string ⟨#[]⟩] 66)) A n c ss from ((hS.alloc _).alloc _).alloc _)
  have HL : Hid (Calls Try.prog 55 #[.agg #[.int .i64 i, .int .i64 p, .int .i64 e, .slice A n c]] (((w.alloc (.cells #[.int .i64 i, .int .i64 p, .int .i64 e, .slice A n c] 55)).alloc (.cells #[.string ⟨#[]⟩, .string ⟨#[]⟩, .int .i64 0, .int .i64 0, .string ⟨#[]⟩] 66)).alloc (.cells #[.string f, .string G, .int .i64 112, .int .i64 255, .string ⟨#[]⟩] 66)) fun r w' => ∃ g cap, r = .returned (.slice (some ⟨g, 0, none⟩) M cap) ∧ Hid (Own w' (w.heap.size + 3) g M cap (bodyL i p e ss 0 0)) ∧ Hid (Below (w.heap.size + 3) (((w.alloc (.cells #[.int .i64 i, .int .i64 p, .int .i64 e, .slice A n c] 55)).alloc (.cells #[.string ⟨#[]⟩, .string ⟨#[]⟩, .int .i64 0, .int .i64 0, .string ⟨#[]⟩] 66)).alloc (.cells #[.string f, .string G, .int .i64 112, .int .i64 255, .string ⟨#[]⟩] 66)) w')) := Lib.hid (by
    have := lay_at (q := q) (i := i) (p := p) (e := e) HSa.out (by omega) g3 (by omega) hn8 hq16 (fun s hs => (g6 s hs).trans hq)
    rw [hM] at this
    simpa using this)
  have HS6 : Hid (∀ w, Calls Try.prog 54 #[.string f] w fun e w' => e = .returned (.bool b6) ∧ w = w') := Lib.hid (fun w => by rw [← hb6]; exact six_any f w hf)
  have HGr : Hid (∀ w, Calls Try.prog 53 #[.bool b6] w fun e w' => e = .returned (.string G) ∧ w = w') := Lib.hid (fun w => by rw [← hG]; exact group_any b6 w)
  have HBw : Hid (Below w.heap.size w (((w.alloc (.cells #[.int .i64 i, .int .i64 p, .int .i64 e, .slice A n c] 55)).alloc (.cells #[.string ⟨#[]⟩, .string ⟨#[]⟩, .int .i64 0, .int .i64 0, .string ⟨#[]⟩] 66)).alloc (.cells #[.string f, .string G, .int .i64 112, .int .i64 255, .string ⟨#[]⟩] 66))) := Lib.hid ((((Below.refl _ _).alloc (Nat.le_refl _) _).alloc (by simp) _).alloc (by simp; omega) _)
  have HX0 : Hid (Boxed (((w.alloc (.cells #[.int .i64 i, .int .i64 p, .int .i64 e, .slice A n c] 55)).alloc (.cells #[.string ⟨#[]⟩, .string ⟨#[]⟩, .int .i64 0, .int .i64 0, .string ⟨#[]⟩] 66)).alloc (.cells #[.string f, .string G, .int .i64 112, .int .i64 255, .string ⟨#[]⟩] 66)) (w.heap.size + 1 + 1) f G 112 255 ⟨#[]⟩) := Lib.hid (by simp [Boxed, go_sem])
  have HR0 : Hid (Boxed (((w.alloc (.cells #[.int .i64 i, .int .i64 p, .int .i64 e, .slice A n c] 55)).alloc (.cells #[.string ⟨#[]⟩, .string ⟨#[]⟩, .int .i64 0, .int .i64 0, .string ⟨#[]⟩] 66)).alloc (.cells #[.string f, .string G, .int .i64 112, .int .i64 255, .string ⟨#[]⟩] 66)) (w.heap.size + 1) ⟨#[]⟩ ⟨#[]⟩ 0 0 ⟨#[]⟩) := Lib.hid (by simp [Boxed, go_sem])
  have HF1 : Hid (Free (((w.alloc (.cells #[.int .i64 i, .int .i64 p, .int .i64 e, .slice A n c] 55)).alloc (.cells #[.string ⟨#[]⟩, .string ⟨#[]⟩, .int .i64 0, .int .i64 0, .string ⟨#[]⟩] 66)).alloc (.cells #[.string f, .string G, .int .i64 112, .int .i64 255, .string ⟨#[]⟩] 66)) (w.heap.size + 1)) := Lib.hid (fun o => by simp [go_sem])
  have HF2 : Hid (Free (((w.alloc (.cells #[.int .i64 i, .int .i64 p, .int .i64 e, .slice A n c] 55)).alloc (.cells #[.string ⟨#[]⟩, .string ⟨#[]⟩, .int .i64 0, .int .i64 0, .string ⟨#[]⟩] 66)).alloc (.cells #[.string f, .string G, .int .i64 112, .int .i64 255, .string ⟨#[]⟩] 66)) (w.heap.size + 1 + 1)) := Lib.hid (fun o => by simp [go_sem])
  clear hS h g1 g2 g3 g4 g5 g6 hl hb6 hG hv hM H6
  go_enter Try.func30, Try.ntmps30
  go_wp2_with (first | (go_at_call 48; refine (right_at hf H1.out).mono ?_; rintro e w' ⟨rfl, rfl⟩) | (go_at_call 49; refine (mayId_at H2.out).mono ?_; rintro e w' ⟨rfl, rfl⟩) | (go_at_call 50; refine (mayPriority_at H3.out).mono ?_; rintro e w' ⟨rfl, rfl⟩) | (go_at_call 51; refine (mayEvery_at H4.out).mono ?_; rintro e w' ⟨rfl, rfl⟩) | (go_at_call 52; refine (mayAddrs_at HS.out hf hn H5.out).mono ?_; rintro e w' ⟨rfl, rfl⟩) | (go_at_call 54; refine (HS6.out _).mono ?_; rintro e w' ⟨rfl, rfl⟩) | (go_at_call 53; refine (HGr.out _).mono ?_; rintro e w' ⟨rfl, rfl⟩))
  refine HL.out.mono ?_
  rintro e w1 ⟨g, cap, rfl, ho1, hb1⟩
  obtain ⟨x0, x1, x2, x3, x4⟩ := HX0.out.below hb1.out (by omega)
  have HO1 := ho1
  have HP1 := Lib.hid (ho1.out.part HT.out)
  have z1 : w.heap.size + 3 ≤ w1.heap.size := by have := hb1.out.size; simp at this; omega
  have zg : w.heap.size + 3 ≤ g := ho1.out.2.1
  go_wp2_with fail
  refine (apseudo_at (f := f) (t := G) (x := (M : Int)) hf (by omega) (by omega)).mono ?_
  rintro e w2 ⟨A2, n2, c2, rfl, hn2, hp2, hb2⟩
  have HP2 := Lib.hid (HP1.out.below hb2.out)
  have HO2 := Lib.hid (ho1.out.below hb2.out)
  have HB2 := Lib.hid (hb1.out.trans (hb2.out.mono z1))
  have z2 : w.heap.size + 3 ≤ w2.heap.size := by have := hb2.out.size; omega
  clear HP1 ho1 hb1 hb2 x0 x1 x2 x3 x4
  go_wp2_with fail
  refine (put_v (ps := [⟨A2, n2, c2, psx f G 112 (M : Int)⟩, ⟨some ⟨g, 0, none⟩, M, cap, bodyL i p e ss 0 0⟩]) (Parts.two (by simp [go_sem, PartV.val]) (by simp [go_sem, PartV.val]) (hp2.out.alloc _) (HP2.out.alloc _) (by simp; omega) (by simp; omega)) (m := 2) rfl (v := v) (by rw [← HV.out]; simp [flat])).mono ?_
  rintro e w3 ⟨rfl, k3, rfl⟩
  obtain ⟨W3, hW3⟩ : ∃ W3, (w2.alloc (.cells #[.slice A2 n2 c2, .slice (some ⟨g, 0, none⟩) M cap] 87)).drewN k3 = W3 := ⟨_, rfl⟩
  rw [hW3]
  have HO3 : Hid (Own W3 (w.heap.size + 3) g M cap (bodyL i p e ss 0 0)) := Lib.hid (by rw [← hW3]; exact (HO2.out.alloc _).drewN k3)
  have HB3 : Hid (Below (w.heap.size + 3) (((w.alloc (.cells #[.int .i64 i, .int .i64 p, .int .i64 e, .slice A n c] 55)).alloc (.cells #[.string ⟨#[]⟩, .string ⟨#[]⟩, .int .i64 0, .int .i64 0, .string ⟨#[]⟩] 66)).alloc (.cells #[.string f, .string G, .int .i64 112, .int .i64 255, .string ⟨#[]⟩] 66)) W3) := Lib.hid (by rw [← hW3]; exact below_drewN (HB2.out.alloc z2 _) k3)
  clear hW3 hp2 HP2 HO2 HB2
  obtain ⟨x0, x1, x2, x3, x4⟩ := HX0.out.below HB3.out (by omega)
  obtain ⟨y0, y1, y2, y3, y4⟩ := HR0.out.below HB3.out (by omega)
  have xf : ∀ o, W3.frozen? ⟨w.heap.size + 1 + 1, o, none⟩ = false := HF2.out.below HB3.out (by omega)
  have yf : ∀ o, W3.frozen? ⟨w.heap.size + 1, o, none⟩ = false := HF1.out.below HB3.out (by omega)
  have d6 := HO3.out.cell 6 (by omega)
  have d7 := HO3.out.cell 7 (by omega)
  have f6 := HO3.out.free 6 (by omega)
  have f7 := HO3.out.free 7 (by omega)
  have i6 : (6 : Int) < (M : Int) := by omega
  have i7 : (7 : Int) < (M : Int) := by omega
  have n1 : g ≠ w.heap.size + 1 + 1 := by omega
  have n2' : g ≠ w.heap.size + 1 := by omega
  have n3 : w.heap.size + 1 ≠ g := by omega
  have n4 : w.heap.size + 1 + 1 ≠ g := by omega
  have HO4 := (HO3.out.stored2 6 7 (v / 256) (v % 256))
  rw [body_sum] at HO4
  have HC : (convert 87 9 (.slice (some ⟨g, 0, none⟩) M cap)).run Try.prog ((W3.setCell ⟨g, 6, none⟩ (.int .u8 (v / 256))).setCell ⟨g, 7, none⟩ (.int .u8 (v % 256))) = .ok (.string B) ((W3.setCell ⟨g, 6, none⟩ (.int .u8 (v / 256))).setCell ⟨g, 7, none⟩ (.int .u8 (v % 256))) := by rw [← HBB.out]; exact convert_part (HO4.1.part HT2.out) 9 Try.underlying9
  have HB4 := Lib.hid (HBw.out.trans ((HB3.out.trans HO4.2).mono (by omega)))
  have q1 : w.heap.size + 1 < W3.heap.size := World.block_lt_of_cell? _ _ y0
  have q2 : w.heap.size + 1 + 1 < W3.heap.size := World.block_lt_of_cell? _ _ x0
  have q3 : g < W3.heap.size := HO3.out.lt
  clear HO4 HO3 HB3
  go_wp2
  exact bodyPost_ret (v := .tuple #[.agg #[.string f, .string G, .int .i64 112, .int .i64 255, .string B], .int .i64 0]) (by simp [results, Try.results30, go_sem, *]) rfl ⟨rfl, below5 (HB4.out.setCell (by show w.heap.size ≤ w.heap.size + 1 + 1; omega) _) (by omega)⟩
end

end Go.Proofs.Ytpcdaidgijkkbaa
