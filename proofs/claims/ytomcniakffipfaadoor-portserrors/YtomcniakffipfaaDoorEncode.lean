/-
  What ipv.Encode does.
-/
import Derived.Test.YtomcniakffipfaaDoorEnc
namespace Go.Proofs.YtomcniakffipfaaDoor
open Go.RowKit
set_option linter.unusedVariables false

/-- A callee that leaves the world as it is, inside a quiet region. -/
theorem quiet_same {f : FuncId} {args : Array Value} {w : World} {n : Nat} {v : Value} (h : Calls Tryd.prog f args (w.drewN n) fun e w' => e = .returned v ∧ w.drewN n = w') : Calls Tryd.prog f args (w.drewN n) fun e w'' => e = .returned v ∧ ∃ m, w'' = w.drewN m :=
  h.mono fun _ _ ⟨he, hm⟩ => ⟨he, n, hm.symm⟩
theorem alike_at {s t : ByteArray} {r : Bool} {w : World} (hs : s.size ≤ 140737488351232) (ht : t.size ≤ 140737488351232) (h : alikeB s t = r) :
    Calls Tryd.prog 31 #[.string s, .string t] w fun e w' => e = .returned (.bool r) ∧ w = w' := by subst h; exact alike_any s t w hs ht
theorem byte_at {n : Int} {r : Bool} {w : World} (h : byteB n = r) : Calls Tryd.prog 32 #[.int .i64 n] w fun e w' => e = .returned (.bool r) ∧ w = w' := by subst h; exact isByte_any n w
theorem headOf_at {s : ByteArray} {r : Int} {w : World} (hs : s.size ≤ 140737488351232) (h : headI s = r) : Calls Tryd.prog 33 #[.string s] w fun e w' => e = .returned (.int .i64 r) ∧ w = w' := by subst h; exact headOf_any s w hs
theorem six_at {s : ByteArray} {r : Bool} {w : World} (hs : s.size ≤ 140737488351232) (h : decide (s.size = 16) = r) : Calls Tryd.prog 9 #[.string s] w fun e w' => e = .returned (.bool r) ∧ w = w' := by subst h; exact six_any s w hs

/-- The packet may be written. -/
def Okp (f t : ByteArray) (p l : Int) (s : ByteArray) : Prop := alikeB f t = true ∧ byteB p = true ∧ byteB l = true ∧ (s.size : Int) ≤ 1500 - headI f
/-- What is written. -/
def wire (f t : ByteArray) (p l : Int) (s : ByteArray) : List Int := if f.size = 16 then wire6 f t p l s else wire4 f t p l s

set_option maxHeartbeats 400000 in
theorem encode_no1 (f t : ByteArray) (p l : Int) (s : ByteArray) (w : World) (hf : f.size ≤ 140737488351232) (ht : t.size ≤ 140737488351232) (hs : s.size ≤ 140737488351232) (h1 : alikeB f t = false) :
    Calls Tryd.prog 10 #[.agg #[.string f, .string t, .int .i64 p, .int .i64 l, .string s]] w fun e w' => e = .returned (.tuple #[.slice none 0 0, .int .i64 1]) ∧ Below w.heap.size w w' := by
  have H1 := Lib.hid h1
  clear h1
  go_enter Tryd.func10, Tryd.ntmps10
  go_wp2_with fail
  go_quiet (first | (go_at_call 31; exact quiet_same (alike_at hf ht H1.out)))
  go_wp2_with fail
  go_ret2
  exact ⟨rfl, below_drewN ((Below.refl _ _).alloc (Nat.le_refl _) _) _⟩

set_option maxHeartbeats 400000 in
theorem encode_no2 (f t : ByteArray) (p l : Int) (s : ByteArray) (w : World) (hf : f.size ≤ 140737488351232) (ht : t.size ≤ 140737488351232) (hs : s.size ≤ 140737488351232) (h1 : alikeB f t = true) (h2 : byteB p = false) :
    Calls Tryd.prog 10 #[.agg #[.string f, .string t, .int .i64 p, .int .i64 l, .string s]] w fun e w' => e = .returned (.tuple #[.slice none 0 0, .int .i64 1]) ∧ Below w.heap.size w w' := by
  have H1 := Lib.hid h1
  have H2 := Lib.hid h2
  clear h1 h2
  go_enter Tryd.func10, Tryd.ntmps10
  go_wp2_with fail
  go_quiet (first | (go_at_call 31; exact quiet_same (alike_at hf ht H1.out)) | (go_at_call_of 32 (Value.int .i64 p); exact quiet_same (byte_at (n := p) H2.out)))
  go_wp2_with fail
  go_ret2
  exact ⟨rfl, below_drewN ((Below.refl _ _).alloc (Nat.le_refl _) _) _⟩

set_option maxHeartbeats 400000 in
theorem encode_no3 (f t : ByteArray) (p l : Int) (s : ByteArray) (w : World) (hf : f.size ≤ 140737488351232) (ht : t.size ≤ 140737488351232) (hs : s.size ≤ 140737488351232) (h1 : alikeB f t = true) (h2 : byteB p = true) (h3 : byteB l = false) :
    Calls Tryd.prog 10 #[.agg #[.string f, .string t, .int .i64 p, .int .i64 l, .string s]] w fun e w' => e = .returned (.tuple #[.slice none 0 0, .int .i64 1]) ∧ Below w.heap.size w w' := by
  have H1 := Lib.hid h1
  have H2 := Lib.hid h2
  have H3 := Lib.hid h3
  clear h1 h2 h3
  go_enter Tryd.func10, Tryd.ntmps10
  go_wp2_with fail
  go_quiet (first | (go_at_call 31; exact quiet_same (alike_at hf ht H1.out)) | (go_at_call_of 32 (Value.int .i64 p); exact quiet_same (byte_at (n := p) H2.out)) | (go_at_call_of 32 (Value.int .i64 l); exact quiet_same (byte_at (n := l) H3.out)))
  go_wp2_with fail
  go_ret2
  exact ⟨rfl, below_drewN ((Below.refl _ _).alloc (Nat.le_refl _) _) _⟩

set_option maxHeartbeats 400000 in
theorem encode_no4 (f t : ByteArray) (p l : Int) (s : ByteArray) (w : World) (hf : f.size ≤ 140737488351232) (ht : t.size ≤ 140737488351232) (hs : s.size ≤ 140737488351232) (k : Int) (h1 : alikeB f t = true) (h2 : byteB p = true) (h3 : byteB l = true) (h4 : headI f = k) (hk : k = 20 ∨ k = 40) (h5 : 1500 - k < (s.size : Int)) :
    Calls Tryd.prog 10 #[.agg #[.string f, .string t, .int .i64 p, .int .i64 l, .string s]] w fun e w' => e = .returned (.tuple #[.slice none 0 0, .int .i64 1]) ∧ Below w.heap.size w w' := by
  have H1 := Lib.hid h1
  have H2 := Lib.hid h2
  have H3 := Lib.hid h3
  have H4 := Lib.hid h4
  clear h1 h2 h3 h4
  go_enter Tryd.func10, Tryd.ntmps10
  go_wp2_with fail
  go_quiet (first | (go_at_call 31; exact quiet_same (alike_at hf ht H1.out)) | (go_at_call_of 32 (Value.int .i64 p); exact quiet_same (byte_at (n := p) H2.out)) | (go_at_call_of 32 (Value.int .i64 l); exact quiet_same (byte_at (n := l) H3.out)) | (go_at_call 33; exact quiet_same (headOf_at hf H4.out)))
  go_wp2_with fail
  go_ret2
  exact ⟨rfl, below_drewN ((Below.refl _ _).alloc (Nat.le_refl _) _) _⟩

set_option maxHeartbeats 400000 in
theorem encode_yes6 (f t : ByteArray) (p l : Int) (s : ByteArray) (w : World) (hf' : f.size = 16) (ht' : t.size = 16) (hp : 0 ≤ p ∧ p ≤ 255) (hl : 0 ≤ l ∧ l ≤ 255) (hs : s.size ≤ 1460) :
    Calls Tryd.prog 10 #[.agg #[.string f, .string t, .int .i64 p, .int .i64 l, .string s]] w fun e w' => ∃ g c, e = .returned (.tuple #[.slice (some ⟨g, 0, none⟩) (40 + s.size) c, .int .i64 0]) ∧ Hid (Own w' w.heap.size g (40 + s.size) c (wire6 f t p l s)) ∧ Hid (Below w.heap.size w w') := by
  have hf : f.size ≤ 140737488351232 := by omega
  have ht : t.size ≤ 140737488351232 := by omega
  have H1 := Lib.hid (show alikeB f t = true by simp [alikeB, rightB, hf', ht'])
  have H2 := Lib.hid (show byteB p = true by simp [byteB]; omega)
  have H3 := Lib.hid (show byteB l = true by simp [byteB]; omega)
  have H4 := Lib.hid (show headI f = 40 by simp [headI, hf'])
  have H5 := Lib.hid (show decide (f.size = 16) = true by simp [hf'])
  have d5 : decide ((1460 : Int) < (s.size : Int)) = false := by simp; omega
  have d6 : decide (1460 < s.size) = false := by simp; omega
  go_enter Tryd.func10, Tryd.ntmps10
  go_wp2_with fail
  go_quiet (first | (go_at_call 31; exact quiet_same (alike_at hf ht H1.out)) | (go_at_call_of 32 (Value.int .i64 p); exact quiet_same (byte_at (n := p) H2.out)) | (go_at_call_of 32 (Value.int .i64 l); exact quiet_same (byte_at (n := l) H3.out)) | (go_at_call 33; exact quiet_same (headOf_at hf H4.out)))
  go_wp2_with (go_at_call 9; refine (six_at hf H5.out).mono ?_; rintro e w' ⟨rfl, rfl⟩)
  refine (encodeSix_any f t p l s _ hf' ht' hp hl hs).mono ?_
  rintro e w2 ⟨g, c, rfl, ho, hb⟩
  go_wp2
  go_ret2
  refine ⟨_, _, rfl, Lib.hid (ho.out.mono (by simp)), Lib.hid ?_⟩
  exact below_then (below_drewN ((Below.refl _ _).alloc (Nat.le_refl _) _) _) (by simp) hb.out

set_option maxHeartbeats 400000 in
theorem encode_yes4 (f t : ByteArray) (p l : Int) (s : ByteArray) (w : World) (hf' : f.size = 4) (ht' : t.size = 4) (hp : 0 ≤ p ∧ p ≤ 255) (hl : 0 ≤ l ∧ l ≤ 255) (hs : s.size ≤ 1480) :
    Calls Tryd.prog 10 #[.agg #[.string f, .string t, .int .i64 p, .int .i64 l, .string s]] w fun e w' => ∃ g c, e = .returned (.tuple #[.slice (some ⟨g, 0, none⟩) (20 + s.size) c, .int .i64 0]) ∧ Hid (Own w' w.heap.size g (20 + s.size) c (wire4 f t p l s)) ∧ Hid (Below w.heap.size w w') := by
  have hf : f.size ≤ 140737488351232 := by omega
  have ht : t.size ≤ 140737488351232 := by omega
  have H1 := Lib.hid (show alikeB f t = true by simp [alikeB, rightB, hf', ht'])
  have H2 := Lib.hid (show byteB p = true by simp [byteB]; omega)
  have H3 := Lib.hid (show byteB l = true by simp [byteB]; omega)
  have H4 := Lib.hid (show headI f = 20 by simp [headI, hf'])
  have H5 := Lib.hid (show decide (f.size = 16) = false by simp [hf'])
  have d5 : decide ((1480 : Int) < (s.size : Int)) = false := by simp; omega
  have d6 : decide (1480 < s.size) = false := by simp; omega
  go_enter Tryd.func10, Tryd.ntmps10
  go_wp2_with fail
  go_quiet (first | (go_at_call 31; exact quiet_same (alike_at hf ht H1.out)) | (go_at_call_of 32 (Value.int .i64 p); exact quiet_same (byte_at (n := p) H2.out)) | (go_at_call_of 32 (Value.int .i64 l); exact quiet_same (byte_at (n := l) H3.out)) | (go_at_call 33; exact quiet_same (headOf_at hf H4.out)))
  go_wp2_with (go_at_call 9; refine (six_at hf H5.out).mono ?_; rintro e w' ⟨rfl, rfl⟩)
  refine (encodeFour_any f t p l s _ hf' ht' hp hl hs).mono ?_
  rintro e w2 ⟨g, c, rfl, ho, hb⟩
  go_wp2
  go_ret2
  refine ⟨_, _, rfl, Lib.hid (ho.out.mono (by simp)), Lib.hid ?_⟩
  exact below_then (below_drewN ((Below.refl _ _).alloc (Nat.le_refl _) _) _) (by simp) hb.out

/-- ipv.Encode, refused. -/
theorem encode_no (f t : ByteArray) (p l : Int) (s : ByteArray) (w : World) (hf : f.size ≤ 140737488351232) (ht : t.size ≤ 140737488351232) (hs : s.size ≤ 140737488351232) (h : ¬ Okp f t p l s) :
    Calls Tryd.prog 10 #[.agg #[.string f, .string t, .int .i64 p, .int .i64 l, .string s]] w fun e w' => e = .returned (.tuple #[.slice none 0 0, .int .i64 1]) ∧ Below w.heap.size w w' := by
  rcases h1 : alikeB f t with _ | _
  · exact encode_no1 f t p l s w hf ht hs h1
  rcases h2 : byteB p with _ | _
  · exact encode_no2 f t p l s w hf ht hs h1 h2
  rcases h3 : byteB l with _ | _
  · exact encode_no3 f t p l s w hf ht hs h1 h2 h3
  have h5 : 1500 - headI f < (s.size : Int) := by
    by_cases h5 : 1500 - headI f < (s.size : Int)
    · exact h5
    · exact absurd ⟨h1, h2, h3, by omega⟩ h
  exact encode_no4 f t p l s w hf ht hs (headI f) h1 h2 h3 rfl (by unfold headI; split <;> simp) h5
/-- ipv.Encode. -/
theorem encode_yes (f t : ByteArray) (p l : Int) (s : ByteArray) (w : World) (h : Okp f t p l s) (n : Nat) (hn : n = (if f.size = 16 then 40 else 20) + s.size) :
    Calls Tryd.prog 10 #[.agg #[.string f, .string t, .int .i64 p, .int .i64 l, .string s]] w fun e w' => ∃ g c, e = .returned (.tuple #[.slice (some ⟨g, 0, none⟩) n c, .int .i64 0]) ∧ Hid (Own w' w.heap.size g n c (wire f t p l s)) ∧ Hid (Below w.heap.size w w') := by
  obtain ⟨h1, h2, h3, h4⟩ := h
  simp [alikeB, rightB] at h1
  simp [byteB] at h2 h3
  unfold headI at h4
  unfold wire
  by_cases h6 : f.size = 16
  · rw [if_pos h6] at h4 hn ⊢
    subst hn
    exact encode_yes6 f t p l s w h6 (by omega) h2 h3 (by omega)
  · rw [if_neg h6] at h4 hn ⊢
    subst hn
    exact encode_yes4 f t p l s w (by omega) (by omega) h2 h3 (by omega)

end Go.Proofs.YtomcniakffipfaaDoor
