/-
  What the statements' own small functions do.
-/
import Derived.Test.YtdoefjhdipkkeaaDoorRead
import Derived.Test.YtdoefjhdipkkeaaDoorTell
import Derived.Test.YtdoefjhdipkkeaaDoorEDecAny
namespace Go.Proofs.YtdoefjhdipkkeaaDoor
open Go.RowKit
set_option linter.unusedVariables false
set_option maxRecDepth 10000


/-- ether.Decode of what ether.Encode wrote. -/
theorem decode_wire (g n c : Nat) (a0 a1 a2 a3 a4 a5 b0 b1 b2 b3 b4 b5 ty : Int) (s : ByteArray) (w : World) (hp : Part w ⟨some ⟨g, 0, none⟩, n, c, E.wire a0 a1 a2 a3 a4 a5 b0 b1 b2 b3 b4 b5 ty s⟩) (h1 : 1536 ≤ ty) (h2 : ty ≤ 65535) (h3 : s.size ≤ 1500) :
    Calls Tryd.prog 22 #[.slice (some ⟨g, 0, none⟩) n c] w fun e w' => e = .returned (.tuple #[.agg #[.int .u8 a0, .int .u8 a1, .int .u8 a2, .int .u8 a3, .int .u8 a4, .int .u8 a5, .int .u8 b0, .int .u8 b1, .int .u8 b2, .int .u8 b3, .int .u8 b4, .int .u8 b5, .int .i64 ty, .string s], .int .i64 0]) ∧ Below w.heap.size w w' := by
  have hl : 14 + s.size = n := by rw [← E.wire_len a0 a1 a2 a3 a4 a5 b0 b1 b2 b3 b4 b5 ty s]; exact hp.1
  have hb : Byt (E.wire a0 a1 a2 a3 a4 a5 b0 b1 b2 b3 b4 b5 ty s) := hp.2.2.1
  have q := fun x hx => hb x hx
  have e : ty / 256 * 256 + ty % 256 = ty := by omega
  have h := E.decode_any g 0 n c a0 a1 a2 a3 a4 a5 b0 b1 b2 b3 b4 b5 (ty / 256) (ty % 256) (bts s) w hp (by omega) (by omega) (hb _ (by simp [E.wire])) (hb _ (by simp [E.wire])) (hb _ (by simp [E.wire])) (hb _ (by simp [E.wire])) (hb _ (by simp [E.wire])) (hb _ (by simp [E.wire])) (hb _ (by simp [E.wire])) (hb _ (by simp [E.wire])) (hb _ (by simp [E.wire])) (hb _ (by simp [E.wire])) (hb _ (by simp [E.wire])) (hb _ (by simp [E.wire])) (hb _ (by simp [E.wire])) (hb _ (by simp [E.wire]))
  rw [e, strOfNums_bts] at h
  exact h

theorem Sent.len {bs : List Int} {w w' : World} {B g n c : Nat} (h : Own w' B g n c bs) : bs.length = n := h.1

set_option maxHeartbeats 4000000 in
/-- outriderlaw04.read. -/
theorem lread_wire (g n c : Nat) (a0 a1 a2 a3 a4 a5 b0 b1 b2 b3 b4 b5 ty : Int) (s : ByteArray) (k : Int) (m0 m1 m2 m3 m4 m5 : Int) (u v : ByteArray) (q : Bool) (r : Int) (w : World) (hG : Glob w) (hp : Part w ⟨some ⟨g, 0, none⟩, n, c, E.wire a0 a1 a2 a3 a4 a5 b0 b1 b2 b3 b4 b5 ty s⟩) (h1 : 1536 ≤ ty) (h2 : ty ≤ 65535) (h3 : s.size ≤ 1500) (hr : rd ty (bts s) = (⟨k, m0, m1, m2, m3, m4, m5, u, v, q⟩, r)) :
    Calls Tryd.prog 20 #[.slice (some ⟨g, 0, none⟩) n c] w fun e w' => e = .returned (.tuple #[.agg #[.int .i64 k, .int .u8 m0, .int .u8 m1, .int .u8 m2, .int .u8 m3, .int .u8 m4, .int .u8 m5, .string u, .string v, .bool q], .bool (r == 0)]) ∧ Below w.heap.size w w' := by
  have HD := Lib.hid (decode_wire g n c a0 a1 a2 a3 a4 a5 b0 b1 b2 b3 b4 b5 ty s _ (hp.alloc (.cells #[.int .i64 0, .int .u8 0, .int .u8 0, .int .u8 0, .int .u8 0, .int .u8 0, .int .u8 0, .string ⟨#[]⟩, .string ⟨#[]⟩, .bool false] 38)) h1 h2 h3)
  have HR := Lib.hid hr
  have HG := Lib.hid (hG.alloc (.cells #[.int .i64 0, .int .u8 0, .int .u8 0, .int .u8 0, .int .u8 0, .int .u8 0, .int .u8 0, .string ⟨#[]⟩, .string ⟨#[]⟩, .bool false] 38))
  clear hr hp hG
  go_enter Tryd.func20, Tryd.ntmps20
  go_wp2_with fail
  refine HD.out.mono ?_
  rintro e w1 ⟨rfl, hb1⟩
  have HG1 := Lib.hid (HG.out.below hb1 HG.out.size)
  have z1 : w.heap.size + 1 ≤ w1.heap.size := by have := hb1.size; simpa using this
  have HB1 := Lib.hid (below_then (Below.refl (w.alloc (.cells #[.int .i64 0, .int .u8 0, .int .u8 0, .int .u8 0, .int .u8 0, .int .u8 0, .int .u8 0, .string ⟨#[]⟩, .string ⟨#[]⟩, .bool false] 38)).heap.size _) (Nat.le_refl _) hb1)
  clear hb1
  go_wp2_with fail
  refine (read_any a0 a1 a2 a3 a4 a5 b0 b1 b2 b3 b4 b5 ty s _ (by omega) (HG1.out.alloc (.cells #[.int .u8 a0, .int .u8 a1, .int .u8 a2, .int .u8 a3, .int .u8 a4, .int .u8 a5, .int .u8 b0, .int .u8 b1, .int .u8 b2, .int .u8 b3, .int .u8 b4, .int .u8 b5, .int .i64 ty, .string s] 41))).mono ?_
  rintro e w2 ⟨rfl, hb2⟩
  rw [HR.out]
  simp only [Nt.val]
  have HB2 := Lib.hid (below_then (HB1.out.alloc (by simpa using z1) _) (by simp; omega) hb2)
  have z2 : w.heap.size + 1 ≤ w2.heap.size := by have := HB2.out.size; simpa using this
  have z3 : w.heap.size < w2.heap.size := z2
  obtain ⟨hc2, hf2⟩ : (∀ b o, b < w.heap.size + 1 → w2.cell? ⟨b, o, none⟩ = (w.alloc (.cells #[.int .i64 0, .int .u8 0, .int .u8 0, .int .u8 0, .int .u8 0, .int .u8 0, .int .u8 0, .string ⟨#[]⟩, .string ⟨#[]⟩, .bool false] 38)).cell? ⟨b, o, none⟩) ∧ (∀ b o, b < w.heap.size + 1 → w2.frozen? ⟨b, o, none⟩ = (w.alloc (.cells #[.int .i64 0, .int .u8 0, .int .u8 0, .int .u8 0, .int .u8 0, .int .u8 0, .int .u8 0, .string ⟨#[]⟩, .string ⟨#[]⟩, .bool false] 38)).frozen? ⟨b, o, none⟩) :=
    ⟨fun b o h => HB2.out.cell (p := ⟨b, o, none⟩) (by simpa using h), fun b o h => HB2.out.frozen (p := ⟨b, o, none⟩) (by simpa using h)⟩
  clear hb2
  go_wp2
  exact bodyPost_ret (v := .tuple #[.agg #[.int .i64 k, .int .u8 m0, .int .u8 m1, .int .u8 m2, .int .u8 m3, .int .u8 m4, .int .u8 m5, .string u, .string v, .bool q], .bool (r == 0)]) (by simp [results, Tryd.results20, go_sem, hc2, World.cell?_alloc_lt, z3]) rfl ⟨rfl, below_alloc (below10 (below_then ((Below.refl _ _).alloc (Nat.le_refl _) _) (by simp) HB2.out)) _⟩

attribute [local go_sem ↓] E.mac_eq
set_option maxHeartbeats 4000000 in
/-- outriderlaw04.alive. -/
theorem alive_any (w : World) (hG : Glob w) : Calls Tryd.prog 15 #[] w fun e w' => e = .returned (.bool true) ∧ Below w.heap.size w w' := by
  have HG := Lib.hid hG
  clear hG
  go_enter Tryd.func15, Tryd.ntmps15
  go_wp2_with fail
  refine (tell_four 2 0 0 0 0 0 ⟨#[10, 0, 0, 1]⟩ 4 0 0 0 0 0 ⟨#[10, 0, 0, 2]⟩ w (byt_of rfl) (byt_of rfl) rfl rfl).mono ?_
  rintro e w1 ⟨g1, n1, c1, rfl, ho1, hb1⟩
  have hn1 := ho1.out.1
  rw [E.wire_len, strOfNums_size, arpB_len] at hn1
  obtain rfl : 42 = n1 := hn1
  have HG1 := Lib.hid (HG.out.below hb1.out HG.out.size)
  have HP1 := Lib.hid (ho1.out.part (E.wire_byt 4 0 0 0 0 0 2 0 0 0 0 0 2054 _ (by omega) (by omega) (by omega) (by omega) (by omega) (by omega) (by omega) (by omega) (by omega) (by omega) (by omega) (by omega) (by omega) (by omega)))
  have HB1 := Lib.hid hb1.out
  clear hb1 ho1
  go_wp2_with fail
  refine (decode_wire g1 42 c1 4 0 0 0 0 0 2 0 0 0 0 0 2054 _ w1 HP1.out (by omega) (by omega) (by rw [strOfNums_size, arpB_len]; decide)).mono ?_
  rintro e w2 ⟨rfl, hb2⟩
  have HG2 := Lib.hid (HG1.out.below hb2 HG1.out.size)
  have HB2 := Lib.hid (below_then HB1.out HB1.out.size hb2)
  clear hb2
  go_wp2_with fail
  refine (read_any 4 0 0 0 0 0 2 0 0 0 0 0 2054 _ _ (by rw [strOfNums_size, arpB_len]; decide) (HG2.out.alloc _)).mono ?_
  rintro e w3 ⟨rfl, hb3⟩
  have HB3 := Lib.hid (below_then (below_alloc HB2.out _) (by have := HB2.out.size; simp; omega) hb3)
  clear hb3
  rw [show rd 2054 (bts (strOfNums (arpB 2 [2, 0, 0, 0, 0, 0] ⟨#[10, 0, 0, 1]⟩ [4, 0, 0, 0, 0, 0] ⟨#[10, 0, 0, 2]⟩))) = (⟨2, 2, 0, 0, 0, 0, 0, ⟨#[10, 0, 0, 1]⟩, ⟨#[10, 0, 0, 2]⟩, true⟩, 0) by kernel_rfl]
  simp only [Nt.val]
  go_wp2_with fail
  refine (near_any ⟨#[48, 49, 50, 51, 52, 53, 54, 55, 56, 57, 97, 98, 99, 100, 101, 102]⟩ _ (by decide)).mono ?_
  rintro e w4 ⟨rfl, rfl⟩
  rw [near_lit16]
  go_wp2
  go_ret
  exact ⟨rfl, below_alloc HB3.out _⟩

end Go.Proofs.YtdoefjhdipkkeaaDoor
