/-
  What outriderref05.Write does, of a head that is right.
-/
import Derived.Test.YtomcniakffipfaaRwrbase
namespace Go.Proofs.Ytomcniakffipfaa
open Go.RowKit
set_option linter.unusedVariables false
set_option maxRecDepth 10000

set_option maxHeartbeats 8000000 in
theorem rwr_udp_no (f t : ByteArray) (p0 l0 : Int) (s0 : ByteArray) (a b : Int) (s : ByteArray) (w : World) (hf : f.size ≤ 140737488351232) (ht : t.size ≤ 140737488351232) (ha : 0 ≤ a ∧ a ≤ 65535) (hb : 0 ≤ b ∧ b ≤ 65535) (hs : s.size ≤ 1500) (hok : ¬ Okp f t 17 l0 (strOfNums (udpW f t a b s))) : Calls Try.prog 9 #[.agg #[.string f, .string t, .int .i64 p0, .int .i64 l0, .string s0], .agg #[.int .i64 17, .int .i64 a, .int .i64 b, .int .i64 0, .int .i64 0], .string s] w fun e w' => e = .returned (.tuple #[.agg #[.string ⟨#[]⟩, .string ⟨#[]⟩, .int .i64 0, .int .i64 0, .string ⟨#[]⟩], .int .i64 1]) ∧ Below w.heap.size w w' := by
  obtain ⟨sa, hsa⟩ : ∃ S, strOfNums [a / 256, a % 256] = S := ⟨_, rfl⟩
  obtain ⟨sb, hsb⟩ : ∃ S, strOfNums [b / 256, b % 256] = S := ⟨_, rfl⟩
  obtain ⟨sn, hsn⟩ : ∃ S, strOfNums [(8 + (s.size : Int)) / 256, (8 + (s.size : Int)) % 256] = S := ⟨_, rfl⟩
  have za := str2_size hsa
  have zb := str2_size hsb
  have zn := str2_size hsn
  have zan : (sa ++ sb).size = 4 := by rw [ByteArray.size_append]; omega
  have zann : (sa ++ sb ++ sn).size = 6 := by rw [ByteArray.size_append]; omega
  obtain ⟨AH, hAH⟩ : ∃ S, sa ++ sb ++ sn = S := ⟨_, rfl⟩
  have zAH : AH.size = 6 := by rw [← hAH]; exact zann
  have bAH : bts AH = [a / 256, a % 256, b / 256, b % 256, (8 + (s.size : Int)) / 256, (8 + (s.size : Int)) % 256] := by
    rw [← hAH, bts_append, bts_append, bts2 ha hsa, bts2 hb hsb, bts2 (by omega) hsn]; rfl
  have hAHB : ∀ x : ByteArray, bts (AH ++ x ++ s) = [a / 256, a % 256, b / 256, b % 256, (8 + (s.size : Int)) / 256 % 256, (8 + (s.size : Int)) % 256] ++ (bts x ++ bts s) := fun x => by rw [bts_append, bts_append, bAH, List.append_assoc, show (8 + (s.size : Int)) / 256 % 256 = (8 + (s.size : Int)) / 256 by omega]
  have hB0 : bts (AH ++ ⟨#[0, 0]⟩ ++ s) = udpB a b 0 0 s := by rw [hAHB]; rfl
  obtain ⟨u, hu⟩ : ∃ u, bodyV f t 17 (udpB a b 0 0 s) = u := ⟨_, rfl⟩
  have hub := bodyV_bd f t 17 (udpB a b 0 0 s)
  rw [hu] at hub
  obtain ⟨v, hv⟩ : ∃ v, noZero u = v := ⟨_, rfl⟩
  have hvb0 := noZero_bd hub
  rw [hv] at hvb0
  have hvb : 0 ≤ v ∧ v ≤ 65535 := by omega
  have hvu : udpV f t a b s = v := by rw [udpV, hu, hv]
  have zB0 : (AH ++ ⟨#[0, 0]⟩ ++ s).size = 8 + s.size := by rw [ByteArray.size_append, ByteArray.size_append, zAH]; show 6 + 2 + s.size = _; omega
  have hsum : fd (tot (psx f t 17 ((AH ++ ⟨#[0, 0]⟩ ++ s).size : Int) ++ bts (AH ++ ⟨#[0, 0]⟩ ++ s))) = 65535 - u := by
    rw [← hu, hB0, zB0, ← udpB_len a b 0 0 s, bodyV]; omega
  obtain ⟨sv, hsv⟩ : ∃ S, strOfNums [v / 256, v % 256] = S := ⟨_, rfl⟩
  have zv := str2_size hsv
  obtain ⟨B0, hB0'⟩ : ∃ B, AH ++ ⟨#[0, 0]⟩ ++ s = B := ⟨_, rfl⟩
  rw [hB0'] at hsum zB0
  have zAv : (AH ++ sv).size = 8 := by rw [ByteArray.size_append, zAH, zv]
  have zA0 : (AH ++ ⟨#[0, 0]⟩).size = 8 := by rw [ByteArray.size_append, zAH]; rfl
  obtain ⟨BB, hBB⟩ : ∃ B, AH ++ sv ++ s = B := ⟨_, rfl⟩
  have eBB : BB = strOfNums (udpW f t a b s) := by
    apply bts_inj
    rw [← hBB, hAHB, bts2 hvb hsv, bts_strOfNums (by rw [udpW, hvu]; exact udpB_byt ha hb (by omega) (by omega)), udpW, hvu]
    rfl
  have zBB : BB.size = 8 + s.size := by rw [← hBB, ByteArray.size_append, zAv]
  have e0 : decide (a < 0) = false := decide_eq_false (by omega)
  have e1 : decide (65535 < a) = false := decide_eq_false (by omega)
  have e2 : decide (b < 0) = false := decide_eq_false (by omega)
  have e3 : decide (65535 < b) = false := decide_eq_false (by omega)
  have e7 : decide (1500 < (s.size : Int)) = false := decide_eq_false (by omega)
  have e8 : decide (1500 < s.size) = false := decide_eq_false (by omega)
  have HRW0 : Hid (RW w (((w.alloc (.cells #[.string f, .string t, .int .i64 17, .int .i64 l0, .string s0] 24)).alloc (.cells #[.int .i64 17, .int .i64 a, .int .i64 b, .int .i64 0, .int .i64 0] 26)).alloc (.cells #[.string ⟨#[]⟩, .string ⟨#[]⟩, .int .i64 0, .int .i64 0, .string ⟨#[]⟩] 24)).drew f t 17 l0 s0 a b 0) := Lib.hid ⟨(Boxed.new w f t 17 l0 s0).below (below_drew (((Below.refl (w.heap.size + 1) _).alloc (by simp) _).alloc (by simp) _)) (by simp), by simp [BoxH, go_sem], by simp [Boxed, go_sem], fun o => by simp [go_sem], fun o => by simp [go_sem], below_drew ((((Below.refl _ _).alloc (Nat.le_refl _) _).alloc (by simp) _).alloc (by simp; omega) _), by simp⟩
  have hw8 : IntKind.i64.wrap (8 + (s.size : Int)) = 8 + (s.size : Int) := by rw [IntKind.wrap_i64]; omega
  have HSA := Lib.hid hsa
  have HSB := Lib.hid hsb
  have HSN := Lib.hid hsn
  have HSV := Lib.hid hsv
  obtain ⟨g, hg⟩ : ∃ g, 65535 - u = g := ⟨_, rfl⟩
  rw [hg] at hsum
  have hgu : 65535 - g = u := by omega
  have hgb : 0 ≤ g ∧ g ≤ 65535 := by omega
  have HSUM := Lib.hid hsum
  have HEB := Lib.hid eBB
  rw [← eBB] at hok
  have HOK := Lib.hid hok
  have HVV := Lib.hid hv
  clear hg hsa hsb hsn hsv hsum eBB hok bAH hAHB hB0 hu hv hvu
  go_enter Try.func9, Try.ntmps9
  go_wp2_with fail
  refine wp_region_held_drew (S := fun W => W.cell? ⟨w.heap.size + 1, 0, none⟩ = some (.int .i64 17) ∧ W.cell? ⟨w.heap.size + 1, 1, none⟩ = some (.int .i64 a) ∧ W.cell? ⟨w.heap.size + 1, 2, none⟩ = some (.int .i64 b) ∧ W.cell? ⟨w.heap.size + 1, 3, none⟩ = some (.int .i64 0) ∧ W.cell? ⟨w.heap.size + 1, 4, none⟩ = some (.int .i64 0)) (by kernel_rfl) HRW0.out.2.1 (fun hHeld => ?_)
  refine wpAnyH_take (i := 0) (oi := ({ dst := some 73, op := Go.Op.fieldAddr 26 (Go.Operand.tmp 4) 1, type := 0, pos := _, after := #[], guard := none } : Oper)) (v := ?_) rfl (by kernel_rfl) (by kernel_rfl) (by kernel_rfl) (fun _ _ _ h => h) (Or.inl ⟨by rfl, ?_⟩) (by assumption) ?_
  rotate_left
  · intro W' hSw
    try dsimp only at hSw
    go_simp
    try with_reducible rfl
  try simp only [Act.put, List.setIfInBounds_toArray, List.set_cons_zero, List.set_cons_succ]
  refine wpAnyH_take (i := 1) (oi := ({ dst := some 74, op := Go.Op.load 3 (Go.Operand.tmp 73), type := 3, pos := _, after := #[{ on := 0, ground := Go.Ground.data }], guard := none } : Oper)) (v := ?_) rfl (by kernel_rfl) (by kernel_rfl) (by kernel_rfl) (fun _ _ _ h => h) (Or.inl ⟨by rfl, ?_⟩) (by assumption) ?_
  rotate_left
  · intro W' hSw
    try dsimp only at hSw
    go_simp
    try with_reducible rfl
  try simp only [Act.put, List.setIfInBounds_toArray, List.set_cons_zero, List.set_cons_succ]
  refine wpAnyH_take (i := 3) (oi := ({ dst := some 76, op := Go.Op.fieldAddr 26 (Go.Operand.tmp 4) 2, type := 0, pos := _, after := #[], guard := none } : Oper)) (v := ?_) rfl (by kernel_rfl) (by kernel_rfl) (by kernel_rfl) (fun _ _ _ h => h) (Or.inl ⟨by rfl, ?_⟩) (by assumption) ?_
  rotate_left
  · intro W' hSw
    try dsimp only at hSw
    go_simp
    try with_reducible rfl
  try simp only [Act.put, List.setIfInBounds_toArray, List.set_cons_zero, List.set_cons_succ]
  refine wpAnyH_take (i := 4) (oi := ({ dst := some 77, op := Go.Op.load 3 (Go.Operand.tmp 76), type := 3, pos := _, after := #[{ on := 3, ground := Go.Ground.data }], guard := none } : Oper)) (v := ?_) rfl (by kernel_rfl) (by kernel_rfl) (by kernel_rfl) (fun _ _ _ h => h) (Or.inl ⟨by rfl, ?_⟩) (by assumption) ?_
  rotate_left
  · intro W' hSw
    try dsimp only at hSw
    go_simp
    try with_reducible rfl
  try simp only [Act.put, List.setIfInBounds_toArray, List.set_cons_zero, List.set_cons_succ]
  refine wpAnyH_take (i := 7) (oi := ({ dst := some 80, op := Go.Op.move (Go.Operand.tmp 2), type := 9, pos := _, after := #[], guard := none } : Oper)) (v := ?_) rfl (by kernel_rfl) (by kernel_rfl) (by kernel_rfl) (fun _ _ _ h => h) (Or.inl ⟨by rfl, ?_⟩) (by assumption) ?_
  rotate_left
  · intro W' hSw
    try dsimp only at hSw
    go_simp
    try with_reducible rfl
  try simp only [Act.put, List.setIfInBounds_toArray, List.set_cons_zero, List.set_cons_succ]
  refine wpAnyH_take (i := 8) (oi := ({ dst := some 81, op := Go.Op.call { callee := Go.Callee.builtin Go.Builtin.len, args := #[Go.Operand.tmp 80], argTypes := #[9] }, type := 3, pos := _, after := #[{ on := 7, ground := Go.Ground.data }], guard := none } : Oper)) (v := ?_) rfl (by kernel_rfl) (by kernel_rfl) (by kernel_rfl) (fun _ _ _ h => h) (Or.inl ⟨by rfl, ?_⟩) (by assumption) ?_
  rotate_left
  · intro W' hSw
    try dsimp only at hSw
    go_simp
    try with_reducible rfl
  try simp only [Act.put, List.setIfInBounds_toArray, List.set_cons_zero, List.set_cons_succ]
  refine wpAnyH_take (i := 9) (oi := ({ dst := some 82, op := Go.Op.binOp Go.BinOp.add 3 (Go.Operand.const (Go.Value.int Go.IntKind.i64 8)) (Go.Operand.tmp 81) 3, type := 3, pos := _, after := #[{ on := 8, ground := Go.Ground.data }], guard := none } : Oper)) (v := ?_) rfl (by kernel_rfl) (by kernel_rfl) (by kernel_rfl) (fun _ _ _ h => h) (Or.inl ⟨by rfl, ?_⟩) (by assumption) ?_
  rotate_left
  · intro W' hSw
    try dsimp only at hSw
    go_simp
    try with_reducible rfl
  try simp only [Act.put, List.setIfInBounds_toArray, List.set_cons_zero, List.set_cons_succ]
  refine wpAnyH_ready (rs := [2]) (by kernel_rfl) (by simp) ?_
  refine AllReadyH.cons (o := ({ dst := some 75, op := Go.Op.call { callee := Go.Callee.value (Go.Operand.func 22), args := #[Go.Operand.tmp 74], argTypes := #[3] }, type := 9, pos := _, after := #[{ on := 1, ground := Go.Ground.data }], guard := none } : Oper)) rfl (fun K hK => ?_) AllReadyH.nil
  go_simp
  refine (rtwo_at ha HSA.out _).mono ?_
  rintro e w1 ⟨rfl, hb1⟩
  go_wp2_with fail
  refine hK.out _ _ ?_ (fun hHeld => ?_)
  · exact (HRW0.out.step hb1 HRW0.out.2.2.2.2.2.2).2.1
  clear hK K
  try simp only [Act.put, List.setIfInBounds_toArray, List.set_cons_zero, List.set_cons_succ]
  have HRW1 := Lib.hid (HRW0.out.step hb1 HRW0.out.2.2.2.2.2.2)
  clear hb1
  refine wpAnyH_ready (rs := [5]) (by kernel_rfl) (by simp) ?_
  refine AllReadyH.cons (o := ({ dst := some 78, op := Go.Op.call { callee := Go.Callee.value (Go.Operand.func 22), args := #[Go.Operand.tmp 77], argTypes := #[3] }, type := 9, pos := _, after := #[{ on := 4, ground := Go.Ground.data }, { on := 2, ground := Go.Ground.chain }], guard := none } : Oper)) rfl (fun K hK => ?_) AllReadyH.nil
  go_simp
  refine (rtwo_at hb HSB.out _).mono ?_
  rintro e w2 ⟨rfl, hb2⟩
  go_wp2_with fail
  refine hK.out _ _ ?_ (fun hHeld => ?_)
  · exact (HRW1.out.step hb2 HRW1.out.2.2.2.2.2.2).2.1
  clear hK K
  try simp only [Act.put, List.setIfInBounds_toArray, List.set_cons_zero, List.set_cons_succ]
  have HRW2 := Lib.hid (HRW1.out.step hb2 HRW1.out.2.2.2.2.2.2)
  clear hb2
  refine wpAnyH_take (i := 6) (oi := ({ dst := some 79, op := Go.Op.binOp Go.BinOp.add 9 (Go.Operand.tmp 75) (Go.Operand.tmp 78) 9, type := 9, pos := _, after := #[{ on := 2, ground := Go.Ground.data }, { on := 5, ground := Go.Ground.data }], guard := none } : Oper)) (v := ?_) rfl (by kernel_rfl) (by kernel_rfl) (by kernel_rfl) (fun _ _ _ h => h) (Or.inl ⟨by rfl, ?_⟩) (by assumption) ?_
  rotate_left
  · intro W' hSw
    try dsimp only at hSw
    go_simp
    try with_reducible rfl
  try simp only [Act.put, List.setIfInBounds_toArray, List.set_cons_zero, List.set_cons_succ]
  refine wpAnyH_ready (rs := [10]) (by kernel_rfl) (by simp) ?_
  refine AllReadyH.cons (o := ({ dst := some 83, op := Go.Op.call { callee := Go.Callee.value (Go.Operand.func 22), args := #[Go.Operand.tmp 82], argTypes := #[3] }, type := 9, pos := _, after := #[{ on := 9, ground := Go.Ground.data }, { on := 5, ground := Go.Ground.chain }], guard := none } : Oper)) rfl (fun K hK => ?_) AllReadyH.nil
  go_simp
  refine (rtwo_at (x := 8 + (s.size : Int)) (by omega) HSN.out _).mono ?_
  rintro e w3 ⟨rfl, hb3⟩
  go_wp2_with fail
  refine hK.out _ _ ?_ (fun hHeld => ?_)
  · exact (HRW2.out.step hb3 HRW2.out.2.2.2.2.2.2).2.1
  clear hK K
  try simp only [Act.put, List.setIfInBounds_toArray, List.set_cons_zero, List.set_cons_succ]
  have HRW3 := Lib.hid (HRW2.out.step hb3 HRW2.out.2.2.2.2.2.2)
  clear hb3
  refine wpAnyH_take (i := 11) (oi := ({ dst := some 84, op := Go.Op.binOp Go.BinOp.add 9 (Go.Operand.tmp 79) (Go.Operand.tmp 83) 9, type := 9, pos := _, after := #[{ on := 6, ground := Go.Ground.data }, { on := 10, ground := Go.Ground.data }], guard := none } : Oper)) (v := ?_) rfl (by kernel_rfl) (by kernel_rfl) (by kernel_rfl) (fun _ _ _ h => h) (Or.inl ⟨by rfl, ?_⟩) (by assumption) ?_
  rotate_left
  · intro W' hSw
    try dsimp only at hSw
    go_simp
    try with_reducible rfl
  try simp only [Act.put, List.setIfInBounds_toArray, List.set_cons_zero, List.set_cons_succ]
  refine wpAnyH_take (i := 12) (oi := ({ dst := some 8, op := Go.Op.assign (Go.Operand.tmp 84), type := 9, pos := _, after := #[{ on := 11, ground := Go.Ground.data }, { on := 10, ground := Go.Ground.chain }, { on := 0, ground := Go.Ground.phase }, { on := 1, ground := Go.Ground.phase }, { on := 2, ground := Go.Ground.phase }, { on := 3, ground := Go.Ground.phase }, { on := 4, ground := Go.Ground.phase }, { on := 5, ground := Go.Ground.phase }, { on := 6, ground := Go.Ground.phase }, { on := 7, ground := Go.Ground.phase }, { on := 8, ground := Go.Ground.phase }, { on := 9, ground := Go.Ground.phase }, { on := 10, ground := Go.Ground.phase }, { on := 11, ground := Go.Ground.phase }], guard := none } : Oper)) (v := ?_) rfl (by kernel_rfl) (by kernel_rfl) (by kernel_rfl) (fun _ _ _ h => h) (Or.inl ⟨by rfl, ?_⟩) (by assumption) ?_
  rotate_left
  · intro W' hSw
    try dsimp only at hSw
    go_simp
    try with_reducible rfl
  try simp only [Act.put, List.setIfInBounds_toArray, List.set_cons_zero, List.set_cons_succ]
  refine wpAnyH_done (by kernel_rfl) ?_ _
  obtain ⟨x0, x1, x2, x3, x4⟩ := HRW3.out.1
  obtain ⟨y0, y1, y2, y3, y4⟩ := HRW3.out.2.1
  have n1 : w.heap.size < w3.heap.size := World.block_lt_of_cell? _ _ x0
  have n2 : w.heap.size + 1 < w3.heap.size := World.block_lt_of_cell? _ _ y0
  go_wp2_with fail
  refine (rsum_pk f t 17 l0 s0 B0 g _ hf ht (by omega) (by omega) HSUM.out).mono ?_
  rintro e w6 ⟨rfl, hb6⟩
  have HRW6 := Lib.hid (HRW3.out.step hb6 HRW3.out.2.2.2.2.2.2)
  clear hb6 x0 x1 x2 x3 x4 y0 y1 y2 y3 y4 n1 n2
  obtain ⟨y0, y1, y2, y3, y4⟩ := HRW6.out.2.1
  have n2 : w.heap.size + 1 < w6.heap.size := World.block_lt_of_cell? _ _ y0
  by_cases h0 : u = 0
  · have hv65 : v = 65535 := by rw [← HVV.out, noZero, if_pos h0]
    subst hv65 h0
    go_wp2_with fail
    refine (rtwo_at (x := 65535) hvb HSV.out _).mono ?_
    rintro e w7 ⟨rfl, hb7⟩
    have HRW7 := Lib.hid (HRW6.out.step hb7 HRW6.out.2.2.2.2.2.2)
    clear hb7 y0 y1 y2 y3 y4 n2
    obtain ⟨x0, x1, x2, x3, x4⟩ := HRW7.out.1
    have xf : ∀ o, w7.frozen? ⟨w.heap.size, o, none⟩ = false := HRW7.out.2.2.2.1
    have n1 : w.heap.size < w7.heap.size := World.block_lt_of_cell? _ _ x0
    go_wp2_with fail
    refine (renc_no f t 17 l0 BB _ hf ht (by omega) HOK.out).mono ?_
    rintro e w8 ⟨rfl, hb8⟩
    have hb9 : Below w7.heap.size (w7.setCell ⟨w.heap.size, 4, none⟩ (.string BB)) w8 := by simpa using hb8
    have n7 : w.heap.size + 1 + 1 + 1 ≤ w7.heap.size := HRW7.out.2.2.2.2.2.2
    have hst : Below w.heap.size w7 (w7.setCell ⟨w.heap.size, 4, none⟩ (.string BB)) := (Below.refl w.heap.size w7).setCell (p := ⟨w.heap.size, 4, none⟩) (Nat.le_refl _) _
    have HT8 := Lib.hid ((HRW7.out.1.body BB).below hb9 (by omega))
    have HZ8 := Lib.hid (show Boxed w8 (w.heap.size + 1 + 1) ⟨#[]⟩ ⟨#[]⟩ 0 0 ⟨#[]⟩ from Boxed.below (W := w7.setCell ⟨w.heap.size, 4, none⟩ (.string BB)) (by
      obtain ⟨r0, r1, r2, r3, r4⟩ := HRW7.out.2.2.1
      refine ⟨?_, ?_, ?_, ?_, ?_⟩ <;> simp [go_sem, *]) hb9 (by omega))
    have HF8 := Lib.hid ((HRW7.out.2.2.2.2.1.set ⟨w.heap.size, 4, none⟩ (.string BB)).below hb9 (by omega))
    have HB8 := Lib.hid ((HRW7.out.2.2.2.2.2.1.trans hst).trans (hb9.mono (by omega)))
    clear hb8 hb9 hst x0 x1 x2 x3 x4 xf n1
    obtain ⟨u0, u1, u2, u3, u4⟩ := HT8.out
    obtain ⟨z0', z1', z2', z3', z4'⟩ := HZ8.out
    have zf : ∀ o, w8.frozen? ⟨w.heap.size + 1 + 1, o, none⟩ = false := HF8.out
    have q1 : w.heap.size + 1 + 1 < w8.heap.size := World.block_lt_of_cell? _ _ z0'
    have q2 : w.heap.size < w8.heap.size := World.block_lt_of_cell? _ _ u0
    go_wp2
    exact bodyPost_ret (v := .tuple #[.agg #[.string ⟨#[]⟩, .string ⟨#[]⟩, .int .i64 0, .int .i64 0, .string ⟨#[]⟩], .int .i64 1]) (by simp [results, Try.results9, go_sem, *]) rfl ⟨rfl, below5 HB8.out (by omega)⟩
  · have h1 : (u == 0) = false := by simpa using h0
    have hvu : v = u := by rw [← HVV.out, noZero, if_neg h0]
    subst hvu
    go_wp2_with fail
    refine (rtwo_at hvb HSV.out _).mono ?_
    rintro e w7 ⟨rfl, hb7⟩
    have HRW7 := Lib.hid (HRW6.out.step hb7 HRW6.out.2.2.2.2.2.2)
    clear hb7 y0 y1 y2 y3 y4 n2
    obtain ⟨x0, x1, x2, x3, x4⟩ := HRW7.out.1
    have xf : ∀ o, w7.frozen? ⟨w.heap.size, o, none⟩ = false := HRW7.out.2.2.2.1
    have n1 : w.heap.size < w7.heap.size := World.block_lt_of_cell? _ _ x0
    go_wp2_with fail
    refine (renc_no f t 17 l0 BB _ hf ht (by omega) HOK.out).mono ?_
    rintro e w8 ⟨rfl, hb8⟩
    have hb9 : Below w7.heap.size (w7.setCell ⟨w.heap.size, 4, none⟩ (.string BB)) w8 := by simpa using hb8
    have n7 : w.heap.size + 1 + 1 + 1 ≤ w7.heap.size := HRW7.out.2.2.2.2.2.2
    have hst : Below w.heap.size w7 (w7.setCell ⟨w.heap.size, 4, none⟩ (.string BB)) := (Below.refl w.heap.size w7).setCell (p := ⟨w.heap.size, 4, none⟩) (Nat.le_refl _) _
    have HT8 := Lib.hid ((HRW7.out.1.body BB).below hb9 (by omega))
    have HZ8 := Lib.hid (show Boxed w8 (w.heap.size + 1 + 1) ⟨#[]⟩ ⟨#[]⟩ 0 0 ⟨#[]⟩ from Boxed.below (W := w7.setCell ⟨w.heap.size, 4, none⟩ (.string BB)) (by
      obtain ⟨r0, r1, r2, r3, r4⟩ := HRW7.out.2.2.1
      refine ⟨?_, ?_, ?_, ?_, ?_⟩ <;> simp [go_sem, *]) hb9 (by omega))
    have HF8 := Lib.hid ((HRW7.out.2.2.2.2.1.set ⟨w.heap.size, 4, none⟩ (.string BB)).below hb9 (by omega))
    have HB8 := Lib.hid ((HRW7.out.2.2.2.2.2.1.trans hst).trans (hb9.mono (by omega)))
    clear hb8 hb9 hst x0 x1 x2 x3 x4 xf n1
    obtain ⟨u0, u1, u2, u3, u4⟩ := HT8.out
    obtain ⟨z0', z1', z2', z3', z4'⟩ := HZ8.out
    have zf : ∀ o, w8.frozen? ⟨w.heap.size + 1 + 1, o, none⟩ = false := HF8.out
    have q1 : w.heap.size + 1 + 1 < w8.heap.size := World.block_lt_of_cell? _ _ z0'
    have q2 : w.heap.size < w8.heap.size := World.block_lt_of_cell? _ _ u0
    go_wp2
    exact bodyPost_ret (v := .tuple #[.agg #[.string ⟨#[]⟩, .string ⟨#[]⟩, .int .i64 0, .int .i64 0, .string ⟨#[]⟩], .int .i64 1]) (by simp [results, Try.results9, go_sem, *]) rfl ⟨rfl, below5 HB8.out (by omega)⟩

set_option maxHeartbeats 8000000 in
theorem rwr_udp_yes (f t : ByteArray) (p0 l0 : Int) (s0 : ByteArray) (a b : Int) (s : ByteArray) (w : World) (hf : f.size ≤ 140737488351232) (ht : t.size ≤ 140737488351232) (ha : 0 ≤ a ∧ a ≤ 65535) (hb : 0 ≤ b ∧ b ≤ 65535) (hs : s.size ≤ 1500) (hok : Okp f t 17 l0 (strOfNums (udpW f t a b s))) : Calls Try.prog 9 #[.agg #[.string f, .string t, .int .i64 p0, .int .i64 l0, .string s0], .agg #[.int .i64 17, .int .i64 a, .int .i64 b, .int .i64 0, .int .i64 0], .string s] w fun e w' => e = .returned (.tuple #[.agg #[.string f, .string t, .int .i64 17, .int .i64 l0, .string (strOfNums (udpW f t a b s))], .int .i64 0]) ∧ Below w.heap.size w w' := by
  obtain ⟨sa, hsa⟩ : ∃ S, strOfNums [a / 256, a % 256] = S := ⟨_, rfl⟩
  obtain ⟨sb, hsb⟩ : ∃ S, strOfNums [b / 256, b % 256] = S := ⟨_, rfl⟩
  obtain ⟨sn, hsn⟩ : ∃ S, strOfNums [(8 + (s.size : Int)) / 256, (8 + (s.size : Int)) % 256] = S := ⟨_, rfl⟩
  have za := str2_size hsa
  have zb := str2_size hsb
  have zn := str2_size hsn
  have zan : (sa ++ sb).size = 4 := by rw [ByteArray.size_append]; omega
  have zann : (sa ++ sb ++ sn).size = 6 := by rw [ByteArray.size_append]; omega
  obtain ⟨AH, hAH⟩ : ∃ S, sa ++ sb ++ sn = S := ⟨_, rfl⟩
  have zAH : AH.size = 6 := by rw [← hAH]; exact zann
  have bAH : bts AH = [a / 256, a % 256, b / 256, b % 256, (8 + (s.size : Int)) / 256, (8 + (s.size : Int)) % 256] := by
    rw [← hAH, bts_append, bts_append, bts2 ha hsa, bts2 hb hsb, bts2 (by omega) hsn]; rfl
  have hAHB : ∀ x : ByteArray, bts (AH ++ x ++ s) = [a / 256, a % 256, b / 256, b % 256, (8 + (s.size : Int)) / 256 % 256, (8 + (s.size : Int)) % 256] ++ (bts x ++ bts s) := fun x => by rw [bts_append, bts_append, bAH, List.append_assoc, show (8 + (s.size : Int)) / 256 % 256 = (8 + (s.size : Int)) / 256 by omega]
  have hB0 : bts (AH ++ ⟨#[0, 0]⟩ ++ s) = udpB a b 0 0 s := by rw [hAHB]; rfl
  obtain ⟨u, hu⟩ : ∃ u, bodyV f t 17 (udpB a b 0 0 s) = u := ⟨_, rfl⟩
  have hub := bodyV_bd f t 17 (udpB a b 0 0 s)
  rw [hu] at hub
  obtain ⟨v, hv⟩ : ∃ v, noZero u = v := ⟨_, rfl⟩
  have hvb0 := noZero_bd hub
  rw [hv] at hvb0
  have hvb : 0 ≤ v ∧ v ≤ 65535 := by omega
  have hvu : udpV f t a b s = v := by rw [udpV, hu, hv]
  have zB0 : (AH ++ ⟨#[0, 0]⟩ ++ s).size = 8 + s.size := by rw [ByteArray.size_append, ByteArray.size_append, zAH]; show 6 + 2 + s.size = _; omega
  have hsum : fd (tot (psx f t 17 ((AH ++ ⟨#[0, 0]⟩ ++ s).size : Int) ++ bts (AH ++ ⟨#[0, 0]⟩ ++ s))) = 65535 - u := by
    rw [← hu, hB0, zB0, ← udpB_len a b 0 0 s, bodyV]; omega
  obtain ⟨sv, hsv⟩ : ∃ S, strOfNums [v / 256, v % 256] = S := ⟨_, rfl⟩
  have zv := str2_size hsv
  obtain ⟨B0, hB0'⟩ : ∃ B, AH ++ ⟨#[0, 0]⟩ ++ s = B := ⟨_, rfl⟩
  rw [hB0'] at hsum zB0
  have zAv : (AH ++ sv).size = 8 := by rw [ByteArray.size_append, zAH, zv]
  have zA0 : (AH ++ ⟨#[0, 0]⟩).size = 8 := by rw [ByteArray.size_append, zAH]; rfl
  obtain ⟨BB, hBB⟩ : ∃ B, AH ++ sv ++ s = B := ⟨_, rfl⟩
  have eBB : BB = strOfNums (udpW f t a b s) := by
    apply bts_inj
    rw [← hBB, hAHB, bts2 hvb hsv, bts_strOfNums (by rw [udpW, hvu]; exact udpB_byt ha hb (by omega) (by omega)), udpW, hvu]
    rfl
  have zBB : BB.size = 8 + s.size := by rw [← hBB, ByteArray.size_append, zAv]
  have e0 : decide (a < 0) = false := decide_eq_false (by omega)
  have e1 : decide (65535 < a) = false := decide_eq_false (by omega)
  have e2 : decide (b < 0) = false := decide_eq_false (by omega)
  have e3 : decide (65535 < b) = false := decide_eq_false (by omega)
  have e7 : decide (1500 < (s.size : Int)) = false := decide_eq_false (by omega)
  have e8 : decide (1500 < s.size) = false := decide_eq_false (by omega)
  have HRW0 : Hid (RW w (((w.alloc (.cells #[.string f, .string t, .int .i64 17, .int .i64 l0, .string s0] 24)).alloc (.cells #[.int .i64 17, .int .i64 a, .int .i64 b, .int .i64 0, .int .i64 0] 26)).alloc (.cells #[.string ⟨#[]⟩, .string ⟨#[]⟩, .int .i64 0, .int .i64 0, .string ⟨#[]⟩] 24)).drew f t 17 l0 s0 a b 0) := Lib.hid ⟨(Boxed.new w f t 17 l0 s0).below (below_drew (((Below.refl (w.heap.size + 1) _).alloc (by simp) _).alloc (by simp) _)) (by simp), by simp [BoxH, go_sem], by simp [Boxed, go_sem], fun o => by simp [go_sem], fun o => by simp [go_sem], below_drew ((((Below.refl _ _).alloc (Nat.le_refl _) _).alloc (by simp) _).alloc (by simp; omega) _), by simp⟩
  have hw8 : IntKind.i64.wrap (8 + (s.size : Int)) = 8 + (s.size : Int) := by rw [IntKind.wrap_i64]; omega
  have HSA := Lib.hid hsa
  have HSB := Lib.hid hsb
  have HSN := Lib.hid hsn
  have HSV := Lib.hid hsv
  obtain ⟨g, hg⟩ : ∃ g, 65535 - u = g := ⟨_, rfl⟩
  rw [hg] at hsum
  have hgu : 65535 - g = u := by omega
  have hgb : 0 ≤ g ∧ g ≤ 65535 := by omega
  have HSUM := Lib.hid hsum
  have HEB := Lib.hid eBB
  rw [← eBB] at hok
  have HOK := Lib.hid hok
  have HVV := Lib.hid hv
  clear hg hsa hsb hsn hsv hsum eBB hok bAH hAHB hB0 hu hv hvu
  go_enter Try.func9, Try.ntmps9
  go_wp2_with fail
  refine wp_region_held_drew (S := fun W => W.cell? ⟨w.heap.size + 1, 0, none⟩ = some (.int .i64 17) ∧ W.cell? ⟨w.heap.size + 1, 1, none⟩ = some (.int .i64 a) ∧ W.cell? ⟨w.heap.size + 1, 2, none⟩ = some (.int .i64 b) ∧ W.cell? ⟨w.heap.size + 1, 3, none⟩ = some (.int .i64 0) ∧ W.cell? ⟨w.heap.size + 1, 4, none⟩ = some (.int .i64 0)) (by kernel_rfl) HRW0.out.2.1 (fun hHeld => ?_)
  refine wpAnyH_take (i := 0) (oi := ({ dst := some 73, op := Go.Op.fieldAddr 26 (Go.Operand.tmp 4) 1, type := 0, pos := _, after := #[], guard := none } : Oper)) (v := ?_) rfl (by kernel_rfl) (by kernel_rfl) (by kernel_rfl) (fun _ _ _ h => h) (Or.inl ⟨by rfl, ?_⟩) (by assumption) ?_
  rotate_left
  · intro W' hSw
    try dsimp only at hSw
    go_simp
    try with_reducible rfl
  try simp only [Act.put, List.setIfInBounds_toArray, List.set_cons_zero, List.set_cons_succ]
  refine wpAnyH_take (i := 1) (oi := ({ dst := some 74, op := Go.Op.load 3 (Go.Operand.tmp 73), type := 3, pos := _, after := #[{ on := 0, ground := Go.Ground.data }], guard := none } : Oper)) (v := ?_) rfl (by kernel_rfl) (by kernel_rfl) (by kernel_rfl) (fun _ _ _ h => h) (Or.inl ⟨by rfl, ?_⟩) (by assumption) ?_
  rotate_left
  · intro W' hSw
    try dsimp only at hSw
    go_simp
    try with_reducible rfl
  try simp only [Act.put, List.setIfInBounds_toArray, List.set_cons_zero, List.set_cons_succ]
  refine wpAnyH_take (i := 3) (oi := ({ dst := some 76, op := Go.Op.fieldAddr 26 (Go.Operand.tmp 4) 2, type := 0, pos := _, after := #[], guard := none } : Oper)) (v := ?_) rfl (by kernel_rfl) (by kernel_rfl) (by kernel_rfl) (fun _ _ _ h => h) (Or.inl ⟨by rfl, ?_⟩) (by assumption) ?_
  rotate_left
  · intro W' hSw
    try dsimp only at hSw
    go_simp
    try with_reducible rfl
  try simp only [Act.put, List.setIfInBounds_toArray, List.set_cons_zero, List.set_cons_succ]
  refine wpAnyH_take (i := 4) (oi := ({ dst := some 77, op := Go.Op.load 3 (Go.Operand.tmp 76), type := 3, pos := _, after := #[{ on := 3, ground := Go.Ground.data }], guard := none } : Oper)) (v := ?_) rfl (by kernel_rfl) (by kernel_rfl) (by kernel_rfl) (fun _ _ _ h => h) (Or.inl ⟨by rfl, ?_⟩) (by assumption) ?_
  rotate_left
  · intro W' hSw
    try dsimp only at hSw
    go_simp
    try with_reducible rfl
  try simp only [Act.put, List.setIfInBounds_toArray, List.set_cons_zero, List.set_cons_succ]
  refine wpAnyH_take (i := 7) (oi := ({ dst := some 80, op := Go.Op.move (Go.Operand.tmp 2), type := 9, pos := _, after := #[], guard := none } : Oper)) (v := ?_) rfl (by kernel_rfl) (by kernel_rfl) (by kernel_rfl) (fun _ _ _ h => h) (Or.inl ⟨by rfl, ?_⟩) (by assumption) ?_
  rotate_left
  · intro W' hSw
    try dsimp only at hSw
    go_simp
    try with_reducible rfl
  try simp only [Act.put, List.setIfInBounds_toArray, List.set_cons_zero, List.set_cons_succ]
  refine wpAnyH_take (i := 8) (oi := ({ dst := some 81, op := Go.Op.call { callee := Go.Callee.builtin Go.Builtin.len, args := #[Go.Operand.tmp 80], argTypes := #[9] }, type := 3, pos := _, after := #[{ on := 7, ground := Go.Ground.data }], guard := none } : Oper)) (v := ?_) rfl (by kernel_rfl) (by kernel_rfl) (by kernel_rfl) (fun _ _ _ h => h) (Or.inl ⟨by rfl, ?_⟩) (by assumption) ?_
  rotate_left
  · intro W' hSw
    try dsimp only at hSw
    go_simp
    try with_reducible rfl
  try simp only [Act.put, List.setIfInBounds_toArray, List.set_cons_zero, List.set_cons_succ]
  refine wpAnyH_take (i := 9) (oi := ({ dst := some 82, op := Go.Op.binOp Go.BinOp.add 3 (Go.Operand.const (Go.Value.int Go.IntKind.i64 8)) (Go.Operand.tmp 81) 3, type := 3, pos := _, after := #[{ on := 8, ground := Go.Ground.data }], guard := none } : Oper)) (v := ?_) rfl (by kernel_rfl) (by kernel_rfl) (by kernel_rfl) (fun _ _ _ h => h) (Or.inl ⟨by rfl, ?_⟩) (by assumption) ?_
  rotate_left
  · intro W' hSw
    try dsimp only at hSw
    go_simp
    try with_reducible rfl
  try simp only [Act.put, List.setIfInBounds_toArray, List.set_cons_zero, List.set_cons_succ]
  refine wpAnyH_ready (rs := [2]) (by kernel_rfl) (by simp) ?_
  refine AllReadyH.cons (o := ({ dst := some 75, op := Go.Op.call { callee := Go.Callee.value (Go.Operand.func 22), args := #[Go.Operand.tmp 74], argTypes := #[3] }, type := 9, pos := _, after := #[{ on := 1, ground := Go.Ground.data }], guard := none } : Oper)) rfl (fun K hK => ?_) AllReadyH.nil
  go_simp
  refine (rtwo_at ha HSA.out _).mono ?_
  rintro e w1 ⟨rfl, hb1⟩
  go_wp2_with fail
  refine hK.out _ _ ?_ (fun hHeld => ?_)
  · exact (HRW0.out.step hb1 HRW0.out.2.2.2.2.2.2).2.1
  clear hK K
  try simp only [Act.put, List.setIfInBounds_toArray, List.set_cons_zero, List.set_cons_succ]
  have HRW1 := Lib.hid (HRW0.out.step hb1 HRW0.out.2.2.2.2.2.2)
  clear hb1
  refine wpAnyH_ready (rs := [5]) (by kernel_rfl) (by simp) ?_
  refine AllReadyH.cons (o := ({ dst := some 78, op := Go.Op.call { callee := Go.Callee.value (Go.Operand.func 22), args := #[Go.Operand.tmp 77], argTypes := #[3] }, type := 9, pos := _, after := #[{ on := 4, ground := Go.Ground.data }, { on := 2, ground := Go.Ground.chain }], guard := none } : Oper)) rfl (fun K hK => ?_) AllReadyH.nil
  go_simp
  refine (rtwo_at hb HSB.out _).mono ?_
  rintro e w2 ⟨rfl, hb2⟩
  go_wp2_with fail
  refine hK.out _ _ ?_ (fun hHeld => ?_)
  · exact (HRW1.out.step hb2 HRW1.out.2.2.2.2.2.2).2.1
  clear hK K
  try simp only [Act.put, List.setIfInBounds_toArray, List.set_cons_zero, List.set_cons_succ]
  have HRW2 := Lib.hid (HRW1.out.step hb2 HRW1.out.2.2.2.2.2.2)
  clear hb2
  refine wpAnyH_take (i := 6) (oi := ({ dst := some 79, op := Go.Op.binOp Go.BinOp.add 9 (Go.Operand.tmp 75) (Go.Operand.tmp 78) 9, type := 9, pos := _, after := #[{ on := 2, ground := Go.Ground.data }, { on := 5, ground := Go.Ground.data }], guard := none } : Oper)) (v := ?_) rfl (by kernel_rfl) (by kernel_rfl) (by kernel_rfl) (fun _ _ _ h => h) (Or.inl ⟨by rfl, ?_⟩) (by assumption) ?_
  rotate_left
  · intro W' hSw
    try dsimp only at hSw
    go_simp
    try with_reducible rfl
  try simp only [Act.put, List.setIfInBounds_toArray, List.set_cons_zero, List.set_cons_succ]
  refine wpAnyH_ready (rs := [10]) (by kernel_rfl) (by simp) ?_
  refine AllReadyH.cons (o := ({ dst := some 83, op := Go.Op.call { callee := Go.Callee.value (Go.Operand.func 22), args := #[Go.Operand.tmp 82], argTypes := #[3] }, type := 9, pos := _, after := #[{ on := 9, ground := Go.Ground.data }, { on := 5, ground := Go.Ground.chain }], guard := none } : Oper)) rfl (fun K hK => ?_) AllReadyH.nil
  go_simp
  refine (rtwo_at (x := 8 + (s.size : Int)) (by omega) HSN.out _).mono ?_
  rintro e w3 ⟨rfl, hb3⟩
  go_wp2_with fail
  refine hK.out _ _ ?_ (fun hHeld => ?_)
  · exact (HRW2.out.step hb3 HRW2.out.2.2.2.2.2.2).2.1
  clear hK K
  try simp only [Act.put, List.setIfInBounds_toArray, List.set_cons_zero, List.set_cons_succ]
  have HRW3 := Lib.hid (HRW2.out.step hb3 HRW2.out.2.2.2.2.2.2)
  clear hb3
  refine wpAnyH_take (i := 11) (oi := ({ dst := some 84, op := Go.Op.binOp Go.BinOp.add 9 (Go.Operand.tmp 79) (Go.Operand.tmp 83) 9, type := 9, pos := _, after := #[{ on := 6, ground := Go.Ground.data }, { on := 10, ground := Go.Ground.data }], guard := none } : Oper)) (v := ?_) rfl (by kernel_rfl) (by kernel_rfl) (by kernel_rfl) (fun _ _ _ h => h) (Or.inl ⟨by rfl, ?_⟩) (by assumption) ?_
  rotate_left
  · intro W' hSw
    try dsimp only at hSw
    go_simp
    try with_reducible rfl
  try simp only [Act.put, List.setIfInBounds_toArray, List.set_cons_zero, List.set_cons_succ]
  refine wpAnyH_take (i := 12) (oi := ({ dst := some 8, op := Go.Op.assign (Go.Operand.tmp 84), type := 9, pos := _, after := #[{ on := 11, ground := Go.Ground.data }, { on := 10, ground := Go.Ground.chain }, { on := 0, ground := Go.Ground.phase }, { on := 1, ground := Go.Ground.phase }, { on := 2, ground := Go.Ground.phase }, { on := 3, ground := Go.Ground.phase }, { on := 4, ground := Go.Ground.phase }, { on := 5, ground := Go.Ground.phase }, { on := 6, ground := Go.Ground.phase }, { on := 7, ground := Go.Ground.phase }, { on := 8, ground := Go.Ground.phase }, { on := 9, ground := Go.Ground.phase }, { on := 10, ground := Go.Ground.phase }, { on := 11, ground := Go.Ground.phase }], guard := none } : Oper)) (v := ?_) rfl (by kernel_rfl) (by kernel_rfl) (by kernel_rfl) (fun _ _ _ h => h) (Or.inl ⟨by rfl, ?_⟩) (by assumption) ?_
  rotate_left
  · intro W' hSw
    try dsimp only at hSw
    go_simp
    try with_reducible rfl
  try simp only [Act.put, List.setIfInBounds_toArray, List.set_cons_zero, List.set_cons_succ]
  refine wpAnyH_done (by kernel_rfl) ?_ _
  obtain ⟨x0, x1, x2, x3, x4⟩ := HRW3.out.1
  obtain ⟨y0, y1, y2, y3, y4⟩ := HRW3.out.2.1
  have n1 : w.heap.size < w3.heap.size := World.block_lt_of_cell? _ _ x0
  have n2 : w.heap.size + 1 < w3.heap.size := World.block_lt_of_cell? _ _ y0
  go_wp2_with fail
  refine (rsum_pk f t 17 l0 s0 B0 g _ hf ht (by omega) (by omega) HSUM.out).mono ?_
  rintro e w6 ⟨rfl, hb6⟩
  have HRW6 := Lib.hid (HRW3.out.step hb6 HRW3.out.2.2.2.2.2.2)
  clear hb6 x0 x1 x2 x3 x4 y0 y1 y2 y3 y4 n1 n2
  obtain ⟨y0, y1, y2, y3, y4⟩ := HRW6.out.2.1
  have n2 : w.heap.size + 1 < w6.heap.size := World.block_lt_of_cell? _ _ y0
  by_cases h0 : u = 0
  · have hv65 : v = 65535 := by rw [← HVV.out, noZero, if_pos h0]
    subst hv65 h0
    go_wp2_with fail
    refine (rtwo_at (x := 65535) hvb HSV.out _).mono ?_
    rintro e w7 ⟨rfl, hb7⟩
    have HRW7 := Lib.hid (HRW6.out.step hb7 HRW6.out.2.2.2.2.2.2)
    clear hb7 y0 y1 y2 y3 y4 n2
    obtain ⟨x0, x1, x2, x3, x4⟩ := HRW7.out.1
    have xf : ∀ o, w7.frozen? ⟨w.heap.size, o, none⟩ = false := HRW7.out.2.2.2.1
    have n1 : w.heap.size < w7.heap.size := World.block_lt_of_cell? _ _ x0
    go_wp2_with fail
    obtain ⟨n, hn⟩ : ∃ n, n = (if f.size = 16 then 40 else 20) + BB.size := ⟨_, rfl⟩
    refine (renc_yes f t 17 l0 BB _ HOK.out n hn).mono ?_
    clear hn
    rintro e w8 ⟨g8, c8, rfl, ho8, hb8'⟩
    have hb8 := hb8'.out
    clear ho8 hb8'
    have hb9 : Below w7.heap.size (w7.setCell ⟨w.heap.size, 4, none⟩ (.string BB)) w8 := by simpa using hb8
    have n7 : w.heap.size + 1 + 1 + 1 ≤ w7.heap.size := HRW7.out.2.2.2.2.2.2
    have hst : Below w.heap.size w7 (w7.setCell ⟨w.heap.size, 4, none⟩ (.string BB)) := (Below.refl w.heap.size w7).setCell (p := ⟨w.heap.size, 4, none⟩) (Nat.le_refl _) _
    have HT8 := Lib.hid ((HRW7.out.1.body BB).below hb9 (by omega))
    have HZ8 := Lib.hid (show Boxed w8 (w.heap.size + 1 + 1) ⟨#[]⟩ ⟨#[]⟩ 0 0 ⟨#[]⟩ from Boxed.below (W := w7.setCell ⟨w.heap.size, 4, none⟩ (.string BB)) (by
      obtain ⟨r0, r1, r2, r3, r4⟩ := HRW7.out.2.2.1
      refine ⟨?_, ?_, ?_, ?_, ?_⟩ <;> simp [go_sem, *]) hb9 (by omega))
    have HF8 := Lib.hid ((HRW7.out.2.2.2.2.1.set ⟨w.heap.size, 4, none⟩ (.string BB)).below hb9 (by omega))
    have HB8 := Lib.hid ((HRW7.out.2.2.2.2.2.1.trans hst).trans (hb9.mono (by omega)))
    clear hb8 hb9 hst x0 x1 x2 x3 x4 xf n1
    obtain ⟨u0, u1, u2, u3, u4⟩ := HT8.out
    obtain ⟨z0', z1', z2', z3', z4'⟩ := HZ8.out
    have zf : ∀ o, w8.frozen? ⟨w.heap.size + 1 + 1, o, none⟩ = false := HF8.out
    have q1 : w.heap.size + 1 + 1 < w8.heap.size := World.block_lt_of_cell? _ _ z0'
    have q2 : w.heap.size < w8.heap.size := World.block_lt_of_cell? _ _ u0
    go_wp2
    rw [← HEB.out]
    exact bodyPost_ret (v := .tuple #[.agg #[.string f, .string t, .int .i64 17, .int .i64 l0, .string BB], .int .i64 0]) (by simp [results, Try.results9, go_sem, *]) rfl ⟨rfl, below5 HB8.out (by omega)⟩
  · have h1 : (u == 0) = false := by simpa using h0
    have hvu : v = u := by rw [← HVV.out, noZero, if_neg h0]
    subst hvu
    go_wp2_with fail
    refine (rtwo_at hvb HSV.out _).mono ?_
    rintro e w7 ⟨rfl, hb7⟩
    have HRW7 := Lib.hid (HRW6.out.step hb7 HRW6.out.2.2.2.2.2.2)
    clear hb7 y0 y1 y2 y3 y4 n2
    obtain ⟨x0, x1, x2, x3, x4⟩ := HRW7.out.1
    have xf : ∀ o, w7.frozen? ⟨w.heap.size, o, none⟩ = false := HRW7.out.2.2.2.1
    have n1 : w.heap.size < w7.heap.size := World.block_lt_of_cell? _ _ x0
    go_wp2_with fail
    obtain ⟨n, hn⟩ : ∃ n, n = (if f.size = 16 then 40 else 20) + BB.size := ⟨_, rfl⟩
    refine (renc_yes f t 17 l0 BB _ HOK.out n hn).mono ?_
    clear hn
    rintro e w8 ⟨g8, c8, rfl, ho8, hb8'⟩
    have hb8 := hb8'.out
    clear ho8 hb8'
    have hb9 : Below w7.heap.size (w7.setCell ⟨w.heap.size, 4, none⟩ (.string BB)) w8 := by simpa using hb8
    have n7 : w.heap.size + 1 + 1 + 1 ≤ w7.heap.size := HRW7.out.2.2.2.2.2.2
    have hst : Below w.heap.size w7 (w7.setCell ⟨w.heap.size, 4, none⟩ (.string BB)) := (Below.refl w.heap.size w7).setCell (p := ⟨w.heap.size, 4, none⟩) (Nat.le_refl _) _
    have HT8 := Lib.hid ((HRW7.out.1.body BB).below hb9 (by omega))
    have HZ8 := Lib.hid (show Boxed w8 (w.heap.size + 1 + 1) ⟨#[]⟩ ⟨#[]⟩ 0 0 ⟨#[]⟩ from Boxed.below (W := w7.setCell ⟨w.heap.size, 4, none⟩ (.string BB)) (by
      obtain ⟨r0, r1, r2, r3, r4⟩ := HRW7.out.2.2.1
      refine ⟨?_, ?_, ?_, ?_, ?_⟩ <;> simp [go_sem, *]) hb9 (by omega))
    have HF8 := Lib.hid ((HRW7.out.2.2.2.2.1.set ⟨w.heap.size, 4, none⟩ (.string BB)).below hb9 (by omega))
    have HB8 := Lib.hid ((HRW7.out.2.2.2.2.2.1.trans hst).trans (hb9.mono (by omega)))
    clear hb8 hb9 hst x0 x1 x2 x3 x4 xf n1
    obtain ⟨u0, u1, u2, u3, u4⟩ := HT8.out
    obtain ⟨z0', z1', z2', z3', z4'⟩ := HZ8.out
    have zf : ∀ o, w8.frozen? ⟨w.heap.size + 1 + 1, o, none⟩ = false := HF8.out
    have q1 : w.heap.size + 1 + 1 < w8.heap.size := World.block_lt_of_cell? _ _ z0'
    have q2 : w.heap.size < w8.heap.size := World.block_lt_of_cell? _ _ u0
    go_wp2
    rw [← HEB.out]
    exact bodyPost_ret (v := .tuple #[.agg #[.string f, .string t, .int .i64 17, .int .i64 l0, .string BB], .int .i64 0]) (by simp [results, Try.results9, go_sem, *]) rfl ⟨rfl, below5 HB8.out (by omega)⟩

end Go.Proofs.Ytomcniakffipfaa
