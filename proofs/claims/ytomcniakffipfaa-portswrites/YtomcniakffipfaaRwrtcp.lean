/-
  What outriderref05.Write does, of a head that is right.
-/
import Derived.Test.YtomcniakffipfaaRwrbase
namespace Go.Proofs.Ytomcniakffipfaa
open Go.RowKit
set_option linter.unusedVariables false
set_option maxRecDepth 10000

set_option maxHeartbeats 8000000 in
theorem rwr_tcp_no (f t : ByteArray) (p0 l0 : Int) (s0 : ByteArray) (a b l : Int) (s : ByteArray) (w : World) (hf : f.size ≤ 140737488351232) (ht : t.size ≤ 140737488351232) (ha : 0 ≤ a ∧ a ≤ 65535) (hb : 0 ≤ b ∧ b ≤ 65535) (hl : 0 ≤ l ∧ l ≤ 63) (hs : s.size ≤ 1500) (hok : ¬ Okp f t 6 l0 (strOfNums (tcpW f t a b l s))) : Calls Try.prog 9 #[.agg #[.string f, .string t, .int .i64 p0, .int .i64 l0, .string s0], .agg #[.int .i64 6, .int .i64 a, .int .i64 b, .int .i64 l, .int .i64 0], .string s] w fun e w' => e = .returned (.tuple #[.agg #[.string ⟨#[]⟩, .string ⟨#[]⟩, .int .i64 0, .int .i64 0, .string ⟨#[]⟩], .int .i64 1]) ∧ Below w.heap.size w w' := by
  obtain ⟨sa, hsa⟩ : ∃ S, strOfNums [a / 256, a % 256] = S := ⟨_, rfl⟩
  obtain ⟨sb, hsb⟩ : ∃ S, strOfNums [b / 256, b % 256] = S := ⟨_, rfl⟩
  obtain ⟨sn, hsn⟩ : ∃ S, strOfNums [(8 + (s.size : Int)) / 256, (8 + (s.size : Int)) % 256] = S := ⟨_, rfl⟩
  have za := str2_size hsa
  have zb := str2_size hsb
  have zn := str2_size hsn
  have zan : (sa ++ sb).size = 4 := by rw [ByteArray.size_append]; omega
  have zann : (sa ++ sb ++ sn).size = 6 := by rw [ByteArray.size_append]; omega
  obtain ⟨sl, hsl⟩ : ∃ S, strOfNums [l] = S := ⟨_, rfl⟩
  have zl : sl.size = 1 := by rw [← hsl, strOfNums_size]; rfl
  have hwl : IntKind.u8.wrap l = l := by rw [IntKind.wrap_u8]; omega
  have z1 : (sa ++ sb ++ ⟨#[0, 0, 0, 0, 0, 0, 0, 0, 80]⟩).size = 13 := by rw [ByteArray.size_append, zan]; rfl
  have z2 : (sa ++ sb ++ ⟨#[0, 0, 0, 0, 0, 0, 0, 0, 80]⟩ ++ sl).size = 14 := by rw [ByteArray.size_append, z1, zl]
  obtain ⟨AH, hAH⟩ : ∃ S, sa ++ sb ++ ⟨#[0, 0, 0, 0, 0, 0, 0, 0, 80]⟩ ++ sl ++ ⟨#[255, 255]⟩ = S := ⟨_, rfl⟩
  have zAH : AH.size = 16 := by rw [← hAH, ByteArray.size_append, z2]; rfl
  obtain ⟨BE, hBE⟩ : ∃ S, (⟨#[0, 0]⟩ : ByteArray) ++ s = S := ⟨_, rfl⟩
  have zBE : BE.size = 2 + s.size := by rw [← hBE, ByteArray.size_append]; rfl
  have bAH : bts AH = [a / 256, a % 256, b / 256, b % 256, 0, 0, 0, 0, 0, 0, 0, 0, 80, l, 255, 255] := by
    rw [← hAH, bts_append, bts_append, bts_append, bts_append, bts2 ha hsa, bts2 hb hsb, ← hsl, bts_strOfNums (Byt.cons (by omega) Byt.nil)]; rfl
  have bBE : bts BE = [0, 0] ++ bts s := by rw [← hBE, bts_append]; rfl
  have hAHB : ∀ x : ByteArray, bts (AH ++ x ++ BE) = [a / 256, a % 256, b / 256, b % 256, 0, 0, 0, 0, 0, 0, 0, 0, 80, l, 255, 255] ++ (bts x ++ ([0, 0] ++ bts s)) := fun x => by rw [bts_append, bts_append, bAH, bBE, List.append_assoc]
  have hB0 : bts (AH ++ ⟨#[0, 0]⟩ ++ BE) = tcpB a b l 0 0 s := by rw [hAHB]; rfl
  obtain ⟨v, hv⟩ : ∃ v, tcpV f t a b l s = v := ⟨_, rfl⟩
  have hvb := bodyV_bd f t 6 (tcpB a b l 0 0 s)
  rw [show bodyV f t 6 (tcpB a b l 0 0 s) = v from hv] at hvb
  have zB0 : (AH ++ ⟨#[0, 0]⟩ ++ BE).size = 20 + s.size := by rw [ByteArray.size_append, ByteArray.size_append, zAH, zBE]; show 16 + 2 + (2 + s.size) = _; omega
  have hsum : fd (tot (psx f t 6 ((AH ++ ⟨#[0, 0]⟩ ++ BE).size : Int) ++ bts (AH ++ ⟨#[0, 0]⟩ ++ BE))) = 65535 - v := by
    rw [← hv, hB0, zB0, ← tcpB_len a b l 0 0 s, tcpV, bodyV]; omega
  obtain ⟨sv, hsv⟩ : ∃ S, strOfNums [v / 256, v % 256] = S := ⟨_, rfl⟩
  have zv := str2_size hsv
  obtain ⟨B0, hB0'⟩ : ∃ B, AH ++ ⟨#[0, 0]⟩ ++ BE = B := ⟨_, rfl⟩
  rw [hB0'] at hsum zB0
  have zAv : (AH ++ sv).size = 18 := by rw [ByteArray.size_append, zAH, zv]
  have zA0 : (AH ++ ⟨#[0, 0]⟩).size = 18 := by rw [ByteArray.size_append, zAH]; rfl
  obtain ⟨BB, hBB⟩ : ∃ B, AH ++ sv ++ BE = B := ⟨_, rfl⟩
  have eBB : BB = strOfNums (tcpW f t a b l s) := by
    apply bts_inj
    rw [← hBB, hAHB, bts2 hvb hsv, bts_strOfNums (by rw [tcpW, hv]; exact tcpB_byt ha hb (by omega) (by omega) (by omega)), tcpW, hv]
    rfl
  have zBB : BB.size = 20 + s.size := by rw [← hBB, ByteArray.size_append, zAv, zBE]; omega
  have e0 : decide (a < 0) = false := decide_eq_false (by omega)
  have e1 : decide (65535 < a) = false := decide_eq_false (by omega)
  have e2 : decide (b < 0) = false := decide_eq_false (by omega)
  have e3 : decide (65535 < b) = false := decide_eq_false (by omega)
  have e4 : decide (l < 0) = false := decide_eq_false (by omega)
  have e5 : decide (63 < l) = false := decide_eq_false (by omega)
  have e7 : decide (1500 < (s.size : Int)) = false := decide_eq_false (by omega)
  have e8 : decide (1500 < s.size) = false := decide_eq_false (by omega)
  have HRW0 : Hid (RW w (((w.alloc (.cells #[.string f, .string t, .int .i64 6, .int .i64 l0, .string s0] 24)).alloc (.cells #[.int .i64 6, .int .i64 a, .int .i64 b, .int .i64 l, .int .i64 0] 26)).alloc (.cells #[.string ⟨#[]⟩, .string ⟨#[]⟩, .int .i64 0, .int .i64 0, .string ⟨#[]⟩] 24)).drew f t 6 l0 s0 a b l) := Lib.hid ⟨(Boxed.new w f t 6 l0 s0).below (below_drew (((Below.refl (w.heap.size + 1) _).alloc (by simp) _).alloc (by simp) _)) (by simp), by simp [BoxH, go_sem], by simp [Boxed, go_sem], fun o => by simp [go_sem], fun o => by simp [go_sem], below_drew ((((Below.refl _ _).alloc (Nat.le_refl _) _).alloc (by simp) _).alloc (by simp; omega) _), by simp⟩
  have hw8 : IntKind.i64.wrap (8 + (s.size : Int)) = 8 + (s.size : Int) := by rw [IntKind.wrap_i64]; omega
  have HSA := Lib.hid hsa
  have HSB := Lib.hid hsb
  have HSN := Lib.hid hsn
  have HSV := Lib.hid hsv
  obtain ⟨g, hg⟩ : ∃ g, 65535 - v = g := ⟨_, rfl⟩
  rw [hg] at hsum
  have hgu : 65535 - g = v := by omega
  have hgb : 0 ≤ g ∧ g ≤ 65535 := by omega
  have HSUM := Lib.hid hsum
  have HEB := Lib.hid eBB
  rw [← eBB] at hok
  have HOK := Lib.hid hok
  have HSL := Lib.hid hsl
  clear hsl
  clear hg hsa hsb hsn hsv hsum eBB hok bAH hAHB hB0 bBE hv
  go_enter Try.func9, Try.ntmps9
  go_wp2_with fail
  refine wp_region_held_drew (S := fun W => W.cell? ⟨w.heap.size + 1, 0, none⟩ = some (.int .i64 6) ∧ W.cell? ⟨w.heap.size + 1, 1, none⟩ = some (.int .i64 a) ∧ W.cell? ⟨w.heap.size + 1, 2, none⟩ = some (.int .i64 b) ∧ W.cell? ⟨w.heap.size + 1, 3, none⟩ = some (.int .i64 l) ∧ W.cell? ⟨w.heap.size + 1, 4, none⟩ = some (.int .i64 0)) (by kernel_rfl) HRW0.out.2.1 (fun hHeld => ?_)
  refine wpAnyH_take (i := 0) (oi := ({ dst := some 73, op := Go.Op.fieldAddr 26 (Go.Operand.tmp 4) 1, type := 0, pos := _, after := #[], guard := none } : Oper)) (v := ?_) rfl (by kernel_rfl) (by kernel_rfl) (by kernel_rfl) (fun _ _ _ h => h) (Or.inl ⟨by rfl, ?_⟩) (by assumption) ?_
  rotate_left
  · intro W' hSw
    try dsimp only at hSw
    go_simp
    try with_reducible rfl
  try simp only [Act.put, List.setIfInBounds_toArray, List.set_cons_zero, List.set_cons_succ]
  refine wpAnyH_take (i := 1) (oi := ({ dst := some 74, op := Go.Op.load 3 (Go.Operand.tmp 73), type := 3, pos := _, after := #[{ on := 0, ground := Go.Ground.data }], guard := none } : Oper)) (v := ?_) rfl (by kernel_rfl) (by kernel_rfl) (by kernel_rfl) (fun _ _ _ h => h) (Or.inl ⟨by rfl, ?_⟩) (by assumption) ?_
  rotate_left
  · intro W' hSw
    try dsimp only at hSw
    go_simp
    try with_reducible rfl
  try simp only [Act.put, List.setIfInBounds_toArray, List.set_cons_zero, List.set_cons_succ]
  refine wpAnyH_take (i := 3) (oi := ({ dst := some 76, op := Go.Op.fieldAddr 26 (Go.Operand.tmp 4) 2, type := 0, pos := _, after := #[], guard := none } : Oper)) (v := ?_) rfl (by kernel_rfl) (by kernel_rfl) (by kernel_rfl) (fun _ _ _ h => h) (Or.inl ⟨by rfl, ?_⟩) (by assumption) ?_
  rotate_left
  · intro W' hSw
    try dsimp only at hSw
    go_simp
    try with_reducible rfl
  try simp only [Act.put, List.setIfInBounds_toArray, List.set_cons_zero, List.set_cons_succ]
  refine wpAnyH_take (i := 4) (oi := ({ dst := some 77, op := Go.Op.load 3 (Go.Operand.tmp 76), type := 3, pos := _, after := #[{ on := 3, ground := Go.Ground.data }], guard := none } : Oper)) (v := ?_) rfl (by kernel_rfl) (by kernel_rfl) (by kernel_rfl) (fun _ _ _ h => h) (Or.inl ⟨by rfl, ?_⟩) (by assumption) ?_
  rotate_left
  · intro W' hSw
    try dsimp only at hSw
    go_simp
    try with_reducible rfl
  try simp only [Act.put, List.setIfInBounds_toArray, List.set_cons_zero, List.set_cons_succ]
  refine wpAnyH_take (i := 7) (oi := ({ dst := some 80, op := Go.Op.move (Go.Operand.tmp 2), type := 9, pos := _, after := #[], guard := none } : Oper)) (v := ?_) rfl (by kernel_rfl) (by kernel_rfl) (by kernel_rfl) (fun _ _ _ h => h) (Or.inl ⟨by rfl, ?_⟩) (by assumption) ?_
  rotate_left
  · intro W' hSw
    try dsimp only at hSw
    go_simp
    try with_reducible rfl
  try simp only [Act.put, List.setIfInBounds_toArray, List.set_cons_zero, List.set_cons_succ]
  refine wpAnyH_take (i := 8) (oi := ({ dst := some 81, op := Go.Op.call { callee := Go.Callee.builtin Go.Builtin.len, args := #[Go.Operand.tmp 80], argTypes := #[9] }, type := 3, pos := _, after := #[{ on := 7, ground := Go.Ground.data }], guard := none } : Oper)) (v := ?_) rfl (by kernel_rfl) (by kernel_rfl) (by kernel_rfl) (fun _ _ _ h => h) (Or.inl ⟨by rfl, ?_⟩) (by assumption) ?_
  rotate_left
  · intro W' hSw
    try dsimp only at hSw
    go_simp
    try with_reducible rfl
  try simp only [Act.put, List.setIfInBounds_toArray, List.set_cons_zero, List.set_cons_succ]
  refine wpAnyH_take (i := 9) (oi := ({ dst := some 82, op := Go.Op.binOp Go.BinOp.add 3 (Go.Operand.const (Go.Value.int Go.IntKind.i64 8)) (Go.Operand.tmp 81) 3, type := 3, pos := _, after := #[{ on := 8, ground := Go.Ground.data }], guard := none } : Oper)) (v := ?_) rfl (by kernel_rfl) (by kernel_rfl) (by kernel_rfl) (fun _ _ _ h => h) (Or.inl ⟨by rfl, ?_⟩) (by assumption) ?_
  rotate_left
  · intro W' hSw
    try dsimp only at hSw
    go_simp
    try with_reducible rfl
  try simp only [Act.put, List.setIfInBounds_toArray, List.set_cons_zero, List.set_cons_succ]
  refine wpAnyH_ready (rs := [2]) (by kernel_rfl) (by simp) ?_
  refine AllReadyH.cons (o := ({ dst := some 75, op := Go.Op.call { callee := Go.Callee.value (Go.Operand.func 22), args := #[Go.Operand.tmp 74], argTypes := #[3] }, type := 9, pos := _, after := #[{ on := 1, ground := Go.Ground.data }], guard := none } : Oper)) rfl (fun K hK => ?_) AllReadyH.nil
  go_simp
  refine (rtwo_at ha HSA.out _).mono ?_
  rintro e w1 ⟨rfl, hb1⟩
  go_wp2_with fail
  refine hK.out _ _ ?_ (fun hHeld => ?_)
  · exact (HRW0.out.step hb1 HRW0.out.2.2.2.2.2.2).2.1
  clear hK K
  try simp only [Act.put, List.setIfInBounds_toArray, List.set_cons_zero, List.set_cons_succ]
  have HRW1 := Lib.hid (HRW0.out.step hb1 HRW0.out.2.2.2.2.2.2)
  clear hb1
  refine wpAnyH_ready (rs := [5]) (by kernel_rfl) (by simp) ?_
  refine AllReadyH.cons (o := ({ dst := some 78, op := Go.Op.call { callee := Go.Callee.value (Go.Operand.func 22), args := #[Go.Operand.tmp 77], argTypes := #[3] }, type := 9, pos := _, after := #[{ on := 4, ground := Go.Ground.data }, { on := 2, ground := Go.Ground.chain }], guard := none } : Oper)) rfl (fun K hK => ?_) AllReadyH.nil
  go_simp
  refine (rtwo_at hb HSB.out _).mono ?_
  rintro e w2 ⟨rfl, hb2⟩
  go_wp2_with fail
  refine hK.out _ _ ?_ (fun hHeld => ?_)
  · exact (HRW1.out.step hb2 HRW1.out.2.2.2.2.2.2).2.1
  clear hK K
  try simp only [Act.put, List.setIfInBounds_toArray, List.set_cons_zero, List.set_cons_succ]
  have HRW2 := Lib.hid (HRW1.out.step hb2 HRW1.out.2.2.2.2.2.2)
  clear hb2
  refine wpAnyH_take (i := 6) (oi := ({ dst := some 79, op := Go.Op.binOp Go.BinOp.add 9 (Go.Operand.tmp 75) (Go.Operand.tmp 78) 9, type := 9, pos := _, after := #[{ on := 2, ground := Go.Ground.data }, { on := 5, ground := Go.Ground.data }], guard := none } : Oper)) (v := ?_) rfl (by kernel_rfl) (by kernel_rfl) (by kernel_rfl) (fun _ _ _ h => h) (Or.inl ⟨by rfl, ?_⟩) (by assumption) ?_
  rotate_left
  · intro W' hSw
    try dsimp only at hSw
    go_simp
    try with_reducible rfl
  try simp only [Act.put, List.setIfInBounds_toArray, List.set_cons_zero, List.set_cons_succ]
  refine wpAnyH_ready (rs := [10]) (by kernel_rfl) (by simp) ?_
  refine AllReadyH.cons (o := ({ dst := some 83, op := Go.Op.call { callee := Go.Callee.value (Go.Operand.func 22), args := #[Go.Operand.tmp 82], argTypes := #[3] }, type := 9, pos := _, after := #[{ on := 9, ground := Go.Ground.data }, { on := 5, ground := Go.Ground.chain }], guard := none } : Oper)) rfl (fun K hK => ?_) AllReadyH.nil
  go_simp
  refine (rtwo_at (x := 8 + (s.size : Int)) (by omega) HSN.out _).mono ?_
  rintro e w3 ⟨rfl, hb3⟩
  go_wp2_with fail
  refine hK.out _ _ ?_ (fun hHeld => ?_)
  · exact (HRW2.out.step hb3 HRW2.out.2.2.2.2.2.2).2.1
  clear hK K
  try simp only [Act.put, List.setIfInBounds_toArray, List.set_cons_zero, List.set_cons_succ]
  have HRW3 := Lib.hid (HRW2.out.step hb3 HRW2.out.2.2.2.2.2.2)
  clear hb3
  refine wpAnyH_take (i := 11) (oi := ({ dst := some 84, op := Go.Op.binOp Go.BinOp.add 9 (Go.Operand.tmp 79) (Go.Operand.tmp 83) 9, type := 9, pos := _, after := #[{ on := 6, ground := Go.Ground.data }, { on := 10, ground := Go.Ground.data }], guard := none } : Oper)) (v := ?_) rfl (by kernel_rfl) (by kernel_rfl) (by kernel_rfl) (fun _ _ _ h => h) (Or.inl ⟨by rfl, ?_⟩) (by assumption) ?_
  rotate_left
  · intro W' hSw
    try dsimp only at hSw
    go_simp
    try with_reducible rfl
  try simp only [Act.put, List.setIfInBounds_toArray, List.set_cons_zero, List.set_cons_succ]
  refine wpAnyH_take (i := 12) (oi := ({ dst := some 8, op := Go.Op.assign (Go.Operand.tmp 84), type := 9, pos := _, after := #[{ on := 11, ground := Go.Ground.data }, { on := 10, ground := Go.Ground.chain }, { on := 0, ground := Go.Ground.phase }, { on := 1, ground := Go.Ground.phase }, { on := 2, ground := Go.Ground.phase }, { on := 3, ground := Go.Ground.phase }, { on := 4, ground := Go.Ground.phase }, { on := 5, ground := Go.Ground.phase }, { on := 6, ground := Go.Ground.phase }, { on := 7, ground := Go.Ground.phase }, { on := 8, ground := Go.Ground.phase }, { on := 9, ground := Go.Ground.phase }, { on := 10, ground := Go.Ground.phase }, { on := 11, ground := Go.Ground.phase }], guard := none } : Oper)) (v := ?_) rfl (by kernel_rfl) (by kernel_rfl) (by kernel_rfl) (fun _ _ _ h => h) (Or.inl ⟨by rfl, ?_⟩) (by assumption) ?_
  rotate_left
  · intro W' hSw
    try dsimp only at hSw
    go_simp
    try with_reducible rfl
  try simp only [Act.put, List.setIfInBounds_toArray, List.set_cons_zero, List.set_cons_succ]
  refine wpAnyH_done (by kernel_rfl) ?_ _
  go_wp2_with fail
  have HRW3d := Lib.hid (show RW w w3.drew f t 6 l0 s0 a b l from HRW3.out.step (below_drew (Below.refl w3.heap.size w3)) HRW3.out.2.2.2.2.2.2)
  refine wp_region_held_drew (S := fun W => W.cell? ⟨w.heap.size + 1, 0, none⟩ = some (.int .i64 6) ∧ W.cell? ⟨w.heap.size + 1, 1, none⟩ = some (.int .i64 a) ∧ W.cell? ⟨w.heap.size + 1, 2, none⟩ = some (.int .i64 b) ∧ W.cell? ⟨w.heap.size + 1, 3, none⟩ = some (.int .i64 l) ∧ W.cell? ⟨w.heap.size + 1, 4, none⟩ = some (.int .i64 0)) (by kernel_rfl) HRW3d.out.2.1 (fun hHeld => ?_)
  refine wpAnyH_take (i := 0) (oi := ({ dst := some 89, op := Go.Op.fieldAddr 26 (Go.Operand.tmp 4) 1, type := 0, pos := _, after := #[], guard := none } : Oper)) (v := ?_) rfl (by kernel_rfl) (by kernel_rfl) (by kernel_rfl) (fun _ _ _ h => h) (Or.inl ⟨by rfl, ?_⟩) (by assumption) ?_
  rotate_left
  · intro W' hSw
    try dsimp only at hSw
    go_simp
    try with_reducible rfl
  try simp only [Act.put, List.setIfInBounds_toArray, List.set_cons_zero, List.set_cons_succ]
  refine wpAnyH_take (i := 1) (oi := ({ dst := some 90, op := Go.Op.load 3 (Go.Operand.tmp 89), type := 3, pos := _, after := #[{ on := 0, ground := Go.Ground.data }], guard := none } : Oper)) (v := ?_) rfl (by kernel_rfl) (by kernel_rfl) (by kernel_rfl) (fun _ _ _ h => h) (Or.inl ⟨by rfl, ?_⟩) (by assumption) ?_
  rotate_left
  · intro W' hSw
    try dsimp only at hSw
    go_simp
    try with_reducible rfl
  try simp only [Act.put, List.setIfInBounds_toArray, List.set_cons_zero, List.set_cons_succ]
  refine wpAnyH_take (i := 3) (oi := ({ dst := some 92, op := Go.Op.fieldAddr 26 (Go.Operand.tmp 4) 2, type := 0, pos := _, after := #[], guard := none } : Oper)) (v := ?_) rfl (by kernel_rfl) (by kernel_rfl) (by kernel_rfl) (fun _ _ _ h => h) (Or.inl ⟨by rfl, ?_⟩) (by assumption) ?_
  rotate_left
  · intro W' hSw
    try dsimp only at hSw
    go_simp
    try with_reducible rfl
  try simp only [Act.put, List.setIfInBounds_toArray, List.set_cons_zero, List.set_cons_succ]
  refine wpAnyH_take (i := 4) (oi := ({ dst := some 93, op := Go.Op.load 3 (Go.Operand.tmp 92), type := 3, pos := _, after := #[{ on := 3, ground := Go.Ground.data }], guard := none } : Oper)) (v := ?_) rfl (by kernel_rfl) (by kernel_rfl) (by kernel_rfl) (fun _ _ _ h => h) (Or.inl ⟨by rfl, ?_⟩) (by assumption) ?_
  rotate_left
  · intro W' hSw
    try dsimp only at hSw
    go_simp
    try with_reducible rfl
  try simp only [Act.put, List.setIfInBounds_toArray, List.set_cons_zero, List.set_cons_succ]
  refine wpAnyH_take (i := 8) (oi := ({ dst := some 97, op := Go.Op.fieldAddr 26 (Go.Operand.tmp 4) 3, type := 0, pos := _, after := #[], guard := none } : Oper)) (v := ?_) rfl (by kernel_rfl) (by kernel_rfl) (by kernel_rfl) (fun _ _ _ h => h) (Or.inl ⟨by rfl, ?_⟩) (by assumption) ?_
  rotate_left
  · intro W' hSw
    try dsimp only at hSw
    go_simp
    try with_reducible rfl
  try simp only [Act.put, List.setIfInBounds_toArray, List.set_cons_zero, List.set_cons_succ]
  refine wpAnyH_take (i := 9) (oi := ({ dst := some 98, op := Go.Op.load 3 (Go.Operand.tmp 97), type := 3, pos := _, after := #[{ on := 8, ground := Go.Ground.data }], guard := none } : Oper)) (v := ?_) rfl (by kernel_rfl) (by kernel_rfl) (by kernel_rfl) (fun _ _ _ h => h) (Or.inl ⟨by rfl, ?_⟩) (by assumption) ?_
  rotate_left
  · intro W' hSw
    try dsimp only at hSw
    go_simp
    try with_reducible rfl
  try simp only [Act.put, List.setIfInBounds_toArray, List.set_cons_zero, List.set_cons_succ]
  refine wpAnyH_take (i := 10) (oi := ({ dst := some 99, op := Go.Op.convert 3 5 (Go.Operand.tmp 98), type := 5, pos := _, after := #[{ on := 9, ground := Go.Ground.data }], guard := none } : Oper)) (v := ?_) rfl (by kernel_rfl) (by kernel_rfl) (by kernel_rfl) (fun _ _ _ h => h) (Or.inl ⟨by rfl, ?_⟩) (by assumption) ?_
  rotate_left
  · intro W' hSw
    try dsimp only at hSw
    go_simp
    try with_reducible rfl
  try simp only [Act.put, List.setIfInBounds_toArray, List.set_cons_zero, List.set_cons_succ]
  refine wpAnyH_ready (rs := [2, 11]) (by kernel_rfl) (by simp) ?_
  refine (AllReadyH.cons (o := ({ dst := some 91, op := Go.Op.call { callee := Go.Callee.value (Go.Operand.func 22), args := #[Go.Operand.tmp 90], argTypes := #[3] }, type := 9, pos := _, after := #[{ on := 1, ground := Go.Ground.data }], guard := none } : Oper)) rfl (fun K hK => ?_) (AllReadyH.cons (o := ({ dst := some 100, op := Go.Op.buildSlice 42 1 #[(0, Go.Operand.tmp 99)], type := 42, pos := _, after := #[{ on := 10, ground := Go.Ground.data }], guard := none } : Oper)) rfl (fun K hK => ?_) AllReadyH.nil))
  · go_simp
    refine (rtwo_at ha HSA.out _).mono ?_
    rintro e w4 ⟨rfl, hb4⟩
    go_wp2_with fail
    refine hK.out _ _ ?_ (fun hHeld => ?_)
    · exact (HRW3d.out.step hb4 HRW3d.out.2.2.2.2.2.2).2.1
    clear hK K
    try simp only [Act.put, List.setIfInBounds_toArray, List.set_cons_zero, List.set_cons_succ]
    have HRW4 := Lib.hid (HRW3d.out.step hb4 HRW3d.out.2.2.2.2.2.2)
    clear hb4
    refine wpAnyH_ready (rs := [5, 11]) (by kernel_rfl) (by simp) ?_
    refine (AllReadyH.cons (o := ({ dst := some 94, op := Go.Op.call { callee := Go.Callee.value (Go.Operand.func 22), args := #[Go.Operand.tmp 93], argTypes := #[3] }, type := 9, pos := _, after := #[{ on := 4, ground := Go.Ground.data }, { on := 2, ground := Go.Ground.chain }], guard := none } : Oper)) rfl (fun K hK => ?_) (AllReadyH.cons (o := ({ dst := some 100, op := Go.Op.buildSlice 42 1 #[(0, Go.Operand.tmp 99)], type := 42, pos := _, after := #[{ on := 10, ground := Go.Ground.data }], guard := none } : Oper)) rfl (fun K hK => ?_) AllReadyH.nil))
    · go_simp
      refine (rtwo_at hb HSB.out _).mono ?_
      rintro e w5 ⟨rfl, hb5⟩
      go_wp2_with fail
      refine hK.out _ _ ?_ (fun hHeld => ?_)
      · exact (HRW4.out.step hb5 HRW4.out.2.2.2.2.2.2).2.1
      clear hK K
      try simp only [Act.put, List.setIfInBounds_toArray, List.set_cons_zero, List.set_cons_succ]
      have HRW5 := Lib.hid (HRW4.out.step hb5 HRW4.out.2.2.2.2.2.2)
      clear hb5
      refine wpAnyH_take (i := 6) (oi := ({ dst := some 95, op := Go.Op.binOp Go.BinOp.add 9 (Go.Operand.tmp 91) (Go.Operand.tmp 94) 9, type := 9, pos := _, after := #[{ on := 2, ground := Go.Ground.data }, { on := 5, ground := Go.Ground.data }], guard := none } : Oper)) (v := ?_) rfl (by kernel_rfl) (by kernel_rfl) (by kernel_rfl) (fun _ _ _ h => h) (Or.inl ⟨by rfl, ?_⟩) (by assumption) ?_
      rotate_left
      · intro W' hSw
        try dsimp only at hSw
        go_simp
        try with_reducible rfl
      try simp only [Act.put, List.setIfInBounds_toArray, List.set_cons_zero, List.set_cons_succ]
      refine wpAnyH_take (i := 7) (oi := ({ dst := some 96, op := Go.Op.binOp Go.BinOp.add 9 (Go.Operand.tmp 95) (Go.Operand.const (Go.Value.string { data := #[0, 0, 0, 0, 0, 0, 0, 0, 80] })) 9, type := 9, pos := _, after := #[{ on := 6, ground := Go.Ground.data }], guard := none } : Oper)) (v := ?_) rfl (by kernel_rfl) (by kernel_rfl) (by kernel_rfl) (fun _ _ _ h => h) (Or.inl ⟨by rfl, ?_⟩) (by assumption) ?_
      rotate_left
      · intro W' hSw
        try dsimp only at hSw
        go_simp
        try with_reducible rfl
      try simp only [Act.put, List.setIfInBounds_toArray, List.set_cons_zero, List.set_cons_succ]
      refine wpAnyH_ready (rs := [11]) (by kernel_rfl) (by simp) ?_
      refine AllReadyH.cons (o := ({ dst := some 100, op := Go.Op.buildSlice 42 1 #[(0, Go.Operand.tmp 99)], type := 42, pos := _, after := #[{ on := 10, ground := Go.Ground.data }], guard := none } : Oper)) rfl (fun K hK => ?_) AllReadyH.nil
      go_simp
      refine hK.out _ _ ?_ (fun hHeld => ?_)
      · exact (HRW5.out.step ((Below.refl w5.heap.size w5).alloc (Nat.le_refl _) _) HRW5.out.2.2.2.2.2.2).2.1
      clear hK K
      try simp only [Act.put, List.setIfInBounds_toArray, List.set_cons_zero, List.set_cons_succ]
      have HRW5l := Lib.hid (show RW w ((w5.alloc (.cells #[.int .u8 l] 5))) f t 6 l0 s0 a b l from HRW5.out.step ((Below.refl w5.heap.size w5).alloc (Nat.le_refl _) _) HRW5.out.2.2.2.2.2.2)
      have HPL := Lib.hid (show Part ((w5.alloc (.cells #[.int .u8 l] 5))) ⟨some ⟨w5.heap.size, 0, none⟩, 1, 1, [l]⟩ from part_at (w := w5) (t := 5) (zs := [l]) (Byt.cons (by omega) Byt.nil) rfl)
      have hcl := convert_part HPL.out 9 Try.underlying9
      rw [HSL.out] at hcl
      refine wpAnyH_more (S' := fun W => (W.cell? ⟨w.heap.size + 1, 0, none⟩ = some (.int .i64 6) ∧ W.cell? ⟨w.heap.size + 1, 1, none⟩ = some (.int .i64 a) ∧ W.cell? ⟨w.heap.size + 1, 2, none⟩ = some (.int .i64 b) ∧ W.cell? ⟨w.heap.size + 1, 3, none⟩ = some (.int .i64 l) ∧ W.cell? ⟨w.heap.size + 1, 4, none⟩ = some (.int .i64 0)) ∧ (convert 42 9 (.slice (some ⟨w5.heap.size, 0, none⟩) 1 1)).run Try.prog W = .ok (.string sl) W) (fun _ h => h.1) _ _ _ _ ?_
      have hHeld2 : (fun W => (W.cell? ⟨w.heap.size + 1, 0, none⟩ = some (.int .i64 6) ∧ W.cell? ⟨w.heap.size + 1, 1, none⟩ = some (.int .i64 a) ∧ W.cell? ⟨w.heap.size + 1, 2, none⟩ = some (.int .i64 b) ∧ W.cell? ⟨w.heap.size + 1, 3, none⟩ = some (.int .i64 l) ∧ W.cell? ⟨w.heap.size + 1, 4, none⟩ = some (.int .i64 0)) ∧ (convert 42 9 (.slice (some ⟨w5.heap.size, 0, none⟩) 1 1)).run Try.prog W = .ok (.string sl) W) ((w5.alloc (.cells #[.int .u8 l] 5))) := ⟨HRW5l.out.2.1, hcl⟩
      clear hHeld hcl
      refine wpAnyH_take (i := 12) (oi := ({ dst := some 101, op := Go.Op.convert 42 9 (Go.Operand.tmp 100), type := 9, pos := _, after := #[{ on := 11, ground := Go.Ground.data }], guard := none } : Oper)) (v := ?_) rfl (by kernel_rfl) (by kernel_rfl) (by kernel_rfl) (fun _ _ _ h => h) (Or.inl ⟨by rfl, ?_⟩) (by assumption) ?_
      rotate_left
      · intro W' hSw
        try dsimp only at hSw
        go_simp
        try with_reducible rfl
      try simp only [Act.put, List.setIfInBounds_toArray, List.set_cons_zero, List.set_cons_succ]
      refine wpAnyH_take (i := 13) (oi := ({ dst := some 102, op := Go.Op.binOp Go.BinOp.add 9 (Go.Operand.tmp 96) (Go.Operand.tmp 101) 9, type := 9, pos := _, after := #[{ on := 7, ground := Go.Ground.data }, { on := 12, ground := Go.Ground.data }], guard := none } : Oper)) (v := ?_) rfl (by kernel_rfl) (by kernel_rfl) (by kernel_rfl) (fun _ _ _ h => h) (Or.inl ⟨by rfl, ?_⟩) (by assumption) ?_
      rotate_left
      · intro W' hSw
        try dsimp only at hSw
        go_simp
        try with_reducible rfl
      try simp only [Act.put, List.setIfInBounds_toArray, List.set_cons_zero, List.set_cons_succ]
      refine wpAnyH_take (i := 14) (oi := ({ dst := some 103, op := Go.Op.binOp Go.BinOp.add 9 (Go.Operand.tmp 102) (Go.Operand.const (Go.Value.string { data := #[255, 255] })) 9, type := 9, pos := _, after := #[{ on := 13, ground := Go.Ground.data }], guard := none } : Oper)) (v := ?_) rfl (by kernel_rfl) (by kernel_rfl) (by kernel_rfl) (fun _ _ _ h => h) (Or.inl ⟨by rfl, ?_⟩) (by assumption) ?_
      rotate_left
      · intro W' hSw
        try dsimp only at hSw
        go_simp
        try with_reducible rfl
      try simp only [Act.put, List.setIfInBounds_toArray, List.set_cons_zero, List.set_cons_succ]
      refine wpAnyH_take (i := 15) (oi := ({ dst := some 8, op := Go.Op.assign (Go.Operand.tmp 103), type := 9, pos := _, after := #[{ on := 14, ground := Go.Ground.data }, { on := 5, ground := Go.Ground.chain }, { on := 0, ground := Go.Ground.phase }, { on := 1, ground := Go.Ground.phase }, { on := 2, ground := Go.Ground.phase }, { on := 3, ground := Go.Ground.phase }, { on := 4, ground := Go.Ground.phase }, { on := 5, ground := Go.Ground.phase }, { on := 6, ground := Go.Ground.phase }, { on := 7, ground := Go.Ground.phase }, { on := 8, ground := Go.Ground.phase }, { on := 9, ground := Go.Ground.phase }, { on := 10, ground := Go.Ground.phase }, { on := 11, ground := Go.Ground.phase }, { on := 12, ground := Go.Ground.phase }, { on := 13, ground := Go.Ground.phase }, { on := 14, ground := Go.Ground.phase }], guard := none } : Oper)) (v := ?_) rfl (by kernel_rfl) (by kernel_rfl) (by kernel_rfl) (fun _ _ _ h => h) (Or.inl ⟨by rfl, ?_⟩) (by assumption) ?_
      rotate_left
      · intro W' hSw
        try dsimp only at hSw
        go_simp
        try with_reducible rfl
      try simp only [Act.put, List.setIfInBounds_toArray, List.set_cons_zero, List.set_cons_succ]
      refine wpAnyH_done (by kernel_rfl) ?_ _
      obtain ⟨x0, x1, x2, x3, x4⟩ := HRW5l.out.1
      obtain ⟨y0, y1, y2, y3, y4⟩ := HRW5l.out.2.1
      have n1 : w.heap.size < (w5.alloc (.cells #[.int .u8 l] 5)).heap.size := World.block_lt_of_cell? _ _ x0
      have n2 : w.heap.size + 1 < (w5.alloc (.cells #[.int .u8 l] 5)).heap.size := World.block_lt_of_cell? _ _ y0
      go_wp2_with fail
      refine (rsum_pk f t 6 l0 s0 B0 g _ hf ht (by omega) (by omega) HSUM.out).mono ?_
      rintro e w6 ⟨rfl, hb6⟩
      have HRW6 := Lib.hid (HRW5l.out.step hb6 HRW5l.out.2.2.2.2.2.2)
      clear hb6 x0 x1 x2 x3 x4 y0 y1 y2 y3 y4 n1 n2
      obtain ⟨y0, y1, y2, y3, y4⟩ := HRW6.out.2.1
      have n2 : w.heap.size + 1 < w6.heap.size := World.block_lt_of_cell? _ _ y0
      by_cases h0 : v = 0
      · subst h0
        go_wp2_with fail
        refine (rtwo_at (x := 0) hvb HSV.out _).mono ?_
        rintro e w7 ⟨rfl, hb7⟩
        have HRW7 := Lib.hid (HRW6.out.step hb7 HRW6.out.2.2.2.2.2.2)
        clear hb7 y0 y1 y2 y3 y4 n2
        obtain ⟨x0, x1, x2, x3, x4⟩ := HRW7.out.1
        have xf : ∀ o, w7.frozen? ⟨w.heap.size, o, none⟩ = false := HRW7.out.2.2.2.1
        have n1 : w.heap.size < w7.heap.size := World.block_lt_of_cell? _ _ x0
        go_wp2_with fail
        refine (renc_no f t 6 l0 BB _ hf ht (by omega) HOK.out).mono ?_
        rintro e w8 ⟨rfl, hb8⟩
        have hb9 : Below w7.heap.size (w7.setCell ⟨w.heap.size, 4, none⟩ (.string BB)) w8 := by simpa using hb8
        have n7 : w.heap.size + 1 + 1 + 1 ≤ w7.heap.size := HRW7.out.2.2.2.2.2.2
        have hst : Below w.heap.size w7 (w7.setCell ⟨w.heap.size, 4, none⟩ (.string BB)) := (Below.refl w.heap.size w7).setCell (p := ⟨w.heap.size, 4, none⟩) (Nat.le_refl _) _
        have HT8 := Lib.hid ((HRW7.out.1.body BB).below hb9 (by omega))
        have HZ8 := Lib.hid (show Boxed w8 (w.heap.size + 1 + 1) ⟨#[]⟩ ⟨#[]⟩ 0 0 ⟨#[]⟩ from Boxed.below (W := w7.setCell ⟨w.heap.size, 4, none⟩ (.string BB)) (by
          obtain ⟨r0, r1, r2, r3, r4⟩ := HRW7.out.2.2.1
          refine ⟨?_, ?_, ?_, ?_, ?_⟩ <;> simp [go_sem, *]) hb9 (by omega))
        have HF8 := Lib.hid ((HRW7.out.2.2.2.2.1.set ⟨w.heap.size, 4, none⟩ (.string BB)).below hb9 (by omega))
        have HB8 := Lib.hid ((HRW7.out.2.2.2.2.2.1.trans hst).trans (hb9.mono (by omega)))
        clear hb8 hb9 hst x0 x1 x2 x3 x4 xf n1
        obtain ⟨u0, u1, u2, u3, u4⟩ := HT8.out
        obtain ⟨z0', z1', z2', z3', z4'⟩ := HZ8.out
        have zf : ∀ o, w8.frozen? ⟨w.heap.size + 1 + 1, o, none⟩ = false := HF8.out
        have q1 : w.heap.size + 1 + 1 < w8.heap.size := World.block_lt_of_cell? _ _ z0'
        have q2 : w.heap.size < w8.heap.size := World.block_lt_of_cell? _ _ u0
        go_wp2
        exact bodyPost_ret (v := .tuple #[.agg #[.string ⟨#[]⟩, .string ⟨#[]⟩, .int .i64 0, .int .i64 0, .string ⟨#[]⟩], .int .i64 1]) (by simp [results, Try.results9, go_sem, *]) rfl ⟨rfl, below5 HB8.out (by omega)⟩
      · have h1 : (v == 0) = false := by simpa using h0
        go_wp2_with fail
        refine (rtwo_at hvb HSV.out _).mono ?_
        rintro e w7 ⟨rfl, hb7⟩
        have HRW7 := Lib.hid (HRW6.out.step hb7 HRW6.out.2.2.2.2.2.2)
        clear hb7 y0 y1 y2 y3 y4 n2
        obtain ⟨x0, x1, x2, x3, x4⟩ := HRW7.out.1
        have xf : ∀ o, w7.frozen? ⟨w.heap.size, o, none⟩ = false := HRW7.out.2.2.2.1
        have n1 : w.heap.size < w7.heap.size := World.block_lt_of_cell? _ _ x0
        go_wp2_with fail
        refine (renc_no f t 6 l0 BB _ hf ht (by omega) HOK.out).mono ?_
        rintro e w8 ⟨rfl, hb8⟩
        have hb9 : Below w7.heap.size (w7.setCell ⟨w.heap.size, 4, none⟩ (.string BB)) w8 := by simpa using hb8
        have n7 : w.heap.size + 1 + 1 + 1 ≤ w7.heap.size := HRW7.out.2.2.2.2.2.2
        have hst : Below w.heap.size w7 (w7.setCell ⟨w.heap.size, 4, none⟩ (.string BB)) := (Below.refl w.heap.size w7).setCell (p := ⟨w.heap.size, 4, none⟩) (Nat.le_refl _) _
        have HT8 := Lib.hid ((HRW7.out.1.body BB).below hb9 (by omega))
        have HZ8 := Lib.hid (show Boxed w8 (w.heap.size + 1 + 1) ⟨#[]⟩ ⟨#[]⟩ 0 0 ⟨#[]⟩ from Boxed.below (W := w7.setCell ⟨w.heap.size, 4, none⟩ (.string BB)) (by
          obtain ⟨r0, r1, r2, r3, r4⟩ := HRW7.out.2.2.1
          refine ⟨?_, ?_, ?_, ?_, ?_⟩ <;> simp [go_sem, *]) hb9 (by omega))
        have HF8 := Lib.hid ((HRW7.out.2.2.2.2.1.set ⟨w.heap.size, 4, none⟩ (.string BB)).below hb9 (by omega))
        have HB8 := Lib.hid ((HRW7.out.2.2.2.2.2.1.trans hst).trans (hb9.mono (by omega)))
        clear hb8 hb9 hst x0 x1 x2 x3 x4 xf n1
        obtain ⟨u0, u1, u2, u3, u4⟩ := HT8.out
        obtain ⟨z0', z1', z2', z3', z4'⟩ := HZ8.out
        have zf : ∀ o, w8.frozen? ⟨w.heap.size + 1 + 1, o, none⟩ = false := HF8.out
        have q1 : w.heap.size + 1 + 1 < w8.heap.size := World.block_lt_of_cell? _ _ z0'
        have q2 : w.heap.size < w8.heap.size := World.block_lt_of_cell? _ _ u0
        go_wp2
        exact bodyPost_ret (v := .tuple #[.agg #[.string ⟨#[]⟩, .string ⟨#[]⟩, .int .i64 0, .int .i64 0, .string ⟨#[]⟩], .int .i64 1]) (by simp [results, Try.results9, go_sem, *]) rfl ⟨rfl, below5 HB8.out (by omega)⟩
    · go_simp
      refine hK.out _ _ ?_ (fun hHeld => ?_)
      · exact (HRW4.out.step ((Below.refl w4.heap.size w4).alloc (Nat.le_refl _) _) HRW4.out.2.2.2.2.2.2).2.1
      clear hK K
      try simp only [Act.put, List.setIfInBounds_toArray, List.set_cons_zero, List.set_cons_succ]
      have HRW4l := Lib.hid (show RW w ((w4.alloc (.cells #[.int .u8 l] 5))) f t 6 l0 s0 a b l from HRW4.out.step ((Below.refl w4.heap.size w4).alloc (Nat.le_refl _) _) HRW4.out.2.2.2.2.2.2)
      have HPL := Lib.hid (show Part ((w4.alloc (.cells #[.int .u8 l] 5))) ⟨some ⟨w4.heap.size, 0, none⟩, 1, 1, [l]⟩ from part_at (w := w4) (t := 5) (zs := [l]) (Byt.cons (by omega) Byt.nil) rfl)
      have hcl := convert_part HPL.out 9 Try.underlying9
      rw [HSL.out] at hcl
      refine wpAnyH_more (S' := fun W => (W.cell? ⟨w.heap.size + 1, 0, none⟩ = some (.int .i64 6) ∧ W.cell? ⟨w.heap.size + 1, 1, none⟩ = some (.int .i64 a) ∧ W.cell? ⟨w.heap.size + 1, 2, none⟩ = some (.int .i64 b) ∧ W.cell? ⟨w.heap.size + 1, 3, none⟩ = some (.int .i64 l) ∧ W.cell? ⟨w.heap.size + 1, 4, none⟩ = some (.int .i64 0)) ∧ (convert 42 9 (.slice (some ⟨w4.heap.size, 0, none⟩) 1 1)).run Try.prog W = .ok (.string sl) W) (fun _ h => h.1) _ _ _ _ ?_
      have hHeld2 : (fun W => (W.cell? ⟨w.heap.size + 1, 0, none⟩ = some (.int .i64 6) ∧ W.cell? ⟨w.heap.size + 1, 1, none⟩ = some (.int .i64 a) ∧ W.cell? ⟨w.heap.size + 1, 2, none⟩ = some (.int .i64 b) ∧ W.cell? ⟨w.heap.size + 1, 3, none⟩ = some (.int .i64 l) ∧ W.cell? ⟨w.heap.size + 1, 4, none⟩ = some (.int .i64 0)) ∧ (convert 42 9 (.slice (some ⟨w4.heap.size, 0, none⟩) 1 1)).run Try.prog W = .ok (.string sl) W) ((w4.alloc (.cells #[.int .u8 l] 5))) := ⟨HRW4l.out.2.1, hcl⟩
      clear hHeld hcl
      refine wpAnyH_take (i := 12) (oi := ({ dst := some 101, op := Go.Op.convert 42 9 (Go.Operand.tmp 100), type := 9, pos := _, after := #[{ on := 11, ground := Go.Ground.data }], guard := none } : Oper)) (v := ?_) rfl (by kernel_rfl) (by kernel_rfl) (by kernel_rfl) (fun _ _ _ h => h) (Or.inl ⟨by rfl, ?_⟩) (by assumption) ?_
      rotate_left
      · intro W' hSw
        try dsimp only at hSw
        go_simp
        try with_reducible rfl
      try simp only [Act.put, List.setIfInBounds_toArray, List.set_cons_zero, List.set_cons_succ]
      refine wpAnyH_ready (rs := [5]) (by kernel_rfl) (by simp) ?_
      refine AllReadyH.cons (o := ({ dst := some 94, op := Go.Op.call { callee := Go.Callee.value (Go.Operand.func 22), args := #[Go.Operand.tmp 93], argTypes := #[3] }, type := 9, pos := _, after := #[{ on := 4, ground := Go.Ground.data }, { on := 2, ground := Go.Ground.chain }], guard := none } : Oper)) rfl (fun K hK => ?_) AllReadyH.nil
      go_simp
      refine (rtwo_at hb HSB.out _).mono ?_
      rintro e w5 ⟨rfl, hb5⟩
      go_wp2_with fail
      refine hK.out _ _ ?_ (fun hHeld => ?_)
      · exact ⟨(HRW4l.out.step hb5 HRW4l.out.2.2.2.2.2.2).2.1, (by have h := convert_part (HPL.out.below hb5) 9 Try.underlying9; rw [HSL.out] at h; exact h)⟩
      clear hK K
      try simp only [Act.put, List.setIfInBounds_toArray, List.set_cons_zero, List.set_cons_succ]
      have HRW5 := Lib.hid (HRW4l.out.step hb5 HRW4l.out.2.2.2.2.2.2)
      have HPL := Lib.hid (HPL.out.below hb5)
      clear hb5
      refine wpAnyH_take (i := 6) (oi := ({ dst := some 95, op := Go.Op.binOp Go.BinOp.add 9 (Go.Operand.tmp 91) (Go.Operand.tmp 94) 9, type := 9, pos := _, after := #[{ on := 2, ground := Go.Ground.data }, { on := 5, ground := Go.Ground.data }], guard := none } : Oper)) (v := ?_) rfl (by kernel_rfl) (by kernel_rfl) (by kernel_rfl) (fun _ _ _ h => h) (Or.inl ⟨by rfl, ?_⟩) (by assumption) ?_
      rotate_left
      · intro W' hSw
        try dsimp only at hSw
        go_simp
        try with_reducible rfl
      try simp only [Act.put, List.setIfInBounds_toArray, List.set_cons_zero, List.set_cons_succ]
      refine wpAnyH_take (i := 7) (oi := ({ dst := some 96, op := Go.Op.binOp Go.BinOp.add 9 (Go.Operand.tmp 95) (Go.Operand.const (Go.Value.string { data := #[0, 0, 0, 0, 0, 0, 0, 0, 80] })) 9, type := 9, pos := _, after := #[{ on := 6, ground := Go.Ground.data }], guard := none } : Oper)) (v := ?_) rfl (by kernel_rfl) (by kernel_rfl) (by kernel_rfl) (fun _ _ _ h => h) (Or.inl ⟨by rfl, ?_⟩) (by assumption) ?_
      rotate_left
      · intro W' hSw
        try dsimp only at hSw
        go_simp
        try with_reducible rfl
      try simp only [Act.put, List.setIfInBounds_toArray, List.set_cons_zero, List.set_cons_succ]
      refine wpAnyH_take (i := 13) (oi := ({ dst := some 102, op := Go.Op.binOp Go.BinOp.add 9 (Go.Operand.tmp 96) (Go.Operand.tmp 101) 9, type := 9, pos := _, after := #[{ on := 7, ground := Go.Ground.data }, { on := 12, ground := Go.Ground.data }], guard := none } : Oper)) (v := ?_) rfl (by kernel_rfl) (by kernel_rfl) (by kernel_rfl) (fun _ _ _ h => h) (Or.inl ⟨by rfl, ?_⟩) (by assumption) ?_
      rotate_left
      · intro W' hSw
        try dsimp only at hSw
        go_simp
        try with_reducible rfl
      try simp only [Act.put, List.setIfInBounds_toArray, List.set_cons_zero, List.set_cons_succ]
      refine wpAnyH_take (i := 14) (oi := ({ dst := some 103, op := Go.Op.binOp Go.BinOp.add 9 (Go.Operand.tmp 102) (Go.Operand.const (Go.Value.string { data := #[255, 255] })) 9, type := 9, pos := _, after := #[{ on := 13, ground := Go.Ground.data }], guard := none } : Oper)) (v := ?_) rfl (by kernel_rfl) (by kernel_rfl) (by kernel_rfl) (fun _ _ _ h => h) (Or.inl ⟨by rfl, ?_⟩) (by assumption) ?_
      rotate_left
      · intro W' hSw
        try dsimp only at hSw
        go_simp
        try with_reducible rfl
      try simp only [Act.put, List.setIfInBounds_toArray, List.set_cons_zero, List.set_cons_succ]
      refine wpAnyH_take (i := 15) (oi := ({ dst := some 8, op := Go.Op.assign (Go.Operand.tmp 103), type := 9, pos := _, after := #[{ on := 14, ground := Go.Ground.data }, { on := 5, ground := Go.Ground.chain }, { on := 0, ground := Go.Ground.phase }, { on := 1, ground := Go.Ground.phase }, { on := 2, ground := Go.Ground.phase }, { on := 3, ground := Go.Ground.phase }, { on := 4, ground := Go.Ground.phase }, { on := 5, ground := Go.Ground.phase }, { on := 6, ground := Go.Ground.phase }, { on := 7, ground := Go.Ground.phase }, { on := 8, ground := Go.Ground.phase }, { on := 9, ground := Go.Ground.phase }, { on := 10, ground := Go.Ground.phase }, { on := 11, ground := Go.Ground.phase }, { on := 12, ground := Go.Ground.phase }, { on := 13, ground := Go.Ground.phase }, { on := 14, ground := Go.Ground.phase }], guard := none } : Oper)) (v := ?_) rfl (by kernel_rfl) (by kernel_rfl) (by kernel_rfl) (fun _ _ _ h => h) (Or.inl ⟨by rfl, ?_⟩) (by assumption) ?_
      rotate_left
      · intro W' hSw
        try dsimp only at hSw
        go_simp
        try with_reducible rfl
      try simp only [Act.put, List.setIfInBounds_toArray, List.set_cons_zero, List.set_cons_succ]
      refine wpAnyH_done (by kernel_rfl) ?_ _
      obtain ⟨x0, x1, x2, x3, x4⟩ := HRW5.out.1
      obtain ⟨y0, y1, y2, y3, y4⟩ := HRW5.out.2.1
      have n1 : w.heap.size < w5.heap.size := World.block_lt_of_cell? _ _ x0
      have n2 : w.heap.size + 1 < w5.heap.size := World.block_lt_of_cell? _ _ y0
      go_wp2_with fail
      refine (rsum_pk f t 6 l0 s0 B0 g _ hf ht (by omega) (by omega) HSUM.out).mono ?_
      rintro e w6 ⟨rfl, hb6⟩
      have HRW6 := Lib.hid (HRW5.out.step hb6 HRW5.out.2.2.2.2.2.2)
      clear hb6 x0 x1 x2 x3 x4 y0 y1 y2 y3 y4 n1 n2
      obtain ⟨y0, y1, y2, y3, y4⟩ := HRW6.out.2.1
      have n2 : w.heap.size + 1 < w6.heap.size := World.block_lt_of_cell? _ _ y0
      by_cases h0 : v = 0
      · subst h0
        go_wp2_with fail
        refine (rtwo_at (x := 0) hvb HSV.out _).mono ?_
        rintro e w7 ⟨rfl, hb7⟩
        have HRW7 := Lib.hid (HRW6.out.step hb7 HRW6.out.2.2.2.2.2.2)
        clear hb7 y0 y1 y2 y3 y4 n2
        obtain ⟨x0, x1, x2, x3, x4⟩ := HRW7.out.1
        have xf : ∀ o, w7.frozen? ⟨w.heap.size, o, none⟩ = false := HRW7.out.2.2.2.1
        have n1 : w.heap.size < w7.heap.size := World.block_lt_of_cell? _ _ x0
        go_wp2_with fail
        refine (renc_no f t 6 l0 BB _ hf ht (by omega) HOK.out).mono ?_
        rintro e w8 ⟨rfl, hb8⟩
        have hb9 : Below w7.heap.size (w7.setCell ⟨w.heap.size, 4, none⟩ (.string BB)) w8 := by simpa using hb8
        have n7 : w.heap.size + 1 + 1 + 1 ≤ w7.heap.size := HRW7.out.2.2.2.2.2.2
        have hst : Below w.heap.size w7 (w7.setCell ⟨w.heap.size, 4, none⟩ (.string BB)) := (Below.refl w.heap.size w7).setCell (p := ⟨w.heap.size, 4, none⟩) (Nat.le_refl _) _
        have HT8 := Lib.hid ((HRW7.out.1.body BB).below hb9 (by omega))
        have HZ8 := Lib.hid (show Boxed w8 (w.heap.size + 1 + 1) ⟨#[]⟩ ⟨#[]⟩ 0 0 ⟨#[]⟩ from Boxed.below (W := w7.setCell ⟨w.heap.size, 4, none⟩ (.string BB)) (by
          obtain ⟨r0, r1, r2, r3, r4⟩ := HRW7.out.2.2.1
          refine ⟨?_, ?_, ?_, ?_, ?_⟩ <;> simp [go_sem, *]) hb9 (by omega))
        have HF8 := Lib.hid ((HRW7.out.2.2.2.2.1.set ⟨w.heap.size, 4, none⟩ (.string BB)).below hb9 (by omega))
        have HB8 := Lib.hid ((HRW7.out.2.2.2.2.2.1.trans hst).trans (hb9.mono (by omega)))
        clear hb8 hb9 hst x0 x1 x2 x3 x4 xf n1
        obtain ⟨u0, u1, u2, u3, u4⟩ := HT8.out
        obtain ⟨z0', z1', z2', z3', z4'⟩ := HZ8.out
        have zf : ∀ o, w8.frozen? ⟨w.heap.size + 1 + 1, o, none⟩ = false := HF8.out
        have q1 : w.heap.size + 1 + 1 < w8.heap.size := World.block_lt_of_cell? _ _ z0'
        have q2 : w.heap.size < w8.heap.size := World.block_lt_of_cell? _ _ u0
        go_wp2
        exact bodyPost_ret (v := .tuple #[.agg #[.string ⟨#[]⟩, .string ⟨#[]⟩, .int .i64 0, .int .i64 0, .string ⟨#[]⟩], .int .i64 1]) (by simp [results, Try.results9, go_sem, *]) rfl ⟨rfl, below5 HB8.out (by omega)⟩
      · have h1 : (v == 0) = false := by simpa using h0
        go_wp2_with fail
        refine (rtwo_at hvb HSV.out _).mono ?_
        rintro e w7 ⟨rfl, hb7⟩
        have HRW7 := Lib.hid (HRW6.out.step hb7 HRW6.out.2.2.2.2.2.2)
        clear hb7 y0 y1 y2 y3 y4 n2
        obtain ⟨x0, x1, x2, x3, x4⟩ := HRW7.out.1
        have xf : ∀ o, w7.frozen? ⟨w.heap.size, o, none⟩ = false := HRW7.out.2.2.2.1
        have n1 : w.heap.size < w7.heap.size := World.block_lt_of_cell? _ _ x0
        go_wp2_with fail
        refine (renc_no f t 6 l0 BB _ hf ht (by omega) HOK.out).mono ?_
        rintro e w8 ⟨rfl, hb8⟩
        have hb9 : Below w7.heap.size (w7.setCell ⟨w.heap.size, 4, none⟩ (.string BB)) w8 := by simpa using hb8
        have n7 : w.heap.size + 1 + 1 + 1 ≤ w7.heap.size := HRW7.out.2.2.2.2.2.2
        have hst : Below w.heap.size w7 (w7.setCell ⟨w.heap.size, 4, none⟩ (.string BB)) := (Below.refl w.heap.size w7).setCell (p := ⟨w.heap.size, 4, none⟩) (Nat.le_refl _) _
        have HT8 := Lib.hid ((HRW7.out.1.body BB).below hb9 (by omega))
        have HZ8 := Lib.hid (show Boxed w8 (w.heap.size + 1 + 1) ⟨#[]⟩ ⟨#[]⟩ 0 0 ⟨#[]⟩ from Boxed.below (W := w7.setCell ⟨w.heap.size, 4, none⟩ (.string BB)) (by
          obtain ⟨r0, r1, r2, r3, r4⟩ := HRW7.out.2.2.1
          refine ⟨?_, ?_, ?_, ?_, ?_⟩ <;> simp [go_sem, *]) hb9 (by omega))
        have HF8 := Lib.hid ((HRW7.out.2.2.2.2.1.set ⟨w.heap.size, 4, none⟩ (.string BB)).below hb9 (by omega))
        have HB8 := Lib.hid ((HRW7.out.2.2.2.2.2.1.trans hst).trans (hb9.mono (by omega)))
        clear hb8 hb9 hst x0 x1 x2 x3 x4 xf n1
        obtain ⟨u0, u1, u2, u3, u4⟩ := HT8.out
        obtain ⟨z0', z1', z2', z3', z4'⟩ := HZ8.out
        have zf : ∀ o, w8.frozen? ⟨w.heap.size + 1 + 1, o, none⟩ = false := HF8.out
        have q1 : w.heap.size + 1 + 1 < w8.heap.size := World.block_lt_of_cell? _ _ z0'
        have q2 : w.heap.size < w8.heap.size := World.block_lt_of_cell? _ _ u0
        go_wp2
        exact bodyPost_ret (v := .tuple #[.agg #[.string ⟨#[]⟩, .string ⟨#[]⟩, .int .i64 0, .int .i64 0, .string ⟨#[]⟩], .int .i64 1]) (by simp [results, Try.results9, go_sem, *]) rfl ⟨rfl, below5 HB8.out (by omega)⟩
  · go_simp
    refine hK.out _ _ ?_ (fun hHeld => ?_)
    · exact (HRW3d.out.step ((Below.refl w3.drew.heap.size w3.drew).alloc (Nat.le_refl _) _) HRW3d.out.2.2.2.2.2.2).2.1
    clear hK K
    try simp only [Act.put, List.setIfInBounds_toArray, List.set_cons_zero, List.set_cons_succ]
    have HRW3l := Lib.hid (show RW w ((w3.alloc (.cells #[.int .u8 l] 5)).drew) f t 6 l0 s0 a b l from HRW3d.out.step ((Below.refl w3.drew.heap.size w3.drew).alloc (Nat.le_refl _) _) HRW3d.out.2.2.2.2.2.2)
    have HPL := Lib.hid (show Part ((w3.alloc (.cells #[.int .u8 l] 5)).drew) ⟨some ⟨w3.heap.size, 0, none⟩, 1, 1, [l]⟩ from part_at (w := w3) (t := 5) (zs := [l]) (Byt.cons (by omega) Byt.nil) rfl)
    have hcl := convert_part HPL.out 9 Try.underlying9
    rw [HSL.out] at hcl
    refine wpAnyH_more (S' := fun W => (W.cell? ⟨w.heap.size + 1, 0, none⟩ = some (.int .i64 6) ∧ W.cell? ⟨w.heap.size + 1, 1, none⟩ = some (.int .i64 a) ∧ W.cell? ⟨w.heap.size + 1, 2, none⟩ = some (.int .i64 b) ∧ W.cell? ⟨w.heap.size + 1, 3, none⟩ = some (.int .i64 l) ∧ W.cell? ⟨w.heap.size + 1, 4, none⟩ = some (.int .i64 0)) ∧ (convert 42 9 (.slice (some ⟨w3.heap.size, 0, none⟩) 1 1)).run Try.prog W = .ok (.string sl) W) (fun _ h => h.1) _ _ _ _ ?_
    have hHeld2 : (fun W => (W.cell? ⟨w.heap.size + 1, 0, none⟩ = some (.int .i64 6) ∧ W.cell? ⟨w.heap.size + 1, 1, none⟩ = some (.int .i64 a) ∧ W.cell? ⟨w.heap.size + 1, 2, none⟩ = some (.int .i64 b) ∧ W.cell? ⟨w.heap.size + 1, 3, none⟩ = some (.int .i64 l) ∧ W.cell? ⟨w.heap.size + 1, 4, none⟩ = some (.int .i64 0)) ∧ (convert 42 9 (.slice (some ⟨w3.heap.size, 0, none⟩) 1 1)).run Try.prog W = .ok (.string sl) W) ((w3.alloc (.cells #[.int .u8 l] 5)).drew) := ⟨HRW3l.out.2.1, hcl⟩
    clear hHeld hcl
    refine wpAnyH_take (i := 12) (oi := ({ dst := some 101, op := Go.Op.convert 42 9 (Go.Operand.tmp 100), type := 9, pos := _, after := #[{ on := 11, ground := Go.Ground.data }], guard := none } : Oper)) (v := ?_) rfl (by kernel_rfl) (by kernel_rfl) (by kernel_rfl) (fun _ _ _ h => h) (Or.inl ⟨by rfl, ?_⟩) (by assumption) ?_
    rotate_left
    · intro W' hSw
      try dsimp only at hSw
      go_simp
      try with_reducible rfl
    try simp only [Act.put, List.setIfInBounds_toArray, List.set_cons_zero, List.set_cons_succ]
    refine wpAnyH_ready (rs := [2]) (by kernel_rfl) (by simp) ?_
    refine AllReadyH.cons (o := ({ dst := some 91, op := Go.Op.call { callee := Go.Callee.value (Go.Operand.func 22), args := #[Go.Operand.tmp 90], argTypes := #[3] }, type := 9, pos := _, after := #[{ on := 1, ground := Go.Ground.data }], guard := none } : Oper)) rfl (fun K hK => ?_) AllReadyH.nil
    go_simp
    refine (rtwo_at ha HSA.out _).mono ?_
    rintro e w4 ⟨rfl, hb4⟩
    go_wp2_with fail
    refine hK.out _ _ ?_ (fun hHeld => ?_)
    · exact ⟨(HRW3l.out.step hb4 HRW3l.out.2.2.2.2.2.2).2.1, (by have h := convert_part (HPL.out.below hb4) 9 Try.underlying9; rw [HSL.out] at h; exact h)⟩
    clear hK K
    try simp only [Act.put, List.setIfInBounds_toArray, List.set_cons_zero, List.set_cons_succ]
    have HRW4 := Lib.hid (HRW3l.out.step hb4 HRW3l.out.2.2.2.2.2.2)
    have HPL := Lib.hid (HPL.out.below hb4)
    clear hb4
    refine wpAnyH_ready (rs := [5]) (by kernel_rfl) (by simp) ?_
    refine AllReadyH.cons (o := ({ dst := some 94, op := Go.Op.call { callee := Go.Callee.value (Go.Operand.func 22), args := #[Go.Operand.tmp 93], argTypes := #[3] }, type := 9, pos := _, after := #[{ on := 4, ground := Go.Ground.data }, { on := 2, ground := Go.Ground.chain }], guard := none } : Oper)) rfl (fun K hK => ?_) AllReadyH.nil
    go_simp
    refine (rtwo_at hb HSB.out _).mono ?_
    rintro e w5 ⟨rfl, hb5⟩
    go_wp2_with fail
    refine hK.out _ _ ?_ (fun hHeld => ?_)
    · exact ⟨(HRW4.out.step hb5 HRW4.out.2.2.2.2.2.2).2.1, (by have h := convert_part (HPL.out.below hb5) 9 Try.underlying9; rw [HSL.out] at h; exact h)⟩
    clear hK K
    try simp only [Act.put, List.setIfInBounds_toArray, List.set_cons_zero, List.set_cons_succ]
    have HRW5 := Lib.hid (HRW4.out.step hb5 HRW4.out.2.2.2.2.2.2)
    have HPL := Lib.hid (HPL.out.below hb5)
    clear hb5
    refine wpAnyH_take (i := 6) (oi := ({ dst := some 95, op := Go.Op.binOp Go.BinOp.add 9 (Go.Operand.tmp 91) (Go.Operand.tmp 94) 9, type := 9, pos := _, after := #[{ on := 2, ground := Go.Ground.data }, { on := 5, ground := Go.Ground.data }], guard := none } : Oper)) (v := ?_) rfl (by kernel_rfl) (by kernel_rfl) (by kernel_rfl) (fun _ _ _ h => h) (Or.inl ⟨by rfl, ?_⟩) (by assumption) ?_
    rotate_left
    · intro W' hSw
      try dsimp only at hSw
      go_simp
      try with_reducible rfl
    try simp only [Act.put, List.setIfInBounds_toArray, List.set_cons_zero, List.set_cons_succ]
    refine wpAnyH_take (i := 7) (oi := ({ dst := some 96, op := Go.Op.binOp Go.BinOp.add 9 (Go.Operand.tmp 95) (Go.Operand.const (Go.Value.string { data := #[0, 0, 0, 0, 0, 0, 0, 0, 80] })) 9, type := 9, pos := _, after := #[{ on := 6, ground := Go.Ground.data }], guard := none } : Oper)) (v := ?_) rfl (by kernel_rfl) (by kernel_rfl) (by kernel_rfl) (fun _ _ _ h => h) (Or.inl ⟨by rfl, ?_⟩) (by assumption) ?_
    rotate_left
    · intro W' hSw
      try dsimp only at hSw
      go_simp
      try with_reducible rfl
    try simp only [Act.put, List.setIfInBounds_toArray, List.set_cons_zero, List.set_cons_succ]
    refine wpAnyH_take (i := 13) (oi := ({ dst := some 102, op := Go.Op.binOp Go.BinOp.add 9 (Go.Operand.tmp 96) (Go.Operand.tmp 101) 9, type := 9, pos := _, after := #[{ on := 7, ground := Go.Ground.data }, { on := 12, ground := Go.Ground.data }], guard := none } : Oper)) (v := ?_) rfl (by kernel_rfl) (by kernel_rfl) (by kernel_rfl) (fun _ _ _ h => h) (Or.inl ⟨by rfl, ?_⟩) (by assumption) ?_
    rotate_left
    · intro W' hSw
      try dsimp only at hSw
      go_simp
      try with_reducible rfl
    try simp only [Act.put, List.setIfInBounds_toArray, List.set_cons_zero, List.set_cons_succ]
    refine wpAnyH_take (i := 14) (oi := ({ dst := some 103, op := Go.Op.binOp Go.BinOp.add 9 (Go.Operand.tmp 102) (Go.Operand.const (Go.Value.string { data := #[255, 255] })) 9, type := 9, pos := _, after := #[{ on := 13, ground := Go.Ground.data }], guard := none } : Oper)) (v := ?_) rfl (by kernel_rfl) (by kernel_rfl) (by kernel_rfl) (fun _ _ _ h => h) (Or.inl ⟨by rfl, ?_⟩) (by assumption) ?_
    rotate_left
    · intro W' hSw
      try dsimp only at hSw
      go_simp
      try with_reducible rfl
    try simp only [Act.put, List.setIfInBounds_toArray, List.set_cons_zero, List.set_cons_succ]
    refine wpAnyH_take (i := 15) (oi := ({ dst := some 8, op := Go.Op.assign (Go.Operand.tmp 103), type := 9, pos := _, after := #[{ on := 14, ground := Go.Ground.data }, { on := 5, ground := Go.Ground.chain }, { on := 0, ground := Go.Ground.phase }, { on := 1, ground := Go.Ground.phase }, { on := 2, ground := Go.Ground.phase }, { on := 3, ground := Go.Ground.phase }, { on := 4, ground := Go.Ground.phase }, { on := 5, ground := Go.Ground.phase }, { on := 6, ground := Go.Ground.phase }, { on := 7, ground := Go.Ground.phase }, { on := 8, ground := Go.Ground.phase }, { on := 9, ground := Go.Ground.phase }, { on := 10, ground := Go.Ground.phase }, { on := 11, ground := Go.Ground.phase }, { on := 12, ground := Go.Ground.phase }, { on := 13, ground := Go.Ground.phase }, { on := 14, ground := Go.Ground.phase }], guard := none } : Oper)) (v := ?_) rfl (by kernel_rfl) (by kernel_rfl) (by kernel_rfl) (fun _ _ _ h => h) (Or.inl ⟨by rfl, ?_⟩) (by assumption) ?_
    rotate_left
    · intro W' hSw
      try dsimp only at hSw
      go_simp
      try with_reducible rfl
    try simp only [Act.put, List.setIfInBounds_toArray, List.set_cons_zero, List.set_cons_succ]
    refine wpAnyH_done (by kernel_rfl) ?_ _
    obtain ⟨x0, x1, x2, x3, x4⟩ := HRW5.out.1
    obtain ⟨y0, y1, y2, y3, y4⟩ := HRW5.out.2.1
    have n1 : w.heap.size < w5.heap.size := World.block_lt_of_cell? _ _ x0
    have n2 : w.heap.size + 1 < w5.heap.size := World.block_lt_of_cell? _ _ y0
    go_wp2_with fail
    refine (rsum_pk f t 6 l0 s0 B0 g _ hf ht (by omega) (by omega) HSUM.out).mono ?_
    rintro e w6 ⟨rfl, hb6⟩
    have HRW6 := Lib.hid (HRW5.out.step hb6 HRW5.out.2.2.2.2.2.2)
    clear hb6 x0 x1 x2 x3 x4 y0 y1 y2 y3 y4 n1 n2
    obtain ⟨y0, y1, y2, y3, y4⟩ := HRW6.out.2.1
    have n2 : w.heap.size + 1 < w6.heap.size := World.block_lt_of_cell? _ _ y0
    by_cases h0 : v = 0
    · subst h0
      go_wp2_with fail
      refine (rtwo_at (x := 0) hvb HSV.out _).mono ?_
      rintro e w7 ⟨rfl, hb7⟩
      have HRW7 := Lib.hid (HRW6.out.step hb7 HRW6.out.2.2.2.2.2.2)
      clear hb7 y0 y1 y2 y3 y4 n2
      obtain ⟨x0, x1, x2, x3, x4⟩ := HRW7.out.1
      have xf : ∀ o, w7.frozen? ⟨w.heap.size, o, none⟩ = false := HRW7.out.2.2.2.1
      have n1 : w.heap.size < w7.heap.size := World.block_lt_of_cell? _ _ x0
      go_wp2_with fail
      refine (renc_no f t 6 l0 BB _ hf ht (by omega) HOK.out).mono ?_
      rintro e w8 ⟨rfl, hb8⟩
      have hb9 : Below w7.heap.size (w7.setCell ⟨w.heap.size, 4, none⟩ (.string BB)) w8 := by simpa using hb8
      have n7 : w.heap.size + 1 + 1 + 1 ≤ w7.heap.size := HRW7.out.2.2.2.2.2.2
      have hst : Below w.heap.size w7 (w7.setCell ⟨w.heap.size, 4, none⟩ (.string BB)) := (Below.refl w.heap.size w7).setCell (p := ⟨w.heap.size, 4, none⟩) (Nat.le_refl _) _
      have HT8 := Lib.hid ((HRW7.out.1.body BB).below hb9 (by omega))
      have HZ8 := Lib.hid (show Boxed w8 (w.heap.size + 1 + 1) ⟨#[]⟩ ⟨#[]⟩ 0 0 ⟨#[]⟩ from Boxed.below (W := w7.setCell ⟨w.heap.size, 4, none⟩ (.string BB)) (by
        obtain ⟨r0, r1, r2, r3, r4⟩ := HRW7.out.2.2.1
        refine ⟨?_, ?_, ?_, ?_, ?_⟩ <;> simp [go_sem, *]) hb9 (by omega))
      have HF8 := Lib.hid ((HRW7.out.2.2.2.2.1.set ⟨w.heap.size, 4, none⟩ (.string BB)).below hb9 (by omega))
      have HB8 := Lib.hid ((HRW7.out.2.2.2.2.2.1.trans hst).trans (hb9.mono (by omega)))
      clear hb8 hb9 hst x0 x1 x2 x3 x4 xf n1
      obtain ⟨u0, u1, u2, u3, u4⟩ := HT8.out
      obtain ⟨z0', z1', z2', z3', z4'⟩ := HZ8.out
      have zf : ∀ o, w8.frozen? ⟨w.heap.size + 1 + 1, o, none⟩ = false := HF8.out
      have q1 : w.heap.size + 1 + 1 < w8.heap.size := World.block_lt_of_cell? _ _ z0'
      have q2 : w.heap.size < w8.heap.size := World.block_lt_of_cell? _ _ u0
      go_wp2
      exact bodyPost_ret (v := .tuple #[.agg #[.string ⟨#[]⟩, .string ⟨#[]⟩, .int .i64 0, .int .i64 0, .string ⟨#[]⟩], .int .i64 1]) (by simp [results, Try.results9, go_sem, *]) rfl ⟨rfl, below5 HB8.out (by omega)⟩
    · have h1 : (v == 0) = false := by simpa using h0
      go_wp2_with fail
      refine (rtwo_at hvb HSV.out _).mono ?_
      rintro e w7 ⟨rfl, hb7⟩
      have HRW7 := Lib.hid (HRW6.out.step hb7 HRW6.out.2.2.2.2.2.2)
      clear hb7 y0 y1 y2 y3 y4 n2
      obtain ⟨x0, x1, x2, x3, x4⟩ := HRW7.out.1
      have xf : ∀ o, w7.frozen? ⟨w.heap.size, o, none⟩ = false := HRW7.out.2.2.2.1
      have n1 : w.heap.size < w7.heap.size := World.block_lt_of_cell? _ _ x0
      go_wp2_with fail
      refine (renc_no f t 6 l0 BB _ hf ht (by omega) HOK.out).mono ?_
      rintro e w8 ⟨rfl, hb8⟩
      have hb9 : Below w7.heap.size (w7.setCell ⟨w.heap.size, 4, none⟩ (.string BB)) w8 := by simpa using hb8
      have n7 : w.heap.size + 1 + 1 + 1 ≤ w7.heap.size := HRW7.out.2.2.2.2.2.2
      have hst : Below w.heap.size w7 (w7.setCell ⟨w.heap.size, 4, none⟩ (.string BB)) := (Below.refl w.heap.size w7).setCell (p := ⟨w.heap.size, 4, none⟩) (Nat.le_refl _) _
      have HT8 := Lib.hid ((HRW7.out.1.body BB).below hb9 (by omega))
      have HZ8 := Lib.hid (show Boxed w8 (w.heap.size + 1 + 1) ⟨#[]⟩ ⟨#[]⟩ 0 0 ⟨#[]⟩ from Boxed.below (W := w7.setCell ⟨w.heap.size, 4, none⟩ (.string BB)) (by
        obtain ⟨r0, r1, r2, r3, r4⟩ := HRW7.out.2.2.1
        refine ⟨?_, ?_, ?_, ?_, ?_⟩ <;> simp [go_sem, *]) hb9 (by omega))
      have HF8 := Lib.hid ((HRW7.out.2.2.2.2.1.set ⟨w.heap.size, 4, none⟩ (.string BB)).below hb9 (by omega))
      have HB8 := Lib.hid ((HRW7.out.2.2.2.2.2.1.trans hst).trans (hb9.mono (by omega)))
      clear hb8 hb9 hst x0 x1 x2 x3 x4 xf n1
      obtain ⟨u0, u1, u2, u3, u4⟩ := HT8.out
      obtain ⟨z0', z1', z2', z3', z4'⟩ := HZ8.out
      have zf : ∀ o, w8.frozen? ⟨w.heap.size + 1 + 1, o, none⟩ = false := HF8.out
      have q1 : w.heap.size + 1 + 1 < w8.heap.size := World.block_lt_of_cell? _ _ z0'
      have q2 : w.heap.size < w8.heap.size := World.block_lt_of_cell? _ _ u0
      go_wp2
      exact bodyPost_ret (v := .tuple #[.agg #[.string ⟨#[]⟩, .string ⟨#[]⟩, .int .i64 0, .int .i64 0, .string ⟨#[]⟩], .int .i64 1]) (by simp [results, Try.results9, go_sem, *]) rfl ⟨rfl, below5 HB8.out (by omega)⟩

end Go.Proofs.Ytomcniakffipfaa
