/-
  What sip.Text and sip.Two do.
-/
import Derived.Test.YtpkahjflhboddaaSum
import Derived.Test.YtpkahjflhboddaaTrn
import Derived.Test.YtpkahjflhboddaaApp
import Derived.Lib.ConvBytes
import Derived.Deep.RegionHeld3
namespace Go.Proofs.Ytpkahjflhboddaa
open Go.RowKit
set_option linter.unusedVariables false
set_option maxRecDepth 10000

theorem ar16 {W : World} {B : Nat} {k0 k1 k2 k3 k4 k5 k6 k7 k8 k9 k10 k11 k12 k13 k14 k15 : Int} (h : Ar W B (cel [k0, k1, k2, k3, k4, k5, k6, k7, k8, k9, k10, k11, k12, k13, k14, k15])) : W.cell? ⟨B, 0, none⟩ = some (.int .u8 k0) ∧ W.cell? ⟨B, 1, none⟩ = some (.int .u8 k1) ∧ W.cell? ⟨B, 2, none⟩ = some (.int .u8 k2) ∧ W.cell? ⟨B, 3, none⟩ = some (.int .u8 k3) ∧ W.cell? ⟨B, 4, none⟩ = some (.int .u8 k4) ∧ W.cell? ⟨B, 5, none⟩ = some (.int .u8 k5) ∧ W.cell? ⟨B, 6, none⟩ = some (.int .u8 k6) ∧ W.cell? ⟨B, 7, none⟩ = some (.int .u8 k7) ∧ W.cell? ⟨B, 8, none⟩ = some (.int .u8 k8) ∧ W.cell? ⟨B, 9, none⟩ = some (.int .u8 k9) ∧ W.cell? ⟨B, 10, none⟩ = some (.int .u8 k10) ∧ W.cell? ⟨B, 11, none⟩ = some (.int .u8 k11) ∧ W.cell? ⟨B, 12, none⟩ = some (.int .u8 k12) ∧ W.cell? ⟨B, 13, none⟩ = some (.int .u8 k13) ∧ W.cell? ⟨B, 14, none⟩ = some (.int .u8 k14) ∧ W.cell? ⟨B, 15, none⟩ = some (.int .u8 k15) :=
  ⟨h.cell 0 rfl, h.cell 1 rfl, h.cell 2 rfl, h.cell 3 rfl, h.cell 4 rfl, h.cell 5 rfl, h.cell 6 rfl, h.cell 7 rfl, h.cell 8 rfl, h.cell 9 rfl, h.cell 10 rfl, h.cell 11 rfl, h.cell 12 rfl, h.cell 13 rfl, h.cell 14 rfl, h.cell 15 rfl⟩

/-- A text is made into bytes. -/
theorem conv_bytes (W : World) (B : Nat) (s : ByteArray) (sT : TypeId) (hsT : Try.prog.underlying sT = some .string) (hB : B ≤ W.heap.size) (hs : s.size ≤ 140737488351232) (N : Nat) (hN : N = W.heap.size) (n : Nat) (hn : s.size = n) :
    ∃ c W', (convert sT 77 (.string s)).run Try.prog W = .ok (.slice (some ⟨N, 0, none⟩) n c) W' ∧ Own W' B N n c (bts s) ∧ Below B W W' ∧ W'.heap.size = W.heap.size + 1 ∧ ∀ k, k < W.heap.size → W'.heap[k]? = W.heap[k]? := by
  subst hN hn
  have hr := Lib.run_convert_string_bytes (P := Try.prog) W sT 77 5 s hsT Try.underlying77 Try.underlying5
  have hge := grownCap_ge W s.size 0 5
  have hcm := grownCap_le_maxLen W s.size 0 5 (by simp only [maxLen]; omega)
  have hsz := Lib.bytesWorld_size W 5 s
  have hnew := Lib.bytesWorld_at_new W 5 s
  have hcs : (Lib.bytesCells W 5 s).size = grownCap W s.size 0 5 := by
    simp [Lib.bytesCells]
    omega
  refine ⟨_, _, hr, ⟨bts_len s, hB, hge, hcm, _, _, hnew, .inr (by rw [hcs]; exact Nat.le_refl _), hcs, ?_⟩, ⟨rfl, rfl, rfl, by omega, fun k hk => Lib.bytesWorld_at_old W 5 s k (by omega)⟩, hsz, fun k hk => Lib.bytesWorld_at_old W 5 s k hk⟩
  have e : (Lib.bytesCells W 5 s).toList = cel (bts s) ++ List.replicate (grownCap W s.size 0 5 - s.size) (.int .u8 0) := by simp [Lib.bytesCells, cel, bts]
  rw [e, show s.size = (cel (bts s)).length by rw [cel_len, bts_len], List.take_left]

set_option maxHeartbeats 1000000 in
/-- sip.Text. -/
theorem text_any (k : List Int) (s : ByteArray) (w : World) (hk : Key k) (hs : s.size ≤ 140737488351232) :
    Calls Try.prog 63 #[kv k, .string s] w fun e w' => e = .returned (.int .u64 (hsh k (bts s))) ∧ Below w.heap.size w w' := by
  have HS := Lib.hid (fun A n c w hp hn => sum_any k A n c (bts s) w hk hp hn)
  obtain ⟨v, hv⟩ : ∃ v, hsh k (bts s) = v := ⟨_, rfl⟩
  rw [hv] at HS ⊢
  obtain ⟨k0, k1, k2, k3, k4, k5, k6, k7, k8, k9, k10, k11, k12, k13, k14, k15, rfl⟩ := hk.letters
  clear hk hv
  obtain ⟨c0, w0, hr0, ho0, hb0, hz0, -⟩ := conv_bytes (w.alloc (.cells (cel [k0, k1, k2, k3, k4, k5, k6, k7, k8, k9, k10, k11, k12, k13, k14, k15]).toArray 51)) (w.heap.size + 1) s 9 Try.underlying9 (by simp) hs (w.heap.size + 1) (by simp) s.size rfl
  have HP0 := Lib.hid (ho0.part (bts_byt s))
  have HB0 : Hid (Below w.heap.size w w0) := Lib.hid (((Below.refl _ _).alloc (Nat.le_refl _) _).trans (hb0.mono (Nat.le_succ _)))
  clear ho0 hb0 hz0
  simp only [cel, List.map_cons, List.map_nil] at hr0
  rw [kv_lit] at HS ⊢
  go_enter Try.func63, Try.ntmps63
  go_wp2_with fail
  refine (HS.out _ _ _ _ HP0.out (by omega)).mono ?_
  rintro e w1 ⟨rfl, hb1⟩
  go_wp2
  go_ret
  exact ⟨rfl, below_then HB0.out HB0.out.size hb1⟩

set_option maxHeartbeats 2000000 in
/-- sip.Two. -/
theorem two_any (k : List Int) (s : ByteArray) (w : World) (hk : Key k) (hs : s.size ≤ 140737488351232) :
    Calls Try.prog 48 #[kv k, .string s] w fun e w' => e = .returned (.tuple #[.int .u64 (hsh k (bts s)), .int .u64 (hsh (trn k) (bts s))]) ∧ Below w.heap.size w w' := by
  have hkt : Key (trn k) := ⟨by rw [trn_len]; exact hk.1, trn_byt hk.2⟩
  have H1 := Lib.hid (fun w => text_any k s w hk hs)
  have H2 := Lib.hid (fun w => text_any (trn k) s w hkt hs)
  have HT := Lib.hid (fun w => turned_any k w hk)
  obtain ⟨v, hv⟩ : ∃ v, hsh k (bts s) = v := ⟨_, rfl⟩
  obtain ⟨u, hu⟩ : ∃ v, hsh (trn k) (bts s) = v := ⟨_, rfl⟩
  rw [hv] at H1 ⊢
  rw [hu] at H2 ⊢
  clear hv hu
  obtain ⟨t, ht⟩ : ∃ t, trn k = t := ⟨_, rfl⟩
  rw [ht] at H2 HT hkt
  clear ht
  obtain ⟨k0, k1, k2, k3, k4, k5, k6, k7, k8, k9, k10, k11, k12, k13, k14, k15, rfl⟩ := hk.letters
  obtain ⟨t0, t1, t2, t3, t4, t5, t6, t7, t8, t9, t10, t11, t12, t13, t14, t15, rfl⟩ := hkt.letters
  have hh : Ar (w.alloc (.cells (cel [k0, k1, k2, k3, k4, k5, k6, k7, k8, k9, k10, k11, k12, k13, k14, k15]).toArray 51)).drew w.heap.size (cel [k0, k1, k2, k3, k4, k5, k6, k7, k8, k9, k10, k11, k12, k13, k14, k15]) := ar_new w _ 51
  simp only [cel, List.map_cons, List.map_nil] at hh
  have HH := Lib.hid hh
  clear hh hk hkt
  simp only [kv_lit] at H1 H2 HT ⊢
  go_enter Try.func48, Try.ntmps48
  go_wp2
  refine wp_region_held_drew (S := fun W => Ar W w.heap.size (cel [k0, k1, k2, k3, k4, k5, k6, k7, k8, k9, k10, k11, k12, k13, k14, k15])) (by kernel_rfl) HH.out (fun hHeld => ?_)
  refine wpAnyH_take (i := 0) (oi := ({ dst := some 6, op := Go.Op.load 51 (Go.Operand.tmp 2), type := 51, pos := _, after := #[], guard := none } : Oper)) (v := ?_) rfl (by kernel_rfl) (by kernel_rfl) (by kernel_rfl) (fun _ _ _ h => h) (Or.inl ⟨by rfl, ?_⟩) (by assumption) ?_
  rotate_left
  · intro W' hSw
    try dsimp only at hSw
    obtain ⟨c0, c1, c2, c3, c4, c5, c6, c7, c8, c9, c10, c11, c12, c13, c14, c15⟩ := ar16 hSw
    go_simp
    try with_reducible rfl
  try simp only [Act.put, List.setIfInBounds_toArray, List.set_cons_zero, List.set_cons_succ]
  refine wpAnyH_take (i := 1) (oi := ({ dst := some 7, op := Go.Op.move (Go.Operand.tmp 1), type := 9, pos := _, after := #[], guard := none } : Oper)) (v := ?_) rfl (by kernel_rfl) (by kernel_rfl) (by kernel_rfl) (fun _ _ _ h => h) (Or.inl ⟨by rfl, ?_⟩) (by assumption) ?_
  rotate_left
  · intro W' hSw
    try dsimp only at hSw
    go_simp
    try with_reducible rfl
  try simp only [Act.put, List.setIfInBounds_toArray, List.set_cons_zero, List.set_cons_succ]
  refine wpAnyH_take (i := 3) (oi := ({ dst := some 9, op := Go.Op.load 51 (Go.Operand.tmp 2), type := 51, pos := _, after := #[], guard := none } : Oper)) (v := ?_) rfl (by kernel_rfl) (by kernel_rfl) (by kernel_rfl) (fun _ _ _ h => h) (Or.inl ⟨by rfl, ?_⟩) (by assumption) ?_
  rotate_left
  · intro W' hSw
    try dsimp only at hSw
    obtain ⟨c0, c1, c2, c3, c4, c5, c6, c7, c8, c9, c10, c11, c12, c13, c14, c15⟩ := ar16 hSw
    go_simp
    try with_reducible rfl
  try simp only [Act.put, List.setIfInBounds_toArray, List.set_cons_zero, List.set_cons_succ]
  refine wpAnyH_take (i := 5) (oi := ({ dst := some 11, op := Go.Op.move (Go.Operand.tmp 1), type := 9, pos := _, after := #[], guard := none } : Oper)) (v := ?_) rfl (by kernel_rfl) (by kernel_rfl) (by kernel_rfl) (fun _ _ _ h => h) (Or.inl ⟨by rfl, ?_⟩) (by assumption) ?_
  rotate_left
  · intro W' hSw
    try dsimp only at hSw
    go_simp
    try with_reducible rfl
  try simp only [Act.put, List.setIfInBounds_toArray, List.set_cons_zero, List.set_cons_succ]
  refine wpAnyH_ready (rs := [2]) (by kernel_rfl) (by simp) ?_
  refine AllReadyH.cons (o := ({ dst := some 8, op := Go.Op.call { callee := Go.Callee.value (Go.Operand.func 63), args := #[Go.Operand.tmp 6, Go.Operand.tmp 7], argTypes := #[51, 9] }, type := 41, pos := _, after := #[{ on := 0, ground := Go.Ground.data }, { on := 1, ground := Go.Ground.data }], guard := none } : Oper)) rfl (fun K hK => ?_) AllReadyH.nil
  go_simp
  refine (H1.out _).mono ?_
  rintro e w1 ⟨rfl, hb1⟩
  go_wp2_with fail
  refine hK.out _ _ ?_ (fun hHeld => ?_)
  · exact hHeld.below hb1
  clear hK K
  try simp only [Act.put, List.setIfInBounds_toArray, List.set_cons_zero, List.set_cons_succ]
  have HB1 := Lib.hid hb1
  clear hb1
  refine wpAnyH_ready (rs := [4]) (by kernel_rfl) (by simp) ?_
  refine AllReadyH.cons (o := ({ dst := some 10, op := Go.Op.call { callee := Go.Callee.value (Go.Operand.func 64), args := #[Go.Operand.tmp 9], argTypes := #[51] }, type := 51, pos := _, after := #[{ on := 3, ground := Go.Ground.data }, { on := 2, ground := Go.Ground.chain }], guard := none } : Oper)) rfl (fun K hK => ?_) AllReadyH.nil
  go_simp
  refine (HT.out _).mono ?_
  rintro e w2 ⟨rfl, hb2⟩
  go_wp2_with fail
  refine hK.out _ _ ?_ (fun hHeld => ?_)
  · exact hHeld.below hb2
  clear hK K
  try simp only [Act.put, List.setIfInBounds_toArray, List.set_cons_zero, List.set_cons_succ]
  have HB2 := Lib.hid hb2
  clear hb2
  refine wpAnyH_ready (rs := [6]) (by kernel_rfl) (by simp) ?_
  refine AllReadyH.cons (o := ({ dst := some 12, op := Go.Op.call { callee := Go.Callee.value (Go.Operand.func 63), args := #[Go.Operand.tmp 10, Go.Operand.tmp 11], argTypes := #[51, 9] }, type := 41, pos := _, after := #[{ on := 4, ground := Go.Ground.data }, { on := 5, ground := Go.Ground.data }, { on := 4, ground := Go.Ground.chain }], guard := none } : Oper)) rfl (fun K hK => ?_) AllReadyH.nil
  go_simp
  refine (H2.out _).mono ?_
  rintro e w3 ⟨rfl, hb3⟩
  go_wp2_with fail
  refine hK.out _ _ ?_ (fun hHeld => ?_)
  · exact hHeld.below hb3
  clear hK K
  try simp only [Act.put, List.setIfInBounds_toArray, List.set_cons_zero, List.set_cons_succ]
  have HB3 := Lib.hid hb3
  clear hb3
  refine wpAnyH_take (i := 7) (oi := ({ dst := some 4, op := Go.Op.assign (Go.Operand.tmp 8), type := 41, pos := _, after := #[{ on := 2, ground := Go.Ground.data }, { on := 6, ground := Go.Ground.chain }, { on := 0, ground := Go.Ground.phase }, { on := 1, ground := Go.Ground.phase }, { on := 2, ground := Go.Ground.phase }, { on := 3, ground := Go.Ground.textOnly Go.Departure.lateStores }, { on := 4, ground := Go.Ground.textOnly Go.Departure.lateStoresUnsure }, { on := 5, ground := Go.Ground.textOnly Go.Departure.lateStores }, { on := 6, ground := Go.Ground.textOnly Go.Departure.lateStoresUnsure }], guard := none } : Oper)) (v := ?_) rfl (by kernel_rfl) (by kernel_rfl) (by kernel_rfl) (fun _ _ _ h => h) (Or.inl ⟨by rfl, ?_⟩) (by assumption) ?_
  rotate_left
  · intro W' hSw
    try dsimp only at hSw
    go_simp
    try with_reducible rfl
  try simp only [Act.put, List.setIfInBounds_toArray, List.set_cons_zero, List.set_cons_succ]
  refine wpAnyH_take (i := 8) (oi := ({ dst := some 5, op := Go.Op.assign (Go.Operand.tmp 12), type := 41, pos := _, after := #[{ on := 6, ground := Go.Ground.data }, { on := 7, ground := Go.Ground.chain }, { on := 0, ground := Go.Ground.phase }, { on := 1, ground := Go.Ground.phase }, { on := 2, ground := Go.Ground.phase }, { on := 3, ground := Go.Ground.phase }, { on := 4, ground := Go.Ground.phase }, { on := 5, ground := Go.Ground.phase }, { on := 6, ground := Go.Ground.phase }, { on := 7, ground := Go.Ground.phase }], guard := none } : Oper)) (v := ?_) rfl (by kernel_rfl) (by kernel_rfl) (by kernel_rfl) (fun _ _ _ h => h) (Or.inl ⟨by rfl, ?_⟩) (by assumption) ?_
  rotate_left
  · intro W' hSw
    try dsimp only at hSw
    go_simp
    try with_reducible rfl
  try simp only [Act.put, List.setIfInBounds_toArray, List.set_cons_zero, List.set_cons_succ]
  refine wpAnyH_done (by kernel_rfl) ?_ _

  go_wp2
  have b1 := below_then (below_drew ((Below.refl w.heap.size w).alloc (Nat.le_refl _) _)) (by simp) HB1.out
  have b2 := below_then b1 b1.size HB2.out
  exact bodyPost_ret (v := .tuple #[.int .u64 v, .int .u64 u]) (by simp [results, Try.results48, go_sem]) rfl ⟨rfl, below_then b2 b2.size HB3.out⟩

end Go.Proofs.Ytpkahjflhboddaa
