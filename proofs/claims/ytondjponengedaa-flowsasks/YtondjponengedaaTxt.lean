/-
  What sip.Text and sip.Two do.
-/
import Derived.Test.YtondjponengedaaSum
import Derived.Test.YtondjponengedaaApp
import Derived.Lib.ConvBytes
import Derived.Deep.RegionHeld3
namespace Go.Proofs.Ytondjponengedaa
open Go.RowKit
set_option linter.unusedVariables false
set_option maxRecDepth 10000

theorem ar16 {W : World} {B : Nat} {k0 k1 k2 k3 k4 k5 k6 k7 k8 k9 k10 k11 k12 k13 k14 k15 : Int} (h : Ar W B (cel [k0, k1, k2, k3, k4, k5, k6, k7, k8, k9, k10, k11, k12, k13, k14, k15])) : W.cell? ⟨B, 0, none⟩ = some (.int .u8 k0) ∧ W.cell? ⟨B, 1, none⟩ = some (.int .u8 k1) ∧ W.cell? ⟨B, 2, none⟩ = some (.int .u8 k2) ∧ W.cell? ⟨B, 3, none⟩ = some (.int .u8 k3) ∧ W.cell? ⟨B, 4, none⟩ = some (.int .u8 k4) ∧ W.cell? ⟨B, 5, none⟩ = some (.int .u8 k5) ∧ W.cell? ⟨B, 6, none⟩ = some (.int .u8 k6) ∧ W.cell? ⟨B, 7, none⟩ = some (.int .u8 k7) ∧ W.cell? ⟨B, 8, none⟩ = some (.int .u8 k8) ∧ W.cell? ⟨B, 9, none⟩ = some (.int .u8 k9) ∧ W.cell? ⟨B, 10, none⟩ = some (.int .u8 k10) ∧ W.cell? ⟨B, 11, none⟩ = some (.int .u8 k11) ∧ W.cell? ⟨B, 12, none⟩ = some (.int .u8 k12) ∧ W.cell? ⟨B, 13, none⟩ = some (.int .u8 k13) ∧ W.cell? ⟨B, 14, none⟩ = some (.int .u8 k14) ∧ W.cell? ⟨B, 15, none⟩ = some (.int .u8 k15) :=
  ⟨h.cell 0 rfl, h.cell 1 rfl, h.cell 2 rfl, h.cell 3 rfl, h.cell 4 rfl, h.cell 5 rfl, h.cell 6 rfl, h.cell 7 rfl, h.cell 8 rfl, h.cell 9 rfl, h.cell 10 rfl, h.cell 11 rfl, h.cell 12 rfl, h.cell 13 rfl, h.cell 14 rfl, h.cell 15 rfl⟩

/-- A text is made into bytes. -/
theorem conv_bytes (W : World) (B : Nat) (s : ByteArray) (sT : TypeId) (hsT : Try.prog.underlying sT = some .string) (hB : B ≤ W.heap.size) (hs : s.size ≤ 281474976710656) (N : Nat) (hN : N = W.heap.size) (n : Nat) (hn : s.size = n) :
    ∃ c W', (convert sT 85 (.string s)).run Try.prog W = .ok (.slice (some ⟨N, 0, none⟩) n c) W' ∧ Own W' B N n c (bts s) ∧ Below B W W' ∧ W'.heap.size = W.heap.size + 1 ∧ ∀ k, k < W.heap.size → W'.heap[k]? = W.heap[k]? := by
  subst hN hn
  have hr := Lib.run_convert_string_bytes (P := Try.prog) W sT 85 5 s hsT Try.underlying85 Try.underlying5
  have hge := grownCap_ge W s.size 0 5
  have hcm := grownCap_le_maxLen W s.size 0 5 (by simp only [maxLen]; omega)
  have hsz := Lib.bytesWorld_size W 5 s
  have hnew := Lib.bytesWorld_at_new W 5 s
  have hcs : (Lib.bytesCells W 5 s).size = grownCap W s.size 0 5 := by
    simp [Lib.bytesCells]
    omega
  refine ⟨_, _, hr, ⟨bts_len s, hB, hge, hcm, _, _, hnew, .inr (by rw [hcs]; exact Nat.le_refl _), hcs, ?_⟩, ⟨rfl, rfl, rfl, by omega, fun k hk => Lib.bytesWorld_at_old W 5 s k (by omega)⟩, hsz, fun k hk => Lib.bytesWorld_at_old W 5 s k hk⟩
  have e : (Lib.bytesCells W 5 s).toList = cel (bts s) ++ List.replicate (grownCap W s.size 0 5 - s.size) (.int .u8 0) := by simp [Lib.bytesCells, cel, bts]
  rw [e, show s.size = (cel (bts s)).length by rw [cel_len, bts_len], List.take_left]

set_option maxHeartbeats 1000000 in
/-- sip.Text. -/
theorem text_any (k : List Int) (s : ByteArray) (w : World) (hk : Key k) (hs : s.size ≤ 281474976710656) :
    Calls Try.prog 38 #[kv k, .string s] w fun e w' => e = .returned (.int .u64 (hsh k (bts s))) ∧ Below w.heap.size w w' := by
  have HS := Lib.hid (fun A n c w hp hn => sum_any k A n c (bts s) w hk hp hn)
  obtain ⟨v, hv⟩ : ∃ v, hsh k (bts s) = v := ⟨_, rfl⟩
  rw [hv] at HS ⊢
  obtain ⟨k0, k1, k2, k3, k4, k5, k6, k7, k8, k9, k10, k11, k12, k13, k14, k15, rfl⟩ := hk.letters
  clear hk hv
  obtain ⟨c0, w0, hr0, ho0, hb0, hz0, -⟩ := conv_bytes (w.alloc (.cells (cel [k0, k1, k2, k3, k4, k5, k6, k7, k8, k9, k10, k11, k12, k13, k14, k15]).toArray 66)) (w.heap.size + 1) s 9 Try.underlying9 (by simp) hs (w.heap.size + 1) (by simp) s.size rfl
  have HP0 := Lib.hid (ho0.part (bts_byt s))
  have HB0 : Hid (Below w.heap.size w w0) := Lib.hid (((Below.refl _ _).alloc (Nat.le_refl _) _).trans (hb0.mono (Nat.le_succ _)))
  clear ho0 hb0 hz0
  simp only [cel, List.map_cons, List.map_nil] at hr0
  rw [kv_lit] at HS ⊢
  go_enter Try.func38, Try.ntmps38
  go_wp2_with fail
  refine (HS.out _ _ _ _ HP0.out (by omega)).mono ?_
  rintro e w1 ⟨rfl, hb1⟩
  go_wp2
  go_ret
  exact ⟨rfl, below_then HB0.out HB0.out.size hb1⟩

end Go.Proofs.Ytondjponengedaa
