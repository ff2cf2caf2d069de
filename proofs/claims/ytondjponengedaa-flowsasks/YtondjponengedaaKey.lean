/-
  Keys as values; what sip.begin does.
-/
import Derived.Test.YtondjponengedaaRnds
import Derived.Test.YtondjponengedaaNum
namespace Go.Proofs.Ytondjponengedaa
open Go.RowKit

theorem quiet_same {P : Program} {f : FuncId} {args : Array Value} {w : World} {n : Nat} {v : Value}
    (h : Calls P f args (w.drewN n) fun e w' => e = .returned v ∧ w.drewN n = w') : Calls P f args (w.drewN n) fun e w'' => e = .returned v ∧ ∃ m, w'' = w.drewN m :=
  Calls.quiet_of_same (h.mono fun _ _ ⟨a, b⟩ => ⟨a, b.symm⟩)

/-- Sixteen bytes. -/
def Key (k : List Int) : Prop := k.length = 16 ∧ Byt k
def kv (k : List Int) : Value := .agg (k.map (Value.int .u8)).toArray
theorem Key.letters {k : List Int} (h : Key k) : ∃ k0 k1 k2 k3 k4 k5 k6 k7 k8 k9 k10 k11 k12 k13 k14 k15 : Int, k = [k0, k1, k2, k3, k4, k5, k6, k7, k8, k9, k10, k11, k12, k13, k14, k15] := by
  match k, h.1 with
  | [k0, k1, k2, k3, k4, k5, k6, k7, k8, k9, k10, k11, k12, k13, k14, k15], _ => exact ⟨k0, k1, k2, k3, k4, k5, k6, k7, k8, k9, k10, k11, k12, k13, k14, k15, rfl⟩
theorem kv_lit (k0 k1 k2 k3 k4 k5 k6 k7 k8 k9 k10 k11 k12 k13 k14 k15 : Int) : kv [k0, k1, k2, k3, k4, k5, k6, k7, k8, k9, k10, k11, k12, k13, k14, k15] = .agg #[.int .u8 k0, .int .u8 k1, .int .u8 k2, .int .u8 k3, .int .u8 k4, .int .u8 k5, .int .u8 k6, .int .u8 k7, .int .u8 k8, .int .u8 k9, .int .u8 k10, .int .u8 k11, .int .u8 k12, .int .u8 k13, .int .u8 k14, .int .u8 k15] := rfl

/-- A key's bytes, where it lies. -/
theorem key_part (w : World) (k : List Int) (t : TypeId) (hk : Key k) : Part (w.alloc (.cells (cel k).toArray t)) ⟨some ⟨w.heap.size, 0, none⟩, 16, 16, k⟩ :=
  part_row (heap_top w _ t 0) hk.2 16 hk.1

set_option maxHeartbeats 1000000 in
/-- sip.begin. -/
theorem begin_any (k : List Int) (w : World) (hk : Key k) : Calls Try.prog 80 #[kv k] w fun e w' => e = .returned (beg k).val ∧ Below w.heap.size w w' := by
  have hp := (key_part w k 66 hk).alloc (.cells #[.int .u64 0, .int .u64 0, .int .u64 0, .int .u64 0] 126)
  have N1 := Lib.hid (fun q => number_any (some ⟨w.heap.size, 0, none⟩) 8 16 (k.take 8) _ ((hp.first 8 (by omega)).drewN q) (by omega))
  have N2 := Lib.hid (fun q => number_any (some ⟨w.heap.size, 0 + 8, none⟩) 8 8 (k.drop 8) _ ((hp.cut 8 (by omega)).drewN q) (by omega))
  obtain ⟨x, hx⟩ : ∃ x, num (k.take 8) = x := ⟨_, rfl⟩
  obtain ⟨y, hy⟩ : ∃ x, num (k.drop 8) = x := ⟨_, rfl⟩
  have H : (beg k).val = .agg #[.int .u64 (bits .xor .u64 8317987319222330741 x), .int .u64 (bits .xor .u64 7237128888997146477 y), .int .u64 (bits .xor .u64 7816392313619706465 x), .int .u64 (bits .xor .u64 8387220255154660723 y)] := by
    simp only [beg, V4.val, xr, hx, hy]
  rw [H]
  rw [hx] at N1
  rw [hy] at N2
  clear H hp hx hy
  obtain ⟨k0, k1, k2, k3, k4, k5, k6, k7, k8, k9, k10, k11, k12, k13, k14, k15, rfl⟩ := hk.letters
  clear hk
  rw [kv_lit]
  simp only [cel, List.map_cons, List.map_nil, Nat.zero_add] at N1 N2
  go_enter Try.func80, Try.ntmps80
  go_wp2
  go_quiet (first | (go_at_call_of 82 (Value.slice (some ⟨w.heap.size, 0, none⟩) 8 16); exact quiet_same (N1.out _)) | (go_at_call_of 82 (Value.slice (some ⟨w.heap.size, 8, none⟩) 8 8); exact quiet_same (N2.out _)))
  go_wp2
  exact bodyPost_ret (v := .agg #[.int .u64 (bits .xor .u64 8317987319222330741 x), .int .u64 (bits .xor .u64 7237128888997146477 y), .int .u64 (bits .xor .u64 7816392313619706465 x), .int .u64 (bits .xor .u64 8387220255154660723 y)]) (by simp [results, Try.results80, go_sem]) rfl ⟨rfl, below_put (below_drewN (((Below.refl _ _).alloc (Nat.le_refl _) _).alloc (by simp) _) _) (Nat.le_succ _) ⟨_, _, _, _⟩⟩

end Go.Proofs.Ytondjponengedaa
