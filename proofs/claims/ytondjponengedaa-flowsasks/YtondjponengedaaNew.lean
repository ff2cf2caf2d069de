/-
  flows.New, Table.Get.
-/
import Derived.Test.YtondjponengedaaFind
namespace Go.Proofs.Ytondjponengedaa
open Go.RowKit
set_option linter.unusedVariables false
set_option linter.unusedSimpArgs false
set_option maxRecDepth 10000

def Z73 : Array Value := (cel (List.replicate 16 0) ++ plcells (List.replicate 128 ⟨0, Z⟩) ++ ics [0, 0, 0]).toArray
theorem info73 : (Try.prog.info? 73).map (fun i => i.zero) = some (some (.agg Z73)) := by kernel_rfl
def bigB (t : TypeId) (ps : Array (Nat × Value)) : Sem Value := Instr.build t ps
theorem bigB73 (ps : Array (Nat × Value)) : Instr.build 73 ps = bigB 73 ps := rfl
attribute [local go_sem ↓] bigB73
theorem zeroV73 (W : World) : (zeroValue 73).run Try.prog W = .ok (.agg Z73) W := by
  have h := info73
  cases hi : Try.prog.info? 73 with
  | none => rw [hi] at h; simp at h
  | some i =>
    rw [hi] at h
    simp only [Option.map_some, Option.some.injEq] at h
    simp [zeroValue, typeInfo, hi, h]

theorem fill73 (k0 k1 k2 k3 k4 k5 k6 k7 k8 k9 k10 k11 k12 k13 k14 k15 : Int) : Instr.fill (fun i => ([(0, 16), (16, 1152), (1168, 3)] : List (Nat × Nat))[i]?) Z73 [(0, .agg #[.int .u8 k0, .int .u8 k1, .int .u8 k2, .int .u8 k3, .int .u8 k4, .int .u8 k5, .int .u8 k6, .int .u8 k7, .int .u8 k8, .int .u8 k9, .int .u8 k10, .int .u8 k11, .int .u8 k12, .int .u8 k13, .int .u8 k14, .int .u8 k15]), (2, .agg #[.int .i64 128, .int .i64 0, .int .i64 0])] =
    some (cel [k0, k1, k2, k3, k4, k5, k6, k7, k8, k9, k10, k11, k12, k13, k14, k15] ++ plcells (List.replicate 128 ⟨0, Z⟩) ++ ics [128, 0, 0]).toArray := by kernel_rfl

theorem build73 (k0 k1 k2 k3 k4 k5 k6 k7 k8 k9 k10 k11 k12 k13 k14 k15 : Int) : ∃ D : Array Value, D.toList = cel [k0, k1, k2, k3, k4, k5, k6, k7, k8, k9, k10, k11, k12, k13, k14, k15] ++ plcells (List.replicate 128 ⟨0, Z⟩) ++ ics [128, 0, 0] ∧
    ∀ W, (bigB 73 #[(0, .agg #[.int .u8 k0, .int .u8 k1, .int .u8 k2, .int .u8 k3, .int .u8 k4, .int .u8 k5, .int .u8 k6, .int .u8 k7, .int .u8 k8, .int .u8 k9, .int .u8 k10, .int .u8 k11, .int .u8 k12, .int .u8 k13, .int .u8 k14, .int .u8 k15]), (2, .agg #[.int .i64 128, .int .i64 0, .int .i64 0])]).run Try.prog W = .ok (.agg D) W := by
  refine ⟨(cel [k0, k1, k2, k3, k4, k5, k6, k7, k8, k9, k10, k11, k12, k13, k14, k15] ++ plcells (List.replicate 128 ⟨0, Z⟩) ++ ics [128, 0, 0]).toArray, rfl, fun W => ?_⟩
  have hf := fill73 k0 k1 k2 k3 k4 k5 k6 k7 k8 k9 k10 k11 k12 k13 k14 k15
  generalize (cel [k0, k1, k2, k3, k4, k5, k6, k7, k8, k9, k10, k11, k12, k13, k14, k15] ++ plcells (List.replicate 128 ⟨0, Z⟩) ++ ics [128, 0, 0]).toArray = D at hf ⊢
  have hv := zeroV73 W
  generalize Z73 = Z0 at hv hf
  have hc : (Value.agg Z0).cells = Z0 := rfl
  simp [bigB, Instr.build, hv, run_underlying Try.underlying73, hc, Try.sizeOf66, Try.sizeOf67, Try.sizeOf71, hf]

set_option maxHeartbeats 1000000 in
theorem new_any (k : List Int) (hk : Key k) (w : World) : Calls Try.prog 10 #[kv k] w fun e w' => ∃ B, e = .returned (.pointer (some ⟨B, 0, none⟩)) ∧ TaS w' B k (List.replicate 128 ⟨0, Z⟩) [] ∧ w.heap.size ≤ B ∧ Below w.heap.size w w' := by
  have HK := Lib.hid hk
  obtain ⟨k0, k1, k2, k3, k4, k5, k6, k7, k8, k9, k10, k11, k12, k13, k14, k15, rfl⟩ := hk.letters
  obtain ⟨D, hD, hb⟩ := build73 k0 k1 k2 k3 k4 k5 k6 k7 k8 k9 k10 k11 k12 k13 k14 k15
  have HD := Lib.hid hD
  clear hD hk
  simp only [kv_lit]
  go_enter Try.func10, Try.ntmps10
  go_wp2
  go_ret
  refine ⟨w.heap.size + 1, rfl, ⟨⟨D, ?_, ?_, rfl, List.length_replicate, rfl⟩, TabP.new _, by rw [cnt_new, if_pos rfl]; omega, HK.out, fun e he => absurd he (List.not_mem_nil)⟩, by omega, below_alloc (below_alloc (Below.refl _ _) _) _⟩
  · have := heap_alloc_new (w.alloc (.cells #[.int .u8 k0, .int .u8 k1, .int .u8 k2, .int .u8 k3, .int .u8 k4, .int .u8 k5, .int .u8 k6, .int .u8 k7, .int .u8 k8, .int .u8 k9, .int .u8 k10, .int .u8 k11, .int .u8 k12, .int .u8 k13, .int .u8 k14, .int .u8 k15] 66)) (.cells D 73)
    simpa using this
  · have e : cts (List.replicate 128 (⟨0, Z⟩ : Pc)) = [128, 0, 0] := by unfold cts; rw [cnt_new, cnt_new, cnt_new]; rfl
    rw [e]; exact HD.out

/-! ## What find tells of a table -/
section
variable {w : World} {B : Nat} {k : List Int} {pl : List Pc} {L : List En}
theorem cts_at (pl : List Pc) (j : Nat) (hj : j < 3) : (cts pl)[j]! = (cnt pl j : Int) := by
  rcases (show j = 0 ∨ j = 1 ∨ j = 2 by omega) with rfl | rfl | rfl <;> rfl
theorem cts_bound (hl : pl.length = 128) : ∀ j : Nat, j < 3 → -1000 ≤ (cts pl)[j]! ∧ (cts pl)[j]! ≤ 1000 := fun j hj => by
  rw [cts_at pl j hj]
  have : cnt pl j ≤ pl.length := List.countP_le_length
  omega
theorem cts_set {i : Nat} (hi : i < pl.length) (p : Pc) (ho : (pl[i]!).is_ ≤ 2) (hs : p.is_ ≤ 2) : ((cts pl).set (pl[i]!).is_ ((cts pl)[(pl[i]!).is_]! - 1)).set p.is_ (((cts pl).set (pl[i]!).is_ ((cts pl)[(pl[i]!).is_]! - 1))[p.is_]! + 1) = cts (pl.set i p) := by
  have c0 := cnt_set hi p 0
  have c1 := cnt_set hi p 1
  have c2 := cnt_set hi p 2
  generalize (pl[i]!).is_ = o at *
  generalize p.is_ = s at *
  rcases (show o = 0 ∨ o = 1 ∨ o = 2 by omega) with rfl | rfl | rfl <;> rcases (show s = 0 ∨ s = 1 ∨ s = 2 by omega) with rfl | rfl | rfl <;> simp [cts] at * <;> omega

theorem TaS.find (h : TaS w B k pl L) (f : Fl) (hf : OkF f) : Calls Try.prog 36 #[.pointer (some ⟨B, 0, none⟩), fv f] w fun e w' => ∃ a, e = .returned (.tuple #[.int .i64 (a : Nat), .bool (getF L f).isSome]) ∧ a < 128 ∧
    (∀ j, j < (a + 128 - hx k f) % 128 → (pl[(hx k f + j) % 128]!).is_ ≠ 0) ∧ (∀ e, getF L f = some e → (pl[a]!).is_ = 2 ∧ (pl[a]!).en = e) ∧ (getF L f = none → (pl[a]!).is_ ≠ 2) ∧ Below w.heap.size w w' :=
  (find_any h.tb h.key h.tp.kinds f hf).mono fun e w' ⟨a, b, h1, h2, h3⟩ => by
    obtain ⟨a', g1, g2, g3, g4, g5⟩ := h.tp.find (hx_lt k) (by have := h.room; omega) f
    rw [h1] at g1
    obtain ⟨rfl, rfl⟩ := Prod.mk.inj g1
    exact ⟨a, h2, g2, g3, g4, g5, h3⟩
end

/-- Which entry, and whether there is one. -/
def gotE (L : List En) (f : Fl) : En := (getF L f).getD Z

end Go.Proofs.Ytondjponengedaa
