/-
  What cksum.Put and Good, the reference's Sum, Put and low, and ipv.appendTwo do.
-/
import Derived.Test.YtpcdaidgijkkbaaApp
import Derived.Lib.SmallJoins
namespace Go.Proofs.Ytpcdaidgijkkbaa
open Go.RowKit
set_option linter.unusedVariables false

/-- An append by its run. -/
theorem wpList_append_run {ops : Array Oper} {rest : List Oper} {o : Oper} {a : Act} {w w' : World} {Q : Exit → Act → World → Prop} (hgd : o.guard = none) (s x : Operand) (sT xT : TypeId)
    (ho : o.op = .call { callee := .builtin .append, args := #[s, x], argTypes := #[sT, xT] }) {v u v' : Value} (hs : a.eval s = v) (hx : a.eval x = u)
    (ty : TypeId) (hty : o.type = ty) (hr : (Builtin.append_ #[sT, xT] ty #[v, u]).run Try.prog w = .ok v' w') (k : wpList Try.prog ops Q rest (a.put o.dst v') w') : wpList Try.prog ops Q (o :: rest) a w := by
  subst hty
  refine wpList_plain hgd fun K hK => ?_
  unfold Oper.wp execOp
  simp only [ho, resolve, invoke, builtin, Sem.run_bind, Sem.run_pure, Result.andThen_ok, List.map_toArray, List.map_cons, List.map_nil, hs, hx, hr]
  exact hK _ _ k

/-- The parts that a call is handed: their cells, what each holds, and that all together are not too many. -/
def Parts (w : World) (gb : Nat) (ps : List PartV) : Prop :=
  (∀ j p, ps[j]? = some p → w.cell? ⟨gb, j, none⟩ = some p.val) ∧ (∀ p ∈ ps, Part w p) ∧ ps.length ≤ 1000 ∧ (flat ps).length ≤ 422212465065984

theorem Parts.one {w : World} {gb : Nat} {p : PartV} (hc : w.cell? ⟨gb, 0, none⟩ = some p.val) (hp : Part w p) (hl : p.n ≤ 140737488355328) : Parts w gb [p] := by
  refine ⟨fun j q hq => ?_, fun q hq => ?_, by simp, ?_⟩
  · match j, hq with
    | 0, hq => simp at hq; subst hq; exact hc
  · simp at hq; subst hq; exact hp
  · simp [flat, hp.1]; omega
/-- cksum.Sum, by the number of parts and the answer. -/
theorem sum_at {w : World} {gb m : Nat} {ps : List PartV} (h : Parts w gb ps) (hm : ps.length = m) {s : Int} (hs : fd (tot (flat ps)) = s) :
    Calls Try.prog 65 #[.slice (some ⟨gb, 0, none⟩) m m] w fun e w' => e = .returned (.int .u16 s) ∧ ∃ k, w' = w.drewN k := by
  subst hm; subst hs
  exact sum_any gb ps w h.1 h.2.1 h.2.2.1 h.2.2.2

set_option maxHeartbeats 400000 in
/-- cksum.Put. -/
theorem put_at {w : World} {gb m : Nat} {ps : List PartV} (h : Parts w gb ps) (hm : ps.length = m) {s : Int} (hs : fd (tot (flat ps)) = s) :
    Calls Try.prog 56 #[.slice (some ⟨gb, 0, none⟩) m m] w fun e w' => e = .returned (.int .u16 (65535 - s)) ∧ ∃ k, w' = w.drewN k := by
  have hb : 0 ≤ s ∧ s ≤ 65535 := by subst hs; exact fd_bd _
  have h3 := not_u16 _ hb
  have hg : IntKind.u16.signed = false := rfl
  have HH := Lib.hid (sum_at h hm hs)
  clear h hm hs
  go_enter Try.func56, Try.ntmps56
  go_wp2_with (go_at_call 65; refine HH.out.mono ?_; rintro e w' ⟨rfl, k, rfl⟩)
  go_ret
  exact ⟨rfl, _, rfl⟩

theorem part_new (w : World) (t : TypeId) (zs : List Int) (hb : Byt zs) :
    Part (w.alloc (.cells (zs.map (Value.int .u8)).toArray t)) ⟨some ⟨w.heap.size, 0, none⟩, zs.length, zs.length, zs⟩ := by
  refine ⟨rfl, Nat.le_refl _, hb, fun _ => ⟨_, _, rfl, fun j hj => ?_⟩⟩
  rw [World.cell?_alloc_at _ _ _ _ rfl]
  have hj' : j < zs.length := hj
  simp [List.getElem?_map, List.getElem?_eq_getElem hj']

theorem part_at {w : World} {t : TypeId} {zs : List Int} (hb : Byt zs) {N : Nat} (hN : N = w.heap.size) :
    Part (w.alloc (.cells (zs.map (Value.int .u8)).toArray t)) ⟨some ⟨N, 0, none⟩, zs.length, zs.length, zs⟩ := by
  subst hN; exact part_new w t zs hb

/-- cksum.Put of one part. -/
theorem put_one {W : World} {gb n c : Nat} {a : Option Addr} {bs : List Int} {s : Int} (h : W.cell? ⟨gb, 0, none⟩ = some (.slice a n c)) (hp : Part W ⟨a, n, c, bs⟩) (hl : n ≤ 140737488355328) (hs : fd (tot bs) = s) :
    Calls Try.prog 56 #[.slice (some ⟨gb, 0, none⟩) 1 1] W fun e w' => e = .returned (.int .u16 (65535 - s)) ∧ ∃ q, w' = W.drewN q :=
  put_at (ps := [⟨a, n, c, bs⟩]) (Parts.one h hp hl) rfl (by simpa [flat] using hs)
theorem tot_take_two (l : List Int) (k : Nat) (hk : k % 2 = 0) (h : k + 2 ≤ l.length) : tot (l.take (k + 2)) = tot (l.take k) + (l[k]?.getD 0 * 256 + l[k + 1]?.getD 0) := by
  rw [List.take_add, tot_append_even _ _ (by simp; omega)]
  congr 1
  rw [tot_two _ (by simp; omega)]
  simp
theorem tot_take_one (l : List Int) (k : Nat) (hk : k % 2 = 0) (h : k + 1 = l.length) : tot (l.take (k + 2)) = tot (l.take k) + l[k]?.getD 0 * 256 := by
  rw [List.take_add, tot_append_even _ _ (by simp; omega)]
  congr 1
  rw [List.take_of_length_le (by simp; omega), tot_one _ (by simp; omega)]
  simp

/-- What holds ahead of each two bytes. -/
def RsRel (bs : List Int) (n gg : Nat) (t i : Value) (w wr : World) : Prop :=
  ∃ (k : Nat) (N : Int), k + gg = n + 1 ∧ k % 2 = 0 ∧ i = .int .i64 k ∧ t = .int .i64 N ∧ N = fd (tot (bs.take k)) ∧ w = wr

set_option maxHeartbeats 1000000 in
/-- outriderref01.Sum. -/
theorem rsum_any (a : Option Addr) (n c : Nat) (bs : List Int) (w : World) (hp : Part w ⟨a, n, c, bs⟩) (hn : n ≤ 140737488355328) :
    Calls Try.prog 67 #[.slice a n c] w fun e w' => e = .returned (.int .i64 (fd (tot bs))) ∧ w = w' := by
  have hbl : bs.length = n := hp.1
  have HP := Lib.hid hp
  have HL := Lib.hid hbl
  clear hp hbl
  go_enter Try.func67, Try.ntmps67
  go_wp2
  go_loopg [3, 4] (n + 1) (fun gg t i wr => RsRel bs n gg t i w wr)
  case atStart => exact ⟨0, 0, by omega, rfl, rfl, rfl, by simp [tot, fd], rfl⟩
  case round =>
    obtain ⟨k, N, hk, hk2, rfl, rfl, hN, rfl⟩ := hrel
    have hNb : 0 ≤ N ∧ N ≤ 65535 := by rw [hN]; exact fd_bd _
    have HN := Lib.hid hN
    clear hN
    by_cases hlt : k < n
    · obtain ⟨b, off, e, d⟩ := HP.out.2.2.2 (show 0 < n by omega)
      simp only at e
      subst e
      obtain ⟨x, hx⟩ : ∃ x, x = bs[k]?.getD 0 := ⟨_, rfl⟩
      obtain ⟨y, hy⟩ : ∃ x, x = bs[k + 1]?.getD 0 := ⟨_, rfl⟩
      have f1 : w.cell? ⟨b, off + k, none⟩ = some (.int .u8 x) := by rw [hx]; exact d k (by simp; omega)
      have r1 : 0 ≤ x ∧ x ≤ 255 := by rw [hx]; exact HP.out.2.2.1.get k
      have r2 : 0 ≤ y ∧ y ≤ 255 := by rw [hy]; exact HP.out.2.2.1.get (k + 1)
      have ht := (tot_bd2 _ (HP.out.2.2.1.take k)).1
      by_cases h2 : k + 1 < n
      · have f2 : w.cell? ⟨b, off + (k + 1), none⟩ = some (.int .u8 y) := by rw [hy]; exact d (k + 1) (by simp; omega)
        have HE : Hid (fd (N + (x * 256 + y)) = fd (tot (bs.take (k + 2)))) := by
          refine Lib.hid ?_
          rw [tot_take_two bs k hk2 (by rw [HL.out]; omega), HN.out, ← hx, ← hy, fd_add ht (by omega)]
        clear hx hy d ht
        go_wp2_with (go_at_call 74; refine (added_any _ _ (by omega) (by omega)).mono ?_; rintro e w1 ⟨rfl, rfl⟩)
        go_roundg (n + 1 - (k + 2))
        case measure => omega
        case rel => exact ⟨k + 2, _, by omega, by omega, by simp, rfl, HE.out, rfl⟩
      · have HE : Hid (fd (N + x * 256) = fd (tot (bs.take (k + 2)))) := by
          refine Lib.hid ?_
          rw [tot_take_one bs k hk2 (by rw [HL.out]; omega), HN.out, ← hx, fd_add ht (by omega)]
        clear hx hy d ht
        go_wp2_with (go_at_call 74; refine (added_any _ _ (by omega) (by omega)).mono ?_; rintro e w1 ⟨rfl, rfl⟩)
        go_roundg (n + 1 - (k + 2))
        case measure => omega
        case rel => exact ⟨k + 2, _, by omega, by omega, by simp, rfl, HE.out, rfl⟩
    · go_wp2
      go_ret
      refine ⟨ret_int ?_, rfl⟩
      rw [HN.out, List.take_of_length_le (by rw [HL.out]; omega)]

set_option maxHeartbeats 1000000 in
/-- ipv.appendTwo. -/
theorem appendTwo_any (w : World) (B g n cap : Nat) (zs : List Int) (x : Int) (h : Own w B g n cap zs) (hB : B ≤ w.heap.size) (hl : n ≤ 100000) (hx : -9223372036854775808 ≤ x ∧ x ≤ 9223372036854775807) :
    Calls Try.prog 73 #[.slice (some ⟨g, 0, none⟩) n cap, .int .i64 x] w fun e w' => ∃ g' cap', e = .returned (.slice (some ⟨g', 0, none⟩) (n + 2) cap') ∧ Hid (Grew w w' B g g' (n + 2) cap' (zs ++ [x / 256 % 256, x % 256])) := by
  obtain ⟨g', cap', w', hr, hg⟩ := append_part (w.alloc (.cells #[.int .u8 (x / 256 % 256), .int .u8 (x % 256)] 5)) B g n cap zs (some ⟨w.heap.size, 0, none⟩) 2 2 [x / 256 % 256, x % 256] (h.alloc _) (part_new w 5 [x / 256 % 256, x % 256] (by intro y hy; simp at hy; omega)) (by simp; omega) (by omega) (n + 2) rfl
  have HG := Lib.hid (hg.of_alloc hB)
  have HA := Lib.hid hr
  clear hg hr h
  go_enter Try.func73, Try.ntmps73
  go_wp2_with (at_builtin; (with_reducible refine wpList_append_run ?_ (.tmp 5) (.tmp 11) 87 87 ?_ ?_ ?_ 87 ?_ HA.out ?_); (focus rfl); (focus rfl); (focus rfl); (focus rfl); (focus rfl))
  go_ret
  exact ⟨_, _, rfl, HG⟩

end Go.Proofs.Ytpcdaidgijkkbaa
