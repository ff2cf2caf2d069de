/-
  What advert.addrs does, and the function that it tells: the addresses of a body, one by one.
-/
import Derived.Test.YthhomfchoomelaaAfirst
import Derived.RangeFuncNested
import Derived.RangeFuncBound
import Derived.RangeFuncCalls
import Derived.RangeFuncLeaves
import Derived.Shelf.Abstract
import Derived.Shelf.RegionOpen
import Derived.OwnWalkIn
import Derived.TacticsInMore
import Derived.LoopNIn
import Derived.LoopIn
namespace Go.Proofs.Ythhomfchoomelaa
open Go.RowKit Go.Shelf
set_option linter.unusedVariables false
set_option maxRecDepth 10000
attribute [local go_sem] Oper.semAt_some

/-- One address of a body. -/
def piece (s : ByteArray) (n k : Nat) : ByteArray := s.extract (8 + k * n) (8 + k * n + n)
/-- The first m addresses of a body. -/
def pieces (s : ByteArray) (n m : Nat) : List ByteArray := (List.range m).map (piece s n)
theorem pieces_succ (s : ByteArray) (n k : Nat) : pieces s n (k + 1) = pieces s n k ++ [piece s n k] := by simp [pieces, List.range_succ]
theorem pieces_len (s : ByteArray) (n m : Nat) : (pieces s n m).length = m := by simp [pieces]

set_option maxHeartbeats 400000 in
/-- advert.addrs. -/
theorem addrs_any (f t : ByteArray) (p l : Int) (s : ByteArray) (w : World) :
    Calls Try.prog 30 #[.agg #[.string f, .string t, .int .i64 p, .int .i64 l, .string s]] w fun e w' => e = .returned (.func (.func 37) #[] #[.pointer (some ⟨w.heap.size, 0, none⟩)]) ∧ w' = w.alloc (.cells #[.string f, .string t, .int .i64 p, .int .i64 l, .string s] 28) := by
  have hmf : ∀ (fn : Fn) (first cap : Array Value) (w : World), (Instr.makeFunc fn first cap).run Try.prog w = .ok (.func fn first cap) w := fun _ _ _ _ => rfl
  go_enter Try.func30, Try.ntmps30
  go_wp2
  go_ret
  exact ⟨rfl, rfl⟩

/-- The packet's block lies as it lay. -/
def KeepB (B : Nat) (W W' : World) : Prop := W'.heap[B]? = W.heap[B]?
theorem KeepB.boxed {B : Nat} {W W' : World} (h : KeepB B W W') {f t : ByteArray} {p l : Int} {s : ByteArray} (hb : Boxed W B f t p l s) : Boxed W' B f t p l s := by
  have e : ∀ o, W'.cell? ⟨B, o, none⟩ = W.cell? ⟨B, o, none⟩ := fun o => by simp [World.cell?, show W'.heap[B]? = W.heap[B]? from h]
  exact ⟨(e 0).trans hb.1, (e 1).trans hb.2.1, (e 2).trans hb.2.2.1, (e 3).trans hb.2.2.2.1, (e 4).trans hb.2.2.2.2⟩

set_option maxRecDepth 100000 in
set_option maxHeartbeats 1000000 in
theorem iter_in (F : Fence) (n : Nat) (h37 : F.fn 37) (hro : F.round = none) (hn : 1 ≤ n) (L B : Nat) (f t : ByteArray) (p l : Int) (s : ByteArray) (m : Nat) (hf : 1 ≤ f.size ∧ f.size ≤ 16) (hm : m ≤ 8) (hs : s.size = 8 + m * f.size) (J Jx : List ByteArray → World → Prop)
    (hY : ∀ pre x W, J pre W → pre.length < m → YieldAt F (n - 1) Try.prog L #[.string x] W fun e W' =>
      (e = .returned (.bool true) ∧ J (pre ++ [x]) W' ∧ KeepB B W W') ∨ (e = .returned (.bool false) ∧ Jx (pre ++ [x]) W'))
    (W : World) (hB : Boxed W B f t p l s) (h0 : J [] W) :
    CallsIn F n Try.prog 37 #[.func (.yield L) #[] #[], .pointer (some ⟨B, 0, none⟩)] W fun e W' => (∃ v, e = .returned v) ∧
      ((∃ ys, ys = pieces s f.size m ∧ J ys W') ∨ (∃ pre, (∃ k, pre = pieces s f.size k) ∧ Jx pre W')) := by
  obtain ⟨q, hq⟩ : ∃ q, f.size = q := ⟨_, rfl⟩
  have HB := Lib.hid hB
  obtain ⟨x0, x1, x2, x3, x4⟩ := hB
  rw [hq] at hf hs ⊢
  have hq1 := hf.1
  have HS := Lib.hid hs
  have hsz : s.size ≤ 136 := by
    have : m * q ≤ 8 * 16 := Nat.mul_le_mul hm hf.2
    omega
  have hq16 := hf.2
  clear hs hf
  refine callsIn_of_wp Try.func37 rfl h37 ?_ hro
  simp only [Try.ntmps37, List.size_toArray, List.length_cons, List.length_nil, Nat.reduceAdd, Nat.reduceSub, Array.replicate_succ, Array.replicate_zero, List.push_toArray, List.append_toArray, List.nil_append, List.cons_append]
  gi_wp2
  gi_loopw [4] (fun v wr => ∃ (k a : Nat), v = .int .i64 (a : Int) ∧ Hid (a = 8 + k * q) ∧ k ≤ m ∧ J (pieces s q k) wr ∧ Hid (Boxed wr B f t p l s)) (fun v _ => s.size - (intOf v).toNat)
  case atStart =>
    exact ⟨0, 8, rfl, Lib.hid (by omega), Nat.zero_le _, h0, HB⟩
  case round =>
    obtain ⟨k, a, rfl, ha, hk, hJs, hbx⟩ := hrel
    obtain ⟨y0, y1, y2, y3, y4⟩ := hbx.out
    by_cases hkm : k < m
    · have hle : a + q ≤ s.size := by
        have h1 : (k + 1) * q ≤ m * q := Nat.mul_le_mul_right q hkm
        have h2 : (k + 1) * q = k * q + q := Nat.succ_mul k q
        have h3 := ha.out
        have h4 := HS.out
        omega
      have hlt : (a : Int) < (s.size : Int) := by omega
      have hle2 : (a : Int) + (q : Int) ≤ (s.size : Int) := by omega
      have hpc : s.extract a (a + q) = piece s q k := by rw [piece, ha.out]
      obtain ⟨fn, tmps, assign, body, hy, hR⟩ := hY (pieces s q k) (piece s q k) wr hJs (by rw [pieces_len]; exact hkm)
      gi_wp2
      refine hR.mono ?_
      rintro e W3 (⟨rfl, hJ3, hk3⟩ | ⟨rfl, hJx3⟩)
      · have hbx3 := Lib.hid (hk3.boxed hbx.out)
        obtain ⟨z0, z1, z2, z3, z4⟩ := hbx3.out
        gi_wp2
        go_roundw
        case rel => exact ⟨k + 1, a + q, by simp, Lib.hid (by rw [ha.out, Nat.succ_mul]; omega), hkm, by rw [pieces_succ]; exact hJ3, hbx3⟩
        case measure => simp [intOf]; omega
      · gi_wp2
        refine bodyPost_ret (results_none rfl _ _ _) rfl ?_
        exact ⟨⟨_, rfl⟩, .inr ⟨_, ⟨k + 1, by rw [pieces_succ]⟩, hJx3⟩⟩
    · have hlt : ¬ ((a : Int) < (s.size : Int)) := by
        have h3 := ha.out
        have h4 := HS.out
        have : k = m := by omega
        subst this
        omega
      gi_wp2
      go_end0
      refine ⟨⟨_, rfl⟩, .inl ?_⟩
      rw [← show k = m by omega]
      exact hJs

/-- What advert.addrs tells is the addresses of the body, in their order. -/
theorem iter_stops (F : Fence) (n : Nat) (h37 : F.fn 37) (hro : F.round = none) (hn : 1 ≤ n) (B : Nat) (f t : ByteArray) (p l : Int) (s : ByteArray) (m : Nat) (hf : 1 ≤ f.size ∧ f.size ≤ 16) (hm : m ≤ 8) (hs : s.size = 8 + m * f.size) (w : World) (hBl : B < w.heap.size) (hB : Boxed w B f t p l s) :
    SeqStopsK F n Try.prog 37 #[.pointer (some ⟨B, 0, none⟩)] (fun x : ByteArray => #[Value.string x]) (KeepB B) (fun ys => ys = pieces s f.size m) (fun pre => ∃ k, pre = pieces s f.size k) m w := fun L J Jx W hW _ _ hY h0 =>
  iter_in F n h37 hro hn L B f t p l s m hf hm hs J Jx hY W (hB.below hW hBl) h0

end Go.Proofs.Ythhomfchoomelaa
