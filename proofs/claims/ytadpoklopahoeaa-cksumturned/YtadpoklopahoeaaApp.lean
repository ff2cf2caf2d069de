/-
  Bytes that the call itself gathers by append, and what the reference's Sum does.
-/
import Derived.Test.YtadpoklopahoeaaRegb
import Derived.Maps.AppendAt
namespace Go.Proofs.Ytadpoklopahoeaa
open Go.RowKit

theorem info5 : (Try.prog.info? 5).map (fun i => (i.zero, i.size, i.bytes)) = some (some (.int .u8 0), 1, 1) := by kernel_rfl

/-- The bytes zs lie in a row of the call's own. -/
def Own (w : World) (B : Nat) (v : Value) (zs : List Int) : Prop := w.ownsRow B 5 1 v zs.length (zs.map (Value.int .u8))

theorem Own.keep {w w' : World} {B : Nat} {v : Value} {zs : List Int} (h : Own w B v zs) (hg : w.grownBy w' none) : Own w' B v zs := World.ownsRow.kept h hg (by
  cases hv : v.ownBlock with
  | none => exact .inl rfl
  | some k => exact .inr (by simp))
theorem Own.alloc {w : World} {B : Nat} {v : Value} {zs : List Int} (h : Own w B v zs) (o : Obj) : Own (w.alloc o) B v zs := World.ownsRow.alloc h o
theorem Own.drewN {w : World} {B : Nat} {v : Value} {zs : List Int} (h : Own w B v zs) (k : Nat) : Own (w.drewN k) B v zs := h
theorem Own.drew {w : World} {B : Nat} {v : Value} {zs : List Int} (h : Own w B v zs) : Own w.drew B v zs := h
theorem Own.below {w w' : World} {B : Nat} {v : Value} {zs : List Int} (h : Own w B v zs) (hb : Below w.heap.size w w') : Own w' B v zs :=
  h.keep ⟨hb.os, hb.tape, hb.output, hb.size, fun k hk _ => hb.block k hk⟩
theorem Own.none_ (w : World) (B : Nat) : Own w B (.slice none 0 0) [] := World.ownsRow_nil w B 5 1

theorem Own.part {w : World} {B : Nat} {v : Value} {zs : List Int} (h : Own w B v zs) (hz : Byt zs) : ∃ A c, v = .slice A zs.length c ∧ Part w ⟨A, zs.length, c, zs⟩ := by
  rcases h.2 with ⟨rfl, h0⟩ | ⟨g, cap, cur, rfl, _, hg, hnc, _, _, _⟩
  · have : zs = [] := List.eq_nil_of_length_eq_zero h0
    subst this
    exact ⟨none, 0, rfl, Part.gone rfl⟩
  · refine ⟨_, cap, rfl, rfl, hnc, hz, fun _ => ⟨g, 0, rfl, fun j hj => ?_⟩⟩
    have hj' : j < zs.length := hj
    have := World.ownsRow.cells h (g := g) rfl j (.int .u8 (zs[j]?.getD 0)) (by simp [hj'])
    rw [← this]
    congr 1
    unfold Addr.add
    by_cases h0 : j = 0 <;> simp [h0]

theorem append_none (w : World) (B : Nat) (v : Value) (zs : List Int) (h : Own w B v zs) (ty : TypeId) (c : Nat) : (Builtin.append_ #[22, 22] ty #[v, .slice none 0 c]).run Try.prog w = .ok v w := by
  obtain ⟨i0, hi, -, -, -⟩ := info_parts info5
  have hu : Try.prog.underlying 22 = some (.slice 5) := Try.underlying22
  rcases h.2 with ⟨rfl, _⟩ | ⟨g, cap, cur, rfl, _, _, hnc, _⟩
  · simp [Builtin.append_, run_underlying hu, sizeOf, typeInfo, hi, Builtin.lenOf, Builtin.firstCells]
  · simp [Builtin.append_, run_underlying hu, sizeOf, typeInfo, hi, Builtin.lenOf, Builtin.firstCells, hnc, storeCells]

/-- A part appended to what the call has gathered. -/
theorem append_part (w : World) (B : Nat) (v : Value) (zs : List Int) (A : Option Addr) (m c : Nat) (bs : List Int) (h : Own w B v zs) (hp : Part w ⟨A, m, c, bs⟩) (hB : B ≤ w.heap.size) (hl : zs.length + m ≤ 140737488355328) (ty : TypeId) :
    ∃ v' w', (Builtin.append_ #[22, 22] ty #[v, .slice A m c]).run Try.prog w = .ok v' w' ∧ Own w' B v' (zs ++ bs) ∧ Below B w w' := by
  obtain ⟨i0, hi, hz0, hz1, hz2⟩ := info_parts info5
  have hm : bs.length = m := hp.1
  have key : ∀ ad : Addr, (∀ j u, (bs.map (Value.int .u8))[j]? = some u → w.cell? (ad.add j) = some u) →
      ∃ v' w', (Builtin.append_ #[22, 22] ty #[v, .slice (some ad) m c]).run Try.prog w = .ok v' w' ∧ Own w' B v' (zs ++ bs) ∧ Below B w w' := by
    intro ad hcell
    obtain ⟨v', w', hr, ho, hg, _, _⟩ := run_append_own_at (P := Try.prog) w B 22 ty 5 i0 (.int .u8 0) 1 1 Try.underlying22 hi hz0 hz1 hz2 rfl (by omega) v zs.length (zs.map (Value.int .u8)) h ad m c (bs.map (Value.int .u8)) (by simp; omega) hcell
      (by intro u hu; simp at hu; obtain ⟨x, _, rfl⟩ := hu; rfl) (by simp only [maxLen]; omega) (by omega) hB
    refine ⟨v', w', hr, ?_, (Below.refl _ _).grown hg hB (fun k hk => (World.ownsRow.lt h k hk).1)⟩
    unfold Own
    rw [List.length_append, List.map_append, hm]
    exact ho
  rcases A with _ | ad
  · have h0 : m = 0 := by
      rcases Nat.eq_zero_or_pos m with h0 | h0
      · exact h0
      · obtain ⟨b, off, e, _⟩ := hp.2.2.2 h0
        cases e
    subst h0
    have hb : bs = [] := List.eq_nil_of_length_eq_zero hm
    subst hb
    exact ⟨v, w, append_none w B v zs h ty c, by simpa using h, Below.refl _ _⟩
  · refine key ad fun j u hu => ?_
    have hj : j < bs.length := by
      rcases Nat.lt_or_ge j bs.length with hj | hj
      · exact hj
      · simp [hj] at hu
    obtain ⟨b, off, e, hc⟩ := hp.2.2.2 (show 0 < m by omega)
    have e' : ad = ⟨b, off, none⟩ := by injection e
    subst e'
    have := hc j (show j < m by omega)
    simp [hj] at hu
    subst hu
    have e2 : (⟨b, off, none⟩ : Addr).add j = ⟨b, off + j, none⟩ := by
      unfold Addr.add; by_cases h0 : j = 0 <;> simp [h0]
    rw [e2, this]
    simp [hj]

theorem wp_append_part {o : Oper} {a : Act} {w : World} {K : Act → World → Prop} {Q : Exit → Act → World → Prop} (s x : Operand)
    (ho : o.op = .call { callee := .builtin .append, args := #[s, x], argTypes := #[22, 22] }) {B : Nat} {v : Value} {zs : List Int} {A : Option Addr} {m c : Nat} {bs : List Int} (hs : a.eval s = v) (hx : a.eval x = .slice A m c)
    (h : Own w B v zs) (hp : Part w ⟨A, m, c, bs⟩) (hB : B ≤ w.heap.size) (hl : zs.length + m ≤ 140737488355328)
    (k : ∀ v' w', Own w' B v' (zs ++ bs) → Below B w w' → K (a.put o.dst v') w') : o.wp Try.prog a w K Q := by
  obtain ⟨v', w', hr, h1, h2⟩ := append_part w B v zs A m c bs h hp hB hl o.type
  unfold Oper.wp execOp
  simp only [ho, resolve, invoke, builtin, Sem.run_bind, Sem.run_pure, Result.andThen_ok, List.map_toArray, List.map_cons, List.map_nil, hs, hx, hr]
  exact k v' w' h1 h2
/-- At a plain region's list. -/
theorem wpList_append_part {ops : Array Oper} {rest : List Oper} {o : Oper} {a : Act} {w : World} {Q : Exit → Act → World → Prop} (hgd : o.guard = none) (s x : Operand)
    (ho : o.op = .call { callee := .builtin .append, args := #[s, x], argTypes := #[22, 22] }) {B : Nat} {v : Value} {zs : List Int} {A : Option Addr} {m c : Nat} {bs : List Int} (hs : a.eval s = v) (hx : a.eval x = .slice A m c)
    (h : Own w B v zs) (hp : Part w ⟨A, m, c, bs⟩) (hB : B ≤ w.heap.size) (hl : zs.length + m ≤ 140737488355328)
    (k : ∀ v' w', Own w' B v' (zs ++ bs) → Below B w w' → wpList Try.prog ops Q rest (a.put o.dst v') w') : wpList Try.prog ops Q (o :: rest) a w :=
  wpList_plain hgd fun _ hK => wp_append_part s x ho hs hx h hp hB hl fun v' w' h1 h2 => hK _ _ (k v' w' h1 h2)
/-- At a step of a region that draws its order. -/
theorem step_append_part {ops : Array Oper} {o : Oper} {a : Act} {w : World} {K : Act → World → Prop} {Q : Exit → Act → World → Prop} {E : Prop} (hgd : o.guard = none) (s x : Operand)
    (ho : o.op = .call { callee := .builtin .append, args := #[s, x], argTypes := #[22, 22] }) {B : Nat} {v : Value} {zs : List Int} {A : Option Addr} {m c : Nat} {bs : List Int} (hs : a.eval s = v) (hx : a.eval x = .slice A m c)
    (h : Own w B v zs) (hp : Part w ⟨A, m, c, bs⟩) (hB : B ≤ w.heap.size) (hl : zs.length + m ≤ 140737488355328)
    (k : ∀ v' w', Own w' B v' (zs ++ bs) → Below B w w' → K (a.put o.dst v') w') : if Region.wanted o (yielded ops a.tmps) = true then Oper.wp Try.prog o a w K Q else E := by
  have hw : Region.wanted o (yielded ops a.tmps) = true := by simp [Region.wanted, hgd]
  rw [if_pos hw]
  exact wp_append_part s x ho hs hx h hp hB hl k

theorem tot_take_two (l : List Int) (k : Nat) (hk : k % 2 = 0) (h : k + 2 ≤ l.length) : tot (l.take (k + 2)) = tot (l.take k) + (l[k]?.getD 0 * 256 + l[k + 1]?.getD 0) := by
  rw [List.take_add, tot_append_even _ _ (by simp; omega)]
  congr 1
  rw [tot_two _ (by simp; omega)]
  simp
theorem tot_take_one (l : List Int) (k : Nat) (hk : k % 2 = 0) (h : k + 1 = l.length) : tot (l.take (k + 2)) = tot (l.take k) + l[k]?.getD 0 * 256 := by
  rw [List.take_add, tot_append_even _ _ (by simp; omega)]
  congr 1
  rw [List.take_of_length_le (by simp; omega), tot_one _ (by simp; omega)]
  simp

/-- What holds ahead of each two bytes. -/
def RsRel (bs : List Int) (n gg : Nat) (t i : Value) (w wr : World) : Prop :=
  ∃ (k : Nat) (N : Int), k + gg = n + 1 ∧ k % 2 = 0 ∧ i = .int .i64 k ∧ t = .int .i64 N ∧ N = fd (tot (bs.take k)) ∧ w = wr

set_option maxHeartbeats 1000000 in
/-- outriderref01.Sum. -/
theorem rsum_any (a : Option Addr) (n c : Nat) (bs : List Int) (w : World) (hp : Part w ⟨a, n, c, bs⟩) (hn : n ≤ 140737488355328) :
    Calls Try.prog 13 #[.slice a n c] w fun e w' => e = .returned (.int .i64 (fd (tot bs))) ∧ w = w' := by
  have hbl : bs.length = n := hp.1
  have HP := Lib.hid hp
  have HL := Lib.hid hbl
  clear hp hbl
  go_enter Try.func13, Try.ntmps13
  go_wp2
  go_loopg [3, 4] (n + 1) (fun gg t i wr => RsRel bs n gg t i w wr)
  case atStart => exact ⟨0, 0, by omega, rfl, rfl, rfl, by simp [tot, fd], rfl⟩
  case round =>
    obtain ⟨k, N, hk, hk2, rfl, rfl, hN, rfl⟩ := hrel
    have hNb : 0 ≤ N ∧ N ≤ 65535 := by rw [hN]; exact fd_bd _
    have HN := Lib.hid hN
    clear hN
    by_cases hlt : k < n
    · obtain ⟨b, off, e, d⟩ := HP.out.2.2.2 (show 0 < n by omega)
      simp only at e
      subst e
      obtain ⟨x, hx⟩ : ∃ x, x = bs[k]?.getD 0 := ⟨_, rfl⟩
      obtain ⟨y, hy⟩ : ∃ x, x = bs[k + 1]?.getD 0 := ⟨_, rfl⟩
      have f1 : w.cell? ⟨b, off + k, none⟩ = some (.int .u8 x) := by rw [hx]; exact d k (by simp; omega)
      have r1 : 0 ≤ x ∧ x ≤ 255 := by rw [hx]; exact HP.out.2.2.1.get k
      have r2 : 0 ≤ y ∧ y ≤ 255 := by rw [hy]; exact HP.out.2.2.1.get (k + 1)
      have ht := (tot_bd2 _ (HP.out.2.2.1.take k)).1
      by_cases h2 : k + 1 < n
      · have f2 : w.cell? ⟨b, off + (k + 1), none⟩ = some (.int .u8 y) := by rw [hy]; exact d (k + 1) (by simp; omega)
        have HE : Hid (fd (N + (x * 256 + y)) = fd (tot (bs.take (k + 2)))) := by
          refine Lib.hid ?_
          rw [tot_take_two bs k hk2 (by rw [HL.out]; omega), HN.out, ← hx, ← hy, fd_add ht (by omega)]
        clear hx hy d ht
        go_wp2_with (go_at_call 24; refine (added_any _ _ (by omega) (by omega)).mono ?_; rintro e w1 ⟨rfl, rfl⟩)
        go_roundg (n + 1 - (k + 2))
        case measure => omega
        case rel => exact ⟨k + 2, _, by omega, by omega, by simp, rfl, HE.out, rfl⟩
      · have HE : Hid (fd (N + x * 256) = fd (tot (bs.take (k + 2)))) := by
          refine Lib.hid ?_
          rw [tot_take_one bs k hk2 (by rw [HL.out]; omega), HN.out, ← hx, fd_add ht (by omega)]
        clear hx hy d ht
        go_wp2_with (go_at_call 24; refine (added_any _ _ (by omega) (by omega)).mono ?_; rintro e w1 ⟨rfl, rfl⟩)
        go_roundg (n + 1 - (k + 2))
        case measure => omega
        case rel => exact ⟨k + 2, _, by omega, by omega, by simp, rfl, HE.out, rfl⟩
    · go_wp2
      go_ret
      refine ⟨ret_int ?_, rfl⟩
      rw [HN.out, List.take_of_length_le (by rw [HL.out]; omega)]

end Go.Proofs.Ytadpoklopahoeaa
