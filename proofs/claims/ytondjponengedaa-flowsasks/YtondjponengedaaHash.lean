/-
  flows.Hash, and the reference's: the text that is hashed.
-/
import Derived.Test.YtondjponengedaaCmp
import Derived.Lib.ConvBytes
import Derived.Deep.RegionHeld3
import Derived.Laws.Rows
namespace Go.Proofs.Ytondjponengedaa
open Go.RowKit
set_option linter.unusedVariables false
set_option maxRecDepth 10000

theorem and_255 (x : Int) : bits BinOp.and IntKind.i64 x 255 = x % 256 := by
  show IntKind.i64.wrap ((BitVec.ofInt 64 x &&& BitVec.ofInt 64 255).toNat : Int) = _
  have e : (BitVec.ofInt 64 x &&& BitVec.ofInt 64 255).toNat = (x % 18446744073709551616).toNat % 256 := by
    rw [BitVec.toNat_and, BitVec.toNat_ofInt, BitVec.toNat_ofInt]
    have : ((255 : Int) % (2 ^ 64 : Nat)).toNat = 2 ^ 8 - 1 := by decide
    rw [this, Nat.and_two_pow_sub_one_eq_mod]
    rfl
  rw [e, IntKind.wrap_i64]
  omega

theorem byt1 (a : Int) : Byt [a % 256] := fun x hx => by simp at hx; omega
theorem byt2 (a b : Int) : Byt [a % 256, b % 256] := fun x hx => by simp at hx; omega
def b1 (p : Int) : ByteArray := strOfNums [p % 256]
def b2 (n : Int) : ByteArray := strOfNums [n / 256 % 256, n % 256]
theorem b1_size (p : Int) : (b1 p).size = 1 := rfl
theorem b2_size (n : Int) : (b2 n).size = 2 := rfl

theorem conv_new (W : World) (bs : List Int) (hb : Byt bs) (n g : Nat) (hn : bs.length = n) (hg : g = W.heap.size) (t : TypeId) :
    (convert 85 9 (.slice (some ⟨g, 0, none⟩) n n)).run Try.prog (W.alloc (.cells (cel bs).toArray t)) = .ok (.string (strOfNums bs)) (W.alloc (.cells (cel bs).toArray t)) := by
  subst hn hg
  exact convert_part (part_row (heap_alloc_new _ _) hb bs.length rfl) 9 Try.underlying9

theorem two_any (n : Int) (w : World) : Calls Try.prog 39 #[.int .i64 n] w fun e w' => e = .returned (.string (b2 n)) ∧ Below w.heap.size w w' := by
  have hr := conv_new w [n / 256 % 256, n % 256] (byt2 _ _) 2 w.heap.size rfl rfl 5
  simp only [cel, List.map_cons, List.map_nil] at hr
  go_enter Try.func39, Try.ntmps39
  go_wp2
  go_ret
  exact ⟨rfl, below_alloc (Below.refl _ _) _⟩

theorem low_any (n : Int) (w : World) : Calls Try.prog 40 #[.int .i64 n] w fun e w' => e = .returned (.string (b2 n)) ∧ Below w.heap.size w w' := by
  have hr := conv_new w [n / 256 % 256, n % 256] (byt2 _ _) 2 w.heap.size rfl rfl 5
  simp only [cel, List.map_cons, List.map_nil] at hr
  have h1 := and_255 n
  have h2 := and_255 (n / 256)
  have h3 : n % 256 % 256 = n % 256 := by omega
  have h4 : n / 256 % 256 % 256 = n / 256 % 256 := by omega
  go_enter Try.func40, Try.ntmps40
  go_wp2
  go_ret
  exact ⟨rfl, below_alloc (Below.refl _ _) _⟩

def z1 : ByteArray := { data := #[0] }
theorem z1_size : z1.size = 1 := rfl
def ftext (f : Fl) : ByteArray := b1 f.proto ++ f.frm ++ z1 ++ f.to_ ++ z1 ++ b2 f.port ++ b2 f.dest
def OkF (f : Fl) : Prop := f.frm.size ≤ 140737488351232 ∧ f.to_.size ≤ 140737488351232
theorem ftext_size {f : Fl} (h : OkF f) : (ftext f).size ≤ 281474976710656 := by
  simp only [ftext, ByteArray.size_append, b1_size, b2_size, z1_size]
  have := h.1; have := h.2; omega

set_option maxHeartbeats 2000000 in
/-- flows.Hash. -/
theorem hash_any (k : List Int) (x : Fl) (w : World) (hk : Key k) (hx : OkF x) : Calls Try.prog 22 #[kv k, fv x] w fun e w' => e = .returned (.int .u64 (hsh k (bts (ftext x)))) ∧ Below w.heap.size w w' := by
  have HS := Lib.hid (fun w => text_any k (ftext x) w hk (ftext_size hx))
  obtain ⟨r, hr0⟩ : ∃ r, hsh k (bts (ftext x)) = r := ⟨_, rfl⟩
  rw [hr0] at HS ⊢
  clear hr0
  obtain ⟨k0, k1, k2, k3, k4, k5, k6, k7, k8, k9, k10, k11, k12, k13, k14, k15, rfl⟩ := hk.letters
  obtain ⟨p, f, t, o, d⟩ := x
  obtain ⟨hf, ht⟩ := hx
  simp only at hf ht
  have hr := conv_new ((w.alloc (.cells (cel [k0, k1, k2, k3, k4, k5, k6, k7, k8, k9, k10, k11, k12, k13, k14, k15]).toArray 66)).alloc (.cells (fcs ⟨p, f, t, o, d⟩).toArray 37)) [p % 256] (byt1 _) 1 (w.heap.size + 1 + 1) rfl (by simp) 5
  simp only [cel, fcs, List.map_cons, List.map_nil] at hr
  have HU := Lib.hid (fun w => two_any o w)
  have HV := Lib.hid (fun w => two_any d w)
  simp only [ftext] at HS
  have hb1 := b1_size p
  have hu1 := b2_size o
  have hv1 := b2_size d
  have e1 : strOfNums [p % 256] = b1 p := rfl
  rw [e1] at hr
  generalize b1 p = a at *
  generalize b2 o = u at *
  generalize b2 d = v at *
  have n1 : ¬ 9223372036854775807 < a.size + f.size := by omega
  have n2 : ¬ 9223372036854775807 < a.size + f.size + 1 := by omega
  have n3 : ¬ 9223372036854775807 < a.size + f.size + 1 + t.size := by omega
  have n4 : ¬ 9223372036854775807 < a.size + f.size + 1 + t.size + 1 := by omega
  have n5 : ¬ 9223372036854775807 < a.size + f.size + 1 + t.size + 1 + u.size := by omega
  have n6 : ¬ 9223372036854775807 < a.size + f.size + 1 + t.size + 1 + u.size + v.size := by omega
  clear hb1 hu1 hv1 e1 hf ht hk
  have hh : Ar (((w.alloc (.cells (cel [k0, k1, k2, k3, k4, k5, k6, k7, k8, k9, k10, k11, k12, k13, k14, k15]).toArray 66)).alloc (.cells (fcs ⟨p, f, t, o, d⟩).toArray 37)).alloc (.cells #[.int .u8 (p % 256)] 5)).drew w.heap.size (cel [k0, k1, k2, k3, k4, k5, k6, k7, k8, k9, k10, k11, k12, k13, k14, k15]) ∧
      Ar (((w.alloc (.cells (cel [k0, k1, k2, k3, k4, k5, k6, k7, k8, k9, k10, k11, k12, k13, k14, k15]).toArray 66)).alloc (.cells (fcs ⟨p, f, t, o, d⟩).toArray 37)).alloc (.cells #[.int .u8 (p % 256)] 5)).drew (w.heap.size + 1) (fcs ⟨p, f, t, o, d⟩) := by
    refine ⟨(((Ar.new w _ 66).alloc _).alloc _).drew, ?_⟩
    have := Ar.new (w.alloc (.cells (cel [k0, k1, k2, k3, k4, k5, k6, k7, k8, k9, k10, k11, k12, k13, k14, k15]).toArray 66)) (fcs ⟨p, f, t, o, d⟩) 37
    rw [World.size_alloc] at this
    exact (this.alloc _).drew
  simp only [cel, fcs, List.map_cons, List.map_nil] at hh
  have HH := Lib.hid hh
  clear hh
  simp only [kv_lit, fv] at HS ⊢
  go_enter Try.func22, Try.ntmps22
  go_wp2
  refine wp_region_held_drew (S := fun W => Ar W w.heap.size (cel [k0, k1, k2, k3, k4, k5, k6, k7, k8, k9, k10, k11, k12, k13, k14, k15]) ∧ Ar W (w.heap.size + 1) (fcs ⟨p, f, t, o, d⟩)) (by kernel_rfl) HH.out (fun hHeld => ?_)
  refine wpAnyH_take (i := 0) (oi := ({ dst := some 19, op := Go.Op.load 66 (Go.Operand.tmp 2), type := 66, pos := _, after := #[], guard := none } : Oper)) (v := ?_) rfl (by kernel_rfl) (by kernel_rfl) (by kernel_rfl) (fun _ _ _ h => h) (Or.inl ⟨by rfl, ?_⟩) (by assumption) ?_
  rotate_left
  · intro W' hSw
    try dsimp only at hSw
    obtain ⟨c0, c1, c2, c3, c4, c5, c6, c7, c8, c9, c10, c11, c12, c13, c14, c15⟩ := ar16 hSw.1
    go_simp
    try with_reducible rfl
  try simp only [Act.put, List.setIfInBounds_toArray, List.set_cons_zero, List.set_cons_succ]
  refine wpAnyH_take (i := 1) (oi := ({ dst := some 20, op := Go.Op.move (Go.Operand.tmp 5), type := 9, pos := _, after := #[], guard := none } : Oper)) (v := ?_) rfl (by kernel_rfl) (by kernel_rfl) (by kernel_rfl) (fun _ _ _ h => h) (Or.inl ⟨by rfl, ?_⟩) (by assumption) ?_
  rotate_left
  · intro W' hSw
    try dsimp only at hSw
    go_simp
    try with_reducible rfl
  try simp only [Act.put, List.setIfInBounds_toArray, List.set_cons_zero, List.set_cons_succ]
  refine wpAnyH_take (i := 2) (oi := ({ dst := some 21, op := Go.Op.fieldAddr 37 (Go.Operand.tmp 3) 3, type := 0, pos := _, after := #[], guard := none } : Oper)) (v := ?_) rfl (by kernel_rfl) (by kernel_rfl) (by kernel_rfl) (fun _ _ _ h => h) (Or.inl ⟨by rfl, ?_⟩) (by assumption) ?_
  rotate_left
  · intro W' hSw
    try dsimp only at hSw
    go_simp
    try with_reducible rfl
  try simp only [Act.put, List.setIfInBounds_toArray, List.set_cons_zero, List.set_cons_succ]
  refine wpAnyH_take (i := 3) (oi := ({ dst := some 22, op := Go.Op.load 3 (Go.Operand.tmp 21), type := 3, pos := _, after := #[{ on := 2, ground := Go.Ground.data }], guard := none } : Oper)) (v := ?_) rfl (by kernel_rfl) (by kernel_rfl) (by kernel_rfl) (fun _ _ _ h => h) (Or.inl ⟨by rfl, ?_⟩) (by assumption) ?_
  rotate_left
  · intro W' hSw
    try dsimp only at hSw
    have d3 := hSw.2.cell 3 rfl
    go_simp
    try with_reducible rfl
  try simp only [Act.put, List.setIfInBounds_toArray, List.set_cons_zero, List.set_cons_succ]
  refine wpAnyH_take (i := 6) (oi := ({ dst := some 25, op := Go.Op.fieldAddr 37 (Go.Operand.tmp 3) 4, type := 0, pos := _, after := #[], guard := none } : Oper)) (v := ?_) rfl (by kernel_rfl) (by kernel_rfl) (by kernel_rfl) (fun _ _ _ h => h) (Or.inl ⟨by rfl, ?_⟩) (by assumption) ?_
  rotate_left
  · intro W' hSw
    try dsimp only at hSw
    go_simp
    try with_reducible rfl
  try simp only [Act.put, List.setIfInBounds_toArray, List.set_cons_zero, List.set_cons_succ]
  refine wpAnyH_take (i := 7) (oi := ({ dst := some 26, op := Go.Op.load 3 (Go.Operand.tmp 25), type := 3, pos := _, after := #[{ on := 6, ground := Go.Ground.data }], guard := none } : Oper)) (v := ?_) rfl (by kernel_rfl) (by kernel_rfl) (by kernel_rfl) (fun _ _ _ h => h) (Or.inl ⟨by rfl, ?_⟩) (by assumption) ?_
  rotate_left
  · intro W' hSw
    try dsimp only at hSw
    have d4 := hSw.2.cell 4 rfl
    go_simp
    try with_reducible rfl
  try simp only [Act.put, List.setIfInBounds_toArray, List.set_cons_zero, List.set_cons_succ]
  refine wpAnyH_ready (rs := [4]) (by kernel_rfl) (by simp) ?_
  refine AllReadyH.cons (o := ({ dst := some 23, op := Go.Op.call { callee := Go.Callee.value (Go.Operand.func 39), args := #[Go.Operand.tmp 22], argTypes := #[3] }, type := 9, pos := _, after := #[{ on := 3, ground := Go.Ground.data }], guard := none } : Oper)) rfl (fun K hK => ?_) AllReadyH.nil
  go_simp
  refine (HU.out _).mono ?_
  rintro e w1 ⟨rfl, hb1⟩
  go_wp2_with fail
  refine hK.out _ _ ?_ (fun hHeld => ?_)
  · exact ⟨hHeld.1.below hb1, hHeld.2.below hb1⟩
  clear hK K
  try simp only [Act.put, List.setIfInBounds_toArray, List.set_cons_zero, List.set_cons_succ]
  have HB1 := Lib.hid hb1
  clear hb1
  refine wpAnyH_take (i := 5) (oi := ({ dst := some 24, op := Go.Op.binOp Go.BinOp.add 9 (Go.Operand.tmp 20) (Go.Operand.tmp 23) 9, type := 9, pos := _, after := #[{ on := 1, ground := Go.Ground.data }, { on := 4, ground := Go.Ground.data }], guard := none } : Oper)) (v := ?_) rfl (by kernel_rfl) (by kernel_rfl) (by kernel_rfl) (fun _ _ _ h => h) (Or.inl ⟨by rfl, ?_⟩) (by assumption) ?_
  rotate_left
  · intro W' hSw
    try dsimp only at hSw
    go_simp
    try with_reducible rfl
  try simp only [Act.put, List.setIfInBounds_toArray, List.set_cons_zero, List.set_cons_succ]
  refine wpAnyH_ready (rs := [8]) (by kernel_rfl) (by simp) ?_
  refine AllReadyH.cons (o := ({ dst := some 27, op := Go.Op.call { callee := Go.Callee.value (Go.Operand.func 39), args := #[Go.Operand.tmp 26], argTypes := #[3] }, type := 9, pos := _, after := #[{ on := 7, ground := Go.Ground.data }, { on := 4, ground := Go.Ground.chain }], guard := none } : Oper)) rfl (fun K hK => ?_) AllReadyH.nil
  go_simp
  refine (HV.out _).mono ?_
  rintro e w2 ⟨rfl, hb2⟩
  go_wp2_with fail
  refine hK.out _ _ ?_ (fun hHeld => ?_)
  · exact ⟨hHeld.1.below hb2, hHeld.2.below hb2⟩
  clear hK K
  try simp only [Act.put, List.setIfInBounds_toArray, List.set_cons_zero, List.set_cons_succ]
  have HB2 := Lib.hid hb2
  clear hb2
  refine wpAnyH_take (i := 9) (oi := ({ dst := some 28, op := Go.Op.binOp Go.BinOp.add 9 (Go.Operand.tmp 24) (Go.Operand.tmp 27) 9, type := 9, pos := _, after := #[{ on := 5, ground := Go.Ground.data }, { on := 8, ground := Go.Ground.data }], guard := none } : Oper)) (v := ?_) rfl (by kernel_rfl) (by kernel_rfl) (by kernel_rfl) (fun _ _ _ h => h) (Or.inl ⟨by rfl, ?_⟩) (by assumption) ?_
  rotate_left
  · intro W' hSw
    try dsimp only at hSw
    go_simp
    try with_reducible rfl
  try simp only [Act.put, List.setIfInBounds_toArray, List.set_cons_zero, List.set_cons_succ]
  refine wpAnyH_ready (rs := [10]) (by kernel_rfl) (by simp) ?_
  refine AllReadyH.cons (o := ({ dst := some 29, op := Go.Op.call { callee := Go.Callee.value (Go.Operand.func 38), args := #[Go.Operand.tmp 19, Go.Operand.tmp 28], argTypes := #[66, 9] }, type := 48, pos := _, after := #[{ on := 0, ground := Go.Ground.data }, { on := 9, ground := Go.Ground.data }, { on := 8, ground := Go.Ground.chain }], guard := none } : Oper)) rfl (fun K hK => ?_) AllReadyH.nil
  go_simp
  refine (HS.out _).mono ?_
  rintro e w3 ⟨rfl, hb3⟩
  go_wp2_with fail
  refine hK.out _ _ ?_ (fun hHeld => ?_)
  · exact ⟨hHeld.1.below hb3, hHeld.2.below hb3⟩
  clear hK K
  try simp only [Act.put, List.setIfInBounds_toArray, List.set_cons_zero, List.set_cons_succ]
  have HB3 := Lib.hid hb3
  clear hb3
  refine wpAnyH_take (i := 11) (oi := ({ dst := some 4, op := Go.Op.assign (Go.Operand.tmp 29), type := 48, pos := _, after := #[{ on := 10, ground := Go.Ground.data }, { on := 10, ground := Go.Ground.chain }, { on := 0, ground := Go.Ground.phase }, { on := 1, ground := Go.Ground.phase }, { on := 2, ground := Go.Ground.phase }, { on := 3, ground := Go.Ground.phase }, { on := 4, ground := Go.Ground.phase }, { on := 5, ground := Go.Ground.phase }, { on := 6, ground := Go.Ground.phase }, { on := 7, ground := Go.Ground.phase }, { on := 8, ground := Go.Ground.phase }, { on := 9, ground := Go.Ground.phase }, { on := 10, ground := Go.Ground.phase }], guard := none } : Oper)) (v := ?_) rfl (by kernel_rfl) (by kernel_rfl) (by kernel_rfl) (fun _ _ _ h => h) (Or.inl ⟨by rfl, ?_⟩) (by assumption) ?_
  rotate_left
  · intro W' hSw
    try dsimp only at hSw
    go_simp
    try with_reducible rfl
  try simp only [Act.put, List.setIfInBounds_toArray, List.set_cons_zero, List.set_cons_succ]
  refine wpAnyH_done (by kernel_rfl) ?_ _

  go_wp2
  go_ret
  refine ⟨rfl, ?_⟩
  have hb0 : Below w.heap.size w (((w.alloc (.cells (cel [k0, k1, k2, k3, k4, k5, k6, k7, k8, k9, k10, k11, k12, k13, k14, k15]).toArray 66)).alloc (.cells (fcs ⟨p, f, t, o, d⟩).toArray 37)).alloc (.cells #[.int .u8 (p % 256)] 5)).drew := below_drew (below_alloc (below_alloc (below_alloc (Below.refl _ _) _) _) _)
  exact below_then (below_then (below_then hb0 hb0.size HB1.out) (below_then hb0 hb0.size HB1.out).size HB2.out) (below_then (below_then hb0 hb0.size HB1.out) (below_then hb0 hb0.size HB1.out).size HB2.out).size HB3.out

end Go.Proofs.Ytondjponengedaa
