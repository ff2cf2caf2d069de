/-
  What sip.turned, sip.Number and the reference's Number do: sixteen bytes, one by one.
-/
import Derived.Test.YtpkahjflhboddaaKey
namespace Go.Proofs.Ytpkahjflhboddaa
open Go.RowKit

/-- An array of sixteen bytes in memory. -/
theorem ar_byte {w : World} {B : Nat} {l : List Int} (h : Ar w B (cel l)) (j : Nat) (hj : j < l.length) : w.cell? ⟨B, j, none⟩ = some (.int .u8 (l[j]?.getD 0)) ∧ w.frozen? ⟨B, j, none⟩ = false := by
  refine ⟨h.cell j ?_, h.free j (by simpa [cel] using hj)⟩
  simp [cel, hj]
theorem ar_set {w : World} {B : Nat} {l : List Int} (h : Ar w B (cel l)) (j : Nat) (hj : j < l.length) (x : Int) : Ar (w.setCell ⟨B, j, none⟩ (.int .u8 x)) B (cel (l.set j x)) := by
  have := h.set j (by simpa [cel] using hj) (.int .u8 x)
  rwa [show cel (l.set j x) = (cel l).set j (.int .u8 x) by simp [cel, List.map_set]]
theorem ar_new (w : World) (l : List Int) (t : TypeId) : Ar (w.alloc (.cells (cel l).toArray t)) w.heap.size (cel l) := Ar.new w (cel l) t
/-- A block of sixteen is written anew, whole. -/
def put16 (w : World) (B : Nat) (k : List Int) : World := (List.range 16).foldl (fun u j => u.setCell ⟨B, j, none⟩ (.int .u8 (k[j]?.getD 0))) w
theorem below_put16 {B C : Nat} {w W : World} (h : Below B w W) (hC : B ≤ C) (k : List Int) : Below B w (put16 W C k) := by
  have go : ∀ (l : List Nat) (W : World), Below B w W → Below B w (l.foldl (fun u j => u.setCell ⟨C, j, none⟩ (.int .u8 (k[j]?.getD 0))) W) := by
    intro l
    induction l with
    | nil => exact fun _ h => h
    | cons a r ih => exact fun W h => ih _ (h.setCell hC _)
  exact go _ _ h

/-- The first j bytes turned. -/
def trnTo (k : List Int) (j : Nat) : List Int := (trn k).take j ++ k.drop j
theorem trnTo_len (k : List Int) (j : Nat) (hj : j ≤ k.length) : (trnTo k j).length = k.length := by simp [trnTo, trn]; omega
theorem trnTo_zero (k : List Int) : trnTo k 0 = k := by simp [trnTo]
theorem trnTo_all (k : List Int) (j : Nat) (hj : k.length ≤ j) : trnTo k j = trn k := by
  simp only [trnTo]
  rw [List.take_of_length_le (by rw [trn_len]; exact hj), List.drop_of_length_le hj, List.append_nil]
theorem trnTo_at (k : List Int) (j : Nat) (hj : j < k.length) : (trnTo k j)[j]?.getD 0 = k[j]?.getD 0 := by
  have hl : ((trn k).take j).length = j := by simp [trn]; omega
  simp only [trnTo]
  rw [List.getElem?_append_right (by omega), hl, List.getElem?_drop]
  simp
theorem trnTo_set (k : List Int) (j : Nat) (hj : j < k.length) : (trnTo k j).set j (255 - k[j]?.getD 0) = trnTo k (j + 1) := by
  have hl : ((trn k).take j).length = j := by simp [trn]; omega
  have hx : (trn k)[j]? = some (255 - k[j]?.getD 0) := by simp [trn, hj]
  simp only [trnTo]
  rw [List.set_append_right _ _ (by omega), hl, Nat.sub_self, List.take_add_one, hx, List.drop_eq_getElem_cons hj, List.set_cons_zero, List.append_assoc]
  rfl

theorem not_u8 (s : Int) (h : 0 ≤ s ∧ s ≤ 255) : bits BinOp.xor IntKind.u8 IntKind.u8.max s = 255 - s := by
  have hm : IntKind.u8.max = 255 := rfl
  rw [hm, u8_xor _ _ (by omega) (by omega) h.1 (by omega)]
  have e : ((255 : Int)).toNat = 2 ^ 8 - 1 := rfl
  have k : 255 - s.toNat = (BitVec.allOnes 8 ^^^ BitVec.ofNat 8 s.toNat).toNat := by
    rw [BitVec.allOnes_xor, BitVec.toNat_not, BitVec.toNat_ofNat]; omega
  rw [BitVec.toNat_xor, BitVec.toNat_allOnes, BitVec.toNat_ofNat, Nat.mod_eq_of_lt (by omega)] at k
  rw [e, ← k]; omega

/-- What holds ahead of each byte that is turned. -/
def TRel (w : World) (k : List Int) (gg : Nat) (i : Value) (wr : World) : Prop :=
  ∃ j : Nat, j + gg = 16 ∧ i = .int .i64 j ∧ Below w.heap.size w wr ∧ w.heap.size + 1 < wr.heap.size ∧ Ar wr w.heap.size (cel (trnTo k j)) ∧ ∃ u, Key u ∧ Ar wr (w.heap.size + 1) (cel u)

theorem zero_key : Key (List.replicate 16 0) := ⟨rfl, fun x hx => by simp at hx; omega⟩

set_option maxHeartbeats 2000000 in
/-- sip.turned. -/
theorem turned_any (k : List Int) (w : World) (hk : Key k) : Calls Try.prog 64 #[kv k] w fun e w' => e = .returned (kv (trn k)) ∧ Below w.heap.size w w' := by
  have HK := Lib.hid hk
  have hst : Hid (TRel w k 16 (.int .i64 0) ((w.alloc (.cells (cel k).toArray 51)).alloc (.cells (cel (List.replicate 16 0)).toArray 51))) :=
    Lib.hid ⟨0, by omega, rfl, ((Below.refl _ _).alloc (Nat.le_refl _) _).alloc (by simp) _, by simp, by rw [trnTo_zero]; exact (ar_new w k 51).alloc _, _, zero_key, by
      have := ar_new (w.alloc (.cells (cel k).toArray 51)) (List.replicate 16 0) 51
      rwa [World.size_alloc] at this⟩
  obtain ⟨k0, k1, k2, k3, k4, k5, k6, k7, k8, k9, k10, k11, k12, k13, k14, k15, hl⟩ := hk.letters
  clear hk
  have hst' := hst
  rw [hl] at hst'
  simp only [cel, List.map_cons, List.map_nil, List.replicate] at hst'
  rw [show kv k = .agg #[.int .u8 k0, .int .u8 k1, .int .u8 k2, .int .u8 k3, .int .u8 k4, .int .u8 k5, .int .u8 k6, .int .u8 k7, .int .u8 k8, .int .u8 k9, .int .u8 k10, .int .u8 k11, .int .u8 k12, .int .u8 k13, .int .u8 k14, .int .u8 k15] by rw [hl]; rfl]
  have HL := Lib.hid hl
  clear hst hl
  go_enter Try.func64, Try.ntmps64
  go_wp2
  go_loopg [4] 16 (fun gg i wr => TRel w k gg i wr)
  case atStart =>
    rw [HL.out]
    exact hst'.out
  case round =>
    clear hst'
    obtain ⟨j, hj, rfl, hb, hz, hc, u, huk, hu⟩ := hrel
    have HB := Lib.hid hb
    have HC := Lib.hid hc
    have HU := Lib.hid hu
    clear hb hc hu
    rcases gk with _ | og
    · have hkl : ¬ (j : Int) < 16 := by omega
      obtain rfl : j = 16 := by omega
      rw [trnTo_all k 16 (by rw [HK.out.1]; omega)] at HC
      have hkt : Key (trn k) := ⟨by rw [trn_len]; exact HK.out.1, trn_byt HK.out.2⟩
      obtain ⟨t, ht⟩ : ∃ t, trn k = t := ⟨_, rfl⟩
      rw [ht] at HC hkt
      have HT := Lib.hid ht
      clear ht
      obtain ⟨t0, t1, t2, t3, t4, t5, t6, t7, t8, t9, t10, t11, t12, t13, t14, t15, rfl⟩ := hkt.letters
      obtain ⟨u0, u1, u2, u3, u4, u5, u6, u7, u8, u9, u10, u11, u12, u13, u14, u15, rfl⟩ := huk.letters
      have c0 := (ar_byte HC.out 0 (by simp)).1
      have c1 := (ar_byte HC.out 1 (by simp)).1
      have c2 := (ar_byte HC.out 2 (by simp)).1
      have c3 := (ar_byte HC.out 3 (by simp)).1
      have c4 := (ar_byte HC.out 4 (by simp)).1
      have c5 := (ar_byte HC.out 5 (by simp)).1
      have c6 := (ar_byte HC.out 6 (by simp)).1
      have c7 := (ar_byte HC.out 7 (by simp)).1
      have c8 := (ar_byte HC.out 8 (by simp)).1
      have c9 := (ar_byte HC.out 9 (by simp)).1
      have c10 := (ar_byte HC.out 10 (by simp)).1
      have c11 := (ar_byte HC.out 11 (by simp)).1
      have c12 := (ar_byte HC.out 12 (by simp)).1
      have c13 := (ar_byte HC.out 13 (by simp)).1
      have c14 := (ar_byte HC.out 14 (by simp)).1
      have c15 := (ar_byte HC.out 15 (by simp)).1
      simp only [List.getElem?_cons_zero, List.getElem?_cons_succ, Option.getD_some] at c0 c1 c2 c3 c4 c5 c6 c7 c8 c9 c10 c11 c12 c13 c14 c15
      obtain ⟨d0, f0⟩ := ar_byte HU.out 0 (by simp)
      obtain ⟨d1, f1⟩ := ar_byte HU.out 1 (by simp)
      obtain ⟨d2, f2⟩ := ar_byte HU.out 2 (by simp)
      obtain ⟨d3, f3⟩ := ar_byte HU.out 3 (by simp)
      obtain ⟨d4, f4⟩ := ar_byte HU.out 4 (by simp)
      obtain ⟨d5, f5⟩ := ar_byte HU.out 5 (by simp)
      obtain ⟨d6, f6⟩ := ar_byte HU.out 6 (by simp)
      obtain ⟨d7, f7⟩ := ar_byte HU.out 7 (by simp)
      obtain ⟨d8, f8⟩ := ar_byte HU.out 8 (by simp)
      obtain ⟨d9, f9⟩ := ar_byte HU.out 9 (by simp)
      obtain ⟨d10, f10⟩ := ar_byte HU.out 10 (by simp)
      obtain ⟨d11, f11⟩ := ar_byte HU.out 11 (by simp)
      obtain ⟨d12, f12⟩ := ar_byte HU.out 12 (by simp)
      obtain ⟨d13, f13⟩ := ar_byte HU.out 13 (by simp)
      obtain ⟨d14, f14⟩ := ar_byte HU.out 14 (by simp)
      obtain ⟨d15, f15⟩ := ar_byte HU.out 15 (by simp)
      simp only [List.getElem?_cons_zero, List.getElem?_cons_succ, Option.getD_some] at d0 d1 d2 d3 d4 d5 d6 d7 d8 d9 d10 d11 d12 d13 d14 d15
      go_wp2
      try rw [Exit.noGoto_ret]
      rw [HT.out, kv_lit]
      exact bodyPost_ret (v := .agg #[.int .u8 t0, .int .u8 t1, .int .u8 t2, .int .u8 t3, .int .u8 t4, .int .u8 t5, .int .u8 t6, .int .u8 t7, .int .u8 t8, .int .u8 t9, .int .u8 t10, .int .u8 t11, .int .u8 t12, .int .u8 t13, .int .u8 t14, .int .u8 t15]) (by simp [results, Try.results64, go_sem, d0, d1, d2, d3, d4, d5, d6, d7, d8, d9, d10, d11, d12, d13, d14, d15]) rfl ⟨rfl, below_put16 HB.out (by omega) [t0, t1, t2, t3, t4, t5, t6, t7, t8, t9, t10, t11, t12, t13, t14, t15]⟩
    · have hkl : (j : Int) < 16 := by omega
      have hlen : k.length = 16 := HK.out.1
      obtain ⟨c0, f0⟩ := ar_byte HC.out j (by rw [trnTo_len k j (by omega)]; omega)
      rw [trnTo_at k j (by omega)] at c0
      have HS := Lib.hid (ar_set HC.out j (by rw [trnTo_len k j (by omega)]; omega) (255 - k[j]?.getD 0))
      rw [trnTo_set k j (by omega)] at HS
      obtain ⟨x, hx⟩ : ∃ x, k[j]?.getD 0 = x := ⟨_, rfl⟩
      have hx0 := HK.out.2.get j
      rw [hx] at HS c0 hx0
      have hn := not_u8 x hx0
      clear hx
      go_wp2
      go_roundg og
      case measure => omega
      case rel =>
        exact ⟨j + 1, by omega, by simp, HB.out.setCell (Nat.le_refl _) _, by simpa using hz, HS.out, u, huk, HU.out.other (by simp) _⟩

end Go.Proofs.Ytpkahjflhboddaa
