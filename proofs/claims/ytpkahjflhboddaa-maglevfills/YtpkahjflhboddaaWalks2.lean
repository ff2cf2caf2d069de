/-
  The walks of all backends: maglev.walksOf.
-/
import Derived.Test.YtpkahjflhboddaaCount
import Derived.Test.YtpkahjflhboddaaLists
namespace Go.Proofs.Ytpkahjflhboddaa
open Go.RowKit
set_option linter.unusedVariables false
set_option linter.unusedSimpArgs false
set_option maxRecDepth 10000

theorem under51 : Try.prog.underlying 51 = some (.array 16 5) := by kernel_rfl
theorem info51 : (Try.prog.info? 51).map (fun i => (i.zero, i.size, i.bytes)) = some (some (.agg (Array.replicate 16 (.int .u8 0))), 16, 16) := by kernel_rfl
theorem load_key {W : World} {N : Nat} {A : Array Value} (h : Ar W N A.toList) (hs : A.size = 16) : Sem.run Try.prog (big 51 (.pointer (some ⟨N, 0, none⟩))) W = .ok (.agg A) W := by
  have h1 := run_loadCells_list (P := Try.prog) (w := W) ⟨N, 0, none⟩ A.toList (fun j v hv => by
    rw [add_plain, Nat.zero_add]; exact h.cell j hv)
  rw [Array.length_toList, hs] at h1
  obtain ⟨i, hi, -, hz, -⟩ := info_parts info51
  simp only [loadCells] at h1
  simp [big, Instr.loadAt, Instr.sureAddr, loadVar, isAgg, run_underlying under51, sizeOf, typeInfo, hi, hz, loadCells, h1]
theorem big51 (p : Value) : Instr.loadAt 51 p = big 51 p := rfl
attribute [local go_sem ↓] big51

def wkc (k : List Int) (b : Bk) : List Value := [.int .i64 (((hsh k (bts b.name)).toNat % 251 : Nat) : Int), .int .i64 (((hsh (trn k) (bts b.name)).toNat % 250 + 1 : Nat) : Int)]
def wcells (k : List Int) (l : List Bk) : List Value := l.flatMap (wkc k)
theorem wcells_next (k : List Int) (l : List Bk) (j : Nat) (h : j < l.length) : wcells k (l.take (j + 1)) = wcells k (l.take j) ++ wkc k l[j]! := by
  unfold wcells
  rw [take_next l j h, List.flatMap_append]
  congr 1

theorem row_below {w w' : World} {B e size n : Nat} {v : Value} {xs : List Value} (h : w.ownsRow B e size v n xs) (hb : Below w.heap.size w w') : w'.ownsRow B e size v n xs := by
  refine ⟨h.1, ?_⟩
  rcases h.2 with hn | ⟨g, cap, cur, rfl, hB, hg, rest⟩
  · exact .inl hn
  · exact .inr ⟨g, cap, cur, rfl, hB, by rw [hb.block g (Array.getElem?_eq_some_iff.1 hg).1]; exact hg, rest⟩

def WRel (w : World) (A : Array Value) (k : List Int) (l : List Bk) (n gg : Nat) (s5 s12 : Value) (wr : World) : Prop :=
  ∃ j : Nat, j + gg = n ∧ s12 = .int .i64 j ∧ wr.ownsRow (w.heap.size + 1) 75 2 s5 j (wcells k (l.take j)) ∧ Below w.heap.size w wr ∧ Ar wr w.heap.size A.toList

set_option maxHeartbeats 2000000 in
theorem walksOf_any {w : World} {a : Option Addr} {n c : Nat} {l : List Bk} (k : List Int) (hk : Key k) (h : Bks w a n c l) (hn16 : n ≤ 16) (hw : ∀ i, i < l.length → (l[i]!).name.size ≤ 40) :
    Calls Try.prog 40 #[kv k, .slice a n c] w fun e w' => ∃ v, e = .returned v ∧ w'.ownsRow (w.heap.size + 1) 75 2 v n (wcells k l) ∧ Below w.heap.size w w' := by
  have H := Lib.hid h
  have HW := Lib.hid hw
  obtain ⟨hn, hnc, hn2, -⟩ := h
  have HN := Lib.hid hn
  obtain ⟨A, hA⟩ : ∃ A, (cel k).toArray = A := ⟨_, rfl⟩
  have hAs : A.size = 16 := by rw [← hA, List.size_toArray, cel_len, hk.1]
  have hkA : kv k = .agg A := by rw [← hA]; rfl
  have H2 := Lib.hid (fun s w hs => two_any k s w hk hs)
  rw [hkA] at H2 ⊢
  have HA := Lib.hid hAs
  have hst : Hid (WRel w A k l n n (.slice none 0 0) (.int .i64 0) (w.alloc (.cells A 51))) := Lib.hid ⟨0, by omega, rfl, by simpa [wcells] using World.ownsRow_nil _ (w.heap.size + 1) 75 2, (Below.refl _ _).alloc (Nat.le_refl _) _, by
    have := Ar.new w A.toList 51
    simpa using this⟩
  clear hn hw hA hAs hkA
  obtain ⟨i0, hi, hz0, hz1, hz2⟩ := info_parts info75
  go_enter Try.func40, Try.ntmps40
  go_wp2
  go_loopg [5, 7, 8, 9, 12] n (fun gg s5 _ _ _ s12 wr => Hid (WRel w A k l n gg s5 s12 wr))
  case atStart => exact hst
  case round =>
    clear hst
    obtain ⟨j, hj, rfl, hrow, hb, hAr⟩ := hrel.out
    clear hrel
    by_cases hlt : j < n
    · have hltz : (j : Int) < (n : Int) := by omega
      obtain ⟨b, off, rfl, hbb, c0, c1⟩ := bk_at (H.out.below hb) hlt
      have hjl : j < l.length := by rw [← HN.out]; exact hlt
      have HT := Lib.hid (wcells_next k l j hjl)
      have hs : (l[j]!).name.size ≤ 140737488351232 := Nat.le_trans (HW.out j hjl) (by decide)
      have hu1 := hsh_u k (bts (l[j]!).name)
      have hu2 := hsh_u (trn k) (bts (l[j]!).name)
      have h2 := H2.out (l[j]!).name (wr.alloc (.cells #[.string (l[j]!).name, .int .i64 (l[j]!).wt] 50)) hs
      rw [wkc] at HT
      generalize (l[j]!).wt = wt at c1 h2
      obtain ⟨x, hx⟩ := Int.eq_ofNat_of_zero_le hu1.1
      obtain ⟨y, hy⟩ := Int.eq_ofNat_of_zero_le hu2.1
      rw [hx] at hu1
      rw [hy] at hu2
      rw [hx, hy] at h2 HT
      simp only [Int.toNat_natCast] at HT
      generalize (l[j]!).name = nm at c0 h2
      clear hx hy hs
      obtain ⟨x1, hx1⟩ : ∃ x1, x % 251 = x1 := ⟨_, rfl⟩
      obtain ⟨y1, hy1⟩ : ∃ y1, y % 250 = y1 := ⟨_, rfl⟩
      rw [hx1, hy1] at HT
      have g1 : (x : Int).tmod 251 = (x1 : Int) := by rw [Int.tmod_eq_emod_of_nonneg (by omega)]; omega
      have g2 : (y : Int).tmod 250 = (y1 : Int) := by rw [Int.tmod_eq_emod_of_nonneg (by omega)]; omega
      have g3 : IntKind.u64.wrap ((y1 : Int) + 1) = (y1 : Int) + 1 := by rw [IntKind.wrap_u64]; omega
      have g4 : IntKind.i64.wrap (x1 : Int) = (x1 : Int) := by rw [IntKind.wrap_i64]; omega
      have g5 : IntKind.i64.wrap ((y1 : Int) + 1) = (y1 : Int) + 1 := by rw [IntKind.wrap_i64]; omega
      have hkey := load_key (hAr.alloc (.cells #[.string nm, .int .i64 wt] 50)) HA.out
      have HAr := Lib.hid (hAr.alloc (.cells #[.string nm, .int .i64 wt] 50))
      have hNw : w.heap.size < wr.heap.size := hAr.1
      have hrow2 := World.ownsRow.alloc hrow (.cells #[.string nm, .int .i64 wt] 50)
      have HR0 := Lib.hid hrow2
      have HB := Lib.hid (hb.alloc hb.size (.cells #[.string nm, .int .i64 wt] 50))
      have H22 := Lib.hid h2
      generalize wcells k (l.take j) = zs at HT hrow HR0
      clear hx1 hy1 hu1 hu2 h2 hrow hrow2 hb hAr
      go_wp2_with fail
      refine H22.out.mono ?_
      rintro e w2 ⟨rfl, hb2⟩
      have HB2 : Hid (Below w.heap.size w w2) := Lib.hid (HB.out.trans (hb2.mono HB.out.size))
      have hsz2 : w.heap.size < w2.heap.size := by have := hb2.size; simp at this; omega
      have HA2 := Lib.hid (HAr.out.below hb2)
      have HR := Lib.hid (World.ownsRow.alloc (row_below HR0.out hb2) (.cells #[.int .i64 (x1 : Nat), .int .i64 ((y1 : Int) + 1)] 75))
      clear hb2 hkey
      go_wp2_with (at_builtin; refine wpList_append_own _ rfl _ _ 71 rfl (w.heap.size + 1) 75 i0 _ 2 16 Try.underlying71 hi hz0 hz1 hz2 rfl (by decide) _ j zs rfl HR.out ⟨_, 0, none⟩ 1 1 [.int .i64 (x1 : Nat), .int .i64 ((y1 : Int) + 1)] rfl rfl (cell_two_at _ _ _ rfl) (by intro u hu; simp at hu; rcases hu with rfl | rfl <;> rfl) (by simp only [maxLen]; omega) (by omega) (by simp; omega) ?_; intro v1 w1 hown1 hgrow1 hnil1)
      go_roundg (n - (j + 1))
      case measure => omega
      case rel =>
        refine Lib.hid ⟨j + 1, by omega, by go_num, by rw [HT.out]; exact hown1, (HB2.out.alloc (by omega) _).grown hgrow1 (by simp; omega) (fun i hi => Nat.le_trans (Nat.le_succ _) (HR.out.lt i hi).1), ?_⟩
        have hA3 := HA2.out.alloc (.cells #[.int .i64 (x1 : Nat), .int .i64 ((y1 : Int) + 1)] 75)
        refine ⟨Nat.lt_of_lt_of_le hA3.1 hgrow1.size, fun i hi => ?_⟩
        have hne : some w.heap.size ≠ u5.ownBlock := fun e => by
          have := (HR.out.lt _ e.symm).1
          omega
        have hblk := hgrow1.block w.heap.size hA3.1 hne
        rw [World.cell?_of_block (a := ⟨w.heap.size, i, none⟩) hblk, World.frozen?_of_block (a := ⟨w.heap.size, i, none⟩) hblk]
        exact hA3.2 i hi
    · have hltz : ¬ (j : Int) < (n : Int) := by omega
      obtain rfl : j = n := by omega
      have he : l.take j = l := by rw [HN.out]; exact List.take_length
      rw [he] at hrow
      go_wp2
      go_ret
      exact ⟨_, rfl, hrow, hb⟩

end Go.Proofs.Ytpkahjflhboddaa
