/-
  The reference's Ring.
-/
import Derived.Test.YtpkahjflhboddaaRefo
namespace Go.Proofs.Ytpkahjflhboddaa
open Go.RowKit
set_option linter.unusedVariables false
set_option linter.unusedSimpArgs false
set_option maxRecDepth 10000

theorem row_slice2 {w : World} {B e size n : Nat} {v : Value} {xs : List Value} (h : w.ownsRow B e size v n xs) (hn : 1 ≤ n) : ∃ g c, v = .slice (some ⟨g, 0, none⟩) n c ∧ n ≤ c := by
  rcases h.2 with ⟨_, h0⟩ | ⟨g, cap, cur, rfl, hbg, hg, hnc, _⟩
  · omega
  · exact ⟨g, cap, rfl, hnc⟩

set_option maxHeartbeats 4000000 in
theorem rring_any {w : World} {a : Option Addr} {n c : Nat} {l : List Bk} {o : List Nat} (h : Bks w a n c l) (hn1 : 1 ≤ n) (hn16 : n ≤ 16) (ho : IsOrd l o) (hap : Apart l) (hw : ∀ i, i < l.length → 1 ≤ (l[i]!).wt ∧ (l[i]!).wt ≤ 100) :
    Calls Try.prog 22 #[.slice a n c] w fun e w' => ∃ v, e = .returned v ∧ w'.ownsRow w.heap.size 3 1 v (ring l o).length (icells (ring l o)) ∧ Below w.heap.size w w' := by
  have H := Lib.hid h
  have HORD := Lib.hid (rorder_any h hn16 ho hap)
  obtain ⟨hn, hnc, hn2, -⟩ := h
  have HO := Lib.hid (show o.length = n by rw [ho.1, hn])
  have HX := Lib.hid (fun r (hr : r < n) => (ho.2 r (by rw [← hn]; exact hr)).1)
  have HW := Lib.hid hw
  have HN := Lib.hid hn
  have HMEM := Lib.hid (fun i (hi : i ∈ o) => show i < l.length by
    obtain ⟨r, hr, rfl⟩ := List.getElem_of_mem hi
    have := (ho.2 r (by rw [← ho.1]; exact hr)).1
    rwa [getElem!_pos o r hr] at this)
  clear hn ho hw hap
  obtain ⟨i0, hi, hz0, hz1, hz2⟩ := info_parts info3
  go_enter Try.func22, Try.ntmps22
  go_wp2_with fail
  refine HORD.out.mono ?_
  rintro e w1 ⟨ov, rfl, horow, hb1⟩
  obtain ⟨og, oc, rfl, hoc⟩ := row_slice2 horow hn1
  have hoglt := (horow.lt og rfl).2
  have hocells := horow.cells (g := og) rfl
  have HI : Hid (Ints w1 og 0 (ord o)) := Lib.hid ⟨hoglt, fun j hj => by
    have hj' : j < o.length := by simpa [ord] using hj
    have := hocells j (.int .i64 (ord o)[j]!) (by rw [icells, List.getElem?_map, List.getElem?_eq_getElem hj, getElem!_pos _ j hj]; rfl)
    rwa [add_plain] at this⟩
  have HB1 := Lib.hid hb1
  have hs1 := hb1.size
  have hst : Hid (∃ k : Nat, k + n = n ∧ (.int .i64 0 : Value) = .int .i64 k ∧ w1.ownsRow w1.heap.size 3 1 (.slice none 0 0) (ring l (o.take k)).length (icells (ring l (o.take k))) ∧ Below w1.heap.size w1 w1) := Lib.hid ⟨0, by omega, rfl, by simpa [ring, icells] using World.ownsRow_nil w1 w1.heap.size 3 1, Below.refl _ _⟩
  clear horow hocells hb1
  go_wp2
  go_loopg [3, 5, 6] n (fun gg s3 s5 _ wr => Hid (∃ k : Nat, k + gg = n ∧ s5 = .int .i64 k ∧ wr.ownsRow w1.heap.size 3 1 s3 (ring l (o.take k)).length (icells (ring l (o.take k))) ∧ Below w1.heap.size w1 wr))
  case atStart => exact hst
  case round =>
    clear hst
    obtain ⟨k, hk, rfl, hrow, hb⟩ := hrel.out
    clear hrel
    by_cases hlt : k < n
    · have hltz : (k : Int) < (n : Int) := by omega
      have hko : k < o.length := by rw [HO.out]; exact hlt
      have hmem : o[k]! ∈ o := by rw [getElem!_pos o k hko]; exact List.getElem_mem _
      have hin := HX.out k hlt
      rw [← HN.out] at hin
      obtain ⟨hw1, hw2⟩ := HW.out _ (HMEM.out _ hmem)
      have HT := Lib.hid (ring_next l o k hko)
      have hzl : (ring l (o.take k)).length ≤ 1600 := by
        have := ring_len_le l (fun i hi => (HW.out i hi).2) (o.take k) (fun i hi => HMEM.out i (List.mem_of_mem_take hi))
        have : (o.take k).length ≤ k := by simp; omega
        omega
      have hgets : Hid (∀ W, Below w1.heap.size w1 W → W.cell? ⟨og, k, none⟩ = some (.int .i64 (o[k]! : Nat)) ∧ ∃ b off, a = some ⟨b, off, none⟩ ∧ W.cell? ⟨b, off + o[k]! * 2 + 1, none⟩ = some (.int .i64 (l[o[k]!]!).wt)) := Lib.hid (fun W hW => by
        have d0 := (HI.out.below hW HI.out.1).2 k (by simpa [ord] using hko)
        rw [ord_at o hko, Nat.zero_add] at d0
        obtain ⟨b, off, e, hbb, c0, c1⟩ := bk_at ((H.out.below HB1.out).below hW) hin
        exact ⟨d0, b, off, e, c1⟩)
      obtain ⟨b, off, rfl, hbb, -, -⟩ := bk_at ((H.out.below HB1.out).below hb) hin
      have hgets2 : Hid (∀ W, Below w1.heap.size w1 W → W.cell? ⟨og, k, none⟩ = some (.int .i64 (o[k]! : Nat)) ∧ W.cell? ⟨b, off + o[k]! * 2 + 1, none⟩ = some (.int .i64 (l[o[k]!]!).wt)) := Lib.hid (fun W hW => by
        obtain ⟨d0, b', off', e, c1⟩ := hgets.out W hW
        simp only [Option.some.injEq, Addr.mk.injEq, and_true] at e
        obtain ⟨rfl, rfl⟩ := e
        exact ⟨d0, c1⟩)
      generalize (l[o[k]!]!).wt = wt at HT hw1 hw2 hgets2
      obtain ⟨m, rfl⟩ := Int.eq_ofNat_of_zero_le (show 0 ≤ wt by omega)
      rw [Int.toNat_natCast] at HT
      generalize o[k]! = x at hin HT hgets2
      generalize ring l (o.take k) = zs at HT hrow hzl
      have hxz : (x : Int) < (n : Int) := by omega
      have hst2 : Hid (∃ j : Nat, j + m = m ∧ (.int .i64 0 : Value) = .int .i64 j ∧ wr.ownsRow w1.heap.size 3 1 u3 (zs.length + j) (icells (zs ++ List.replicate j (x : Int))) ∧ Below w1.heap.size w1 wr) := Lib.hid ⟨0, by omega, rfl, by simpa using hrow, hb⟩
      clear hrow hb hgets hmem
      go_wp2
      go_loopg [3, 6] m (fun gg s3 s6 wr => Hid (∃ j : Nat, j + gg = m ∧ s6 = .int .i64 j ∧ wr.ownsRow w1.heap.size 3 1 s3 (zs.length + j) (icells (zs ++ List.replicate j (x : Int))) ∧ Below w1.heap.size w1 wr))
      case atStart => exact hst2
      case round =>
        clear hst2
        obtain ⟨j, hj, rfl, hrow2, hb2⟩ := hrel.out
        clear hrel
        obtain ⟨d0, c1⟩ := hgets2.out wr hb2
        by_cases hlt2 : j < m
        · have hltz2 : (j : Int) < (m : Int) := by omega
          have HR2 := Lib.hid (World.ownsRow.alloc hrow2 (.cells #[.int .i64 x] 3))
          have HB2 := Lib.hid hb2
          have hsz := hb2.size
          clear hrow2 hb2
          go_wp2_with (at_builtin; refine wpList_append_own _ rfl _ _ 34 rfl w1.heap.size 3 i0 _ 1 8 Try.underlying34 hi hz0 hz1 hz2 rfl (by decide) _ (zs.length + j) _ rfl HR2.out ⟨_, 0, none⟩ 1 1 [.int .i64 x] rfl rfl (cell_one_at _ _ rfl) (by intro u hu; simp at hu; subst hu; rfl) (by simp only [maxLen]; omega) (by omega) (by simp; omega) ?_; intro v1 w4 hown1 hgrow1 hnil1)
          go_roundg (m - (j + 1))
          case measure => omega
          case rel =>
            refine Lib.hid ⟨j + 1, by omega, by go_num, ?_, ?_⟩
            · have e : icells (zs ++ List.replicate (j + 1) (x : Int)) = icells (zs ++ List.replicate j (x : Int)) ++ [.int .i64 x] := by
                rw [List.replicate_succ', ← List.append_assoc]; simp [icells]
              rw [e]; exact hown1
            · exact (HB2.out.alloc (by omega) _).grown hgrow1 (by simp; omega) (fun i hi => (HR2.out.lt i hi).1)
        · have hltz2 : ¬ (j : Int) < (m : Int) := by omega
          obtain rfl : j = m := by omega
          have HR2 := Lib.hid hrow2
          have HB2 := Lib.hid hb2
          clear hrow2 hb2
          go_wp2
          go_roundg (n - (k + 1))
          case measure => omega
          case rel =>
            refine Lib.hid ⟨k + 1, by omega, by go_num, ?_, HB2.out⟩
            rw [HT.out, List.length_append, List.length_replicate]
            exact HR2.out
    · have hltz : ¬ (k : Int) < (n : Int) := by omega
      obtain rfl : k = n := by omega
      have he : o.take k = o := by rw [← HO.out]; exact List.take_length
      rw [he] at hrow
      go_wp2
      go_ret
      refine ⟨_, rfl, ⟨hrow.1, ?_⟩, HB1.out.trans (hb.mono hs1)⟩
      rcases hrow.2 with hnil | ⟨g, cap, cur, rfl, hB, rest⟩
      · exact .inl hnil
      · exact .inr ⟨g, cap, cur, rfl, Nat.le_trans hs1 hB, rest⟩

end Go.Proofs.Ytpkahjflhboddaa
