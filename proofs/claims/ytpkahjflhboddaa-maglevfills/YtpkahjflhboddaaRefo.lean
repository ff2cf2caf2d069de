/-
  The reference's Order and Ring.
-/
import Derived.Test.YtpkahjflhboddaaLists
import Derived.Test.YtpkahjflhboddaaRnd
namespace Go.Proofs.Ytpkahjflhboddaa
open Go.RowKit
set_option linter.unusedVariables false
set_option linter.unusedSimpArgs false
set_option maxRecDepth 10000

theorem ord_next (o : List Nat) {k : Nat} (hk : k < o.length) : icells (ord (o.take (k + 1))) = icells (ord (o.take k)) ++ [.int .i64 (o[k]! : Nat)] := by
  rw [takeN o k hk]; simp [ord, icells]
theorem ahead_next (l : List Bk) (x : ByteArray) {k : Nat} (hk : k < l.length) : ahead (l.take (k + 1)) x = ahead (l.take k) x + if lt8 (l[k]!).name x then 1 else 0 := by
  unfold ahead
  rw [take_next l k hk, List.countP_append]
  simp [List.countP_cons, List.countP_nil]
theorem ahead_le (l : List Bk) (x : ByteArray) (k : Nat) : ahead (l.take k) x ≤ k := by
  unfold ahead
  refine Nat.le_trans List.countP_le_length ?_
  rw [List.length_take]; omega

/-- What is gathered: those of the passes ahead, and the one of this pass, if it was come by. -/
def gat (o : List Nat) (r i : Nat) : List Nat := o.take r ++ if o[r]! < i then [o[r]!] else []
theorem gat_end (o : List Nat) {r n : Nat} (hr : r < o.length) (h : o[r]! < n) : gat o r n = o.take (r + 1) := by
  rw [gat, if_pos h, takeN o r hr]
theorem gat_start (o : List Nat) (r : Nat) : gat o r 0 = o.take r := by rw [gat, if_neg (by omega), List.append_nil]
theorem gat_same (o : List Nat) {r i : Nat} (h : o[r]! ≠ i) : gat o r (i + 1) = gat o r i := by
  unfold gat
  by_cases h1 : o[r]! < i
  · rw [if_pos h1, if_pos (by omega)]
  · rw [if_neg h1, if_neg (by omega)]
theorem gat_one (o : List Nat) {r i : Nat} (h : o[r]! = i) : gat o r (i + 1) = gat o r i ++ [i] := by
  unfold gat
  rw [h, if_pos (by omega), if_neg (by omega), List.append_nil]
theorem gat_len (o : List Nat) (r i : Nat) : (gat o r i).length ≤ r + 1 := by
  unfold gat
  split <;> simp <;> omega

theorem row_below3 {w w' : World} {B e size n : Nat} {v : Value} {xs : List Value} (h : w.ownsRow B e size v n xs) (hb : Below w.heap.size w w') : w'.ownsRow B e size v n xs := by
  refine ⟨h.1, ?_⟩
  rcases h.2 with hn | ⟨g, cap, cur, rfl, hB, hg, rest⟩
  · exact .inl hn
  · exact .inr ⟨g, cap, cur, rfl, hB, by rw [hb.block g (Array.getElem?_eq_some_iff.1 hg).1]; exact hg, rest⟩

def PaRel (w : World) (o : List Nat) (n gg : Nat) (s3 s4 : Value) (wr : World) : Prop :=
  ∃ r : Nat, r + gg = n ∧ s4 = .int .i64 r ∧ wr.ownsRow w.heap.size 3 1 s3 r (icells (ord (o.take r))) ∧ Below w.heap.size w wr
def PbRel (w : World) (o : List Nat) (r n gg : Nat) (s3 s5 : Value) (wr : World) : Prop :=
  ∃ i : Nat, i + gg = n ∧ s5 = .int .i64 i ∧ wr.ownsRow w.heap.size 3 1 s3 (gat o r i).length (icells (ord (gat o r i))) ∧ Below w.heap.size w wr

set_option maxHeartbeats 4000000 in
theorem rorder_any {w : World} {a : Option Addr} {n c : Nat} {l : List Bk} {o : List Nat} (h : Bks w a n c l) (hn16 : n ≤ 16) (ho : IsOrd l o) (hap : Apart l) :
    Calls Try.prog 28 #[.slice a n c] w fun e w' => ∃ v, e = .returned v ∧ w'.ownsRow w.heap.size 3 1 v n (icells (ord o)) ∧ Below w.heap.size w w' := by
  have H := Lib.hid h
  obtain ⟨hn, hnc, hn2, -⟩ := h
  have HN := Lib.hid hn
  have HOL := Lib.hid (show o.length = n by rw [ho.1, hn])
  have HO := Lib.hid ho
  have HAP := Lib.hid hap
  clear hn ho hap
  obtain ⟨i0, hi0, hz0, hz1, hz2⟩ := info_parts info3
  go_enter Try.func28, Try.ntmps28
  go_wp2
  go_loopg [3, 4, 5, 6, 7] n (fun gg s3 s4 _ _ _ wr => Hid (PaRel w o n gg s3 s4 wr))
  case atStart => exact Lib.hid ⟨0, by omega, rfl, by simpa [ord, icells] using World.ownsRow_nil w w.heap.size 3 1, Below.refl _ _⟩
  case round =>
    obtain ⟨r, hr, rfl, hrow, hb⟩ := hrel.out
    clear hrel
    by_cases hlt : r < n
    · have hltz : (r : Int) < (n : Int) := by omega
      have hst : Hid (PbRel w o r n n u3 (.int .i64 0) wr) := Lib.hid ⟨0, by omega, rfl, by rw [gat_start, show (o.take r).length = r by rw [List.length_take, HOL.out]; omega]; exact hrow, hb⟩
      clear hrow hb
      go_wp2
      go_loopg [3, 5, 6, 7] n (fun gg s3 s5 _ _ wr => Hid (PbRel w o r n gg s3 s5 wr))
      case atStart => exact hst
      case round =>
        clear hst
        obtain ⟨i, hi, rfl, hrow, hb⟩ := hrel.out
        clear hrel
        by_cases hlt2 : i < n
        · have hltz2 : (i : Int) < (n : Int) := by omega
          obtain ⟨x, hx⟩ : ∃ x, (l[i]!).name = x := ⟨_, rfl⟩
          have HX := Lib.hid hx
          have HROW := Lib.hid hrow
          have hst3 : Hid (∃ k : Nat, k + n = n ∧ (.int .i64 0 : Value) = .int .i64 k ∧ (.int .i64 0 : Value) = .int .i64 (ahead (l.take k) x : Nat) ∧ Below wr.heap.size wr wr) := Lib.hid ⟨0, by omega, rfl, rfl, Below.refl _ _⟩
          obtain ⟨wv, rfl⟩ : ∃ W, W = wr := ⟨_, rfl⟩
          have HB := Lib.hid hb
          clear hrow hb hx
          go_wp2
          go_loopg [6, 7] n (fun gg s6 s7 wr => Hid (∃ k : Nat, k + gg = n ∧ s7 = .int .i64 k ∧ s6 = .int .i64 (ahead (l.take k) x : Nat) ∧ Below wv.heap.size wv wr))
          case atStart => exact hst3
          case round =>
            clear hst3
            obtain ⟨k, hk, rfl, rfl, hb⟩ := hrel.out
            clear hrel
            by_cases hlt3 : k < n
            · have hltz3 : (k : Int) < (n : Int) := by omega
              have HBk := (H.out.below HB.out).below hb
              obtain ⟨b, off, rfl, hbb, c0, c1⟩ := bk_at HBk hlt2
              obtain ⟨b', off', e', hbb', d0, d1⟩ := bk_at HBk hlt3
              simp only [Option.some.injEq, Addr.mk.injEq, and_true] at e'
              obtain ⟨rfl, rfl⟩ := e'
              rw [HX.out] at c0
              have hnx := ahead_next l x (k := k) (by rw [← HN.out]; exact hlt3)
              have hal := ahead_le l x k
              obtain ⟨y, hy⟩ : ∃ y, (l[k]!).name = y := ⟨_, rfl⟩
              rw [hy] at d0 hnx
              generalize ahead (l.take k) x = q at hnx hal ⊢
              have HB3 := Lib.hid hb
              have e0 : Op.bytesLess y.toList x.toList = lt8 y x := rfl
              clear c1 d1 HBk hb hy
              rcases hlx : lt8 y x with _ | _
              · rw [hlx, if_neg (by simp), Nat.add_zero] at hnx
                rw [hlx] at e0
                have HNX := Lib.hid hnx
                clear hnx hlx
                go_wp2
                refine wp_region_tail 10 (by kernel_rfl) (by kernel_rfl) ?_
                simp only [List.take_succ_cons, List.take_zero, List.drop_succ_cons, List.drop_zero]
                repeat (first | still_step)
                refine wpStill_nil ?_
                go_wp2
                go_roundg (n - (k + 1))
                case measure => omega
                case rel => exact Lib.hid ⟨k + 1, by omega, by go_num, by rw [HNX.out]; rfl, HB3.out.drew⟩
              · rw [hlx, if_pos rfl] at hnx
                rw [hlx] at e0
                have HNX := Lib.hid hnx
                have g1 : IntKind.i64.wrap ((q : Int) + 1) = (q : Int) + 1 := by rw [IntKind.wrap_i64]; omega
                clear hnx hlx
                go_wp2
                refine wp_region_tail 10 (by kernel_rfl) (by kernel_rfl) ?_
                simp only [List.take_succ_cons, List.take_zero, List.drop_succ_cons, List.drop_zero]
                repeat (first | still_step)
                refine wpStill_nil ?_
                go_wp2
                go_roundg (n - (k + 1))
                case measure => omega
                case rel => exact Lib.hid ⟨k + 1, by omega, by go_num, by rw [HNX.out]; go_num, HB3.out.drew⟩
            · have hltz3 : ¬ (k : Int) < (n : Int) := by omega
              obtain rfl : k = n := by omega
              rw [show l.take k = l by rw [HN.out]; exact List.take_length]
              have hil : i < l.length := by rw [← HN.out]; exact hlt2
              have hrl : r < l.length := by rw [← HN.out]; exact hlt
              have hiff : Hid (ahead l x = r ↔ o[r]! = i) := Lib.hid (by
                rw [← HX.out]
                constructor
                · intro e
                  have h2 := HO.out.2 r hrl
                  exact HAP.out.same h2.1 hil (ahead_same ⟨_, mem_at h2.1, rfl⟩ ⟨_, mem_at hil, rfl⟩ (by rw [h2.2, e]))
                · rintro rfl
                  exact (HO.out.2 r hrl).2)
              have hrow2 := row_below3 HROW.out hb
              have HB4 := Lib.hid (HB.out.trans (hb.mono HB.out.size))
              have hsz := HB4.out.size
              have hgl := gat_len o r i
              generalize hq : ahead l x = q at hiff ⊢
              by_cases hqr : q = r
              · have hoi := hiff.out.1 hqr
                subst hqr
                have hg := gat_one o hoi
                have HR2 := Lib.hid (World.ownsRow.alloc hrow2 (.cells #[.int .i64 (i : Nat)] 3))
                have HG := Lib.hid (show icells (ord (gat o q (i + 1))) = icells (ord (gat o q i)) ++ [.int .i64 (i : Nat)] by rw [hg]; simp [icells, ord])
                have HGL := Lib.hid (show (gat o q (i + 1)).length = (gat o q i).length + 1 by rw [hg]; simp)
                clear hq hoi hg hrow2 hb
                go_wp2_with (at_builtin; refine wpList_append_own _ rfl _ _ 34 rfl w.heap.size 3 i0 _ 1 8 Try.underlying34 hi0 hz0 hz1 hz2 rfl (by decide) _ (gat o q i).length _ rfl HR2.out ⟨_, 0, none⟩ 1 1 [.int .i64 (i : Nat)] rfl rfl (cell_one_at _ _ rfl) (by intro u hu; simp at hu; subst hu; rfl) (by simp only [maxLen]; omega) (by omega) (by simp; omega) ?_; intro v1 w4 hown1 hgrow1 hnil1)
                go_roundg (k - (i + 1))
                case measure => omega
                case rel =>
                  refine Lib.hid ⟨i + 1, by omega, by go_num, by rw [HG.out, HGL.out]; exact hown1, ?_⟩
                  exact (HB4.out.alloc (by omega) _).grown hgrow1 (by simp; omega) (fun z hz => (HR2.out.lt z hz).1)
              · have hoi := mt hiff.out.2 hqr
                have hqz : ((q : Int) == (r : Int)) = false := by simpa using (by omega : ¬ (q : Int) = (r : Int))
                have hqz2 : ¬ (q : Int) = (r : Int) := by omega
                have HG := Lib.hid (gat_same o hoi)
                have HR2 := Lib.hid hrow2
                clear hq hoi hrow2 hb
                go_wp2
                go_roundg (k - (i + 1))
                case measure => omega
                case rel => exact Lib.hid ⟨i + 1, by omega, by go_num, by rw [HG.out]; exact HR2.out, HB4.out⟩
        · have hltz2 : ¬ (i : Int) < (n : Int) := by omega
          obtain rfl : i = n := by omega
          have hro : r < o.length := by rw [HOL.out]; exact hlt
          have hg := gat_end o hro (n := i) (by have := (HO.out.2 r (by rw [← HN.out]; exact hlt)).1; rw [HN.out]; exact this)
          rw [hg, show (o.take (r + 1)).length = r + 1 by rw [List.length_take]; omega] at hrow
          have HR2 := Lib.hid hrow
          have HB := Lib.hid hb
          clear hrow hb hg
          go_wp2
          go_roundg (i - (r + 1))
          case measure => omega
          case rel => exact Lib.hid ⟨r + 1, by omega, by go_num, HR2.out, HB.out⟩
    · have hltz : ¬ (r : Int) < (n : Int) := by omega
      obtain rfl : r = n := by omega
      rw [show o.take r = o by rw [← HOL.out]; exact List.take_length] at hrow
      go_wp2
      go_ret
      exact ⟨_, rfl, hrow, hb⟩

end Go.Proofs.Ytpkahjflhboddaa
