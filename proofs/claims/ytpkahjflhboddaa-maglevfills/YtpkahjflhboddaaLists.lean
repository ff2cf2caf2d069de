/-
  What is gathered of backends: their names, the ring, the walks.
-/
import Derived.Test.YtpkahjflhboddaaSmall
import Derived.Test.YtpkahjflhboddaaLook
import Derived.Test.YtpkahjflhboddaaTxt
namespace Go.Proofs.Ytpkahjflhboddaa
open Go.RowKit
set_option linter.unusedVariables false
set_option maxRecDepth 10000

def ncells (l : List Bk) : List Value := l.map fun b => .string b.name

def NRel (w : World) (l : List Bk) (n gg : Nat) (s3 s8 : Value) (wr : World) : Prop :=
  ∃ k : Nat, k + gg = n ∧ s8 = .int .i64 k ∧ wr.ownsRow w.heap.size 9 1 s3 k (ncells (l.take k)) ∧ Below w.heap.size w wr

set_option maxHeartbeats 800000 in
theorem namesOf_any {w : World} {a : Option Addr} {n c : Nat} {l : List Bk} (h : Bks w a n c l) (hn16 : n ≤ 16) : Calls Try.prog 25 #[.slice a n c] w fun e w' => ∃ v, e = .returned v ∧ w'.ownsRow w.heap.size 9 1 v n (ncells l) ∧ Below w.heap.size w w' := by
  have H := Lib.hid h
  obtain ⟨hn, hnc, hn2, -⟩ := h
  have HN := Lib.hid hn
  clear hn
  obtain ⟨i0, hi, hz0, hz1, hz2⟩ := info_parts info9
  go_enter Try.func25, Try.ntmps25
  go_wp2
  go_loopg [3, 5, 8] n (fun gg s3 _ s8 wr => Hid (NRel w l n gg s3 s8 wr))
  case atStart => exact Lib.hid ⟨0, by omega, rfl, by simpa [ncells] using World.ownsRow_nil w w.heap.size 9 1, Below.refl _ _⟩
  case round =>
    obtain ⟨k, hk, rfl, hrow, hb⟩ := hrel.out
    clear hrel
    by_cases hlt : k < n
    · have hltz : (k : Int) < (n : Int) := by omega
      obtain ⟨b, off, rfl, hbb, c0, c1⟩ := bk_at (H.out.below hb) hlt
      have HT : Hid (ncells (l.take (k + 1)) = ncells (l.take k) ++ [.string (l[k]!).name]) := Lib.hid (by
        rw [take_next l k (by rw [← HN.out]; exact hlt)]; simp [ncells])
      generalize (l[k]!).name = nm at c0 c1 HT
      generalize (l[k]!).wt = wt at c0 c1 HT
      generalize ncells (l.take k) = zs at HT hrow
      have hrow2 := World.ownsRow.alloc hrow (.cells #[.string nm, .int .i64 wt] 50)
      have HR := Lib.hid (World.ownsRow.alloc hrow2 (.cells #[.string nm] 9))
      have HB := Lib.hid hb
      have hsz := hb.size
      clear hrow hrow2 hb
      go_wp2_with (at_builtin; refine wpList_append_own _ rfl _ _ 36 rfl w.heap.size 9 i0 _ 1 16 Try.underlying36 hi hz0 hz1 hz2 rfl (by decide) _ k zs rfl HR.out ⟨wr.heap.size + 1, 0, none⟩ 1 1 [.string nm] rfl rfl (cell_one_at _ _ (by simp)) (by intro u hu; simp at hu; subst hu; rfl) (by simp only [maxLen]; omega) (by omega) (by simp; omega) ?_; intro v1 w1 hown1 hgrow1 hnil1)
      go_roundg (n - (k + 1))
      case measure => omega
      case rel =>
        refine Lib.hid ⟨k + 1, by omega, by go_num, by rw [HT.out]; exact hown1, ?_⟩
        exact ((HB.out.alloc (by omega) _).alloc (by simp; omega) _).grown hgrow1 (by simp; omega) (fun j hj => (HR.out.lt j hj).1)
    · have hltz : ¬ (k : Int) < (n : Int) := by omega
      obtain rfl : k = n := by omega
      have he : l.take k = l := by rw [HN.out]; exact List.take_length
      rw [he] at hrow
      go_wp2
      go_ret
      exact ⟨_, rfl, hrow, hb⟩

/-! ## The ring -/
def icells (xs : List Int) : List Value := xs.map (Value.int .i64)
theorem icells_len (xs : List Int) : (icells xs).length = xs.length := by simp [icells]
def ord (o : List Nat) : List Int := o.map fun i : Nat => (i : Int)

theorem ring_len_le (l : List Bk) (h : ∀ i, i < l.length → (l[i]!).wt ≤ 100) : ∀ o : List Nat, (∀ i ∈ o, i < l.length) → (ring l o).length ≤ 100 * o.length
  | [], _ => by simp [ring]
  | i :: r, ho => by
    have ih := ring_len_le l h r (fun j hj => ho j (by simp [hj]))
    have := h i (ho i (by simp))
    simp only [ring, List.flatMap_cons, List.length_append, List.length_replicate, List.length_cons] at ih ⊢
    omega

theorem ord_at (o : List Nat) {k : Nat} (hk : k < o.length) : (ord o)[k]! = ((o[k]! : Nat) : Int) := by
  rw [getElem!_pos _ k (by simpa [ord] using hk), getElem!_pos o k hk]
  simp [ord]

theorem takeN (o : List Nat) (k : Nat) (h : k < o.length) : o.take (k + 1) = o.take k ++ [o[k]!] := by
  rw [List.take_add_one, List.getElem?_eq_getElem h, getElem!_pos o k h]; rfl
theorem ring_next (l : List Bk) (o : List Nat) (k : Nat) (h : k < o.length) : ring l (o.take (k + 1)) = ring l (o.take k) ++ List.replicate (l[o[k]!]!).wt.toNat ((o[k]! : Nat) : Int) := by
  unfold ring
  rw [takeN o k h, List.flatMap_append]
  congr 1
  simp only [List.flatMap_cons, List.flatMap_nil, List.append_nil]

def GRel (w : World) (l : List Bk) (o : List Nat) (n gg : Nat) (s5 s10 : Value) (wr : World) : Prop :=
  ∃ k : Nat, k + gg = n ∧ s10 = .int .i64 k ∧ wr.ownsRow w.heap.size 3 1 s5 (ring l (o.take k)).length (icells (ring l (o.take k))) ∧ Below w.heap.size w wr
def GRel2 (w : World) (zs : List Int) (x : Int) (m gg : Nat) (s5 s19 : Value) (wr : World) : Prop :=
  ∃ j : Nat, j + gg = m ∧ s19 = .int .i64 j ∧ wr.ownsRow w.heap.size 3 1 s5 (zs.length + j) (icells (zs ++ List.replicate j x)) ∧ Below w.heap.size w wr

theorem ringOf_any {w : World} {a : Option Addr} {n c og oc : Nat} {l : List Bk} {o : List Nat} (h : Bks w a n c l) (hn16 : n ≤ 16) (hI : Ints w og 0 (ord o)) (ho : o.length = n) (hb : ∀ i ∈ o, i < l.length) (hw : ∀ i, i < l.length → 1 ≤ (l[i]!).wt ∧ (l[i]!).wt ≤ 100) :
    Calls Try.prog 27 #[.slice a n c, .slice (some ⟨og, 0, none⟩) n oc] w fun e w' => ∃ v, e = .returned v ∧ w'.ownsRow w.heap.size 3 1 v (ring l o).length (icells (ring l o)) ∧ Below w.heap.size w w' := by
  have H := Lib.hid h
  obtain ⟨hn, hnc, hn2, -⟩ := h
  have HI := Lib.hid hI
  have HO := Lib.hid ho
  have HX := Lib.hid hb
  have HW := Lib.hid hw
  have HN := Lib.hid hn
  clear hn hI ho hb hw
  obtain ⟨i0, hi, hz0, hz1, hz2⟩ := info_parts info3
  go_enter Try.func27, Try.ntmps27
  go_wp2
  go_loopg [5, 7, 10, 18, 19] n (fun gg s5 _ s10 _ _ wr => Hid (GRel w l o n gg s5 s10 wr))
  case atStart => exact Lib.hid ⟨0, by omega, rfl, by simpa [ring, icells] using World.ownsRow_nil w w.heap.size 3 1, Below.refl _ _⟩
  case round =>
    obtain ⟨k, hk, rfl, hrow, hb⟩ := hrel.out
    clear hrel
    by_cases hlt : k < n
    · have hltz : (k : Int) < (n : Int) := by omega
      have hko : k < o.length := by rw [HO.out]; exact hlt
      have d0 := (HI.out.below hb HI.out.1).2 k (by simpa [ord] using hko)
      rw [ord_at o hko, Nat.zero_add] at d0
      have hmem : o[k]! ∈ o := by rw [getElem!_pos o k hko]; exact List.getElem_mem _
      have hin := HX.out _ hmem
      rw [← HN.out] at hin
      obtain ⟨b, off, rfl, hbb, c0, c1⟩ := bk_at (H.out.below hb) hin
      obtain ⟨hw1, hw2⟩ := HW.out _ (HX.out _ hmem)
      have HT : Hid (ring l (o.take (k + 1)) = ring l (o.take k) ++ List.replicate (l[o[k]!]!).wt.toNat ((o[k]! : Nat) : Int)) := Lib.hid (ring_next l o k hko)
      have hzl : (ring l (o.take k)).length ≤ 1600 := by
        have := ring_len_le l (fun i hi => (HW.out i hi).2) (o.take k) (fun i hi => HX.out i (List.mem_of_mem_take hi))
        have : (o.take k).length ≤ k := by simp; omega
        omega
      generalize (l[o[k]!]!).name = nm at c0 c1
      generalize (l[o[k]!]!).wt = wt at c0 c1 HT hw1 hw2
      obtain ⟨m, rfl⟩ := Int.eq_ofNat_of_zero_le (show 0 ≤ wt by omega)
      rw [Int.toNat_natCast] at HT
      generalize o[k]! = x at d0 c0 c1 hin HT
      generalize ring l (o.take k) = zs at HT hrow hzl
      have hxz : (x : Int) < (n : Int) := by omega
      have HB := Lib.hid hb
      have HR := Lib.hid hrow
      clear hrow hb
      go_wp2
      go_loopg [5, 19] m (fun gg s5 s19 wr => Hid (GRel2 w zs x m gg s5 s19 wr))
      case atStart => exact Lib.hid ⟨0, by omega, rfl, by simpa using HR.out, HB.out⟩
      case round =>
        obtain ⟨j, hj, rfl, hrow2, hb2⟩ := hrel.out
        clear hrel
        by_cases hlt2 : j < m
        · have hltz2 : (j : Int) < (m : Int) := by omega
          have HR2 := Lib.hid (World.ownsRow.alloc hrow2 (.cells #[.int .i64 x] 3))
          have HB2 := Lib.hid hb2
          have hsz := hb2.size
          clear hrow2 hb2
          go_wp2_with (at_builtin; refine wpList_append_own _ rfl _ _ 34 rfl w.heap.size 3 i0 _ 1 8 Try.underlying34 hi hz0 hz1 hz2 rfl (by decide) _ (zs.length + j) _ rfl HR2.out ⟨_, 0, none⟩ 1 1 [.int .i64 x] rfl rfl (cell_one_at _ _ rfl) (by intro u hu; simp at hu; subst hu; rfl) (by simp only [maxLen]; omega) (by omega) (by simp; omega) ?_; intro v1 w1 hown1 hgrow1 hnil1)
          go_roundg (m - (j + 1))
          case measure => omega
          case rel =>
            refine Lib.hid ⟨j + 1, by omega, by go_num, ?_, ?_⟩
            · have e : icells (zs ++ List.replicate (j + 1) (x : Int)) = icells (zs ++ List.replicate j (x : Int)) ++ [.int .i64 x] := by
                rw [List.replicate_succ', ← List.append_assoc]; simp [icells]
              rw [e]; exact hown1
            · exact (HB2.out.alloc (by omega) _).grown hgrow1 (by simp; omega) (fun i hi => (HR2.out.lt i hi).1)
        · have hltz2 : ¬ (j : Int) < (m : Int) := by omega
          obtain rfl : j = m := by omega
          have HR2 := Lib.hid hrow2
          have HB2 := Lib.hid hb2
          clear hrow2 hb2
          go_wp2
          go_roundg (n - (k + 1))
          case measure => omega
          case rel =>
            refine Lib.hid ⟨k + 1, by omega, by go_num, ?_, HB2.out⟩
            rw [HT.out, List.length_append, List.length_replicate]
            exact HR2.out
    · have hltz : ¬ (k : Int) < (n : Int) := by omega
      obtain rfl : k = n := by omega
      have he : o.take k = o := by rw [← HO.out]; exact List.take_length
      rw [he] at hrow
      go_wp2
      go_ret
      exact ⟨_, rfl, hrow, hb⟩

end Go.Proofs.Ytpkahjflhboddaa
