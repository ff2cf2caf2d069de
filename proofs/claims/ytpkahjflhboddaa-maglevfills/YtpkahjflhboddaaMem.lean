/-
  Backends, numbers, texts in memory; what outriderlaw08.own does.
-/
import Derived.Test.YtpkahjflhboddaaOrd
import Derived.Test.YtpkahjflhboddaaArr
import Derived.Maps.AppendAt
import Derived.Laws.MakeOwn
import Derived.Laws.OwnMore
namespace Go.Proofs.Ytpkahjflhboddaa
open Go.RowKit
set_option linter.unusedVariables false

theorem info3 : (Try.prog.info? 3).map (fun i => (i.zero, i.size, i.bytes)) = some (some (.int .i64 0), 1, 8) := by kernel_rfl
theorem info4 : (Try.prog.info? 4).map (fun i => (i.zero, i.size, i.bytes)) = some (some (.bool false), 1, 1) := by kernel_rfl
theorem info9 : (Try.prog.info? 9).map (fun i => (i.zero, i.size, i.bytes)) = some (some (.string ⟨#[]⟩), 1, 16) := by kernel_rfl
theorem info39 : (Try.prog.info? 39).map (fun i => (i.zero, i.size, i.bytes)) = some (some (.agg #[.string ⟨#[]⟩, .int .i64 0]), 2, 24) := by kernel_rfl
theorem info50 : (Try.prog.info? 50).map (fun i => (i.zero, i.size, i.bytes)) = some (some (.agg #[.string ⟨#[]⟩, .int .i64 0]), 2, 24) := by kernel_rfl
theorem info75 : (Try.prog.info? 75).map (fun i => (i.zero, i.size, i.bytes)) = some (some (.agg #[.int .i64 0, .int .i64 0]), 2, 16) := by kernel_rfl

/-- What is known of each backend that comes in. -/
def Wide (l : List Bk) : Prop := ∀ i, i < l.length → (l[i]!).name.size ≤ 9223372036854775807 ∧ -9223372036854775808 ≤ (l[i]!).wt ∧ (l[i]!).wt ≤ 9223372036854775807

/-- Backends that lie from a place on. -/
def BkAt (w : World) (b off : Nat) (l : List Bk) : Prop := ∀ i, i < l.length → w.cell? ⟨b, off + i * 2, none⟩ = some (.string (l[i]!).name) ∧ w.cell? ⟨b, off + i * 2 + 1, none⟩ = some (.int .i64 (l[i]!).wt)
/-- A slice of backends. -/
def Bks (w : World) (a : Option Addr) (n c : Nat) (l : List Bk) : Prop := n = l.length ∧ n ≤ c ∧ n ≤ 5864062014805 ∧ (0 < n → ∃ b off, a = some ⟨b, off, none⟩ ∧ b < w.heap.size ∧ BkAt w b off l)

theorem BkAt.below {w w' : World} {b off B : Nat} {l : List Bk} (h : BkAt w b off l) (hb : Below B w w') (hB : b < B) : BkAt w' b off l := fun i hi =>
  ⟨by rw [hb.cell (p := ⟨b, off + i * 2, none⟩) hB]; exact (h i hi).1, by rw [hb.cell (p := ⟨b, off + i * 2 + 1, none⟩) hB]; exact (h i hi).2⟩
theorem Bks.below {w w' : World} {a : Option Addr} {n c : Nat} {l : List Bk} (h : Bks w a n c l) (hb : Below w.heap.size w w') : Bks w' a n c l :=
  ⟨h.1, h.2.1, h.2.2.1, fun hn => by
    obtain ⟨b, off, e, hlt, hat⟩ := h.2.2.2 hn
    exact ⟨b, off, e, Nat.lt_of_lt_of_le hlt hb.size, hat.below hb hlt⟩⟩

def bcells : List Bk → List Value
  | [] => []
  | b :: r => .string b.name :: .int .i64 b.wt :: bcells r
theorem bcells_len : ∀ l : List Bk, (bcells l).length = l.length * 2
  | [] => rfl
  | b :: r => by simp [bcells, bcells_len r]; omega
theorem bcells_app : ∀ (l m : List Bk), bcells (l ++ m) = bcells l ++ bcells m
  | [], m => rfl
  | b :: r, m => by simp [bcells, bcells_app r m]
theorem bcells_at : ∀ (l : List Bk) (i : Nat), i < l.length → (bcells l)[i * 2]? = some (.string (l[i]!).name) ∧ (bcells l)[i * 2 + 1]? = some (.int .i64 (l[i]!).wt)
  | b :: r, 0, _ => by simp [bcells]
  | b :: r, i + 1, h => by
    have ih := bcells_at r i (by simpa using h)
    rw [Nat.succ_mul]
    simpa [bcells] using ih
theorem take_next (l : List Bk) (i : Nat) (h : i < l.length) : l.take (i + 1) = l.take i ++ [l[i]!] := by
  rw [List.take_add_one, List.getElem?_eq_getElem h, getElem!_pos l i h]; rfl

/-- A row of the call's own that holds backends. -/
theorem bks_of_row {w : World} {B e : Nat} {v : Value} {l : List Bk} (h : w.ownsRow B e 2 v l.length (bcells l)) (hl : l.length ≤ 5864062014805) : ∃ a c, v = .slice a l.length c ∧ Bks w a l.length c l := by
  rcases h.2 with ⟨rfl, hn⟩ | ⟨g, cap, cur, rfl, hb, hg, hnc, hcm, hcs, ht⟩
  · exact ⟨none, 0, by rw [hn], rfl, by omega, hl, fun h => by omega⟩
  · refine ⟨_, cap, rfl, rfl, hnc, hl, fun _ => ⟨g, 0, rfl, (Array.getElem?_eq_some_iff.1 hg).1, fun i hi => ?_⟩⟩
    have hc := h.cells (g := g) rfl
    obtain ⟨h0, h1⟩ := bcells_at l i hi
    have c0 := hc _ _ h0
    have c1 := hc _ _ h1
    rw [add_plain] at c0 c1
    simp only [Nat.zero_add] at c0 c1 ⊢
    exact ⟨c0, c1⟩

theorem cell_two_new (w : World) (x y : Value) (t : TypeId) : ∀ j u, [x, y][j]? = some u → (w.alloc (.cells #[x, y] t)).cell? ((⟨w.heap.size, 0, none⟩ : Addr).add j) = some u := by
  intro j u hu
  rw [add_plain]
  match j, hu with
  | 0, hu => simp at hu; subst hu; simp [go_sem]
  | 1, hu => simp at hu; subst hu; simp [go_sem]

theorem bk_at {w : World} {a : Option Addr} {n c : Nat} {l : List Bk} (h : Bks w a n c l) {i : Nat} (hi : i < n) : ∃ b off, a = some ⟨b, off, none⟩ ∧ b < w.heap.size ∧ w.cell? ⟨b, off + i * 2, none⟩ = some (.string (l[i]!).name) ∧ w.cell? ⟨b, off + i * 2 + 1, none⟩ = some (.int .i64 (l[i]!).wt) := by
  obtain ⟨b, off, e, hb, hat⟩ := h.2.2.2 (by omega)
  exact ⟨b, off, e, hb, hat i (by rw [← h.1]; exact hi)⟩

theorem cell_two_at {w : World} (x y : Value) (t : TypeId) {N : Nat} (hN : N = w.heap.size) : ∀ j u, [x, y][j]? = some u → (w.alloc (.cells #[x, y] t)).cell? ((⟨N, 0, none⟩ : Addr).add j) = some u := by
  subst hN; exact cell_two_new w x y t

theorem cell_one_at {w : World} (x : Value) (t : TypeId) {N : Nat} (hN : N = w.heap.size) : ∀ j u, [x][j]? = some u → (w.alloc (.cells #[x] t)).cell? ((⟨N, 0, none⟩ : Addr).add j) = some u := by
  subst hN; exact cell_one_new w x t

def OwnRel (w : World) (a : Option Addr) (n c : Nat) (l : List Bk) (gg : Nat) (s3 s8 : Value) (wr : World) : Prop :=
  ∃ k : Nat, k + gg = n ∧ s8 = .int .i64 k ∧ wr.ownsRow w.heap.size 50 2 s3 k (bcells (l.take k)) ∧ Below w.heap.size w wr

set_option maxHeartbeats 800000 in
theorem own_any {w : World} {a : Option Addr} {n c : Nat} {l : List Bk} (h : Bks w a n c l) : Calls Try.prog 12 #[.slice a n c] w fun e w' => ∃ a' c', e = .returned (.slice a' n c') ∧ Bks w' a' n c' l ∧ Below w.heap.size w w' := by
  have H := Lib.hid h
  obtain ⟨hn, hnc, hn2, -⟩ := h
  have HN := Lib.hid hn
  clear hn
  obtain ⟨i0, hi, hz0, hz1, hz2⟩ := info_parts info50
  go_enter Try.func12, Try.ntmps12
  go_wp2
  go_loopg [3, 5, 8] n (fun gg s3 _ s8 wr => Hid (OwnRel w a n c l gg s3 s8 wr))
  case atStart => exact Lib.hid ⟨0, by omega, rfl, by simpa [bcells] using World.ownsRow_nil w w.heap.size 50 2, Below.refl _ _⟩
  case round =>
    obtain ⟨k, hk, rfl, hrow, hb⟩ := hrel.out
    clear hrel
    by_cases hlt : k < n
    · have hltz : (k : Int) < (n : Int) := by omega
      obtain ⟨b, off, rfl, hbb, c0, c1⟩ := bk_at (H.out.below hb) hlt
      have HT : Hid (bcells (l.take (k + 1)) = bcells (l.take k) ++ [.string (l[k]!).name, .int .i64 (l[k]!).wt]) := Lib.hid (by
        rw [take_next l k (by rw [← HN.out]; exact hlt), bcells_app]; rfl)
      generalize (l[k]!).name = nm at c0 c1 HT
      generalize (l[k]!).wt = wt at c0 c1 HT
      generalize bcells (l.take k) = zs at HT hrow
      have hrow2 := World.ownsRow.alloc hrow (.cells #[.string nm, .int .i64 wt] 39)
      have HR := Lib.hid (World.ownsRow.alloc hrow2 (.cells #[.string nm, .int .i64 wt] 50))
      have HB := Lib.hid hb
      have hsz := hb.size
      clear hrow hrow2 hb
      go_wp2_with (at_builtin; refine wpList_append_own _ rfl _ _ 29 rfl w.heap.size 50 i0 _ 2 24 Try.underlying29 hi hz0 hz1 hz2 rfl (by decide) _ k zs rfl HR.out ⟨wr.heap.size + 1, 0, none⟩ 1 1 [.string nm, .int .i64 wt] rfl rfl (cell_two_at _ _ _ (by simp)) (by intro u hu; simp at hu; rcases hu with rfl | rfl <;> rfl) (by simp only [maxLen]; omega) (by omega) (by simp; omega) ?_; intro v1 w1 hown1 hgrow1 hnil1)
      go_roundg (n - (k + 1))
      case measure => omega
      case rel =>
        refine Lib.hid ⟨k + 1, by omega, by go_num, by rw [HT.out]; exact hown1, ?_⟩
        exact ((HB.out.alloc (by omega) _).alloc (by simp; omega) _).grown hgrow1 (by simp; omega) (fun j hj => (HR.out.lt j hj).1)
    · have hltz : ¬ (k : Int) < (n : Int) := by omega
      obtain rfl : k = n := by omega
      have he : l.take k = l := by rw [HN.out]; exact List.take_length
      rw [he] at hrow
      go_wp2
      go_ret
      rw [HN.out] at hrow hn2
      obtain ⟨a', c', e, hB⟩ := bks_of_row hrow hn2
      rw [← HN.out] at hB e
      exact ⟨a', c', by rw [e]; rfl, hB, hb⟩

end Go.Proofs.Ytpkahjflhboddaa
