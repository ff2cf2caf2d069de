/-
  What maglev.mayBe tells: whether a table can be laid of these backends.
-/
import Derived.Test.YtpkahjflhboddaaSmall
import Derived.Test.YtpkahjflhboddaaShelf
namespace Go.Proofs.Ytpkahjflhboddaa
open Go.Shelf Go.RowKit Go.Lib
set_option linter.unusedVariables false
set_option maxRecDepth 10000

def bkc (b : Bk) : List Value := [.string b.name, .int .i64 b.wt]

/-- The first k may be. -/
def OkTo (l : List Bk) (k : Nat) : Prop := (∀ i, i < k → Fit l[i]!) ∧ ∀ i j, i < j → j < k → (l[i]!).name ≠ (l[j]!).name

theorem contains_any {W : World} {b off k c bp : Nat} {l : List Bk} {nm : ByteArray} (hb : b < W.heap.size) (hat : BkAt W b off l) (hk : k ≤ l.length) (hl : l.length ≤ 16) (hc : W.cell? ⟨bp, 0, none⟩ = some (.string nm)) :
    Calls Try.prog 36 #[.slice (some ⟨b, off, none⟩) k c, .func (.func 33) #[] #[.pointer (some ⟨bp, 0, none⟩)]] W fun e w' => e = .returned (.bool ((l.take k).any fun x => x.name.toList == nm.toList)) ∧ Below W.heap.size W w' := by
  have eg : ∀ args w, (callFunc 33 args).run Try.prog w = .ok (.enter 33 args) w := enters_of Try.func33 (by kernel_rfl) rfl
  have hbp := World.block_lt_of_cell? _ _ hc
  have := AnyQ.slices_ContainsFunc (α := Bk) laysContains 2 Try.isAgg50 Try.sizeOf50 bkc (fun _ => rfl) (fun x => x.name.toList == nm.toList) 33 #[.pointer (some ⟨bp, 0, none⟩)] eg b off k c (l.take k) W
    (fun W' x hB => (alike_any x.name nm x.wt bp W' (by rw [hB.cell (p := ⟨bp, 0, none⟩) hbp]; exact hc)).mono fun _ _ ⟨he, hb⟩ => ⟨he, hB.trans (hb.mono hB.size)⟩)
    (by rw [List.length_take]; omega) (by omega) hb
    (fun j hj i v hv => by
      have hj' : j < k ∧ j < l.length := by
        have : j < min k l.length := by simpa using hj
        omega
      have e : (l.take k)[j]! = l[j]! := by
        rw [getElem!_pos _ j hj, getElem!_pos l j hj'.2]; simp
      rw [e] at hv
      obtain ⟨c0, c1⟩ := hat j hj'.2
      match i, hv with
      | 0, hv =>
        have hv' : some (Value.string (l[j]!).name) = some v := hv
        rw [← hv', Nat.add_zero]; exact c0
      | 1, hv =>
        have hv' : some (Value.int .i64 (l[j]!).wt) = some v := hv
        rw [← hv']; exact c1)
  rw [List.take_take, Nat.min_self] at this
  exact this

theorem any_iff {l : List Bk} {k : Nat} (hk : k < l.length) (h : OkTo l k) (r : Bool) (hr : ((l.take k).any fun x => x.name.toList == (l[k]!).name.toList) = r) (hf : Fit l[k]!) : (r = false → OkTo l (k + 1)) ∧ (r = true → ¬ Right l) := by
  constructor
  · rintro rfl
    refine ⟨fun i hi => ?_, fun i j hij hj => ?_⟩
    · rcases Nat.lt_or_ge i k with h' | h'
      · exact h.1 i h'
      · obtain rfl : i = k := by omega
        exact hf
    · rcases Nat.lt_or_ge j k with h' | h'
      · exact h.2 i j hij h'
      · obtain rfl : j = k := by omega
        intro e
        rw [List.any_eq_false] at hr
        have hm : l[i]! ∈ l.take j := by
          rw [getElem!_pos l i (by omega)]
          exact List.mem_take_iff_getElem.2 ⟨i, by omega, rfl⟩
        apply hr _ hm
        rw [e]; simp
  · rintro rfl hR
    rw [List.any_eq_true] at hr
    obtain ⟨x, hx, he⟩ := hr
    obtain ⟨i, hi, rfl⟩ := List.mem_take_iff_getElem.1 hx
    have hi' : i < k := by omega
    have := hR.2.2.2 i k hi' hk
    rw [getElem!_pos l i (by omega)] at this
    exact this (toList_inj (by simpa using he))

def MRel (w : World) (l : List Bk) (n gg : Nat) (s16 : Value) (wr : World) : Prop :=
  ∃ k : Nat, k + gg = n ∧ s16 = .int .i64 k ∧ OkTo l k ∧ Below w.heap.size w wr

set_option maxHeartbeats 1600000 in
theorem mayBe_any {w : World} {a : Option Addr} {n c : Nat} {l : List Bk} (h : Bks w a n c l) (hw : Wide l) : Calls Try.prog 23 #[.slice a n c] w fun e w' => Tells e (Right l) ∧ Below w.heap.size w w' := by
  have H := Lib.hid h
  have HW := Lib.hid hw
  obtain ⟨hn, hnc, hn2, -⟩ := h
  have HN := Lib.hid hn
  clear hn hw
  have hmf : ∀ (fn : Fn) (first cap : Array Value) (w : World), (Instr.makeFunc fn first cap).run Try.prog w = .ok (.func fn first cap) w := fun _ _ _ _ => rfl
  by_cases h1 : (n : Int) < 1
  · go_enter Try.func23, Try.ntmps23
    go_wp2
    go_ret
    exact ⟨⟨false, rfl, by simp only [Bool.false_eq_true, false_iff]; intro hR; have := hR.1; rw [← HN.out] at this; omega⟩, Below.refl _ _⟩
  · by_cases h2 : 16 < (n : Int)
    · go_enter Try.func23, Try.ntmps23
      go_wp2
      go_ret
      exact ⟨⟨false, rfl, by simp only [Bool.false_eq_true, false_iff]; intro hR; have := hR.2.1; rw [← HN.out] at this; omega⟩, Below.refl _ _⟩
    · go_enter Try.func23, Try.ntmps23
      go_wp2
      go_loopg [3, 4, 5, 16] n (fun gg _ _ _ s16 wr => Hid (MRel w l n gg s16 wr))
      case atStart => exact Lib.hid ⟨0, by omega, rfl, ⟨fun i hi => by omega, fun i j _ hj => by omega⟩, Below.refl _ _⟩
      case round =>
        obtain ⟨k, hk, rfl, hok, hb⟩ := hrel.out
        clear hrel
        by_cases hlt : k < n
        · have hltz : (k : Int) < (n : Int) := by omega
          have HBk := H.out.below hb
          obtain ⟨b, off, rfl, hbb, c0, c1⟩ := bk_at HBk hlt
          obtain ⟨b', off', e', hbb', hat⟩ := HBk.2.2.2 (by omega)
          simp only [Option.some.injEq, Addr.mk.injEq, and_true] at e'
          obtain ⟨rfl, rfl⟩ := e'
          have hkl : k < l.length := by rw [← HN.out]; exact hlt
          have HK := Lib.hid hkl
          have hs := (HW.out k hkl).1
          obtain ⟨nm, hnm⟩ : ∃ nm, (l[k]!).name = nm := ⟨_, rfl⟩
          obtain ⟨wt, hwt⟩ : ∃ wt, (l[k]!).wt = wt := ⟨_, rfl⟩
          rw [hnm] at c0 hs
          rw [hwt] at c1
          have HB : Hid (Below w.heap.size w (wr.alloc (.cells #[.string nm, .int .i64 wt] 50))) := Lib.hid (hb.alloc hb.size _)
          have HC := Lib.hid (contains_any (b := b) (off := off) (k := k) (l := l) (c := c) (bp := wr.heap.size) (nm := nm) (W := wr.alloc (.cells #[.string nm, .int .i64 wt] 50)) (by simp; omega) (fun i hi => by
            obtain ⟨x0, x1⟩ := hat i hi
            exact ⟨by rw [World.cell?_alloc_lt _ _ _ hbb]; exact x0, by rw [World.cell?_alloc_lt _ _ _ hbb]; exact x1⟩) (by rw [← HN.out]; omega) (by rw [← HN.out]; omega) (by simp [go_sem]))
          have H34 := Lib.hid (fun w => mayName_any nm w hs)
          have H35 := Lib.hid (fun w => mayWeight_any wt w)
          have HNM := Lib.hid hnm
          have HWT := Lib.hid hwt
          have HOK := Lib.hid hok
          have hkc : (k : Int) ≤ (c : Int) := by omega
          have hkn : (k : Int) ≤ (n : Int) := by omega
          clear hat hb HBk hkl hnm hwt hok hs
          go_wp2_with fail
          refine (H34.out _).mono ?_
          rintro e w' ⟨⟨r1, rfl, hr1⟩, rfl⟩
          have HR1 := Lib.hid hr1
          clear hr1
          rcases r1 with _ | _
          · go_wp2
            go_ret
            refine ⟨⟨false, rfl, ?_⟩, HB.out⟩
            simp only [Bool.false_eq_true, false_iff]
            intro hR
            have hf := hR.2.2.1 k HK.out
            rw [Fit, HNM.out] at hf
            exact absurd (HR1.out.2 ⟨hf.1, hf.2.1⟩) (by simp)
          · go_wp2_with fail
            refine (H35.out _).mono ?_
            rintro e w' ⟨⟨r2, rfl, hr2⟩, rfl⟩
            have HR2 := Lib.hid hr2
            clear hr2
            rcases r2 with _ | _
            · go_wp2
              go_ret
              refine ⟨⟨false, rfl, ?_⟩, HB.out⟩
              simp only [Bool.false_eq_true, false_iff]
              intro hR
              have hf := hR.2.2.1 k HK.out
              rw [Fit, HWT.out] at hf
              exact absurd (HR2.out.2 ⟨hf.2.2.1, hf.2.2.2⟩) (by simp)
            · have hf : Fit l[k]! := by
                have h1 := HR1.out.1 (by first | rfl | trivial)
                have h2 := HR2.out.1 (by first | rfl | trivial)
                rw [Fit, HNM.out, HWT.out]
                exact ⟨h1.1, h1.2, h2.1, h2.2⟩
              obtain ⟨r, hr⟩ : ∃ r, ((l.take k).any fun x => x.name.toList == nm.toList) = r := ⟨_, rfl⟩
              rw [hr] at HC
              rw [← HNM.out] at hr
              have HI := Lib.hid (any_iff HK.out HOK.out r hr hf)
              clear hr hf
              go_wp2_with fail
              refine HC.out.mono ?_
              rintro e w' ⟨rfl, hb3⟩
              have HB3 := Lib.hid (HB.out.trans (hb3.mono HB.out.size))
              clear hb3
              rcases r with _ | _
              · go_wp2
                go_roundg (n - (k + 1))
                case measure => omega
                case rel => exact Lib.hid ⟨k + 1, by omega, by go_num, HI.out.1 (by first | rfl | trivial), HB3.out⟩
              · go_wp2
                go_ret
                refine ⟨⟨false, rfl, ?_⟩, HB3.out⟩
                simp only [Bool.false_eq_true, false_iff]
                exact HI.out.2 (by first | rfl | trivial)
        · have hltz : ¬ (k : Int) < (n : Int) := by omega
          obtain rfl : k = n := by omega
          have HOK := Lib.hid hok
          have HB := Lib.hid hb
          clear hok hb
          go_wp2
          go_ret
          refine ⟨⟨true, rfl, ?_⟩, HB.out⟩
          have e := HN.out
          have ok := HOK.out
          rw [e] at ok
          refine iff_of_true rfl ⟨by omega, by omega, ok.1, ok.2⟩

end Go.Proofs.Ytpkahjflhboddaa
