/-
  tracks' Down: the names, in whatever order, sorted.
-/
import Derived.Test.YtbeacddclphjgaaSort
import Derived.Test.YtbeacddclphjgaaPrio
namespace Go.Proofs.Ytbeacddclphjgaa
open Go.RowKit Go.Maps
set_option linter.unusedVariables false
set_option linter.unusedSimpArgs false
set_option maxRecDepth 10000

theorem len_any {n : Nat} (hn : n ≤ 8) (w : World) : Calls Try.prog 29 #[.int .u64 n] w fun e w' => (∃ k : Int, e = .returned (.int .i64 k)) ∧ w' = w := by
  have H := fun w => Lib.hid (len64_any hn w)
  go_enter Try.func29, Try.ntmps29
  go_wp2_with (go_at_call 40; refine (H _).out.mono ?_; rintro e w' ⟨⟨k, rfl⟩, rfl⟩)
  go_ret
  exact ⟨⟨_, rfl⟩, rfl⟩

set_option maxHeartbeats 1000000 in
theorem pdq_any {w : World} {base n c : Nat} {a : Option Addr} {l : List ByteArray} (hn : l.length = n) (h : w.ownsRow base 9 1 (.slice a n c) n (ncells l)) (hn8 : n ≤ 8) (k : Int) :
    Calls Try.prog 28 #[.slice a n c, .int .i64 0, .int .i64 n, .int .i64 k] w fun e w' => e = .returned (.tuple #[]) ∧ ∃ l', SrtTo l' n ∧ RowOf w base a n c l l' w' := by
  have H := Lib.hid (insertion_any hn h hn8)
  have hz : (n : Int) ≤ 12 := by omega
  have HW : IntKind.i64.wrap ((n : Int) - 0) = (n : Int) := by rw [IntKind.wrap_i64]; omega
  clear h hn
  go_enter Try.func28, Try.ntmps28
  go_wp2
  refine wp_loop_rounds 1 ?_
  rw [rounds_succ]
  go_wp2_with (go_at_call 30; refine H.out.mono ?_; rintro e w' ⟨rfl, hR⟩; have HR := Lib.hid hR; clear hR)
  refine bodyPost_ret (results_none rfl _ _ _) rfl ?_
  exact ⟨rfl, HR.out⟩

set_option maxHeartbeats 1000000 in
theorem sort_any {w : World} {base n c : Nat} {a : Option Addr} {l : List ByteArray} (hn : l.length = n) (h : w.ownsRow base 9 1 (.slice a n c) n (ncells l)) (hn8 : n ≤ 8) :
    Calls Try.prog 27 #[.slice a n c] w fun e w' => e = .returned (.tuple #[]) ∧ ∃ l', SrtTo l' n ∧ RowOf w base a n c l l' w' := by
  have H := fun k => Lib.hid (pdq_any hn h hn8 k)
  have HL := fun w => Lib.hid (len_any hn8 w)
  have HW : IntKind.u64.wrap (n : Int) = (n : Int) := by simp [IntKind.wrap, IntKind.bits, IntKind.signed]; try omega
  clear h hn
  go_enter Try.func27, Try.ntmps27
  go_wp2_with fail
  refine (HL _).out.mono ?_
  rintro e w1 ⟨⟨k, rfl⟩, rfl⟩
  go_wp2_with fail
  refine (H _).out.mono ?_
  rintro e w' ⟨rfl, hR⟩
  have HR := Lib.hid hR
  clear hR
  go_wp2
  go_end0
  exact ⟨rfl, HR.out⟩

/-! ## Down -/
/-- Those that are down and have been met. -/
def dnsL (left : Lit → Bool) : List Tk → List ByteArray
  | [] => []
  | t :: r => cond (!t.up && !left (key t.name)) (t.name :: dnsL left r) (dnsL left r)
theorem dnsL_end {left : Lit → Bool} (h : ∀ kl, left kl = false) : ∀ T, dnsL left T = dns T
  | [] => rfl
  | t :: r => by
    have ih := dnsL_end h r
    unfold dns at ih ⊢
    cases hu : t.up <;> simp [dnsL, h, hu, ih]
theorem dnsL_start {left : Lit → Bool} : ∀ {T : List Tk}, (∀ t ∈ T, left (key t.name) = true) → dnsL left T = []
  | [], _ => rfl
  | t :: r, h => by
    have ih := dnsL_start (T := r) fun s hs => h s (by simp [hs])
    simp [dnsL, h t (by simp), ih]
theorem dnsL_not {left : Lit → Bool} {x : ByteArray} : ∀ {T : List Tk}, (∀ t ∈ T, t.name ≠ x) → dnsL (fun z => left z && !z.sameKey (key x)) T = dnsL left T
  | [], _ => rfl
  | t :: r, h => by
    have ih := dnsL_not (left := left) (T := r) fun s hs => h s (by simp [hs])
    simp only [dnsL]
    rw [ih, same_key, decide_eq_false (h t (by simp))]
    simp
theorem dnsL_step {left : Lit → Bool} {x : ByteArray} {t : Tk} (hl : left (key x) = true) : ∀ {T : List Tk}, T.Pairwise (fun a b => a.name ≠ b.name) → look T x = some t → (dnsL (fun z => left z && !z.sameKey (key x)) T).Perm (if t.up then dnsL left T else dnsL left T ++ [x])
  | [], _, h => by simp [look] at h
  | s :: r, hp, h => by
    obtain ⟨h1, h2⟩ := List.pairwise_cons.1 hp
    by_cases e : s.name = x
    · have e2 : s = t := by
        unfold look at h
        rw [List.find?_cons, decide_eq_true e] at h
        simpa using h
      subst e2
      subst e
      have ih := dnsL_not (left := left) (x := s.name) (T := r) fun u hu => (h1 u hu).symm
      simp only [dnsL]
      rw [ih, same_key, hl]
      cases hu : s.up
      · simp
        exact (List.perm_append_singleton s.name (dnsL left r)).symm
      · simp
    · have e2 : look r x = some t := by
        unfold look at h ⊢
        rw [List.find?_cons, decide_eq_false e] at h
        exact h
      have ih := dnsL_step hl h2 e2
      simp only [dnsL]
      rw [same_key, decide_eq_false e]
      cases hu : t.up
      · rw [hu] at ih
        simp only [Bool.false_eq_true, if_false] at ih ⊢
        cases hc : (!s.up && !left (key s.name))
        · simp only [Bool.and_eq_false_iff, Bool.not_eq_false'] at hc
          rcases hc with hc | hc <;> simp [hc, ih]
        · simp only [Bool.and_eq_true, Bool.not_eq_true'] at hc
          simp [hc.1, hc.2]
          exact ih
      · rw [hu] at ih
        simp only [if_true] at ih ⊢
        cases hc : (!s.up && !left (key s.name))
        · simp only [Bool.and_eq_false_iff, Bool.not_eq_false'] at hc
          rcases hc with hc | hc <;> simp [hc, ih]
        · simp only [Bool.and_eq_true, Bool.not_eq_true'] at hc
          simp [hc.1, hc.2]
          exact ih

theorem strict_of {l : List ByteArray} (h : l.Pairwise fun a b => lt8 b a = false) (hn : l.Nodup) : Srt l := by
  refine (h.and hn).imp ?_
  rintro a b ⟨h1, h2⟩
  cases h3 : lt8 a b
  · exact absurd (lt8_tri h3 h1) h2
  · rfl
theorem dns_nodup {T : List Tk} (h : Okay T) : (dns T).Nodup := by
  unfold dns List.Nodup
  rw [List.pairwise_map]
  exact h.apart.filter _

def DnRel (w : World) (M r n : Nat) (D : DataW Nat) (T : List Tk) (gg : Nat) (s3 : Value) (wr : World) : Prop :=
  ∃ (left : Lit → Bool) (ss : List ByteArray), wr.ranges Try.prog 9 elR M r n D left gg ∧ wr.ownsRow w.heap.size 9 1 s3 ss.length (ncells ss) ∧ ss.length + gg ≤ 8 ∧ (dnsL left T).Perm ss ∧ Below w.heap.size w wr

set_option maxHeartbeats 2000000 in
/-- Down. -/
theorem down_any {w : World} {B M : Nat} {b : Int} {T : List Tk} (h : SetAt w B M b T) (ok : Okay T) :
    Calls Try.prog 20 #[.pointer (some ⟨B, 0, none⟩)] w fun e w' => ∃ v, e = .returned v ∧ Nms w' w.heap.size v (dn T) ∧ Below w.heap.size w w' := by
  obtain ⟨D, h1, h2, h3⟩ := h.map
  have d1 := h.c1
  have hMl := h1.lt
  obtain ⟨i0, hi, hz0, hz1, hz2⟩ := info_parts info9
  obtain ⟨n, hn⟩ : ∃ n, T.length = n := ⟨_, rfl⟩
  have hn8 : n ≤ 8 := by rw [← hn]; exact ok.len
  rw [hn] at h1 h2
  have H3 := Lib.hid h3
  have OK := Lib.hid ok
  have HS : Hid (dnsL (Maps.has D) T = []) := Lib.hid (dnsL_start fun t ht => by rw [(h3 t.name).1, look_mem ok.apart ht]; rfl)
  clear h h3 ok hn
  go_enter Try.func20, Try.ntmps20
  go_wp2_with (first
    | (at_range; refine wpList_range_own _ rfl _ 55 rfl 9 60 keyed9 Try.underlying55 _ M n _ rfl h1 ?_; intro w0 hrg0 hg0 hs0)
    | go_in)
  go_frame
  rw [h2] at hrg0
  have HB0 : Hid (Below w.heap.size w w0) := Lib.hid ⟨hg0.os, hg0.tape, hg0.output, hg0.size, fun i hi => hg0.block i hi (by simp)⟩
  have HR0 := Lib.hid hrg0
  clear hrg0 hg0 hs0 h1 h2
  go_loopg [3, 4, 5] n (fun gg s3 _ _ wr => Hid (DnRel w M w.heap.size n D T gg s3 wr))
  case atStart => exact Lib.hid ⟨_, [], HR0.out, World.ownsRow_nil _ _ _ _, by simpa using hn8, by rw [HS.out], HB0.out⟩
  case round =>
    obtain ⟨left, ss, hrg, hrow, hlen, hsum, hbw⟩ := hrel.out
    clear hrel
    go_wp2_with (first
      | (at_next; refine wpList_next_ranges _ rfl _ rfl 9 keyed9 elR Value.string (fun p : El => .agg #[.int .i64 p.a, .bool p.u]) (fun ky kl hk => invK9 ky kl hk) (fun v y hv => invV v y hv) M w.heap.size n _ _ _ rfl hrg ?_ ?_)
      | go_in)
    · intro _ hl0
      rw [dnsL_end hl0] at hsum
      have HB := Lib.hid hbw
      have HP := Lib.hid hsum
      obtain ⟨m, hm⟩ : ∃ m, ss.length = m := ⟨_, rfl⟩
      rw [hm] at hrow hlen
      obtain ⟨a, c, rfl, -, -⟩ := row_any hrow
      have HC := Lib.hid (sort_any hm hrow (by omega))
      have HM := Lib.hid hm
      clear hrg hrow hsum hl0 hbw hm
      go_wp2_with (go_at_call 27; refine HC.out.mono ?_; rintro e w1 ⟨rfl, hR⟩; have HR := Lib.hid hR; clear hR)
      go_ret
      obtain ⟨l', hs, hl, hp, hr, hb1⟩ := HR.out
      have hperm : l'.Perm (dns T) := hp.trans HP.out.symm
      have e : l' = dn T := dn_eq OK.out (strict_of (SrtTo.pairwise (by rw [hl]; exact hs)) (hperm.nodup_iff.2 (dns_nodup OK.out))) hperm
      subst e
      refine ⟨_, rfl, ?_, HB.out.trans hb1⟩
      unfold Nms
      rw [hl]
      exact hr
    · intro x p kl yd yp w2 c2 hkey hlk hv hat hrg2 hlt hg2 hs2 hen
      obtain ⟨rfl, t, ht, rfl⟩ := come_is H3.out hkey hv hat
      have hsum2 := dnsL_step hlk OK.out.apart ht
      have hrow2 := row_only hrow (Only.of_grown (F := fun i => i = w.heap.size) hg2 fun i hi => by simpa using hi.symm) fun g hg e => row_ne_iter hrow hrg (by rw [hg, e])
      have hbw2 : Below w.heap.size w w2 := ⟨hg2.os.trans hbw.os, hg2.tape.trans hbw.tape, hg2.output.trans hbw.output, Nat.le_trans hbw.size hg2.size, fun i hi => (hg2.block i (Nat.lt_of_lt_of_le hi hbw.size) (by simp; omega)).trans (hbw.block i hi)⟩
      have hsz := hbw2.size
      clear hrow hrg hbw hg2 hs2 hkey hv hat ht hlk
      generalize t.wt = a at hen
      generalize t.up = u at hen hsum2
      cases u with
      | true =>
        rw [if_pos rfl] at hsum2
        have HG := Lib.hid (And.intro (hrow2.alloc (.cells #[.int .i64 a, .bool true] 60)) (And.intro (below_alloc hbw2 (.cells #[.int .i64 a, .bool true] 60)) (And.intro (hrg2.alloc (.cells #[.int .i64 a, .bool true] 60)) (hsum2.trans hsum))))
        clear hrow2 hbw2 hrg2 hsum2 hsum
        go_wp2
        go_roundg c2
        case measure => exact hlt
        case rel => exact Lib.hid ⟨_, ss, HG.out.2.2.1, HG.out.1, by omega, HG.out.2.2.2, HG.out.2.1⟩
      | false =>
        rw [if_neg (by simp)] at hsum2
        have HR3 := Lib.hid ((hrow2.alloc (.cells #[.int .i64 a, .bool false] 60)).alloc (.cells #[.string x] 9))
        have HRG := Lib.hid ((hrg2.alloc (.cells #[.int .i64 a, .bool false] 60)).alloc (.cells #[.string x] 9))
        have HB3 := Lib.hid (below_alloc (below_alloc hbw2 (.cells #[.int .i64 a, .bool false] 60)) (.cells #[.string x] 9))
        have HSU := Lib.hid (hsum2.trans (hsum.append_right [x]))
        clear hrow2 hbw2 hrg2 hsum2 hsum
        go_wp2_with (at_builtin; refine wpList_append_own _ rfl _ _ 48 rfl w.heap.size 9 i0 _ 1 16 Try.underlying48 hi hz0 hz1 hz2 rfl (by decide) _ ss.length (ncells ss) rfl HR3.out ⟨w2.heap.size + 1, 0, none⟩ 1 1 [.string x] rfl rfl (cell_one_at _ _ (by simp)) (by intro u hu; simp at hu; subst hu; rfl) (by simp only [maxLen]; omega) (by omega) (by simp; omega) ?_; intro v1 w4 hown1 hgrow1 hnil1)
        go_roundg c2
        case measure => exact hlt
        case rel =>
          exact Lib.hid ⟨_, ss ++ [x], HRG.out.kept hgrow1 (row_ne_low HR3.out hMl) (row_ne_iter HR3.out HRG.out), by simpa [ncells] using hown1, by simp; omega, HSU.out, HB3.out.grown hgrow1 (by simp; omega) (fun j hj => (HR3.out.lt j hj).1)⟩
end Go.Proofs.Ytbeacddclphjgaa
