/-
  health's probes: New, Tell, Up, Run.
-/
import Derived.Test.YtkcndgiiangmjaaHm
namespace Go.Proofs.Ytkcndgiiangmjaa
open Go.RowKit
set_option linter.unusedVariables false
set_option linter.unusedSimpArgs false
set_option maxRecDepth 10000

theorem PbAt.set3 {w : World} {b : Nat} {r : Ru} {u u' : Bool} {n : Int} (h : PbAt w b r ⟨u, n⟩) : PbAt (w.setCell ⟨b, 3, none⟩ (.bool u')) b r ⟨u', n⟩ := by
  obtain ⟨l, c0, c1, c2, c3, c4, f⟩ := h
  constructor
  · simpa using l
  all_goals (try intro j)
  all_goals simp [go_sem, c0, c1, c2, c3, c4, f, l]
theorem PbAt.set4 {w : World} {b : Nat} {r : Ru} {u : Bool} {n n' : Int} (h : PbAt w b r ⟨u, n⟩) : PbAt (w.setCell ⟨b, 4, none⟩ (.int .i64 n')) b r ⟨u, n'⟩ := by
  obtain ⟨l, c0, c1, c2, c3, c4, f⟩ := h
  constructor
  · simpa using l
  all_goals (try intro j)
  all_goals simp [go_sem, c0, c1, c2, c3, c4, f, l]

theorem rising_any (w : World) (r : Ru) (g : Bool) : Calls Try.prog 27 #[ruv r, .bool g] w fun e w' => e = .returned (.tuple #[.bool g, .int .i64 r.rise]) ∧ Below w.heap.size w w' := by
  have HB := Lib.hid (below_alloc (Below.refl w.heap.size w) (.cells #[.int .i64 r.rise, .int .i64 r.fall, .int .i64 r.every] 29))
  unfold ruv
  go_enter Try.func27, Try.ntmps27
  go_wp2
  go_quiet (fail)
  go_wp2
  go_ret2
  exact ⟨rfl, below_drewN HB.out _⟩
theorem falling_any (w : World) (r : Ru) (g : Bool) : Calls Try.prog 28 #[ruv r, .bool g] w fun e w' => e = .returned (.tuple #[.bool (!g), .int .i64 r.fall]) ∧ Below w.heap.size w w' := by
  have HB := Lib.hid (below_alloc (Below.refl w.heap.size w) (.cells #[.int .i64 r.rise, .int .i64 r.fall, .int .i64 r.every] 29))
  unfold ruv
  go_enter Try.func28, Try.ntmps28
  go_wp2
  go_quiet (fail)
  go_wp2
  go_ret2
  exact ⟨rfl, below_drewN HB.out _⟩

theorem up_any {w : World} {b : Nat} {r : Ru} {p : Pr} (h : PbAt w b r p) : Calls Try.prog 14 #[.pointer (some ⟨b, 0, none⟩)] w fun e w' => e = .returned (.bool p.up) ∧ w = w' := by
  have c3 := h.c3
  clear h
  go_enter Try.func14, Try.ntmps14
  go_wp2
  go_ret
  exact ⟨rfl, rfl⟩
theorem run_any {w : World} {b : Nat} {r : Ru} {p : Pr} (h : PbAt w b r p) : Calls Try.prog 15 #[.pointer (some ⟨b, 0, none⟩)] w fun e w' => e = .returned (.int .i64 p.run) ∧ w = w' := by
  have c4 := h.c4
  clear h
  go_enter Try.func15, Try.ntmps15
  go_wp2
  go_ret
  exact ⟨rfl, rfl⟩

theorem pnew_any (w : World) (r : Ru) (up : Bool) : Calls Try.prog 9 #[ruv r, .bool up] w fun e w' => Below w.heap.size w w' ∧
    ((okR r = true ∧ ∃ b, e = .returned (.tuple #[.pointer (some ⟨b, 0, none⟩), .int .i64 0]) ∧ w.heap.size ≤ b ∧ PbAt w' b r ⟨up, 0⟩) ∨ (okR r = false ∧ e = .returned (.tuple #[.pointer none, .int .i64 1]))) := by
  have HB := Lib.hid (below_alloc (Below.refl w.heap.size w) (.cells #[.int .i64 r.rise, .int .i64 r.fall, .int .i64 r.every] 29))
  have hh := holds_any (w.alloc (.cells #[.int .i64 r.rise, .int .i64 r.fall, .int .i64 r.every] 29)) r
  unfold ruv at hh ⊢
  generalize hk : okR r = k at hh ⊢
  have HH := Lib.hid hh
  clear hh hk
  cases k
  · go_enter Try.func9, Try.ntmps9
    go_wp2_with (go_at_call 26; refine HH.out.mono ?_; rintro e w1 ⟨rfl, hb1⟩; have HB1 := Lib.hid hb1; clear hb1)
    go_ret2
    exact ⟨HB.out.trans (HB1.out.mono (by simp)), .inr ⟨by trivial, rfl⟩⟩
  · go_enter Try.func9, Try.ntmps9
    go_wp2_with (go_at_call 26; refine HH.out.mono ?_; rintro e w1 ⟨rfl, hb1⟩; have hc : ∀ j, w1.cell? ⟨w.heap.size, j, none⟩ = (w.alloc (.cells #[.int .i64 r.rise, .int .i64 r.fall, .int .i64 r.every] 29)).cell? ⟨w.heap.size, j, none⟩ := fun j => hb1.cell (p := ⟨w.heap.size, j, none⟩) (by simp); have c0 := hc 0; have c1 := hc 1; have c2 := hc 2; simp [go_sem] at c0 c1 c2; have HB1 := Lib.hid hb1; clear hb1 hc)
    go_ret2
    have hbb : Below w.heap.size w w1 := HB.out.trans (HB1.out.mono (by simp))
    exact ⟨hbb.trans ((below_alloc (Below.refl _ _) _).mono hbb.size), .inl ⟨by trivial, w1.heap.size, rfl, hbb.size, pb_new w1 r ⟨up, 0⟩⟩⟩

set_option maxHeartbeats 2000000 in
theorem tell_any {w : World} {b : Nat} {r : Ru} {p : Pr} (h : PbAt w b r p) (hr : okR r = true) (hp : okP r p) (good : Bool) :
    Calls Try.prog 13 #[.pointer (some ⟨b, 0, none⟩), .bool good] w fun e w' => e = .returned (.bool (tellC r p good)) ∧ PbAt w' b r (tellP r p good) ∧ Only (fun i => i = b) w w' := by
  have hin := enough_in hr p.up
  obtain ⟨up, run⟩ := p
  have H := Lib.hid h
  have h1 := hp.1
  have h2 := hp.2
  have hlt := h.lt
  have c0 := h.c0
  have c1 := h.c1
  have c2 := h.c2
  have c3 := h.c3
  have c4 := h.c4
  have ff := h.f
  simp only at h1 h2 hin c3 c4
  have hw : IntKind.i64.wrap (run + 1) = run + 1 := by rw [IntKind.wrap_i64]; omega
  have HU := Lib.hid (fun w g => rising_any w r g)
  have HD := Lib.hid (fun w g => falling_any w r g)
  unfold ruv at HU HD
  have HS : Hid (∀ w1, Below w.heap.size w w1 → PbAt w1 b r ⟨up, run⟩ ∧ Only (fun i => i = b) w w1) := Lib.hid fun w1 hb => ⟨H.out.below hb, Only.of_below hb⟩
  have e1 := @tell_same r ⟨up, run⟩ good
  have e2 := @tell_less r ⟨up, run⟩ good
  have e3 := @tell_turn r ⟨up, run⟩ good
  simp only at e1 e2 e3
  have HE := Lib.hid (And.intro e1 (And.intro e2 e3))
  clear h hp e1 e2 e3
  cases up
  · have hen : enough r false = r.rise := rfl
    rw [hen] at h2 hin
    cases good
    · obtain ⟨e1, e2⟩ := HE.out.1 rfl
      rw [e1, e2]
      clear e1 e2
      go_enter Try.func13, Try.ntmps13
      go_wp2_with (go_at_call 27; refine (HU.out _ _).mono ?_; rintro e w1 ⟨rfl, hb1⟩; have HB1 := Lib.hid (HS.out w1 hb1); have hl1 : b < w1.heap.size := Nat.lt_of_lt_of_le hlt hb1.size; have hf1 := HB1.out.1.f 4; clear c0 c1 c2 c3 c4; have c4 := HB1.out.1.c4; clear hb1 ff)
      go_ret
      exact ⟨rfl, HB1.out.1.set4, HB1.out.2.setCell (.inl rfl) _⟩
    · by_cases hlt2 : run + 1 < r.rise
      · obtain ⟨e1, e2⟩ := HE.out.2.1 rfl hlt2
        rw [e1, e2]
        clear e1 e2
        go_enter Try.func13, Try.ntmps13
        go_wp2_with (go_at_call 27; refine (HU.out _ _).mono ?_; rintro e w1 ⟨rfl, hb1⟩; have HB1 := Lib.hid (HS.out w1 hb1); have hl1 : b < w1.heap.size := Nat.lt_of_lt_of_le hlt hb1.size; have hf1 := HB1.out.1.f 4; clear c0 c1 c2 c3 c4; have c4 := HB1.out.1.c4; clear hb1 ff)
        go_ret
        exact ⟨rfl, HB1.out.1.set4, HB1.out.2.setCell (.inl rfl) _⟩
      · obtain ⟨e1, e2⟩ := HE.out.2.2 rfl hlt2
        rw [e1, e2]
        clear e1 e2
        go_enter Try.func13, Try.ntmps13
        go_wp2_with (go_at_call 27; refine (HU.out _ _).mono ?_; rintro e w1 ⟨rfl, hb1⟩; have HB1 := Lib.hid (HS.out w1 hb1); have hl1 : b < w1.heap.size := Nat.lt_of_lt_of_le hlt hb1.size; have hf1 := HB1.out.1.f 4; have hf2 := HB1.out.1.f 3; clear c0 c1 c2 c3 c4; have c4 := HB1.out.1.c4; have c3 := HB1.out.1.c3; clear hb1 ff)
        go_ret
        exact ⟨rfl, HB1.out.1.set4.set3.set4, ((HB1.out.2.setCell (.inl rfl) _).setCell (.inl rfl) _).setCell (.inl rfl) _⟩
  · have hen : enough r true = r.fall := rfl
    rw [hen] at h2 hin
    cases good
    · by_cases hlt2 : run + 1 < r.fall
      · obtain ⟨e1, e2⟩ := HE.out.2.1 rfl hlt2
        rw [e1, e2]
        clear e1 e2
        go_enter Try.func13, Try.ntmps13
        go_wp2_with (go_at_call 28; refine (HD.out _ _).mono ?_; rintro e w1 ⟨rfl, hb1⟩; have HB1 := Lib.hid (HS.out w1 hb1); have hl1 : b < w1.heap.size := Nat.lt_of_lt_of_le hlt hb1.size; have hf1 := HB1.out.1.f 4; clear c0 c1 c2 c3 c4; have c4 := HB1.out.1.c4; clear hb1 ff)
        go_ret
        exact ⟨rfl, HB1.out.1.set4, HB1.out.2.setCell (.inl rfl) _⟩
      · obtain ⟨e1, e2⟩ := HE.out.2.2 rfl hlt2
        rw [e1, e2]
        clear e1 e2
        go_enter Try.func13, Try.ntmps13
        go_wp2_with (go_at_call 28; refine (HD.out _ _).mono ?_; rintro e w1 ⟨rfl, hb1⟩; have HB1 := Lib.hid (HS.out w1 hb1); have hl1 : b < w1.heap.size := Nat.lt_of_lt_of_le hlt hb1.size; have hf1 := HB1.out.1.f 4; have hf2 := HB1.out.1.f 3; clear c0 c1 c2 c3 c4; have c4 := HB1.out.1.c4; have c3 := HB1.out.1.c3; clear hb1 ff)
        go_ret
        exact ⟨rfl, HB1.out.1.set4.set3.set4, ((HB1.out.2.setCell (.inl rfl) _).setCell (.inl rfl) _).setCell (.inl rfl) _⟩
    · obtain ⟨e1, e2⟩ := HE.out.1 rfl
      rw [e1, e2]
      clear e1 e2
      go_enter Try.func13, Try.ntmps13
      go_wp2_with (go_at_call 28; refine (HD.out _ _).mono ?_; rintro e w1 ⟨rfl, hb1⟩; have HB1 := Lib.hid (HS.out w1 hb1); have hl1 : b < w1.heap.size := Nat.lt_of_lt_of_le hlt hb1.size; have hf1 := HB1.out.1.f 4; clear c0 c1 c2 c3 c4; have c4 := HB1.out.1.c4; clear hb1 ff)
      go_ret
      exact ⟨rfl, HB1.out.1.set4, HB1.out.2.setCell (.inl rfl) _⟩

end Go.Proofs.Ytkcndgiiangmjaa
