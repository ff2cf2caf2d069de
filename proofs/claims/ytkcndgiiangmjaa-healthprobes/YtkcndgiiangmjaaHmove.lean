/-
  health's boards: Move.
-/
import Derived.Test.YtkcndgiiangmjaaCb
import Derived.Test.YtkcndgiiangmjaaSame
namespace Go.Proofs.Ytkcndgiiangmjaa
open Go.RowKit Go.Maps
set_option linter.unusedVariables false
set_option linter.unusedSimpArgs false
set_option maxRecDepth 10000

def mdS (s : St) (x a : Int) (j : Nat) : St := ⟨mvN s.now x, setAll (mvL s.l s.now x) ((mvD s.l s.now x).take j) a⟩
theorem mdS_next (s : St) (x a : Int) {j : Nat} (h : j < (mvD s.l s.now x).length) : mdS s x a (j + 1) = ⟨(mdS s x a j).now, setL (mdS s x a j).l (mvD s.l s.now x)[j]! a⟩ := by
  unfold mdS
  rw [setAll_next _ _ _ h]
theorem mdS_ok {s : St} (h : OkS s 16) (x a : Int) (j : Nat) : OkS (mdS s x a j) 16 := by
  have h1 := h.move x
  refine ⟨setAll_fit h1.fit _ _, h1.now, Nat.le_trans (setAll_len _ _ _) ?_⟩
  have := mv_len s x
  have := h.len
  have : ((mvD s.l s.now x).take j).length ≤ (mvD s.l s.now x).length := by rw [List.length_take]; omega
  omega

def BmRel (w : World) (F : Nat → Prop) (B : Nat) (r : Ru) (ps : List Pr) (s : St) (x : Int) (v : Value) (n gg : Nat) (s18 : Value) (wr : World) : Prop :=
  ∃ j : Nat, j + gg = n ∧ s18 = .int .i64 j ∧ ∃ F' qs u W G, BdS wr F' B r ps qs u W G (mdS s x (x + r.every) j) ∧ (∀ i, F' i → F i ∨ w.heap.size ≤ i) ∧ (∀ g, v.ownBlock = some g → ¬ F' g) ∧ Only F w wr ∧
    wr.ownsRow w.heap.size 3 1 v n (icells (mvD s.l s.now x))

set_option maxHeartbeats 4000000 in
theorem bmove_any {w : World} {F : Nat → Prop} {B : Nat} {r : Ru} {b : Bo} {n : Nat} (h : Bd w F B r b) (hr : okR r = true) (ok : OkB r b n) (x : Int) :
    Calls Try.prog 22 #[.pointer (some ⟨B, 0, none⟩), .int .i64 x] w fun e w' => ∃ v F', e = .returned v ∧ w'.ownsRow w.heap.size 3 1 v (bmD b.s x).length (icells (bmD b.s x)) ∧ (∀ g, v.ownBlock = some g → ¬ F' g) ∧
      Bd w' F' B r ⟨b.ps, bmS r b.s x⟩ ∧ (∀ i, F' i → F i ∨ w.heap.size ≤ i) ∧ Only F w w' := by
  obtain ⟨qs, v, W, G, h⟩ := h
  have H := Lib.hid h
  by_cases hx : x > 1099511617776
  · have e1 : farB x = true := decide_eq_true hx
    have e2 : bmD b.s x = [] := by unfold bmD; rw [e1]; rfl
    have e3 : bmS r b.s x = b.s := by unfold bmS; rw [e1]; rfl
    rw [e2, e3]
    clear h e1 e2 e3
    go_enter Try.func22, Try.ntmps22
    go_wp2
    go_ret
    exact ⟨_, F, rfl, World.ownsRow_nil _ _ _ _, fun g hg => by simp [Value.ownBlock] at hg, ⟨qs, v, W, G, H.out⟩, fun i hi => .inl hi, Only.refl _ _⟩
  · have e1 : farB x = false := decide_eq_false hx
    have e2 : bmD b.s x = mvD b.s.l b.s.now x := by unfold bmD; rw [e1]; rfl
    have e3 : bmS r b.s x = mdS b.s x (x + r.every) (mvD b.s.l b.s.now x).length := by unfold bmS mdS; rw [e1, List.take_length]; rfl
    rw [e2, e3]
    have d4 := h.c4
    have hre := (okR_iff.1 hr).2.2
    have HMV := Lib.hid (move_any (x := x) (s := b.s) h.wh (ok.s.mono (by omega)))
    have HSO := Lib.hid (fun j => mdS_ok ok.s x (x + r.every) j)
    have hdl : (mvD b.s.l b.s.now x).length ≤ 16 := by have := mv_len b.s x; have := ok.s.len; omega
    have hpos : 0 < (mvD b.s.l b.s.now x).length → 0 ≤ x := fun h0 => by
      unfold mvD at h0
      split at h0
      · rename_i h1
        have := of_decide_eq_true h1
        omega
      · simp at h0
    have HNX := Lib.hid (fun j (h : j < (mvD b.s.l b.s.now x).length) => mdS_next b.s x (x + r.every) h)
    have HS0 : Hid (mdS b.s x (x + r.every) 0 = ⟨mvN b.s.now x, mvL b.s.l b.s.now x⟩) := Lib.hid (by unfold mdS; rw [List.take_zero]; rfl)
    obtain ⟨n, hn⟩ : ∃ n, (mvD b.s.l b.s.now x).length = n := ⟨_, rfl⟩
    rw [hn] at HMV hdl hpos HNX
    rw [hn]
    have HN := Lib.hid hn
    clear h e1 e2 e3 ok hr hn
    go_enter Try.func22, Try.ntmps22
    go_wp2_with (go_at_call 34; refine HMV.out.mono ?_; rintro e w1 ⟨u, G1, rfl, hr1, hv1, hW1, hG1, hO1⟩; obtain ⟨a1, c1, rfl, -, -⟩ := row_any hr1; have HX := Lib.hid (And.intro hr1 (And.intro hv1 (And.intro hW1 (And.intro hG1 hO1)))); clear hr1 hv1 hW1 hG1 hO1)
    go_loopg [18] n (fun gg s18 wr => Hid (BmRel w F B r b.ps b.s x (.slice a1 n c1) n gg s18 wr))
    case atStart =>
      have h1 := H.out.wheel (s' := mdS b.s x (x + r.every) 0) (by rw [HS0.out]; exact HX.out.2.2.1) HX.out.2.2.2.1 HX.out.2.2.2.2
      refine Lib.hid ⟨0, by omega, rfl, fun i => F i ∨ G1 i, qs, v, W, G1, h1, H.out.wheel_in HX.out.2.2.2.1, ?_, H.out.wheel_only HX.out.2.2.2.2, HX.out.1⟩
      rintro g hg (hf | hf)
      · have h2 := H.out.lt g hf
        have h3 := (HX.out.1.lt g hg).1
        omega
      · exact HX.out.2.1 g hg hf
    case round =>
      obtain ⟨j, hj, rfl, F1, qs1, u1, W1, G2, hBd, hF1, hv1, hO, hrow⟩ := hrel.out
      clear hrel
      by_cases hjn : j < n
      · have hjz : (j : Int) < (n : Int) := by omega
        have hx0 := hpos (by omega)
        obtain ⟨g, c', e, _⟩ := row_slice hrow (by omega)
        simp only [Value.slice.injEq, true_and] at e
        obtain ⟨rfl, rfl⟩ := e
        have p0 := irow_at hrow hjn
        have q2 := hBd.c2
        have q4 := hBd.c4
        have hBl := hBd.lt B hBd.inB
        have hok := HSO.out j
        have HBD := Lib.hid hBd
        have HSET := Lib.hid (fun k q => set_any (w := wr.drewN q) (x := k) (a := x + r.every) (hBd.wh.below (below_drewN (Below.refl _ _) q)) hok.fit hok.now (by have := hok.len; omega))
        have HX2 := Lib.hid (And.intro hF1 (And.intro hv1 (And.intro hO hrow)))
        have HNJ := Lib.hid (HNX.out j hjn)
        have hw1 : IntKind.i64.wrap (x + r.every) = x + r.every := by rw [IntKind.wrap_i64]; omega
        obtain ⟨k, hk⟩ : ∃ k, (mvD b.s.l b.s.now x)[j]! = k := ⟨_, rfl⟩
        rw [hk] at p0 HNJ
        clear hBd hF1 hv1 hO hrow hok hk d4
        go_wp2_with fail
        refine wp_region_tail 12 (by kernel_rfl) (by kernel_rfl) ?_
        simp only [List.take_succ_cons, List.take_zero, List.drop_succ_cons, List.drop_zero]
        repeat still_step
        refine wpStill_nil ?_
        go_wp2_with fail
        refine (HSET.out k 1).mono ?_
        rintro e w2 ⟨rfl, G3, hW3, hG3, hO3⟩
        have HZ := Lib.hid (And.intro hW3 (And.intro hG3 hO3))
        clear hW3 hG3 hO3
        go_wp2_with fail
        go_roundg (n - (j + 1))
        case measure => omega
        case rel =>
          have hbd2 := HBD.out.only (F' := fun _ => False) (Only.of_below (below_drewN (Below.refl wr.heap.size wr) 1)) (fun _ _ h => h)
          have hO1 : Only F1 wr w2 := (Only.drewN (Only.refl F1 wr) 1).trans (hbd2.wheel_only HZ.out.2.2) fun i hi => .inl hi
          refine Lib.hid ⟨j + 1, by omega, by go_num, fun i => F1 i ∨ G3 i, qs1, u1, W1, G3, ?_, ?_, ?_, HX2.out.2.2.1.trans hO1 HX2.out.1, row_only HX2.out.2.2.2 hO1 HX2.out.2.1⟩
          · rw [HNJ.out]
            exact hbd2.wheel (s' := ⟨(mdS b.s x (x + r.every) j).now, setL (mdS b.s x (x + r.every) j).l k (x + r.every)⟩) HZ.out.1 HZ.out.2.1 HZ.out.2.2
          · intro i hi
            rcases hbd2.wheel_in HZ.out.2.1 i hi with h | h
            · exact HX2.out.1 i h
            · exact .inr (Nat.le_trans HX2.out.2.2.1.size h)
          · rintro g0 hg hf
            rcases hbd2.wheel_in HZ.out.2.1 g0 hf with h | h
            · exact HX2.out.2.1 g0 hg h
            · have := (HX2.out.2.2.2.lt g0 hg).2
              have h2 : wr.heap.size ≤ g0 := h
              omega
      · obtain rfl : j = n := by omega
        have HBD := Lib.hid hBd
        have HX2 := Lib.hid (And.intro hF1 (And.intro hv1 (And.intro hO hrow)))
        clear hBd hF1 hv1 hO hrow d4
        go_wp2_with fail
        go_ret
        exact ⟨_, F1, rfl, HX2.out.2.2.2, HX2.out.2.1, ⟨qs1, u1, W1, G2, HBD.out⟩, HX2.out.1, HX2.out.2.2.1⟩

end Go.Proofs.Ytkcndgiiangmjaa
