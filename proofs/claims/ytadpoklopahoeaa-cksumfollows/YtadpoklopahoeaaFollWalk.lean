/-
  The walk of CksumFollows.
-/
import Derived.Test.YtadpoklopahoeaaChg
namespace Go.Proofs.Ytadpoklopahoeaa
open Go.ChangeShapes Go.WideShapes Go.ChangeAt Go.RowKit
set_option linter.unusedVariables false

theorem two_of {α : Type} (l : List α) (h : (⟨l⟩ : Array α).size = 2) : ∃ a b, l = [a, b] := by
  match l, h with
  | [a, b], _ => exact ⟨a, b, rfl⟩

theorem agg_two {P : Program} {W : World} {t e : TypeId} (ht : P.underlying t = some (.array 2 e)) (hc : P.cellsOf t = 2) {r : Reach} {b0 : Nat} {v : Value} (hv : Value.okWide P W r b0 t v) : ∃ x y, v = .agg #[x, y] := by
  obtain ⟨cs, rfl, hsz, _⟩ : ∃ cs, v = .agg cs ∧ cs.size = P.cellsOf t ∧ Row.okWide P W r b0 t cs := by simpa [Value.okWide, ht] using hv
  rw [hc] at hsz
  obtain ⟨l⟩ := cs
  obtain ⟨a, b, rfl⟩ := two_of l hsz
  exact ⟨a, b, rfl⟩

theorem trod_two {H : Type} {enc : TypeId × Value → H} {P : Program} {W : World} {t e : TypeId} {fuel : Nat} {x y : Value} {z : DataW H × List MemPlace} (ht : P.underlying t = some (.array 2 e)) (hce : P.cellsOf e = 1)
    (h : DataW.trod enc P W 0 (fun _ => true) true fuel t [x, y] = some z) :
    ∃ y0 y1 n, z = (.agg [y0.1, y1.1], y0.2 ++ y1.2) ∧ DataW.trod enc P W 0 (fun _ => true) true n e [x] = some y0 ∧ DataW.trod enc P W 0 (fun _ => true) true n e [y] = some y1 := by
  obtain ⟨xs, m, _, rfl, _, hl, hel⟩ := DataW.trod_array ht h
  rw [hce] at hel
  have e0 := hel 0 (by omega)
  have e1 := hel 1 (by omega)
  match xs, hl with
  | [p, q], _ =>
    simp at e0 e1
    exact ⟨p, q, m, by simp, e0, e1⟩

theorem open_two_bytes {H : Type} {enc : TypeId × Value → H} {P : Program} {W : World} {t e u : TypeId} (ht : P.underlying t = some (.array 2 e)) (he : P.underlying e = some (.slice u)) (hu : P.underlying u = some (.int .u8)) (hc : P.cellsOf t = 2) (hce : P.cellsOf e = 1) (hcu : P.cellsOf u = 1)
    {r : Reach} {b0 : Nat} {v : Value} {d : DataW H} {p : List MemPlace} (hv : Value.okWide P W r b0 t v) (h : DataW.Trod enc P W 0 (fun _ => true) true t v d p) :
    ∃ a1 n1 c1 l1 a2 n2 c2 l2 d1 d2, v = .agg #[.slice a1 n1 c1, .slice a2 n2 c2] ∧ Part W ⟨a1, n1, c1, l1⟩ ∧ Part W ⟨a2, n2, c2, l2⟩ ∧ Long d1 c1 ∧ Long d2 c2 ∧ d = .agg [d1, d2] := by
  obtain ⟨x, y, rfl⟩ := agg_two ht hc hv
  obtain ⟨fuel, hf⟩ := h
  obtain ⟨y0, y1, n, e0, h0, h1⟩ := trod_two (z := (d, p)) ht hce (by simpa [Value.cells] using hf)
  obtain ⟨a1, n1, c1, l1, rfl, p1, q1⟩ := bytes_of_trod he hu hcu h0
  obtain ⟨a2, n2, c2, l2, rfl, p2, q2⟩ := bytes_of_trod he hu hcu h1
  simp only [Prod.mk.injEq] at e0
  exact ⟨a1, n1, c1, l1, a2, n2, c2, l2, _, _, rfl, p1, p2, q1, q2, e0.1⟩

theorem long_reach_in {H : Type} {P : Program} {ts : List TypeId} {ds : List (DataW H)} (hsz : (DataW.weightsEach P ts ds).all (· ≤ reachBytes) = true) {j : Nat} {t e u : TypeId} {d d1 d2 : DataW H} {c : Nat}
    (ht : ts[j]? = some t) (hd : ds[j]? = some (.agg [d1, d2])) (hu : P.underlying t = some (.array 2 e)) (he : P.underlying e = some (.slice u)) (hb : P.bytesOf u = 1) (hx : d = d1 ∨ d = d2) (hl : Long d c) : c ≤ 140737488351232 := by
  rcases hl with ⟨_, rfl⟩ | ⟨E, S, rfl, hc, _, _⟩
  · omega
  · have := List.all_eq_true.1 hsz _ (DataW.weights_mem_each ht hd ((E.length + S.length) * P.bytesOf u) (by
      rcases hx with rfl | rfl <;> simp [DataW.weights, DataW.weightsAll, hu, he]))
    rw [hb] at this
    simp [reachBytes] at this
    omega

theorem chg_mod : ∀ (s : Int) (l m : List Int), l.length = m.length → l.length % 2 = 0 → chg s l m % 65535 = (s + tot l - tot m) % 65535
  | s, [], [], _, _ => by simp [chg, tot]
  | s, [a], m, _, h => by simp at h
  | s, a :: b :: r, [], h, _ => by simp at h
  | s, a :: b :: r, [c], h, _ => by simp at h
  | s, a :: b :: r, c :: d :: r', h, h2 => by
    have ih := chg_mod (upd s (a * 256 + b) (c * 256 + d)) r r' (by simp at h; omega) (by simp at h2; omega)
    have hu := upd_mod s (a * 256 + b) (c * 256 + d)
    rw [chg, ih]
    simp only [tot]
    omega
  | s, [], _ :: _, h, _ => by simp at h

theorem follows_mod (A F T B : List Int) (hA : A.length % 2 = 0) (hFT : F.length = T.length) (hF : F.length % 2 = 0) :
    chg (65535 - fd (tot (A ++ (F ++ B)))) F T % 65535 = (65535 - fd (tot (A ++ (T ++ B)))) % 65535 := by
  rw [chg_mod _ _ _ hFT hF]
  have h1 := @fd_mod (tot (A ++ (F ++ B)))
  have h2 := @fd_mod (tot (A ++ (T ++ B)))
  rw [tot_append_even _ _ hA, tot_append_even _ _ hF] at h1
  rw [tot_append_even _ _ hA, tot_append_even _ _ (by omega)] at h2
  rw [tot_append_even _ _ hA, tot_append_even _ _ hF, tot_append_even _ _ hA, tot_append_even _ _ (show T.length % 2 = 0 by omega)]
  omega

set_option maxHeartbeats 400000 in
theorem follows_out (a b f t : Option Addr) (n cn m cm p cp q cq : Nat) (w : World) (h : n % 2 ≠ 0 ∨ p ≠ q ∨ p % 2 ≠ 0) :
    Calls Try.prog 8 #[.slice a n cn, .slice b m cm, .agg #[.slice f p cp, .slice t q cq]] w fun e w' => e = .returned (.bool true) ∧ Below w.heap.size w w' := by
  by_cases h0 : n % 2 = 0
  · have g0 : ((n : Int) % 2 != 0) = false := by simp; omega
    by_cases h1 : p = q
    · have g1 : ((p : Int) != (q : Int)) = false := by simp; omega
      have g2 : ((p : Int) % 2 != 0) = true := by simp; omega
      clear h h1 h0
      go_enter Try.func8, Try.ntmps8
      go_wp2_with fail
      go_quiet (fail)
      go_wp2_with (go_at_call 14; refine (alive_any _).mono ?_; rintro e w1 ⟨rfl, hbel⟩)
      go_ret
      exact ⟨rfl, Below.trans (below_drewN ((Below.refl _ _).alloc (Nat.le_refl _) _) _) (hbel.mono (by simp))⟩
    · have g1 : ((p : Int) != (q : Int)) = true := by simp; omega
      clear h
      go_enter Try.func8, Try.ntmps8
      go_wp2_with fail
      go_quiet (fail)
      go_wp2_with (go_at_call 14; refine (alive_any _).mono ?_; rintro e w1 ⟨rfl, hbel⟩)
      go_ret
      exact ⟨rfl, Below.trans (below_drewN ((Below.refl _ _).alloc (Nat.le_refl _) _) _) (hbel.mono (by simp))⟩
  · have g0 : ((n : Int) % 2 != 0) = true := by simp; omega
    clear h
    go_enter Try.func8, Try.ntmps8
    go_wp2_with fail
    go_quiet (fail)
    go_wp2_with (go_at_call 14; refine (alive_any _).mono ?_; rintro e w1 ⟨rfl, hbel⟩)
    go_ret
    exact ⟨rfl, Below.trans (below_drewN ((Below.refl _ _).alloc (Nat.le_refl _) _) _) (hbel.mono (by simp))⟩

theorem below_then {w W w1 : World} (h : Below w.heap.size w W) (hb : Below W.heap.size W w1) : Below w.heap.size w w1 := h.trans (hb.mono h.size)

theorem three_new {W : World} {N n1 c1 n2 c2 n3 c3 : Nat} {a1 a2 a3 : Option Addr} {b1 b2 b3 : List Int} (hN : N = W.heap.size) (h1 : Part W ⟨a1, n1, c1, b1⟩) (h2 : Part W ⟨a2, n2, c2, b2⟩) (h3 : Part W ⟨a3, n3, c3, b3⟩) :
    Three (W.alloc (.cells #[.slice a1 n1 c1, .slice a2 n2 c2, .slice a3 n3 c3] 22)) N n1 n2 n3 b1 b2 b3 :=
  ⟨a1, c1, a2, c2, a3, c3, (World.cell?_alloc_at _ _ _ _ hN).trans rfl, (World.cell?_alloc_at _ _ _ _ hN).trans rfl, (World.cell?_alloc_at _ _ _ _ hN).trans rfl, h1.alloc _, h2.alloc _, h3.alloc _⟩

set_option maxHeartbeats 400000 in
theorem follows_in (a b f t : Option Addr) (n cn m cm p cp cq : Nat) (A B F T : List Int) (w : World) (ha : Part w ⟨a, n, cn, A⟩) (hb : Part w ⟨b, m, cm, B⟩) (hf : Part w ⟨f, p, cp, F⟩) (ht : Part w ⟨t, p, cq, T⟩)
    (l1 : cn ≤ 140737488351232) (l2 : cm ≤ 140737488351232) (l3 : cp ≤ 140737488351232) (h0 : n % 2 = 0) (h1 : p % 2 = 0) :
    Calls Try.prog 8 #[.slice a n cn, .slice b m cm, .agg #[.slice f p cp, .slice t p cq]] w fun e w' => e = .returned (.bool true) ∧ Below w.heap.size w w' := by
  have g0 : ((n : Int) % 2 != 0) = false := by simp; omega
  have g1 : ((p : Int) != (p : Int)) = false := by simp
  have g2 : ((p : Int) % 2 != 0) = false := by simp; omega
  have k1 : n ≤ cn := ha.2.1
  have k2 : m ≤ cm := hb.2.1
  have k3 : p ≤ cp := hf.2.1
  have HL := Lib.hid (show n ≤ 140737488355328 ∧ p ≤ 140737488355328 ∧ m ≤ 140737488355328 by omega)
  obtain ⟨s0, hs0⟩ : ∃ s, fd (tot (A ++ (F ++ B))) = s := ⟨_, rfl⟩
  obtain ⟨s1, hs1⟩ : ∃ s, fd (tot (A ++ (T ++ B))) = s := ⟨_, rfl⟩
  have hm := follows_mod A F T B (by rw [ha.1]; exact h0) (by rw [hf.1, ht.1]) (by rw [hf.1]; exact h1)
  rw [hs0, hs1] at hm
  have b0 : 0 ≤ s0 ∧ s0 ≤ 65535 := by rw [← hs0]; exact fd_bd _
  have b1 : 0 ≤ s1 ∧ s1 ≤ 65535 := by rw [← hs1]; exact fd_bd _
  have b2 := chg_bd (65535 - s0) F T (by omega)
  obtain ⟨r, hr⟩ : ∃ r, chg (65535 - s0) F T = r := ⟨_, rfl⟩
  rw [hr] at b2 hm
  have HM := Lib.hid hm
  have HR := Lib.hid hr
  have HS0 := Lib.hid hs0
  have HS1 := Lib.hid hs1
  have HA := Lib.hid ha
  have HB := Lib.hid hb
  have HF := Lib.hid hf
  have HT := Lib.hid ht
  have hp47 : p ≤ 140737488355328 := by omega
  have hp2 := Lib.hid h1
  clear hm hr hs0 hs1 ha hb hf ht h0 h1
  go_enter Try.func8, Try.ntmps8
  go_wp2_with fail
  go_quiet (fail)
  go_wp2_with fail
  refine (put_three (s := s0) (three_new (by simp) ((HA.out.alloc _).drewN _) ((HF.out.alloc _).drewN _) ((HB.out.alloc _).drewN _)) HL.out HS0.out).mono ?_
  rintro e w1 ⟨rfl, q1, rfl⟩
  go_wp2_with fail
  refine (change_yes (65535 - s0) f t p cp cq F T _ (by omega) ((((HF.out.alloc _).drewN _).alloc _).drewN _) ((((HT.out.alloc _).drewN _).alloc _).drewN _) hp2.out hp47).mono ?_
  rw [HR.out]
  rintro e w1 ⟨rfl, q2, rfl⟩
  go_wp2_with fail
  refine (alive_any _).mono ?_
  rintro e w1 ⟨rfl, hbel⟩
  have HB1 : Hid (Below w.heap.size w w1) := Lib.hid (below_then (by repeat (first | exact Below.refl _ _ | refine below_alloc ?_ _ | refine below_drewN ?_ _)) hbel)
  have HA1 := Lib.hid (HA.out.below HB1.out)
  have HT1 := Lib.hid (HT.out.below HB1.out)
  have HBB := Lib.hid (HB.out.below HB1.out)
  clear hbel
  go_wp2_with fail
  refine (put_three (s := s1) (three_new rfl HA1.out HT1.out HBB.out) HL.out HS1.out).mono ?_
  rintro e w2 ⟨rfl, q3, rfl⟩
  go_wp2_with fail
  refine (same_yes _ _ _ b2 (by omega) HM.out).mono ?_
  rintro e w2 ⟨rfl, rfl⟩
  go_wp2
  go_ret
  exact ⟨rfl, below_drewN (below_alloc HB1.out _) _⟩

theorem follows_walk (a : Option Addr) (n cn : Nat) (A : List Int) (b : Option Addr) (m cm : Nat) (B : List Int) (f : Option Addr) (p cp : Nat) (F : List Int) (t : Option Addr) (q cq : Nat) (T : List Int) (w : World)
    (ha : Part w ⟨a, n, cn, A⟩) (l1 : cn ≤ 140737488351232) (hb : Part w ⟨b, m, cm, B⟩) (l2 : cm ≤ 140737488351232) (hf : Part w ⟨f, p, cp, F⟩) (ht : Part w ⟨t, q, cq, T⟩) (l3 : cp ≤ 140737488351232) (l4 : cq ≤ 140737488351232) :
    Calls Try.prog 8 #[.slice a n cn, .slice b m cm, .agg #[.slice f p cp, .slice t q cq]] w fun e w' => e = .returned (.bool true) ∧ Below w.heap.size w w' := by
  by_cases h : n % 2 ≠ 0 ∨ p ≠ q ∨ p % 2 ≠ 0
  · exact follows_out a b f t n cn m cm p cp q cq w h
  · obtain rfl : p = q := by omega
    exact follows_in a b f t n cn m cm p cp cq A B F T w ha hb hf ht l1 l2 l3 (by omega) (by omega)


end Go.Proofs.Ytadpoklopahoeaa
