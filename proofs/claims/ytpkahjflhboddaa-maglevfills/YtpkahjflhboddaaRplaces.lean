/-
  What the reference has for each place.
-/
import Derived.Test.YtpkahjflhboddaaLaw
import Derived.Deep.RegionHeld3
import Derived.Test.YtpkahjflhboddaaRefa
import Derived.Test.YtpkahjflhboddaaRefr
import Derived.Test.YtpkahjflhboddaaRtwo
import Derived.Test.YtpkahjflhboddaaPlaces
import Derived.Deep.OwnRows
namespace Go.Proofs.Ytpkahjflhboddaa
open Go.RowKit
set_option linter.unusedVariables false
set_option linter.unusedSimpArgs false
set_option maxRecDepth 10000
attribute [local go_sem ↓] big22


def SameW (a b : World) : Prop := a = b
def QW (w : World) (A : Array Value) (pb cb og : Nat) (o : List Nat) (cs : List Int) (pl : List (Option Nat)) (W : World) : Prop :=
  Below w.heap.size w W ∧ Ar W w.heap.size A.toList ∧ Ar W cb (vals cs) ∧ Ar W pb (vals (lab o pl)) ∧ Ints W og 0 (ord o)
theorem QW.below {w : World} {A : Array Value} {pb cb og : Nat} {o : List Nat} {cs : List Int} {pl : List (Option Nat)} {W W' : World} (h : QW w A pb cb og o cs pl W) (hb : Below W.heap.size W W') : QW w A pb cb og o cs pl W' :=
  ⟨h.1.trans (hb.mono h.1.size), h.2.1.below hb, h.2.2.1.below hb, h.2.2.2.1.below hb, h.2.2.2.2.below hb h.2.2.2.2.1⟩
theorem ints_other {W : World} {g off B : Nat} {xs : List Int} (h : Ints W g off xs) (hB : g ≠ B) (j : Nat) (v : Value) : Ints (W.setCell ⟨B, j, none⟩ v) g off xs :=
  ⟨by simpa using h.1, fun i hi => by rw [World.cell?_setCell_other _ _ _ _ (by intro e; simp only [Addr.mk.injEq] at e; exact hB e.1.symm)]; exact h.2 i hi⟩
theorem QW.setc {w : World} {A : Array Value} {pb cb og : Nat} {o : List Nat} {cs : List Int} {pl : List (Option Nat)} {W : World} (h : QW w A pb cb og o cs pl W) (h1 : w.heap.size < cb) (h2 : pb ≠ cb) (h3 : og ≠ cb) {x : Nat} (hx : x < cs.length) (y : Int) : QW w A pb cb og o (cs.set x y) pl (W.setCell ⟨cb, x, none⟩ (.int .i64 y)) :=
  ⟨h.1.setCell (by show w.heap.size ≤ cb; omega) _, h.2.1.other (p := ⟨cb, x, none⟩) (by show cb ≠ w.heap.size; omega) _, ar_put h.2.2.1 hx y, h.2.2.2.1.other (p := ⟨cb, x, none⟩) (fun e => h2 e.symm) _, ints_other h.2.2.2.2 h3 x _⟩
theorem QW.setp {w : World} {A : Array Value} {pb cb og : Nat} {o : List Nat} {cs : List Int} {pl : List (Option Nat)} {W : World} (h : QW w A pb cb og o cs pl W) (h1 : w.heap.size < pb) (h2 : cb ≠ pb) (h3 : og ≠ pb) {p : Nat} (hp : p < pl.length) (r : Nat) : QW w A pb cb og o cs (pl.set p (some r)) (W.setCell ⟨pb, p, none⟩ (.int .i64 (o[r]! : Nat))) :=
  ⟨h.1.setCell (by show w.heap.size ≤ pb; omega) _, h.2.1.other (p := ⟨pb, p, none⟩) (by show pb ≠ w.heap.size; omega) _, h.2.2.1.other (p := ⟨pb, p, none⟩) (fun e => h2 e.symm) _, by rw [lab_set]; exact ar_put h.2.2.2.1 (by rw [lab_len]; exact hp) _, ints_other h.2.2.2.2 h3 p _⟩

theorem made_ints' (n : Nat) : madeCells #[Value.int .i64 0] n = (vals (List.replicate n 0)).toArray := by
  apply Array.ext'
  simp [madeCells, vals, List.map_replicate]
  apply List.ext_getElem (by simp)
  intro i h1 h2
  simp [Nat.mod_one]

/-- One visit more. -/
theorem visit {k : List Int} {l : List Bk} {o : List Nat} {t T : Nat} (G : Good l o (sds k l o) t T) (m : Nat) :
    (came t (sds k l o) (stp (sds k l o).length m) = false → pls t (sds k l o) (m + 1) = pls t (sds k l o) m) ∧
    (came t (sds k l o) (stp (sds k l o).length m) = true → pls t (sds k l o) (m + 1) = fill (wk ((sds k l o)[(stp (sds k l o).length m).2]!).a ((sds k l o)[(stp (sds k l o).length m).2]!).b) (pls t (sds k l o) m) (stp (sds k l o).length m).2) := by
  constructor
  · intro h; simp only [pls]; rw [h, if_neg Bool.false_ne_true]
  · intro h; simp only [pls]; rw [if_pos h]

def OutRel (w : World) (A : Array Value) (pb cb og : Nat) (o : List Nat) (S : List Sd) (t n : Nat) (gg : Nat) (s11 : Value) (wr : World) : Prop :=
  ∃ (m : Nat) (cs : List Int), (stp S.length m).2 = 0 ∧ s11 = .int .i64 (frs (pls t S m) : Nat) ∧ frs (pls t S m) ≤ gg ∧ QW w A pb cb og o cs (pls t S m) wr ∧ cs.length = n ∧ Cred S o t cs (stp S.length m)
def InRel (w : World) (A : Array Value) (pb cb og : Nat) (o : List Nat) (S : List Sd) (t T n f0 : Nat) (gg : Nat) (s11 s12 : Value) (wr : World) : Prop :=
  ∃ (i m : Nat) (cs : List Int), i + gg = n ∧ s12 = .int .i64 i ∧ (i < n → (stp S.length m).2 = i) ∧ (i = n → (stp S.length m).2 = 0) ∧ s11 = .int .i64 (frs (pls t S m) : Nat) ∧ frs (pls t S m) ≤ f0 ∧ (T < i → frs (pls t S m) < f0) ∧ QW w A pb cb og o cs (pls t S m) wr ∧ cs.length = n ∧ Cred S o t cs (stp S.length m)

set_option maxHeartbeats 8000000 in
theorem rplaces_any {w : World} {a : Option Addr} {n c : Nat} {l : List Bk} {o : List Nat} {t T : Nat} (k : List Int) (hk : Key k) (hR : Right l) (G : Good l o (sds k l o) t T) (ht : IsTop l (t : Int)) (h : Bks w a n c l) :
    Calls Try.prog 16 #[kv k, .slice a n c] w fun e w' => ∃ g cap pl, Lays t (sds k l o) pl ∧ e = .returned (.slice (some ⟨g, 0, none⟩) 251 cap) ∧ 251 ≤ cap ∧ Ar w' g (vals (lab o pl)) ∧ Below w.heap.size w w' := by
  have hn := h.1
  have hn16 : n ≤ 16 := by rw [hn]; exact G.n16
  have hn1 : 1 ≤ n := by rw [hn]; exact G.n1
  have H := Lib.hid h
  have HN := Lib.hid hn
  have HG := Lib.hid G
  have HTOP := Lib.hid ht
  have HR := Lib.hid hR
  obtain ⟨A, hA⟩ : ∃ A, (cel k).toArray = A := ⟨_, rfl⟩
  have hAs : A.size = 16 := by rw [← hA, List.size_toArray, cel_len, hk.1]
  have hkA : kv k = .agg A := by rw [← hA]; rfl
  have HAS := Lib.hid hAs
  have HT2 := Lib.hid (fun s w hs => rtwo_any k s w hk hs)
  rw [hkA] at HT2 ⊢
  have hmk251 : ∀ W, (Instr.makeSlice 34 (.int .i64 251) (.int .i64 251)).run Try.prog W = .ok (.slice (some ⟨W.heap.size, 0, none⟩) 251 251) (W.alloc (.cells (madeCells #[Value.int .i64 0] 251) 3)) :=
    run_make_row' (P := Try.prog) 34 3 (.int .i64 0) 8 Try.underlying34 info3 rfl .i64 .i64 251 (by omega) (by omega)
  have hmkn := run_make_row' (P := Try.prog) 34 3 (.int .i64 0) 8 Try.underlying34 info3 rfl .i64 .i64 n (by omega) (by omega)
  rw [made_ints'] at hmk251 hmkn
  obtain ⟨MP, hMP⟩ : ∃ M, (vals (List.replicate 251 0)).toArray = M := ⟨_, rfl⟩
  obtain ⟨MC, hMC⟩ : ∃ M, (vals (List.replicate n 0)).toArray = M := ⟨_, rfl⟩
  rw [hMP] at hmk251
  rw [hMC] at hmkn
  have hst : Hid (∃ j : Nat, j + 251 = 251 ∧ (.int .i64 0 : Value) = .int .i64 j ∧ Below w.heap.size w ((w.alloc (.cells A 22)).alloc (.cells MP 3)) ∧ Ar ((w.alloc (.cells A 22)).alloc (.cells MP 3)) w.heap.size A.toList ∧ Ar ((w.alloc (.cells A 22)).alloc (.cells MP 3)) (w.heap.size + 1) (vals (emp j))) := Lib.hid
    ⟨0, by omega, rfl, ((Below.refl _ _).alloc (Nat.le_refl _) _).alloc (by simp) _, by
      have := (Ar.new w A.toList 22).alloc (.cells MP 3)
      simpa using this, by
      have h0 : emp 0 = List.replicate 251 0 := rfl
      rw [h0, ← hMP]
      have := Ar.new (w.alloc (.cells A 22)) (vals (List.replicate 251 0)) 3
      rw [World.size_alloc] at this
      exact this⟩
  have HMC := Lib.hid hMC
  clear h hn G ht hR hA hAs hkA hk hMP hMC
  go_enter Try.func16, Try.ntmps16
  go_wp2
  go_loopg [6] 251 (fun gg s6 wr => Hid (∃ j : Nat, j + gg = 251 ∧ s6 = .int .i64 j ∧ Below w.heap.size w wr ∧ Ar wr w.heap.size A.toList ∧ Ar wr (w.heap.size + 1) (vals (emp j))))
  case atStart => exact hst
  case round =>
    clear hst hmk251
    obtain ⟨j, hj, rfl, hb, hAr, hpl⟩ := hrel.out
    clear hrel
    by_cases hlt : j < 251
    · have hltz : (j : Int) < 251 := by omega
      obtain ⟨e1, e2⟩ := ar_vals hpl (x := j) (y := (emp j)[j]!) (by rw [List.getElem?_eq_getElem (by rw [emp_len (by omega)]; exact hlt), getElem!_pos _ j (by rw [emp_len (by omega)]; exact hlt)])
      generalize (emp j)[j]! = u at e1
      have HB := Lib.hid (hb.setCell (p := ⟨w.heap.size + 1, j, none⟩) (by show w.heap.size ≤ w.heap.size + 1; omega) (.int .i64 (-1)))
      have HA := Lib.hid (hAr.other (p := ⟨w.heap.size + 1, j, none⟩) (by show w.heap.size + 1 ≠ w.heap.size; omega) (.int .i64 (-1)))
      have hp := ar_put hpl (x := j) (by rw [emp_len (by omega)]; exact hlt) (-1)
      rw [emp_set hlt] at hp
      have HP := Lib.hid hp
      clear hb hAr hpl hp
      go_wp2
      go_roundg (251 - (j + 1))
      case measure => omega
      case rel => exact Lib.hid ⟨j + 1, by omega, by go_num, HB.out, HA.out, HP.out⟩
    · have hltz : ¬ (j : Int) < 251 := by omega
      obtain rfl : j = 251 := by omega
      have HB := Lib.hid hb
      have HA := Lib.hid hAr
      have HP := Lib.hid hpl
      obtain ⟨wv, rfl⟩ : ∃ W, W = wr := ⟨_, rfl⟩
      have hst2 : Hid (∃ (q : Nat) (tt : Int), q + n = n ∧ (.int .i64 0 : Value) = .int .i64 q ∧ (.int .i64 0 : Value) = .int .i64 tt ∧ TopTo l q tt ∧ SameW wv wv) := Lib.hid ⟨0, 0, by omega, rfl, rfl, ⟨by omega, fun i hi => by omega, .inl rfl⟩, rfl⟩
      clear hb hAr hpl
      go_wp2
      go_loopg [7, 8] n (fun gg s7 s8 wr => Hid (∃ (q : Nat) (tt : Int), q + gg = n ∧ s8 = .int .i64 q ∧ s7 = .int .i64 tt ∧ TopTo l q tt ∧ SameW wr wv))
      case atStart => exact hst2
      case round =>
        clear hst2
        obtain ⟨q, tt, hq, rfl, rfl, htt, hwv⟩ := hrel.out
        obtain rfl : wr = _ := hwv
        clear hrel
        by_cases hlt2 : q < n
        · have hltz2 : (q : Int) < (n : Int) := by omega
          obtain ⟨b, off, rfl, hbb, c0, c1⟩ := bk_at (H.out.below HB.out) hlt2
          have htn := htt.next
          generalize (l[q]!).wt = wt at c1 htn
          clear htt c0
          have HT := Lib.hid htn
          clear htn
          go_wp2
          go_roundg (n - (q + 1))
          case measure => omega
          case rel => exact Lib.hid ⟨q + 1, _, by omega, by go_num, rfl, HT.out, rfl⟩
        · have hltz2 : ¬ (q : Int) < (n : Int) := by omega
          obtain rfl : q = n := by omega
          have htop : tt = (t : Int) := by
            rw [HN.out] at htt
            exact (htt.isTop HR.out.1 (fun i hi => (HR.out.2.2.1 i hi).2.2.1)).same HTOP.out
          subst htop
          have hb2 : Below w.heap.size w (wr.alloc (.cells MC 3)) := HB.out.alloc HB.out.size _
          have HB2 := Lib.hid hb2
          have HORD := Lib.hid (rorder_any (H.out.below hb2) hn16 HG.out.ho HR.out.2.2.2)
          have hwsz := HA.out.1
          have hpsz := HP.out.1
          clear htt hb2
          go_wp2_with fail
          refine HORD.out.mono ?_
          rintro e w5 ⟨ov, rfl, horow, hb5⟩
          obtain ⟨og, oc, rfl, hoc⟩ := row_slice2 horow hn1
          have hogl := horow.lt og rfl
          have hocells := horow.cells (g := og) rfl
          have hsz5 := hb5.size
          have hogb := hogl.1
          simp only [World.size_alloc] at hogb hsz5
          have hI : Ints w5 og 0 (ord o) := ⟨hogl.2, fun j hj => by
            have := hocells j (.int .i64 (ord o)[j]!) (by rw [icells, List.getElem?_map, List.getElem?_eq_getElem hj, getElem!_pos _ j hj]; rfl)
            rwa [add_plain] at this⟩
          have hQ : QW w A (w.heap.size + 1) wr.heap.size og o (List.replicate q 0) (pls t (sds k l o) 0) w5 := ⟨HB2.out.trans (hb5.mono HB2.out.size), (HA.out.alloc _).below hb5, by
            have := (Ar.new wr (vals (List.replicate q 0)) 3)
            rw [HMC.out] at this
            exact this.below hb5, by rw [← emp_all]; exact (HP.out.alloc _).below hb5, hI⟩
          obtain ⟨cb, hcb⟩ : ∃ cb, wr.heap.size = cb := ⟨_, rfl⟩
          rw [hcb] at hQ hogb ⊢
          have hcb1 : w.heap.size + 1 < cb := by rw [← hcb]; exact hpsz
          have hogc : cb < og := hogb
          have hst3 : Hid (OutRel w A (w.heap.size + 1) cb og o (sds k l o) t q 251 (.int .i64 251) w5) := Lib.hid ⟨0, List.replicate q 0, rfl, by rw [pls_zero]; rfl, by rw [pls_zero]; omega, hQ, by simp, fun r hr => by
            rw [HG.out.len, ← HN.out] at hr
            rw [List.getElem?_replicate, if_pos (by have := (HG.out.ho.2 r (by rw [← HN.out]; exact hr)).1; rw [HN.out]; exact this)]
            simp [vis, stp, crd]⟩
          clear horow hocells hb5 hI hQ hogl hmkn HB2 HMC
          obtain ⟨wo, rfl⟩ : ∃ W, W = w5 := ⟨_, rfl⟩
          go_wp2
          go_loopg [11, 12, 13, 14, 15, 16] 251 (fun gg s11 _ _ _ _ _ wr => Hid (OutRel w A (w.heap.size + 1) cb og o (sds k l o) t q gg s11 wr))
          case atStart => exact hst3
          case round =>
            clear hst3
            obtain ⟨m, cs, hm0, rfl, hgg, hQ, hcl, hcr⟩ := hrel.out
            clear hrel
            obtain ⟨f0, hf0⟩ : ∃ f0, frs (pls t (sds k l o) m) = f0 := ⟨_, rfl⟩
            rw [hf0] at hgg ⊢
            by_cases hfr : 0 < f0
            · have hfz : (0 : Int) < (f0 : Int) := by omega
              have hst4 : Hid (InRel w A (w.heap.size + 1) cb og o (sds k l o) t T q f0 q (.int .i64 (f0 : Nat)) (.int .i64 0) wr) := Lib.hid ⟨0, m, cs, by omega, rfl, fun _ => hm0, fun h => by omega, by rw [hf0], by omega, fun h => by omega, hQ, hcl, hcr⟩
              clear hm0 hQ hcl hcr hf0
              go_wp2
              go_loopg [11, 12, 13, 14, 15, 16] q (fun gg s11 s12 _ _ _ _ wr => Hid (InRel w A (w.heap.size + 1) cb og o (sds k l o) t T q f0 gg s11 s12 wr))
              case atStart => exact hst4
              case round =>
                clear hst4
                obtain ⟨i, m, cs, hi, rfl, hmi, hm0, rfl, hfle, hflt, hQ, hcl, hcr⟩ := hrel.out
                clear hrel
                by_cases hlt : i < q
                · have hltz : (i : Int) < (q : Int) := by omega
                  have G := HG.out
                  have hmi := hmi hlt
                  have hil : i < l.length := by rw [← HN.out]; exact hlt
                  have hio : i < o.length := by rw [G.ho.1]; exact hil
                  have hiS : (stp (sds k l o).length m).2 < (sds k l o).length := by rw [hmi, G.len]; exact hil
                  have hat := cred_at hcr hiS
                  obtain ⟨hwt, hw1, hw2⟩ := G.wt _ hiS
                  have ht0 : 0 < t := by have := (G.wt _ G.top.1).2; omega
                  have hstep := crd_step ((sds k l o)[(stp (sds k l o).length m).2]!).w t (stp (sds k l o).length m).1 ht0 hw2
                  have hclt := crd_lt ((sds k l o)[(stp (sds k l o).length m).2]!).w t (stp (sds k l o).length m).1 ht0
                  have hcame : came t (sds k l o) (stp (sds k l o).length m) = decide (t ≤ crd ((sds k l o)[(stp (sds k l o).length m).2]!).w t (stp (sds k l o).length m).1 + ((sds k l o)[(stp (sds k l o).length m).2]!).w) := rfl
                  have hvis := visit G m
                  have hcred := cred_step hcr G.ho G.len hiS (fun z hz => by rw [hcl, HN.out]; exact hz)
                  have hsat := sds_at k l o (r := i) hio
                  have hnx : (stp (sds k l o).length (m + 1)).2 = if i + 1 = q then 0 else i + 1 := by
                    show (nxt _ (stp (sds k l o).length m)).2 = _
                    rw [nxt, hmi, G.len, ← HN.out]; split <;> rfl
                  have hxn := (G.ho.2 i hil).1
                  have hTop : i = T → ((sds k l o)[i]!).w = t := fun e => by rw [e]; exact G.top.2
                  rw [hmi] at hat hwt hw1 hw2 hstep hclt hcame hvis hcred
                  have hog := hQ.2.2.2.2.2 i (by simp [ord]; exact hio)
                  rw [ord_at o hio, Nat.zero_add] at hog
                  have hab : ((sds k l o)[i]!).a = (hsh k (bts (l[o[i]!]!).name)).toNat ∧ ((sds k l o)[i]!).b = (hsh (trn k) (bts (l[o[i]!]!).name)).toNat := by rw [hsat]; exact ⟨rfl, rfl⟩
                  have hns := (HR.out.2.2.1 _ hxn).2.1
                  obtain ⟨b, off, rfl, hbb, c0, c1⟩ := bk_at (H.out.below hQ.1) (show o[i]! < q by rw [HN.out]; exact hxn)
                  obtain ⟨x, hx⟩ : ∃ x, o[i]! = x := ⟨_, rfl⟩
                  rw [hx] at hat hwt hcred hog hab hns c0 c1 hxn
                  obtain ⟨nm, hnm⟩ : ∃ nm, (l[x]!).name = nm := ⟨_, rfl⟩
                  rw [hnm] at hab hns c0
                  rw [hwt] at c1
                  obtain ⟨ww, hww⟩ : ∃ ww, ((sds k l o)[i]!).w = ww := ⟨_, rfl⟩
                  rw [hww] at hat hw1 hw2 hstep hclt hcame hcred c1 hTop
                  obtain ⟨xa, hxa⟩ : ∃ xa, ((sds k l o)[i]!).a = xa := ⟨_, rfl⟩
                  obtain ⟨xb, hxb⟩ : ∃ xb, ((sds k l o)[i]!).b = xb := ⟨_, rfl⟩
                  rw [hxa, hxb] at hvis hab
                  obtain ⟨cr, hcr'⟩ : ∃ cr, crd ww t (stp (sds k l o).length m).1 = cr := ⟨_, rfl⟩
                  rw [hcr'] at hat hstep hclt hcame
                  obtain ⟨cr2, hcr2⟩ : ∃ cr2, crd ww t ((stp (sds k l o).length m).1 + 1) = cr2 := ⟨_, rfl⟩
                  rw [hcr2] at hstep hcred
                  have t100 := G.t100
                  have HTWO := HT2.out nm
                  have hu1 := hsh_u k (bts nm)
                  have hu2 := hsh_u (trn k) (bts nm)
                  have HTWO : Hid (∀ W, Calls Try.prog 29 #[.agg A, .string nm] W fun e w' => e = .returned (.tuple #[.int .u64 (xa : Nat), .int .u64 (xb : Nat)]) ∧ Below W.heap.size W w') := Lib.hid (fun W => by
                    have := HT2.out nm W (by omega)
                    rw [show hsh k (bts nm) = ((xa : Nat) : Int) by rw [hab.1]; exact (Int.toNat_of_nonneg hu1.1).symm, show hsh (trn k) (bts nm) = ((xb : Nat) : Int) by rw [hab.2]; exact (Int.toNat_of_nonneg hu2.1).symm] at this
                    exact this)
                  have hxa64 : xa ≤ 18446744073709551615 := by have := hu1.1; have := hu1.2; omega
                  have hxb64 : xb ≤ 18446744073709551615 := by have := hu2.1; have := hu2.2; omega
                  obtain ⟨e1, e2⟩ := ar_vals hQ.2.2.1 hat
                  have hcbl := hQ.2.2.1.1
                  have hxq : x < q := by rw [HN.out]; exact hxn
                  have hxz : (x : Int) < (q : Int) := by omega
                  have HXC := Lib.hid (show x < cs.length by rw [hcl]; exact hxq)
                  have HMI := Lib.hid hmi
                  have HNM := Lib.hid hnm
                  have HVIS := Lib.hid hvis
                  have HCRED := Lib.hid hcred
                  have HSTEP := Lib.hid hstep
                  have HCAME := Lib.hid hcame
                  have HNX := Lib.hid hnx
                  have HQ0 := Lib.hid hQ
                  have HX := Lib.hid hx
                  have HCL := Lib.hid hcl
                  have HTP := Lib.hid hTop
                  have HFLE := Lib.hid hfle
                  have HFLT := Lib.hid hflt
                  have HPLEN := Lib.hid (pls_len t (sds k l o) m)
                  have wr1 : IntKind.i64.wrap ((cr : Int) + (ww : Int)) = (cr : Int) + (ww : Int) := by rw [IntKind.wrap_i64]; omega
                  have HQ1 := Lib.hid (hQ.setc (by omega) (by omega) (by omega) HXC.out ((cr : Int) + (ww : Int)))
                  clear hmi hil hio hiS hat hwt hstep hcame hvis hcred hsat hnx hxn hTop hab hns hQ hcl hcr hx hnm hww hxa hxb hcr' hcr2 hu1 hu2 hm0 hfle hflt G
                  go_wp2
                  refine wp_region_tail 13 (by kernel_rfl) (by kernel_rfl) ?_
                  simp only [List.take_succ_cons, List.take_zero, List.drop_succ_cons, List.drop_zero]
                  repeat (first | still_step)
                  refine wpStill_nil ?_
                  obtain ⟨E1, E2⟩ := ar_vals HQ1.out.2.2.1 (x := x) (y := (cr : Int) + (ww : Int)) (List.getElem?_set_self HXC.out)
                  have hcbl2 := HQ1.out.2.2.1.1
                  by_cases hge : t ≤ cr + ww
                  · have hgz : (t : Int) ≤ (cr : Int) + (ww : Int) := by omega
                    have hcr2 : Hid ((cr2 : Int) = (cr : Int) + (ww : Int) - (t : Int)) := Lib.hid (by have := HSTEP.out; rw [if_pos hge] at this; omega)
                    have wr3 : IntKind.i64.wrap ((cr : Int) + (ww : Int) - (t : Int)) = (cr : Int) + (ww : Int) - (t : Int) := by rw [IntKind.wrap_i64]; omega
                    have hca : Hid (came t (sds k l o) (stp (sds k l o).length m) = true) := Lib.hid (by rw [HCAME.out, decide_eq_true hge])
                    have hq2 := HQ1.out.setc (by omega) (by omega) (by omega) (x := x) (by rw [List.length_set]; exact HXC.out) ((cr : Int) + (ww : Int) - (t : Int))
                    rw [List.set_set, ← hcr2.out] at hq2
                    go_wp2
                    rw [← hcr2.out]
                    generalize (wr.setCell ⟨cb, x, none⟩ (.int .i64 ((cr : Int) + (ww : Int)))).setCell ⟨cb, x, none⟩ (.int .i64 (cr2 : Nat)) = W3 at hq2 ⊢
                    obtain ⟨b', off', e', hbb', c0', -⟩ := bk_at (H.out.below hq2.1) hxq
                    simp only [Option.some.injEq, Addr.mk.injEq, and_true] at e'
                    obtain ⟨rfl, rfl⟩ := e'
                    have hnm2 : (l[x]!).name = nm := HNM.out
                    rw [hnm2] at c0'
                    have HQ2 := Lib.hid hq2
                    have hS0 : Ar W3.drew.drew w.heap.size A.toList ∧ W3.drew.drew.cell? ⟨b, off + x * 2, none⟩ = some (.string nm) := ⟨hq2.2.1.drew.drew, c0'⟩
                    have HS0 := Lib.hid hS0
                    clear hq2 c0 c0' c1 e1 e2 E1 E2 hbb hbb' hS0 hcbl hcbl2 hog HQ1 HQ0
                    refine wp_region_held_drew (S := fun W => Ar W w.heap.size A.toList ∧ W.cell? ⟨b, off + x * 2, none⟩ = some (.string nm)) (by kernel_rfl) HS0.out (fun hHeld => ?_)
                    refine wpAnyH_take (i := 0) (oi := ({ dst := some 84, op := Go.Op.load 22 (Go.Operand.tmp 2), type := 22, pos := _, after := #[], guard := none } : Oper)) (v := ?_) rfl (by kernel_rfl) (by kernel_rfl) (by kernel_rfl) (fun _ _ _ h => h) (Or.inl ⟨by rfl, ?_⟩) (by assumption) ?_
                    rotate_left
                    · intro W' hSw
                      try dsimp only at hSw
                      have hkey := load_key22 hSw.1 HAS.out
                      go_simp
                      try with_reducible rfl
                    try simp only [Act.put, List.setIfInBounds_toArray, List.set_cons_zero, List.set_cons_succ]
                    refine wpAnyH_take (i := 1) (oi := ({ dst := some 85, op := Go.Op.move (Go.Operand.tmp 1), type := 23, pos := _, after := #[], guard := none } : Oper)) (v := ?_) rfl (by kernel_rfl) (by kernel_rfl) (by kernel_rfl) (fun _ _ _ h => h) (Or.inl ⟨by rfl, ?_⟩) (by assumption) ?_
                    rotate_left
                    · intro W' hSw
                      try dsimp only at hSw
                      go_simp
                      try with_reducible rfl
                    try simp only [Act.put, List.setIfInBounds_toArray, List.set_cons_zero, List.set_cons_succ]
                    refine wpAnyH_take (i := 2) (oi := ({ dst := some 86, op := Go.Op.move (Go.Operand.tmp 13), type := 3, pos := _, after := #[], guard := none } : Oper)) (v := ?_) rfl (by kernel_rfl) (by kernel_rfl) (by kernel_rfl) (fun _ _ _ h => h) (Or.inl ⟨by rfl, ?_⟩) (by assumption) ?_
                    rotate_left
                    · intro W' hSw
                      try dsimp only at hSw
                      go_simp
                      try with_reducible rfl
                    try simp only [Act.put, List.setIfInBounds_toArray, List.set_cons_zero, List.set_cons_succ]
                    refine wpAnyH_take (i := 3) (oi := ({ dst := some 87, op := Go.Op.indexAddr 23 (Go.Operand.tmp 85) (Go.Operand.tmp 86), type := 0, pos := _, after := #[{ on := 1, ground := Go.Ground.data }, { on := 2, ground := Go.Ground.data }], guard := none } : Oper)) (v := ?_) rfl (by kernel_rfl) (by kernel_rfl) (by kernel_rfl) (fun _ _ _ h => h) (Or.inl ⟨by rfl, ?_⟩) (by assumption) ?_
                    rotate_left
                    · intro W' hSw
                      try dsimp only at hSw
                      go_simp
                      try with_reducible rfl
                    try simp only [Act.put, List.setIfInBounds_toArray, List.set_cons_zero, List.set_cons_succ]
                    refine wpAnyH_take (i := 4) (oi := ({ dst := some 88, op := Go.Op.fieldAddr 39 (Go.Operand.tmp 87) 0, type := 0, pos := _, after := #[{ on := 3, ground := Go.Ground.data }], guard := none } : Oper)) (v := ?_) rfl (by kernel_rfl) (by kernel_rfl) (by kernel_rfl) (fun _ _ _ h => h) (Or.inl ⟨by rfl, ?_⟩) (by assumption) ?_
                    rotate_left
                    · intro W' hSw
                      try dsimp only at hSw
                      go_simp
                      try with_reducible rfl
                    try simp only [Act.put, List.setIfInBounds_toArray, List.set_cons_zero, List.set_cons_succ]
                    refine wpAnyH_take (i := 5) (oi := ({ dst := some 89, op := Go.Op.load 9 (Go.Operand.tmp 88), type := 9, pos := _, after := #[{ on := 4, ground := Go.Ground.data }], guard := none } : Oper)) (v := ?_) rfl (by kernel_rfl) (by kernel_rfl) (by kernel_rfl) (fun _ _ _ h => h) (Or.inl ⟨by rfl, ?_⟩) (by assumption) ?_
                    rotate_left
                    · intro W' hSw
                      try dsimp only at hSw
                      have hs := hSw.2
                      go_simp
                      try with_reducible rfl
                    try simp only [Act.put, List.setIfInBounds_toArray, List.set_cons_zero, List.set_cons_succ]
                    refine wpAnyH_ready (rs := [6]) (by kernel_rfl) (by simp) ?_
                    refine AllReadyH.cons (o := ({ dst := some 90, op := Go.Op.call { callee := Go.Callee.value (Go.Operand.func 29), args := #[Go.Operand.tmp 84, Go.Operand.tmp 89], argTypes := #[22, 9] }, type := 60, pos := _, after := #[{ on := 0, ground := Go.Ground.data }, { on := 5, ground := Go.Ground.data }], guard := none } : Oper)) rfl (fun K hK => ?_) AllReadyH.nil
                    go_simp
                    refine (HTWO.out _).mono ?_
                    rintro e w9 ⟨rfl, hb9⟩
                    go_wp2_with fail
                    refine hK.out _ _ ?_ (fun hHeld => ?_)
                    · exact ⟨hHeld.1.below hb9, by rw [hb9.cell (p := ⟨b, off + x * 2, none⟩) (World.block_lt_of_cell? _ _ hHeld.2)]; exact hHeld.2⟩
                    clear hK K
                    try simp only [Act.put, List.setIfInBounds_toArray, List.set_cons_zero, List.set_cons_succ]
                    have HB9 := Lib.hid (undrew hb9)
                    clear hb9
                    refine wpAnyH_take (i := 7) (oi := ({ dst := some 83, op := Go.Op.move (Go.Operand.tmp 90), type := 60, pos := _, after := #[{ on := 6, ground := Go.Ground.data }], guard := none } : Oper)) (v := ?_) rfl (by kernel_rfl) (by kernel_rfl) (by kernel_rfl) (fun _ _ _ h => h) (Or.inl ⟨by rfl, ?_⟩) (by assumption) ?_
                    rotate_left
                    · intro W' hSw
                      try dsimp only at hSw
                      go_simp
                      try with_reducible rfl
                    try simp only [Act.put, List.setIfInBounds_toArray, List.set_cons_zero, List.set_cons_succ]
                    refine wpAnyH_take (i := 8) (oi := ({ dst := some 91, op := Go.Op.extract (Go.Operand.tmp 83) 0, type := 41, pos := _, after := #[{ on := 7, ground := Go.Ground.data }], guard := none } : Oper)) (v := ?_) rfl (by kernel_rfl) (by kernel_rfl) (by kernel_rfl) (fun _ _ _ h => h) (Or.inl ⟨by rfl, ?_⟩) (by assumption) ?_
                    rotate_left
                    · intro W' hSw
                      try dsimp only at hSw
                      go_simp
                      try with_reducible rfl
                    try simp only [Act.put, List.setIfInBounds_toArray, List.set_cons_zero, List.set_cons_succ]
                    refine wpAnyH_take (i := 9) (oi := ({ dst := some 92, op := Go.Op.extract (Go.Operand.tmp 83) 1, type := 41, pos := _, after := #[{ on := 7, ground := Go.Ground.data }, { on := 10, ground := Go.Ground.gcOnly Go.Departure.lateStores }], guard := none } : Oper)) (v := ?_) rfl (by kernel_rfl) (by kernel_rfl) (by kernel_rfl) (fun _ _ _ h => h) (Or.inl ⟨by rfl, ?_⟩) (by assumption) ?_
                    rotate_left
                    · intro W' hSw
                      try dsimp only at hSw
                      go_simp
                      try with_reducible rfl
                    try simp only [Act.put, List.setIfInBounds_toArray, List.set_cons_zero, List.set_cons_succ]
                    refine wpAnyH_take (i := 10) (oi := ({ dst := some 14, op := Go.Op.assign (Go.Operand.tmp 91), type := 41, pos := _, after := #[{ on := 8, ground := Go.Ground.data }, { on := 6, ground := Go.Ground.chain }, { on := 0, ground := Go.Ground.phase }, { on := 1, ground := Go.Ground.phase }, { on := 2, ground := Go.Ground.phase }, { on := 3, ground := Go.Ground.phase }, { on := 4, ground := Go.Ground.phase }, { on := 5, ground := Go.Ground.phase }, { on := 6, ground := Go.Ground.phase }, { on := 7, ground := Go.Ground.phase }, { on := 8, ground := Go.Ground.phase }, { on := 9, ground := Go.Ground.textOnly Go.Departure.lateStores }], guard := none } : Oper)) (v := ?_) rfl (by kernel_rfl) (by kernel_rfl) (by kernel_rfl) (fun _ _ _ h => h) (Or.inl ⟨by rfl, ?_⟩) (by assumption) ?_
                    rotate_left
                    · intro W' hSw
                      try dsimp only at hSw
                      go_simp
                      try with_reducible rfl
                    try simp only [Act.put, List.setIfInBounds_toArray, List.set_cons_zero, List.set_cons_succ]
                    refine wpAnyH_take (i := 11) (oi := ({ dst := some 15, op := Go.Op.assign (Go.Operand.tmp 92), type := 41, pos := _, after := #[{ on := 9, ground := Go.Ground.data }, { on := 10, ground := Go.Ground.chain }, { on := 0, ground := Go.Ground.phase }, { on := 1, ground := Go.Ground.phase }, { on := 2, ground := Go.Ground.phase }, { on := 3, ground := Go.Ground.phase }, { on := 4, ground := Go.Ground.phase }, { on := 5, ground := Go.Ground.phase }, { on := 6, ground := Go.Ground.phase }, { on := 7, ground := Go.Ground.phase }, { on := 8, ground := Go.Ground.phase }, { on := 9, ground := Go.Ground.phase }, { on := 10, ground := Go.Ground.phase }], guard := none } : Oper)) (v := ?_) rfl (by kernel_rfl) (by kernel_rfl) (by kernel_rfl) (fun _ _ _ h => h) (Or.inl ⟨by rfl, ?_⟩) (by assumption) ?_
                    rotate_left
                    · intro W' hSw
                      try dsimp only at hSw
                      go_simp
                      try with_reducible rfl
                    try simp only [Act.put, List.setIfInBounds_toArray, List.set_cons_zero, List.set_cons_succ]
                    refine wpAnyH_done (by kernel_rfl) ?_ _

                    have hq9 := HQ2.out.below (undrew HB9.out)
                    have HQ9 := Lib.hid hq9
                    have hhas := has_any (c := 251) hq9.2.2.2.1 HPLEN.out hxa64 hxb64
                    have hpbl := hq9.2.2.2.1.1
                    by_cases hf : 0 < frs (pls t (sds k l o) m)
                    · obtain ⟨jj, hjj⟩ := seat_has (a := xa) (b := xb) HPLEN.out hf
                      obtain ⟨hfree, hj251⟩ := seat_free hjj
                      obtain ⟨p, hp⟩ : ∃ p, wk xa xb jj = p := ⟨_, rfl⟩
                      have hp251 : p < 251 := by rw [← hp]; exact wk_lt _ _ _
                      rw [hp] at hfree
                      rw [hasV, hjj] at hhas
                      simp only [hp] at hhas
                      have hfill : pls t (sds k l o) (m + 1) = (pls t (sds k l o) m).set p (some i) := by
                        rw [HVIS.out.2 hca.out, fill, hjj]; simp only [hp]
                      have hcnt := (count_set (r := i) hfree).1
                      rw [← hfill] at hcnt
                      obtain ⟨y, hy, _, _⟩ := lab_fre o (pls t (sds k l o) m) (p := p) (by rw [HPLEN.out]; exact hp251)
                      obtain ⟨d1, d2⟩ := ar_vals hq9.2.2.2.1 hy
                      have HHAS := Lib.hid hhas
                      have HFILL := Lib.hid hfill
                      have HCNT := Lib.hid hcnt
                      have HPP := Lib.hid (hq9.setp (by omega) (by omega) (by omega) (p := p) (by rw [HPLEN.out]; exact hp251) i)
                      have hpz : (p : Int) < 251 := by omega
                      have hp0 : (0 : Int) ≤ (p : Int) := by omega
                      have HFP := Lib.hid hf
                      have hFle := HFLE.out
                      have hF251 : frs (pls t (sds k l o) m) ≤ 251 := by rw [← HPLEN.out]; exact List.countP_le_length
                      generalize hFF : frs (pls t (sds k l o) m) = F at HCNT HFP hFle hF251 ⊢
                      have wr4 : IntKind.i64.wrap ((F : Int) - 1) = (F : Int) - 1 := by rw [IntKind.wrap_i64]; omega
                      clear hhas hfill hcnt hjj hfree hp hy hq9 hf hFF
                      go_wp2_with (go_at_call 30; refine HHAS.out.mono ?_; rintro e w10 ⟨rfl, rfl⟩)
                      go_roundg (q - (i + 1))
                      case measure => omega
                      case rel =>
                        have hc := HCNT.out
                        have hF := HFP.out
                        refine Lib.hid ⟨i + 1, m + 1, cs.set x (cr2 : Int), by omega, by go_num, fun h => by rw [HNX.out, if_neg (by omega)], fun h => by rw [HNX.out, if_pos h], by congr 1; omega, by omega, fun h => by omega, ?_, by rw [List.length_set]; exact HCL.out, HCRED.out⟩
                        have := HPP.out
                        rw [← HFILL.out, HX.out] at this
                        exact this
                    · have hz : frs (pls t (sds k l o) m) = 0 := by omega
                      rw [hasV, seat_full hz] at hhas
                      have HPL := Lib.hid (show pls t (sds k l o) (m + 1) = pls t (sds k l o) m by rw [HVIS.out.2 hca.out, fill_full _ hz])
                      have HHAS := Lib.hid hhas
                      have HZ := Lib.hid hz
                      clear hhas hz hq9 hf
                      go_wp2_with (go_at_call 30; refine HHAS.out.mono ?_; rintro e w10 ⟨rfl, rfl⟩)
                      go_roundg (q - (i + 1))
                      case measure => omega
                      case rel =>
                        refine Lib.hid ⟨i + 1, m + 1, cs.set x (cr2 : Int), by omega, by go_num, fun h => by rw [HNX.out, if_neg (by omega)], fun h => by rw [HNX.out, if_pos h], by rw [HPL.out], by rw [HPL.out]; exact HFLE.out, fun h => by rw [HPL.out, HZ.out]; exact hfr, ?_, by rw [List.length_set]; exact HCL.out, HCRED.out⟩
                        rw [HPL.out]; exact HQ9.out
                  · have hgz : ¬ (t : Int) ≤ (cr : Int) + (ww : Int) := by omega
                    have hcr2 : Hid ((cr2 : Int) = (cr : Int) + (ww : Int)) := Lib.hid (by have := HSTEP.out; rw [if_neg hge] at this; omega)
                    have hca : Hid (came t (sds k l o) (stp (sds k l o).length m) = false) := Lib.hid (by rw [HCAME.out, decide_eq_false hge])
                    have hpl : Hid (pls t (sds k l o) (m + 1) = pls t (sds k l o) m) := Lib.hid (HVIS.out.1 hca.out)
                    have hiT : Hid (i ≠ T) := Lib.hid (fun e => hge (by have := HTP.out e; omega))
                    go_wp2
                    go_roundg (q - (i + 1))
                    case measure => omega
                    case rel =>
                      refine Lib.hid ⟨i + 1, m + 1, cs.set x (cr2 : Int), by omega, by go_num, fun h => by rw [HNX.out, if_neg (by omega)], fun h => by rw [HNX.out, if_pos h], by rw [hpl.out], by rw [hpl.out]; exact HFLE.out, fun h => by rw [hpl.out]; exact HFLT.out (by have := hiT.out; omega), ?_, by rw [List.length_set]; exact HCL.out, HCRED.out⟩
                      rw [hpl.out, hcr2.out]
                      exact HQ1.out.below (Below.refl _ _).drew
                · have hltz : ¬ (i : Int) < (q : Int) := by omega
                  obtain rfl : i = q := by omega
                  have hd := hflt (by have := HG.out.top.1; have := HG.out.len; have := HN.out; omega)
                  have HM0 := Lib.hid (hm0 rfl)
                  have HD := Lib.hid hd
                  have HQ0 := Lib.hid hQ
                  have HCL := Lib.hid hcl
                  have HCR := Lib.hid hcr
                  clear hmi hm0 hfle hflt hQ hcl hcr hd
                  go_wp2
                  go_roundg (f0 - 1)
                  case measure => omega
                  case rel => exact Lib.hid ⟨m, cs, HM0.out, rfl, by have := HD.out; omega, HQ0.out, HCL.out, HCR.out⟩
            · have hfz : ¬ (0 : Int) < (f0 : Int) := by omega
              have HQ0 := Lib.hid hQ
              have HF0 := Lib.hid hf0
              clear hm0 hQ hcl hcr hf0 hgg
              go_wp2
              go_ret
              exact ⟨w.heap.size + 1, 251, pls t (sds k l o) m, ⟨m, rfl, by have := HF0.out; omega⟩, rfl, Nat.le_refl _, HQ0.out.2.2.2.1, HQ0.out.1⟩

end Go.Proofs.Ytpkahjflhboddaa
