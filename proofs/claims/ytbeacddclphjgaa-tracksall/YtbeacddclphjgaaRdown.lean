/-
  The document's Down.
-/
import Derived.Test.YtbeacddclphjgaaRbase
import Derived.Test.YtbeacddclphjgaaCmpS
import Derived.Lib.AppendZeros
namespace Go.Proofs.Ytbeacddclphjgaa
open Go.RowKit Go.Maps
set_option linter.unusedVariables false
set_option linter.unusedSimpArgs false
set_option maxRecDepth 10000

theorem append_nm {w : World} {b : Nat} {o : Value} {O : List ByteArray} {x : ByteArray} (ho : w.ownsRow b 9 1 o O.length (ncells O)) (hb : b ≤ w.heap.size) (hl : O.length ≤ 1000) :
    ∃ v' w', (Builtin.append_ #[48, 48] 48 #[o, .slice (some ⟨w.heap.size, 0, none⟩) 1 1]).run Try.prog (w.alloc (.cells #[.string x] 9)) = .ok v' w' ∧ w'.ownsRow b 9 1 v' (O ++ [x]).length (ncells (O ++ [x])) ∧ Below b w w' := by
  have hb2 : Below w.heap.size w (w.alloc (.cells #[.string x] 9)) := below_alloc (Below.refl _ _) _
  obtain ⟨i0, hi, hz0, hz1, hz2⟩ := info_parts info9
  obtain ⟨v', w', hr, h2, h3, _, h5⟩ := run_append_own_at (P := Try.prog) (w.alloc (.cells #[.string x] 9)) b 48 48 9 i0 _ 1 16 Try.underlying48 hi hz0 hz1 hz2 rfl (by decide) o O.length _ (row_below ho hb2) ⟨w.heap.size, 0, none⟩ 1 1 [.string x] rfl (cell_one_new _ _ _) (by simp [Value.oneCell']) (by simp only [maxLen]; omega) (by omega) (Nat.le_trans hb hb2.size)
  refine ⟨v', w', hr, ?_, ?_⟩
  · rw [List.length_append, ncells, List.map_append]; exact h2
  · exact (hb2.mono hb).trans (Only.below (F := fun i => o.ownBlock = some i) (Only.of_grown h3 fun i hi => hi) (Nat.le_trans hb hb2.size) fun i hi => (ho.lt i hi).1)

/-- How far a name has been brought among rising ones. -/
def Part8 (x : ByteArray) (out nx : List ByteArray) (k : Nat) (d : Bool) : Prop :=
  (d = false ∧ nx = out.take k ∧ ∀ z ∈ out.take k, lt8 x z = false) ∨ (d = true ∧ nx ++ out.drop k = insN x out)
theorem split_at {out : List ByteArray} {k : Nat} (hk : k < out.length) : out = out.take k ++ out[k]! :: out.drop (k + 1) := by
  have h1 : out.drop k = out[k]! :: out.drop (k + 1) := by rw [getElem!_pos out k hk]; exact List.drop_eq_getElem_cons hk
  rw [← h1, List.take_append_drop]
theorem take_nx {out : List ByteArray} {k : Nat} (hk : k < out.length) : out.take (k + 1) = out.take k ++ [out[k]!] := by
  rw [List.take_add_one, List.getElem?_eq_getElem hk, getElem!_pos out k hk]; rfl
theorem Part8.pass {x : ByteArray} {out nx : List ByteArray} {k : Nat} (h : Part8 x out nx k false) (hk : k < out.length) (hl : lt8 x out[k]! = false) : Part8 x out (nx ++ [out[k]!]) (k + 1) false := by
  obtain ⟨-, h1, h2⟩ | ⟨h1, _⟩ := h
  · refine .inl ⟨rfl, by rw [h1, take_nx hk], fun z hz => ?_⟩
    rw [take_nx hk] at hz
    rcases List.mem_append.1 hz with hz | hz
    · exact h2 z hz
    · rw [List.mem_singleton.1 hz]; exact hl
  · cases h1
theorem Part8.lay {x : ByteArray} {out nx : List ByteArray} {k : Nat} (h : Part8 x out nx k false) (hk : k < out.length) (hl : lt8 x out[k]! = true) : Part8 x out ((nx ++ [x]) ++ [out[k]!]) (k + 1) true := by
  obtain ⟨-, h1, h2⟩ | ⟨h1, _⟩ := h
  · refine .inr ⟨rfl, ?_⟩
    have e := insN_at (r := out.drop (k + 1)) h2 hl
    rw [← split_at hk] at e
    rw [e, h1]
    simp
  · cases h1
theorem Part8.on {x : ByteArray} {out nx : List ByteArray} {k : Nat} (h : Part8 x out nx k true) (hk : k < out.length) : Part8 x out (nx ++ [out[k]!]) (k + 1) true := by
  obtain ⟨h1, _⟩ | ⟨-, h1⟩ := h
  · cases h1
  · refine .inr ⟨rfl, ?_⟩
    rw [← h1]
    have h3 : out.drop k = out[k]! :: out.drop (k + 1) := by rw [getElem!_pos out k hk]; exact List.drop_eq_getElem_cons hk
    rw [h3]
    simp
theorem Part8.done_no {x : ByteArray} {out nx : List ByteArray} (h : Part8 x out nx out.length false) : nx ++ [x] = insN x out := by
  obtain ⟨-, h1, h2⟩ | ⟨h1, _⟩ := h
  · rw [List.take_of_length_le (Nat.le_refl _)] at h1 h2
    rw [insN_end h2, h1]
  · cases h1
theorem Part8.done_yes {x : ByteArray} {out nx : List ByteArray} (h : Part8 x out nx out.length true) : nx = insN x out := by
  obtain ⟨h1, _⟩ | ⟨-, h1⟩ := h
  · cases h1
  · rw [← h1]; simp

def RdRel (w : World) (l : List Bk) (f : Nat → Bool) (n gg : Nat) (s3 s4 : Value) (wr : World) : Prop :=
  ∃ i : Nat, i + gg = n ∧ s4 = .int .i64 i ∧ wr.ownsRow w.heap.size 9 1 s3 (dn (updN l f i)).length (ncells (dn (updN l f i))) ∧ Below w.heap.size w wr
def ReRel (wv : World) (x : ByteArray) (out : List ByteArray) (m gg : Nat) (s5 s6 s7 : Value) (wr : World) : Prop :=
  ∃ (k : Nat) (nx : List ByteArray) (d : Bool), k + gg = m ∧ s7 = .int .i64 k ∧ s6 = .bool d ∧ Part8 x out nx k d ∧ wr.ownsRow wv.heap.size 9 1 s5 nx.length (ncells nx) ∧ nx.length ≤ k + 1 ∧ Below wv.heap.size wv wr

set_option maxHeartbeats 8000000 in
theorem rdown_any {w : World} {b : Int} {a : Option Addr} {n c : Nat} {v : Value} {l : List Bk} {ups : List Bool} (h : Rs w a n c v l ups) (hR : Right l) :
    Calls Try.prog 21 #[rsv b a n c v] w fun e w' => ∃ v, e = .returned v ∧ Nms w' w.heap.size v (dn (UT l ups)) ∧ Below w.heap.size w w' := by
  obtain ⟨ua, uc, rfl, -, -⟩ := row_any h.row
  have HC := Lib.hid (Cb.new3 w (.int .i64 b) (.slice a n c) (.slice ua n uc) 32)
  have HB0 := Lib.hid (below_alloc (Below.refl w.heap.size w) (.cells #[.int .i64 b, .slice a n c, .slice ua n uc] 32))
  have H := Lib.hid h
  have HR := Lib.hid hR
  have hnl := h.bk.1
  have hn8 : n ≤ 8 := by rw [hnl]; exact hR.1
  obtain ⟨f, hf⟩ : ∃ f : Nat → Bool, f = fun i => ups[i]! := ⟨_, rfl⟩
  have HP : Hid (dn (UT l ups) = dn (updN l f n)) := Lib.hid (by unfold UT; rw [← updN_all, hf, ← hnl])
  have HN := Lib.hid hnl
  have HF := Lib.hid hf
  have HDL : Hid (∀ k, k ≤ n → (dn (updN l f k)).length ≤ k) := Lib.hid (fun k _ => by
    rw [dn_len]
    exact Nat.le_trans List.countP_le_length (by simp [updN]))
  unfold rsv
  clear h hR hnl hf
  go_enter Try.func21, Try.ntmps21
  go_wp2
  obtain ⟨w0, hw0⟩ : ∃ X, X = w.alloc (.cells #[.int .i64 b, .slice a n c, .slice ua n uc] 32) := ⟨_, rfl⟩
  have hsz0 : w0.heap.size = w.heap.size + 1 := by rw [hw0]; simp
  rw [← hw0] at HC HB0 ⊢
  clear hw0
  go_loopg [3, 4, 5, 6, 7] n (fun gg s3 s4 _ _ _ wr => Hid (RdRel w0 l f n gg s3 s4 wr))
  case atStart => exact Lib.hid ⟨0, by omega, rfl, World.ownsRow_nil _ _ _ _, Below.refl _ _⟩
  case round =>
    obtain ⟨i, hi, rfl, hrow, hbl⟩ := hrel.out
    clear hrel
    obtain ⟨d0, d1, d2⟩ := (HC.out.below hbl).three
    by_cases hin : i < n
    · have hiz : (i : Int) < (n : Int) := by omega
      have hr := (H.out.below HB0.out).below hbl
      obtain ⟨g, off, rfl, hgl, c0, -⟩ := bk_at hr.bk hin
      have hurow := hr.row
      obtain ⟨g2, c2, e, _⟩ := row_slice hurow (by omega)
      simp only [Value.slice.injEq, true_and] at e
      obtain ⟨rfl, rfl⟩ := e
      have u0 := urow_at hurow hin
      have hug := (hurow.lt g2 rfl).2
      have hfi : ups[i]! = f i := by rw [HF.out]
      rw [hfi] at u0
      have hdn := dn_next l f i
      have hdl := HDL.out i (by omega)
      generalize (l[i]!).name = x at c0 hdn
      generalize f i = u at u0 hdn
      obtain ⟨out, hout⟩ : ∃ out, dn (updN l f i) = out := ⟨_, rfl⟩
      rw [hout] at hrow hdn hdl
      obtain ⟨m, hm⟩ : ∃ m, out.length = m := ⟨_, rfl⟩
      rw [hm] at hrow hdl
      obtain ⟨oa, oc, rfl, hoc, -⟩ := row_any hrow
      have HBL := Lib.hid hbl
      have HROW := Lib.hid hrow
      have HM := Lib.hid hm
      have hszr : w.heap.size < wr.heap.size := by have := hbl.size; omega
      cases u with
      | true =>
        rw [if_pos rfl] at hdn
        have HDN := Lib.hid hdn
        clear hr hurow hrow hbl hout hm hdn hfi
        go_wp2
        go_roundg (n - (i + 1))
        case measure => omega
        case rel => exact Lib.hid ⟨i + 1, by omega, by go_num, by rw [HDN.out, HM.out]; exact HROW.out, HBL.out⟩
      | false =>
        rw [if_neg (by simp)] at hdn
        have HDN := Lib.hid hdn
        have HCV := Lib.hid (HC.out.below hbl)
        obtain ⟨wv, hwv⟩ : ∃ W, W = wr := ⟨_, rfl⟩
        rw [← hwv] at HBL HROW c0 u0 d0 d1 d2 hgl hug hszr HCV ⊢
        clear hr hurow hrow hbl hout hm hdn hfi hwv
        go_wp2
        go_loopg [5, 6, 7] m (fun gg s5 s6 s7 wr => Hid (ReRel wv x out m gg s5 s6 s7 wr))
        case atStart => exact Lib.hid ⟨0, [], false, by omega, rfl, rfl, .inl ⟨rfl, by simp, fun z hz => by simp at hz⟩, World.ownsRow_nil _ _ _ _, by simp, Below.refl _ _⟩
        case round =>
          obtain ⟨k, nx, d, hk, rfl, rfl, hp8, hnr, hnl, hb3⟩ := hrel.out
          clear hrel
          obtain ⟨y0, y1, y2⟩ := (HCV.out.below hb3).three
          by_cases hkm : k < m
          · have hkz : (k : Int) < (m : Int) := by omega
            have hor := row_below HROW.out hb3
            obtain ⟨g4, c4, e, _⟩ := row_slice hor (by omega)
            simp only [Value.slice.injEq, true_and] at e
            obtain ⟨rfl, rfl⟩ := e
            have o0 := nrow_at hor hkm
            have ogl := (hor.lt g4 rfl).2
            have x0 := (hb3.cell (p := ⟨g, off + i * 2, none⟩) hgl).trans c0
            have hko : k < out.length := by rw [HM.out]; exact hkm
            have hbs := hb3.size
            cases d with
            | false =>
              cases hlt : lt8 x out[k]! with
              | false =>
                have HP8 := Lib.hid (hp8.pass hko hlt)
                have hgt := fun w => gtr_str (x := out[k]!) (y := x) false hlt w
                generalize out[k]! = ok at o0 HP8 hgt
                have HNR := Lib.hid hnr
                have HB3 := Lib.hid hb3
                clear hor hp8 hnr hb3 hlt hko
                go_wp2
                go_quiet (fail)
                obtain ⟨a5, c5, rfl, -, -⟩ := row_any HNR.out
                obtain ⟨v6, w6, happ, hown, hb6⟩ := append_nm (w := wr.drewN nq) (x := ok) HNR.out hbs (by omega)
                have HRUN := Lib.hid happ
                have HOWN := Lib.hid (And.intro hown ((below_drewN HB3.out nq).trans hb6))
                clear happ hown hb6
                go_wp2_with (at_builtin; refine Lib.wpList_append_run _ rfl _ _ _ _ rfl _ _ rfl rfl _ _ HRUN.out ?_)
                go_roundg (m - (k + 1))
                case measure => omega
                case rel => exact Lib.hid ⟨k + 1, _, false, by omega, by go_num, rfl, HP8.out, HOWN.out.1, by simp; omega, HOWN.out.2⟩
              | true =>
                have HP8 := Lib.hid (hp8.lay hko hlt)
                have hnk : nx.length ≤ k := by
                  obtain ⟨-, h1, _⟩ | ⟨h1, _⟩ := hp8
                  · rw [h1, List.length_take]; exact Nat.min_le_left _ _
                  · cases h1
                have hgt := fun w => gtr_str (x := out[k]!) (y := x) true hlt w
                obtain ⟨ok, hok⟩ : ∃ ok, out[k]! = ok := ⟨_, rfl⟩
                rw [hok] at o0 HP8 hgt
                have HOKE := Lib.hid hok
                have HNR := Lib.hid hnr
                have HB3 := Lib.hid hb3
                clear hor hp8 hnr hb3 hlt hko hok
                go_wp2
                go_quiet (fail)
                obtain ⟨a5, c5, rfl, -, -⟩ := row_any HNR.out
                obtain ⟨v6, w6, happ, hown, hb6⟩ := append_nm (w := wr.drewN nq) (x := x) HNR.out hbs (by omega)
                have hb36 : Below wv.heap.size wv w6 := (below_drewN HB3.out nq).trans hb6
                obtain ⟨a6, c6, rfl, -, -⟩ := row_any hown
                obtain ⟨v7, w7, happ2, hown2, hb7⟩ := append_nm (w := w6) (x := ok) hown hb36.size (by simp; omega)
                have o6 := nrow_at (row_below HROW.out hb36) hkm
                rw [HOKE.out] at o6
                have HRUN := Lib.hid happ
                have HRUN2 := Lib.hid happ2
                have HOWN := Lib.hid (And.intro hown2 (hb36.trans hb7))
                obtain ⟨nl, hnlx⟩ : ∃ nl, (nx ++ [x]).length = nl := ⟨_, rfl⟩
                rw [hnlx] at HRUN HRUN2
                clear happ happ2 hown hown2 hb6 hb7 hb36 hnlx
                go_wp2_with (at_builtin; first | refine Lib.wpList_append_run _ rfl _ _ _ _ rfl _ _ rfl rfl _ _ HRUN.out ?_ | refine Lib.wpList_append_run _ rfl _ _ _ _ rfl _ _ rfl rfl _ _ HRUN2.out ?_)
                go_roundg (m - (k + 1))
                case measure => omega
                case rel => exact Lib.hid ⟨k + 1, _, true, by omega, by go_num, rfl, HP8.out, HOWN.out.1, by simp; omega, HOWN.out.2⟩
            | true =>
              have HP8 := Lib.hid (hp8.on hko)
              generalize out[k]! = ok at o0 HP8
              have HNR := Lib.hid hnr
              have HB3 := Lib.hid hb3
              clear hor hp8 hnr hb3 hko
              go_wp2
              go_quiet (fail)
              obtain ⟨a5, c5, rfl, -, -⟩ := row_any HNR.out
              obtain ⟨v6, w6, happ, hown, hb6⟩ := append_nm (w := wr.drewN nq) (x := ok) HNR.out hbs (by omega)
              have HRUN := Lib.hid happ
              have HOWN := Lib.hid (And.intro hown ((below_drewN HB3.out nq).trans hb6))
              clear happ hown hb6
              go_wp2_with (at_builtin; refine Lib.wpList_append_run _ rfl _ _ _ _ rfl _ _ rfl rfl _ _ HRUN.out ?_)
              go_roundg (m - (k + 1))
              case measure => omega
              case rel => exact Lib.hid ⟨k + 1, _, true, by omega, by go_num, rfl, HP8.out, HOWN.out.1, by simp; omega, HOWN.out.2⟩
          · have hkz : ¬ (k : Int) < (m : Int) := by omega
            have hkm2 : k = out.length := by have := HM.out; omega
            subst hkm2
            have x0 := (hb3.cell (p := ⟨g, off + i * 2, none⟩) hgl).trans c0
            have hbs := hb3.size
            have HNR := Lib.hid hnr
            have HB3 := Lib.hid hb3
            cases d with
            | false =>
              have HE := Lib.hid hp8.done_no
              obtain ⟨a5, c5, rfl, -, -⟩ := row_any hnr
              obtain ⟨v6, w6, happ, hown, hb6⟩ := append_nm (w := wr) (x := x) hnr hbs (by have := HM.out; omega)
              have HRUN := Lib.hid happ
              have HOWN := Lib.hid (And.intro hown (hb3.trans hb6))
              clear hp8 hnr hb3 happ hown hb6
              go_wp2_with (at_builtin; refine Lib.wpList_append_run _ rfl _ _ _ _ rfl _ _ rfl rfl _ _ HRUN.out ?_)
              go_roundg (n - (i + 1))
              case measure => omega
              case rel => exact Lib.hid ⟨i + 1, by omega, by go_num, by rw [HDN.out, ← HE.out]; exact row_base HOWN.out.1 HBL.out.size, HBL.out.trans (HOWN.out.2.mono HBL.out.size)⟩
            | true =>
              have HE := Lib.hid hp8.done_yes
              clear hp8 hnr hb3
              go_wp2
              go_roundg (n - (i + 1))
              case measure => omega
              case rel => exact Lib.hid ⟨i + 1, by omega, by go_num, by rw [HDN.out, ← HE.out]; exact row_base HNR.out HBL.out.size, HBL.out.trans (HB3.out.mono HBL.out.size)⟩
    · have hiz : ¬ (i : Int) < (n : Int) := by omega
      obtain rfl : i = n := by omega
      have HROW := Lib.hid hrow
      have HB := Lib.hid hbl
      clear hrow hbl
      go_wp2
      go_ret
      exact ⟨_, rfl, by unfold Nms; rw [HP.out]; exact row_base HROW.out (by omega), HB0.out.trans (HB.out.mono HB0.out.size)⟩
end Go.Proofs.Ytbeacddclphjgaa
