/-
  The reference: Find, Get, Without, With, Open, Put.
-/
import Derived.Test.YtondjponengedaaSame
import Derived.Test.YtondjponengedaaRsmall
import Derived.Test.YtondjponengedaaDoes0
namespace Go.Proofs.Ytondjponengedaa
open Go.RowKit
set_option linter.unusedVariables false
set_option linter.unusedSimpArgs false
set_option maxRecDepth 10000
attribute [local go_sem ↓] flow_eq bigS42

/-- A row of entries, wherever it lies. -/
def Rf (w : World) (v : Value) (L : List En) : Prop := w.ownsRow 0 42 8 v L.length (ecells L)
theorem Rf.below {w w' : World} {v : Value} {L : List En} (h : Rf w v L) (hb : Below w.heap.size w w') : Rf w' v L := row_below h hb

theorem getF_take {L : List En} {f : Fl} {i : Nat} (hi : i < L.length) (h : getF (L.take i) f = none) :
    ((L[i]!).fl = f → getF L f = some L[i]!) ∧ ((L[i]!).fl ≠ f → getF (L.take (i + 1)) f = none) := by
  constructor
  · intro he
    have e : L = L.take i ++ L[i] :: L.drop (i + 1) := by simp
    rw [getElem!_pos L i hi] at he ⊢
    unfold getF at h ⊢
    have : L.find? (fun e => decide (e.fl = f)) = (L.take i ++ L[i] :: L.drop (i + 1)).find? (fun e => decide (e.fl = f)) := congrArg _ e
    rw [this, List.find?_append, h, Option.none_or, List.find?_cons_of_pos (by simpa using he)]
  · intro he
    rw [List.take_add_one, List.getElem?_eq_getElem hi, getElem!_pos L i hi] at *
    unfold getF at h ⊢
    rw [List.find?_append, h]
    simp [he]

def FdRel (w0 : World) (L : List En) (f : Fl) (n gg : Nat) (s5 : Value) (wr : World) : Prop :=
  ∃ i q : Nat, i + gg = n ∧ s5 = .int .i64 i ∧ wr = w0.drewN q ∧ getF (L.take i) f = none

set_option maxHeartbeats 2000000 in
theorem rfind_any' {w : World} {L : List En} {a : Option Addr} {n c : Nat} (h : w.ownsRow 0 42 8 (.slice a n c) n (ecells L)) (hl : L.length = n) (hn : n ≤ 1000) (f : Fl) :
    Calls Try.prog 37 #[.slice a n c, fv f] w fun e w' => ∃ r : Int, e = .returned (.int .i64 r) ∧ decide (r < 0) = !(getF L f).isSome ∧ (∀ x, getF L f = some x → ∃ i : Nat, r = (i : Int) ∧ i < n ∧ L[i]! = x) ∧ Below w.heap.size w w' := by
  have hb0 : Below w.heap.size w (w.alloc (.cells (fcs f).toArray 37)) := below_alloc (Below.refl _ _) _
  have HR := Lib.hid (row_below h hb0)
  have HB0 := Lib.hid hb0
  have hbx := Bx.new w (fcs f) 37
  have HL := Lib.hid hl
  have HBX := Lib.hid hbx
  obtain ⟨p, ff, t, o, d⟩ := f
  simp only [fv, fcs] at HR HB0 HBX ⊢
  clear h hb0 hl hbx
  go_enter Try.func37, Try.ntmps37
  go_wp2
  generalize hW : w.alloc (.cells #[.int .i64 p, .string ff, .string t, .int .i64 o, .int .i64 d] 37) = W at *
  go_loopg [5] n (fun gg s5 wr => FdRel W L ⟨p, ff, t, o, d⟩ n gg s5 wr)
  case atStart => exact ⟨0, 0, by omega, rfl, rfl, rfl⟩
  case round =>
    obtain ⟨i, q, hi, rfl, rfl, hno⟩ := hrel
    by_cases hlt : i < n
    · have hltz : (i : Int) < (n : Int) := by omega
      obtain ⟨g, c', e, _⟩ := row_slice HR.out (by omega)
      simp only [Value.slice.injEq, true_and] at e
      obtain ⟨rfl, rfl⟩ := e
      obtain ⟨d0, d1, d2, d3, d4, d5, d6, d7⟩ := erow_at HR.out hlt
      obtain ⟨hy, hnx⟩ := getF_take (by rw [HL.out]; exact hlt) hno
      have HX : ∀ x, L[i]! = x → Hid (L[i]! = x) := fun x h => Lib.hid h
      generalize hx : L[i]! = x at d0 d1 d2 d3 d4 d5 d6 d7 hy hnx
      replace hx := HX x hx
      clear HX hno
      have c0 := HBX.out.cell 0
      have c1 := HBX.out.cell 1
      have c2 := HBX.out.cell 2
      have c3 := HBX.out.cell 3
      have c4 := HBX.out.cell 4
      simp only [List.getElem?_cons_zero, List.getElem?_cons_succ] at c0 c1 c2 c3 c4
      obtain ⟨⟨x1, x2, x3, x4, x5⟩, x6, x7, x8⟩ := x
      simp only at d0 d1 d2 d3 d4 d5 d6 d7 hy hnx
      by_cases he : (⟨x1, x2, x3, x4, x5⟩ : Fl) = ⟨p, ff, t, o, d⟩
      · have hsm : sameF ⟨x1, x2, x3, x4, x5⟩ ⟨p, ff, t, o, d⟩ = true := decide_eq_true he
        have HY := Lib.hid (hy he)
        clear hy hnx he
        go_wp2
        go_quiet (fail)
        go_wp2
        go_ret
        refine ⟨_, rfl, ?_, fun z hz => ⟨i, rfl, hlt, ?_⟩, ?_⟩
        · rw [HY.out]; simp
        · rw [HY.out] at hz
          rw [hx.out]; exact Option.some.inj hz
        · exact below_drewN (below_drewN HB0.out _) _
      · have hsm : sameF ⟨x1, x2, x3, x4, x5⟩ ⟨p, ff, t, o, d⟩ = false := decide_eq_false he
        have HNX := Lib.hid (hnx he)
        clear hy hnx he
        go_wp2
        go_quiet (fail)
        go_wp2
        go_roundg (n - (i + 1))
        case measure => omega
        case rel => exact ⟨i + 1, q + nq, by omega, by go_num, by rw [← World.drewN_drewN], HNX.out⟩
    · obtain rfl : i = n := by omega
      rw [List.take_of_length_le (by rw [HL.out]; exact Nat.le_refl _)] at hno
      have HNO := Lib.hid hno
      clear hno
      go_wp2
      go_ret
      refine ⟨_, rfl, ?_, fun z hz => ?_, below_drewN HB0.out _⟩
      · rw [HNO.out]; simp
      · rw [HNO.out] at hz; simp at hz

theorem rfind_any {w : World} {L : List En} {v : Value} (h : Rf w v L) (hn : L.length ≤ 1000) (f : Fl) :
    Calls Try.prog 37 #[v, fv f] w fun e w' => ∃ r : Int, e = .returned (.int .i64 r) ∧ decide (r < 0) = !(getF L f).isSome ∧ (∀ x, getF L f = some x → ∃ i : Nat, r = (i : Int) ∧ i < L.length ∧ L[i]! = x) ∧ Below w.heap.size w w' := by
  unfold Rf at h
  obtain ⟨a, c, rfl, -, -⟩ := row_any h
  exact rfind_any' h rfl hn f

theorem Bx.thru {W W' : World} {b : Nat} {t : TypeId} {vs : List Value} (h : Bx W b t vs) (hb : Below W.heap.size W W') : Bx W' b t vs := h.below hb

set_option maxHeartbeats 2000000 in
theorem rget_any {w : World} {L : List En} {v : Value} (h : Rf w v L) (hn : L.length ≤ 1000) (f : Fl) :
    Calls Try.prog 17 #[v, fv f] w fun e w' => e = .returned (.tuple #[ev (gotE L f), .bool (getF L f).isSome]) ∧ Below w.heap.size w w' := by
  obtain ⟨a, c, rfl, -, -⟩ := row_any h
  have HF := Lib.hid (fun W (hb : Below w.heap.size w W) => rfind_any (h.below hb) hn f)
  have HR := Lib.hid h
  unfold gotE
  rcases hg : getF L f with _ | x
  · rw [hg] at HF
    clear h hg
    obtain ⟨p, ff, t, o, d⟩ := f
    simp only [fv, Option.isSome_none, Bool.not_false] at HF ⊢
    have HB0 := Lib.hid (show Below w.heap.size w ((w.alloc (.cells #[.int .i64 p, .string ff, .string t, .int .i64 o, .int .i64 d] 37)).alloc (.cells #[.int .i64 0, .string ByteArray.empty, .string ByteArray.empty, .int .i64 0, .int .i64 0, .int .i64 0, .int .i64 0, .int .i64 0] 42)) from below_alloc (below_alloc (Below.refl _ _) _) _)
    have HBX := Lib.hid (Bx.new (w.alloc (.cells #[.int .i64 p, .string ff, .string t, .int .i64 o, .int .i64 d] 37)) [.int .i64 0, .string ByteArray.empty, .string ByteArray.empty, .int .i64 0, .int .i64 0, .int .i64 0, .int .i64 0, .int .i64 0] 42)
    rw [World.size_alloc] at HBX
    go_enter Try.func17, Try.ntmps17
    go_wp2_with fail
    refine (HF.out _ HB0.out).mono ?_
    rintro e w1 ⟨r, rfl, hr, -, hb1⟩
    have HB1 := Lib.hid (below_then HB0.out HB0.out.size hb1)
    obtain ⟨w2, hst, hbx2, ho2⟩ := store42 (HBX.out.below hb1) rfl 0 0 0 0 0 0 { data := #[] } { data := #[] }
    obtain ⟨c0, c1, c2, c3, c4, c5, c6, c7⟩ := hbx2.eight
    have HB2 := Lib.hid (only_below HB1.out ho2 (Nat.le_succ _))
    clear ho2 hbx2 hb1
    go_wp2
    exact bodyPost_ret (v := .tuple #[.agg #[.int .i64 0, .string { data := #[] }, .string { data := #[] }, .int .i64 0, .int .i64 0, .int .i64 0, .int .i64 0, .int .i64 0], .bool false]) (by simp [results, Try.results17, go_sem, c0, c1, c2, c3, c4, c5, c6, c7]) rfl ⟨rfl, HB2.out⟩
  · rw [hg] at HF
    clear h hg
    obtain ⟨p, ff, t, o, d⟩ := f
    simp only [fv, Option.isSome_some, Bool.not_true] at HF ⊢
    have HB0 := Lib.hid (show Below w.heap.size w ((w.alloc (.cells #[.int .i64 p, .string ff, .string t, .int .i64 o, .int .i64 d] 37)).alloc (.cells #[.int .i64 0, .string ByteArray.empty, .string ByteArray.empty, .int .i64 0, .int .i64 0, .int .i64 0, .int .i64 0, .int .i64 0] 42)) from below_alloc (below_alloc (Below.refl _ _) _) _)
    have HBX := Lib.hid (Bx.new (w.alloc (.cells #[.int .i64 p, .string ff, .string t, .int .i64 o, .int .i64 d] 37)) [.int .i64 0, .string ByteArray.empty, .string ByteArray.empty, .int .i64 0, .int .i64 0, .int .i64 0, .int .i64 0, .int .i64 0] 42)
    rw [World.size_alloc] at HBX
    go_enter Try.func17, Try.ntmps17
    go_wp2_with fail
    refine (HF.out _ HB0.out).mono ?_
    rintro e w1 ⟨r, rfl, hr, hat, hb1⟩
    obtain ⟨i, rfl, hi, hx⟩ := hat x rfl
    have HB1 := Lib.hid (below_then HB0.out HB0.out.size hb1)
    have hrow := HR.out.below HB1.out
    unfold Rf at hrow
    obtain ⟨g, c', e, _⟩ := row_slice hrow (by omega)
    simp only [Value.slice.injEq, true_and] at e
    obtain ⟨rfl, rfl⟩ := e
    obtain ⟨d0, d1, d2, d3, d4, d5, d6, d7⟩ := erow_at hrow hi
    rw [hx] at d0 d1 d2 d3 d4 d5 d6 d7
    have hiz : (i : Int) < (L.length : Int) := by omega
    obtain ⟨⟨x1, x2, x3, x4, x5⟩, x6, x7, x8⟩ := x
    simp only at d0 d1 d2 d3 d4 d5 d6 d7
    obtain ⟨w2, hst, hbx2, ho2⟩ := store42 (HBX.out.below hb1) rfl x1 x4 x5 x6 x7 x8 x2 x3
    obtain ⟨c0, c1, c2, c3, c4, c5, c6, c7⟩ := hbx2.eight
    have HB2 := Lib.hid (only_below HB1.out ho2 (Nat.le_succ _))
    clear ho2 hbx2 hb1 hat hx hrow
    go_wp2
    exact bodyPost_ret (v := .tuple #[.agg #[.int .i64 x1, .string x2, .string x3, .int .i64 x4, .int .i64 x5, .int .i64 x6, .int .i64 x7, .int .i64 x8], .bool true]) (by simp [results, Try.results17, go_sem, c0, c1, c2, c3, c4, c5, c6, c7]) rfl ⟨rfl, HB2.out⟩

end Go.Proofs.Ytondjponengedaa

namespace Go.Proofs.Ytondjponengedaa
open Go.RowKit
set_option linter.unusedVariables false
set_option linter.unusedSimpArgs false
set_option maxRecDepth 10000
attribute [local go_sem ↓] flow_eq bigS42

def insG (p : En → Bool) (e : En) : List En → List En
  | [] => [e]
  | x :: r => if p x then e :: x :: r else x :: insG p e r
theorem insF_G (e : En) : ∀ l, insF e l = insG (fun x => ahd e.fl x.fl) e l
  | [] => rfl
  | x :: r => by rw [insF, insG, insF_G e r]
theorem insE_G (e : En) : ∀ l, insE e l = insG (fun x => decide (e.ends < x.ends)) e l
  | [] => rfl
  | x :: r => by rw [insE, insG, insE_G e r]; simp
theorem insG_len (p : En → Bool) (e : En) : ∀ l, (insG p e l).length = l.length + 1
  | [] => rfl
  | x :: r => by
    rw [insG]; split
    · rfl
    · rw [List.length_cons, insG_len p e r]; rfl
theorem insG_done {p : En → Bool} {t : En} : ∀ {A : List En} (B : List En), A.any p = true → insG p t (A ++ B) = insG p t A ++ B
  | [], B, h => by simp at h
  | x :: A, B, h => by
    simp only [List.cons_append, insG]
    by_cases hx : p x = true
    · rw [if_pos hx, if_pos hx]; rfl
    · rw [if_neg hx, if_neg hx, insG_done B (by simpa [hx] using h)]; rfl
theorem insG_not {p : En → Bool} {t : En} : ∀ {A : List En} (B : List En), A.any p = false → insG p t (A ++ B) = A ++ insG p t B
  | [], B, h => rfl
  | x :: A, B, h => by
    simp only [List.any_cons, Bool.or_eq_false_iff] at h
    simp only [List.cons_append, insG]
    rw [if_neg (by rw [h.1]; exact Bool.false_ne_true), insG_not B h.2]
def dnG (p : En → Bool) (l : List En) (k : Nat) : Bool := (l.take k).any p
def outG (p : En → Bool) (t : En) (l : List En) (k : Nat) : List En := if dnG p l k = true then insG p t (l.take k) else l.take k
theorem take_next (l : List En) {k : Nat} (h : k < l.length) : l.take (k + 1) = l.take k ++ [l[k]!] := by
  rw [List.take_add_one, List.getElem?_eq_getElem h, getElem!_pos l k h, Option.toList_some]
theorem outG_done {p : En → Bool} {t : En} {l : List En} {k : Nat} (h : k < l.length) (hd : dnG p l k = true) : outG p t l (k + 1) = outG p t l k ++ [l[k]!] ∧ dnG p l (k + 1) = true := by
  have h1 : dnG p l (k + 1) = true := by unfold dnG at hd ⊢; rw [take_next l h, List.any_append, hd]; rfl
  refine ⟨?_, h1⟩
  unfold outG
  rw [if_pos h1, if_pos hd, take_next l h, insG_done _ hd]
theorem outG_now {p : En → Bool} {t : En} {l : List En} {k : Nat} (h : k < l.length) (hd : dnG p l k = false) (hp : p l[k]! = true) : outG p t l (k + 1) = (outG p t l k ++ [t]) ++ [l[k]!] ∧ dnG p l (k + 1) = true := by
  have h1 : dnG p l (k + 1) = true := by unfold dnG at hd ⊢; rw [take_next l h, List.any_append, List.any_cons, hp]; simp
  refine ⟨?_, h1⟩
  unfold outG
  rw [if_pos h1, if_neg (by rw [hd]; exact Bool.false_ne_true), take_next l h, insG_not _ hd, insG, if_pos hp]
  simp
theorem outG_not {p : En → Bool} {t : En} {l : List En} {k : Nat} (h : k < l.length) (hd : dnG p l k = false) (hp : p l[k]! = false) : outG p t l (k + 1) = outG p t l k ++ [l[k]!] ∧ dnG p l (k + 1) = false := by
  have h1 : dnG p l (k + 1) = false := by unfold dnG at hd ⊢; rw [take_next l h, List.any_append, List.any_cons, hp, hd]; rfl
  refine ⟨?_, h1⟩
  unfold outG
  rw [if_neg (by rw [h1]; exact Bool.false_ne_true), if_neg (by rw [hd]; exact Bool.false_ne_true), take_next l h]
theorem outG_end {p : En → Bool} {t : En} {l : List En} : (dnG p l l.length = true → outG p t l l.length = insG p t l) ∧ (dnG p l l.length = false → outG p t l l.length ++ [t] = insG p t l) := by
  unfold outG dnG
  rw [List.take_length]
  constructor
  · intro h; rw [if_pos h]
  · intro h; rw [if_neg (by rw [h]; exact Bool.false_ne_true)]
    have := insG_not (t := t) [] h
    rw [List.append_nil] at this
    rw [this]; rfl
theorem outG_len {p : En → Bool} {t : En} {l : List En} {k : Nat} : (outG p t l k).length ≤ l.length + 1 := by
  unfold outG
  split
  · rw [insG_len, List.length_take]; omega
  · rw [List.length_take]; omega

/-- A row that is being made behind a box, over a told one. -/
structure Mk (w : World) (b : Nat) (o : Value) (O : List En) (v : Value) (L : List En) (bx : World → Prop) (wr : World) : Prop where
  out : wr.ownsRow b 42 8 o O.length (ecells O)
  row : Rf wr v L
  b : Below w.heap.size w wr
  bx : bx wr
theorem append_mk {W : World} {b : Nat} {o v : Value} {O L : List En} {x : En} (ho : W.ownsRow b 42 8 o O.length (ecells O)) (hr : Rf W v L) (hv : ∀ g, v.ownBlock = some g → g < b) (hb : b ≤ W.heap.size) (hl : O.length ≤ 1000) :
    ∃ v' w', (Builtin.append_ #[27, 27] 27 #[o, .slice (some ⟨W.heap.size, 0, none⟩) 1 1]).run Try.prog (W.alloc (.cells (ecs x).toArray 42)) = .ok v' w' ∧ w'.ownsRow b 42 8 v' (O ++ [x]).length (ecells (O ++ [x])) ∧ Rf w' v L ∧ Below b W w' ∧ b ≤ w'.heap.size := by
  have hb2 : Below W.heap.size W (W.alloc (.cells (ecs x).toArray 42)) := below_alloc (Below.refl _ _) _
  obtain ⟨v', w', h1, h2, h3⟩ := append_r (row_below ho hb2) (Bx.new W (ecs x) 42) (Nat.le_trans hb hb2.size) (by omega) 27
  refine ⟨v', w', h1, h2, ?_, ?_, Nat.le_trans (Nat.le_trans hb hb2.size) h3.size⟩
  · refine row_only (row_below hr hb2) (Only.of_grown (F := fun j => o.ownBlock = some j) h3 fun j hj => hj) fun j hj hj2 => ?_
    have h1 := hv j hj
    have h2 := (ho.lt j hj2).1
    omega
  · exact (hb2.mono hb).trans (Only.below (F := fun j => o.ownBlock = some j) (Only.of_grown h3 fun j hj => hj) (Nat.le_trans hb hb2.size) fun j hj => (ho.lt j hj).1)

theorem bx_low {W W' : World} {b n : Nat} {t : TypeId} {vs : List Value} (h : Bx W n t vs) (hb : Below b W W') (hn : n < b) : Bx W' n t vs := (hb.block n hn).trans h

theorem wo_next {L : List En} {f : Fl} {i : Nat} (hi : i < L.length) : ((L[i]!).fl = f → wo (L.take (i + 1)) f = wo (L.take i) f) ∧ ((L[i]!).fl ≠ f → wo (L.take (i + 1)) f = wo (L.take i) f ++ [L[i]!]) := by
  unfold wo
  rw [take_next L hi, List.filter_append]
  constructor
  · intro h; rw [List.filter_cons_of_neg (by simpa using h)]; simp
  · intro h; rw [List.filter_cons_of_pos (by simpa using h)]; rfl

def WoRel (w : World) (v : Value) (L : List En) (f : Fl) (n gg : Nat) (s5 s6 : Value) (wr : World) : Prop :=
  ∃ i : Nat, i + gg = n ∧ s6 = .int .i64 i ∧ wr.ownsRow (w.heap.size + 1) 42 8 s5 (wo (L.take i) f).length (ecells (wo (L.take i) f)) ∧ Rf wr v L ∧ Below w.heap.size w wr ∧ Bx wr w.heap.size 37 (fcs f) ∧ w.heap.size + 1 ≤ wr.heap.size

set_option maxHeartbeats 4000000 in
theorem rwo_any {w : World} {L : List En} {v : Value} (h : Rf w v L) (hn : L.length ≤ 1000) (f : Fl) :
    Calls Try.prog 54 #[v, fv f] w fun e w' => ∃ v', e = .returned v' ∧ w'.ownsRow w.heap.size 42 8 v' (wo L f).length (ecells (wo L f)) ∧ Below w.heap.size w w' := by
  obtain ⟨a, c, rfl, -, -⟩ := row_any h
  have hb0 : Below w.heap.size w (w.alloc (.cells (fcs f).toArray 37)) := below_alloc (Below.refl _ _) _
  have HV := Lib.hid (fun g hg => (h.lt g hg).2)
  have HR := Lib.hid (h.below hb0)
  have HB0 := Lib.hid hb0
  have HBX := Lib.hid (Bx.new w (fcs f) 37)
  obtain ⟨n, hl⟩ : ∃ n, L.length = n := ⟨_, rfl⟩
  have HL := Lib.hid hl
  clear h hb0
  rw [hl] at hn ⊢
  rw [hl] at HR HV
  obtain ⟨p, ff, t, o, d⟩ := f
  simp only [fv, fcs] at HR HB0 HBX ⊢
  clear hl
  go_enter Try.func54, Try.ntmps54
  go_wp2
  go_loopg [5, 6] n (fun gg s5 s6 wr => Hid (WoRel w (.slice a n c) L ⟨p, ff, t, o, d⟩ n gg s5 s6 wr))
  case atStart => exact Lib.hid ⟨0, by omega, rfl, World.ownsRow_nil _ _ 42 8, HR.out, HB0.out, HBX.out, by simp⟩
  case round =>
    obtain ⟨i, hi, rfl, hout, hrow, hb, hbx, hsz⟩ := hrel.out
    clear hrel
    by_cases hlt : i < n
    · have hltz : (i : Int) < (n : Int) := by omega
      have hrow' := hrow
      unfold Rf at hrow'
      rw [HL.out] at hrow'
      obtain ⟨g, c', e, _⟩ := row_slice hrow' (by omega)
      simp only [Value.slice.injEq, true_and] at e
      obtain ⟨rfl, rfl⟩ := e
      obtain ⟨d0, d1, d2, d3, d4, d5, d6, d7⟩ := erow_at hrow' hlt
      obtain ⟨hy, hnx⟩ := wo_next (L := L) (f := ⟨p, ff, t, o, d⟩) (i := i) (by rw [HL.out]; exact hlt)
      have hle : (wo (L.take i) ⟨p, ff, t, o, d⟩).length ≤ 1000 := by
        refine Nat.le_trans (List.length_filter_le _ _) ?_
        rw [List.length_take]; omega
      generalize L[i]! = x at d0 d1 d2 d3 d4 d5 d6 d7 hy hnx
      generalize wo (L.take i) ⟨p, ff, t, o, d⟩ = O at hout hle hy hnx
      have c0 := hbx.cell 0
      have c1 := hbx.cell 1
      have c2 := hbx.cell 2
      have c3 := hbx.cell 3
      have c4 := hbx.cell 4
      simp only [fcs, List.getElem?_cons_zero, List.getElem?_cons_succ] at c0 c1 c2 c3 c4
      have HOUT := Lib.hid hout
      have HROW := Lib.hid hrow
      have HB := Lib.hid hb
      have HX := Lib.hid hbx
      clear hout hrow hrow' hb hbx
      obtain ⟨⟨x1, x2, x3, x4, x5⟩, x6, x7, x8⟩ := x
      simp only at d0 d1 d2 d3 d4 d5 d6 d7 hy hnx
      by_cases he : (⟨x1, x2, x3, x4, x5⟩ : Fl) = ⟨p, ff, t, o, d⟩
      · have hsm : sameF ⟨x1, x2, x3, x4, x5⟩ ⟨p, ff, t, o, d⟩ = true := decide_eq_true he
        have HY := Lib.hid (hy he)
        clear hy hnx he
        go_wp2
        go_quiet (fail)
        go_wp2
        go_roundg (n - (i + 1))
        case measure => omega
        case rel =>
          have hd := below_drewN (Below.refl wr.heap.size wr) nq
          exact Lib.hid ⟨i + 1, by omega, by go_num, by rw [HY.out]; exact row_below HOUT.out hd, HROW.out.below hd, HB.out.trans (hd.mono HB.out.size), HX.out.below hd, hsz⟩
      · have hsm : sameF ⟨x1, x2, x3, x4, x5⟩ ⟨p, ff, t, o, d⟩ = false := decide_eq_false he
        have HNX := Lib.hid (hnx he)
        clear hy hnx he
        go_wp2
        go_quiet (fail)
        have hd := below_drewN (Below.refl wr.heap.size wr) nq
        obtain ⟨v3, w3, happ, hown, hrw, hbw, hszw⟩ := append_mk (W := wr.drewN nq) (x := ⟨⟨x1, x2, x3, x4, x5⟩, x6, x7, x8⟩) (row_below HOUT.out hd) (HROW.out.below hd) (fun g hg => Nat.lt_succ_of_lt (HV.out g hg)) hsz hle
        simp only [ecs] at happ
        have HRUN := Lib.hid happ
        have HOWN := Lib.hid hown
        have HRW := Lib.hid hrw
        have HBW := Lib.hid hbw
        clear happ hown hrw hbw hd
        go_wp2_with (at_builtin; refine Lib.wpList_append_run _ rfl _ _ _ _ rfl _ _ rfl rfl _ _ HRUN.out ?_)
        go_roundg (n - (i + 1))
        case measure => omega
        case rel =>
          have hd := below_drewN (Below.refl wr.heap.size wr) nq
          exact Lib.hid ⟨i + 1, by omega, by go_num, by rw [HNX.out]; exact HOWN.out, HRW.out, (HB.out.trans (hd.mono HB.out.size)).trans (HBW.out.mono (Nat.le_succ _)), bx_low (HX.out.below hd) HBW.out (Nat.lt_succ_self _), hszw⟩
    · obtain rfl : i = n := by omega
      rw [List.take_of_length_le (by rw [HL.out]; exact Nat.le_refl _)] at hout
      go_wp2
      go_ret
      exact ⟨_, rfl, row_base hout (Nat.le_succ _), hb⟩

end Go.Proofs.Ytondjponengedaa

namespace Go.Proofs.Ytondjponengedaa
open Go.RowKit
set_option linter.unusedVariables false
set_option linter.unusedSimpArgs false
set_option maxRecDepth 10000
attribute [local go_sem ↓] flow_eq bigS42

def WtRel (w w1 : World) (v1 : Value) (M : List En) (x : En) (n gg : Nat) (s5 s6 s7 : Value) (wr : World) : Prop :=
  ∃ i : Nat, i + gg = n ∧ s7 = .int .i64 i ∧ s6 = .bool (dnG (fun y => ahd x.fl y.fl) M i) ∧ wr.ownsRow w1.heap.size 42 8 s5 (outG (fun y => ahd x.fl y.fl) x M i).length (ecells (outG (fun y => ahd x.fl y.fl) x M i)) ∧ Rf wr v1 M ∧ Below w.heap.size w wr ∧ Bx wr w.heap.size 42 (ecs x) ∧ w1.heap.size ≤ wr.heap.size

theorem drew_one (w : World) : w.drewN 1 = w.drew := rfl

set_option maxHeartbeats 8000000 in
theorem rwth_any {w : World} {L : List En} {v : Value} (h : Rf w v L) (hn : L.length ≤ 900) (x : En) :
    Calls Try.prog 67 #[v, ev x] w fun e w' => ∃ v', e = .returned v' ∧ w'.ownsRow w.heap.size 42 8 v' (wth L x).length (ecells (wth L x)) ∧ Below w.heap.size w w' := by
  have hb0 : Below w.heap.size w (w.alloc (.cells (ecs x).toArray 42)) := below_alloc (Below.refl _ _) _
  have HWO := Lib.hid (rwo_any (h.below hb0) (by omega) x.fl)
  have HB0 := Lib.hid hb0
  have HBX := Lib.hid (Bx.new w (ecs x) 42)
  have hml : (wo L x.fl).length ≤ 900 := Nat.le_trans (List.length_filter_le _ _) hn
  have HAH := Lib.hid (fun (y : En) (w : World) => ahead_any x.fl y.fl w)
  unfold wth
  rw [insF_G]
  generalize wo L x.fl = M at *
  clear h hb0 hn
  skip


  obtain ⟨⟨p, ff, t, o, d⟩, bk, st, en⟩ := x
  simp only [ev, ecs, fv] at HWO HB0 HBX HAH ⊢
  have c0 := HBX.out.cell 0
  have c1 := HBX.out.cell 1
  have c2 := HBX.out.cell 2
  have c3 := HBX.out.cell 3
  have c4 := HBX.out.cell 4
  simp only [List.getElem?_cons_zero, List.getElem?_cons_succ] at c0 c1 c2 c3 c4
  go_enter Try.func67, Try.ntmps67
  go_wp2_with fail
  refine HWO.out.mono ?_
  rintro e w1 ⟨v1, rfl, hr1, hb1⟩
  obtain ⟨a1, cc1, rfl, -, -⟩ := row_any hr1
  have HV := Lib.hid (fun g hg => (hr1.lt g hg).2)
  have HR1 : Hid (Rf w1 (.slice a1 M.length cc1) M) := Lib.hid (row_base hr1 (Nat.zero_le _))
  have HB1 := Lib.hid (below_then HB0.out HB0.out.size hb1)
  have HBX1 := Lib.hid (HBX.out.below hb1)
  have hsz1 : w.heap.size + 1 ≤ w1.heap.size := by have := hb1.size; simpa using this
  clear hr1 hb1 c0 c1 c2 c3 c4
  obtain ⟨n, hl⟩ : ∃ n, M.length = n := ⟨_, rfl⟩
  have HL := Lib.hid hl
  rw [hl] at HR1 HV hml ⊢
  clear hl
  go_wp2
  go_loopg [5, 6, 7] n (fun gg s5 s6 s7 wr => Hid (WtRel w w1 (.slice a1 n cc1) M ⟨⟨p, ff, t, o, d⟩, bk, st, en⟩ n gg s5 s6 s7 wr))
  case atStart => exact Lib.hid ⟨0, by omega, rfl, rfl, World.ownsRow_nil _ _ 42 8, HR1.out, HB1.out, HBX1.out, Nat.le_refl _⟩
  case round =>
    obtain ⟨i, hi, rfl, rfl, hout, hrow, hb, hbx, hsz⟩ := hrel.out
    clear hrel
    have c0 := hbx.cell 0
    have c1 := hbx.cell 1
    have c2 := hbx.cell 2
    have c3 := hbx.cell 3
    have c4 := hbx.cell 4
    have c5 := hbx.cell 5
    have c6 := hbx.cell 6
    have c7 := hbx.cell 7
    simp only [ecs, List.getElem?_cons_zero, List.getElem?_cons_succ] at c0 c1 c2 c3 c4 c5 c6 c7
    have HOUT := Lib.hid hout
    have HROW := Lib.hid hrow
    have HB := Lib.hid hb
    have HXX := Lib.hid hbx
    have hole := outG_len (p := fun y => ahd (⟨p, ff, t, o, d⟩ : Fl) y.fl) (t := ⟨⟨p, ff, t, o, d⟩, bk, st, en⟩) (l := M) (k := i)
    rw [HL.out] at hole
    by_cases hlt : i < n
    · have hltz : (i : Int) < (n : Int) := by omega
      have hrow' := hrow
      unfold Rf at hrow'
      rw [HL.out] at hrow'
      obtain ⟨g, c', e, _⟩ := row_slice hrow' (by omega)
      simp only [Value.slice.injEq, true_and] at e
      obtain ⟨rfl, rfl⟩ := e
      obtain ⟨d0, d1, d2, d3, d4, d5, d6, d7⟩ := erow_at hrow' hlt
      have q1 := outG_done (p := fun y => ahd (⟨p, ff, t, o, d⟩ : Fl) y.fl) (t := ⟨⟨p, ff, t, o, d⟩, bk, st, en⟩) (l := M) (k := i) (by rw [HL.out]; exact hlt)
      have q2 := outG_now (p := fun y => ahd (⟨p, ff, t, o, d⟩ : Fl) y.fl) (t := ⟨⟨p, ff, t, o, d⟩, bk, st, en⟩) (l := M) (k := i) (by rw [HL.out]; exact hlt)
      have q3 := outG_not (p := fun y => ahd (⟨p, ff, t, o, d⟩ : Fl) y.fl) (t := ⟨⟨p, ff, t, o, d⟩, bk, st, en⟩) (l := M) (k := i) (by rw [HL.out]; exact hlt)
      have HMM : ∀ y, M[i]! = y → Hid (M[i]! = y) := fun y h => Lib.hid h
      generalize hM : M[i]! = y at d0 d1 d2 d3 d4 d5 d6 d7 q1 q2 q3
      generalize outG (fun y => ahd (⟨p, ff, t, o, d⟩ : Fl) y.fl) ⟨⟨p, ff, t, o, d⟩, bk, st, en⟩ M i = O at HOUT hole q1 q2 q3
      have HM := HMM y hM
      clear HMM hM
      have HA := HAH.out y
      clear hout hrow hrow' hb hbx
      obtain ⟨⟨y1, y2, y3, y4, y5⟩, y6, y7, y8⟩ := y
      simp only [fv] at d0 d1 d2 d3 d4 d5 d6 d7 q2 q3 HA
      rcases hdn : dnG (fun y => ahd (⟨p, ff, t, o, d⟩ : Fl) y.fl) M i with _ | _
      · rcases hah : ahd ⟨p, ff, t, o, d⟩ ⟨y1, y2, y3, y4, y5⟩ with _ | _
        · have Q := Lib.hid (q3 hdn hah)
          rw [hah] at HA
          have HA2 := Lib.hid HA
          clear q1 q2 q3 hdn hah HA HAH
          go_wp2
          refine wp_region_tail 10 (by kernel_rfl) (by kernel_rfl) ?_
          simp only [List.take_succ_cons, List.take_zero, List.drop_succ_cons, List.drop_zero]
          repeat still_step
          refine wpStill_nil ?_
          go_wp2_with fail
          refine (HA2.out _).mono ?_
          rintro e w2 ⟨rfl, hb2⟩
          have HOUT2 := Lib.hid (row_below (row_below HOUT.out (below_drewN (Below.refl _ _) 1)) hb2)
          have HROW2 := Lib.hid ((HROW.out.below (below_drewN (Below.refl _ _) 1)).below hb2)
          have HXX2 := Lib.hid ((HXX.out.below (below_drewN (Below.refl _ _) 1)).below hb2)
          have HB2 : Hid (Below w.heap.size w w2) := Lib.hid (HB.out.trans (Below.trans (below_drewN (Below.refl _ _) 1) (hb2.mono HB.out.size)))
          have hsz2 : w1.heap.size ≤ w2.heap.size := Nat.le_trans hsz hb2.size
          have hrw2 := HROW2.out
          unfold Rf at hrw2
          rw [HL.out] at hrw2
          clear d0 d1 d2 d3 d4 d5 d6 d7
          obtain ⟨d0, d1, d2, d3, d4, d5, d6, d7⟩ := erow_at hrw2 hlt
          have hg2 := (hrw2.lt g rfl).2
          rw [HM.out] at d0 d1 d2 d3 d4 d5 d6 d7
          simp only at d0 d1 d2 d3 d4 d5 d6 d7
          clear hb2 hrw2
          obtain ⟨v3, w3, happ, hown, hrw, hbw, hszw⟩ := append_mk (W := w2) (x := ⟨⟨y1, y2, y3, y4, y5⟩, y6, y7, y8⟩) HOUT2.out HROW2.out HV.out hsz2 (by omega)
          simp only [ecs] at happ
          have HRUN := Lib.hid happ
          have HOWN := Lib.hid hown
          have HRW := Lib.hid hrw
          have HBW := Lib.hid hbw
          clear happ hown hrw hbw
          go_wp2_with (at_builtin; refine Lib.wpList_append_run _ rfl _ _ _ _ rfl _ _ rfl rfl _ _ HRUN.out ?_)
          go_roundg (n - (i + 1))
          case measure => omega
          case rel => exact Lib.hid ⟨i + 1, by omega, by go_num, by rw [Q.out.2], by rw [Q.out.1]; exact HOWN.out, HRW.out, HB2.out.trans (HBW.out.mono (by have := HB1.out.size; omega)), bx_low HXX2.out HBW.out (by omega), hszw⟩
        · have Q := Lib.hid (q2 hdn hah)
          rw [hah] at HA
          have HA2 := Lib.hid HA
          clear q1 q2 q3 hdn hah HA HAH
          go_wp2
          refine wp_region_tail 10 (by kernel_rfl) (by kernel_rfl) ?_
          simp only [List.take_succ_cons, List.take_zero, List.drop_succ_cons, List.drop_zero]
          repeat still_step
          refine wpStill_nil ?_
          go_wp2_with fail
          refine (HA2.out _).mono ?_
          rintro e w2 ⟨rfl, hb2⟩
          have HOUT2 := Lib.hid (row_below (row_below HOUT.out (below_drewN (Below.refl _ _) 1)) hb2)
          have HROW2 := Lib.hid ((HROW.out.below (below_drewN (Below.refl _ _) 1)).below hb2)
          have HXX2 := Lib.hid ((HXX.out.below (below_drewN (Below.refl _ _) 1)).below hb2)
          have HB2 : Hid (Below w.heap.size w w2) := Lib.hid (HB.out.trans (Below.trans (below_drewN (Below.refl _ _) 1) (hb2.mono HB.out.size)))
          have hsz2 : w1.heap.size ≤ w2.heap.size := Nat.le_trans hsz hb2.size
          have hrw2 := HROW2.out
          unfold Rf at hrw2
          rw [HL.out] at hrw2
          clear d0 d1 d2 d3 d4 d5 d6 d7
          obtain ⟨d0, d1, d2, d3, d4, d5, d6, d7⟩ := erow_at hrw2 hlt
          have hg2 := (hrw2.lt g rfl).2
          rw [HM.out] at d0 d1 d2 d3 d4 d5 d6 d7
          simp only at d0 d1 d2 d3 d4 d5 d6 d7
          clear hb2 hrw2
          clear c0 c1 c2 c3 c4 c5 c6 c7
          have c0 := HXX2.out.cell 0
          have c1 := HXX2.out.cell 1
          have c2 := HXX2.out.cell 2
          have c3 := HXX2.out.cell 3
          have c4 := HXX2.out.cell 4
          have c5 := HXX2.out.cell 5
          have c6 := HXX2.out.cell 6
          have c7 := HXX2.out.cell 7
          simp only [ecs, List.getElem?_cons_zero, List.getElem?_cons_succ] at c0 c1 c2 c3 c4 c5 c6 c7
          obtain ⟨v3, w3, happ, hown, hrw, hbw, hszw⟩ := append_mk (W := w2) (x := ⟨⟨p, ff, t, o, d⟩, bk, st, en⟩) HOUT2.out HROW2.out HV.out hsz2 (by omega)
          simp only [ecs] at happ
          have HRUN := Lib.hid happ
          have HOUT3 := Lib.hid hown
          have HROW3 := Lib.hid hrw
          have HXX3 := Lib.hid (bx_low HXX2.out hbw (by omega))
          have HB3 := Lib.hid (HB2.out.trans (hbw.mono (by have := HB1.out.size; omega)))
          clear happ hown hbw
          unfold Rf at hrw
          rw [HL.out] at hrw
          obtain ⟨d0, d1, d2, d3, d4, d5, d6, d7⟩ := erow_at hrw hlt
          have hg3 := (hrw.lt g rfl).2
          rw [HM.out] at d0 d1 d2 d3 d4 d5 d6 d7
          simp only at d0 d1 d2 d3 d4 d5 d6 d7
          have hO3 : (O ++ [(⟨⟨p, ff, t, o, d⟩, bk, st, en⟩ : En)]).length ≤ 950 := by rw [List.length_append, List.length_singleton]; omega
          clear hrw
          obtain ⟨v4, w4, happ, hown, hrw4, hbw, hszw4⟩ := append_mk (W := w3) (x := ⟨⟨y1, y2, y3, y4, y5⟩, y6, y7, y8⟩) HOUT3.out HROW3.out HV.out hszw (by omega)
          simp only [ecs] at happ
          have HRUN4 := Lib.hid happ
          have HOWN := Lib.hid hown
          have HRW := Lib.hid hrw4
          have HBW := Lib.hid hbw
          clear happ hown hrw4 hbw
          go_wp2_with (first | (at_builtin; refine Lib.wpList_append_run _ rfl _ _ _ _ rfl _ _ rfl rfl _ _ HRUN.out ?_) | (at_builtin; refine Lib.wpList_append_run _ rfl _ _ _ _ rfl _ _ rfl rfl _ _ HRUN4.out ?_))
          go_roundg (n - (i + 1))
          case measure => omega
          case rel => exact Lib.hid ⟨i + 1, by omega, by go_num, by rw [Q.out.2], by rw [Q.out.1]; exact HOWN.out, HRW.out, HB3.out.trans (HBW.out.mono (by have := HB1.out.size; omega)), bx_low HXX3.out HBW.out (by omega), hszw4⟩
      · have Q := Lib.hid (q1 hdn)
        clear q1 q2 q3 hdn HA HAH
        go_wp2
        go_quiet (fail)
        have hd := below_drewN (Below.refl wr.heap.size wr) nq
        obtain ⟨v3, w3, happ, hown, hrw, hbw, hszw⟩ := append_mk (W := wr.drewN nq) (x := ⟨⟨y1, y2, y3, y4, y5⟩, y6, y7, y8⟩) (row_below HOUT.out hd) (HROW.out.below hd) HV.out hsz (by omega)
        simp only [ecs] at happ
        have HRUN := Lib.hid happ
        have HOWN := Lib.hid hown
        have HRW := Lib.hid hrw
        have HBW := Lib.hid hbw
        clear happ hown hrw hbw hd
        go_wp2_with (at_builtin; refine Lib.wpList_append_run _ rfl _ _ _ _ rfl _ _ rfl rfl _ _ HRUN.out ?_)
        go_roundg (n - (i + 1))
        case measure => omega
        case rel =>
          have hd := below_drewN (Below.refl wr.heap.size wr) nq
          exact Lib.hid ⟨i + 1, by omega, by go_num, by rw [Q.out.2], by rw [Q.out.1]; exact HOWN.out, HRW.out, (HB.out.trans (hd.mono HB.out.size)).trans (HBW.out.mono (by have := HB1.out.size; omega)), bx_low (HXX.out.below hd) HBW.out (by omega), hszw⟩
    · obtain rfl : i = n := by omega
      obtain ⟨qe1, qe2⟩ := outG_end (p := fun y => ahd (⟨p, ff, t, o, d⟩ : Fl) y.fl) (t := ⟨⟨p, ff, t, o, d⟩, bk, st, en⟩) (l := M)
      rw [HL.out] at qe1 qe2
      generalize outG (fun y => ahd (⟨p, ff, t, o, d⟩ : Fl) y.fl) ⟨⟨p, ff, t, o, d⟩, bk, st, en⟩ M i = O at HOUT hole qe1 qe2
      clear hout hrow hb hbx
      rcases hdn : dnG (fun y => ahd (⟨p, ff, t, o, d⟩ : Fl) y.fl) M i with _ | _
      · have Q := Lib.hid (qe2 hdn)
        clear qe1 qe2 hdn HAH
        obtain ⟨v3, w3, happ, hown, hrw, hbw, hszw⟩ := append_mk (W := wr) (x := ⟨⟨p, ff, t, o, d⟩, bk, st, en⟩) HOUT.out HROW.out HV.out hsz (by omega)
        simp only [ecs] at happ
        have HRUN := Lib.hid happ
        have HOWN := Lib.hid hown
        have HBW := Lib.hid hbw
        clear happ hown hrw hbw
        go_wp2_with (at_builtin; refine Lib.wpList_append_run _ rfl _ _ _ _ rfl _ _ rfl rfl _ _ HRUN.out ?_)
        go_ret
        exact ⟨_, rfl, by rw [← Q.out]; exact row_base HOWN.out (by omega), HB.out.trans (HBW.out.mono (by have := HB1.out.size; omega))⟩
      · have Q := Lib.hid (qe1 hdn)
        clear qe1 qe2 hdn HAH
        go_wp2
        go_ret
        exact ⟨_, rfl, by rw [← Q.out]; exact row_base HOUT.out (by omega), HB.out⟩

end Go.Proofs.Ytondjponengedaa

namespace Go.Proofs.Ytondjponengedaa
open Go.RowKit
set_option linter.unusedVariables false
set_option linter.unusedSimpArgs false
set_option maxRecDepth 10000
attribute [local go_sem ↓] bigS42

/-- Where an answered row lies: in what was told, or in new memory. -/
def Lies (v' v : Value) (w : World) : Prop := ∀ g, v'.ownBlock = some g → v.ownBlock = some g ∨ w.heap.size ≤ g
theorem Lies.refl (v : Value) (w : World) : Lies v v w := fun g h => .inl h
theorem Lies.new {v' v : Value} {w w' : World} {e size n : Nat} {xs : List Value} {b : Nat} (h : w'.ownsRow b e size v' n xs) (hb : w.heap.size ≤ b) : Lies v' v w := fun g hg => .inr (Nat.le_trans hb (h.lt g hg).1)

theorem wrap_now {now s : Int} (h : okN now = true) : wrap64 (now + lif s) = now + lif s := by
  have hn : 0 ≤ now ∧ now ≤ 1099511626776 := by
    unfold okN at h
    simp only [Bool.and_eq_true, decide_eq_true_eq] at h
    exact h
  have hl := lif_range s
  have : wrap64 (now + lif s) = now + lif s := by simp only [wrap64]; omega
  exact this

theorem rf_set {W : World} {v : Value} {L : List En} (h : Rf W v L) {N : Nat} (hv : ∀ g, v.ownBlock = some g → g < N) (j : Nat) (u : Value) : Rf (W.setCell ⟨N, j, none⟩ u) v L :=
  row_only (F := (· = N)) h (Only.setCell (F := (· = N)) (Only.refl _ _) (Or.inl rfl) _) fun g hg e => by have := hv g hg; omega
theorem below_set {w W : World} {B N : Nat} (h : Below B w W) (hB : B ≤ N) (j : Nat) (u : Value) : Below B w (W.setCell ⟨N, j, none⟩ u) := Below.setCell h (by simpa using hB) u

set_option maxHeartbeats 4000000 in
theorem ropen_any {w : World} {L : List En} {v : Value} (h : Rf w v L) (hn : L.length ≤ 64) (f : Fl) (b s0 n0 fl now : Int) :
    Calls Try.prog 51 #[v, ev ⟨f, b, s0, n0⟩, .int .i64 fl, .int .i64 now] w fun e w' => ∃ v', e = .returned (.tuple #[v', .int .i64 (opn L f b fl now).2]) ∧ Rf w' v' (opn L f b fl now).1 ∧ Lies v' v w ∧ Below w.heap.size w w' := by
  obtain ⟨a, c, rfl, -, -⟩ := row_any h
  have hb0 : Below w.heap.size w (w.alloc (.cells (ecs ⟨f, b, s0, n0⟩).toArray 42)) := below_alloc (Below.refl _ _) _
  have HR := Lib.hid (h.below hb0)
  have HV := Lib.hid (fun g hg => (h.lt g hg).2)
  have HB0 := Lib.hid hb0
  have HBX := Lib.hid (Bx.new w (ecs ⟨f, b, s0, n0⟩) 42)
  have HW := Lib.hid (fun w => wrong_any b now w)
  have HF := Lib.hid (rfind_any (h.below hb0) (by omega) f)
  clear h hb0
  have c0 := HBX.out.cell 0
  have c1 := HBX.out.cell 1
  have c2 := HBX.out.cell 2
  have c3 := HBX.out.cell 3
  have c4 := HBX.out.cell 4
  have c5 := HBX.out.cell 5
  simp only [ecs, List.getElem?_cons_zero, List.getElem?_cons_succ] at c0 c1 c2 c3 c4 c5
  unfold opn
  rcases hO : (okS b && okN now) with _ | _
  · rw [hO] at HW
    rw [if_pos rfl]
    clear HF
    generalize L.length = n at *
    obtain ⟨p, ff, t, o, d⟩ := f
    simp only [ev, ecs] at HR HB0 HBX c0 c1 c2 c3 c4 c5 ⊢
    go_enter Try.func51, Try.ntmps51
    go_wp2_with fail
    refine (HW.out _).mono ?_
    rintro e w' ⟨rfl, rfl⟩
    go_wp2
    go_ret2
    exact ⟨_, rfl, HR.out, Lies.refl _ _, HB0.out⟩
  · rw [hO] at HW
    rw [if_neg (by simp)]
    have hN : okN now = true := by simp at hO; exact hO.2
    by_cases hfull : getF L f = none ∧ 64 ≤ L.length
    · rw [if_pos hfull]
      have h64 : decide ((64 : Int) ≤ (L.length : Int)) = true := decide_eq_true (by omega)
      rw [hfull.1] at HF
      clear hfull
      generalize L.length = n at *
      obtain ⟨p, ff, t, o, d⟩ := f
      simp only [ev, ecs, fv, Option.isSome_none, Bool.not_false] at HR HB0 HBX HF c0 c1 c2 c3 c4 c5 ⊢
      go_enter Try.func51, Try.ntmps51
      go_wp2_with fail
      refine (HW.out _).mono ?_
      rintro e w' ⟨rfl, rfl⟩
      go_wp2_with fail
      refine HF.out.mono ?_
      rintro e w1 ⟨r, rfl, hr, -, hb1⟩
      have HR1 := Lib.hid (HR.out.below hb1)
      have HB1 := Lib.hid (below_then HB0.out HB0.out.size hb1)
      clear hb1
      go_wp2
      go_ret2
      exact ⟨_, rfl, HR1.out, Lies.refl _ _, HB1.out⟩
    · rw [if_neg hfull]
      obtain ⟨y, hy⟩ : ∃ y, (getF L f).isSome = y := ⟨_, rfl⟩
      have HG : y = true ∨ (y = false ∧ decide ((64 : Int) ≤ (L.length : Int)) = false) := by
        rcases hg : getF L f with _ | z
        · right
          have : ¬ 64 ≤ L.length := fun h64 => hfull ⟨hg, h64⟩
          rw [hg] at hy
          exact ⟨hy.symm, decide_eq_false (by omega)⟩
        · left; rw [hg] at hy; exact hy.symm
      rw [hy] at HF
      clear hfull hy
      have HWT := Lib.hid (fun (W : World) (v : Value) (s e : Int) (hr : Rf W v L) => rwth_any hr (by omega) ⟨f, b, s, e⟩)
      by_cases h6 : f.proto = 6
      · have e6 : firstSt f fl = stp 1 fl := by unfold firstSt; rw [if_pos h6]
        rw [e6]
        have HST := Lib.hid (fun w => rstep_any 1 fl w)
        have HLF := Lib.hid (fun w => rlife_any (stp 1 fl) w)
        have hw1 := wrap_now (s := stp 1 fl) hN
        generalize stp 1 fl = s at *
        obtain ⟨ll, hll⟩ : ∃ ll, lif s = ll := ⟨_, rfl⟩
        rw [hll] at HLF hw1 ⊢
        clear e6 hll
        obtain ⟨n, hln⟩ : ∃ n, L.length = n := ⟨_, rfl⟩
        rw [hln] at HG HF HR HV ⊢
        rw [hln] at hn
        obtain ⟨p, ff, t, o, d⟩ := f
        simp only at h6
        subst h6
        simp only [ev, ecs, fv] at HR HB0 HBX HF HWT c0 c1 c2 c3 c4 c5 ⊢
        go_enter Try.func51, Try.ntmps51
        go_wp2_with fail
        refine (HW.out _).mono ?_
        rintro e w' ⟨rfl, rfl⟩
        go_wp2_with fail
        refine HF.out.mono ?_
        rintro e w1 ⟨r, rfl, hr, -, hb1⟩
        have HR1 := Lib.hid (HR.out.below hb1)
        have HB1 := Lib.hid (below_then HB0.out HB0.out.size hb1)
        have HX1 := Lib.hid (HBX.out.below hb1)
        have hsz1 : w.heap.size < w1.heap.size := HX1.out.lt
        have c0 := HX1.out.cell 0
        have c1 := HX1.out.cell 1
        have c2 := HX1.out.cell 2
        have c3 := HX1.out.cell 3
        have c4 := HX1.out.cell 4
        have c5 := HX1.out.cell 5
        have c6 := HX1.out.cell 6
        have c7 := HX1.out.cell 7
        have f6 := HX1.out.free 6
        have f7 := HX1.out.free 7
        simp only [List.getElem?_cons_zero, List.getElem?_cons_succ] at c0 c1 c2 c3 c4 c5 c6 c7
        have HG2 : (decide (r < 0) = true ∧ decide ((64 : Int) ≤ (n : Int)) = false) ∨ decide (r < 0) = false := by
          rcases HG with h | ⟨h, h2⟩
          · right; rw [hr, h]; rfl
          · left; rw [hr, h]; exact ⟨rfl, h2⟩
        clear hb1 hr HG
        have HX2 := Lib.hid ((HX1.out.setAt 6 (.int .i64 4)).setAt 6 (.int .i64 s))
        have HR2 := Lib.hid (rf_set (rf_set HR1.out HV.out 6 (.int .i64 4)) HV.out 6 (.int .i64 s))
        have HB2 := Lib.hid (below_set (N := w.heap.size) (below_set (N := w.heap.size) HB1.out (Nat.le_refl _) 6 (.int .i64 4)) (Nat.le_refl _) 6 (.int .i64 s))
        rcases HG2 with ⟨hr, h64⟩ | hr
        all_goals
          go_wp2_with (first | (go_at_call 19; refine (HST.out _).mono ?_; rintro e w' ⟨rfl, rfl⟩) | (go_at_call 21; refine (HLF.out _).mono ?_; rintro e w3 ⟨rfl, hb3⟩; have HX3 := Lib.hid (HX2.out.below hb3); have HR3 := Lib.hid (rf_set (HR2.out.below hb3) HV.out 7 (.int .i64 (now + ll))); have HB3 := Lib.hid (below_set (N := w.heap.size) (below_then HB2.out HB2.out.size hb3) (Nat.le_refl _) 7 (.int .i64 (now + ll))); have hsz3 : w.heap.size < w3.heap.size := HX3.out.lt; clear c0 c1 c2 c3 c4 c5 c6 c7 f6 f7; have c0 := HX3.out.cell 0; have c1 := HX3.out.cell 1; have c2 := HX3.out.cell 2; have c3 := HX3.out.cell 3; have c4 := HX3.out.cell 4; have c5 := HX3.out.cell 5; have c6 := HX3.out.cell 6; have c7 := HX3.out.cell 7; have f6 := HX3.out.free 6; have f7 := HX3.out.free 7; simp only [List.set_cons_zero, List.set_cons_succ, List.getElem?_cons_zero, List.getElem?_cons_succ] at c0 c1 c2 c3 c4 c5 c6 c7; have HXW := Lib.hid (HWT.out _ _ s (now + ll) HR3.out); clear hb3) | (go_at_call 67; refine HXW.out.mono ?_; rintro e w4 ⟨v4, rfl, hr4, hb4⟩; have HR4 : Hid (Rf w4 v4 _) := Lib.hid (row_base hr4 (Nat.zero_le _)); have HL4 := Lib.hid (Lies.new (v := .slice a n c) hr4 HB3.out.size); have HB4 := Lib.hid (below_then HB3.out HB3.out.size hb4)))
          go_ret2
          exact ⟨_, rfl, HR4.out, HL4.out, HB4.out⟩
      · have e6 : firstSt f fl = 4 := by unfold firstSt; rw [if_neg h6]
        rw [e6]
        have HLF := Lib.hid (fun w => rlife_any (4) w)
        have hw1 := wrap_now (s := 4) hN
        obtain ⟨ll, hll⟩ : ∃ ll, lif 4 = ll := ⟨_, rfl⟩
        rw [hll] at HLF hw1 ⊢
        clear e6 hll
        obtain ⟨n, hln⟩ : ∃ n, L.length = n := ⟨_, rfl⟩
        rw [hln] at HG HF HR HV ⊢
        rw [hln] at hn
        obtain ⟨p, ff, t, o, d⟩ := f
        simp only at h6
        obtain ⟨z1, z2, z3⟩ := eqz p 6 h6
        simp only [ev, ecs, fv] at HR HB0 HBX HF HWT c0 c1 c2 c3 c4 c5 ⊢
        go_enter Try.func51, Try.ntmps51
        go_wp2_with fail
        refine (HW.out _).mono ?_
        rintro e w' ⟨rfl, rfl⟩
        go_wp2_with fail
        refine HF.out.mono ?_
        rintro e w1 ⟨r, rfl, hr, -, hb1⟩
        have HR1 := Lib.hid (HR.out.below hb1)
        have HB1 := Lib.hid (below_then HB0.out HB0.out.size hb1)
        have HX1 := Lib.hid (HBX.out.below hb1)
        have hsz1 : w.heap.size < w1.heap.size := HX1.out.lt
        have c0 := HX1.out.cell 0
        have c1 := HX1.out.cell 1
        have c2 := HX1.out.cell 2
        have c3 := HX1.out.cell 3
        have c4 := HX1.out.cell 4
        have c5 := HX1.out.cell 5
        have c6 := HX1.out.cell 6
        have c7 := HX1.out.cell 7
        have f6 := HX1.out.free 6
        have f7 := HX1.out.free 7
        simp only [List.getElem?_cons_zero, List.getElem?_cons_succ] at c0 c1 c2 c3 c4 c5 c6 c7
        have HG2 : (decide (r < 0) = true ∧ decide ((64 : Int) ≤ (n : Int)) = false) ∨ decide (r < 0) = false := by
          rcases HG with h | ⟨h, h2⟩
          · right; rw [hr, h]; rfl
          · left; rw [hr, h]; exact ⟨rfl, h2⟩
        clear hb1 hr HG
        have HX2 := Lib.hid (HX1.out.setAt 6 (.int .i64 4))
        have HR2 := Lib.hid (rf_set HR1.out HV.out 6 (.int .i64 4))
        have HB2 := Lib.hid (below_set (N := w.heap.size) HB1.out (Nat.le_refl _) 6 (.int .i64 4))
        rcases HG2 with ⟨hr, h64⟩ | hr
        all_goals
          go_wp2_with (first | (go_at_call 21; refine (HLF.out _).mono ?_; rintro e w3 ⟨rfl, hb3⟩; have HX3 := Lib.hid (HX2.out.below hb3); have HR3 := Lib.hid (rf_set (HR2.out.below hb3) HV.out 7 (.int .i64 (now + ll))); have HB3 := Lib.hid (below_set (N := w.heap.size) (below_then HB2.out HB2.out.size hb3) (Nat.le_refl _) 7 (.int .i64 (now + ll))); have hsz3 : w.heap.size < w3.heap.size := HX3.out.lt; clear c0 c1 c2 c3 c4 c5 c6 c7 f6 f7; have c0 := HX3.out.cell 0; have c1 := HX3.out.cell 1; have c2 := HX3.out.cell 2; have c3 := HX3.out.cell 3; have c4 := HX3.out.cell 4; have c5 := HX3.out.cell 5; have c6 := HX3.out.cell 6; have c7 := HX3.out.cell 7; have f6 := HX3.out.free 6; have f7 := HX3.out.free 7; simp only [List.set_cons_zero, List.set_cons_succ, List.getElem?_cons_zero, List.getElem?_cons_succ] at c0 c1 c2 c3 c4 c5 c6 c7; have HXW := Lib.hid (HWT.out _ _ 4 (now + ll) HR3.out); clear hb3) | (go_at_call 67; refine HXW.out.mono ?_; rintro e w4 ⟨v4, rfl, hr4, hb4⟩; have HR4 : Hid (Rf w4 v4 _) := Lib.hid (row_base hr4 (Nat.zero_le _)); have HL4 := Lib.hid (Lies.new (v := .slice a n c) hr4 HB3.out.size); have HB4 := Lib.hid (below_then HB3.out HB3.out.size hb4)))
          go_ret2
          exact ⟨_, rfl, HR4.out, HL4.out, HB4.out⟩

end Go.Proofs.Ytondjponengedaa

namespace Go.Proofs.Ytondjponengedaa
open Go.RowKit
set_option linter.unusedVariables false
set_option linter.unusedSimpArgs false
set_option maxRecDepth 10000
attribute [local go_sem ↓] bigS42

theorem okE_cases (e : En) (now : Int) :
    ((okE e && okN now) = false ∧ ((!(okS e.bk && okN now)) = true ∨ ((!(okS e.bk && okN now)) = false ∧ decide (e.st < 1) = true) ∨ ((!(okS e.bk && okN now)) = false ∧ decide (e.st < 1) = false ∧ decide (4 < e.st) = true) ∨ ((!(okS e.bk && okN now)) = false ∧ decide (e.st < 1) = false ∧ decide (4 < e.st) = false ∧ decide (e.ends < 0) = true) ∨ ((!(okS e.bk && okN now)) = false ∧ decide (e.st < 1) = false ∧ decide (4 < e.st) = false ∧ decide (e.ends < 0) = false ∧ decide (1099511627776 < e.ends) = true))) ∨
    ((okE e && okN now) = true ∧ (!(okS e.bk && okN now)) = false ∧ decide (e.st < 1) = false ∧ decide (4 < e.st) = false ∧ decide (e.ends < 0) = false ∧ decide (1099511627776 < e.ends) = false) := by
  unfold okE
  rcases h1 : okS e.bk with _ | _
  · left; simp
  rcases h2 : okN now with _ | _
  · left; simp
  by_cases g1 : e.st < 1
  · left
    have : decide (1 ≤ e.st) = false := decide_eq_false (by omega)
    simp [g1, this]
  by_cases g2 : 4 < e.st
  · left
    have : decide (e.st ≤ 4) = false := decide_eq_false (by omega)
    simp [g1, g2, this]
  by_cases g3 : e.ends < 0
  · left
    have : decide (0 ≤ e.ends) = false := decide_eq_false (by omega)
    simp [g1, g2, g3, this]
  by_cases g4 : 1099511627776 < e.ends
  · left
    have : decide (e.ends ≤ 1099511627776) = false := decide_eq_false (by omega)
    simp [g1, g2, g3, g4, this]
  · right
    have a1 : 1 ≤ e.st := by omega
    have a2 : e.st ≤ 4 := by omega
    have a3 : 0 ≤ e.ends := by omega
    have a4 : e.ends ≤ 1099511627776 := by omega
    simp [g1, g2, g3, g4, a1, a2, a3, a4]

set_option maxHeartbeats 4000000 in
theorem rput_any {w : World} {L : List En} {v : Value} (h : Rf w v L) (hn : L.length ≤ 64) (x : En) (now : Int) :
    Calls Try.prog 53 #[v, ev x, .int .i64 now] w fun e w' => ∃ v', e = .returned (.tuple #[v', .int .i64 (put_ L x now).2]) ∧ Rf w' v' (put_ L x now).1 ∧ Lies v' v w ∧ Below w.heap.size w w' := by
  obtain ⟨a, c, rfl, -, -⟩ := row_any h
  have hb0 : Below w.heap.size w (w.alloc (.cells (ecs x).toArray 42)) := below_alloc (Below.refl _ _) _
  have HR := Lib.hid (h.below hb0)
  have HB0 := Lib.hid hb0
  have HBX := Lib.hid (Bx.new w (ecs x) 42)
  have HW := Lib.hid (fun w => wrong_any x.bk now w)
  have HF := Lib.hid (rfind_any (h.below hb0) (by omega) x.fl)
  clear h hb0
  have c0 := HBX.out.cell 0
  have c1 := HBX.out.cell 1
  have c2 := HBX.out.cell 2
  have c3 := HBX.out.cell 3
  have c4 := HBX.out.cell 4
  have c5 := HBX.out.cell 5
  have c6 := HBX.out.cell 6
  have c7 := HBX.out.cell 7
  simp only [ecs, List.getElem?_cons_zero, List.getElem?_cons_succ] at c0 c1 c2 c3 c4 c5 c6 c7
  unfold put_
  have KEY := okE_cases x now
  generalize (!(okS x.bk && okN now)) = W at KEY HW
  rcases KEY with ⟨hO, KEY⟩ | ⟨hO, rfl, g1, g2, g3, g4⟩
  · rw [if_pos hO]
    clear HF hO
    generalize L.length = n at *
    obtain ⟨⟨p, ff, t, o, d⟩, bk, st, en⟩ := x
    simp only at KEY
    simp only [ev, ecs] at HR HB0 HBX c0 c1 c2 c3 c4 c5 c6 c7 HW ⊢
    rcases KEY with rfl | ⟨rfl, g1⟩ | ⟨rfl, g1, g2⟩ | ⟨rfl, g1, g2, g3⟩ | ⟨rfl, g1, g2, g3, g4⟩
    all_goals
      go_enter Try.func53, Try.ntmps53
      go_wp2_with fail
      refine (HW.out _).mono ?_
      rintro e w' ⟨rfl, rfl⟩
      go_wp2
      go_ret2
      exact ⟨_, rfl, HR.out, Lies.refl _ _, HB0.out⟩
  · rw [if_neg (by rw [hO]; simp)]
    by_cases hfull : getF L x.fl = none ∧ 64 ≤ L.length
    · rw [if_pos hfull]
      have h64 : decide ((64 : Int) ≤ (L.length : Int)) = true := decide_eq_true (by omega)
      rw [hfull.1] at HF
      clear hfull hO
      generalize L.length = n at *
      obtain ⟨⟨p, ff, t, o, d⟩, bk, st, en⟩ := x
      simp only [ev, ecs, fv, Option.isSome_none, Bool.not_false] at HR HB0 HBX HF c0 c1 c2 c3 c4 c5 c6 c7 g1 g2 g3 g4 HW ⊢
      go_enter Try.func53, Try.ntmps53
      go_wp2_with fail
      refine (HW.out _).mono ?_
      rintro e w' ⟨rfl, rfl⟩
      go_wp2_with fail
      refine HF.out.mono ?_
      rintro e w1 ⟨r, rfl, hr, -, hb1⟩
      have HR1 := Lib.hid (HR.out.below hb1)
      have HB1 := Lib.hid (below_then HB0.out HB0.out.size hb1)
      clear hb1
      go_wp2
      go_ret2
      exact ⟨_, rfl, HR1.out, Lies.refl _ _, HB1.out⟩
    · rw [if_neg hfull]
      obtain ⟨y, hy⟩ : ∃ y, (getF L x.fl).isSome = y := ⟨_, rfl⟩
      have HG : y = true ∨ (y = false ∧ decide ((64 : Int) ≤ (L.length : Int)) = false) := by
        rcases hg : getF L x.fl with _ | z
        · right
          have : ¬ 64 ≤ L.length := fun h64 => hfull ⟨hg, h64⟩
          rw [hg] at hy
          exact ⟨hy.symm, decide_eq_false (by omega)⟩
        · left; rw [hg] at hy; exact hy.symm
      rw [hy] at HF
      clear hfull hy hO
      by_cases hen : x.ends ≤ now
      · rw [if_pos hen]
        have hz : decide (x.ends ≤ now) = true := decide_eq_true hen
        have HWT := Lib.hid (fun (W : World) (v : Value) (hr : Rf W v L) => rwo_any hr (by omega) x.fl)
        obtain ⟨n, hln⟩ : ∃ n, L.length = n := ⟨_, rfl⟩
        rw [hln] at HG HF HR
        rw [hln] at hn ⊢
        clear hen
        obtain ⟨⟨p, ff, t, o, d⟩, bk, st, en⟩ := x
        simp only [ev, ecs, fv] at HR HB0 HBX HF HWT c0 c1 c2 c3 c4 c5 c6 c7 g1 g2 g3 g4 HW hz ⊢
        go_enter Try.func53, Try.ntmps53
        go_wp2_with fail
        refine (HW.out _).mono ?_
        rintro e w' ⟨rfl, rfl⟩
        go_wp2_with fail
        refine HF.out.mono ?_
        rintro e w1 ⟨r, rfl, hr, -, hb1⟩
        have HR1 := Lib.hid (HR.out.below hb1)
        have HB1 := Lib.hid (below_then HB0.out HB0.out.size hb1)
        have HX1 := Lib.hid (HBX.out.below hb1)
        clear c0 c1 c2 c3 c4 c5 c6 c7
        have c0 := HX1.out.cell 0
        have c1 := HX1.out.cell 1
        have c2 := HX1.out.cell 2
        have c3 := HX1.out.cell 3
        have c4 := HX1.out.cell 4
        have c5 := HX1.out.cell 5
        have c6 := HX1.out.cell 6
        have c7 := HX1.out.cell 7
        simp only [List.getElem?_cons_zero, List.getElem?_cons_succ] at c0 c1 c2 c3 c4 c5 c6 c7
        have HG2 : (decide (r < 0) = true ∧ decide ((64 : Int) ≤ (n : Int)) = false) ∨ decide (r < 0) = false := by
          rcases HG with h | ⟨h, h2⟩
          · right; rw [hr, h]; rfl
          · left; rw [hr, h]; exact ⟨rfl, h2⟩
        have HXW := Lib.hid (HWT.out _ _ HR1.out)
        clear hb1 hr HG
        rcases HG2 with ⟨hr, h64⟩ | hr
        all_goals
          go_wp2_with (go_at_call 54; refine HXW.out.mono ?_; rintro e w4 ⟨v4, rfl, hr4, hb4⟩; have HR4 : Hid (Rf w4 v4 _) := Lib.hid (row_base hr4 (Nat.zero_le _)); have HL4 := Lib.hid (Lies.new (v := .slice a n c) hr4 HB1.out.size); have HB4 := Lib.hid (below_then HB1.out HB1.out.size hb4))
          go_ret2
          exact ⟨_, rfl, HR4.out, HL4.out, HB4.out⟩
      · rw [if_neg hen]
        have hz : decide (x.ends ≤ now) = false := decide_eq_false hen
        have HWT := Lib.hid (fun (W : World) (v : Value) (hr : Rf W v L) => rwth_any hr (by omega) x)
        obtain ⟨n, hln⟩ : ∃ n, L.length = n := ⟨_, rfl⟩
        rw [hln] at HG HF HR
        rw [hln] at hn ⊢
        clear hen
        obtain ⟨⟨p, ff, t, o, d⟩, bk, st, en⟩ := x
        simp only [ev, ecs, fv] at HR HB0 HBX HF HWT c0 c1 c2 c3 c4 c5 c6 c7 g1 g2 g3 g4 HW hz ⊢
        go_enter Try.func53, Try.ntmps53
        go_wp2_with fail
        refine (HW.out _).mono ?_
        rintro e w' ⟨rfl, rfl⟩
        go_wp2_with fail
        refine HF.out.mono ?_
        rintro e w1 ⟨r, rfl, hr, -, hb1⟩
        have HR1 := Lib.hid (HR.out.below hb1)
        have HB1 := Lib.hid (below_then HB0.out HB0.out.size hb1)
        have HX1 := Lib.hid (HBX.out.below hb1)
        clear c0 c1 c2 c3 c4 c5 c6 c7
        have c0 := HX1.out.cell 0
        have c1 := HX1.out.cell 1
        have c2 := HX1.out.cell 2
        have c3 := HX1.out.cell 3
        have c4 := HX1.out.cell 4
        have c5 := HX1.out.cell 5
        have c6 := HX1.out.cell 6
        have c7 := HX1.out.cell 7
        simp only [List.getElem?_cons_zero, List.getElem?_cons_succ] at c0 c1 c2 c3 c4 c5 c6 c7
        have HG2 : (decide (r < 0) = true ∧ decide ((64 : Int) ≤ (n : Int)) = false) ∨ decide (r < 0) = false := by
          rcases HG with h | ⟨h, h2⟩
          · right; rw [hr, h]; rfl
          · left; rw [hr, h]; exact ⟨rfl, h2⟩
        have HXW := Lib.hid (HWT.out _ _ HR1.out)
        clear hb1 hr HG
        rcases HG2 with ⟨hr, h64⟩ | hr
        all_goals
          go_wp2_with (go_at_call 67; refine HXW.out.mono ?_; rintro e w4 ⟨v4, rfl, hr4, hb4⟩; have HR4 : Hid (Rf w4 v4 _) := Lib.hid (row_base hr4 (Nat.zero_le _)); have HL4 := Lib.hid (Lies.new (v := .slice a n c) hr4 HB1.out.size); have HB4 := Lib.hid (below_then HB1.out HB1.out.size hb4))
          go_ret2
          exact ⟨_, rfl, HR4.out, HL4.out, HB4.out⟩

end Go.Proofs.Ytondjponengedaa
