/-
  What the document says of the layer tracks, as plain functions: the order of names, how great a priority is, who is down.
-/
import Derived.Test.YtbeacddclphjgaaRows
import Derived.Laws.Strings
namespace Go.Proofs.Ytbeacddclphjgaa
set_option linter.unusedVariables false
set_option linter.unusedSimpArgs false

/-! ## Names -/
def lt8 (a b : ByteArray) : Bool := Op.bytesLess a.toList b.toList

theorem bl_irr : ∀ x : List UInt8, Op.bytesLess x x = false
  | [] => rfl
  | a :: r => by simp [Op.bytesLess, bl_irr r]
theorem bl_tri : ∀ x y : List UInt8, Op.bytesLess x y = false → Op.bytesLess y x = false → x = y
  | [], [], _, _ => rfl
  | [], _ :: _, h, _ => by simp [Op.bytesLess] at h
  | _ :: _, [], _, h => by simp [Op.bytesLess] at h
  | a :: r, b :: s, h, h' => by
    simp only [Op.bytesLess, Bool.or_eq_false_iff, Bool.and_eq_false_iff, decide_eq_false_iff_not, beq_eq_false_iff_ne, ne_eq] at h h'
    have e : a = b := UInt8.toNat_inj.1 (by have h1 := h.1; have h2 := h'.1; rw [UInt8.lt_iff_toNat_lt] at h1 h2; omega)
    subst e
    have h1 := h.2.resolve_left (by simp)
    have h2 := h'.2.resolve_left (by simp)
    rw [bl_tri r s h1 h2]
theorem bl_trans : ∀ x y z : List UInt8, Op.bytesLess x y = true → Op.bytesLess y z = true → Op.bytesLess x z = true
  | _, _, [], _, h => by rename_i y _; cases y <;> simp [Op.bytesLess] at h
  | [], _, _ :: _, _, _ => by simp [Op.bytesLess]
  | _ :: _, [], _, h, _ => by simp [Op.bytesLess] at h
  | a :: r, b :: s, c :: u, h, h' => by
    simp only [Op.bytesLess, Bool.or_eq_true, Bool.and_eq_true, decide_eq_true_eq, beq_iff_eq] at h h' ⊢
    rw [UInt8.lt_iff_toNat_lt] at *
    rcases h with h | ⟨rfl, h⟩ <;> rcases h' with h' | ⟨rfl, h'⟩
    · left; omega
    · left; exact h
    · left; exact h'
    · right; exact ⟨rfl, bl_trans r s u h h'⟩

theorem lt8_irr (a : ByteArray) : lt8 a a = false := bl_irr _
theorem lt8_trans {a b c : ByteArray} (h : lt8 a b = true) (h' : lt8 b c = true) : lt8 a c = true := bl_trans _ _ _ h h'
theorem toList_inj {a b : ByteArray} (h : a.toList = b.toList) : a = b := by
  rw [ByteArray.toList_eq, ByteArray.toList_eq] at h
  cases a; cases b
  simp at h
  exact congrArg _ h
theorem lt8_tri {a b : ByteArray} (h : lt8 a b = false) (h' : lt8 b a = false) : a = b := toList_inj (bl_tri _ _ h h')
theorem lt8_asym {a b : ByteArray} (h : lt8 a b = true) : lt8 b a = false := by
  rcases h' : lt8 b a with _ | _
  · rfl
  · have := lt8_trans h h'; rw [lt8_irr] at this; cases this
/-- Not above, and that passes on. -/
theorem le8_trans {a b c : ByteArray} (h : lt8 b a = false) (h' : lt8 c b = false) : lt8 c a = false := by
  rcases h1 : lt8 c a with _ | _
  · rfl
  · rcases h2 : lt8 a b with _ | _
    · have e := lt8_tri h h2
      subst e
      rw [h1] at h'; cases h'
    · have := lt8_trans h1 h2; rw [this] at h'; cases h'

/-- Rising. -/
def Srt (l : List ByteArray) : Prop := l.Pairwise (fun a b => lt8 a b = true)
theorem Srt.same {l m : List ByteArray} (h : Srt l) (h' : Srt m) (hp : l.Perm m) : l = m := by
  refine List.Perm.eq_of_pairwise (le := fun a b => lt8 a b = true) (fun a b _ _ h1 h2 => ?_) h h' hp
  have := lt8_trans h1 h2; rw [lt8_irr] at this; cases this

/-- A name among rising ones. -/
def insN (x : ByteArray) : List ByteArray → List ByteArray
  | [] => [x]
  | y :: r => if lt8 x y then x :: y :: r else y :: insN x r
theorem insN_perm (x : ByteArray) : ∀ l, (insN x l).Perm (x :: l)
  | [] => .refl _
  | y :: r => by
    unfold insN
    split
    · exact .refl _
    · exact ((insN_perm x r).cons y).trans (.swap x y r)
theorem insN_srt {x : ByteArray} : ∀ {l : List ByteArray}, Srt l → x ∉ l → Srt (insN x l)
  | [], _, _ => by simp [insN, Srt]
  | y :: r, h, hx => by
    obtain ⟨h1, h2⟩ := List.pairwise_cons.1 h
    unfold insN
    split
    · rename_i hxy
      exact List.pairwise_cons.2 ⟨fun z hz => by
        rcases List.mem_cons.1 hz with rfl | hz
        · exact hxy
        · exact lt8_trans hxy (h1 z hz), h⟩
    · rename_i hxy
      refine List.pairwise_cons.2 ⟨fun z hz => ?_, insN_srt h2 fun hm => hx (by simp [hm])⟩
      rcases List.mem_cons.1 ((insN_perm x r).mem_iff.1 hz) with rfl | hz
      · rcases hyx : lt8 y z with _ | _
        · exact absurd (lt8_tri (by simpa using hxy) hyx) fun e => hx (by simp [e])
        · rfl
      · exact h1 z hz
theorem insN_end {x : ByteArray} : ∀ {l : List ByteArray}, (∀ y ∈ l, lt8 x y = false) → insN x l = l ++ [x]
  | [], _ => rfl
  | y :: r, h => by
    unfold insN
    rw [if_neg (by simp [h y (by simp)]), insN_end fun z hz => h z (by simp [hz])]
    rfl
theorem insN_at {x y : ByteArray} : ∀ {l r : List ByteArray}, (∀ z ∈ l, lt8 x z = false) → lt8 x y = true → insN x (l ++ y :: r) = l ++ x :: y :: r
  | [], r, _, h => by simp [insN, h]
  | z :: l, r, hz, h => by
    show insN x (z :: (l ++ y :: r)) = _
    unfold insN
    rw [if_neg (by simp [hz z (by simp)]), insN_at (fun u hu => hz u (by simp [hu])) h]
    rfl

/-! ## Tracks -/
structure Bk where
  name : ByteArray
  wt : Int
deriving Inhabited
structure Tk where
  name : ByteArray
  wt : Int
  up : Bool
deriving Inhabited

def Fit (b : Bk) : Prop := 1 ≤ b.name.size ∧ b.name.size ≤ 40 ∧ b.wt ≠ 0 ∧ -254 ≤ b.wt ∧ b.wt ≤ 254
instance (b : Bk) : Decidable (Fit b) := by unfold Fit; infer_instance
/-- Nobody's name is another one's. -/
def Apart (l : List Bk) : Prop := l.Pairwise fun a b => a.name ≠ b.name
/-- These may be the tracks of a set. -/
def Right (l : List Bk) : Prop := l.length ≤ 8 ∧ (∀ b ∈ l, Fit b) ∧ Apart l

def tk (b : Bk) (u : Bool) : Tk := ⟨b.name, b.wt, u⟩
def fresh (l : List Bk) : List Tk := l.map fun b => tk b false
def bks (T : List Tk) : List Bk := T.map fun t => ⟨t.name, t.wt⟩
theorem bks_fresh (l : List Bk) : bks (fresh l) = l := by
  unfold bks fresh tk
  rw [List.map_map]
  exact List.map_id _

/-- What a set's tracks are. -/
structure Okay (T : List Tk) : Prop where
  len : T.length ≤ 8
  fit : ∀ t ∈ T, 1 ≤ t.name.size ∧ t.name.size ≤ 40 ∧ t.wt ≠ 0 ∧ -254 ≤ t.wt ∧ t.wt ≤ 254
  apart : T.Pairwise fun a b => a.name ≠ b.name
theorem okay_fresh {l : List Bk} (h : Right l) : Okay (fresh l) where
  len := by simpa [fresh] using h.1
  fit := fun t ht => by
    obtain ⟨b, hb, rfl⟩ := List.mem_map.1 ht
    exact h.2.1 b hb
  apart := by
    unfold fresh
    rw [List.pairwise_map]
    exact h.2.2

def look (T : List Tk) (x : ByteArray) : Option Tk := T.find? fun t => decide (t.name = x)
def tel (T : List Tk) (x : ByteArray) (u : Bool) : List Tk := T.map fun t => if t.name = x then tk ⟨t.name, t.wt⟩ u else t

theorem look_some {T : List Tk} {x : ByteArray} {t : Tk} (h : look T x = some t) : t ∈ T ∧ t.name = x := by
  have h1 := List.mem_of_find?_eq_some h
  have h2 := List.find?_some h
  exact ⟨h1, by simpa using h2⟩
theorem look_none {T : List Tk} {x : ByteArray} (h : look T x = none) : ∀ t ∈ T, t.name ≠ x := fun t ht => by
  simpa using List.find?_eq_none.1 h t ht
theorem look_mem {T : List Tk} (h : T.Pairwise fun a b => a.name ≠ b.name) {t : Tk} (ht : t ∈ T) : look T t.name = some t := by
  induction T with
  | nil => simp at ht
  | cons s r ih =>
    obtain ⟨h1, h2⟩ := List.pairwise_cons.1 h
    unfold look
    rw [List.find?_cons]
    rcases List.mem_cons.1 ht with rfl | ht
    · simp
    · simp [h1 t ht]
      exact ih h2 ht
theorem tel_name (T : List Tk) (x : ByteArray) (u : Bool) : (tel T x u).map Tk.name = T.map Tk.name := by
  unfold tel
  rw [List.map_map]
  refine List.map_congr_left fun t _ => ?_
  simp only [Function.comp]
  split <;> rfl
theorem tel_bks (T : List Tk) (x : ByteArray) (u : Bool) : bks (tel T x u) = bks T := by
  unfold tel bks
  rw [List.map_map]
  refine List.map_congr_left fun t _ => ?_
  simp only [Function.comp]
  split <;> rfl
theorem tel_len (T : List Tk) (x : ByteArray) (u : Bool) : (tel T x u).length = T.length := by simp [tel]
theorem tel_none {T : List Tk} {x : ByteArray} (u : Bool) (h : look T x = none) : tel T x u = T := by
  unfold tel
  conv => rhs; rw [← List.map_id T]
  refine List.map_congr_left fun t ht => ?_
  rw [if_neg (look_none h t ht)]; rfl
theorem pairwise_name {T T' : List Tk} (e : T'.map Tk.name = T.map Tk.name) (h : T.Pairwise fun a b => a.name ≠ b.name) : T'.Pairwise fun a b => a.name ≠ b.name := by
  have h1 : (T.map Tk.name).Pairwise (· ≠ ·) := by rw [List.pairwise_map]; exact h
  rw [← e, List.pairwise_map] at h1
  exact h1
theorem Okay.tel {T : List Tk} (h : Okay T) (x : ByteArray) (u : Bool) : Okay (tel T x u) where
  len := by rw [tel_len]; exact h.len
  fit := fun t ht => by
    unfold Go.Proofs.Ytbeacddclphjgaa.tel at ht
    obtain ⟨s, hs, rfl⟩ := List.mem_map.1 ht
    have := h.fit s hs
    split <;> exact this
  apart := pairwise_name (tel_name T x u) h.apart
theorem look_tel (T : List Tk) (x y : ByteArray) (u : Bool) : look (tel T x u) y = if y = x then (look T x).map (fun t => tk ⟨t.name, t.wt⟩ u) else look T y := by
  induction T with
  | nil => simp [tel, look]
  | cons t r ih =>
    have ih' : List.find? (fun t => decide (t.name = y)) (tel r x u) = if y = x then (look r x).map (fun t => tk ⟨t.name, t.wt⟩ u) else look r y := ih
    have e : tel (t :: r) x u = (if t.name = x then tk ⟨t.name, t.wt⟩ u else t) :: tel r x u := rfl
    unfold look
    rw [e, List.find?_cons, List.find?_cons, List.find?_cons]
    by_cases hyx : y = x
    · subst hyx
      rw [if_pos rfl] at ih' ⊢
      by_cases ht : t.name = y
      · rw [if_pos ht]
        have e1 : decide ((tk ⟨t.name, t.wt⟩ u).name = y) = true := decide_eq_true ht
        rw [e1, decide_eq_true ht]
        rfl
      · rw [if_neg ht]
        simp [ht]
        exact ih'
    · rw [if_neg hyx] at ih' ⊢
      by_cases ht : t.name = x
      · rw [if_pos ht]
        have e1 : (tk ⟨t.name, t.wt⟩ u).name ≠ y := fun e2 => hyx (e2.symm.trans ht)
        have e3 : t.name ≠ y := e1
        simp [e1, e3]
        exact ih'
      · rw [if_neg ht]
        by_cases hty : t.name = y
        · simp [hty]
        · simp [hty]
          exact ih'

/-! ## The priority -/
def cnt (t : Tk) : Int := if t.up then max t.wt 0 else min t.wt 0
def tot : List Tk → Int
  | [] => 0
  | t :: r => cnt t + tot r
def prio (b : Int) (T : List Tk) : Int := if b = 255 then 255 else min (max (b + tot T) 1) 254

theorem cnt_le {t : Tk} (h : -254 ≤ t.wt ∧ t.wt ≤ 254) : -254 ≤ cnt t ∧ cnt t ≤ 254 := by
  unfold cnt
  split <;> omega
theorem prio_ge {b : Int} {T : List Tk} : 1 ≤ prio b T ∧ prio b T ≤ 255 := by
  unfold prio
  split <;> omega
theorem prio_owner (T : List Tk) : prio 255 T = 255 := rfl
theorem prio_not {b : Int} {T : List Tk} (h : b ≠ 255) : prio b T ≤ 254 := by
  unfold prio
  rw [if_neg h]
  omega
theorem prio_mono {b : Int} {T T' : List Tk} (h : tot T ≤ tot T') : prio b T ≤ prio b T' := by
  unfold prio
  split <;> omega
theorem tot_up : ∀ (T : List Tk) (x : ByteArray), tot T ≤ tot (tel T x true)
  | [], _ => Int.le_refl _
  | t :: r, x => by
    have ih := tot_up r x
    have e : tel (t :: r) x true = (if t.name = x then tk ⟨t.name, t.wt⟩ true else t) :: tel r x true := rfl
    rw [e]
    show cnt t + tot r ≤ cnt _ + tot (tel r x true)
    have : cnt t ≤ cnt (if t.name = x then tk ⟨t.name, t.wt⟩ true else t) := by
      split
      · unfold cnt tk
        simp only [if_pos]
        split <;> omega
      · exact Int.le_refl _
    omega
theorem tot_down : ∀ (T : List Tk) (x : ByteArray), tot (tel T x false) ≤ tot T
  | [], _ => Int.le_refl _
  | t :: r, x => by
    have ih := tot_down r x
    have e : tel (t :: r) x false = (if t.name = x then tk ⟨t.name, t.wt⟩ false else t) :: tel r x false := rfl
    rw [e]
    show cnt _ + tot (tel r x false) ≤ cnt t + tot r
    have : cnt (if t.name = x then tk ⟨t.name, t.wt⟩ false else t) ≤ cnt t := by
      split
      · unfold cnt tk
        simp only [Bool.false_eq_true, if_false]
        split <;> omega
      · exact Int.le_refl _
    omega

/-! ## Who is down -/
def dnF (out : List ByteArray) (T : List Tk) : List ByteArray := T.foldl (fun o t => if t.up then o else insN t.name o) out
def dn (T : List Tk) : List ByteArray := dnF [] T
def dns (T : List Tk) : List ByteArray := (T.filter fun t => !t.up).map Tk.name

theorem dnF_perm : ∀ (T : List Tk) (out : List ByteArray), (dnF out T).Perm (dns T ++ out)
  | [], out => .refl _
  | t :: r, out => by
    unfold dnF
    rw [List.foldl_cons]
    have ih := dnF_perm r (if t.up then out else insN t.name out)
    unfold dnF at ih
    refine ih.trans ?_
    cases hu : t.up
    · have e : dns (t :: r) = t.name :: dns r := by simp [dns, hu]
      rw [e]
      simp only [Bool.false_eq_true, if_false]
      exact ((insN_perm t.name out).append_left _).trans List.perm_middle
    · have e : dns (t :: r) = dns r := by simp [dns, hu]
      rw [e]
      exact .refl _
theorem dn_perm (T : List Tk) : (dn T).Perm (dns T) := by simpa [dn] using dnF_perm T []
theorem dns_mem {T : List Tk} {x : ByteArray} : x ∈ dns T ↔ ∃ t ∈ T, t.up = false ∧ t.name = x := by
  unfold dns
  rw [List.mem_map]
  constructor
  · rintro ⟨t, ht, rfl⟩
    obtain ⟨h1, h2⟩ := List.mem_filter.1 ht
    exact ⟨t, h1, by simpa using h2, rfl⟩
  · rintro ⟨t, h1, h2, rfl⟩
    exact ⟨t, List.mem_filter.2 ⟨h1, by simp [h2]⟩, rfl⟩
theorem dnF_srt : ∀ (T : List Tk) (out : List ByteArray), T.Pairwise (fun a b => a.name ≠ b.name) → Srt out → (∀ t ∈ T, t.name ∉ out) → Srt (dnF out T)
  | [], out, _, h, _ => h
  | t :: r, out, hT, h, hn => by
    obtain ⟨h1, h2⟩ := List.pairwise_cons.1 hT
    have e : dnF out (t :: r) = dnF (if t.up then out else insN t.name out) r := rfl
    rw [e]
    cases hu : t.up
    · simp only [Bool.false_eq_true, if_false]
      refine dnF_srt r _ h2 (insN_srt h (hn t (by simp))) fun s hs hm => ?_
      rcases List.mem_cons.1 ((insN_perm t.name out).mem_iff.1 hm) with e | hm
      · exact h1 s hs e.symm
      · exact hn s (by simp [hs]) hm
    · simp only [if_true]
      exact dnF_srt r _ h2 h fun s hs => hn s (by simp [hs])
theorem dn_srt {T : List Tk} (h : Okay T) : Srt (dn T) := dnF_srt T [] h.apart List.Pairwise.nil fun _ _ => by simp
/-- Whoever tells those that are down, rising, tells these. -/
theorem dn_eq {T : List Tk} (h : Okay T) {l : List ByteArray} (hs : Srt l) (hp : l.Perm (dns T)) : l = dn T := hs.same (dn_srt h) (hp.trans (dn_perm T).symm)
theorem dns_len (T : List Tk) : (dns T).length = T.countP fun t => !t.up := by
  unfold dns
  rw [List.length_map, List.countP_eq_length_filter]
theorem dn_len (T : List Tk) : (dn T).length = T.countP fun t => !t.up := by rw [(dn_perm T).length_eq, dns_len]
theorem dn_le {T : List Tk} (h : Okay T) : (dn T).length ≤ 8 := by
  rw [dn_len]
  exact Nat.le_trans List.countP_le_length h.len
theorem dn_up {T : List Tk} (h : Okay T) {x : ByteArray} (hx : x ∈ dn T) : ∃ t, look T x = some t ∧ t.up = false := by
  obtain ⟨t, h1, h2, rfl⟩ := dns_mem.1 ((dn_perm T).mem_iff.1 hx)
  exact ⟨t, look_mem h.apart h1, h2⟩

/-! ## The same tracks, each up or down -/
def upd (l : List Bk) (f : Nat → Bool) : List Tk := (List.range l.length).map fun i => tk l[i]! (f i)
theorem upd_fresh (l : List Bk) : upd l (fun _ => false) = fresh l := by
  unfold upd fresh
  apply List.ext_getElem (by simp)
  intro i h1 h2
  have h3 : i < l.length := by simpa using h2
  rw [List.getElem_map, List.getElem_map, List.getElem_range, getElem!_pos l i h3]
theorem upd_congr {l : List Bk} {f g : Nat → Bool} (h : ∀ i, i < l.length → f i = g i) : upd l f = upd l g := by
  unfold upd
  refine List.map_congr_left fun i hi => ?_
  rw [h i (List.mem_range.1 hi)]
theorem upd_tel {l : List Bk} (h : Apart l) {k : Nat} (hk : k < l.length) (f : Nat → Bool) (u : Bool) : tel (upd l f) (l[k]!).name u = upd l (fun i => if i = k then u else f i) := by
  unfold upd tel
  rw [List.map_map]
  refine List.map_congr_left fun i hi => ?_
  have hi' := List.mem_range.1 hi
  simp only [Function.comp]
  by_cases e : i = k
  · subst e
    simp [tk]
  · have hne : (l[i]!).name ≠ (l[k]!).name := by
      rw [getElem!_pos l i hi', getElem!_pos l k hk]
      have h1 := List.pairwise_iff_getElem.1 h
      rcases Nat.lt_or_gt_of_ne e with h2 | h2
      · exact h1 i k hi' hk h2
      · exact (h1 k i hk hi' h2).symm
    rw [if_neg (show ¬ (tk l[i]! (f i)).name = (l[k]!).name from hne), if_neg e]
end Go.Proofs.Ytbeacddclphjgaa
