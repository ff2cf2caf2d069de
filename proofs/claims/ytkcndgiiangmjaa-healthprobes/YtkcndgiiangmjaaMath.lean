/-
  Timers in order; in which slot a time's are; what is due.
-/
import Derived.Test.YtkcndgiiangmjaaRows
namespace Go.Proofs.Ytkcndgiiangmjaa
set_option linter.unusedVariables false
set_option linter.unusedSimpArgs false

structure Tm where
  id : Nat
  at_ : Nat
deriving Inhabited

/-- Told ahead of another one. -/
def pre (a b : Tm) : Bool := decide (a.at_ < b.at_) || (decide (a.at_ = b.at_) && decide (a.id < b.id))
theorem pre_iff {a b : Tm} : pre a b = true ↔ a.at_ < b.at_ ∨ a.at_ = b.at_ ∧ a.id < b.id := by simp [pre]
theorem pre_trans {a b c : Tm} (h : pre a b = true) (h' : pre b c = true) : pre a c = true := by
  rw [pre_iff] at *; omega
theorem pre_irr (a : Tm) : pre a a = false := by simp [pre]
theorem pre_asymm {a b : Tm} (h : pre a b = true) : pre b a = false := by
  cases h' : pre b a
  · rfl
  · rw [pre_iff] at *; omega
theorem pre_total {a b : Tm} (h : a.id ≠ b.id) (h' : pre a b = false) : pre b a = true := by
  rw [pre_iff]
  have : ¬ (pre a b = true) := by simp [h']
  rw [pre_iff] at this
  omega

def Srt (l : List Tm) : Prop := l.Pairwise (fun a b => pre a b = true)
theorem Srt.filter {l : List Tm} (h : Srt l) (p : Tm → Bool) : Srt (l.filter p) := List.Pairwise.filter p h

/-! ## Places -/
def plf : Nat → Nat → Nat → Nat
  | 0, a, _ => a % 64
  | f + 1, a, n => if a / 64 = n / 64 then a % 64 else 64 + plf f (a / 64) (n / 64)
/-- The slot of a time. -/
def pl (now a : Nat) : Nat := plf 6 (max a now) now

theorem plf_lt : ∀ f a n, plf f a n < 64 * (f + 1)
  | 0, a, n => by simp only [plf]; omega
  | f + 1, a, n => by
    have := plf_lt f (a / 64) (n / 64)
    simp only [plf]
    split <;> omega
theorem pl_lt (now a : Nat) : pl now a < 448 := plf_lt 6 _ _

theorem plf_mono : ∀ f a b n, n ≤ a → a ≤ b → b < 64 ^ (f + 1) → plf f a n ≤ plf f b n
  | 0, a, b, n, h1, h2, h3 => by simp only [plf]; omega
  | f + 1, a, b, n, h1, h2, h3 => by
    have hb : b / 64 < 64 ^ (f + 1) := by rw [Nat.pow_succ] at h3; omega
    have ih := plf_mono f (a / 64) (b / 64) (n / 64) (by omega) (by omega) hb
    simp only [plf]
    split <;> split <;> omega
theorem pl_mono {now a b : Nat} (hn : now ≤ 1099511627776) (hb : b ≤ 1099511627776) (h : a ≤ b) : pl now a ≤ pl now b :=
  plf_mono 6 _ _ _ (by omega) (by omega) (by omega)

theorem plf_stay : ∀ f a m n, n ≤ m → m < a → plf f m n < plf f a n → plf f a m = plf f a n
  | 0, a, m, n, _, _, _ => rfl
  | f + 1, a, m, n, h1, h2, h3 => by
    simp only [plf] at h3 ⊢
    by_cases hm : m / 64 = n / 64
    · rw [hm]
    · have ha : ¬ a / 64 = n / 64 := by omega
      rw [if_neg hm, if_neg ha] at h3
      rw [if_neg ha]
      by_cases hs : a / 64 = m / 64
      · rw [hs] at h3; omega
      · rw [if_neg hs, plf_stay f (a / 64) (m / 64) (n / 64) (by omega) (by omega) (by omega)]
theorem pl_stay {now m a : Nat} (h1 : now ≤ m) (h2 : m < a) (h : pl now m < pl now a) : pl m a = pl now a := by
  have e1 : max a now = a := by omega
  have e2 : max m now = m := by omega
  have e3 : max a m = a := by omega
  unfold pl at h ⊢
  rw [e1, e2] at h
  rw [e1, e3]
  exact plf_stay 6 a m now h1 h2 h

/-! ## Rows of timers -/
def slot (now : Nat) (L : List Tm) (k : Nat) : List Tm := L.filter fun t => pl now t.at_ == k
def wout (L : List Tm) (id : Nat) : List Tm := L.filter fun t => t.id != id
def ins (t : Tm) : List Tm → List Tm
  | [] => [t]
  | x :: r => if pre t x then t :: x :: r else x :: ins t r
def look (L : List Tm) (x : Int) : Option Nat := (L.find? fun t => (t.id : Int) == x).map (·.at_)

/-- What is known of the timers that are set. -/
structure Fit (L : List Tm) : Prop where
  srt : Srt L
  nodup : L.Pairwise (fun a b => a.id ≠ b.id)
  wide : ∀ t ∈ L, t.id ≤ 65535 ∧ t.at_ ≤ 1099511627776

theorem Fit.nil : Fit [] := ⟨List.Pairwise.nil, List.Pairwise.nil, by simp⟩
theorem Fit.filter {L : List Tm} (h : Fit L) (p : Tm → Bool) : Fit (L.filter p) :=
  ⟨h.srt.filter p, List.Pairwise.filter p h.nodup, fun t ht => h.wide t (List.mem_filter.1 ht).1⟩
theorem Fit.wout {L : List Tm} (h : Fit L) (id : Nat) : Fit (wout L id) := h.filter _
theorem wout_not {L : List Tm} {id : Nat} : ∀ t ∈ wout L id, t.id ≠ id := fun t ht => by
  have := (List.mem_filter.1 ht).2
  simpa using this

theorem mem_ins {t x : Tm} : ∀ {L : List Tm}, x ∈ ins t L ↔ x = t ∨ x ∈ L
  | [] => by simp [ins]
  | y :: r => by
    rw [ins]
    split
    · simp
    · simp only [List.mem_cons, mem_ins (L := r)]
      constructor
      · rintro (h | h | h)
        · exact .inr (.inl h)
        · exact .inl h
        · exact .inr (.inr h)
      · rintro (h | h | h)
        · exact .inr (.inl h)
        · exact .inl h
        · exact .inr (.inr h)
theorem ins_length (t : Tm) : ∀ L : List Tm, (ins t L).length = L.length + 1
  | [] => rfl
  | y :: r => by
    rw [ins]
    split
    · rfl
    · simp [ins_length t r]

theorem ins_srt {t : Tm} : ∀ {L : List Tm}, Srt L → (∀ x ∈ L, x.id ≠ t.id) → Srt (ins t L)
  | [], _, _ => by simp [ins, Srt]
  | y :: r, h, hn => by
    unfold Srt at h
    rw [List.pairwise_cons] at h
    rw [ins]
    by_cases hp : pre t y = true
    · rw [if_pos hp]
      refine List.pairwise_cons.2 ⟨fun x hx => ?_, List.pairwise_cons.2 h⟩
      rcases List.mem_cons.1 hx with rfl | hx
      · exact hp
      · exact pre_trans hp (h.1 x hx)
    · rw [if_neg hp]
      refine List.pairwise_cons.2 ⟨fun x hx => ?_, ins_srt h.2 (fun x hx => hn x (by simp [hx]))⟩
      rcases mem_ins.1 hx with rfl | hx
      · exact pre_total (Ne.symm (hn y (by simp))) (by simpa using hp)
      · exact h.1 x hx
theorem ins_nodup {t : Tm} : ∀ {L : List Tm}, L.Pairwise (fun a b => a.id ≠ b.id) → (∀ x ∈ L, x.id ≠ t.id) → (ins t L).Pairwise (fun a b => a.id ≠ b.id)
  | [], _, _ => by simp [ins]
  | y :: r, h, hn => by
    rw [List.pairwise_cons] at h
    rw [ins]
    split
    · exact List.pairwise_cons.2 ⟨fun x hx => Ne.symm (hn x hx), List.pairwise_cons.2 h⟩
    · refine List.pairwise_cons.2 ⟨fun x hx => ?_, ins_nodup h.2 (fun x hx => hn x (by simp [hx]))⟩
      rcases mem_ins.1 hx with rfl | hx
      · exact hn y (by simp)
      · exact h.1 x hx
theorem Fit.ins {L : List Tm} (h : Fit L) {t : Tm} (hn : ∀ x ∈ L, x.id ≠ t.id) (ht : t.id ≤ 65535 ∧ t.at_ ≤ 1099511627776) : Fit (ins t L) :=
  ⟨ins_srt h.srt hn, ins_nodup h.nodup hn, fun x hx => by
    rcases mem_ins.1 hx with rfl | hx
    · exact ht
    · exact h.wide x hx⟩

theorem ins_first {t : Tm} : ∀ {L : List Tm}, (∀ x ∈ L, pre t x = true) → ins t L = t :: L
  | [], _ => rfl
  | y :: r, h => by rw [ins, if_pos (h y (by simp))]
theorem ins_behind {t : Tm} : ∀ {A M : List Tm}, (∀ x ∈ A, pre x t = true) → (∀ x ∈ M, pre t x = true) → ins t (A ++ M) = A ++ t :: M
  | [], M, _, h => ins_first h
  | y :: r, M, hA, h => by
    rw [List.cons_append, ins, if_neg (by rw [pre_asymm (hA y (by simp))]; simp), ins_behind (fun x hx => hA x (by simp [hx])) h]
    rfl

theorem filter_ins {t : Tm} (p : Tm → Bool) : ∀ {L : List Tm}, Srt L → (ins t L).filter p = if p t = true then ins t (L.filter p) else L.filter p
  | [], _ => by
    simp only [ins, List.filter_cons, List.filter_nil]
  | y :: r, h => by
    unfold Srt at h
    rw [List.pairwise_cons] at h
    have ih := filter_ins (t := t) p h.2
    rw [ins]
    by_cases hp : pre t y = true
    · rw [if_pos hp, List.filter_cons]
      by_cases ht : p t = true
      · rw [if_pos ht, if_pos ht, ins_first]
        intro x hx
        rcases List.mem_cons.1 (List.mem_filter.1 hx).1 with rfl | hx
        · exact hp
        · exact pre_trans hp (h.1 x hx)
      · rw [if_neg ht, if_neg ht]
    · rw [if_neg hp, List.filter_cons, ih, List.filter_cons]
      by_cases hy : p y = true
      · rw [if_pos hy, if_pos hy]
        by_cases ht : p t = true
        · rw [if_pos ht, if_pos ht, ins, if_neg hp]
        · rw [if_neg ht, if_neg ht]
      · rw [if_neg hy, if_neg hy]

theorem slot_ins {now : Nat} {L : List Tm} (h : Srt L) (t : Tm) (k : Nat) : slot now (ins t L) k = if pl now t.at_ = k then ins t (slot now L k) else slot now L k := by
  unfold slot
  rw [filter_ins _ h]
  simp only [beq_iff_eq]
theorem slot_wout {now : Nat} {L : List Tm} (id k : Nat) : slot now (wout L id) k = wout (slot now L k) id := by
  unfold slot wout
  rw [List.filter_filter, List.filter_filter]
  congr 1
  funext t
  exact Bool.and_comm _ _
theorem wout_none {L : List Tm} {id : Nat} (h : ∀ x ∈ L, x.id ≠ id) : wout L id = L := List.filter_eq_self.2 fun x hx => by simpa using h x hx

/-! ## At which index -/
def cnt (t : Tm) (l : List Tm) : Nat := l.countP fun x => pre x t
theorem cnt_le (t : Tm) (l : List Tm) : cnt t l ≤ l.length := List.countP_le_length
theorem cnt_none {t : Tm} : ∀ {l : List Tm}, (∀ x ∈ l, pre x t = false) → cnt t l = 0 := fun h => List.countP_eq_zero.2 fun x hx => by simp [h x hx]
theorem ins_at {t : Tm} : ∀ {l : List Tm}, Srt l → (∀ x ∈ l, x.id ≠ t.id) → ins t l = l.take (cnt t l) ++ t :: l.drop (cnt t l)
  | [], _, _ => rfl
  | y :: r, h, hn => by
    unfold Srt at h
    rw [List.pairwise_cons] at h
    by_cases hp : pre t y = true
    · have h0 : cnt t (y :: r) = 0 := cnt_none fun x hx => by
        rcases List.mem_cons.1 hx with rfl | hx
        · exact pre_asymm hp
        · exact pre_asymm (pre_trans hp (h.1 x hx))
      rw [h0, ins, if_pos hp]
      rfl
    · have hy : pre y t = true := pre_total (Ne.symm (hn y (by simp))) (by simpa using hp)
      have h1 : cnt t (y :: r) = cnt t r + 1 := by
        unfold cnt
        exact List.countP_cons_of_pos (p := fun x => pre x t) hy
      rw [h1, ins, if_neg hp, ins_at h.2 (fun x hx => hn x (by simp [hx]))]
      rfl
theorem wout_at {t : Tm} : ∀ {l : List Tm}, Srt l → l.Pairwise (fun a b => a.id ≠ b.id) → t ∈ l → cnt t l < l.length ∧ wout l t.id = l.take (cnt t l) ++ l.drop (cnt t l + 1)
  | [], _, _, h => by simp at h
  | y :: r, h, hd, ht => by
    unfold Srt at h
    rw [List.pairwise_cons] at h hd
    rcases List.mem_cons.1 ht with rfl | ht
    · have h0 : cnt t (t :: r) = 0 := cnt_none fun x hx => by
        rcases List.mem_cons.1 hx with rfl | hx
        · exact pre_irr _
        · exact pre_asymm (h.1 x hx)
      refine ⟨by rw [h0]; simp, ?_⟩
      rw [h0]
      have e : wout (t :: r) t.id = wout r t.id := by simp [wout]
      rw [e, wout_none (fun x hx => Ne.symm (hd.1 x hx))]
      rfl
    · obtain ⟨i1, i2⟩ := wout_at h.2 hd.2 ht
      have h1 : cnt t (y :: r) = cnt t r + 1 := by
        unfold cnt
        exact List.countP_cons_of_pos (p := fun x => pre x t) (h.1 t ht)
      refine ⟨by rw [h1]; simp; omega, ?_⟩
      have hne := hd.1 t ht
      have e : wout (y :: r) t.id = y :: wout r t.id := by simp [wout, hne]
      rw [e, h1, i2]
      rfl
/-- Those ahead of a timer stand first. -/
theorem cnt_first {t : Tm} : ∀ {l : List Tm}, Srt l → ∀ i, i < l.length → (pre l[i]! t = true ↔ i < cnt t l)
  | [], _, i, h => by simp at h
  | y :: r, h, i, hi => by
    unfold Srt at h
    rw [List.pairwise_cons] at h
    by_cases hy : pre y t = true
    · have h1 : cnt t (y :: r) = cnt t r + 1 := by
        unfold cnt
        exact List.countP_cons_of_pos (p := fun x => pre x t) hy
      rw [h1]
      rcases i with _ | i
      · simp [hy]
      · have := cnt_first (t := t) h.2 i (by simpa using hi)
        simp only [List.getElem!_cons_succ]
        rw [this]
        omega
    · have h0 : cnt t (y :: r) = 0 := cnt_none fun x hx => by
        rcases List.mem_cons.1 hx with rfl | hx
        · simpa using hy
        · cases hx2 : pre x t
          · rfl
          · exact absurd (pre_trans (h.1 x hx) hx2) hy
      rw [h0]
      constructor
      · intro hp
        exfalso
        rcases i with _ | i
        · exact hy (by simpa using hp)
        · simp only [List.getElem!_cons_succ] at hp
          have hi' : i < r.length := by simpa using hi
          rw [getElem!_pos r i hi'] at hp
          exact hy (pre_trans (h.1 _ (List.getElem_mem hi')) hp)
      · omega

/-! ## What is next, what is due -/
theorem slot_mono {now : Nat} {L : List Tm} (h : Fit L) (hn : now ≤ 1099511627776) : L.Pairwise (fun a b => pl now a.at_ ≤ pl now b.at_) :=
  List.Pairwise.imp_of_mem (fun {a b} ha hb hp => pl_mono hn (h.wide b hb).2 (by rw [pre_iff] at hp; omega)) h.srt

theorem filter_next {α : Type} (f : α → Nat) (k : Nat) : ∀ {l : List α}, l.Pairwise (fun a b => f a ≤ f b) → l.filter (fun x => decide (f x < k + 1)) = l.filter (fun x => decide (f x < k)) ++ l.filter (fun x => f x == k)
  | [], _ => rfl
  | y :: r, h => by
    rw [List.pairwise_cons] at h
    have ih := filter_next f k h.2
    rw [List.filter_cons, List.filter_cons, List.filter_cons, ih]
    by_cases h1 : f y < k
    · have h2 : ¬ f y = k := by omega
      have h3 : f y < k + 1 := by omega
      simp [h1, h2, h3]
    · have hz : r.filter (fun x => decide (f x < k)) = [] := List.filter_eq_nil_iff.2 fun x hx => by
        have := h.1 x hx
        simp; omega
      by_cases h2 : f y = k
      · have h3 : f y < k + 1 := by omega
        simp [h2, hz]
      · have h3 : ¬ f y < k + 1 := by omega
        simp [h1, h2, h3, hz]
theorem filter_rest {α : Type} (f : α → Nat) (k : Nat) : ∀ {l : List α}, l.Pairwise (fun a b => f a ≤ f b) → l = l.filter (fun x => decide (f x < k)) ++ l.filter (fun x => !decide (f x < k))
  | [], _ => rfl
  | y :: r, h => by
    rw [List.pairwise_cons] at h
    have ih := filter_rest f k h.2
    rw [List.filter_cons, List.filter_cons]
    by_cases h1 : f y < k
    · simp only [h1, decide_true, if_true, Bool.not_true, Bool.false_eq_true, if_false, List.cons_append]
      rw [← ih]
    · have hz : r.filter (fun x => decide (f x < k)) = [] := List.filter_eq_nil_iff.2 fun x hx => by
        have := h.1 x hx
        simp; omega
      rw [hz] at ih ⊢
      simp only [h1, decide_false, Bool.false_eq_true, if_false, Bool.not_false, if_true, List.nil_append] at ih ⊢
      rw [← ih]

/-- The timers of the first slots. -/
def firsts (now : Nat) (L : List Tm) (k : Nat) : List Tm := L.filter fun t => decide (pl now t.at_ < k)
theorem firsts_zero (now : Nat) (L : List Tm) : firsts now L 0 = [] := List.filter_eq_nil_iff.2 fun x _ => by simp
theorem firsts_next {now : Nat} {L : List Tm} (h : Fit L) (hn : now ≤ 1099511627776) (k : Nat) : firsts now L (k + 1) = firsts now L k ++ slot now L k := filter_next (fun t : Tm => pl now t.at_) k (slot_mono h hn)
theorem firsts_all (now : Nat) (L : List Tm) : firsts now L 448 = L := List.filter_eq_self.2 fun x _ => by simpa using pl_lt now x.at_

/-- What is due, and what is left. -/
def due (L : List Tm) (now : Nat) : List Tm := L.filter fun t => decide (t.at_ ≤ now)
def left (L : List Tm) (now : Nat) : List Tm := L.filter fun t => !decide (t.at_ ≤ now)
def ids (L : List Tm) : List Int := L.map fun t => (t.id : Int)

theorem due_firsts {now m : Nat} {L : List Tm} (h : Fit L) (hn : now ≤ m) (hm : m ≤ 1099511627776) : due (firsts now L (pl now m + 1)) m = due L m := by
  unfold due firsts
  rw [List.filter_filter]
  apply List.filter_congr
  intro t ht
  by_cases hd : t.at_ ≤ m
  · have := pl_mono (now := now) (by omega) hm hd
    simp [hd]; omega
  · simp [hd]
/-- What stays in its slot. -/
def rest (now m : Nat) (L : List Tm) : List Tm := L.filter fun t => !decide (pl now t.at_ < pl now m + 1)
theorem rest_late {now m : Nat} {L : List Tm} (h : Fit L) (hn : now ≤ m) (hm : m ≤ 1099511627776) : ∀ t ∈ rest now m L, m < t.at_ := fun t ht => by
  have h1 := (List.mem_filter.1 ht).2
  have : ¬ t.at_ ≤ m := fun hd => by
    have := pl_mono (now := now) (by omega) hm hd
    simp at h1; omega
  omega
theorem left_split {now m : Nat} {L : List Tm} (h : Fit L) (hn : now ≤ m) (hm : m ≤ 1099511627776) : left L m = left (firsts now L (pl now m + 1)) m ++ rest now m L := by
  have e := filter_rest (fun t : Tm => pl now t.at_) (pl now m + 1) (slot_mono h (by omega))
  have e2 : left (rest now m L) m = rest now m L := List.filter_eq_self.2 fun t ht => by
    have := rest_late h hn hm t ht
    simp; omega
  conv => lhs; rw [e]
  unfold left
  rw [List.filter_append]
  congr 1
theorem slot_rest {now m : Nat} {L : List Tm} (h : Fit L) (hn : now ≤ m) (hm : m ≤ 1099511627776) (k : Nat) : slot m (rest now m L) k = if k < pl now m + 1 then [] else slot now L k := by
  have hstay : ∀ t ∈ L, pl now m < pl now t.at_ → pl m t.at_ = pl now t.at_ := fun t ht hp => by
    refine pl_stay hn ?_ hp
    have : ¬ t.at_ ≤ m := fun hd => by
      have := pl_mono (now := now) (by omega) hm hd
      omega
    omega
  unfold slot rest
  rw [List.filter_filter]
  split
  · refine List.filter_eq_nil_iff.2 fun t ht => ?_
    by_cases hp : pl now t.at_ < pl now m + 1
    · simp [hp]
    · rw [hstay t ht (by omega)]
      simp; omega
  · apply List.filter_congr
    intro t ht
    by_cases hp : pl now t.at_ < pl now m + 1
    · have : ¬ pl now t.at_ = k := by omega
      simp [hp, this]
    · rw [hstay t ht (by omega)]
      simp [hp]

theorem next_head {now : Nat} {L : List Tm} (h : Fit L) (hn : now ≤ 1099511627776) {k : Nat} (h0 : firsts now L k = []) {t : Tm} {r : List Tm} (hs : slot now L k = t :: r) : ∃ r', L = t :: r' := by
  have e := firsts_next h hn k
  rw [h0, hs, List.nil_append] at e
  have e2 := filter_rest (fun t : Tm => pl now t.at_) (k + 1) (slot_mono h hn)
  have e3 : L.filter (fun x => decide (pl now x.at_ < k + 1)) = t :: r := e
  rw [e3] at e2
  exact ⟨_, e2⟩

theorem look_ins {L : List Tm} {t : Tm} (hn : ∀ x ∈ L, x.id ≠ t.id) (x : Int) : look (ins t L) x = if (t.id : Int) = x then some t.at_ else look L x := by
  induction L with
  | nil =>
    unfold look ins
    by_cases h : (t.id : Int) = x
    · simp [List.find?, h]
    · have h3 : ((t.id : Int) == x) = false := by simp [h]
      simp [List.find?, h, h3]
  | cons y r ih =>
    have ih := ih (fun z hz => hn z (by simp [hz]))
    have hy := hn y (by simp)
    rw [ins]
    split
    · unfold look
      by_cases h : (t.id : Int) = x
      · simp [List.find?, h]
      · have h3 : ((t.id : Int) == x) = false := by simp [h]
        simp [List.find?_cons, h, h3]
    · unfold look at ih ⊢
      by_cases h2 : (y.id : Int) = x
      · have h : ¬ (t.id : Int) = x := by omega
        simp [List.find?, h2, h]
      · have h3 : ((y.id : Int) == x) = false := by simp [h2]
        rw [List.find?_cons, h3, List.find?_cons, h3]
        exact ih
theorem look_wout {L : List Tm} (id : Nat) (x : Int) : look (wout L id) x = if (id : Int) = x then none else look L x := by
  induction L with
  | nil => unfold look wout; simp
  | cons y r ih =>
    unfold look wout at ih ⊢
    rw [List.filter_cons]
    by_cases hy : y.id = id
    · subst hy
      have : (y.id != y.id) = false := by simp
      rw [this]
      simp only [Bool.false_eq_true, if_false]
      rw [ih, List.find?_cons]
      by_cases h : (y.id : Int) = x
      · simp [h]
      · have h3 : ((y.id : Int) == x) = false := by simp [h]
        rw [h3]
    · have : (y.id != id) = true := by simp [hy]
      rw [this]
      simp only [if_true]
      rw [List.find?_cons, List.find?_cons]
      by_cases h : (y.id : Int) = x
      · have h4 : ¬ (id : Int) = x := by omega
        have h3 : ((y.id : Int) == x) = true := by simp [h]
        rw [h3, if_neg h4]
      · have h3 : ((y.id : Int) == x) = false := by simp [h]
        rw [h3]
        exact ih
theorem look_mem {L : List Tm} {x : Int} {a : Nat} (h : look L x = some a) : ∃ t ∈ L, (t.id : Int) = x ∧ t.at_ = a := by
  unfold look at h
  rw [Option.map_eq_some_iff] at h
  obtain ⟨t, ht, rfl⟩ := h
  exact ⟨t, List.mem_of_find?_eq_some ht, by simpa using List.find?_some ht, rfl⟩
theorem look_none {L : List Tm} {x : Int} (h : look L x = none) : ∀ t ∈ L, (t.id : Int) ≠ x := by
  unfold look at h
  rw [Option.map_eq_none_iff, List.find?_eq_none] at h
  intro t ht e
  exact h t ht (by simp [e])

end Go.Proofs.Ytkcndgiiangmjaa
