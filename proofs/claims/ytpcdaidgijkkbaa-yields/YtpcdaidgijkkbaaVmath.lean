/-
  What the document says of the layer vrrp, as plain functions: a machine, and what each call makes of it.
-/
import Derived.Test.YtpcdaidgijkkbaaRows
import Derived.Laws.Strings
namespace Go.Proofs.Ytpcdaidgijkkbaa
set_option linter.unusedVariables false
set_option linter.unusedSimpArgs false

/-! ## Texts -/
def lt8 (a b : ByteArray) : Bool := Op.bytesLess a.toList b.toList

theorem bl_irr : ∀ x : List UInt8, Op.bytesLess x x = false
  | [] => rfl
  | a :: r => by simp [Op.bytesLess, bl_irr r]
theorem bl_tri : ∀ x y : List UInt8, Op.bytesLess x y = false → Op.bytesLess y x = false → x = y
  | [], [], _, _ => rfl
  | [], _ :: _, h, _ => by simp [Op.bytesLess] at h
  | _ :: _, [], _, h => by simp [Op.bytesLess] at h
  | a :: r, b :: s, h, h' => by
    simp only [Op.bytesLess, Bool.or_eq_false_iff, Bool.and_eq_false_iff, decide_eq_false_iff_not, beq_eq_false_iff_ne, ne_eq] at h h'
    have e : a = b := UInt8.toNat_inj.1 (by have h1 := h.1; have h2 := h'.1; rw [UInt8.lt_iff_toNat_lt] at h1 h2; omega)
    subst e
    have h1 := h.2.resolve_left (by simp)
    have h2 := h'.2.resolve_left (by simp)
    rw [bl_tri r s h1 h2]
theorem bl_trans : ∀ x y z : List UInt8, Op.bytesLess x y = true → Op.bytesLess y z = true → Op.bytesLess x z = true
  | _, _, [], _, h => by rename_i y _; cases y <;> simp [Op.bytesLess] at h
  | [], _, _ :: _, _, _ => by simp [Op.bytesLess]
  | _ :: _, [], _, h, _ => by simp [Op.bytesLess] at h
  | a :: r, b :: s, c :: u, h, h' => by
    simp only [Op.bytesLess, Bool.or_eq_true, Bool.and_eq_true, decide_eq_true_eq, beq_iff_eq] at h h' ⊢
    rw [UInt8.lt_iff_toNat_lt] at *
    rcases h with h | ⟨rfl, h⟩ <;> rcases h' with h' | ⟨rfl, h'⟩
    · left; omega
    · left; exact h
    · left; exact h'
    · right; exact ⟨rfl, bl_trans r s u h h'⟩

theorem lt8_irr (a : ByteArray) : lt8 a a = false := bl_irr _
theorem lt8_trans {a b c : ByteArray} (h : lt8 a b = true) (h' : lt8 b c = true) : lt8 a c = true := bl_trans _ _ _ h h'
theorem toList_inj8 {a b : ByteArray} (h : a.toList = b.toList) : a = b := by
  rw [ByteArray.toList_eq, ByteArray.toList_eq] at h
  cases a; cases b
  simp at h
  exact congrArg _ h
theorem lt8_tri {a b : ByteArray} (h : lt8 a b = false) (h' : lt8 b a = false) : a = b := toList_inj8 (bl_tri _ _ h h')
theorem lt8_asym {a b : ByteArray} (h : lt8 a b = true) : lt8 b a = false := by
  rcases h' : lt8 b a with _ | _
  · rfl
  · have := lt8_trans h h'; rw [lt8_irr] at this; cases this
theorem gtr_str {x y : ByteArray} (r : Bool) (h : lt8 y x = r) (w : World) : (binOp .gtr 9 (.string x) (.string y)).run Try.prog w = .ok (.bool r) w := by
  have h1 : (!Op.bytesLess x.toList y.toList && !(x.toList == y.toList)) = r := by
    cases r with
    | true =>
      have h1 : Op.bytesLess x.toList y.toList = false := lt8_asym h
      have h2 : (x.toList == y.toList) = false := by
        rw [beq_eq_false_iff_ne]
        intro e
        have h0 : Op.bytesLess y.toList x.toList = true := h
        rw [e, bl_irr] at h0
        cases h0
      rw [h1, h2]; rfl
    | false =>
      cases h2 : Op.bytesLess x.toList y.toList
      · have e : x = y := lt8_tri h2 h
        subst e
        simp
      · rfl
  simp [binOp, Op.stringOp, go_sem]
  exact h1

/-! ## A machine -/
/-- Who it is. -/
structure Cf where
  id : Int
  pr : Int
  ev : Int
  pre : Bool
  fr : ByteArray
  ads : List ByteArray
deriving Inhabited
/-- Something that it does. -/
structure Vt where
  kind : Int
  id : Int
  pr : Int
  ev : Int
  ads : List ByteArray
deriving Inhabited
/-- An advertisement. -/
structure Av where
  id : Int
  pr : Int
  ev : Int
  ads : List ByteArray
deriving Inhabited
/-- A machine. -/
structure Mc where
  c : Cf
  st : Int
  pace : Int
  wt : Int
  out : List Vt
deriving Inhabited

def skewI (p e : Int) : Int := if p < 0 ∨ 255 < p ∨ e < 1 ∨ 4095 < e then 0 else ((256 - p) * e) / 256
theorem skew_bd (p e : Int) : 0 ≤ skewI p e ∧ skewI p e ≤ 4095 := by
  unfold skewI
  split
  · omega
  · rename_i h
    have h1 : (256 - p) * e ≤ 256 * e := Int.mul_le_mul_of_nonneg_right (by omega) (by omega)
    have h2 : 0 ≤ (256 - p) * e := Int.mul_nonneg (by omega) (by omega)
    omega
def downI (m : Mc) : Int := 3 * m.pace + skewI m.c.pr m.pace
def clamp (n : Int) : Int := if n < 1 then 1 else if 4095 < n then 4095 else n
theorem clamp_bd (n : Int) : 1 ≤ clamp n ∧ clamp n ≤ 4095 := by unfold clamp; split; omega; split <;> omega
theorem clamp_self {n : Int} (h : 1 ≤ n ∧ n ≤ 4095) : clamp n = n := by unfold clamp; rw [if_neg (by omega), if_neg (by omega)]

def saysV (c : Cf) (p : Int) : Vt := ⟨1, c.id, p, c.ev, c.ads⟩
def claimV : Vt := ⟨2, 0, 0, 0, []⟩
/-- It sends, and its timer runs anew. -/
def sayM (m : Mc) (p : Int) : Mc := { m with wt := m.c.ev, out := m.out ++ [saysV m.c p] }
def leadM (m : Mc) : Mc := { m with st := 3, wt := m.c.ev, out := m.out ++ [saysV m.c m.c.pr, claimV] }
def followM (m : Mc) (pace : Int) : Mc := { m with st := 2, pace := clamp pace, wt := 3 * clamp pace + skewI m.c.pr (clamp pace) }
def startM (m : Mc) : Mc := if m.st = 1 then (if m.c.pr = 255 then leadM m else followM m m.c.ev) else m
def stopM (m : Mc) : Mc := { m with st := 1, wt := 0, out := if m.st = 3 then m.out ++ [saysV m.c 0] else m.out }
def tickM (m : Mc) : Mc :=
  if m.st = 1 then m
  else if 0 < m.wt - 1 then { m with wt := m.wt - 1 }
  else if m.st = 2 then leadM { m with wt := m.wt - 1 }
  else sayM { m with wt := m.wt - 1 } m.c.pr
def hearM (m : Mc) (a : Av) : Mc :=
  if a.pr = 0 then { m with wt := if skewI m.c.pr m.pace < 1 then 1 else skewI m.c.pr m.pace }
  else if m.c.pre = false ∨ m.c.pr ≤ a.pr then followM m a.ev else m
def meetM (m : Mc) (f : ByteArray) (a : Av) : Mc :=
  if a.pr = 0 then sayM m m.c.pr
  else if m.c.pr < a.pr ∨ (a.pr = m.c.pr ∧ lt8 m.c.fr f = true) then followM m a.ev else m
def takeM (m : Mc) (f : ByteArray) (a : Av) : Mc :=
  if a.id = m.c.id then (if m.st = 2 then hearM m a else if m.st = 3 then meetM m f a else m) else m
def setM (m : Mc) (n : Int) : Mc := if 1 ≤ n ∧ n ≤ 255 then { m with c := { m.c with pr := n } } else m
def outM (m : Mc) : Mc := { m with out := [] }
def newM (c : Cf) : Mc := ⟨c, 1, c.ev, 0, []⟩

/-- What is always so of a machine. -/
structure OkM (m : Mc) : Prop where
  pr : 1 ≤ m.c.pr ∧ m.c.pr ≤ 255
  ev : 1 ≤ m.c.ev ∧ m.c.ev ≤ 4095
  id : 1 ≤ m.c.id ∧ m.c.id ≤ 255
  ads : 1 ≤ m.c.ads.length ∧ m.c.ads.length ≤ 8
  adz : ∀ s ∈ m.c.ads, s.size = 4 ∨ s.size = 16
  frz : m.c.fr.size = 4 ∨ m.c.fr.size = 16
  st : m.st = 1 ∨ m.st = 2 ∨ m.st = 3
  pace : 1 ≤ m.pace ∧ m.pace ≤ 4095
  wt : 0 ≤ m.wt ∧ m.wt ≤ 20000

theorem OkM.say {m : Mc} (h : OkM m) (p : Int) : OkM (sayM m p) where
  pr := h.pr
  ev := h.ev
  id := h.id
  ads := h.ads
  adz := h.adz
  frz := h.frz
  st := h.st
  pace := h.pace
  wt := by have := h.ev; show 0 ≤ m.c.ev ∧ m.c.ev ≤ 20000; omega
theorem OkM.lead {m : Mc} (h : OkM m) : OkM (leadM m) where
  pr := h.pr
  ev := h.ev
  id := h.id
  ads := h.ads
  adz := h.adz
  frz := h.frz
  st := .inr (.inr rfl)
  pace := h.pace
  wt := by have := h.ev; show 0 ≤ m.c.ev ∧ m.c.ev ≤ 20000; omega
theorem OkM.follow {m : Mc} (h : OkM m) (n : Int) : OkM (followM m n) where
  pr := h.pr
  ev := h.ev
  id := h.id
  ads := h.ads
  adz := h.adz
  frz := h.frz
  st := .inr (.inl rfl)
  pace := clamp_bd n
  wt := by have := clamp_bd n; have := skew_bd m.c.pr (clamp n); show 0 ≤ 3 * clamp n + skewI m.c.pr (clamp n) ∧ 3 * clamp n + skewI m.c.pr (clamp n) ≤ 20000; omega
theorem OkM.start {m : Mc} (h : OkM m) : OkM (startM m) := by
  unfold startM
  split
  · split
    · exact h.lead
    · exact h.follow _
  · exact h
theorem OkM.stop {m : Mc} (h : OkM m) : OkM (stopM m) where
  pr := h.pr
  ev := h.ev
  id := h.id
  ads := h.ads
  adz := h.adz
  frz := h.frz
  st := .inl rfl
  pace := h.pace
  wt := by show (0 : Int) ≤ 0 ∧ (0 : Int) ≤ 20000; omega
/-- Its timer has another number that may be. -/
theorem OkM.wait {m : Mc} (h : OkM m) (n : Int) (hn : 0 ≤ n ∧ n ≤ 20000) : OkM { m with wt := n } where
  pr := h.pr
  ev := h.ev
  id := h.id
  ads := h.ads
  adz := h.adz
  frz := h.frz
  st := h.st
  pace := h.pace
  wt := hn
theorem OkM.tick {m : Mc} (h : OkM m) : OkM (tickM m) := by
  unfold tickM
  split
  · exact h
  · rename_i h1
    split
    · rename_i h2; have := h.wt; exact h.wait _ (by omega)
    · split
      · exact (show OkM (leadM m) from h.lead)
      · exact (show OkM (sayM m m.c.pr) from h.say _)
theorem OkM.hear {m : Mc} (h : OkM m) (a : Av) : OkM (hearM m a) := by
  unfold hearM
  split
  · have := skew_bd m.c.pr m.pace
    exact h.wait _ (by split <;> omega)
  · split
    · exact h.follow _
    · exact h
theorem OkM.meet {m : Mc} (h : OkM m) (f : ByteArray) (a : Av) : OkM (meetM m f a) := by
  unfold meetM
  split
  · exact h.say _
  · split
    · exact h.follow _
    · exact h
theorem OkM.take {m : Mc} (h : OkM m) (f : ByteArray) (a : Av) : OkM (takeM m f a) := by
  unfold takeM
  split
  · split
    · exact h.hear a
    · split
      · exact h.meet f a
      · exact h
  · exact h
theorem OkM.set {m : Mc} (h : OkM m) (n : Int) : OkM (setM m n) := by
  unfold setM
  split
  · rename_i hn
    exact ⟨hn, h.ev, h.id, h.ads, h.adz, h.frz, h.st, h.pace, h.wt⟩
  · exact h
theorem OkM.outed {m : Mc} (h : OkM m) : OkM (outM m) := ⟨h.pr, h.ev, h.id, h.ads, h.adz, h.frz, h.st, h.pace, h.wt⟩

/-- Its timer stands just where it waits to be started. -/
structure OkT (m : Mc) : Prop where
  wt1 : m.st = 1 → m.wt = 0
  wt2 : m.st ≠ 1 → 1 ≤ m.wt
theorem OkT.lead {m : Mc} (h : OkM m) : OkT (leadM m) := ⟨fun e => by have e' : (3 : Int) = 1 := e; omega, fun _ => h.ev.1⟩
theorem OkT.say {m : Mc} (h : OkM m) (h3 : m.st ≠ 1) (p : Int) : OkT (sayM m p) := ⟨fun e => absurd e h3, fun _ => h.ev.1⟩
theorem OkT.follow (m : Mc) (n : Int) : OkT (followM m n) := ⟨fun e => by have e' : (2 : Int) = 1 := e; omega, fun _ => by have := clamp_bd n; have := skew_bd m.c.pr (clamp n); show 1 ≤ 3 * clamp n + skewI m.c.pr (clamp n); omega⟩
theorem OkT.new (c : Cf) : OkT (newM c) := ⟨fun _ => rfl, fun e => absurd rfl e⟩
theorem OkT.start {m : Mc} (h : OkM m) (ht : OkT m) : OkT (startM m) := by
  unfold startM
  split
  · split
    · exact OkT.lead h
    · exact OkT.follow _ _
  · exact ht
theorem OkT.stop (m : Mc) : OkT (stopM m) := ⟨fun _ => rfl, fun e => absurd rfl e⟩
theorem OkT.tick {m : Mc} (h : OkM m) (ht : OkT m) : OkT (tickM m) := by
  unfold tickM
  split
  · exact ht
  · rename_i h1
    split
    · rename_i h2; exact ⟨fun e => absurd e h1, fun _ => by show 1 ≤ m.wt - 1; omega⟩
    · split
      · exact (show OkT (leadM m) from OkT.lead h)
      · exact (show OkT (sayM m m.c.pr) from OkT.say h h1 _)
theorem OkT.take {m : Mc} (h : OkM m) (ht : OkT m) (f : ByteArray) (a : Av) : OkT (takeM m f a) := by
  unfold takeM hearM meetM
  split
  · split
    · rename_i h2
      split
      · exact ⟨fun e => by have e' : m.st = 1 := e; omega, fun _ => by show 1 ≤ (if skewI m.c.pr m.pace < 1 then 1 else skewI m.c.pr m.pace); split <;> omega⟩
      · split
        · exact OkT.follow _ _
        · exact ht
    · split
      · rename_i h3
        split
        · exact OkT.say h (by omega) _
        · split
          · exact OkT.follow _ _
          · exact ht
      · exact ht
  · exact ht
theorem OkT.set {m : Mc} (ht : OkT m) (n : Int) : OkT (setM m n) := by
  unfold setM
  split
  · exact ⟨ht.wt1, ht.wt2⟩
  · exact ht
theorem OkT.outed {m : Mc} (ht : OkT m) : OkT (outM m) := ⟨ht.wt1, ht.wt2⟩

/-- A call: its kind, its number, who tells, and what. -/
structure Oq where
  kind : Int
  n : Int
  fr : ByteArray
  a : Av
deriving Inhabited
def ticksM : Nat → Mc → Mc
  | 0, m => m
  | k + 1, m => ticksM k (tickM m)
theorem ticks_next : ∀ (k : Nat) (m : Mc), ticksM (k + 1) m = tickM (ticksM k m)
  | 0, m => rfl
  | k + 1, m => by rw [ticksM, ticks_next k (tickM m)]; rfl
/-- How many ticks a call of n is. -/
def howMany (n : Int) : Nat := (min n 2000).toNat
def doM (m : Mc) (o : Oq) : Mc :=
  if o.kind = 0 then startM m else if o.kind = 1 then stopM m else if o.kind = 2 then ticksM (howMany o.n) m
  else if o.kind = 3 then takeM m o.fr o.a else if o.kind = 4 then setM m o.n else m
theorem OkM.ticks : ∀ (k : Nat) {m : Mc}, OkM m → OkM (ticksM k m)
  | 0, m, h => h
  | k + 1, m, h => OkM.ticks k h.tick
theorem OkM.does {m : Mc} (h : OkM m) (o : Oq) : OkM (doM m o) := by
  unfold doM
  split; exact h.start
  split; exact h.stop
  split; exact OkM.ticks _ h
  split; exact h.take _ _
  split; exact h.set _
  exact h
theorem OkT.ticks : ∀ (k : Nat) {m : Mc}, OkM m → OkT m → OkT (ticksM k m)
  | 0, m, h, ht => ht
  | k + 1, m, h, ht => OkT.ticks k h.tick (OkT.tick h ht)
theorem OkT.does {m : Mc} (h : OkM m) (ht : OkT m) (o : Oq) : OkT (doM m o) := by
  unfold doM
  split; exact OkT.start h ht
  split; exact OkT.stop _
  split; exact OkT.ticks _ h ht
  split; exact OkT.take h ht _ _
  split; exact ht.set _
  exact ht
/-- How many events a call makes at most. -/
theorem out_start (m : Mc) : (startM m).out.length ≤ m.out.length + 2 := by
  unfold startM; split
  · split
    · simp [leadM]
    · simp [followM]
  · simp
theorem out_stop (m : Mc) : (stopM m).out.length ≤ m.out.length + 2 := by
  show (if m.st = 3 then m.out ++ [saysV m.c 0] else m.out).length ≤ _
  split <;> simp
theorem out_tick (m : Mc) : (tickM m).out.length ≤ m.out.length + 2 := by
  unfold tickM; split
  · simp
  · split
    · simp
    · split
      · simp [leadM]
      · simp [sayM]
theorem out_take (m : Mc) (f : ByteArray) (a : Av) : (takeM m f a).out.length ≤ m.out.length + 2 := by
  unfold takeM hearM meetM
  split
  · split
    · split
      · simp
      · split
        · simp [followM]
        · simp
    · split
      · split
        · simp [sayM]
        · split
          · simp [followM]
          · simp
      · simp
  · simp
theorem out_set (m : Mc) (n : Int) : (setM m n).out.length ≤ m.out.length + 2 := by
  unfold setM; split <;> simp
theorem out_ticks : ∀ (k : Nat) (m : Mc), (ticksM k m).out.length ≤ m.out.length + 2 * k
  | 0, m => by simp [ticksM]
  | k + 1, m => by have := out_ticks k (tickM m); have := out_tick m; rw [ticksM]; omega
theorem out_does (m : Mc) (o : Oq) : (doM m o).out.length ≤ m.out.length + 4000 := by
  unfold doM
  split; · have := out_start m; omega
  split; · have := out_stop m; omega
  split; · have := out_ticks (howMany o.n) m; have : howMany o.n ≤ 2000 := by unfold howMany; omega
           omega
  split; · have := out_take m o.fr o.a; omega
  split; · have := out_set m o.n; omega
  omega
end Go.Proofs.Ytpcdaidgijkkbaa
