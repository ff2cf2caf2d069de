/-
  What VrrpAll goes over: events and their addresses, both sides in one state.
-/
import Derived.Test.YtpcdaidgijkkbaaRdo
import Derived.Test.YtpcdaidgijkkbaaRnew
import Derived.Test.YtpcdaidgijkkbaaPlain
namespace Go.Proofs.Ytpcdaidgijkkbaa
open Go.RowKit Go.Maps
set_option linter.unusedVariables false
set_option linter.unusedSimpArgs false
set_option maxRecDepth 40000

/-- Events tell of these addresses, or of none. -/
def Evs (A : List ByteArray) (l : List Vt) : Prop := ∀ x ∈ l, (x.kind = 1 ∧ x.ads = A) ∨ (x.kind = 2 ∧ x.ads = [])
structure Inv (A : List ByteArray) (m : Mc) : Prop where
  ads : m.c.ads = A
  evs : Evs A m.out
theorem Inv.of {A : List ByteArray} {m m' : Mc} (h : Inv A m) (hc : m'.c.ads = m.c.ads) (ho : m'.out = m.out) : Inv A m' := ⟨hc.trans h.ads, by rw [ho]; exact h.evs⟩
theorem Inv.says {A : List ByteArray} {m m' : Mc} (h : Inv A m) (p : Int) (hc : m'.c.ads = m.c.ads) (ho : m'.out = m.out ++ [saysV m.c p]) : Inv A m' := ⟨hc.trans h.ads, by
  rw [ho]
  intro x hx
  rcases List.mem_append.1 hx with hx | hx
  · exact h.evs x hx
  · obtain rfl : x = _ := by simpa using hx
    exact .inl ⟨rfl, h.ads⟩⟩
theorem Inv.lead {A : List ByteArray} {m : Mc} (h : Inv A m) : Inv A (leadM m) := ⟨h.ads, by
  intro x hx
  have hx' : x ∈ m.out ++ [saysV m.c m.c.pr, claimV] := hx
  rcases List.mem_append.1 hx' with hx | hx
  · exact h.evs x hx
  · simp only [List.mem_cons, List.not_mem_nil, or_false] at hx
    rcases hx with rfl | rfl
    · exact .inl ⟨rfl, h.ads⟩
    · exact .inr ⟨rfl, rfl⟩⟩
theorem Inv.tick {A : List ByteArray} {m : Mc} (h : Inv A m) : Inv A (tickM m) := by
  unfold tickM
  split
  · exact h
  split
  · exact h.of rfl rfl
  split
  · exact Inv.lead (m := { m with wt := m.wt - 1 }) (h.of rfl rfl)
  · exact h.says m.c.pr rfl rfl
theorem Inv.ticks {A : List ByteArray} : ∀ (k : Nat) {m : Mc}, Inv A m → Inv A (ticksM k m)
  | 0, m, h => h
  | k + 1, m, h => Inv.ticks k h.tick
theorem Inv.does {A : List ByteArray} {m : Mc} (h : Inv A m) (o : Oq) : Inv A (doM m o) := by
  unfold doM
  split
  · unfold startM
    split
    · split
      · exact h.lead
      · exact h.of rfl rfl
    · exact h
  split
  · by_cases h3 : m.st = 3
    · exact h.says 0 rfl (by show (if m.st = 3 then m.out ++ [saysV m.c 0] else m.out) = _; rw [if_pos h3])
    · exact h.of rfl (by show (if m.st = 3 then m.out ++ [saysV m.c 0] else m.out) = _; rw [if_neg h3])
  split
  · exact Inv.ticks _ h
  split
  · unfold takeM hearM meetM
    split
    · split
      · split
        · exact h.of rfl rfl
        split
        · exact h.of rfl rfl
        · exact h
      · split
        · split
          · exact h.says m.c.pr rfl rfl
          split
          · exact h.of rfl rfl
          · exact h
        · exact h
    · exact h
  split
  · unfold setM
    split
    · exact h.of rfl rfl
    · exact h
  · exact h

/-- The reference's events' addresses. -/
theorem eq1_ref {w : World} {A : Option Addr} {n c : Nat} {ss : List ByteArray} {l : List Vt} (hS : Strs w A n c ss) (hn : n ≤ 8796093022208) (h : Evs ss l) : ∀ x ∈ rz A n c l, Eq1 w x := by
  intro x hx
  obtain ⟨y, hy, rfl⟩ := List.mem_map.1 hx
  rcases h y hy with ⟨h1, h2⟩ | ⟨h1, h2⟩
  · refine ⟨A, n, c, ?_, by rw [h2]; exact hS, by omega⟩
    show av A n c y = _
    unfold av; rw [if_pos h1]
  · refine ⟨none, 0, 0, ?_, ?_, by omega⟩
    · show av A n c y = _
      unfold av; rw [if_neg (by omega)]
    · rw [h2]
      exact ⟨rfl, Nat.le_refl _, by decide, fun s hs => by simp at hs, fun h => by omega⟩
theorem eq1_own {w : World} {b : Nat} {A : List ByteArray} {m : Mc} {l : List (Vt × Value)} (hok : OkM m) (hi : Inv A m) (hl : l.map Prod.fst = m.out) (ha : ∀ x ∈ l, Adr w b x.2 x.1.ads) : ∀ x ∈ l, Eq1 w x := by
  intro x hx
  have h1 := hi.evs x.1 (by rw [← hl]; exact List.mem_map_of_mem hx)
  have h2 : x.1.ads.length ≤ 8 ∧ ∀ s ∈ x.1.ads, s.size = 4 ∨ s.size = 16 := by
    rcases h1 with ⟨-, h1⟩ | ⟨-, h1⟩
    · rw [h1, ← hi.ads]; exact ⟨hok.ads.2, hok.adz⟩
    · rw [h1]; exact ⟨by simp, fun s hs => by simp at hs⟩
  obtain ⟨a, k, h3, h4⟩ := (ha x hx).strs (fun s hs => by have := h2.2 s hs; omega)
  exact ⟨a, _, k, h3, h4, by omega⟩
theorem rz_fst (A : Option Addr) (n c : Nat) (l : List Vt) : (rz A n c l).map Prod.fst = l := by
  unfold rz
  rw [List.map_map]
  exact List.map_id l

/-- A machine stays where somebody else's box is written into. -/
theorem MmS.aside {base B : Nat} {w w' : World} {m : Mc} {va vo : Value} {l : List (Vt × Value)} {g : Nat} {t : TypeId} {vs : List Value} (h : MmS base w B m va vo l) (hz : Cb w g t vs) (ht : t ≠ 72 ∧ t ≠ 22 ∧ t ≠ 58) (ho : Only (· = g) w w') : MmS base w' B m va vo l := by
  have hne : ∀ {bs e size n : Nat} {v : Value} {xs : List Value}, w.ownsRow bs e size v n xs → e ≠ t → ∀ g', v.ownBlock = some g' → ¬ g' = g := fun hr he g' hg e' => by
    subst e'
    obtain ⟨_, cur, hcur⟩ := row_type hr hg
    have := hz
    unfold Cb at this
    rw [hcur] at this
    simp at this
    exact he this.2
  exact {
    blk := h.blk.only ho fun e => by
      have e' : B = g := e
      subst e'
      have h1 := h.blk
      unfold Cb at h1 hz
      rw [h1] at hz
      simp at hz
      exact ht.1 hz.2.symm
    adr := row_only h.adr ho (hne h.adr (fun e => ht.2.1 e.symm))
    row := row_only h.row ho (hne h.row (fun e => ht.2.2 e.symm))
    evs := fun x hx => row_only (h.evs x hx) ho (hne (h.evs x hx) (fun e => ht.2.1 e.symm))
    lst := h.lst
    lo := h.lo
    ok := h.ok }
theorem Mm.aside {base B : Nat} {w w' : World} {m : Mc} {g : Nat} {t : TypeId} {vs : List Value} (h : Mm base w B m) (hz : Cb w g t vs) (ht : t ≠ 72 ∧ t ≠ 22 ∧ t ≠ 58) (ho : Only (· = g) w w') : Mm base w' B m := by
  obtain ⟨va, vo, l, h⟩ := h
  exact ⟨va, vo, l, h.aside hz ht ho⟩
theorem Rw.kp {b base B : Nat} {w w' : World} {vo : Value} {A : Option Addr} {n c : Nat} {l : List Vt} (h : Rw b w vo A n c l) (hk : Kp base B w w') {vs : List Value} (hB : Cb w B 72 vs) : Rw b w' vo A n c l :=
  hk.row h (by decide) (fun t vs' hc => by
    unfold Cb at hc hB
    rw [hc] at hB
    simp at hB
    rw [hB.2]; decide) ⟨72, vs, hB⟩

/-- The reference's machine in its box, and its events. -/
structure AlS (b : Nat) (X0 : World) (Rb : Nat) (m : Mc) (A : Option Addr) (n c : Nat) (vo : Value) (X : World) : Prop where
  rb : Cb X Rb 34 [.int .i64 m.c.id, .int .i64 m.c.pr, .int .i64 m.c.ev, .bool m.c.pre, .string m.c.fr, .slice A n c, .int .i64 m.st, .int .i64 m.pace, .int .i64 m.wt, vo]
  row : Rw b X vo A n c m.out
  low : Below b X0 X
  big : b ≤ X.heap.size
theorem AlS.below {b : Nat} {X0 : World} {Rb : Nat} {m : Mc} {A : Option Addr} {n c : Nat} {vo : Value} {X X' : World} (h : AlS b X0 Rb m A n c vo X) (hb : Below X.heap.size X X') : AlS b X0 Rb m A n c vo X' := ⟨h.rb.below hb, h.row.below hb, h.low.trans (hb.mono h.big), Nat.le_trans h.big hb.size⟩
theorem AlS.kp {b : Nat} {X0 : World} {Rb B : Nat} {m : Mc} {A : Option Addr} {n c : Nat} {vo : Value} {X X' : World} (h : AlS b X0 Rb m A n c vo X) (hk : Kp b B X X') (hne : Rb ≠ B) (hB : b ≤ B) {vs : List Value} (hz : Cb X B 72 vs) : AlS b X0 Rb m A n c vo X' :=
  ⟨hk.cb h.rb hne (fun _ => by decide), h.row.kp hk hz, h.low.trans (hk.below (Nat.le_refl _) hB h.big), Nat.le_trans h.big hk.size⟩

def AlRel (X0 : World) (b B Rb : Nat) (ads : List ByteArray) (A : Option Addr) (n c : Nat) (n1 gg : Nat) (x : Value) (wr : World) : Prop :=
  ∃ (i : Nat) (m : Mc), i + gg = n1 ∧ x = .int .i64 (i : Int) ∧ Mm b wr B m ∧ OkT m ∧ m.out = [] ∧ Inv ads m ∧ Cb wr Rb 34 [.int .i64 m.c.id, .int .i64 m.c.pr, .int .i64 m.c.ev, .bool m.c.pre, .string m.c.fr, .slice A n c, .int .i64 m.st, .int .i64 m.pace, .int .i64 m.wt, .slice none 0 0] ∧ Below b X0 wr
end Go.Proofs.Ytpcdaidgijkkbaa
