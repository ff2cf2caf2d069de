/-
  What a machine does: give, becomeMaster, becomeBackup, sendAgain.
-/
import Derived.Test.YtpcdaidgijkkbaaVsays
import Derived.Lib.AppendZeros
namespace Go.Proofs.Ytpcdaidgijkkbaa
open Go.RowKit Go.Maps
set_option linter.unusedVariables false
set_option linter.unusedSimpArgs false
set_option maxRecDepth 40000

theorem OkM.outs {m : Mc} (h : OkM m) (o : List Vt) : OkM { m with out := o } := ⟨h.pr, h.ev, h.id, h.ads, h.adz, h.frz, h.st, h.pace, h.wt⟩
/-- Rows of two types are two rows. -/
theorem row_ne {w : World} {base e size n base' e' size' n' : Nat} {v v' : Value} {xs xs' : List Value} (h : w.ownsRow base e size v n xs) (h' : w.ownsRow base' e' size' v' n' xs') (hne : e ≠ e') {g : Nat} (hg : v.ownBlock = some g) : ¬ v'.ownBlock = some g := fun hg' => by
  obtain ⟨_, cur, hcur⟩ := row_type h hg
  obtain ⟨_, cur', hcur'⟩ := row_type h' hg'
  rw [hcur] at hcur'
  simp at hcur'
  exact hne hcur'.2

section
variable {base B : Nat} {w : World} {m : Mc} {va vo : Value} {l : List (Vt × Value)}

/-- Events more, in memory. -/
theorem give_mem (h : MmS base w B m va vo l) (l2 : List (Vt × Value)) (g c k : Nat) (hk : l2.length = k) (hc : ∀ j u, (ecells l2)[j]? = some u → w.cell? ⟨g, j, none⟩ = some u) (hA : ∀ x ∈ l2, Adr w base x.2 x.1.ads) (hlen : l.length + k ≤ 1099511627776) :
    ∃ a' n' c' w', (Builtin.append_ #[48, 48] 48 #[vo, .slice (some ⟨g, 0, none⟩) k c]).run Try.prog w = .ok (.slice a' n' c') w' ∧ (∃ v9, w'.cell? ⟨B, 9, none⟩ = some v9) ∧ w'.frozen? ⟨B, 9, none⟩ = false ∧ Mm base (w'.setCell ⟨B, 9, none⟩ (.slice a' n' c')) B { m with out := m.out ++ l2.map Prod.fst } ∧ Kp base B w (w'.setCell ⟨B, 9, none⟩ (.slice a' n' c')) ∧ B < w'.heap.size := by
  obtain ⟨i0, hi, hz0, hz1, hz2⟩ := info_parts info58
  obtain ⟨v', w', hr, h2, h3, _, _⟩ := run_append_own_at (P := Try.prog) w base 48 48 58 i0 _ 5 56 Try.underlying48 hi hz0 hz1 hz2 rfl (by decide) vo l.length _ h.row ⟨g, 0, none⟩ k c (ecells l2) (by rw [ecells_len, hk])
    (fun j u hj => by rw [add_plain, Nat.zero_add]; exact hc j u hj) (ecells_one l2 fun x hx => row_one (hA x hx)) (by simp only [maxLen]; omega) (by omega) (Nat.le_of_lt (Nat.lt_of_le_of_lt h.lo h.blk.lt))
  obtain ⟨a', c', rfl, -, -⟩ := row_any h2
  have ho : Only (fun i => vo.ownBlock = some i) w w' := Only.of_grown h3 fun i hi => hi
  have hB : ¬ vo.ownBlock = some B := h.not_blk h.row (by decide)
  have hblk : Cb w' B 72 (mcells m va vo) := h.blk.only ho hB
  have ha : ∀ {v : Value} {ss : List ByteArray}, Adr w base v ss → Adr w' base v ss := fun hv => row_only hv ho fun g hg => row_ne hv h.row (by decide) hg
  have ho2 : Only (fun i => i = B) w' (w'.setCell ⟨B, 9, none⟩ (.slice a' (l.length + k) c')) := (Only.refl (fun i => i = B) w').setCell (p := ⟨B, 9, none⟩) (.inl rfl) (.slice a' (l.length + k) c')
  have hnb : ∀ {bs e size n : Nat} {v : Value} {xs : List Value}, w'.ownsRow bs e size v n xs → e ≠ 72 → ∀ g, v.ownBlock = some g → ¬ g = B := fun hr he g hg e' => by
    subst e'
    obtain ⟨_, cur, hcur⟩ := row_type hr hg
    have := hblk
    unfold Cb at this
    rw [hcur] at this
    simp at this
    exact he this.2
  have hap : ∀ {v : Value} {ss : List ByteArray}, Adr w base v ss → Adr (w'.setCell ⟨B, 9, none⟩ (.slice a' (l.length + k) c')) base v ss := fun hv => row_only (ha hv) ho2 (hnb (ha hv) (by decide))
  refine ⟨a', l.length + k, c', w', hr, ⟨_, hblk.cell 9⟩, hblk.free 9, ⟨va, .slice a' (l.length + k) c', l ++ l2, ?_⟩, ?_, hblk.lt⟩
  · exact {
      blk := hblk.setAt 9 _
      adr := hap h.adr
      row := by
        have h5 : w'.ownsRow base 58 5 (.slice a' (l.length + k) c') (l ++ l2).length (ecells (l ++ l2)) := by rw [List.length_append, hk, ecells_app]; exact h2
        exact row_only h5 ho2 (hnb h5 (by decide))
      evs := fun x hx => by
        rcases List.mem_append.1 hx with hx | hx
        · exact hap (h.evs x hx)
        · exact hap (hA x hx)
      lst := by rw [List.map_append, h.lst]
      lo := h.lo
      ok := h.ok.outs _ }
  · refine Kp.setCell ⟨h3.os, h3.tape, h3.output, h3.size, fun i hi hn ht => ho.block i hi fun e => ?_⟩ 9 _
    obtain ⟨hb, cur, hcur⟩ := row_type h.row e
    exact ht cur hb hcur

set_option maxHeartbeats 1000000 in
/-- Machine.give. -/
theorem give_any (h : MmS base w B m va vo l) (l2 : List (Vt × Value)) (g c k : Nat) (hk : l2.length = k) (hc : ∀ j u, (ecells l2)[j]? = some u → w.cell? ⟨g, j, none⟩ = some u) (hA : ∀ x ∈ l2, Adr w base x.2 x.1.ads) (hlen : l.length + k ≤ 1099511627776) :
    Calls Try.prog 46 #[.pointer (some ⟨B, 0, none⟩), .slice (some ⟨g, 0, none⟩) k c] w fun e w' => e = .returned (.tuple #[]) ∧ Mm base w' B { m with out := m.out ++ l2.map Prod.fst } ∧ Kp base B w w' := by
  obtain ⟨a', n', c', w', hr, ⟨v9, d9⟩, f9, HM, HK, hlt⟩ := give_mem h l2 g c k hk hc hA hlen
  have c9 := h.cells.2.2.2.2.2.2.2.2.2
  have hBl := h.blk.lt
  obtain ⟨a0, c0, rfl, -, -⟩ := row_any h.row
  have HR := Lib.hid hr
  replace HM := Lib.hid HM
  replace HK := Lib.hid HK
  clear h hk hc hA hlen hr
  go_enter Try.func46, Try.ntmps46
  go_wp2_with (at_builtin; refine Lib.wpList_append_run _ rfl _ _ _ _ rfl _ _ rfl rfl _ _ HR.out ?_)
  go_end0
  exact ⟨rfl, HM.out, HK.out⟩
end
end Go.Proofs.Ytpcdaidgijkkbaa
