/-
  maglev.comers lays what its closure stands on.
-/
import Derived.Test.YtpkahjflhboddaaCome
import Derived.Test.YtpkahjflhboddaaSmall
namespace Go.Proofs.Ytpkahjflhboddaa
open Go.RowKit
set_option linter.unusedVariables false
set_option linter.unusedSimpArgs false
set_option maxRecDepth 10000

def comeV (v : Vr) : Value := .func (.func 50) #[] #[.pointer (some ⟨v.ob, 0, none⟩), .pointer (some ⟨v.tb, 0, none⟩), .pointer (some ⟨v.cb, 0, none⟩), .pointer (some ⟨v.lb, 0, none⟩), .pointer (some ⟨v.mb, 0, none⟩)]

theorem cred_zero (S : List Sd) (o : List Nat) (t : Nat) (h : ∀ r, r < S.length → o[r]! < 16) : Cred S o t (List.replicate 16 0) (stp S.length 0) := by
  intro r hr
  have := h r hr
  rw [List.getElem?_replicate, if_pos this]
  simp [vis, stp, crd]

set_option maxHeartbeats 1000000 in
theorem comers_any {w : World} {a : Option Addr} {n c og oc : Nat} {l : List Bk} {o : List Nat} {S : List Sd} {t T : Nat} (G : Good l o S t T) (ht : IsTop l (t : Int)) (h : Bks w a n c l) (hI : Ints w og 0 (ord o)) :
    Calls Try.prog 41 #[.slice a n c, .slice (some ⟨og, 0, none⟩) n oc] w fun e w' => ∃ (v : Vr) (cs : List Int), e = .returned (comeV v) ∧ v.Apart ∧ Seen w' v l o t ∧ Ar w' v.tb [.int .i64 0] ∧ cs.length = 16 ∧ Ar w' v.cb (vals cs) ∧
      Cred S o t cs (stp S.length 0) ∧ Below w.heap.size w w' ∧ w.heap.size ≤ v.tb ∧ w.heap.size ≤ v.cb ∧ v.tb < w'.heap.size ∧ v.cb < w'.heap.size ∧ w.heap.size ≤ v.ob ∧ w.heap.size ≤ v.lb ∧ w.heap.size ≤ v.mb ∧ v.og = og ∧ (∃ off, a = some ⟨v.b, off, none⟩) := by
  have H := Lib.hid h
  have HI := Lib.hid hI
  have hnl := h.1
  have hn1 : 1 ≤ n := by rw [hnl]; exact G.n1
  obtain ⟨b, off, rfl, hbb, hat⟩ := h.2.2.2 (by omega)
  have HAT := Lib.hid hat
  have HG := Lib.hid G
  have HTOP := Lib.hid ht
  have HN := Lib.hid hnl
  have hogl := hI.1
  have hmf : ∀ (fn : Fn) (first cap : Array Value) (w : World), (Instr.makeFunc fn first cap).run Try.prog w = .ok (.func fn first cap) w := fun _ _ _ _ => rfl
  have hB0 : Below w.heap.size w (((w.alloc (.cells #[.slice (some ⟨b, off, none⟩) n c] 29)).alloc (.cells #[.slice (some ⟨og, 0, none⟩) n oc] 34)).alloc (.cells (vals (List.replicate 16 0)).toArray 83)) :=
    (((Below.refl _ _).alloc (Nat.le_refl _) _).alloc (by simp) _).alloc (by simp; omega) _
  have HGR := Lib.hid (greatest_any (h.below hB0))
  have HB0 := Lib.hid hB0
  simp only [vals, List.replicate, List.map_cons, List.map_nil] at HGR HB0
  clear hB0 h hI hat G ht hnl
  go_enter Try.func41, Try.ntmps41
  go_wp2_with fail
  refine HGR.out.mono ?_
  rintro e w4 ⟨t', rfl, htop, hb4⟩
  have HT4 := Lib.hid htop
  have HB4 := Lib.hid hb4
  clear htop hb4
  go_wp2
  go_ret
  have ett : t' = (t : Int) := by
    have h1 := HT4.out
    have h2 := HTOP.out
    rw [HN.out] at h1
    have hp : 0 < t := by have := HG.out.wt _ HG.out.top.1; have := HG.out.top.2; omega
    refine IsTop.same ⟨h1.2.1, h1.2.2.resolve_left fun e => ?_⟩ h2
    obtain ⟨_, i, hi, hit⟩ := h2
    have := h1.2.1 i hi
    omega
  have hsz := HB4.out.size
  simp only [World.size_alloc] at hsz
  have hB : Below w.heap.size w w4 := HB0.out.trans (HB4.out.mono HB0.out.size)
  have hB2 : Below w.heap.size w ((w4.alloc (.cells #[.int .i64 t'] 3)).alloc (.cells #[.int .i64 0] 3)) := (hB.alloc (by omega) _).alloc (by simp; omega) _
  have hlt0 : w.heap.size < w4.heap.size ∧ w.heap.size + 1 < w4.heap.size ∧ w.heap.size + 2 < w4.heap.size := by omega
  have hcell : ∀ b' j v', b' < w4.heap.size → w4.cell? ⟨b', j, none⟩ = some v' → ((w4.alloc (.cells #[.int .i64 t'] 3)).alloc (.cells #[.int .i64 0] 3)).cell? ⟨b', j, none⟩ = some v' := fun b' j v' h1 h2 => by
    rw [World.cell?_alloc_lt _ _ _ (show b' < (w4.alloc (.cells #[.int .i64 t'] 3)).heap.size by simp; omega), World.cell?_alloc_lt _ _ _ h1]; exact h2
  have h4 : ∀ b' j v', b' < w.heap.size + 3 → (((w.alloc (.cells #[.slice (some ⟨b, off, none⟩) n c] 29)).alloc (.cells #[.slice (some ⟨og, 0, none⟩) n oc] 34)).alloc (.cells (vals (List.replicate 16 0)).toArray 83)).cell? ⟨b', j, none⟩ = some v' → w4.cell? ⟨b', j, none⟩ = some v' := fun b' j v' h1 h2 => by
    rw [HB4.out.cell (p := ⟨b', j, none⟩) (by simpa using h1)]; exact h2
  refine ⟨⟨w.heap.size + 1, w4.heap.size + 1, w.heap.size + 2, w.heap.size, w4.heap.size, og, oc, b, off, c⟩, List.replicate 16 0, rfl, ?_, ?_, ?_, rfl, ?_, ?_, hB2, by show w.heap.size ≤ w4.heap.size + 1; omega, by show w.heap.size ≤ w.heap.size + 2; omega, by simp, by simp; omega, by show w.heap.size ≤ w.heap.size + 1; omega, Nat.le_refl _, by show w.heap.size ≤ w4.heap.size; omega, rfl, ⟨_, rfl⟩⟩
  · refine ⟨?_, ⟨?_, ?_⟩, ⟨?_, ?_⟩, ⟨?_, ?_⟩, ⟨?_, ?_⟩, ?_, ?_⟩ <;> simp only [] <;> omega
  · refine ⟨⟨?_, ?_⟩, HI.out.below hB2 hogl, ⟨?_, ?_⟩, ⟨HAT.out.below hB2 hbb, ?_⟩, ?_, ?_⟩
    · rw [← HN.out]
      exact hcell (w.heap.size + 1) 0 _ hlt0.2.1 (h4 (w.heap.size + 1) 0 _ (by omega) (by simp [go_sem]))
    · simp; omega
    · rw [← HN.out]
      exact hcell w.heap.size 0 _ hlt0.1 (h4 w.heap.size 0 _ (by omega) (by simp [go_sem]))
    · simp; omega
    · simp; omega
    · rw [ett]; simp [go_sem]
    · simp; omega
  · have := Ar.new (w4.alloc (.cells #[.int .i64 t'] 3)) [.int .i64 0] 3
    rwa [World.size_alloc] at this
  · have h0 := Ar.new ((w.alloc (.cells #[.slice (some ⟨b, off, none⟩) n c] 29)).alloc (.cells #[.slice (some ⟨og, 0, none⟩) n oc] 34)) (vals (List.replicate 16 0)) 83
    simp only [World.size_alloc] at h0
    exact ((h0.below HB4.out).alloc _).alloc _
  · exact cred_zero S o t fun r hr => by
      have := (HG.out.ho.2 r (by rw [← HG.out.len]; exact hr)).1
      have := HG.out.n16
      omega

end Go.Proofs.Ytpkahjflhboddaa
