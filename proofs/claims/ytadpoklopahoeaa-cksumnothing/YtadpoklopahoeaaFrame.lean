/-
  What the row's steps of this seat share: how integers, slices of bytes and pairs of these that came in are opened, and what the form's own reach and the bound of the second form say of their lengths.
-/
import Derived.Test.YtadpoklopahoeaaAlive
import Derived.ProofKit
import Derived.OpenShut
import Derived.ShutString
import Derived.ChangeOld
import Derived.SizedLaws
import Derived.Deep.CondSized
namespace Go.Proofs.Ytadpoklopahoeaa
open Go.ChangeShapes Go.WideShapes Go.ChangeAt Go.RowKit

theorem own : ownKnob Try.prog.godebug = none := by kernel_rfl
theorem laidOut : laidOutB Try.prog = true := by kernel_rfl

/-- How long a slice's datum says that it is, spare places counted. -/
def Long {H : Type} (d : DataW H) (c : Nat) : Prop := (d = .nil ∧ c = 0) ∨ ∃ E S, d = .slice E S ∧ E.length + S.length = c ∧ (∀ x ∈ E, Rows.uptoBulk x = 1) ∧ ∀ x ∈ S, Rows.uptoBulk x = 1

section
variable {H : Type} {enc : TypeId × Value → H} {P : Program} {W : World}

theorem bulk_lit (k : IntKind) (n : Int) : Rows.uptoBulk (DataW.lit (H := H) (.int k n)) = 1 := by simp [Rows.uptoBulk]
theorem lits_one {k : IntKind} {zs : List Int} : ∀ x ∈ lits (H := H) k zs, Rows.uptoBulk x = 1 := by
  intro x hx
  simp only [lits, List.mem_map] at hx
  obtain ⟨n, _, rfl⟩ := hx
  exact bulk_lit k n

theorem bytes_of_trod {t e : TypeId} (ht : P.underlying t = some (.slice e)) (he : P.underlying e = some (.int .u8)) (hce : P.cellsOf e = 1) {fuel : Nat} {v : Value} {x : DataW H × List MemPlace}
    (h : DataW.trod enc P W 0 (fun _ => true) true fuel t [v] = some x) :
    ∃ a n c bs, v = .slice a n c ∧ Part W ⟨a, n, c, bs⟩ ∧ Long x.1 c := by
  rcases open_ints ht he hce h with ⟨hcs, hx⟩ | ⟨a, len, cap, zs, hcs, _, hl, hm, hz, hx, hcell, hwf⟩
  · simp at hcs
    subst hcs hx
    exact ⟨none, 0, 0, [], rfl, Part.gone rfl, .inl ⟨rfl, rfl⟩⟩
  · simp at hcs hz
    subst hcs hx
    refine ⟨some a, len, cap, zs.take len, rfl, ⟨by simp; omega, hl, ?_, fun hn => ?_⟩, .inr ⟨_, _, rfl, by simp [lits]; omega, lits_one, lits_one⟩⟩
    · intro y hy
      exact bounds_u8 (hwf y (List.mem_of_mem_take hy))
    · have hn' : 0 < len := hn
      obtain ⟨b, off, spot⟩ := a
      have hspot : spot = none := by simpa [Addr.add] using World.cell?_spot (hcell 0 (by omega))
      subst hspot
      refine ⟨b, off, rfl, fun j hj => ?_⟩
      have hj' : j < len := hj
      have := hcell j (by omega)
      rw [List.getD_eq_getElem?_getD] at this
      simp only [List.getElem?_take, hj', if_true]
      rw [← this]
      congr 1
      unfold Addr.add
      by_cases h0 : j = 0 <;> simp [h0]

theorem open_bytes {t e : TypeId} (ht : P.underlying t = some (.slice e)) (he : P.underlying e = some (.int .u8)) (hce : P.cellsOf e = 1) {r : Reach} {b0 : Nat} {v : Value} {d : DataW H} {p : List MemPlace}
    (hv : Value.okWide P W r b0 t v) (h : DataW.Trod enc P W 0 (fun _ => true) true t v d p) : ∃ a n c bs, v = .slice a n c ∧ Part W ⟨a, n, c, bs⟩ ∧ Long d c := by
  obtain ⟨a, len, cap, rfl⟩ := okWide_slice ht hv
  obtain ⟨fuel, hf⟩ := h
  exact bytes_of_trod ht he hce (x := (d, p)) (by simpa [Value.cells] using hf)

theorem long_reach {ts : List TypeId} {ds : List (DataW H)} (hsz : (DataW.weightsEach P ts ds).all (· ≤ reachBytes) = true) {j : Nat} {t e : TypeId} {d : DataW H} {c : Nat}
    (ht : ts[j]? = some t) (hd : ds[j]? = some d) (hu : P.underlying t = some (.slice e)) (hb : P.bytesOf e = 1) (hl : Long d c) : c ≤ 140737488351232 := by
  rcases hl with ⟨_, rfl⟩ | ⟨E, S, rfl, hc, _, _⟩
  · omega
  · have := sized_slice hsz ht hd hu
    rw [hb] at this
    simp only [reachBytes] at this
    omega

theorem bulkAll_ge : ∀ {l : List (DataW H)}, (∀ x ∈ l, Rows.uptoBulk x = 1) → Rows.uptoBulkAll l = l.length
  | [], _ => by simp [Rows.uptoBulkAll]
  | x :: r, h => by
    have h1 := h x (by simp)
    have h2 := bulkAll_ge (l := r) (fun y hy => h y (by simp [hy]))
    simp only [Rows.uptoBulkAll, h1, h2, List.length_cons]; omega
theorem long_bulk {d : DataW H} {c : Nat} (hl : Long d c) : c ≤ Rows.uptoBulk d := by
  rcases hl with ⟨_, rfl⟩ | ⟨E, S, rfl, hc, h1, h2⟩
  · omega
  · simp only [Rows.uptoBulk, bulkAll_ge h1, bulkAll_ge h2]; omega
end

end Go.Proofs.Ytadpoklopahoeaa
