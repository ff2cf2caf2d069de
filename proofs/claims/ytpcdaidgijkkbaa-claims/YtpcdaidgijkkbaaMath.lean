/-
  The plain arithmetic of sums of sixteen bits: what a fold gives, what two bytes are as a number. Nothing of the program stands here.
-/
import Derived.Below
namespace Go.Proofs.Ytpcdaidgijkkbaa

/-- What is left when all bits above the lowest sixteen are added to these, as long as there are any. -/
def fd (n : Int) : Int := if n = 0 then 0 else (n - 1) % 65535 + 1

theorem fd_zero : fd 0 = 0 := rfl
theorem fd_small {n : Int} (h0 : 0 ≤ n) (h : n ≤ 65535) : fd n = n := by unfold fd; split <;> omega
theorem fd_step {n : Int} (h : 65535 < n) : fd (n / 65536 + n % 65536) = fd n := by
  unfold fd; rw [if_neg (by omega), if_neg (by omega)]; omega
theorem fd_step' {n : Int} (h : 65535 < n) : fd (n % 65536 + n / 65536) = fd n := by
  rw [Int.add_comm]; exact fd_step h
theorem fd_bd (n : Int) : 0 ≤ fd n ∧ fd n ≤ 65535 := by unfold fd; split <;> omega
theorem fd_mod {n : Int} : fd n % 65535 = n % 65535 := by unfold fd; split <;> omega
theorem fd_pos {n : Int} (h0 : 0 < n) : 0 < fd n := by unfold fd; split <;> omega
theorem fd_add {a b : Int} (h0 : 0 ≤ a) (h1 : 0 ≤ b) : fd (fd a + b) = fd (a + b) := by
  unfold fd; split
  · subst_vars; rfl
  · rw [if_neg (by omega), if_neg (by omega)]; omega
/-- Two numbers of which neither or both are 0 fold alike where they leave the same by 65535. -/
theorem fd_congr {a b : Int} (hz : a = 0 ↔ b = 0) (h : a % 65535 = b % 65535) : fd a = fd b := by
  unfold fd
  by_cases e : a = 0
  · rw [if_pos e, if_pos (hz.1 e)]
  · rw [if_neg e, if_neg (fun x => e (hz.2 x))]; omega

/-- All bytes, two by two, as numbers, added. -/
def tot : List Int → Int
  | [] => 0
  | [a] => a * 256
  | a :: b :: r => a * 256 + b + tot r

/-- Each is a byte. -/
def Byt (l : List Int) : Prop := ∀ x ∈ l, 0 ≤ x ∧ x ≤ 255

theorem Byt.nil : Byt [] := fun _ h => by simp at h
theorem Byt.cons {a : Int} {l : List Int} (h : 0 ≤ a ∧ a ≤ 255) (hl : Byt l) : Byt (a :: l) := fun x hx => by
  rcases List.mem_cons.1 hx with rfl | hx
  · exact h
  · exact hl x hx
theorem Byt.append {l m : List Int} (hl : Byt l) (hm : Byt m) : Byt (l ++ m) := fun x hx => by
  rcases List.mem_append.1 hx with hx | hx
  · exact hl x hx
  · exact hm x hx
theorem Byt.drop {l : List Int} (hl : Byt l) (k : Nat) : Byt (l.drop k) := fun x hx => hl x (List.mem_of_mem_drop hx)
theorem Byt.take {l : List Int} (hl : Byt l) (k : Nat) : Byt (l.take k) := fun x hx => hl x (List.mem_of_mem_take hx)
theorem Byt.get {l : List Int} (hl : Byt l) (k : Nat) : 0 ≤ l[k]?.getD 0 ∧ l[k]?.getD 0 ≤ 255 := by
  rcases h : l[k]? with _ | x
  · simp
  · simpa using hl x (List.mem_of_getElem? h)

theorem tot_bd : ∀ (l : List Int), Byt l → 0 ≤ tot l ∧ tot l ≤ 65535 * l.length
  | [], _ => by simp [tot]
  | [a], h => by have := h a (by simp); simp [tot]; omega
  | a :: b :: r, h => by
    have h1 := h a (by simp)
    have h2 := h b (by simp)
    have := tot_bd r (fun x hx => h x (by simp [hx]))
    simp only [tot, List.length_cons]; omega
theorem tot_bd2 : ∀ (l : List Int), Byt l → 0 ≤ tot l ∧ tot l * 2 ≤ 65535 * (l.length + 1)
  | [], _ => by simp [tot]
  | [a], h => by have := h a (by simp); simp [tot]; omega
  | a :: b :: r, h => by
    have h1 := h a (by simp)
    have h2 := h b (by simp)
    have := tot_bd2 r (fun x hx => h x (by simp [hx]))
    simp only [tot, List.length_cons]; omega
theorem tot_append_even : ∀ (l m : List Int), l.length % 2 = 0 → tot (l ++ m) = tot l + tot m
  | [], m, _ => by simp [tot]
  | [a], m, h => by simp at h
  | a :: b :: r, m, h => by
    have := tot_append_even r m (by simp at h; omega)
    simp only [List.cons_append, tot, this]; omega
theorem tot_snoc_odd : ∀ (l : List Int) (b : Int), l.length % 2 = 1 → tot (l ++ [b]) = tot l + b
  | [], b, h => by simp at h
  | [a], b, h => by simp [tot]
  | a :: c :: r, b, h => by
    have := tot_snoc_odd r b (by simp at h; omega)
    simp only [List.cons_append, tot, this]; omega
theorem tot_pair (a b : Int) : tot [a, b] = a * 256 + b := by simp [tot]
theorem tot_two (l : List Int) (h : 2 ≤ l.length) : tot (l.take 2) = l[0]?.getD 0 * 256 + l[1]?.getD 0 := by
  match l, h with
  | a :: b :: r, _ => simp [tot]
theorem tot_one (l : List Int) (h : l.length = 1) : tot l = l[0]?.getD 0 * 256 := by
  match l, h with
  | [a], _ => simp [tot]

end Go.Proofs.Ytpcdaidgijkkbaa
