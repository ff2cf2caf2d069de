/-
  What cksum.Sum does: the sum of all bytes of the parts, folded.
-/
import Derived.Test.YtpcdaidgijkkbaaPart
import Derived.Deep.LoopGhost
import Derived.WalkMore
namespace Go.Proofs.Ytpcdaidgijkkbaa
open Go.RowKit

def flat (ps : List PartV) : List Int := (ps.map (·.bs)).flatten

theorem flat_step {ps : List PartV} {k : Nat} {p : PartV} (h : ps[k]? = some p) : flat (ps.take (k + 1)) = flat (ps.take k) ++ p.bs := by
  unfold flat
  rw [List.take_add_one, h]; simp
theorem flat_take_len (ps : List PartV) (k : Nat) : (flat (ps.take k)).length ≤ (flat ps).length := by
  have h : flat ps = flat (ps.take k) ++ flat (ps.drop k) := by
    unfold flat
    rw [← List.flatten_append, ← List.map_append, List.take_append_drop]
  rw [h, List.length_append]; omega
theorem flat_byt {w : World} {ps : List PartV} (h : ∀ p ∈ ps, Part w p) : Byt (flat ps) := by
  intro x hx
  simp only [flat, List.mem_flatten, List.mem_map] at hx
  obtain ⟨l, ⟨p, hp, rfl⟩, hx⟩ := hx
  exact (h p hp).2.2.1 x hx
theorem flat_take_byt {ps : List PartV} (h : Byt (flat ps)) (k : Nat) : Byt (flat (ps.take k)) := by
  intro x hx
  refine h x ?_
  simp only [flat, List.mem_flatten, List.mem_map] at hx ⊢
  obtain ⟨l, ⟨p, hp, rfl⟩, hx⟩ := hx
  exact ⟨_, ⟨p, List.mem_of_mem_take hp, rfl⟩, hx⟩

/-- What holds ahead of each part. -/
def Outer (w : World) (ps : List PartV) (gg : Nat) (t h i : Value) (wr : World) : Prop :=
  ∃ (k : Nat) (o : Bool) (T : Int), k + gg = ps.length ∧ i = .int .i64 k ∧ t = .int .u64 T ∧ h = .bool o ∧ T = tot (flat (ps.take k)) ∧ (o = true ↔ (flat (ps.take k)).length % 2 = 1) ∧ ∃ q, wr = w.drewN q
/-- What holds ahead of each two bytes of a part. -/
def Inner (w : World) (ps : List PartV) (k gg : Nat) (t h s : Value) (wr : World) : Prop :=
  ∃ (A : Option Addr) (n c : Nat) (bs P : List Int) (o : Bool) (T : Int), n ≤ gg ∧ t = .int .u64 T ∧ h = .bool o ∧ s = .slice A n c ∧ Part wr ⟨A, n, c, bs⟩ ∧ T = tot P ∧ (o = true ↔ P.length % 2 = 1) ∧ (o = true → n = 0) ∧
    P ++ bs = flat (ps.take (k + 1)) ∧ ∃ q, wr = w.drewN q

theorem flat_bound {ps : List PartV} (hb : Byt (flat ps)) (hl : (flat ps).length ≤ 422212465065984) {k : Nat} {P bs : List Int} (h : P ++ bs = flat (ps.take k)) :
    Byt P ∧ Byt bs ∧ 0 ≤ tot P ∧ tot P ≤ 13835000000000000000 := by
  have h1 := flat_take_byt hb k
  have h2 := flat_take_len ps k
  rw [← h] at h1 h2
  have h3 : Byt P := fun x hx => h1 x (by simp [hx])
  have h4 := tot_bd2 P h3
  rw [List.length_append] at h2
  exact ⟨h3, fun x hx => h1 x (by simp [hx]), h4.1, by omega⟩

/-- A part's state, aside. -/
def Mid (w : World) (ps : List PartV) (k : Nat) (A : Option Addr) (n c : Nat) (bs P : List Int) (o : Bool) (T : Int) (wr : World) : Prop :=
  Part wr ⟨A, n, c, bs⟩ ∧ T = tot P ∧ (o = true ↔ P.length % 2 = 1) ∧ P ++ bs = flat (ps.take (k + 1)) ∧ ∃ q, wr = w.drewN q

section
variable {w wr : World} {ps : List PartV} {k og : Nat} {A : Option Addr} {n c : Nat} {bs P : List Int} {o : Bool} {T : Int}
theorem Mid.done (h : Mid w ps k A 0 c bs P o T wr) (hk : k + (og + 1) = ps.length) : Outer w ps og (.int .u64 T) (.bool o) (.int .i64 ((k : Int) + 1)) wr := by
  obtain ⟨h1, h2, h3, h4, h5⟩ := h
  have hb : bs = [] := List.eq_nil_of_length_eq_zero h1.1
  subst hb
  rw [List.append_nil] at h4
  exact ⟨k + 1, o, T, by omega, by simp, rfl, rfl, by rw [h2, h4], by rw [← h4]; exact h3, h5⟩
theorem Mid.half {x : Int} (h : Mid w ps k A 1 c bs P false T wr) (hx : x = bs[0]?.getD 0) (hk : k + (og + 1) = ps.length) : Outer w ps og (.int .u64 (T + x * 256)) (.bool true) (.int .i64 ((k : Int) + 1)) wr := by
  obtain ⟨h1, h2, h3, h4, h5⟩ := h
  have hb : bs = [x] := by
    match bs, h1.1, hx with
    | [y], _, hx => simp at hx; simp [hx]
  subst hb
  have he : P.length % 2 = 0 := by
    have : ¬ P.length % 2 = 1 := fun e => by simpa using h3.2 e
    omega
  refine ⟨k + 1, true, _, by omega, by simp, rfl, rfl, ?_, ?_, h5⟩
  · rw [← h4, tot_append_even _ _ he, h2]; simp [tot]
  · rw [← h4]; simp; omega
theorem Mid.two {x y : Int} {A' : Option Addr} {c' q : Nat} (h : Mid w ps k A (n + 2) c bs P false T wr) (hx : x = bs[0]?.getD 0) (hy : y = bs[1]?.getD 0)
    (hp : Part wr ⟨A', n, c', bs.drop 2⟩) : Inner w ps k n (.int .u64 (T + (x * 256 + y))) (.bool false) (.slice A' n c') (wr.drewN q) := by
  obtain ⟨h1, h2, h3, h4, q0, h5⟩ := h
  have hb : bs = [x, y] ++ bs.drop 2 := by
    match bs, h1.1, hx, hy with
    | a :: b :: r, _, hx, hy => simp at hx hy; simp [hx, hy]
  have he : P.length % 2 = 0 := by
    have : ¬ P.length % 2 = 1 := fun e => by simpa using h3.2 e
    omega
  refine ⟨A', n, c', bs.drop 2, P ++ [x, y], false, _, Nat.le_refl _, rfl, rfl, rfl, hp.drewN q, ?_, ?_, by simp, ?_, q0 + q, by rw [h5, World.drewN_drewN]⟩
  · rw [tot_append_even _ _ he, h2, tot_pair]
  · simp; omega
  · rw [List.append_assoc, ← hb, h4]
end

set_option maxHeartbeats 1000000 in
theorem sum_any (gb : Nat) (ps : List PartV) (w : World) (hc : ∀ j p, ps[j]? = some p → w.cell? ⟨gb, j, none⟩ = some p.val) (hp : ∀ p ∈ ps, Part w p)
    (hm : ps.length ≤ 1000) (hl : (flat ps).length ≤ 422212465065984) :
    Calls Try.prog 65 #[.slice (some ⟨gb, 0, none⟩) ps.length ps.length] w fun e w' => e = .returned (.int .u16 (fd (tot (flat ps)))) ∧ ∃ k, w' = w.drewN k := by
  have HB := Lib.hid (flat_byt hp)
  have hC := Lib.hid hc
  have hP := Lib.hid hp
  clear hc hp
  go_enter Try.func65, Try.ntmps65
  go_wp2
  go_step3
  go_wp2
  go_step3
  go_wp2
  go_loopg [3, 4, 9] ps.length (fun gg t h i wr => Outer w ps gg t h i wr)
  case atStart => exact ⟨0, false, 0, by omega, rfl, rfl, rfl, by simp [flat, tot], by simp [flat], 0, rfl⟩
  case round =>
    obtain ⟨k, o, T, hk, rfl, rfl, rfl, hT, ho, hw⟩ := hrel
    have hbd := flat_bound HB.out hl (k := k) (P := flat (ps.take k)) (bs := []) (by simp)
    have hT0 : 0 ≤ T := by rw [hT]; exact hbd.2.2.1
    have hT1 : T ≤ 13835000000000000000 := by rw [hT]; exact hbd.2.2.2
    have HT := Lib.hid hT
    have HO := Lib.hid ho
    have HW := Lib.hid hw
    clear hbd hT ho hw
    rcases gk with _ | og
    · have hkl : ¬ (k : Int) < (ps.length : Int) := by omega
      go_wp2_with (go_at_call 71; refine (fold_any _ _ (by omega) (by omega)).mono ?_; rintro e w' ⟨rfl, rfl⟩)
      try rw [Exit.noGoto_ret]
      go_ret
      obtain ⟨q, hq⟩ := HW.out
      refine ⟨ret_int ?_, q, hq⟩
      rw [HT.out, List.take_of_length_le (by omega)]
    · obtain ⟨⟨A, n, c, bs⟩, hpk⟩ : ∃ p, ps[k]? = some p := ⟨_, List.getElem?_eq_getElem (by omega)⟩
      have hpart : Part wr ⟨A, n, c, bs⟩ := by
        obtain ⟨q, rfl⟩ := HW.out
        exact (hP.out _ (List.mem_of_getElem? hpk)).drewN q
      have hcell : wr.cell? ⟨gb, k, none⟩ = some (.slice A n c) := by
        obtain ⟨q, rfl⟩ := HW.out
        exact hC.out _ _ hpk
      have HF := Lib.hid (flat_step hpk)
      clear hpk
      have HP := Lib.hid hpart
      have hkl : (k : Int) < (ps.length : Int) := by omega
      have hpc : n ≤ c := hpart.2.1
      clear hpart
      rcases o with _ | _
      · have hst : Hid (Inner w ps k n (.int .u64 T) (.bool false) (.slice A n c) wr) := Lib.hid ⟨A, n, c, bs, _, false, T, Nat.le_refl _, rfl, rfl, rfl, HP.out, HT.out, HO.out, by simp, HF.out.symm, HW.out⟩
        go_wp2
        go_loopg [3, 4, 6] n (fun gg t h s wy => Inner w ps k gg t h s wy)
        case atStart => exact hst.out
        case round =>
          clear hst hcell
          obtain ⟨A2, n2, c2, bs2, P, o2, T2, hn2, rfl, rfl, rfl, hp2, hT2, ho2, hon, hpf, hq⟩ := hrel
          have hbd := flat_bound HB.out hl hpf
          have ha2 : 0 ≤ T2 := by rw [hT2]; exact hbd.2.2.1
          have hb2 : T2 ≤ 13835000000000000000 := by rw [hT2]; exact hbd.2.2.2
          have HX : Hid (Mid w ps k A2 n2 c2 bs2 P o2 T2 wr) := Lib.hid ⟨hp2, hT2, ho2, hpf, hq⟩
          have hpc2 : n2 ≤ c2 := hp2.2.1
          have hbb := hbd.2.1
          clear hT2 ho2 hpf hq hbd
          rcases n2 with _ | _ | n2
          · clear hp2 hbb
            go_wp2
            go_roundg og
            case measure => omega
            case rel => exact HX.out.done hk
          · obtain rfl : o2 = false := by cases o2 <;> simp at hon ⊢
            obtain ⟨b2, off2, e, hcc2⟩ := hp2.2.2.2 (by simp)
            simp only at e
            subst e
            obtain ⟨x2, hx2⟩ : ∃ x, x = bs2[0]?.getD 0 := ⟨_, rfl⟩
            have hd0 : wr.cell? ⟨b2, off2, none⟩ = some (.int .u8 x2) := by rw [hx2]; exact hcc2 0 (by simp)
            have hr0 : 0 ≤ x2 ∧ x2 ≤ 255 := by rw [hx2]; exact hbb.get 0
            have HE := Lib.hid hx2
            clear hcc2 hx2 hp2 hbb hon
            go_wp2
            go_roundg og
            case measure => omega
            case rel => exact HX.out.half HE.out hk
          · obtain rfl : o2 = false := by cases o2 <;> simp at hon ⊢
            obtain ⟨b2, off2, e, hcc2⟩ := hp2.2.2.2 (by simp)
            simp only at e
            subst e
            obtain ⟨x2, hx2⟩ : ∃ x, x = bs2[0]?.getD 0 := ⟨_, rfl⟩
            obtain ⟨y2, hy2⟩ : ∃ x, x = bs2[1]?.getD 0 := ⟨_, rfl⟩
            have hd0 : wr.cell? ⟨b2, off2, none⟩ = some (.int .u8 x2) := by rw [hx2]; exact hcc2 0 (by simp)
            have hd1 : wr.cell? ⟨b2, off2 + 1, none⟩ = some (.int .u8 y2) := by rw [hy2]; exact hcc2 1 (by simp)
            have hr0 : 0 ≤ x2 ∧ x2 ≤ 255 := by rw [hx2]; exact hbb.get 0
            have hr1 : 0 ≤ y2 ∧ y2 ≤ 255 := by rw [hy2]; exact hbb.get 1
            have HE := Lib.hid hx2
            have HE2 := Lib.hid hy2
            clear hcc2 hx2 hy2 hbb hon
            by_cases hc2 : c2 = 2
            · subst hc2
              obtain rfl : n2 = 0 := by omega
              have HG : Hid (Part wr ⟨some ⟨b2, off2, none⟩, 0, 0, bs2.drop 2⟩) := Lib.hid (Part.gone (by have := hp2.1; simp at this ⊢; omega))
              clear hp2
              go_wp2_with (go_at_call 70; refine (pair_any _ _ _ _ x2 y2 _ (by omega) hr0 hr1 hd0 hd1).mono ?_; rintro e w' ⟨rfl, q, rfl⟩)
              go_roundg 0
              case measure => omega
              case rel => exact HX.out.two HE.out HE2.out HG.out
            · have HG : Hid (Part wr ⟨some ⟨b2, off2 + 2, none⟩, n2, c2 - 2, bs2.drop 2⟩) := Lib.hid (hp2.cut 2 (by omega))
              clear hp2
              go_wp2_with (go_at_call 70; refine (pair_any _ _ _ _ x2 y2 _ (by omega) hr0 hr1 hd0 hd1).mono ?_; rintro e w' ⟨rfl, q, rfl⟩)
              go_roundg n2
              case measure => omega
              case rel => exact HX.out.two HE.out HE2.out HG.out
      · by_cases hn : 0 < n
        · obtain ⟨b, off, e, hcc⟩ := HP.out.2.2.2 hn
          simp only at e
          subst e
          obtain ⟨x, hx⟩ : ∃ x, x = bs[0]?.getD 0 := ⟨_, rfl⟩
          have hc0 : wr.cell? ⟨b, off, none⟩ = some (.int .u8 x) := by rw [hx]; exact hcc 0 hn
          have hx0 : 0 ≤ x ∧ x ≤ 255 := by rw [hx]; exact HP.out.2.2.1.get 0
          have hlen : bs.length = n := HP.out.1
          have hfl : ∀ A' c', Part wr ⟨A', n - 1, c', bs.drop 1⟩ → Inner w ps k n (.int .u64 (T + x)) (.bool false) (.slice A' (n - 1) c') wr := by
            intro A' c' hp'
            have hodd := HO.out.1 rfl
            have hcons : bs = [x] ++ bs.drop 1 := by
              match bs, hlen, hx with
              | y :: r, _, hx => simp at hx; simp [hx]
              | [], hlen, _ => simp at hlen; omega
            refine ⟨A', n - 1, c', bs.drop 1, flat (ps.take k) ++ [x], false, _, by omega, rfl, rfl, rfl, hp', ?_, ?_, by simp, ?_, HW.out⟩
            · rw [tot_snoc_odd _ _ hodd, HT.out]
            · simp; omega
            · rw [HF.out, List.append_assoc, ← hcons]
          clear hcc hx hlen
          by_cases hc1 : c = 1
          · have hst : Hid (Inner w ps k n (.int .u64 (T + x)) (.bool false) (.slice (some ⟨b, off, none⟩) 0 0) wr) := by
              have hn1 : n - 1 = 0 := by omega
              rw [hn1] at hfl
              exact Lib.hid (hfl _ _ (Part.gone (by have := HP.out.1; simp at this ⊢; omega)))
            clear hfl
            subst hc1
            go_wp2
            go_loopg [3, 4, 6] n (fun gg t h s wy => Inner w ps k gg t h s wy)
            case atStart => exact hst.out
            case round =>
              clear hst hcell
              obtain ⟨A2, n2, c2, bs2, P, o2, T2, hn2, rfl, rfl, rfl, hp2, hT2, ho2, hon, hpf, hq⟩ := hrel
              have hbd := flat_bound HB.out hl hpf
              have ha2 : 0 ≤ T2 := by rw [hT2]; exact hbd.2.2.1
              have hb2 : T2 ≤ 13835000000000000000 := by rw [hT2]; exact hbd.2.2.2
              have HX : Hid (Mid w ps k A2 n2 c2 bs2 P o2 T2 wr) := Lib.hid ⟨hp2, hT2, ho2, hpf, hq⟩
              have hpc2 : n2 ≤ c2 := hp2.2.1
              have hbb := hbd.2.1
              clear hT2 ho2 hpf hq hbd
              rcases n2 with _ | _ | n2
              · clear hp2 hbb
                go_wp2
                go_roundg og
                case measure => omega
                case rel => exact HX.out.done hk
              · obtain rfl : o2 = false := by cases o2 <;> simp at hon ⊢
                obtain ⟨b2, off2, e, hcc2⟩ := hp2.2.2.2 (by simp)
                simp only at e
                subst e
                obtain ⟨x2, hx2⟩ : ∃ x, x = bs2[0]?.getD 0 := ⟨_, rfl⟩
                have hd0 : wr.cell? ⟨b2, off2, none⟩ = some (.int .u8 x2) := by rw [hx2]; exact hcc2 0 (by simp)
                have hr0 : 0 ≤ x2 ∧ x2 ≤ 255 := by rw [hx2]; exact hbb.get 0
                have HE := Lib.hid hx2
                clear hcc2 hx2 hp2 hbb hon
                go_wp2
                go_roundg og
                case measure => omega
                case rel => exact HX.out.half HE.out hk
              · obtain rfl : o2 = false := by cases o2 <;> simp at hon ⊢
                obtain ⟨b2, off2, e, hcc2⟩ := hp2.2.2.2 (by simp)
                simp only at e
                subst e
                obtain ⟨x2, hx2⟩ : ∃ x, x = bs2[0]?.getD 0 := ⟨_, rfl⟩
                obtain ⟨y2, hy2⟩ : ∃ x, x = bs2[1]?.getD 0 := ⟨_, rfl⟩
                have hd0 : wr.cell? ⟨b2, off2, none⟩ = some (.int .u8 x2) := by rw [hx2]; exact hcc2 0 (by simp)
                have hd1 : wr.cell? ⟨b2, off2 + 1, none⟩ = some (.int .u8 y2) := by rw [hy2]; exact hcc2 1 (by simp)
                have hr0 : 0 ≤ x2 ∧ x2 ≤ 255 := by rw [hx2]; exact hbb.get 0
                have hr1 : 0 ≤ y2 ∧ y2 ≤ 255 := by rw [hy2]; exact hbb.get 1
                have HE := Lib.hid hx2
                have HE2 := Lib.hid hy2
                clear hcc2 hx2 hy2 hbb hon
                by_cases hc2 : c2 = 2
                · subst hc2
                  obtain rfl : n2 = 0 := by omega
                  have HG : Hid (Part wr ⟨some ⟨b2, off2, none⟩, 0, 0, bs2.drop 2⟩) := Lib.hid (Part.gone (by have := hp2.1; simp at this ⊢; omega))
                  clear hp2
                  go_wp2_with (go_at_call 70; refine (pair_any _ _ _ _ x2 y2 _ (by omega) hr0 hr1 hd0 hd1).mono ?_; rintro e w' ⟨rfl, q, rfl⟩)
                  go_roundg 0
                  case measure => omega
                  case rel => exact HX.out.two HE.out HE2.out HG.out
                · have HG : Hid (Part wr ⟨some ⟨b2, off2 + 2, none⟩, n2, c2 - 2, bs2.drop 2⟩) := Lib.hid (hp2.cut 2 (by omega))
                  clear hp2
                  go_wp2_with (go_at_call 70; refine (pair_any _ _ _ _ x2 y2 _ (by omega) hr0 hr1 hd0 hd1).mono ?_; rintro e w' ⟨rfl, q, rfl⟩)
                  go_roundg n2
                  case measure => omega
                  case rel => exact HX.out.two HE.out HE2.out HG.out
          · have hst : Hid (Inner w ps k n (.int .u64 (T + x)) (.bool false) (.slice (some ⟨b, off + 1, none⟩) (n - 1) (c - 1)) wr) := Lib.hid (hfl _ _ (HP.out.cut 1 (by omega)))
            clear hfl
            go_wp2
            go_loopg [3, 4, 6] n (fun gg t h s wy => Inner w ps k gg t h s wy)
            case atStart => exact hst.out
            case round =>
              clear hst hcell
              obtain ⟨A2, n2, c2, bs2, P, o2, T2, hn2, rfl, rfl, rfl, hp2, hT2, ho2, hon, hpf, hq⟩ := hrel
              have hbd := flat_bound HB.out hl hpf
              have ha2 : 0 ≤ T2 := by rw [hT2]; exact hbd.2.2.1
              have hb2 : T2 ≤ 13835000000000000000 := by rw [hT2]; exact hbd.2.2.2
              have HX : Hid (Mid w ps k A2 n2 c2 bs2 P o2 T2 wr) := Lib.hid ⟨hp2, hT2, ho2, hpf, hq⟩
              have hpc2 : n2 ≤ c2 := hp2.2.1
              have hbb := hbd.2.1
              clear hT2 ho2 hpf hq hbd
              rcases n2 with _ | _ | n2
              · clear hp2 hbb
                go_wp2
                go_roundg og
                case measure => omega
                case rel => exact HX.out.done hk
              · obtain rfl : o2 = false := by cases o2 <;> simp at hon ⊢
                obtain ⟨b2, off2, e, hcc2⟩ := hp2.2.2.2 (by simp)
                simp only at e
                subst e
                obtain ⟨x2, hx2⟩ : ∃ x, x = bs2[0]?.getD 0 := ⟨_, rfl⟩
                have hd0 : wr.cell? ⟨b2, off2, none⟩ = some (.int .u8 x2) := by rw [hx2]; exact hcc2 0 (by simp)
                have hr0 : 0 ≤ x2 ∧ x2 ≤ 255 := by rw [hx2]; exact hbb.get 0
                have HE := Lib.hid hx2
                clear hcc2 hx2 hp2 hbb hon
                go_wp2
                go_roundg og
                case measure => omega
                case rel => exact HX.out.half HE.out hk
              · obtain rfl : o2 = false := by cases o2 <;> simp at hon ⊢
                obtain ⟨b2, off2, e, hcc2⟩ := hp2.2.2.2 (by simp)
                simp only at e
                subst e
                obtain ⟨x2, hx2⟩ : ∃ x, x = bs2[0]?.getD 0 := ⟨_, rfl⟩
                obtain ⟨y2, hy2⟩ : ∃ x, x = bs2[1]?.getD 0 := ⟨_, rfl⟩
                have hd0 : wr.cell? ⟨b2, off2, none⟩ = some (.int .u8 x2) := by rw [hx2]; exact hcc2 0 (by simp)
                have hd1 : wr.cell? ⟨b2, off2 + 1, none⟩ = some (.int .u8 y2) := by rw [hy2]; exact hcc2 1 (by simp)
                have hr0 : 0 ≤ x2 ∧ x2 ≤ 255 := by rw [hx2]; exact hbb.get 0
                have hr1 : 0 ≤ y2 ∧ y2 ≤ 255 := by rw [hy2]; exact hbb.get 1
                have HE := Lib.hid hx2
                have HE2 := Lib.hid hy2
                clear hcc2 hx2 hy2 hbb hon
                by_cases hc2 : c2 = 2
                · subst hc2
                  obtain rfl : n2 = 0 := by omega
                  have HG : Hid (Part wr ⟨some ⟨b2, off2, none⟩, 0, 0, bs2.drop 2⟩) := Lib.hid (Part.gone (by have := hp2.1; simp at this ⊢; omega))
                  clear hp2
                  go_wp2_with (go_at_call 70; refine (pair_any _ _ _ _ x2 y2 _ (by omega) hr0 hr1 hd0 hd1).mono ?_; rintro e w' ⟨rfl, q, rfl⟩)
                  go_roundg 0
                  case measure => omega
                  case rel => exact HX.out.two HE.out HE2.out HG.out
                · have HG : Hid (Part wr ⟨some ⟨b2, off2 + 2, none⟩, n2, c2 - 2, bs2.drop 2⟩) := Lib.hid (hp2.cut 2 (by omega))
                  clear hp2
                  go_wp2_with (go_at_call 70; refine (pair_any _ _ _ _ x2 y2 _ (by omega) hr0 hr1 hd0 hd1).mono ?_; rintro e w' ⟨rfl, q, rfl⟩)
                  go_roundg n2
                  case measure => omega
                  case rel => exact HX.out.two HE.out HE2.out HG.out
        · obtain rfl : n = 0 := by omega
          have hst : Hid (Inner w ps k 0 (.int .u64 T) (.bool true) (.slice A 0 c) wr) := Lib.hid ⟨A, 0, c, bs, _, true, T, Nat.le_refl _, rfl, rfl, rfl, HP.out, HT.out, HO.out, by simp, HF.out.symm, HW.out⟩
          go_wp2
          go_loopg [3, 4, 6] 0 (fun gg t h s wy => Inner w ps k gg t h s wy)
          case atStart => exact hst.out
          case round =>
            clear hst hcell
            obtain ⟨A2, n2, c2, bs2, P, o2, T2, hn2, rfl, rfl, rfl, hp2, hT2, ho2, hon, hpf, hq⟩ := hrel
            have hbd := flat_bound HB.out hl hpf
            have ha2 : 0 ≤ T2 := by rw [hT2]; exact hbd.2.2.1
            have hb2 : T2 ≤ 13835000000000000000 := by rw [hT2]; exact hbd.2.2.2
            have HX : Hid (Mid w ps k A2 n2 c2 bs2 P o2 T2 wr) := Lib.hid ⟨hp2, hT2, ho2, hpf, hq⟩
            have hpc2 : n2 ≤ c2 := hp2.2.1
            have hbb := hbd.2.1
            clear hT2 ho2 hpf hq hbd
            rcases n2 with _ | _ | n2
            · clear hp2 hbb
              go_wp2
              go_roundg og
              case measure => omega
              case rel => exact HX.out.done hk
            · obtain rfl : o2 = false := by cases o2 <;> simp at hon ⊢
              obtain ⟨b2, off2, e, hcc2⟩ := hp2.2.2.2 (by simp)
              simp only at e
              subst e
              obtain ⟨x2, hx2⟩ : ∃ x, x = bs2[0]?.getD 0 := ⟨_, rfl⟩
              have hd0 : wr.cell? ⟨b2, off2, none⟩ = some (.int .u8 x2) := by rw [hx2]; exact hcc2 0 (by simp)
              have hr0 : 0 ≤ x2 ∧ x2 ≤ 255 := by rw [hx2]; exact hbb.get 0
              have HE := Lib.hid hx2
              clear hcc2 hx2 hp2 hbb hon
              go_wp2
              go_roundg og
              case measure => omega
              case rel => exact HX.out.half HE.out hk
            · obtain rfl : o2 = false := by cases o2 <;> simp at hon ⊢
              obtain ⟨b2, off2, e, hcc2⟩ := hp2.2.2.2 (by simp)
              simp only at e
              subst e
              obtain ⟨x2, hx2⟩ : ∃ x, x = bs2[0]?.getD 0 := ⟨_, rfl⟩
              obtain ⟨y2, hy2⟩ : ∃ x, x = bs2[1]?.getD 0 := ⟨_, rfl⟩
              have hd0 : wr.cell? ⟨b2, off2, none⟩ = some (.int .u8 x2) := by rw [hx2]; exact hcc2 0 (by simp)
              have hd1 : wr.cell? ⟨b2, off2 + 1, none⟩ = some (.int .u8 y2) := by rw [hy2]; exact hcc2 1 (by simp)
              have hr0 : 0 ≤ x2 ∧ x2 ≤ 255 := by rw [hx2]; exact hbb.get 0
              have hr1 : 0 ≤ y2 ∧ y2 ≤ 255 := by rw [hy2]; exact hbb.get 1
              have HE := Lib.hid hx2
              have HE2 := Lib.hid hy2
              clear hcc2 hx2 hy2 hbb hon
              by_cases hc2 : c2 = 2
              · subst hc2
                obtain rfl : n2 = 0 := by omega
                have HG : Hid (Part wr ⟨some ⟨b2, off2, none⟩, 0, 0, bs2.drop 2⟩) := Lib.hid (Part.gone (by have := hp2.1; simp at this ⊢; omega))
                clear hp2
                go_wp2_with (go_at_call 70; refine (pair_any _ _ _ _ x2 y2 _ (by omega) hr0 hr1 hd0 hd1).mono ?_; rintro e w' ⟨rfl, q, rfl⟩)
                go_roundg 0
                case measure => omega
                case rel => exact HX.out.two HE.out HE2.out HG.out
              · have HG : Hid (Part wr ⟨some ⟨b2, off2 + 2, none⟩, n2, c2 - 2, bs2.drop 2⟩) := Lib.hid (hp2.cut 2 (by omega))
                clear hp2
                go_wp2_with (go_at_call 70; refine (pair_any _ _ _ _ x2 y2 _ (by omega) hr0 hr1 hd0 hd1).mono ?_; rintro e w' ⟨rfl, q, rfl⟩)
                go_roundg n2
                case measure => omega
                case rel => exact HX.out.two HE.out HE2.out HG.out

end Go.Proofs.Ytpcdaidgijkkbaa
