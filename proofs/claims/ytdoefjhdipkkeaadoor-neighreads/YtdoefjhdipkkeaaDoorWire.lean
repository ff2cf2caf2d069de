/-
  The plain arithmetic of packets: what was written is read as it was, and its first twenty bytes are good. How packets compare.
-/
import Derived.Test.YtdoefjhdipkkeaaDoorEncode
import Derived.Test.YtdoefjhdipkkeaaDoorDecAny
namespace Go.Proofs.YtdoefjhdipkkeaaDoor
open Go.RowKit
set_option linter.unusedVariables false

theorem tot_head4 (n p l hi lo : Int) (f t : ByteArray) : tot (head4 n p l hi lo f t) = tot (head4 n p l 0 0 f t) + (hi * 256 + lo) := by
  simp only [head4, List.cons_append, List.nil_append, tot]
  omega
/-- The first twenty bytes are good. -/
theorem good_head4 (n p l : Int) (f t : ByteArray) (hp : 0 ≤ p ∧ p ≤ 255) (hl : 0 ≤ l ∧ l ≤ 255) : fd (tot (head4 n p l (sum4 n p l f t / 256) (sum4 n p l f t % 256) f t)) = 65535 := by
  rw [tot_head4, show sum4 n p l f t / 256 * 256 + sum4 n p l f t % 256 = sum4 n p l f t by omega]
  have hb : 0 < tot (head4 n p l 0 0 f t) := by
    have := (tot_bd2 _ ((bts_byt f).append (bts_byt t))).1
    simp only [head4, List.cons_append, List.nil_append, tot]
    omega
  unfold sum4
  generalize tot (head4 n p l 0 0 f t) = T at hb ⊢
  have h1 := fd_bd T
  have h2 := @fd_mod T
  generalize fd T = S at h1 h2 ⊢
  unfold fd
  rw [if_neg (by omega)]
  omega

theorem seg_left (pre : List Int) (s : ByteArray) (post : List Int) (k n : Nat) (hk : pre.length = k) (hn : s.size = n) : seg (pre ++ (bts s ++ post)) k n = s := by
  subst hk hn
  unfold seg
  rw [List.drop_left, ← bts_len s, List.take_left, strOfNums_bts]
theorem seg_left' (bs pre : List Int) (s : ByteArray) (post : List Int) (k n : Nat) (h : bs = pre ++ (bts s ++ post)) (hk : pre.length = k) (hn : s.size = n) : seg bs k n = s := by
  subst h; exact seg_left pre s post k n hk hn

/-- What was written is read as it was, whatever stands behind it. -/
theorem dec_wire (f t : ByteArray) (p l : Int) (s : ByteArray) (more : List Int) (h : Okp f t p l s) : dec (wire f t p l s ++ more) = (⟨f, t, p, l, s⟩, 0) := by
  obtain ⟨h1, h2, h3, h4⟩ := h
  simp [alikeB, rightB] at h1
  simp [byteB] at h2 h3
  unfold headI at h4
  by_cases h6 : f.size = 16
  · rw [if_pos h6] at h4
    have ht6 : t.size = 16 := by omega
    obtain ⟨bs, hbs⟩ : ∃ bs, bs = wire f t p l s ++ more := ⟨_, rfl⟩
    have e1 : bs = [96, 0, 0, 0, (s.size : Int) / 256 % 256, (s.size : Int) % 256, p, l] ++ (bts f ++ (bts t ++ (bts s ++ more))) := by rw [hbs]; simp [wire, h6, wire6]
    have hl : bs.length = 40 + s.size + more.length := by rw [e1]; simp [bts_len, h6, ht6]; omega
    have b0 : byteAt bs 0 = 96 := by rw [e1]; simp [byteAt]
    have b4 : byteAt bs 4 = (s.size : Int) / 256 % 256 := by rw [e1]; simp [byteAt]
    have b5 : byteAt bs 5 = (s.size : Int) % 256 := by rw [e1]; simp [byteAt]
    have b6 : byteAt bs 6 = p := by rw [e1]; simp [byteAt]
    have b7 : byteAt bs 7 = l := by rw [e1]; simp [byteAt]
    have t4 : twoAt bs 4 = s.size := by
      have : twoAt bs 4 = byteAt bs 4 * 256 + byteAt bs 5 := rfl
      rw [this, b4, b5]; omega
    have s1 : seg bs 8 16 = f := seg_left' bs _ f _ 8 16 e1 rfl h6
    have s2 : seg bs 24 16 = t := seg_left' bs ([96, 0, 0, 0, (s.size : Int) / 256 % 256, (s.size : Int) % 256, p, l] ++ bts f) t (bts s ++ more) 24 16 (by rw [e1]; simp) (by simp [bts_len, h6]) ht6
    have s3 : seg bs 40 s.size = s := seg_left' bs ([96, 0, 0, 0, (s.size : Int) / 256 % 256, (s.size : Int) % 256, p, l] ++ (bts f ++ bts t)) s more 40 s.size (by rw [e1]; simp) (by simp [bts_len, h6, ht6]) rfl
    rw [← hbs]
    unfold dec dec6
    rw [if_neg (by omega), if_pos (by omega), if_neg (by omega), if_neg (by omega), t4, s1, s2, b6, b7, Int.toNat_natCast, s3]
  · rw [if_neg h6] at h4
    have hf4 : f.size = 4 := by omega
    have ht4 : t.size = 4 := by omega
    have hsb := sum4_bd s.size p l f t
    obtain ⟨m, hm⟩ : ∃ m, m = sum4 s.size p l f t := ⟨_, rfl⟩
    have hg := good_head4 s.size p l f t h2 h3
    rw [← hm] at hsb hg
    obtain ⟨bs, hbs⟩ : ∃ bs, bs = wire f t p l s ++ more := ⟨_, rfl⟩
    have e0 : bs = head4 s.size p l (m / 256) (m % 256) f t ++ (bts s ++ more) := by rw [hbs]; simp [wire, h6, wire4, hm]
    have e1 : bs = [69, 0, (20 + (s.size : Int)) / 256 % 256, (20 + (s.size : Int)) % 256, 0, 0, 64, 0, l, p, m / 256, m % 256] ++ (bts f ++ (bts t ++ (bts s ++ more))) := by rw [e0]; simp [head4]
    have hl : bs.length = 20 + s.size + more.length := by rw [e1]; simp [bts_len, hf4, ht4]; omega
    have b0 : byteAt bs 0 = 69 := by rw [e1]; simp [byteAt]
    have b2 : byteAt bs 2 = (20 + (s.size : Int)) / 256 % 256 := by rw [e1]; simp [byteAt]
    have b3 : byteAt bs 3 = (20 + (s.size : Int)) % 256 := by rw [e1]; simp [byteAt]
    have b6 : byteAt bs 6 = 64 := by rw [e1]; simp [byteAt]
    have b7 : byteAt bs 7 = 0 := by rw [e1]; simp [byteAt]
    have b8 : byteAt bs 8 = l := by rw [e1]; simp [byteAt]
    have b9 : byteAt bs 9 = p := by rw [e1]; simp [byteAt]
    have t2 : twoAt bs 2 = 20 + (s.size : Int) := by
      have : twoAt bs 2 = byteAt bs 2 * 256 + byteAt bs 3 := rfl
      rw [this, b2, b3]; omega
    have tk : bs.take 20 = head4 s.size p l (m / 256) (m % 256) f t := by rw [e0, ← head4_len s.size p l (m / 256) (m % 256) f t hf4 ht4, List.take_left]
    have s1 : seg bs 12 4 = f := seg_left' bs _ f _ 12 4 e1 rfl hf4
    have s2 : seg bs 16 4 = t := seg_left' bs ([69, 0, (20 + (s.size : Int)) / 256 % 256, (20 + (s.size : Int)) % 256, 0, 0, 64, 0, l, p, m / 256, m % 256] ++ bts f) t (bts s ++ more) 16 4 (by rw [e1]; simp) (by simp [bts_len, hf4]) ht4
    have s3 : seg bs 20 s.size = s := seg_left' bs _ s more 20 s.size e0 (head4_len _ _ _ _ _ _ _ hf4 ht4) rfl
    rw [← hbs]
    unfold dec dec4
    rw [if_neg (by omega), if_neg (by omega), if_pos (by omega), if_neg (by omega), if_neg (by omega), if_neg (by omega), tk, if_neg (by omega), if_neg (by omega), t2, s1, s2, b8, b9, show ((20 + (s.size : Int)).toNat - 20) = s.size by omega, s3]

theorem wire_byt {f t s : ByteArray} {p l : Int} (h : Okp f t p l s) : Byt (wire f t p l s) := by
  obtain ⟨_, h2, h3, _⟩ := h
  simp [byteB] at h2 h3
  unfold wire
  split
  · exact wire6_byt h2 h3
  · exact wire4_byt h2 h3
theorem wire_len {f t s : ByteArray} {p l : Int} (h : Okp f t p l s) : (wire f t p l s).length = (if f.size = 16 then 40 else 20) + s.size := by
  obtain ⟨h1, _⟩ := h
  simp [alikeB, rightB] at h1
  unfold wire
  split
  · simp [wire6, bts_len]; omega
  · simp [wire4, head4, bts_len]; omega
theorem okp_small {f t s : ByteArray} {p l : Int} (h : Okp f t p l s) : f.size ≤ 16 ∧ t.size ≤ 16 ∧ s.size ≤ 1480 ∧ f.size = t.size ∧ (0 ≤ p ∧ p ≤ 255) ∧ (0 ≤ l ∧ l ≤ 255) := by
  obtain ⟨h1, h2, h3, h4⟩ := h
  simp [alikeB, rightB] at h1
  simp [byteB] at h2 h3
  unfold headI at h4
  refine ⟨by omega, by omega, ?_, by omega, h2, h3⟩
  split at h4 <;> omega

/-- Two packets are compared field by field. -/
theorem pk_eq (f t s f' t' s' : ByteArray) (p l p' l' : Int) (w : World) :
    (Op.equalIn 10000 72 (.agg #[.string f, .string t, .int .i64 p, .int .i64 l, .string s]) (.agg #[.string f', .string t', .int .i64 p', .int .i64 l', .string s'])).run Tryd.prog w = .ok ((f.toList == f'.toList) && ((t.toList == t'.toList) && ((p == p') && ((l == l') && (s.toList == s'.toList))))) w := by
  rw [show (10000 : Nat) = 9999 + 1 from rfl, run_equalIn_agg w 9999 72 _ _ (by kernel_rfl) (by kernel_rfl)]
  simp [Program.fieldsOf, Tryd.underlying72, Op.eqFields, part, isAgg, run_underlying Tryd.underlying24, run_underlying Tryd.underlying3, run_underlying Tryd.underlying9, run_equalIn_int w 9998 3 .i64 .i64 _ _ Tryd.underlying3, run_equalIn_string w 9998 9 _ _ Tryd.underlying9, run_equalIn_string w 9998 24 _ _ Tryd.underlying24]
  repeat' (split <;> simp_all)

end Go.Proofs.YtdoefjhdipkkeaaDoor
