/-
  What ports.Write, Read and Flow say of one another: what was written is read as it was.
-/
import Derived.Test.YtomcniakffipfaaDoorPwrtcp
import Derived.Test.YtomcniakffipfaaDoorPwrudp
import Derived.Test.YtomcniakffipfaaDoorPread
namespace Go.Proofs.YtomcniakffipfaaDoor
open Go.RowKit
set_option linter.unusedVariables false
set_option maxRecDepth 10000

/-- The bytes that are written. -/
def wrL (f t : ByteArray) (p a b l : Int) (s : ByteArray) : List Int := if p = 6 then tcpW f t a b l s else udpW f t a b s
def wrBody (f t : ByteArray) (p a b l : Int) (s : ByteArray) : ByteArray := strOfNums (wrL f t p a b l s)
/-- What is written. -/
def WrOk (f t : ByteArray) (l0 p a b l k : Int) (s : ByteArray) : Prop := portsB p = true ∧ okH p a b l k = true ∧ Okp f t p l0 (wrBody f t p a b l s)
def wrE (p : Int) : Int := if portsB p = true then 1 else 51
theorem wrE_ne (p : Int) : wrE p ≠ 0 := by unfold wrE; split <;> omega

theorem okH_parts {p a b l k : Int} (h : okH p a b l k = true) : (0 ≤ a ∧ a ≤ 65535) ∧ (0 ≤ b ∧ b ≤ 65535) ∧ (if p = 17 then l = 0 else 0 ≤ l ∧ l ≤ 63) ∧ k = 0 := by
  simp only [okH, portB, flagB, Bool.and_eq_true, decide_eq_true_eq] at h
  exact h
theorem ports_parts {p : Int} (h : portsB p = true) : p = 6 ∨ p = 17 := by simpa [portsB] using h

theorem wrL_byt {f t : ByteArray} {p a b l k : Int} {s : ByteArray} (h : portsB p = true) (h2 : okH p a b l k = true) : Byt (wrL f t p a b l s) := by
  obtain ⟨ha, hb, hl, hk⟩ := okH_parts h2
  unfold wrL
  rcases ports_parts h with rfl | rfl
  · rw [if_pos rfl]
    simp only [show ¬ ((6 : Int) = 17) by omega, if_false] at hl
    have := bodyV_bd f t 6 (tcpB a b l 0 0 s)
    unfold tcpW tcpV
    exact tcpB_byt ha hb (by omega) (by omega) (by omega)
  · rw [if_neg (by omega)]
    have := noZero_bd (bodyV_bd f t 17 (udpB a b 0 0 s))
    unfold udpW udpV
    exact udpB_byt ha hb (by omega) (by omega)
theorem wrL_len (f t : ByteArray) (p a b l : Int) (s : ByteArray) : (wrL f t p a b l s).length = (if p = 6 then 20 else 8) + s.size := by
  unfold wrL
  split
  · exact tcpB_len ..
  · exact udpB_len ..
theorem wrBody_size (f t : ByteArray) (p a b l : Int) (s : ByteArray) : (wrBody f t p a b l s).size = (if p = 6 then 20 else 8) + s.size := by
  rw [wrBody, strOfNums_size, wrL_len]

/-- ports.Write. -/
theorem write_yes (f t : ByteArray) (p0 l0 : Int) (s0 : ByteArray) (p a b l k : Int) (s : ByteArray) (w : World) (hf : f.size ≤ 140737488351232) (ht : t.size ≤ 140737488351232) (hs : s.size ≤ 3000) (h : WrOk f t l0 p a b l k s) :
    Calls Tryd.prog 8 #[.agg #[.string f, .string t, .int .i64 p0, .int .i64 l0, .string (s0)], .agg #[.int .i64 p, .int .i64 a, .int .i64 b, .int .i64 l, .int .i64 k], .string s] w fun e w' => e = .returned (.tuple #[.agg #[.string f, .string t, .int .i64 p, .int .i64 l0, .string (wrBody f t p a b l s)], .int .i64 0]) ∧ Below w.heap.size w w' := by
  obtain ⟨h1, h2, h3⟩ := h
  obtain ⟨ha, hb, hl, rfl⟩ := okH_parts h2
  rcases ports_parts h1 with rfl | rfl
  · simp only [show ¬ ((6 : Int) = 17) by omega, if_false] at hl
    exact write_tcp_yes f t p0 l0 s0 a b l s w hf ht ha hb hl hs h3
  · simp only [if_true] at hl
    subst hl
    exact write_udp_yes f t p0 l0 s0 a b s w hf ht ha hb hs h3
/-- ports.Write, refused. -/
theorem write_not (f t : ByteArray) (p0 l0 : Int) (s0 : ByteArray) (p a b l k : Int) (s : ByteArray) (w : World) (hf : f.size ≤ 140737488351232) (ht : t.size ≤ 140737488351232) (hs : s.size ≤ 3000) (h : ¬ WrOk f t l0 p a b l k s) :
    Calls Tryd.prog 8 #[.agg #[.string f, .string t, .int .i64 p0, .int .i64 l0, .string (s0)], .agg #[.int .i64 p, .int .i64 a, .int .i64 b, .int .i64 l, .int .i64 k], .string s] w fun e w' => e = .returned (.tuple #[.agg #[.string ⟨#[]⟩, .string ⟨#[]⟩, .int .i64 0, .int .i64 0, .string ⟨#[]⟩], .int .i64 (wrE p)]) ∧ Below w.heap.size w w' := by
  rcases h1 : portsB p with _ | _
  · rw [wrE, h1]
    exact write_no1 f t p0 l0 s0 p a b l k s w h1
  · rw [wrE, if_pos h1]
    rcases h2 : okH p a b l k with _ | _
    · exact write_bad f t p0 l0 s0 p a b l k s w h1 h2
    · have h3 : ¬ Okp f t p l0 (wrBody f t p a b l s) := fun h3 => h ⟨h1, h2, h3⟩
      obtain ⟨ha, hb, hl, rfl⟩ := okH_parts h2
      rcases ports_parts h1 with rfl | rfl
      · simp only [show ¬ ((6 : Int) = 17) by omega, if_false] at hl
        exact write_tcp_no f t p0 l0 s0 a b l s w hf ht ha hb hl hs h3
      · simp only [if_true] at hl
        subst hl
        exact write_udp_no f t p0 l0 s0 a b s w hf ht ha hb hs h3

/-- A sum that is put makes all good. -/
theorem good_put (T V : Int) (hT : 0 < T) (hV : V = 65535 - fd T ∨ V = noZero (65535 - fd T)) : fd (T + V) = 65535 := by
  have h1 := fd_bd T
  have h2 := @fd_mod T
  generalize fd T = U at h1 h2 hV
  unfold noZero at hV
  unfold fd
  rw [if_neg (by rcases hV with hV | hV <;> (try split at hV) <;> omega)]
  rcases hV with hV | hV <;> (try split at hV) <;> omega
theorem tot_tcpB (a b l hi lo : Int) (s : ByteArray) : tot (tcpB a b l hi lo s) = tot (tcpB a b l 0 0 s) + (hi * 256 + lo) := by
  simp only [tcpB, List.cons_append, List.nil_append, tot]
  omega
theorem tot_udpB (a b hi lo : Int) (s : ByteArray) : tot (udpB a b hi lo s) = tot (udpB a b 0 0 s) + (hi * 256 + lo) := by
  simp only [udpB, List.cons_append, List.nil_append, tot]
  omega
theorem tot_psx {f t : ByteArray} {p x : Int} (h : alikeB f t = true) (hp : 0 < p % 256) : 0 < tot (psx f t p x) := by
  have e : psx f t p x = pseu f t p x := by rw [psx, h]; rfl
  simp [alikeB, rightB] at h
  have h1 := (tot_bd2 _ (bts_byt f)).1
  have h2 := (tot_bd2 _ (bts_byt t)).1
  rw [e, pseu]
  split
  · rw [tot_append_even _ _ (by rw [bts_len]; omega), tot_append_even _ _ (by rw [bts_len]; omega)]
    simp only [tot]
    omega
  · rw [tot_append_even _ _ (by rw [bts_len]; omega), tot_append_even _ _ (by rw [bts_len]; omega)]
    simp only [tot]
    omega
/-- What was written is good. -/
theorem wr_good {f t : ByteArray} {l0 p a b l k : Int} {s : ByteArray} (h : WrOk f t l0 p a b l k s) : fd (tot (psx f t p ((wrL f t p a b l s).length : Int) ++ wrL f t p a b l s)) = 65535 := by
  obtain ⟨h1, h2, h3⟩ := h
  obtain ⟨ha, hb, hl, rfl⟩ := okH_parts h2
  have hal : alikeB f t = true := h3.1
  have hb0 := (tot_bd2 _ (wrL_byt (f := f) (t := t) (s := s) h1 h2)).1
  rcases ports_parts h1 with rfl | rfl
  · have e : wrL f t 6 a b l s = tcpB a b l (tcpV f t a b l s / 256) (tcpV f t a b l s % 256) s := by rw [wrL, if_pos rfl]; rfl
    have hv : tcpV f t a b l s = 65535 - fd (tot (psx f t 6 ((tcpB a b l 0 0 s).length : Int) ++ tcpB a b l 0 0 s)) := rfl
    rw [wrL_len, if_pos rfl, e, tot_append_even _ _ (psx_even f t 6 _).1, tot_tcpB, show tcpV f t a b l s / 256 * 256 + tcpV f t a b l s % 256 = tcpV f t a b l s by omega, ← Int.add_assoc]
    rw [tcpB_len, tot_append_even _ _ (psx_even f t 6 _).1] at hv
    have hp := tot_psx (x := ((20 + s.size : Nat) : Int)) hal (show (0 : Int) < 6 % 256 by omega)
    have hz := (tot_bd2 _ (tcpB_byt (s := s) (l := 0) (hi := 0) (lo := 0) ha hb (by omega) (by omega) (by omega))).1
    have hz2 : 0 ≤ tot (tcpB a b l 0 0 s) := (tot_bd2 _ (tcpB_byt (s := s) ha hb (by simp only [show ¬ ((6 : Int) = 17) by omega, if_false] at hl; omega) (by omega) (by omega))).1
    exact good_put _ _ (by omega) (.inl hv)
  · have e : wrL f t 17 a b l s = udpB a b (udpV f t a b s / 256) (udpV f t a b s % 256) s := by rw [wrL, if_neg (by omega)]; rfl
    have hv : udpV f t a b s = noZero (65535 - fd (tot (psx f t 17 ((udpB a b 0 0 s).length : Int) ++ udpB a b 0 0 s))) := rfl
    rw [wrL_len, if_neg (by omega), e, tot_append_even _ _ (psx_even f t 17 _).1, tot_udpB, show udpV f t a b s / 256 * 256 + udpV f t a b s % 256 = udpV f t a b s by omega, ← Int.add_assoc]
    rw [udpB_len, tot_append_even _ _ (psx_even f t 17 _).1] at hv
    have hp := tot_psx (x := ((8 + s.size : Nat) : Int)) hal (show (0 : Int) < 17 % 256 by omega)
    have hz2 : 0 ≤ tot (udpB a b 0 0 s) := (tot_bd2 _ (udpB_byt (s := s) ha hb (by omega) (by omega))).1
    exact good_put _ _ (by omega) (.inr hv)

theorem tcpB_at (a b l hi lo : Int) (s : ByteArray) (ha : 0 ≤ a ∧ a ≤ 65535) (hb : 0 ≤ b ∧ b ≤ 65535) (hl : 0 ≤ l ∧ l ≤ 63) : twoAt (tcpB a b l hi lo s) 0 = a ∧ twoAt (tcpB a b l hi lo s) 2 = b ∧ byteAt (tcpB a b l hi lo s) 13 % 64 = l ∧ tcpAt (tcpB a b l hi lo s) = 20 := by
  simp [twoAt, byteAt, tcpAt, tcpB]
  omega
theorem udpB_at (a b hi lo : Int) (s : ByteArray) (ha : 0 ≤ a ∧ a ≤ 65535) (hb : 0 ≤ b ∧ b ≤ 65535) (hs : s.size ≤ 3000) : twoAt (udpB a b hi lo s) 0 = a ∧ twoAt (udpB a b hi lo s) 2 = b ∧ twoAt (udpB a b hi lo s) 4 = 8 + (s.size : Int) ∧ twoAt (udpB a b hi lo s) 6 = hi * 256 + lo := by
  simp [twoAt, byteAt, udpB]
  omega

/-- ports.Read of what was written. -/
theorem read_written (f t : ByteArray) (l0 p a b l k : Int) (s : ByteArray) (w : World) (hf : f.size ≤ 140737488351232) (ht : t.size ≤ 140737488351232) (hs : s.size ≤ 2000) (h : WrOk f t l0 p a b l k s) :
    Calls Tryd.prog 13 #[.agg #[.string f, .string t, .int .i64 p, .int .i64 l0, .string (wrBody f t p a b l s)]] w fun e w' => e = .returned (.tuple #[.agg #[.int .i64 p, .int .i64 a, .int .i64 b, .int .i64 l, .int .i64 (if p = 6 then 20 else 8)], .int .i64 0]) ∧ Below w.heap.size w w' := by
  have hg := wr_good h
  obtain ⟨h1, h2, h3⟩ := h
  have hB := wrL_byt (f := f) (t := t) (s := s) h1 h2
  have hsz := wrBody_size f t p a b l s
  have hln := wrL_len f t p a b l s
  have hbt : bts (wrBody f t p a b l s) = wrL f t p a b l s := bts_strOfNums hB
  have hal : alikeB f t = true := h3.1
  obtain ⟨ha, hb, hl, rfl⟩ := okH_parts h2
  have hg' : fd (tot (psx f t p ((wrBody f t p a b l s).size : Int) ++ bts (wrBody f t p a b l s))) = 65535 := by
    rw [hbt, hsz, ← hln]; exact hg
  rcases ports_parts h1 with rfl | rfl
  · simp only [show ¬ ((6 : Int) = 17) by omega, if_false] at hl
    simp only [if_true] at hsz ⊢
    obtain ⟨e1, e2, e3, e4⟩ := tcpB_at a b l (tcpV f t a b l s / 256) (tcpV f t a b l s % 256) s ha hb hl
    have e : wrL f t 6 a b l s = tcpB a b l (tcpV f t a b l s / 256) (tcpV f t a b l s % 256) s := by rw [wrL, if_pos rfl]; rfl
    rw [← e] at e1 e2 e3 e4
    rw [← hbt] at e1 e2 e3 e4
    refine read_yes f t 6 l0 _ w hf ht (by omega) (by omega) 6 a b l 20 hg' hal (fun w => ?_) (fun w => sumless_tcp f t l0 _ w)
    exact readHead_tcp _ 6 a b l 20 0 w (fun w => readTcp_yes _ a b l 20 w (by omega) (by omega) (by omega) (by omega) e1 e2 e3 e4)
  · simp only [if_true] at hl
    subst hl
    have hv := noZero_bd (bodyV_bd f t 17 (udpB a b 0 0 s))
    have hv' : 0 < udpV f t a b s ∧ udpV f t a b s ≤ 65535 := hv
    simp only [show ¬ ((17 : Int) = 6) by omega, if_false] at hsz ⊢
    obtain ⟨e1, e2, e3, e4⟩ := udpB_at a b (udpV f t a b s / 256) (udpV f t a b s % 256) s ha hb (by omega)
    have e : wrL f t 17 a b 0 s = udpB a b (udpV f t a b s / 256) (udpV f t a b s % 256) s := by rw [wrL, if_neg (by omega)]; rfl
    rw [← e] at e1 e2 e3 e4
    rw [← hbt] at e1 e2 e3 e4
    refine read_yes f t 17 l0 _ w hf ht (by omega) (by omega) 17 a b 0 8 hg' hal (fun w => ?_) (fun w => sumless_udp f t l0 _ w hf ht (by omega) (by omega) _ e4 (by omega))
    exact readHead_udp _ 17 a b 0 8 0 w (fun w => readUdp_yes _ a b w (by omega) (by omega) (by rw [e3]; omega) e1 e2)
/-- ports.Flow of what was written. -/
theorem flow_written (f t : ByteArray) (l0 p a b l k : Int) (s : ByteArray) (w : World) (hf : f.size ≤ 140737488351232) (ht : t.size ≤ 140737488351232) (hs : s.size ≤ 2000) (h : WrOk f t l0 p a b l k s) :
    Calls Tryd.prog 12 #[.agg #[.string f, .string t, .int .i64 p, .int .i64 l0, .string (wrBody f t p a b l s)]] w fun e w' => e = .returned (.tuple #[.agg #[.int .i64 p, .string f, .string t, .int .i64 a, .int .i64 b], .int .i64 0]) ∧ Below w.heap.size w w' :=
  flow_yes f t p l0 _ w p a b l _ (fun w => read_written f t l0 p a b l k s w hf ht hs h)

/-- The data stand behind the head. -/
theorem wr_tail (f t : ByteArray) (p a b l k : Int) (s : ByteArray) (h1 : portsB p = true) (h2 : okH p a b l k = true) (n m : Nat) (hn : n = if p = 6 then 20 else 8) (hm : m = n + s.size) : (wrBody f t p a b l s).extract n m = s := by
  apply bts_inj
  have hB := wrL_byt (f := f) (t := t) (s := s) h1 h2
  have hbt : bts (wrBody f t p a b l s) = wrL f t p a b l s := bts_strOfNums hB
  have e : bts ((wrBody f t p a b l s).extract n m) = ((bts (wrBody f t p a b l s)).drop n).take (m - n) := by
    simp [bts, ByteArray.data_extract, Array.toList_extract, List.extract, List.map_take, List.map_drop]
  rw [e, hbt, hm, show n + s.size - n = s.size by omega]
  subst hn
  unfold wrL
  split
  · rw [tcpW, tcpB, show (20 : Nat) = [a / 256, a % 256, b / 256, b % 256, 0, 0, 0, 0, 0, 0, 0, 0, 80, l, 255, 255, tcpV f t a b l s / 256, tcpV f t a b l s % 256, 0, 0].length from rfl, List.drop_left, ← bts_len s, List.take_length]
  · rw [udpW, udpB, show (8 : Nat) = [a / 256, a % 256, b / 256, b % 256, (8 + (s.size : Int)) / 256 % 256, (8 + (s.size : Int)) % 256, udpV f t a b s / 256, udpV f t a b s % 256].length from rfl, List.drop_left, ← bts_len s, List.take_length]

end Go.Proofs.YtomcniakffipfaaDoor
