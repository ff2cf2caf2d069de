/-
  An error that quotes a packet, as bytes: its sum is good, and what it is about.
-/
import Derived.Test.YtomcniakffipfaaDoorQted
namespace Go.Proofs.YtomcniakffipfaaDoor
open Go.RowKit
set_option linter.unusedVariables false
set_option maxRecDepth 10000

theorem wire_byt {f t s : ByteArray} {p l : Int} (h : Okp f t p l s) : Byt (wire f t p l s) := by
  obtain ⟨_, h2, h3, _⟩ := h
  simp [byteB] at h2 h3
  unfold wire
  split
  · exact wire6_byt h2 h3
  · exact wire4_byt h2 h3
theorem wire_len {f t s : ByteArray} {p l : Int} (h : Okp f t p l s) : (wire f t p l s).length = (if f.size = 16 then 40 else 20) + s.size := by
  obtain ⟨h1, _⟩ := h
  simp [alikeB, rightB] at h1
  unfold wire
  split
  · simp [wire6, bts_len]; omega
  · simp [wire4, head4, bts_len]; omega

/-- The bytes of an error, with its sum. -/
def errQ (hi lo : Int) (ws : List Int) : List Int := [11, 0, hi, lo, 0, 0, 0, 0] ++ ws
def errV (ws : List Int) : Int := 65535 - fd (tot (errQ 0 0 ws))
theorem errV_bd (ws : List Int) : 0 ≤ errV ws ∧ errV ws ≤ 65535 := by
  have := fd_bd (tot (errQ 0 0 ws))
  unfold errV
  omega
theorem errQ_byt {hi lo : Int} {ws : List Int} (h1 : 0 ≤ hi ∧ hi ≤ 255) (h2 : 0 ≤ lo ∧ lo ≤ 255) (hw : Byt ws) : Byt (errQ hi lo ws) := by
  refine Byt.append ?_ hw
  intro x hx
  simp at hx
  omega
theorem errQ_len (hi lo : Int) (ws : List Int) : (errQ hi lo ws).length = 8 + ws.length := by simp [errQ]; omega
theorem errQ_set (hi lo : Int) (ws : List Int) : ((errQ 0 0 ws).set 2 hi).set 3 lo = errQ hi lo ws := by simp [errQ]
theorem errQ_good (ws : List Int) (hw : Byt ws) : fd (tot (errQ (errV ws / 256) (errV ws % 256) ws)) = 65535 := by
  have e : tot (errQ (errV ws / 256) (errV ws % 256) ws) = tot (errQ 0 0 ws) + errV ws := by
    simp only [errQ, List.cons_append, List.nil_append, tot]
    omega
  rw [e]
  have h0 : 0 < tot (errQ 0 0 ws) := by
    have := (tot_bd2 _ hw).1
    simp only [errQ, List.cons_append, List.nil_append, tot]
    omega
  exact good_put _ _ h0 (.inl rfl)
theorem errQ_at (hi lo : Int) (ws : List Int) (i : Nat) : byteAt (errQ hi lo ws) (8 + i) = byteAt ws i := by
  rw [byteAt, byteAt, errQ, List.getElem?_append_right (by simp)]
  simp
theorem take_at (ws : List Int) (m i : Nat) (h : i < m) : byteAt (ws.take m) i = byteAt ws i := by
  rw [byteAt, byteAt, List.getElem?_take, if_pos h]
theorem errQ_seg (hi lo : Int) (ws : List Int) (i j : Nat) : ((errQ hi lo ws).drop (8 + i)).take (j - i) = (ws.drop i).take (j - i) := by
  rw [errQ, ← List.drop_drop, show (8 : Nat) = [11, 0, hi, lo, 0, 0, 0, 0].length from rfl, List.drop_left]

/-- A packet of version 4, its head and the ports of its body. -/
theorem wire4_at (f t : ByteArray) (p l : Int) (s : ByteArray) (hf : f.size = 4) (ht : t.size = 4) : byteAt (wire f t p l s) 0 = 69 ∧ byteAt (wire f t p l s) 9 = p ∧ ((wire f t p l s).drop 12).take 4 = bts f ∧ ((wire f t p l s).drop 16).take 4 = bts t ∧ ∀ i, byteAt (wire f t p l s) (20 + i) = byteAt (bts s) i := by
  have e : wire f t p l s = [69, 0, (20 + (s.size : Int)) / 256 % 256, (20 + (s.size : Int)) % 256, 0, 0, 64, 0, l, p, sum4 s.size p l f t / 256, sum4 s.size p l f t % 256] ++ (bts f ++ (bts t ++ bts s)) := by
    simp [wire, show ¬ f.size = 16 by omega, wire4, head4]
  rw [e]
  refine ⟨by simp [byteAt], by simp [byteAt], ?_, ?_, fun i => ?_⟩
  · rw [show (12 : Nat) = [69, 0, (20 + (s.size : Int)) / 256 % 256, (20 + (s.size : Int)) % 256, 0, 0, 64, 0, l, p, sum4 s.size p l f t / 256, sum4 s.size p l f t % 256].length from rfl, List.drop_left, show (4 : Nat) = (bts f).length by rw [bts_len, hf], List.take_left]
  · rw [show (16 : Nat) = [69, 0, (20 + (s.size : Int)) / 256 % 256, (20 + (s.size : Int)) % 256, 0, 0, 64, 0, l, p, sum4 s.size p l f t / 256, sum4 s.size p l f t % 256].length + (bts f).length by simp [bts_len, hf], ← List.drop_drop, List.drop_left, List.drop_left, show (4 : Nat) = (bts t).length by rw [bts_len, ht], List.take_left]
  · rw [byteAt, byteAt, List.getElem?_append_right (by simp; omega), List.getElem?_append_right (by simp [bts_len, hf]; omega), List.getElem?_append_right (by simp [bts_len, hf, ht]; omega)]
    congr 2
    simp [bts_len, hf, ht]
    omega

/-- The ports stand first. -/
theorem wr_ports (f t : ByteArray) (l0 p a b l k : Int) (s : ByteArray) (h : WrOk f t l0 p a b l k s) : twoAt (wrL f t p a b l s) 0 = a ∧ twoAt (wrL f t p a b l s) 2 = b := by
  obtain ⟨h1, h2, h3⟩ := h
  obtain ⟨ha, hb, hl, rfl⟩ := okH_parts h2
  have hss : s.size ≤ 3000 := by
    have := (okp_small h3).2.2.1
    rw [wrBody_size] at this
    omega
  unfold wrL
  split
  · unfold tcpW
    simp [twoAt, byteAt, tcpB]
    omega
  · unfold udpW
    have := udpB_at a b (udpV f t a b s / 256) (udpV f t a b s % 256) s ha hb hss
    exact ⟨this.1, this.2.1⟩

/-- What an error says that quotes what was written. -/
theorem err_says (f t : ByteArray) (l0 p a b l k : Int) (s : ByteArray) (h : WrOk f t l0 p a b l k s) (hf : f.size = 4) (m : Nat) (h24 : 24 ≤ m) (hm : m ≤ (wire f t p l0 (wrBody f t p a b l s)).length) (hi lo : Int) (h1 : 0 ≤ hi ∧ hi ≤ 255) (h2 : 0 ≤ lo ∧ lo ≤ 255) (E : ByteArray) (hE : E = strOfNums (errQ hi lo ((wire f t p l0 (wrBody f t p a b l s)).take m))) :
    E.size = 8 + m ∧ bts E = errQ hi lo ((wire f t p l0 (wrBody f t p a b l s)).take m) ∧ byteAt (bts E) 0 = 11 ∧ qtfour E p ∧ E.extract 20 24 = f ∧ E.extract 24 28 = t ∧ twoAt (bts E) 28 = a ∧ twoAt (bts E) 30 = b := by
  have ht : t.size = 4 := by
    have := (okp_small h.2.2).2.2.2.1
    omega
  have hwb := wire_byt h.2.2
  obtain ⟨w0, w9, w12, w16, w20⟩ := wire4_at f t p l0 (wrBody f t p a b l s) hf ht
  have hbs : bts (wrBody f t p a b l s) = wrL f t p a b l s := bts_strOfNums (wrL_byt h.1 h.2.1)
  rw [hbs] at w20
  obtain ⟨pa, pb⟩ := wr_ports f t l0 p a b l k s h
  generalize wire f t p l0 (wrBody f t p a b l s) = W at *
  have hB : Byt (errQ hi lo (W.take m)) := errQ_byt h1 h2 (hwb.take m)
  have hbE : bts E = errQ hi lo (W.take m) := by rw [hE]; exact bts_strOfNums hB
  have hzE : E.size = 8 + m := by rw [← bts_len, hbE, errQ_len, List.length_take]; omega
  have at8 : ∀ i, i < m → byteAt (bts E) (8 + i) = byteAt W i := fun i hi' => by rw [hbE, errQ_at, take_at W m i hi']
  refine ⟨hzE, hbE, by rw [hbE]; rfl, ⟨by omega, ⟨69, ?_, rfl⟩, ?_, h.1⟩, ?_, ?_, ?_, ?_⟩
  · exact (at8 0 (by omega)).trans w0
  · exact (at8 9 (by omega)).trans w9
  · apply bts_inj
    rw [bts_extract, hbE, show (24 - 20 : Nat) = 16 - 12 from rfl, show (20 : Nat) = 8 + 12 from rfl, errQ_seg, ← w12, List.drop_take, List.take_take]
    congr 1
    omega
  · apply bts_inj
    rw [bts_extract, hbE, show (28 - 24 : Nat) = 20 - 16 from rfl, show (24 : Nat) = 8 + 16 from rfl, errQ_seg, ← w16, List.drop_take, List.take_take]
    congr 1
    omega
  · have e0 := (at8 20 (by omega)).trans (w20 0)
    have e1 := (at8 21 (by omega)).trans (w20 1)
    rw [← pa]
    show byteAt (bts E) 28 * 256 + byteAt (bts E) 29 = byteAt _ 0 * 256 + byteAt _ 1
    rw [← e0, ← e1]
  · have e0 := (at8 22 (by omega)).trans (w20 2)
    have e1 := (at8 23 (by omega)).trans (w20 3)
    rw [← pb]
    show byteAt (bts E) 30 * 256 + byteAt (bts E) 31 = byteAt _ 2 * 256 + byteAt _ 3
    rw [← e0, ← e1]

theorem er4_mk {f t s : ByteArray} (h1 : f.size = 4) (h2 : t.size = 4) (h3 : s.size ≠ 0) (h4 : byteAt (bts s) 0 = 11) : er4 f t 1 s = true := by
  unfold er4 four2
  rw [decide_eq_true h3]
  simp [h1, h2, h4]

end Go.Proofs.YtomcniakffipfaaDoor
