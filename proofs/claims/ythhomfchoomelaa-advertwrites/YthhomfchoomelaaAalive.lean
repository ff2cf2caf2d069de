/-
  What the laws' function alive does: it returns true.
-/
import Derived.Test.YthhomfchoomelaaAfacts
namespace Go.Proofs.Ythhomfchoomelaa
open Go.RowKit
set_option linter.unusedVariables false
set_option maxRecDepth 10000

def aF : ByteArray := ⟨#[10, 0, 0, 1]⟩
def aS : ByteArray := ⟨#[10, 0, 0, 100]⟩
theorem alive_ok : okA aF 7 100 100 [aS] = true := by decide
theorem alive_six : (bodyS aF 7 100 100 [aS]).extract 0 6 = ⟨#[49, 7, 100, 1, 0, 100]⟩ := by
  apply bts_inj
  rw [bts_extract, bodyS_bts alive_ok]
  rfl
theorem boxA_made (w1 : World) (i p e : Int) (A : Option Addr) (n c : Nat) : BoxA (w1.alloc (.cells #[.int .i64 i, .int .i64 p, .int .i64 e, .slice A n c] 32)) w1.heap.size i p e (.slice A n c) := BoxA.new w1 i p e _

set_option maxHeartbeats 1000000 in
/-- outriderlaw06.alive. -/
theorem alive_any (w : World) : Calls Try.prog 9 #[] w fun e w' => e = .returned (.bool true) ∧ Below w.heap.size w w' := by
  have h0 : Strs (w.alloc (.cells #[.string ⟨#[10, 0, 0, 100]⟩] 25)) (some ⟨w.heap.size, 0, none⟩) 1 1 [aS] := by
    refine ⟨rfl, Nat.le_refl _, by simp [maxLen], fun s hs => ?_, fun _ => ⟨_, _, rfl, fun j s hj => ?_⟩⟩
    · simp at hs; subst hs; decide
    · have hj0 : j = 0 := by
        have := (List.getElem?_eq_some_iff.1 hj).1
        simpa using this
      subst hj0
      simp at hj
      subst hj
      simp [go_sem, aS]
  have HW := Lib.hid (encode_yes (i := 7) (p := 100) (e := 100) h0 alive_ok)
  obtain ⟨B, hB⟩ : ∃ B, bodyS aF 7 100 100 [aS] = B := ⟨_, rfl⟩
  have hsz : B.size = 12 := by rw [← hB, bodyS_size alive_ok]; rfl
  have h6 : B.extract 0 6 = ⟨#[49, 7, 100, 1, 0, 100]⟩ := by rw [← hB]; exact alive_six
  have HR := Lib.hid (fun w => decode_written (w := w) alive_ok)
  rw [hB, show toA aF = ⟨#[224, 0, 0, 18]⟩ from rfl, show aF = ⟨#[10, 0, 0, 1]⟩ from rfl] at HW HR
  rw [show [aS].length = 1 from rfl] at HR
  have HG := Lib.hid (fun w => group_any false w)
  rw [show grp false = ⟨#[224, 0, 0, 18]⟩ from rfl] at HG
  clear hB h0
  go_enter Try.func9, Try.ntmps9
  go_wp2_with fail
  refine HW.out.mono ?_
  rintro e w1 ⟨rfl, hb1⟩
  have HB1 := Lib.hid (((Below.refl w.heap.size w).alloc (Nat.le_refl _) (.cells #[.string ⟨#[10, 0, 0, 100]⟩] 25)).trans (hb1.mono (by simp)))
  have n1 : w.heap.size ≤ w1.heap.size := HB1.out.size
  clear hb1 HW
  go_wp2_with fail
  refine (HR.out _).mono ?_
  rintro e w2 ⟨A, c, rfl, hS2, hb2⟩
  obtain ⟨x0, x1, x2, x3, x4⟩ := (Boxed.new w1 ⟨#[10, 0, 0, 1]⟩ ⟨#[224, 0, 0, 18]⟩ 112 255 B).below hb2 (by simp)
  have n2 : w1.heap.size < w2.heap.size := World.block_lt_of_cell? _ _ x0
  have HB2 := Lib.hid ((HB1.out.alloc n1 _).trans (hb2.mono (by simp; omega)))
  have n3 : w.heap.size ≤ w2.heap.size := by omega
  clear hb2 hS2
  go_wp2_with (go_at_call 12; refine (HG.out _).mono ?_; rintro e w' ⟨rfl, rfl⟩)
  go_ret
  exact ⟨rfl, HB2.out.alloc n3 _⟩

end Go.Proofs.Ythhomfchoomelaa
