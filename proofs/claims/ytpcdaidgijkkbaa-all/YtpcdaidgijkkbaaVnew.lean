/-
  What New does.
-/
import Derived.Test.YtpcdaidgijkkbaaVop
import Derived.Test.YtpcdaidgijkkbaaAencode
namespace Go.Proofs.Ytpcdaidgijkkbaa
open Go.RowKit Go.Maps
set_option linter.unusedVariables false
set_option linter.unusedSimpArgs false
set_option maxRecDepth 40000
attribute [local go_sem ↓] bigS66

theorem store66 {W : World} {b : Nat} {tt : TypeId} {cur : List Value} (hb : Cb W b tt cur) (hl : cur.length = 5) (x1 x2 : Int) (s1 s2 s3 : ByteArray) :
    ∃ W', (bigS 66 ⟨b, 0, none⟩ (.agg #[.string s1, .string s2, .int .i64 x1, .int .i64 x2, .string s3])).run Try.prog W = .ok () W' ∧ Cb W' b tt [.string s1, .string s2, .int .i64 x1, .int .i64 x2, .string s3] ∧ Only (· = b) W W' := by
  obtain ⟨h3, h4, h5⟩ := store_cb (t := 66) hb [.string s1, .string s2, .int .i64 x1, .int .i64 x2, .string s3] 5 hl rfl (fun u hu => by
    simp only [List.mem_cons, List.not_mem_nil, or_false] at hu
    rcases hu with rfl | rfl | rfl | rfl | rfl <;> rfl) (Try.sizeOf66 W)
  exact ⟨_, h3, h4, h5⟩

/-- May one be so? -/
def okN (c : Cf) : Bool := okA c.fr c.id c.pr c.ev c.ads && (c.pr != 0)
theorem okN_all {c : Cf} (h : okN c = true) : okA c.fr c.id c.pr c.ev c.ads = true ∧ c.pr ≠ 0 := by simpa [okN] using h
theorem okN_ok {c : Cf} (h : okN c = true) : OkM (newM c) := by
  obtain ⟨h1, h2⟩ := okN_all h
  obtain ⟨g1, g2, g3, g4, g5, g6⟩ := okA_all h1
  exact ⟨⟨by show 1 ≤ c.pr; omega, g3.2⟩, g4, g2, g5, fun s hs => by rw [g6 s hs]; exact g1, g1, .inl rfl, g4, by show (0 : Int) ≤ 0 ∧ (0 : Int) ≤ 20000; omega⟩

/-- The config's box is kept; all else is new. -/
def NyS (w : World) (cf : List Value) (X : World) : Prop := Cb X w.heap.size 31 cf ∧ Below w.heap.size w X
theorem NyS.below {w : World} {cf : List Value} {X X' : World} (h : NyS w cf X) (hb : Below X.heap.size X X') : NyS w cf X' := ⟨h.1.below hb, below_then h.2 h.2.size hb⟩
theorem NyS.alloc {w : World} {cf : List Value} {X : World} (h : NyS w cf X) (o : Obj) : NyS w cf (X.alloc o) := h.below (below_alloc (Below.refl _ _) _)
theorem NyS.put {w : World} {cf : List Value} {X X' : World} {N : Nat} (h : NyS w cf X) (ho : Only (· = N) X X') (hN : w.heap.size + 1 ≤ N) : NyS w cf X' := ⟨h.1.only ho (by omega), only_below h.2 ho (by omega)⟩

/-- What Encode answers, in letters. -/
theorem enc_letters {f : ByteArray} {i p e : Int} {ss : List ByteArray} {er : Int} (hf : f.size ≤ 140737488351232) (hn : ss.length ≤ 8796093022208) (her : (if okA f i p e ss then 0 else 1) = er) :
    ∃ (s1 s2 s3 : ByteArray) (x1 x2 : Int), ∀ {X : World} {A : Option Addr} {c : Nat}, Strs X A ss.length c ss → Calls Try.prog 30 #[.agg #[.int .i64 i, .int .i64 p, .int .i64 e, .slice A ss.length c], .string f] X fun r w' => r = .returned (.tuple #[.agg #[.string s1, .string s2, .int .i64 x1, .int .i64 x2, .string s3], .int .i64 er]) ∧ Below X.heap.size X w' := by
  cases h : okA f i p e ss
  · rw [h] at her
    obtain rfl : er = 1 := by simpa using her.symm
    exact ⟨_, _, _, _, _, fun hS => encode_no hS hf (by omega) h⟩
  · rw [h] at her
    obtain rfl : er = 0 := by simpa using her.symm
    exact ⟨_, _, _, _, _, fun hS => encode_ok hS h⟩

section
variable {id pr ev : Int} {pre : Bool} {fr : ByteArray} {A : Option Addr} {n c : Nat} {ss : List ByteArray} {w : World}
theorem new_mem {w8 : World} {a8 : Option Addr} {c8 : Nat} (hc : Cb w8 w.heap.size 31 [.int .i64 id, .int .i64 pr, .int .i64 ev, .bool pre, .string fr, .slice A n c]) (ha : Adr w8 (w.heap.size + 1) (.slice a8 ss.length c8) ss) (hok : OkM (newM ⟨id, pr, ev, pre, fr, ss⟩)) :
    MmS w.heap.size ((w8.setCell ⟨w.heap.size, 5, none⟩ (.slice a8 ss.length c8)).alloc (.cells #[.int .i64 id, .int .i64 pr, .int .i64 ev, .bool pre, .string fr, .slice a8 ss.length c8, .int .i64 1, .int .i64 ev, .int .i64 0, .slice none 0 0] 72)) w8.heap.size (newM ⟨id, pr, ev, pre, fr, ss⟩) (.slice a8 ss.length c8) (.slice none 0 0) [] where
  blk := by
    have h1 := Cb.new (w8.setCell ⟨w.heap.size, 5, none⟩ (.slice a8 ss.length c8)) (mcells (newM ⟨id, pr, ev, pre, fr, ss⟩) (.slice a8 ss.length c8) (.slice none 0 0)) 72
    rw [show (w8.setCell ⟨w.heap.size, 5, none⟩ (.slice a8 ss.length c8)).heap.size = w8.heap.size by simp] at h1
    exact h1
  adr := by
    have h1 : Adr (w8.setCell ⟨w.heap.size, 5, none⟩ (.slice a8 ss.length c8)) (w.heap.size + 1) (.slice a8 ss.length c8) ss := row_only ha ((Only.refl (fun i => i = w.heap.size) w8).setCell (p := ⟨w.heap.size, 5, none⟩) (.inl rfl) _) fun g hg e => by
      have e' : g = w.heap.size := e
      have := (row_type ha hg).1
      omega
    exact (h1.below (below_alloc (Below.refl _ _) _)).base (by omega)
  row := World.ownsRow_nil _ _ _ _
  evs := fun x hx => by simp at hx
  lst := rfl
  lo := Nat.le_of_lt hc.lt
  ok := hok

set_option maxHeartbeats 4000000 in
theorem new_no1 (hS : Strs w A n c ss) (hf : fr.size ≤ 140737488351232) (hn : n ≤ 8796093022208) (hok : okA fr id pr ev ss = false) :
    Calls Try.prog 11 #[.agg #[.int .i64 id, .int .i64 pr, .int .i64 ev, .bool pre, .string fr, .slice A n c]] w fun e w' => e = .returned (.tuple #[.pointer none, .int .i64 130]) ∧ Below w.heap.size w w' := by
  have hz9 := hS.2.2.2.1
  have hl9 := hS.1
  obtain ⟨s1, s2, s3, x1, x2, henc⟩ := enc_letters (f := fr) (i := id) (p := pr) (e := ev) (ss := ss) (er := 1) hf (by omega) (by simp [hok])
  have HENC : Hid (∀ {X : World} {A : Option Addr} {c : Nat}, Strs X A ss.length c ss → Calls Try.prog 30 #[.agg #[.int .i64 id, .int .i64 pr, .int .i64 ev, .slice A ss.length c], .string fr] X fun r w' => r = .returned (.tuple #[.agg #[.string s1, .string s2, .int .i64 x1, .int .i64 x2, .string s3], .int .i64 1]) ∧ Below X.heap.size X w') := Lib.hid henc
  have HS := Lib.hid hS
  have HT : Hid (NyS w [.int .i64 id, .int .i64 pr, .int .i64 ev, .bool pre, .string fr, .slice A n c] (w.alloc (.cells #[.int .i64 id, .int .i64 pr, .int .i64 ev, .bool pre, .string fr, .slice A n c] 31))) := Lib.hid ⟨Cb.new w [.int .i64 id, .int .i64 pr, .int .i64 ev, .bool pre, .string fr, .slice A n c] 31, below_alloc (Below.refl _ _) _⟩
  clear henc hS hok hf hl9
  go_enter Try.func11, Try.ntmps11
  go_wp2
  refine wp_region_held_drew (S := NyS w [.int .i64 id, .int .i64 pr, .int .i64 ev, .bool pre, .string fr, .slice A n c]) (by kernel_rfl) (HT.out.below (below_drew (Below.refl _ _))) (fun hHeld => ?_)
  refine wpAnyH_take (i := 0) (oi := ({ dst := some 7, op := Go.Op.load 31 (Go.Operand.tmp 1), type := 31, pos := _, after := #[], guard := none } : Oper)) (v := ?_) rfl (by kernel_rfl) (by kernel_rfl) (by kernel_rfl) (fun _ _ _ h => h) (Or.inl ⟨by rfl, ?_⟩) (by assumption) ?_
  rotate_left
  · intro W' hSw
    try dsimp only at hSw
    obtain ⟨q0, q1, q2, q3, q4, q5⟩ := hSw.1.six
    go_simp
    try with_reducible rfl
  try simp only [Act.put, List.setIfInBounds_toArray, List.set_cons_zero, List.set_cons_succ]
  refine wpAnyH_take (i := 1) (oi := ({ dst := some 8, op := Go.Op.fieldAddr 31 (Go.Operand.tmp 1) 1, type := 0, pos := _, after := #[], guard := none } : Oper)) (v := ?_) rfl (by kernel_rfl) (by kernel_rfl) (by kernel_rfl) (fun _ _ _ h => h) (Or.inl ⟨by rfl, ?_⟩) (by assumption) ?_
  rotate_left
  · intro W' hSw
    try dsimp only at hSw
    go_simp
    try with_reducible rfl
  try simp only [Act.put, List.setIfInBounds_toArray, List.set_cons_zero, List.set_cons_succ]
  refine wpAnyH_take (i := 2) (oi := ({ dst := some 9, op := Go.Op.load 3 (Go.Operand.tmp 8), type := 3, pos := _, after := #[{ on := 1, ground := Go.Ground.data }], guard := none } : Oper)) (v := ?_) rfl (by kernel_rfl) (by kernel_rfl) (by kernel_rfl) (fun _ _ _ h => h) (Or.inl ⟨by rfl, ?_⟩) (by assumption) ?_
  rotate_left
  · intro W' hSw
    try dsimp only at hSw
    obtain ⟨q0, q1, q2, q3, q4, q5⟩ := hSw.1.six
    go_simp
    try with_reducible rfl
  try simp only [Act.put, List.setIfInBounds_toArray, List.set_cons_zero, List.set_cons_succ]
  refine wpAnyH_take (i := 4) (oi := ({ dst := some 11, op := Go.Op.fieldAddr 31 (Go.Operand.tmp 1) 4, type := 0, pos := _, after := #[], guard := none } : Oper)) (v := ?_) rfl (by kernel_rfl) (by kernel_rfl) (by kernel_rfl) (fun _ _ _ h => h) (Or.inl ⟨by rfl, ?_⟩) (by assumption) ?_
  rotate_left
  · intro W' hSw
    try dsimp only at hSw
    go_simp
    try with_reducible rfl
  try simp only [Act.put, List.setIfInBounds_toArray, List.set_cons_zero, List.set_cons_succ]
  refine wpAnyH_take (i := 5) (oi := ({ dst := some 12, op := Go.Op.load 22 (Go.Operand.tmp 11), type := 22, pos := _, after := #[{ on := 4, ground := Go.Ground.data }], guard := none } : Oper)) (v := ?_) rfl (by kernel_rfl) (by kernel_rfl) (by kernel_rfl) (fun _ _ _ h => h) (Or.inl ⟨by rfl, ?_⟩) (by assumption) ?_
  rotate_left
  · intro W' hSw
    try dsimp only at hSw
    obtain ⟨q0, q1, q2, q3, q4, q5⟩ := hSw.1.six
    go_simp
    try with_reducible rfl
  try simp only [Act.put, List.setIfInBounds_toArray, List.set_cons_zero, List.set_cons_succ]
  refine wpAnyH_ready (rs := [3, 10]) (by kernel_rfl) (by simp) ?_
  refine (AllReadyH.cons (o := ({ dst := some 10, op := Go.Op.call { callee := Go.Callee.value (Go.Operand.func 31), args := #[Go.Operand.tmp 7, Go.Operand.tmp 9], argTypes := #[31, 3] }, type := 55, pos := _, after := #[{ on := 0, ground := Go.Ground.data }, { on := 2, ground := Go.Ground.data }], guard := none } : Oper)) rfl (fun K hK => ?_) (AllReadyH.cons (o := ({ dst := some 4, op := Go.Op.alloc 66, type := 0, pos := _, after := #[], guard := none } : Oper)) rfl (fun K hK => ?_) AllReadyH.nil))
  · go_simp
    refine (says_any (HS.out.below hHeld.2) hn pr).mono ?_
    rintro e w3 ⟨v', rfl, hadr, hb3⟩
    obtain ⟨a', c', hv, hst3⟩ := hadr.strs hz9
    subst hv
    go_wp2_with fail
    refine hK.out _ _ ?_ (fun hHeld => ?_)
    · exact hHeld.below hb3
    clear hK K
    try simp only [Act.put, List.setIfInBounds_toArray, List.set_cons_zero, List.set_cons_succ]
    have HST := Lib.hid hst3
    clear hst3 hadr
    have z3 : w.heap.size + 1 ≤ w3.heap.size := by have := hHeld.1.lt; omega
    refine wpAnyH_ready (rs := [6, 10]) (by kernel_rfl) (by simp) ?_
    refine (AllReadyH.cons (o := ({ dst := some 13, op := Go.Op.call { callee := Go.Callee.value (Go.Operand.func 30), args := #[Go.Operand.tmp 10, Go.Operand.tmp 12], argTypes := #[55, 22] }, type := 67, pos := _, after := #[{ on := 3, ground := Go.Ground.data }, { on := 5, ground := Go.Ground.data }, { on := 3, ground := Go.Ground.chain }], guard := none } : Oper)) rfl (fun K hK => ?_) (AllReadyH.cons (o := ({ dst := some 4, op := Go.Op.alloc 66, type := 0, pos := _, after := #[], guard := none } : Oper)) rfl (fun K hK => ?_) AllReadyH.nil))
    · go_simp
      refine (HENC.out HST.out).mono ?_
      rintro e w6 ⟨rfl, hb6⟩
      go_wp2_with fail
      refine hK.out _ _ ?_ (fun hHeld => ?_)
      · exact hHeld.below hb6
      clear hK K
      try simp only [Act.put, List.setIfInBounds_toArray, List.set_cons_zero, List.set_cons_succ]
      have z6 : w.heap.size + 1 ≤ w6.heap.size := by have := hHeld.1.lt; omega
      refine wpAnyH_take (i := 7) (oi := ({ dst := some 6, op := Go.Op.move (Go.Operand.tmp 13), type := 67, pos := _, after := #[{ on := 6, ground := Go.Ground.data }], guard := none } : Oper)) (v := ?_) rfl (by kernel_rfl) (by kernel_rfl) (by kernel_rfl) (fun _ _ _ h => h) (Or.inl ⟨by rfl, ?_⟩) (by assumption) ?_
      rotate_left
      · intro W' hSw
        try dsimp only at hSw
        go_simp
        try with_reducible rfl
      try simp only [Act.put, List.setIfInBounds_toArray, List.set_cons_zero, List.set_cons_succ]
      refine wpAnyH_take (i := 8) (oi := ({ dst := some 14, op := Go.Op.extract (Go.Operand.tmp 6) 0, type := 66, pos := _, after := #[{ on := 7, ground := Go.Ground.data }], guard := none } : Oper)) (v := ?_) rfl (by kernel_rfl) (by kernel_rfl) (by kernel_rfl) (fun _ _ _ h => h) (Or.inl ⟨by rfl, ?_⟩) (by assumption) ?_
      rotate_left
      · intro W' hSw
        try dsimp only at hSw
        go_simp
        try with_reducible rfl
      try simp only [Act.put, List.setIfInBounds_toArray, List.set_cons_zero, List.set_cons_succ]
      refine wpAnyH_take (i := 9) (oi := ({ dst := some 15, op := Go.Op.extract (Go.Operand.tmp 6) 1, type := 28, pos := _, after := #[{ on := 7, ground := Go.Ground.data }, { on := 11, ground := Go.Ground.gcOnly Go.Departure.lateStores }], guard := none } : Oper)) (v := ?_) rfl (by kernel_rfl) (by kernel_rfl) (by kernel_rfl) (fun _ _ _ h => h) (Or.inl ⟨by rfl, ?_⟩) (by assumption) ?_
      rotate_left
      · intro W' hSw
        try dsimp only at hSw
        go_simp
        try with_reducible rfl
      try simp only [Act.put, List.setIfInBounds_toArray, List.set_cons_zero, List.set_cons_succ]
      refine wpAnyH_ready (rs := [10]) (by kernel_rfl) (by simp) ?_
      refine AllReadyH.cons (o := ({ dst := some 4, op := Go.Op.alloc 66, type := 0, pos := _, after := #[], guard := none } : Oper)) rfl (fun K hK => ?_) AllReadyH.nil
      go_simp
      refine hK.out _ _ ?_ (fun hHeld => ?_)
      · exact hHeld.alloc _
      clear hK K
      try simp only [Act.put, List.setIfInBounds_toArray, List.set_cons_zero, List.set_cons_succ]
      have hz : Hid (Cb (w6.alloc (.cells #[.string ⟨#[]⟩, .string ⟨#[]⟩, .int .i64 0, .int .i64 0, .string ⟨#[]⟩] 66)) (w6.heap.size) 66 [.string ⟨#[]⟩, .string ⟨#[]⟩, .int .i64 0, .int .i64 0, .string ⟨#[]⟩]) := Lib.hid (Cb.new w6 [.string ⟨#[]⟩, .string ⟨#[]⟩, .int .i64 0, .int .i64 0, .string ⟨#[]⟩] 66)
      obtain ⟨w7, hst, hcb7, ho7⟩ := store66 hz.out rfl x1 x2 s1 s2 s3
      have HO7 := Lib.hid ho7
      clear ho7 hz
      refine wpAnyH_ready (rs := [11]) (by kernel_rfl) (by simp) ?_
      refine AllReadyH.cons (o := ({ dst := none, op := Go.Op.store 66 (Go.Operand.tmp 4) (Go.Operand.tmp 14), type := 0, pos := _, after := #[{ on := 10, ground := Go.Ground.data }, { on := 8, ground := Go.Ground.data }, { on := 6, ground := Go.Ground.chain }, { on := 0, ground := Go.Ground.phase }, { on := 1, ground := Go.Ground.phase }, { on := 2, ground := Go.Ground.phase }, { on := 3, ground := Go.Ground.phase }, { on := 4, ground := Go.Ground.phase }, { on := 5, ground := Go.Ground.phase }, { on := 6, ground := Go.Ground.phase }, { on := 7, ground := Go.Ground.phase }, { on := 8, ground := Go.Ground.phase }, { on := 9, ground := Go.Ground.textOnly Go.Departure.lateStores }, { on := 10, ground := Go.Ground.phase }], guard := none } : Oper)) rfl (fun K hK => ?_) AllReadyH.nil
      go_simp
      refine hK.out _ _ ?_ (fun hHeld => ?_)
      · exact hHeld.put HO7.out (by omega)
      clear hK K
      try simp only [Act.put, List.setIfInBounds_toArray, List.set_cons_zero, List.set_cons_succ]
      refine wpAnyH_take (i := 12) (oi := ({ dst := some 5, op := Go.Op.assign (Go.Operand.tmp 15), type := 28, pos := _, after := #[{ on := 9, ground := Go.Ground.data }, { on := 11, ground := Go.Ground.chain }, { on := 0, ground := Go.Ground.phase }, { on := 1, ground := Go.Ground.phase }, { on := 2, ground := Go.Ground.phase }, { on := 3, ground := Go.Ground.phase }, { on := 4, ground := Go.Ground.phase }, { on := 5, ground := Go.Ground.phase }, { on := 6, ground := Go.Ground.phase }, { on := 7, ground := Go.Ground.phase }, { on := 8, ground := Go.Ground.phase }, { on := 9, ground := Go.Ground.phase }, { on := 10, ground := Go.Ground.phase }, { on := 11, ground := Go.Ground.phase }], guard := none } : Oper)) (v := ?_) rfl (by kernel_rfl) (by kernel_rfl) (by kernel_rfl) (fun _ _ _ h => h) (Or.inl ⟨by rfl, ?_⟩) (by assumption) ?_
      rotate_left
      · intro W' hSw
        try dsimp only at hSw
        go_simp
        try with_reducible rfl
      try simp only [Act.put, List.setIfInBounds_toArray, List.set_cons_zero, List.set_cons_succ]
      refine wpAnyH_done (by kernel_rfl) ?_ _
      obtain ⟨q0, q1, q2, q3, q4, q5⟩ := hHeld.1.six
      go_wp2
      go_ret2
      exact ⟨rfl, hHeld.2⟩
    · go_simp
      refine hK.out _ _ ?_ (fun hHeld => ?_)
      · exact hHeld.alloc _
      clear hK K
      try simp only [Act.put, List.setIfInBounds_toArray, List.set_cons_zero, List.set_cons_succ]
      have hz : Hid (Cb (w3.alloc (.cells #[.string ⟨#[]⟩, .string ⟨#[]⟩, .int .i64 0, .int .i64 0, .string ⟨#[]⟩] 66)) (w3.heap.size) 66 [.string ⟨#[]⟩, .string ⟨#[]⟩, .int .i64 0, .int .i64 0, .string ⟨#[]⟩]) := Lib.hid (Cb.new w3 [.string ⟨#[]⟩, .string ⟨#[]⟩, .int .i64 0, .int .i64 0, .string ⟨#[]⟩] 66)
      replace HST := Lib.hid (HST.out.alloc (.cells #[.string ⟨#[]⟩, .string ⟨#[]⟩, .int .i64 0, .int .i64 0, .string ⟨#[]⟩] 66))
      refine wpAnyH_ready (rs := [6]) (by kernel_rfl) (by simp) ?_
      refine AllReadyH.cons (o := ({ dst := some 13, op := Go.Op.call { callee := Go.Callee.value (Go.Operand.func 30), args := #[Go.Operand.tmp 10, Go.Operand.tmp 12], argTypes := #[55, 22] }, type := 67, pos := _, after := #[{ on := 3, ground := Go.Ground.data }, { on := 5, ground := Go.Ground.data }, { on := 3, ground := Go.Ground.chain }], guard := none } : Oper)) rfl (fun K hK => ?_) AllReadyH.nil
      go_simp
      refine (HENC.out HST.out).mono ?_
      rintro e w6 ⟨rfl, hb6⟩
      go_wp2_with fail
      refine hK.out _ _ ?_ (fun hHeld => ?_)
      · exact hHeld.below hb6
      clear hK K
      try simp only [Act.put, List.setIfInBounds_toArray, List.set_cons_zero, List.set_cons_succ]
      replace hz := Lib.hid (hz.out.below hb6)
      have z6 : w.heap.size + 1 ≤ w6.heap.size := by have := hHeld.1.lt; omega
      obtain ⟨w7, hst, hcb7, ho7⟩ := store66 hz.out rfl x1 x2 s1 s2 s3
      have HO7 := Lib.hid ho7
      clear ho7 hz
      refine wpAnyH_take (i := 7) (oi := ({ dst := some 6, op := Go.Op.move (Go.Operand.tmp 13), type := 67, pos := _, after := #[{ on := 6, ground := Go.Ground.data }], guard := none } : Oper)) (v := ?_) rfl (by kernel_rfl) (by kernel_rfl) (by kernel_rfl) (fun _ _ _ h => h) (Or.inl ⟨by rfl, ?_⟩) (by assumption) ?_
      rotate_left
      · intro W' hSw
        try dsimp only at hSw
        go_simp
        try with_reducible rfl
      try simp only [Act.put, List.setIfInBounds_toArray, List.set_cons_zero, List.set_cons_succ]
      refine wpAnyH_take (i := 8) (oi := ({ dst := some 14, op := Go.Op.extract (Go.Operand.tmp 6) 0, type := 66, pos := _, after := #[{ on := 7, ground := Go.Ground.data }], guard := none } : Oper)) (v := ?_) rfl (by kernel_rfl) (by kernel_rfl) (by kernel_rfl) (fun _ _ _ h => h) (Or.inl ⟨by rfl, ?_⟩) (by assumption) ?_
      rotate_left
      · intro W' hSw
        try dsimp only at hSw
        go_simp
        try with_reducible rfl
      try simp only [Act.put, List.setIfInBounds_toArray, List.set_cons_zero, List.set_cons_succ]
      refine wpAnyH_take (i := 9) (oi := ({ dst := some 15, op := Go.Op.extract (Go.Operand.tmp 6) 1, type := 28, pos := _, after := #[{ on := 7, ground := Go.Ground.data }, { on := 11, ground := Go.Ground.gcOnly Go.Departure.lateStores }], guard := none } : Oper)) (v := ?_) rfl (by kernel_rfl) (by kernel_rfl) (by kernel_rfl) (fun _ _ _ h => h) (Or.inl ⟨by rfl, ?_⟩) (by assumption) ?_
      rotate_left
      · intro W' hSw
        try dsimp only at hSw
        go_simp
        try with_reducible rfl
      try simp only [Act.put, List.setIfInBounds_toArray, List.set_cons_zero, List.set_cons_succ]
      refine wpAnyH_ready (rs := [11]) (by kernel_rfl) (by simp) ?_
      refine AllReadyH.cons (o := ({ dst := none, op := Go.Op.store 66 (Go.Operand.tmp 4) (Go.Operand.tmp 14), type := 0, pos := _, after := #[{ on := 10, ground := Go.Ground.data }, { on := 8, ground := Go.Ground.data }, { on := 6, ground := Go.Ground.chain }, { on := 0, ground := Go.Ground.phase }, { on := 1, ground := Go.Ground.phase }, { on := 2, ground := Go.Ground.phase }, { on := 3, ground := Go.Ground.phase }, { on := 4, ground := Go.Ground.phase }, { on := 5, ground := Go.Ground.phase }, { on := 6, ground := Go.Ground.phase }, { on := 7, ground := Go.Ground.phase }, { on := 8, ground := Go.Ground.phase }, { on := 9, ground := Go.Ground.textOnly Go.Departure.lateStores }, { on := 10, ground := Go.Ground.phase }], guard := none } : Oper)) rfl (fun K hK => ?_) AllReadyH.nil
      go_simp
      refine hK.out _ _ ?_ (fun hHeld => ?_)
      · exact hHeld.put HO7.out (by omega)
      clear hK K
      try simp only [Act.put, List.setIfInBounds_toArray, List.set_cons_zero, List.set_cons_succ]
      refine wpAnyH_take (i := 12) (oi := ({ dst := some 5, op := Go.Op.assign (Go.Operand.tmp 15), type := 28, pos := _, after := #[{ on := 9, ground := Go.Ground.data }, { on := 11, ground := Go.Ground.chain }, { on := 0, ground := Go.Ground.phase }, { on := 1, ground := Go.Ground.phase }, { on := 2, ground := Go.Ground.phase }, { on := 3, ground := Go.Ground.phase }, { on := 4, ground := Go.Ground.phase }, { on := 5, ground := Go.Ground.phase }, { on := 6, ground := Go.Ground.phase }, { on := 7, ground := Go.Ground.phase }, { on := 8, ground := Go.Ground.phase }, { on := 9, ground := Go.Ground.phase }, { on := 10, ground := Go.Ground.phase }, { on := 11, ground := Go.Ground.phase }], guard := none } : Oper)) (v := ?_) rfl (by kernel_rfl) (by kernel_rfl) (by kernel_rfl) (fun _ _ _ h => h) (Or.inl ⟨by rfl, ?_⟩) (by assumption) ?_
      rotate_left
      · intro W' hSw
        try dsimp only at hSw
        go_simp
        try with_reducible rfl
      try simp only [Act.put, List.setIfInBounds_toArray, List.set_cons_zero, List.set_cons_succ]
      refine wpAnyH_done (by kernel_rfl) ?_ _
      obtain ⟨q0, q1, q2, q3, q4, q5⟩ := hHeld.1.six
      go_wp2
      go_ret2
      exact ⟨rfl, hHeld.2⟩
  · go_simp
    refine hK.out _ _ ?_ (fun hHeld => ?_)
    · exact hHeld.alloc _
    clear hK K
    try simp only [Act.put, List.setIfInBounds_toArray, List.set_cons_zero, List.set_cons_succ]
    have hz : Hid (Cb (((w.alloc (.cells #[.int .i64 id, .int .i64 pr, .int .i64 ev, .bool pre, .string fr, .slice A n c] 31)).alloc (.cells #[.string ⟨#[]⟩, .string ⟨#[]⟩, .int .i64 0, .int .i64 0, .string ⟨#[]⟩] 66)).drew) (w.heap.size + 1) 66 [.string ⟨#[]⟩, .string ⟨#[]⟩, .int .i64 0, .int .i64 0, .string ⟨#[]⟩]) := Lib.hid (by
      have h1 := Cb.new (w.alloc (.cells #[.int .i64 id, .int .i64 pr, .int .i64 ev, .bool pre, .string fr, .slice A n c] 31)) [.string ⟨#[]⟩, .string ⟨#[]⟩, .int .i64 0, .int .i64 0, .string ⟨#[]⟩] 66
      rw [show (w.alloc (.cells #[.int .i64 id, .int .i64 pr, .int .i64 ev, .bool pre, .string fr, .slice A n c] 31)).heap.size = w.heap.size + 1 by simp] at h1
      exact h1)
    refine wpAnyH_ready (rs := [3]) (by kernel_rfl) (by simp) ?_
    refine AllReadyH.cons (o := ({ dst := some 10, op := Go.Op.call { callee := Go.Callee.value (Go.Operand.func 31), args := #[Go.Operand.tmp 7, Go.Operand.tmp 9], argTypes := #[31, 3] }, type := 55, pos := _, after := #[{ on := 0, ground := Go.Ground.data }, { on := 2, ground := Go.Ground.data }], guard := none } : Oper)) rfl (fun K hK => ?_) AllReadyH.nil
    go_simp
    refine (says_any (HS.out.below hHeld.2) hn pr).mono ?_
    rintro e w3 ⟨v', rfl, hadr, hb3⟩
    obtain ⟨a', c', hv, hst3⟩ := hadr.strs hz9
    subst hv
    go_wp2_with fail
    refine hK.out _ _ ?_ (fun hHeld => ?_)
    · exact hHeld.below hb3
    clear hK K
    try simp only [Act.put, List.setIfInBounds_toArray, List.set_cons_zero, List.set_cons_succ]
    have HST := Lib.hid hst3
    clear hst3 hadr
    replace hz := Lib.hid (hz.out.below hb3)
    have z3 : w.heap.size + 1 ≤ w3.heap.size := by have := hHeld.1.lt; omega
    have hlt66 : w.heap.size + 1 < w3.heap.size := hz.out.lt
    refine wpAnyH_ready (rs := [6]) (by kernel_rfl) (by simp) ?_
    refine AllReadyH.cons (o := ({ dst := some 13, op := Go.Op.call { callee := Go.Callee.value (Go.Operand.func 30), args := #[Go.Operand.tmp 10, Go.Operand.tmp 12], argTypes := #[55, 22] }, type := 67, pos := _, after := #[{ on := 3, ground := Go.Ground.data }, { on := 5, ground := Go.Ground.data }, { on := 3, ground := Go.Ground.chain }], guard := none } : Oper)) rfl (fun K hK => ?_) AllReadyH.nil
    go_simp
    refine (HENC.out HST.out).mono ?_
    rintro e w6 ⟨rfl, hb6⟩
    go_wp2_with fail
    refine hK.out _ _ ?_ (fun hHeld => ?_)
    · exact hHeld.below hb6
    clear hK K
    try simp only [Act.put, List.setIfInBounds_toArray, List.set_cons_zero, List.set_cons_succ]
    replace hz := Lib.hid (hz.out.below hb6)
    have z6 : w.heap.size + 1 ≤ w6.heap.size := by have := hHeld.1.lt; omega
    obtain ⟨w7, hst, hcb7, ho7⟩ := store66 hz.out rfl x1 x2 s1 s2 s3
    have HO7 := Lib.hid ho7
    clear ho7 hz
    refine wpAnyH_take (i := 7) (oi := ({ dst := some 6, op := Go.Op.move (Go.Operand.tmp 13), type := 67, pos := _, after := #[{ on := 6, ground := Go.Ground.data }], guard := none } : Oper)) (v := ?_) rfl (by kernel_rfl) (by kernel_rfl) (by kernel_rfl) (fun _ _ _ h => h) (Or.inl ⟨by rfl, ?_⟩) (by assumption) ?_
    rotate_left
    · intro W' hSw
      try dsimp only at hSw
      go_simp
      try with_reducible rfl
    try simp only [Act.put, List.setIfInBounds_toArray, List.set_cons_zero, List.set_cons_succ]
    refine wpAnyH_take (i := 8) (oi := ({ dst := some 14, op := Go.Op.extract (Go.Operand.tmp 6) 0, type := 66, pos := _, after := #[{ on := 7, ground := Go.Ground.data }], guard := none } : Oper)) (v := ?_) rfl (by kernel_rfl) (by kernel_rfl) (by kernel_rfl) (fun _ _ _ h => h) (Or.inl ⟨by rfl, ?_⟩) (by assumption) ?_
    rotate_left
    · intro W' hSw
      try dsimp only at hSw
      go_simp
      try with_reducible rfl
    try simp only [Act.put, List.setIfInBounds_toArray, List.set_cons_zero, List.set_cons_succ]
    refine wpAnyH_take (i := 9) (oi := ({ dst := some 15, op := Go.Op.extract (Go.Operand.tmp 6) 1, type := 28, pos := _, after := #[{ on := 7, ground := Go.Ground.data }, { on := 11, ground := Go.Ground.gcOnly Go.Departure.lateStores }], guard := none } : Oper)) (v := ?_) rfl (by kernel_rfl) (by kernel_rfl) (by kernel_rfl) (fun _ _ _ h => h) (Or.inl ⟨by rfl, ?_⟩) (by assumption) ?_
    rotate_left
    · intro W' hSw
      try dsimp only at hSw
      go_simp
      try with_reducible rfl
    try simp only [Act.put, List.setIfInBounds_toArray, List.set_cons_zero, List.set_cons_succ]
    refine wpAnyH_ready (rs := [11]) (by kernel_rfl) (by simp) ?_
    refine AllReadyH.cons (o := ({ dst := none, op := Go.Op.store 66 (Go.Operand.tmp 4) (Go.Operand.tmp 14), type := 0, pos := _, after := #[{ on := 10, ground := Go.Ground.data }, { on := 8, ground := Go.Ground.data }, { on := 6, ground := Go.Ground.chain }, { on := 0, ground := Go.Ground.phase }, { on := 1, ground := Go.Ground.phase }, { on := 2, ground := Go.Ground.phase }, { on := 3, ground := Go.Ground.phase }, { on := 4, ground := Go.Ground.phase }, { on := 5, ground := Go.Ground.phase }, { on := 6, ground := Go.Ground.phase }, { on := 7, ground := Go.Ground.phase }, { on := 8, ground := Go.Ground.phase }, { on := 9, ground := Go.Ground.textOnly Go.Departure.lateStores }, { on := 10, ground := Go.Ground.phase }], guard := none } : Oper)) rfl (fun K hK => ?_) AllReadyH.nil
    go_simp
    refine hK.out _ _ ?_ (fun hHeld => ?_)
    · exact hHeld.put HO7.out (by omega)
    clear hK K
    try simp only [Act.put, List.setIfInBounds_toArray, List.set_cons_zero, List.set_cons_succ]
    refine wpAnyH_take (i := 12) (oi := ({ dst := some 5, op := Go.Op.assign (Go.Operand.tmp 15), type := 28, pos := _, after := #[{ on := 9, ground := Go.Ground.data }, { on := 11, ground := Go.Ground.chain }, { on := 0, ground := Go.Ground.phase }, { on := 1, ground := Go.Ground.phase }, { on := 2, ground := Go.Ground.phase }, { on := 3, ground := Go.Ground.phase }, { on := 4, ground := Go.Ground.phase }, { on := 5, ground := Go.Ground.phase }, { on := 6, ground := Go.Ground.phase }, { on := 7, ground := Go.Ground.phase }, { on := 8, ground := Go.Ground.phase }, { on := 9, ground := Go.Ground.phase }, { on := 10, ground := Go.Ground.phase }, { on := 11, ground := Go.Ground.phase }], guard := none } : Oper)) (v := ?_) rfl (by kernel_rfl) (by kernel_rfl) (by kernel_rfl) (fun _ _ _ h => h) (Or.inl ⟨by rfl, ?_⟩) (by assumption) ?_
    rotate_left
    · intro W' hSw
      try dsimp only at hSw
      go_simp
      try with_reducible rfl
    try simp only [Act.put, List.setIfInBounds_toArray, List.set_cons_zero, List.set_cons_succ]
    refine wpAnyH_done (by kernel_rfl) ?_ _
    obtain ⟨q0, q1, q2, q3, q4, q5⟩ := hHeld.1.six
    go_wp2
    go_ret2
    exact ⟨rfl, hHeld.2⟩

set_option maxHeartbeats 4000000 in
theorem new_no0 (hS : Strs w A n c ss) (hf : fr.size ≤ 140737488351232) (hn : n ≤ 8796093022208) (hok : okA fr id pr ev ss = true) (hp : pr = 0) :
    Calls Try.prog 11 #[.agg #[.int .i64 id, .int .i64 pr, .int .i64 ev, .bool pre, .string fr, .slice A n c]] w fun e w' => e = .returned (.tuple #[.pointer none, .int .i64 130]) ∧ Below w.heap.size w w' := by
  have hz9 := hS.2.2.2.1
  have hl9 := hS.1
  have hpb : (pr == 0) = true := beq_iff_eq.2 hp
  clear hp
  obtain ⟨s1, s2, s3, x1, x2, henc⟩ := enc_letters (f := fr) (i := id) (p := pr) (e := ev) (ss := ss) (er := 0) hf (by omega) (by simp [hok])
  have HENC : Hid (∀ {X : World} {A : Option Addr} {c : Nat}, Strs X A ss.length c ss → Calls Try.prog 30 #[.agg #[.int .i64 id, .int .i64 pr, .int .i64 ev, .slice A ss.length c], .string fr] X fun r w' => r = .returned (.tuple #[.agg #[.string s1, .string s2, .int .i64 x1, .int .i64 x2, .string s3], .int .i64 0]) ∧ Below X.heap.size X w') := Lib.hid henc
  have HS := Lib.hid hS
  have HT : Hid (NyS w [.int .i64 id, .int .i64 pr, .int .i64 ev, .bool pre, .string fr, .slice A n c] (w.alloc (.cells #[.int .i64 id, .int .i64 pr, .int .i64 ev, .bool pre, .string fr, .slice A n c] 31))) := Lib.hid ⟨Cb.new w [.int .i64 id, .int .i64 pr, .int .i64 ev, .bool pre, .string fr, .slice A n c] 31, below_alloc (Below.refl _ _) _⟩
  clear henc hS hok hf hl9
  go_enter Try.func11, Try.ntmps11
  go_wp2
  refine wp_region_held_drew (S := NyS w [.int .i64 id, .int .i64 pr, .int .i64 ev, .bool pre, .string fr, .slice A n c]) (by kernel_rfl) (HT.out.below (below_drew (Below.refl _ _))) (fun hHeld => ?_)
  refine wpAnyH_take (i := 0) (oi := ({ dst := some 7, op := Go.Op.load 31 (Go.Operand.tmp 1), type := 31, pos := _, after := #[], guard := none } : Oper)) (v := ?_) rfl (by kernel_rfl) (by kernel_rfl) (by kernel_rfl) (fun _ _ _ h => h) (Or.inl ⟨by rfl, ?_⟩) (by assumption) ?_
  rotate_left
  · intro W' hSw
    try dsimp only at hSw
    obtain ⟨q0, q1, q2, q3, q4, q5⟩ := hSw.1.six
    go_simp
    try with_reducible rfl
  try simp only [Act.put, List.setIfInBounds_toArray, List.set_cons_zero, List.set_cons_succ]
  refine wpAnyH_take (i := 1) (oi := ({ dst := some 8, op := Go.Op.fieldAddr 31 (Go.Operand.tmp 1) 1, type := 0, pos := _, after := #[], guard := none } : Oper)) (v := ?_) rfl (by kernel_rfl) (by kernel_rfl) (by kernel_rfl) (fun _ _ _ h => h) (Or.inl ⟨by rfl, ?_⟩) (by assumption) ?_
  rotate_left
  · intro W' hSw
    try dsimp only at hSw
    go_simp
    try with_reducible rfl
  try simp only [Act.put, List.setIfInBounds_toArray, List.set_cons_zero, List.set_cons_succ]
  refine wpAnyH_take (i := 2) (oi := ({ dst := some 9, op := Go.Op.load 3 (Go.Operand.tmp 8), type := 3, pos := _, after := #[{ on := 1, ground := Go.Ground.data }], guard := none } : Oper)) (v := ?_) rfl (by kernel_rfl) (by kernel_rfl) (by kernel_rfl) (fun _ _ _ h => h) (Or.inl ⟨by rfl, ?_⟩) (by assumption) ?_
  rotate_left
  · intro W' hSw
    try dsimp only at hSw
    obtain ⟨q0, q1, q2, q3, q4, q5⟩ := hSw.1.six
    go_simp
    try with_reducible rfl
  try simp only [Act.put, List.setIfInBounds_toArray, List.set_cons_zero, List.set_cons_succ]
  refine wpAnyH_take (i := 4) (oi := ({ dst := some 11, op := Go.Op.fieldAddr 31 (Go.Operand.tmp 1) 4, type := 0, pos := _, after := #[], guard := none } : Oper)) (v := ?_) rfl (by kernel_rfl) (by kernel_rfl) (by kernel_rfl) (fun _ _ _ h => h) (Or.inl ⟨by rfl, ?_⟩) (by assumption) ?_
  rotate_left
  · intro W' hSw
    try dsimp only at hSw
    go_simp
    try with_reducible rfl
  try simp only [Act.put, List.setIfInBounds_toArray, List.set_cons_zero, List.set_cons_succ]
  refine wpAnyH_take (i := 5) (oi := ({ dst := some 12, op := Go.Op.load 22 (Go.Operand.tmp 11), type := 22, pos := _, after := #[{ on := 4, ground := Go.Ground.data }], guard := none } : Oper)) (v := ?_) rfl (by kernel_rfl) (by kernel_rfl) (by kernel_rfl) (fun _ _ _ h => h) (Or.inl ⟨by rfl, ?_⟩) (by assumption) ?_
  rotate_left
  · intro W' hSw
    try dsimp only at hSw
    obtain ⟨q0, q1, q2, q3, q4, q5⟩ := hSw.1.six
    go_simp
    try with_reducible rfl
  try simp only [Act.put, List.setIfInBounds_toArray, List.set_cons_zero, List.set_cons_succ]
  refine wpAnyH_ready (rs := [3, 10]) (by kernel_rfl) (by simp) ?_
  refine (AllReadyH.cons (o := ({ dst := some 10, op := Go.Op.call { callee := Go.Callee.value (Go.Operand.func 31), args := #[Go.Operand.tmp 7, Go.Operand.tmp 9], argTypes := #[31, 3] }, type := 55, pos := _, after := #[{ on := 0, ground := Go.Ground.data }, { on := 2, ground := Go.Ground.data }], guard := none } : Oper)) rfl (fun K hK => ?_) (AllReadyH.cons (o := ({ dst := some 4, op := Go.Op.alloc 66, type := 0, pos := _, after := #[], guard := none } : Oper)) rfl (fun K hK => ?_) AllReadyH.nil))
  · go_simp
    refine (says_any (HS.out.below hHeld.2) hn pr).mono ?_
    rintro e w3 ⟨v', rfl, hadr, hb3⟩
    obtain ⟨a', c', hv, hst3⟩ := hadr.strs hz9
    subst hv
    go_wp2_with fail
    refine hK.out _ _ ?_ (fun hHeld => ?_)
    · exact hHeld.below hb3
    clear hK K
    try simp only [Act.put, List.setIfInBounds_toArray, List.set_cons_zero, List.set_cons_succ]
    have HST := Lib.hid hst3
    clear hst3 hadr
    have z3 : w.heap.size + 1 ≤ w3.heap.size := by have := hHeld.1.lt; omega
    refine wpAnyH_ready (rs := [6, 10]) (by kernel_rfl) (by simp) ?_
    refine (AllReadyH.cons (o := ({ dst := some 13, op := Go.Op.call { callee := Go.Callee.value (Go.Operand.func 30), args := #[Go.Operand.tmp 10, Go.Operand.tmp 12], argTypes := #[55, 22] }, type := 67, pos := _, after := #[{ on := 3, ground := Go.Ground.data }, { on := 5, ground := Go.Ground.data }, { on := 3, ground := Go.Ground.chain }], guard := none } : Oper)) rfl (fun K hK => ?_) (AllReadyH.cons (o := ({ dst := some 4, op := Go.Op.alloc 66, type := 0, pos := _, after := #[], guard := none } : Oper)) rfl (fun K hK => ?_) AllReadyH.nil))
    · go_simp
      refine (HENC.out HST.out).mono ?_
      rintro e w6 ⟨rfl, hb6⟩
      go_wp2_with fail
      refine hK.out _ _ ?_ (fun hHeld => ?_)
      · exact hHeld.below hb6
      clear hK K
      try simp only [Act.put, List.setIfInBounds_toArray, List.set_cons_zero, List.set_cons_succ]
      have z6 : w.heap.size + 1 ≤ w6.heap.size := by have := hHeld.1.lt; omega
      refine wpAnyH_take (i := 7) (oi := ({ dst := some 6, op := Go.Op.move (Go.Operand.tmp 13), type := 67, pos := _, after := #[{ on := 6, ground := Go.Ground.data }], guard := none } : Oper)) (v := ?_) rfl (by kernel_rfl) (by kernel_rfl) (by kernel_rfl) (fun _ _ _ h => h) (Or.inl ⟨by rfl, ?_⟩) (by assumption) ?_
      rotate_left
      · intro W' hSw
        try dsimp only at hSw
        go_simp
        try with_reducible rfl
      try simp only [Act.put, List.setIfInBounds_toArray, List.set_cons_zero, List.set_cons_succ]
      refine wpAnyH_take (i := 8) (oi := ({ dst := some 14, op := Go.Op.extract (Go.Operand.tmp 6) 0, type := 66, pos := _, after := #[{ on := 7, ground := Go.Ground.data }], guard := none } : Oper)) (v := ?_) rfl (by kernel_rfl) (by kernel_rfl) (by kernel_rfl) (fun _ _ _ h => h) (Or.inl ⟨by rfl, ?_⟩) (by assumption) ?_
      rotate_left
      · intro W' hSw
        try dsimp only at hSw
        go_simp
        try with_reducible rfl
      try simp only [Act.put, List.setIfInBounds_toArray, List.set_cons_zero, List.set_cons_succ]
      refine wpAnyH_take (i := 9) (oi := ({ dst := some 15, op := Go.Op.extract (Go.Operand.tmp 6) 1, type := 28, pos := _, after := #[{ on := 7, ground := Go.Ground.data }, { on := 11, ground := Go.Ground.gcOnly Go.Departure.lateStores }], guard := none } : Oper)) (v := ?_) rfl (by kernel_rfl) (by kernel_rfl) (by kernel_rfl) (fun _ _ _ h => h) (Or.inl ⟨by rfl, ?_⟩) (by assumption) ?_
      rotate_left
      · intro W' hSw
        try dsimp only at hSw
        go_simp
        try with_reducible rfl
      try simp only [Act.put, List.setIfInBounds_toArray, List.set_cons_zero, List.set_cons_succ]
      refine wpAnyH_ready (rs := [10]) (by kernel_rfl) (by simp) ?_
      refine AllReadyH.cons (o := ({ dst := some 4, op := Go.Op.alloc 66, type := 0, pos := _, after := #[], guard := none } : Oper)) rfl (fun K hK => ?_) AllReadyH.nil
      go_simp
      refine hK.out _ _ ?_ (fun hHeld => ?_)
      · exact hHeld.alloc _
      clear hK K
      try simp only [Act.put, List.setIfInBounds_toArray, List.set_cons_zero, List.set_cons_succ]
      have hz : Hid (Cb (w6.alloc (.cells #[.string ⟨#[]⟩, .string ⟨#[]⟩, .int .i64 0, .int .i64 0, .string ⟨#[]⟩] 66)) (w6.heap.size) 66 [.string ⟨#[]⟩, .string ⟨#[]⟩, .int .i64 0, .int .i64 0, .string ⟨#[]⟩]) := Lib.hid (Cb.new w6 [.string ⟨#[]⟩, .string ⟨#[]⟩, .int .i64 0, .int .i64 0, .string ⟨#[]⟩] 66)
      obtain ⟨w7, hst, hcb7, ho7⟩ := store66 hz.out rfl x1 x2 s1 s2 s3
      have HO7 := Lib.hid ho7
      clear ho7 hz
      refine wpAnyH_ready (rs := [11]) (by kernel_rfl) (by simp) ?_
      refine AllReadyH.cons (o := ({ dst := none, op := Go.Op.store 66 (Go.Operand.tmp 4) (Go.Operand.tmp 14), type := 0, pos := _, after := #[{ on := 10, ground := Go.Ground.data }, { on := 8, ground := Go.Ground.data }, { on := 6, ground := Go.Ground.chain }, { on := 0, ground := Go.Ground.phase }, { on := 1, ground := Go.Ground.phase }, { on := 2, ground := Go.Ground.phase }, { on := 3, ground := Go.Ground.phase }, { on := 4, ground := Go.Ground.phase }, { on := 5, ground := Go.Ground.phase }, { on := 6, ground := Go.Ground.phase }, { on := 7, ground := Go.Ground.phase }, { on := 8, ground := Go.Ground.phase }, { on := 9, ground := Go.Ground.textOnly Go.Departure.lateStores }, { on := 10, ground := Go.Ground.phase }], guard := none } : Oper)) rfl (fun K hK => ?_) AllReadyH.nil
      go_simp
      refine hK.out _ _ ?_ (fun hHeld => ?_)
      · exact hHeld.put HO7.out (by omega)
      clear hK K
      try simp only [Act.put, List.setIfInBounds_toArray, List.set_cons_zero, List.set_cons_succ]
      refine wpAnyH_take (i := 12) (oi := ({ dst := some 5, op := Go.Op.assign (Go.Operand.tmp 15), type := 28, pos := _, after := #[{ on := 9, ground := Go.Ground.data }, { on := 11, ground := Go.Ground.chain }, { on := 0, ground := Go.Ground.phase }, { on := 1, ground := Go.Ground.phase }, { on := 2, ground := Go.Ground.phase }, { on := 3, ground := Go.Ground.phase }, { on := 4, ground := Go.Ground.phase }, { on := 5, ground := Go.Ground.phase }, { on := 6, ground := Go.Ground.phase }, { on := 7, ground := Go.Ground.phase }, { on := 8, ground := Go.Ground.phase }, { on := 9, ground := Go.Ground.phase }, { on := 10, ground := Go.Ground.phase }, { on := 11, ground := Go.Ground.phase }], guard := none } : Oper)) (v := ?_) rfl (by kernel_rfl) (by kernel_rfl) (by kernel_rfl) (fun _ _ _ h => h) (Or.inl ⟨by rfl, ?_⟩) (by assumption) ?_
      rotate_left
      · intro W' hSw
        try dsimp only at hSw
        go_simp
        try with_reducible rfl
      try simp only [Act.put, List.setIfInBounds_toArray, List.set_cons_zero, List.set_cons_succ]
      refine wpAnyH_done (by kernel_rfl) ?_ _
      obtain ⟨q0, q1, q2, q3, q4, q5⟩ := hHeld.1.six
      go_wp2
      go_ret2
      exact ⟨rfl, hHeld.2⟩
    · go_simp
      refine hK.out _ _ ?_ (fun hHeld => ?_)
      · exact hHeld.alloc _
      clear hK K
      try simp only [Act.put, List.setIfInBounds_toArray, List.set_cons_zero, List.set_cons_succ]
      have hz : Hid (Cb (w3.alloc (.cells #[.string ⟨#[]⟩, .string ⟨#[]⟩, .int .i64 0, .int .i64 0, .string ⟨#[]⟩] 66)) (w3.heap.size) 66 [.string ⟨#[]⟩, .string ⟨#[]⟩, .int .i64 0, .int .i64 0, .string ⟨#[]⟩]) := Lib.hid (Cb.new w3 [.string ⟨#[]⟩, .string ⟨#[]⟩, .int .i64 0, .int .i64 0, .string ⟨#[]⟩] 66)
      replace HST := Lib.hid (HST.out.alloc (.cells #[.string ⟨#[]⟩, .string ⟨#[]⟩, .int .i64 0, .int .i64 0, .string ⟨#[]⟩] 66))
      refine wpAnyH_ready (rs := [6]) (by kernel_rfl) (by simp) ?_
      refine AllReadyH.cons (o := ({ dst := some 13, op := Go.Op.call { callee := Go.Callee.value (Go.Operand.func 30), args := #[Go.Operand.tmp 10, Go.Operand.tmp 12], argTypes := #[55, 22] }, type := 67, pos := _, after := #[{ on := 3, ground := Go.Ground.data }, { on := 5, ground := Go.Ground.data }, { on := 3, ground := Go.Ground.chain }], guard := none } : Oper)) rfl (fun K hK => ?_) AllReadyH.nil
      go_simp
      refine (HENC.out HST.out).mono ?_
      rintro e w6 ⟨rfl, hb6⟩
      go_wp2_with fail
      refine hK.out _ _ ?_ (fun hHeld => ?_)
      · exact hHeld.below hb6
      clear hK K
      try simp only [Act.put, List.setIfInBounds_toArray, List.set_cons_zero, List.set_cons_succ]
      replace hz := Lib.hid (hz.out.below hb6)
      have z6 : w.heap.size + 1 ≤ w6.heap.size := by have := hHeld.1.lt; omega
      obtain ⟨w7, hst, hcb7, ho7⟩ := store66 hz.out rfl x1 x2 s1 s2 s3
      have HO7 := Lib.hid ho7
      clear ho7 hz
      refine wpAnyH_take (i := 7) (oi := ({ dst := some 6, op := Go.Op.move (Go.Operand.tmp 13), type := 67, pos := _, after := #[{ on := 6, ground := Go.Ground.data }], guard := none } : Oper)) (v := ?_) rfl (by kernel_rfl) (by kernel_rfl) (by kernel_rfl) (fun _ _ _ h => h) (Or.inl ⟨by rfl, ?_⟩) (by assumption) ?_
      rotate_left
      · intro W' hSw
        try dsimp only at hSw
        go_simp
        try with_reducible rfl
      try simp only [Act.put, List.setIfInBounds_toArray, List.set_cons_zero, List.set_cons_succ]
      refine wpAnyH_take (i := 8) (oi := ({ dst := some 14, op := Go.Op.extract (Go.Operand.tmp 6) 0, type := 66, pos := _, after := #[{ on := 7, ground := Go.Ground.data }], guard := none } : Oper)) (v := ?_) rfl (by kernel_rfl) (by kernel_rfl) (by kernel_rfl) (fun _ _ _ h => h) (Or.inl ⟨by rfl, ?_⟩) (by assumption) ?_
      rotate_left
      · intro W' hSw
        try dsimp only at hSw
        go_simp
        try with_reducible rfl
      try simp only [Act.put, List.setIfInBounds_toArray, List.set_cons_zero, List.set_cons_succ]
      refine wpAnyH_take (i := 9) (oi := ({ dst := some 15, op := Go.Op.extract (Go.Operand.tmp 6) 1, type := 28, pos := _, after := #[{ on := 7, ground := Go.Ground.data }, { on := 11, ground := Go.Ground.gcOnly Go.Departure.lateStores }], guard := none } : Oper)) (v := ?_) rfl (by kernel_rfl) (by kernel_rfl) (by kernel_rfl) (fun _ _ _ h => h) (Or.inl ⟨by rfl, ?_⟩) (by assumption) ?_
      rotate_left
      · intro W' hSw
        try dsimp only at hSw
        go_simp
        try with_reducible rfl
      try simp only [Act.put, List.setIfInBounds_toArray, List.set_cons_zero, List.set_cons_succ]
      refine wpAnyH_ready (rs := [11]) (by kernel_rfl) (by simp) ?_
      refine AllReadyH.cons (o := ({ dst := none, op := Go.Op.store 66 (Go.Operand.tmp 4) (Go.Operand.tmp 14), type := 0, pos := _, after := #[{ on := 10, ground := Go.Ground.data }, { on := 8, ground := Go.Ground.data }, { on := 6, ground := Go.Ground.chain }, { on := 0, ground := Go.Ground.phase }, { on := 1, ground := Go.Ground.phase }, { on := 2, ground := Go.Ground.phase }, { on := 3, ground := Go.Ground.phase }, { on := 4, ground := Go.Ground.phase }, { on := 5, ground := Go.Ground.phase }, { on := 6, ground := Go.Ground.phase }, { on := 7, ground := Go.Ground.phase }, { on := 8, ground := Go.Ground.phase }, { on := 9, ground := Go.Ground.textOnly Go.Departure.lateStores }, { on := 10, ground := Go.Ground.phase }], guard := none } : Oper)) rfl (fun K hK => ?_) AllReadyH.nil
      go_simp
      refine hK.out _ _ ?_ (fun hHeld => ?_)
      · exact hHeld.put HO7.out (by omega)
      clear hK K
      try simp only [Act.put, List.setIfInBounds_toArray, List.set_cons_zero, List.set_cons_succ]
      refine wpAnyH_take (i := 12) (oi := ({ dst := some 5, op := Go.Op.assign (Go.Operand.tmp 15), type := 28, pos := _, after := #[{ on := 9, ground := Go.Ground.data }, { on := 11, ground := Go.Ground.chain }, { on := 0, ground := Go.Ground.phase }, { on := 1, ground := Go.Ground.phase }, { on := 2, ground := Go.Ground.phase }, { on := 3, ground := Go.Ground.phase }, { on := 4, ground := Go.Ground.phase }, { on := 5, ground := Go.Ground.phase }, { on := 6, ground := Go.Ground.phase }, { on := 7, ground := Go.Ground.phase }, { on := 8, ground := Go.Ground.phase }, { on := 9, ground := Go.Ground.phase }, { on := 10, ground := Go.Ground.phase }, { on := 11, ground := Go.Ground.phase }], guard := none } : Oper)) (v := ?_) rfl (by kernel_rfl) (by kernel_rfl) (by kernel_rfl) (fun _ _ _ h => h) (Or.inl ⟨by rfl, ?_⟩) (by assumption) ?_
      rotate_left
      · intro W' hSw
        try dsimp only at hSw
        go_simp
        try with_reducible rfl
      try simp only [Act.put, List.setIfInBounds_toArray, List.set_cons_zero, List.set_cons_succ]
      refine wpAnyH_done (by kernel_rfl) ?_ _
      obtain ⟨q0, q1, q2, q3, q4, q5⟩ := hHeld.1.six
      go_wp2
      go_ret2
      exact ⟨rfl, hHeld.2⟩
  · go_simp
    refine hK.out _ _ ?_ (fun hHeld => ?_)
    · exact hHeld.alloc _
    clear hK K
    try simp only [Act.put, List.setIfInBounds_toArray, List.set_cons_zero, List.set_cons_succ]
    have hz : Hid (Cb (((w.alloc (.cells #[.int .i64 id, .int .i64 pr, .int .i64 ev, .bool pre, .string fr, .slice A n c] 31)).alloc (.cells #[.string ⟨#[]⟩, .string ⟨#[]⟩, .int .i64 0, .int .i64 0, .string ⟨#[]⟩] 66)).drew) (w.heap.size + 1) 66 [.string ⟨#[]⟩, .string ⟨#[]⟩, .int .i64 0, .int .i64 0, .string ⟨#[]⟩]) := Lib.hid (by
      have h1 := Cb.new (w.alloc (.cells #[.int .i64 id, .int .i64 pr, .int .i64 ev, .bool pre, .string fr, .slice A n c] 31)) [.string ⟨#[]⟩, .string ⟨#[]⟩, .int .i64 0, .int .i64 0, .string ⟨#[]⟩] 66
      rw [show (w.alloc (.cells #[.int .i64 id, .int .i64 pr, .int .i64 ev, .bool pre, .string fr, .slice A n c] 31)).heap.size = w.heap.size + 1 by simp] at h1
      exact h1)
    refine wpAnyH_ready (rs := [3]) (by kernel_rfl) (by simp) ?_
    refine AllReadyH.cons (o := ({ dst := some 10, op := Go.Op.call { callee := Go.Callee.value (Go.Operand.func 31), args := #[Go.Operand.tmp 7, Go.Operand.tmp 9], argTypes := #[31, 3] }, type := 55, pos := _, after := #[{ on := 0, ground := Go.Ground.data }, { on := 2, ground := Go.Ground.data }], guard := none } : Oper)) rfl (fun K hK => ?_) AllReadyH.nil
    go_simp
    refine (says_any (HS.out.below hHeld.2) hn pr).mono ?_
    rintro e w3 ⟨v', rfl, hadr, hb3⟩
    obtain ⟨a', c', hv, hst3⟩ := hadr.strs hz9
    subst hv
    go_wp2_with fail
    refine hK.out _ _ ?_ (fun hHeld => ?_)
    · exact hHeld.below hb3
    clear hK K
    try simp only [Act.put, List.setIfInBounds_toArray, List.set_cons_zero, List.set_cons_succ]
    have HST := Lib.hid hst3
    clear hst3 hadr
    replace hz := Lib.hid (hz.out.below hb3)
    have z3 : w.heap.size + 1 ≤ w3.heap.size := by have := hHeld.1.lt; omega
    have hlt66 : w.heap.size + 1 < w3.heap.size := hz.out.lt
    refine wpAnyH_ready (rs := [6]) (by kernel_rfl) (by simp) ?_
    refine AllReadyH.cons (o := ({ dst := some 13, op := Go.Op.call { callee := Go.Callee.value (Go.Operand.func 30), args := #[Go.Operand.tmp 10, Go.Operand.tmp 12], argTypes := #[55, 22] }, type := 67, pos := _, after := #[{ on := 3, ground := Go.Ground.data }, { on := 5, ground := Go.Ground.data }, { on := 3, ground := Go.Ground.chain }], guard := none } : Oper)) rfl (fun K hK => ?_) AllReadyH.nil
    go_simp
    refine (HENC.out HST.out).mono ?_
    rintro e w6 ⟨rfl, hb6⟩
    go_wp2_with fail
    refine hK.out _ _ ?_ (fun hHeld => ?_)
    · exact hHeld.below hb6
    clear hK K
    try simp only [Act.put, List.setIfInBounds_toArray, List.set_cons_zero, List.set_cons_succ]
    replace hz := Lib.hid (hz.out.below hb6)
    have z6 : w.heap.size + 1 ≤ w6.heap.size := by have := hHeld.1.lt; omega
    obtain ⟨w7, hst, hcb7, ho7⟩ := store66 hz.out rfl x1 x2 s1 s2 s3
    have HO7 := Lib.hid ho7
    clear ho7 hz
    refine wpAnyH_take (i := 7) (oi := ({ dst := some 6, op := Go.Op.move (Go.Operand.tmp 13), type := 67, pos := _, after := #[{ on := 6, ground := Go.Ground.data }], guard := none } : Oper)) (v := ?_) rfl (by kernel_rfl) (by kernel_rfl) (by kernel_rfl) (fun _ _ _ h => h) (Or.inl ⟨by rfl, ?_⟩) (by assumption) ?_
    rotate_left
    · intro W' hSw
      try dsimp only at hSw
      go_simp
      try with_reducible rfl
    try simp only [Act.put, List.setIfInBounds_toArray, List.set_cons_zero, List.set_cons_succ]
    refine wpAnyH_take (i := 8) (oi := ({ dst := some 14, op := Go.Op.extract (Go.Operand.tmp 6) 0, type := 66, pos := _, after := #[{ on := 7, ground := Go.Ground.data }], guard := none } : Oper)) (v := ?_) rfl (by kernel_rfl) (by kernel_rfl) (by kernel_rfl) (fun _ _ _ h => h) (Or.inl ⟨by rfl, ?_⟩) (by assumption) ?_
    rotate_left
    · intro W' hSw
      try dsimp only at hSw
      go_simp
      try with_reducible rfl
    try simp only [Act.put, List.setIfInBounds_toArray, List.set_cons_zero, List.set_cons_succ]
    refine wpAnyH_take (i := 9) (oi := ({ dst := some 15, op := Go.Op.extract (Go.Operand.tmp 6) 1, type := 28, pos := _, after := #[{ on := 7, ground := Go.Ground.data }, { on := 11, ground := Go.Ground.gcOnly Go.Departure.lateStores }], guard := none } : Oper)) (v := ?_) rfl (by kernel_rfl) (by kernel_rfl) (by kernel_rfl) (fun _ _ _ h => h) (Or.inl ⟨by rfl, ?_⟩) (by assumption) ?_
    rotate_left
    · intro W' hSw
      try dsimp only at hSw
      go_simp
      try with_reducible rfl
    try simp only [Act.put, List.setIfInBounds_toArray, List.set_cons_zero, List.set_cons_succ]
    refine wpAnyH_ready (rs := [11]) (by kernel_rfl) (by simp) ?_
    refine AllReadyH.cons (o := ({ dst := none, op := Go.Op.store 66 (Go.Operand.tmp 4) (Go.Operand.tmp 14), type := 0, pos := _, after := #[{ on := 10, ground := Go.Ground.data }, { on := 8, ground := Go.Ground.data }, { on := 6, ground := Go.Ground.chain }, { on := 0, ground := Go.Ground.phase }, { on := 1, ground := Go.Ground.phase }, { on := 2, ground := Go.Ground.phase }, { on := 3, ground := Go.Ground.phase }, { on := 4, ground := Go.Ground.phase }, { on := 5, ground := Go.Ground.phase }, { on := 6, ground := Go.Ground.phase }, { on := 7, ground := Go.Ground.phase }, { on := 8, ground := Go.Ground.phase }, { on := 9, ground := Go.Ground.textOnly Go.Departure.lateStores }, { on := 10, ground := Go.Ground.phase }], guard := none } : Oper)) rfl (fun K hK => ?_) AllReadyH.nil
    go_simp
    refine hK.out _ _ ?_ (fun hHeld => ?_)
    · exact hHeld.put HO7.out (by omega)
    clear hK K
    try simp only [Act.put, List.setIfInBounds_toArray, List.set_cons_zero, List.set_cons_succ]
    refine wpAnyH_take (i := 12) (oi := ({ dst := some 5, op := Go.Op.assign (Go.Operand.tmp 15), type := 28, pos := _, after := #[{ on := 9, ground := Go.Ground.data }, { on := 11, ground := Go.Ground.chain }, { on := 0, ground := Go.Ground.phase }, { on := 1, ground := Go.Ground.phase }, { on := 2, ground := Go.Ground.phase }, { on := 3, ground := Go.Ground.phase }, { on := 4, ground := Go.Ground.phase }, { on := 5, ground := Go.Ground.phase }, { on := 6, ground := Go.Ground.phase }, { on := 7, ground := Go.Ground.phase }, { on := 8, ground := Go.Ground.phase }, { on := 9, ground := Go.Ground.phase }, { on := 10, ground := Go.Ground.phase }, { on := 11, ground := Go.Ground.phase }], guard := none } : Oper)) (v := ?_) rfl (by kernel_rfl) (by kernel_rfl) (by kernel_rfl) (fun _ _ _ h => h) (Or.inl ⟨by rfl, ?_⟩) (by assumption) ?_
    rotate_left
    · intro W' hSw
      try dsimp only at hSw
      go_simp
      try with_reducible rfl
    try simp only [Act.put, List.setIfInBounds_toArray, List.set_cons_zero, List.set_cons_succ]
    refine wpAnyH_done (by kernel_rfl) ?_ _
    obtain ⟨q0, q1, q2, q3, q4, q5⟩ := hHeld.1.six
    go_wp2
    go_ret2
    exact ⟨rfl, hHeld.2⟩

set_option maxHeartbeats 4000000 in
theorem new_ok (hS : Strs w A n c ss) (hf : fr.size ≤ 140737488351232) (hn : n ≤ 8796093022208) (hok : okA fr id pr ev ss = true) (hp : ¬ pr = 0) :
    Calls Try.prog 11 #[.agg #[.int .i64 id, .int .i64 pr, .int .i64 ev, .bool pre, .string fr, .slice A n c]] w fun e w' => ∃ B va, e = .returned (.tuple #[.pointer (some ⟨B, 0, none⟩), .int .i64 0]) ∧ MmS w.heap.size w' B (newM ⟨id, pr, ev, pre, fr, ss⟩) va (.slice none 0 0) [] ∧ Below w.heap.size w w' := by
  have hz9 := hS.2.2.2.1
  have hl9 := hS.1
  have HOK := Lib.hid (okN_ok (c := ⟨id, pr, ev, pre, fr, ss⟩) (by simp [okN, hok, hp]))
  have hpb : (pr == 0) = false := beq_eq_false_iff_ne.2 hp
  clear hp
  obtain ⟨s1, s2, s3, x1, x2, henc⟩ := enc_letters (f := fr) (i := id) (p := pr) (e := ev) (ss := ss) (er := 0) hf (by omega) (by simp [hok])
  have HENC : Hid (∀ {X : World} {A : Option Addr} {c : Nat}, Strs X A ss.length c ss → Calls Try.prog 30 #[.agg #[.int .i64 id, .int .i64 pr, .int .i64 ev, .slice A ss.length c], .string fr] X fun r w' => r = .returned (.tuple #[.agg #[.string s1, .string s2, .int .i64 x1, .int .i64 x2, .string s3], .int .i64 0]) ∧ Below X.heap.size X w') := Lib.hid henc
  have HS := Lib.hid hS
  have HT : Hid (NyS w [.int .i64 id, .int .i64 pr, .int .i64 ev, .bool pre, .string fr, .slice A n c] (w.alloc (.cells #[.int .i64 id, .int .i64 pr, .int .i64 ev, .bool pre, .string fr, .slice A n c] 31))) := Lib.hid ⟨Cb.new w [.int .i64 id, .int .i64 pr, .int .i64 ev, .bool pre, .string fr, .slice A n c] 31, below_alloc (Below.refl _ _) _⟩
  clear henc hS hok hf hl9
  go_enter Try.func11, Try.ntmps11
  go_wp2
  refine wp_region_held_drew (S := NyS w [.int .i64 id, .int .i64 pr, .int .i64 ev, .bool pre, .string fr, .slice A n c]) (by kernel_rfl) (HT.out.below (below_drew (Below.refl _ _))) (fun hHeld => ?_)
  refine wpAnyH_take (i := 0) (oi := ({ dst := some 7, op := Go.Op.load 31 (Go.Operand.tmp 1), type := 31, pos := _, after := #[], guard := none } : Oper)) (v := ?_) rfl (by kernel_rfl) (by kernel_rfl) (by kernel_rfl) (fun _ _ _ h => h) (Or.inl ⟨by rfl, ?_⟩) (by assumption) ?_
  rotate_left
  · intro W' hSw
    try dsimp only at hSw
    obtain ⟨q0, q1, q2, q3, q4, q5⟩ := hSw.1.six
    go_simp
    try with_reducible rfl
  try simp only [Act.put, List.setIfInBounds_toArray, List.set_cons_zero, List.set_cons_succ]
  refine wpAnyH_take (i := 1) (oi := ({ dst := some 8, op := Go.Op.fieldAddr 31 (Go.Operand.tmp 1) 1, type := 0, pos := _, after := #[], guard := none } : Oper)) (v := ?_) rfl (by kernel_rfl) (by kernel_rfl) (by kernel_rfl) (fun _ _ _ h => h) (Or.inl ⟨by rfl, ?_⟩) (by assumption) ?_
  rotate_left
  · intro W' hSw
    try dsimp only at hSw
    go_simp
    try with_reducible rfl
  try simp only [Act.put, List.setIfInBounds_toArray, List.set_cons_zero, List.set_cons_succ]
  refine wpAnyH_take (i := 2) (oi := ({ dst := some 9, op := Go.Op.load 3 (Go.Operand.tmp 8), type := 3, pos := _, after := #[{ on := 1, ground := Go.Ground.data }], guard := none } : Oper)) (v := ?_) rfl (by kernel_rfl) (by kernel_rfl) (by kernel_rfl) (fun _ _ _ h => h) (Or.inl ⟨by rfl, ?_⟩) (by assumption) ?_
  rotate_left
  · intro W' hSw
    try dsimp only at hSw
    obtain ⟨q0, q1, q2, q3, q4, q5⟩ := hSw.1.six
    go_simp
    try with_reducible rfl
  try simp only [Act.put, List.setIfInBounds_toArray, List.set_cons_zero, List.set_cons_succ]
  refine wpAnyH_take (i := 4) (oi := ({ dst := some 11, op := Go.Op.fieldAddr 31 (Go.Operand.tmp 1) 4, type := 0, pos := _, after := #[], guard := none } : Oper)) (v := ?_) rfl (by kernel_rfl) (by kernel_rfl) (by kernel_rfl) (fun _ _ _ h => h) (Or.inl ⟨by rfl, ?_⟩) (by assumption) ?_
  rotate_left
  · intro W' hSw
    try dsimp only at hSw
    go_simp
    try with_reducible rfl
  try simp only [Act.put, List.setIfInBounds_toArray, List.set_cons_zero, List.set_cons_succ]
  refine wpAnyH_take (i := 5) (oi := ({ dst := some 12, op := Go.Op.load 22 (Go.Operand.tmp 11), type := 22, pos := _, after := #[{ on := 4, ground := Go.Ground.data }], guard := none } : Oper)) (v := ?_) rfl (by kernel_rfl) (by kernel_rfl) (by kernel_rfl) (fun _ _ _ h => h) (Or.inl ⟨by rfl, ?_⟩) (by assumption) ?_
  rotate_left
  · intro W' hSw
    try dsimp only at hSw
    obtain ⟨q0, q1, q2, q3, q4, q5⟩ := hSw.1.six
    go_simp
    try with_reducible rfl
  try simp only [Act.put, List.setIfInBounds_toArray, List.set_cons_zero, List.set_cons_succ]
  refine wpAnyH_ready (rs := [3, 10]) (by kernel_rfl) (by simp) ?_
  refine (AllReadyH.cons (o := ({ dst := some 10, op := Go.Op.call { callee := Go.Callee.value (Go.Operand.func 31), args := #[Go.Operand.tmp 7, Go.Operand.tmp 9], argTypes := #[31, 3] }, type := 55, pos := _, after := #[{ on := 0, ground := Go.Ground.data }, { on := 2, ground := Go.Ground.data }], guard := none } : Oper)) rfl (fun K hK => ?_) (AllReadyH.cons (o := ({ dst := some 4, op := Go.Op.alloc 66, type := 0, pos := _, after := #[], guard := none } : Oper)) rfl (fun K hK => ?_) AllReadyH.nil))
  · go_simp
    refine (says_any (HS.out.below hHeld.2) hn pr).mono ?_
    rintro e w3 ⟨v', rfl, hadr, hb3⟩
    obtain ⟨a', c', hv, hst3⟩ := hadr.strs hz9
    subst hv
    go_wp2_with fail
    refine hK.out _ _ ?_ (fun hHeld => ?_)
    · exact hHeld.below hb3
    clear hK K
    try simp only [Act.put, List.setIfInBounds_toArray, List.set_cons_zero, List.set_cons_succ]
    have HST := Lib.hid hst3
    clear hst3 hadr
    have z3 : w.heap.size + 1 ≤ w3.heap.size := by have := hHeld.1.lt; omega
    refine wpAnyH_ready (rs := [6, 10]) (by kernel_rfl) (by simp) ?_
    refine (AllReadyH.cons (o := ({ dst := some 13, op := Go.Op.call { callee := Go.Callee.value (Go.Operand.func 30), args := #[Go.Operand.tmp 10, Go.Operand.tmp 12], argTypes := #[55, 22] }, type := 67, pos := _, after := #[{ on := 3, ground := Go.Ground.data }, { on := 5, ground := Go.Ground.data }, { on := 3, ground := Go.Ground.chain }], guard := none } : Oper)) rfl (fun K hK => ?_) (AllReadyH.cons (o := ({ dst := some 4, op := Go.Op.alloc 66, type := 0, pos := _, after := #[], guard := none } : Oper)) rfl (fun K hK => ?_) AllReadyH.nil))
    · go_simp
      refine (HENC.out HST.out).mono ?_
      rintro e w6 ⟨rfl, hb6⟩
      go_wp2_with fail
      refine hK.out _ _ ?_ (fun hHeld => ?_)
      · exact hHeld.below hb6
      clear hK K
      try simp only [Act.put, List.setIfInBounds_toArray, List.set_cons_zero, List.set_cons_succ]
      have z6 : w.heap.size + 1 ≤ w6.heap.size := by have := hHeld.1.lt; omega
      refine wpAnyH_take (i := 7) (oi := ({ dst := some 6, op := Go.Op.move (Go.Operand.tmp 13), type := 67, pos := _, after := #[{ on := 6, ground := Go.Ground.data }], guard := none } : Oper)) (v := ?_) rfl (by kernel_rfl) (by kernel_rfl) (by kernel_rfl) (fun _ _ _ h => h) (Or.inl ⟨by rfl, ?_⟩) (by assumption) ?_
      rotate_left
      · intro W' hSw
        try dsimp only at hSw
        go_simp
        try with_reducible rfl
      try simp only [Act.put, List.setIfInBounds_toArray, List.set_cons_zero, List.set_cons_succ]
      refine wpAnyH_take (i := 8) (oi := ({ dst := some 14, op := Go.Op.extract (Go.Operand.tmp 6) 0, type := 66, pos := _, after := #[{ on := 7, ground := Go.Ground.data }], guard := none } : Oper)) (v := ?_) rfl (by kernel_rfl) (by kernel_rfl) (by kernel_rfl) (fun _ _ _ h => h) (Or.inl ⟨by rfl, ?_⟩) (by assumption) ?_
      rotate_left
      · intro W' hSw
        try dsimp only at hSw
        go_simp
        try with_reducible rfl
      try simp only [Act.put, List.setIfInBounds_toArray, List.set_cons_zero, List.set_cons_succ]
      refine wpAnyH_take (i := 9) (oi := ({ dst := some 15, op := Go.Op.extract (Go.Operand.tmp 6) 1, type := 28, pos := _, after := #[{ on := 7, ground := Go.Ground.data }, { on := 11, ground := Go.Ground.gcOnly Go.Departure.lateStores }], guard := none } : Oper)) (v := ?_) rfl (by kernel_rfl) (by kernel_rfl) (by kernel_rfl) (fun _ _ _ h => h) (Or.inl ⟨by rfl, ?_⟩) (by assumption) ?_
      rotate_left
      · intro W' hSw
        try dsimp only at hSw
        go_simp
        try with_reducible rfl
      try simp only [Act.put, List.setIfInBounds_toArray, List.set_cons_zero, List.set_cons_succ]
      refine wpAnyH_ready (rs := [10]) (by kernel_rfl) (by simp) ?_
      refine AllReadyH.cons (o := ({ dst := some 4, op := Go.Op.alloc 66, type := 0, pos := _, after := #[], guard := none } : Oper)) rfl (fun K hK => ?_) AllReadyH.nil
      go_simp
      refine hK.out _ _ ?_ (fun hHeld => ?_)
      · exact hHeld.alloc _
      clear hK K
      try simp only [Act.put, List.setIfInBounds_toArray, List.set_cons_zero, List.set_cons_succ]
      have hz : Hid (Cb (w6.alloc (.cells #[.string ⟨#[]⟩, .string ⟨#[]⟩, .int .i64 0, .int .i64 0, .string ⟨#[]⟩] 66)) (w6.heap.size) 66 [.string ⟨#[]⟩, .string ⟨#[]⟩, .int .i64 0, .int .i64 0, .string ⟨#[]⟩]) := Lib.hid (Cb.new w6 [.string ⟨#[]⟩, .string ⟨#[]⟩, .int .i64 0, .int .i64 0, .string ⟨#[]⟩] 66)
      obtain ⟨w7, hst, hcb7, ho7⟩ := store66 hz.out rfl x1 x2 s1 s2 s3
      have HO7 := Lib.hid ho7
      clear ho7 hz
      refine wpAnyH_ready (rs := [11]) (by kernel_rfl) (by simp) ?_
      refine AllReadyH.cons (o := ({ dst := none, op := Go.Op.store 66 (Go.Operand.tmp 4) (Go.Operand.tmp 14), type := 0, pos := _, after := #[{ on := 10, ground := Go.Ground.data }, { on := 8, ground := Go.Ground.data }, { on := 6, ground := Go.Ground.chain }, { on := 0, ground := Go.Ground.phase }, { on := 1, ground := Go.Ground.phase }, { on := 2, ground := Go.Ground.phase }, { on := 3, ground := Go.Ground.phase }, { on := 4, ground := Go.Ground.phase }, { on := 5, ground := Go.Ground.phase }, { on := 6, ground := Go.Ground.phase }, { on := 7, ground := Go.Ground.phase }, { on := 8, ground := Go.Ground.phase }, { on := 9, ground := Go.Ground.textOnly Go.Departure.lateStores }, { on := 10, ground := Go.Ground.phase }], guard := none } : Oper)) rfl (fun K hK => ?_) AllReadyH.nil
      go_simp
      refine hK.out _ _ ?_ (fun hHeld => ?_)
      · exact hHeld.put HO7.out (by omega)
      clear hK K
      try simp only [Act.put, List.setIfInBounds_toArray, List.set_cons_zero, List.set_cons_succ]
      refine wpAnyH_take (i := 12) (oi := ({ dst := some 5, op := Go.Op.assign (Go.Operand.tmp 15), type := 28, pos := _, after := #[{ on := 9, ground := Go.Ground.data }, { on := 11, ground := Go.Ground.chain }, { on := 0, ground := Go.Ground.phase }, { on := 1, ground := Go.Ground.phase }, { on := 2, ground := Go.Ground.phase }, { on := 3, ground := Go.Ground.phase }, { on := 4, ground := Go.Ground.phase }, { on := 5, ground := Go.Ground.phase }, { on := 6, ground := Go.Ground.phase }, { on := 7, ground := Go.Ground.phase }, { on := 8, ground := Go.Ground.phase }, { on := 9, ground := Go.Ground.phase }, { on := 10, ground := Go.Ground.phase }, { on := 11, ground := Go.Ground.phase }], guard := none } : Oper)) (v := ?_) rfl (by kernel_rfl) (by kernel_rfl) (by kernel_rfl) (fun _ _ _ h => h) (Or.inl ⟨by rfl, ?_⟩) (by assumption) ?_
      rotate_left
      · intro W' hSw
        try dsimp only at hSw
        go_simp
        try with_reducible rfl
      try simp only [Act.put, List.setIfInBounds_toArray, List.set_cons_zero, List.set_cons_succ]
      refine wpAnyH_done (by kernel_rfl) ?_ _
      obtain ⟨q0, q1, q2, q3, q4, q5⟩ := hHeld.1.six
      go_wp2_with fail
      refine (clone_any (HS.out.below hHeld.2) hn).mono ?_
      rintro e w8 ⟨v8, rfl, hadr8, hb8⟩
      obtain ⟨a8, c8, rfl, -, -⟩ := row_any hadr8
      have hcb8 := hHeld.1.below hb8
      have HB8 := Lib.hid (below_then hHeld.2 hHeld.2.size hb8)
      have HC8 := Lib.hid hcb8
      have HA8 := Lib.hid (hadr8.base (base' := w.heap.size + 1) hHeld.1.lt)
      have f5 := hcb8.free 5
      have hlt8 := hcb8.lt
      obtain ⟨p0, p1, p2, p3, p4, p5⟩ := hcb8.six
      clear hadr8 hb8 hcb8 q0 q1 q2 q3 q4 q5
      go_wp2
      go_ret2
      refine ⟨w8.heap.size, .slice a8 ss.length c8, rfl, ?_, ?_⟩
      · exact new_mem HC8.out HA8.out HOK.out
      · exact below_alloc (HB8.out.setCell (p := ⟨w.heap.size, 5, none⟩) (Nat.le_refl _) _) _
    · go_simp
      refine hK.out _ _ ?_ (fun hHeld => ?_)
      · exact hHeld.alloc _
      clear hK K
      try simp only [Act.put, List.setIfInBounds_toArray, List.set_cons_zero, List.set_cons_succ]
      have hz : Hid (Cb (w3.alloc (.cells #[.string ⟨#[]⟩, .string ⟨#[]⟩, .int .i64 0, .int .i64 0, .string ⟨#[]⟩] 66)) (w3.heap.size) 66 [.string ⟨#[]⟩, .string ⟨#[]⟩, .int .i64 0, .int .i64 0, .string ⟨#[]⟩]) := Lib.hid (Cb.new w3 [.string ⟨#[]⟩, .string ⟨#[]⟩, .int .i64 0, .int .i64 0, .string ⟨#[]⟩] 66)
      replace HST := Lib.hid (HST.out.alloc (.cells #[.string ⟨#[]⟩, .string ⟨#[]⟩, .int .i64 0, .int .i64 0, .string ⟨#[]⟩] 66))
      refine wpAnyH_ready (rs := [6]) (by kernel_rfl) (by simp) ?_
      refine AllReadyH.cons (o := ({ dst := some 13, op := Go.Op.call { callee := Go.Callee.value (Go.Operand.func 30), args := #[Go.Operand.tmp 10, Go.Operand.tmp 12], argTypes := #[55, 22] }, type := 67, pos := _, after := #[{ on := 3, ground := Go.Ground.data }, { on := 5, ground := Go.Ground.data }, { on := 3, ground := Go.Ground.chain }], guard := none } : Oper)) rfl (fun K hK => ?_) AllReadyH.nil
      go_simp
      refine (HENC.out HST.out).mono ?_
      rintro e w6 ⟨rfl, hb6⟩
      go_wp2_with fail
      refine hK.out _ _ ?_ (fun hHeld => ?_)
      · exact hHeld.below hb6
      clear hK K
      try simp only [Act.put, List.setIfInBounds_toArray, List.set_cons_zero, List.set_cons_succ]
      replace hz := Lib.hid (hz.out.below hb6)
      have z6 : w.heap.size + 1 ≤ w6.heap.size := by have := hHeld.1.lt; omega
      obtain ⟨w7, hst, hcb7, ho7⟩ := store66 hz.out rfl x1 x2 s1 s2 s3
      have HO7 := Lib.hid ho7
      clear ho7 hz
      refine wpAnyH_take (i := 7) (oi := ({ dst := some 6, op := Go.Op.move (Go.Operand.tmp 13), type := 67, pos := _, after := #[{ on := 6, ground := Go.Ground.data }], guard := none } : Oper)) (v := ?_) rfl (by kernel_rfl) (by kernel_rfl) (by kernel_rfl) (fun _ _ _ h => h) (Or.inl ⟨by rfl, ?_⟩) (by assumption) ?_
      rotate_left
      · intro W' hSw
        try dsimp only at hSw
        go_simp
        try with_reducible rfl
      try simp only [Act.put, List.setIfInBounds_toArray, List.set_cons_zero, List.set_cons_succ]
      refine wpAnyH_take (i := 8) (oi := ({ dst := some 14, op := Go.Op.extract (Go.Operand.tmp 6) 0, type := 66, pos := _, after := #[{ on := 7, ground := Go.Ground.data }], guard := none } : Oper)) (v := ?_) rfl (by kernel_rfl) (by kernel_rfl) (by kernel_rfl) (fun _ _ _ h => h) (Or.inl ⟨by rfl, ?_⟩) (by assumption) ?_
      rotate_left
      · intro W' hSw
        try dsimp only at hSw
        go_simp
        try with_reducible rfl
      try simp only [Act.put, List.setIfInBounds_toArray, List.set_cons_zero, List.set_cons_succ]
      refine wpAnyH_take (i := 9) (oi := ({ dst := some 15, op := Go.Op.extract (Go.Operand.tmp 6) 1, type := 28, pos := _, after := #[{ on := 7, ground := Go.Ground.data }, { on := 11, ground := Go.Ground.gcOnly Go.Departure.lateStores }], guard := none } : Oper)) (v := ?_) rfl (by kernel_rfl) (by kernel_rfl) (by kernel_rfl) (fun _ _ _ h => h) (Or.inl ⟨by rfl, ?_⟩) (by assumption) ?_
      rotate_left
      · intro W' hSw
        try dsimp only at hSw
        go_simp
        try with_reducible rfl
      try simp only [Act.put, List.setIfInBounds_toArray, List.set_cons_zero, List.set_cons_succ]
      refine wpAnyH_ready (rs := [11]) (by kernel_rfl) (by simp) ?_
      refine AllReadyH.cons (o := ({ dst := none, op := Go.Op.store 66 (Go.Operand.tmp 4) (Go.Operand.tmp 14), type := 0, pos := _, after := #[{ on := 10, ground := Go.Ground.data }, { on := 8, ground := Go.Ground.data }, { on := 6, ground := Go.Ground.chain }, { on := 0, ground := Go.Ground.phase }, { on := 1, ground := Go.Ground.phase }, { on := 2, ground := Go.Ground.phase }, { on := 3, ground := Go.Ground.phase }, { on := 4, ground := Go.Ground.phase }, { on := 5, ground := Go.Ground.phase }, { on := 6, ground := Go.Ground.phase }, { on := 7, ground := Go.Ground.phase }, { on := 8, ground := Go.Ground.phase }, { on := 9, ground := Go.Ground.textOnly Go.Departure.lateStores }, { on := 10, ground := Go.Ground.phase }], guard := none } : Oper)) rfl (fun K hK => ?_) AllReadyH.nil
      go_simp
      refine hK.out _ _ ?_ (fun hHeld => ?_)
      · exact hHeld.put HO7.out (by omega)
      clear hK K
      try simp only [Act.put, List.setIfInBounds_toArray, List.set_cons_zero, List.set_cons_succ]
      refine wpAnyH_take (i := 12) (oi := ({ dst := some 5, op := Go.Op.assign (Go.Operand.tmp 15), type := 28, pos := _, after := #[{ on := 9, ground := Go.Ground.data }, { on := 11, ground := Go.Ground.chain }, { on := 0, ground := Go.Ground.phase }, { on := 1, ground := Go.Ground.phase }, { on := 2, ground := Go.Ground.phase }, { on := 3, ground := Go.Ground.phase }, { on := 4, ground := Go.Ground.phase }, { on := 5, ground := Go.Ground.phase }, { on := 6, ground := Go.Ground.phase }, { on := 7, ground := Go.Ground.phase }, { on := 8, ground := Go.Ground.phase }, { on := 9, ground := Go.Ground.phase }, { on := 10, ground := Go.Ground.phase }, { on := 11, ground := Go.Ground.phase }], guard := none } : Oper)) (v := ?_) rfl (by kernel_rfl) (by kernel_rfl) (by kernel_rfl) (fun _ _ _ h => h) (Or.inl ⟨by rfl, ?_⟩) (by assumption) ?_
      rotate_left
      · intro W' hSw
        try dsimp only at hSw
        go_simp
        try with_reducible rfl
      try simp only [Act.put, List.setIfInBounds_toArray, List.set_cons_zero, List.set_cons_succ]
      refine wpAnyH_done (by kernel_rfl) ?_ _
      obtain ⟨q0, q1, q2, q3, q4, q5⟩ := hHeld.1.six
      go_wp2_with fail
      refine (clone_any (HS.out.below hHeld.2) hn).mono ?_
      rintro e w8 ⟨v8, rfl, hadr8, hb8⟩
      obtain ⟨a8, c8, rfl, -, -⟩ := row_any hadr8
      have hcb8 := hHeld.1.below hb8
      have HB8 := Lib.hid (below_then hHeld.2 hHeld.2.size hb8)
      have HC8 := Lib.hid hcb8
      have HA8 := Lib.hid (hadr8.base (base' := w.heap.size + 1) hHeld.1.lt)
      have f5 := hcb8.free 5
      have hlt8 := hcb8.lt
      obtain ⟨p0, p1, p2, p3, p4, p5⟩ := hcb8.six
      clear hadr8 hb8 hcb8 q0 q1 q2 q3 q4 q5
      go_wp2
      go_ret2
      refine ⟨w8.heap.size, .slice a8 ss.length c8, rfl, ?_, ?_⟩
      · exact new_mem HC8.out HA8.out HOK.out
      · exact below_alloc (HB8.out.setCell (p := ⟨w.heap.size, 5, none⟩) (Nat.le_refl _) _) _
  · go_simp
    refine hK.out _ _ ?_ (fun hHeld => ?_)
    · exact hHeld.alloc _
    clear hK K
    try simp only [Act.put, List.setIfInBounds_toArray, List.set_cons_zero, List.set_cons_succ]
    have hz : Hid (Cb (((w.alloc (.cells #[.int .i64 id, .int .i64 pr, .int .i64 ev, .bool pre, .string fr, .slice A n c] 31)).alloc (.cells #[.string ⟨#[]⟩, .string ⟨#[]⟩, .int .i64 0, .int .i64 0, .string ⟨#[]⟩] 66)).drew) (w.heap.size + 1) 66 [.string ⟨#[]⟩, .string ⟨#[]⟩, .int .i64 0, .int .i64 0, .string ⟨#[]⟩]) := Lib.hid (by
      have h1 := Cb.new (w.alloc (.cells #[.int .i64 id, .int .i64 pr, .int .i64 ev, .bool pre, .string fr, .slice A n c] 31)) [.string ⟨#[]⟩, .string ⟨#[]⟩, .int .i64 0, .int .i64 0, .string ⟨#[]⟩] 66
      rw [show (w.alloc (.cells #[.int .i64 id, .int .i64 pr, .int .i64 ev, .bool pre, .string fr, .slice A n c] 31)).heap.size = w.heap.size + 1 by simp] at h1
      exact h1)
    refine wpAnyH_ready (rs := [3]) (by kernel_rfl) (by simp) ?_
    refine AllReadyH.cons (o := ({ dst := some 10, op := Go.Op.call { callee := Go.Callee.value (Go.Operand.func 31), args := #[Go.Operand.tmp 7, Go.Operand.tmp 9], argTypes := #[31, 3] }, type := 55, pos := _, after := #[{ on := 0, ground := Go.Ground.data }, { on := 2, ground := Go.Ground.data }], guard := none } : Oper)) rfl (fun K hK => ?_) AllReadyH.nil
    go_simp
    refine (says_any (HS.out.below hHeld.2) hn pr).mono ?_
    rintro e w3 ⟨v', rfl, hadr, hb3⟩
    obtain ⟨a', c', hv, hst3⟩ := hadr.strs hz9
    subst hv
    go_wp2_with fail
    refine hK.out _ _ ?_ (fun hHeld => ?_)
    · exact hHeld.below hb3
    clear hK K
    try simp only [Act.put, List.setIfInBounds_toArray, List.set_cons_zero, List.set_cons_succ]
    have HST := Lib.hid hst3
    clear hst3 hadr
    replace hz := Lib.hid (hz.out.below hb3)
    have z3 : w.heap.size + 1 ≤ w3.heap.size := by have := hHeld.1.lt; omega
    have hlt66 : w.heap.size + 1 < w3.heap.size := hz.out.lt
    refine wpAnyH_ready (rs := [6]) (by kernel_rfl) (by simp) ?_
    refine AllReadyH.cons (o := ({ dst := some 13, op := Go.Op.call { callee := Go.Callee.value (Go.Operand.func 30), args := #[Go.Operand.tmp 10, Go.Operand.tmp 12], argTypes := #[55, 22] }, type := 67, pos := _, after := #[{ on := 3, ground := Go.Ground.data }, { on := 5, ground := Go.Ground.data }, { on := 3, ground := Go.Ground.chain }], guard := none } : Oper)) rfl (fun K hK => ?_) AllReadyH.nil
    go_simp
    refine (HENC.out HST.out).mono ?_
    rintro e w6 ⟨rfl, hb6⟩
    go_wp2_with fail
    refine hK.out _ _ ?_ (fun hHeld => ?_)
    · exact hHeld.below hb6
    clear hK K
    try simp only [Act.put, List.setIfInBounds_toArray, List.set_cons_zero, List.set_cons_succ]
    replace hz := Lib.hid (hz.out.below hb6)
    have z6 : w.heap.size + 1 ≤ w6.heap.size := by have := hHeld.1.lt; omega
    obtain ⟨w7, hst, hcb7, ho7⟩ := store66 hz.out rfl x1 x2 s1 s2 s3
    have HO7 := Lib.hid ho7
    clear ho7 hz
    refine wpAnyH_take (i := 7) (oi := ({ dst := some 6, op := Go.Op.move (Go.Operand.tmp 13), type := 67, pos := _, after := #[{ on := 6, ground := Go.Ground.data }], guard := none } : Oper)) (v := ?_) rfl (by kernel_rfl) (by kernel_rfl) (by kernel_rfl) (fun _ _ _ h => h) (Or.inl ⟨by rfl, ?_⟩) (by assumption) ?_
    rotate_left
    · intro W' hSw
      try dsimp only at hSw
      go_simp
      try with_reducible rfl
    try simp only [Act.put, List.setIfInBounds_toArray, List.set_cons_zero, List.set_cons_succ]
    refine wpAnyH_take (i := 8) (oi := ({ dst := some 14, op := Go.Op.extract (Go.Operand.tmp 6) 0, type := 66, pos := _, after := #[{ on := 7, ground := Go.Ground.data }], guard := none } : Oper)) (v := ?_) rfl (by kernel_rfl) (by kernel_rfl) (by kernel_rfl) (fun _ _ _ h => h) (Or.inl ⟨by rfl, ?_⟩) (by assumption) ?_
    rotate_left
    · intro W' hSw
      try dsimp only at hSw
      go_simp
      try with_reducible rfl
    try simp only [Act.put, List.setIfInBounds_toArray, List.set_cons_zero, List.set_cons_succ]
    refine wpAnyH_take (i := 9) (oi := ({ dst := some 15, op := Go.Op.extract (Go.Operand.tmp 6) 1, type := 28, pos := _, after := #[{ on := 7, ground := Go.Ground.data }, { on := 11, ground := Go.Ground.gcOnly Go.Departure.lateStores }], guard := none } : Oper)) (v := ?_) rfl (by kernel_rfl) (by kernel_rfl) (by kernel_rfl) (fun _ _ _ h => h) (Or.inl ⟨by rfl, ?_⟩) (by assumption) ?_
    rotate_left
    · intro W' hSw
      try dsimp only at hSw
      go_simp
      try with_reducible rfl
    try simp only [Act.put, List.setIfInBounds_toArray, List.set_cons_zero, List.set_cons_succ]
    refine wpAnyH_ready (rs := [11]) (by kernel_rfl) (by simp) ?_
    refine AllReadyH.cons (o := ({ dst := none, op := Go.Op.store 66 (Go.Operand.tmp 4) (Go.Operand.tmp 14), type := 0, pos := _, after := #[{ on := 10, ground := Go.Ground.data }, { on := 8, ground := Go.Ground.data }, { on := 6, ground := Go.Ground.chain }, { on := 0, ground := Go.Ground.phase }, { on := 1, ground := Go.Ground.phase }, { on := 2, ground := Go.Ground.phase }, { on := 3, ground := Go.Ground.phase }, { on := 4, ground := Go.Ground.phase }, { on := 5, ground := Go.Ground.phase }, { on := 6, ground := Go.Ground.phase }, { on := 7, ground := Go.Ground.phase }, { on := 8, ground := Go.Ground.phase }, { on := 9, ground := Go.Ground.textOnly Go.Departure.lateStores }, { on := 10, ground := Go.Ground.phase }], guard := none } : Oper)) rfl (fun K hK => ?_) AllReadyH.nil
    go_simp
    refine hK.out _ _ ?_ (fun hHeld => ?_)
    · exact hHeld.put HO7.out (by omega)
    clear hK K
    try simp only [Act.put, List.setIfInBounds_toArray, List.set_cons_zero, List.set_cons_succ]
    refine wpAnyH_take (i := 12) (oi := ({ dst := some 5, op := Go.Op.assign (Go.Operand.tmp 15), type := 28, pos := _, after := #[{ on := 9, ground := Go.Ground.data }, { on := 11, ground := Go.Ground.chain }, { on := 0, ground := Go.Ground.phase }, { on := 1, ground := Go.Ground.phase }, { on := 2, ground := Go.Ground.phase }, { on := 3, ground := Go.Ground.phase }, { on := 4, ground := Go.Ground.phase }, { on := 5, ground := Go.Ground.phase }, { on := 6, ground := Go.Ground.phase }, { on := 7, ground := Go.Ground.phase }, { on := 8, ground := Go.Ground.phase }, { on := 9, ground := Go.Ground.phase }, { on := 10, ground := Go.Ground.phase }, { on := 11, ground := Go.Ground.phase }], guard := none } : Oper)) (v := ?_) rfl (by kernel_rfl) (by kernel_rfl) (by kernel_rfl) (fun _ _ _ h => h) (Or.inl ⟨by rfl, ?_⟩) (by assumption) ?_
    rotate_left
    · intro W' hSw
      try dsimp only at hSw
      go_simp
      try with_reducible rfl
    try simp only [Act.put, List.setIfInBounds_toArray, List.set_cons_zero, List.set_cons_succ]
    refine wpAnyH_done (by kernel_rfl) ?_ _
    obtain ⟨q0, q1, q2, q3, q4, q5⟩ := hHeld.1.six
    go_wp2_with fail
    refine (clone_any (HS.out.below hHeld.2) hn).mono ?_
    rintro e w8 ⟨v8, rfl, hadr8, hb8⟩
    obtain ⟨a8, c8, rfl, -, -⟩ := row_any hadr8
    have hcb8 := hHeld.1.below hb8
    have HB8 := Lib.hid (below_then hHeld.2 hHeld.2.size hb8)
    have HC8 := Lib.hid hcb8
    have HA8 := Lib.hid (hadr8.base (base' := w.heap.size + 1) hHeld.1.lt)
    have f5 := hcb8.free 5
    have hlt8 := hcb8.lt
    obtain ⟨p0, p1, p2, p3, p4, p5⟩ := hcb8.six
    clear hadr8 hb8 hcb8 q0 q1 q2 q3 q4 q5
    go_wp2
    go_ret2
    refine ⟨w8.heap.size, .slice a8 ss.length c8, rfl, ?_, ?_⟩
    · exact new_mem HC8.out HA8.out HOK.out
    · exact below_alloc (HB8.out.setCell (p := ⟨w.heap.size, 5, none⟩) (Nat.le_refl _) _) _

end
end Go.Proofs.Ytpcdaidgijkkbaa
