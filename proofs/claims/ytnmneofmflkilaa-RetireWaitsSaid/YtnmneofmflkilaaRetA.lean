/- Walks over layer 7 (retire): a drain; what it answers; a step of whatever its list holds. -/
import Derived.Test.YtnmneofmflkilaaQsbrE
import Derived.Laws.CopyOwn
namespace Go.Proofs.Ytnmneofmflkilaa.Re
open Go Go.RowKit Hp K Fl Rw Hm Ar Mm Me Qs
set_option maxRecDepth 100000

/-- A drain. -/
structure Dr where
  f : Nat
  fw : Nat
  at_ : Nat
  W : Wt
  A : Option Addr
  cap : Nat
  left : List Nat
def drc (D : Dr) : Array Value := #[.int .i64 D.at_, ptr D.fw, .slice D.A D.left.length D.cap]
/-- A slice of handles, wherever in its block it begins. -/
def Lft (w : World) (A : Option Addr) (l : List Nat) : Prop := l = [] ∨ ∃ b o cs, A = some ⟨b, o, none⟩ ∧ Blk w b 30 cs ∧ ∀ i, i < l.length → cs[o + i]? = some (.int .u64 (nth l i : Nat))
/-- The blocks of a drain. -/
def dfoot (D : Dr) (x : Nat) : Prop := x = D.f ∨ x = D.fw ∨ (D.left ≠ [] ∧ In D.A x)
structure DrAt (w : World) (D : Dr) : Prop where
  blk : Blk w D.f 66 (drc D)
  wt : WtAt w D.fw D.W
  lft : Lft w D.A D.left
  sz : D.left.length ≤ D.cap ∧ D.cap ≤ maxLen
theorem Lft.only {S : Nat → Prop} {w w' : World} {A : Option Addr} {l : List Nat} (h : Lft w A l) (ho : Only S w w') (hn : ∀ x, l ≠ [] → In A x → ¬ S x) : Lft w' A l := by
  rcases h with h | ⟨b, o, cs, rfl, hb, hc⟩
  · exact .inl h
  · by_cases e : l = []
    · exact .inl e
    · exact .inr ⟨b, o, cs, rfl, hb.only ho (hn b e rfl), hc⟩
theorem DrAt.only {S : Nat → Prop} {w w' : World} {D : Dr} (h : DrAt w D) (ho : Only S w w') (hn : ∀ x, dfoot D x → ¬ S x) : DrAt w' D :=
  ⟨h.blk.only ho (hn _ (.inl rfl)), h.wt.only ho (hn _ (.inr (.inl rfl))), h.lft.only ho (fun x hl hx => hn x (.inr (.inr ⟨hl, hx⟩))), h.sz⟩
theorem DrAt.below {w w' : World} {D : Dr} (h : DrAt w D) (hb : Below w.heap.size w w') : DrAt w' D := h.only (S := fun _ => False) (Only.ofBelow hb _) (by simp)
theorem DrAt.drewN {w : World} {D : Dr} (h : DrAt w D) (n : Nat) : DrAt (w.drewN n) D := h.only (S := fun _ => False) ((Only.refl _ _).drewN n) (by simp)
theorem DrAt.hd {w : World} {D : Dr} (h : DrAt w D) : w.cell? ⟨D.f, 0, none⟩ = some (.int .i64 D.at_) ∧ w.cell? ⟨D.f, 1, none⟩ = some (ptr D.fw) ∧ w.cell? ⟨D.f, 2, none⟩ = some (.slice D.A D.left.length D.cap) :=
  ⟨h.blk.cell 0, h.blk.cell 1, h.blk.cell 2⟩
theorem DrAt.far {w : World} {D : Dr} (h : DrAt w D) {M : Mo} (hM : MemAt w M) : ¬ mfoot M D.f ∧ ¬ mfoot M D.fw :=
  ⟨fun hx => (hM.ty hx).apart (blk_ty h.blk) (by decide), h.wt.far hM⟩
theorem DrAt.ne {w : World} {D : Dr} (h : DrAt w D) : D.f ≠ D.fw := h.blk.differ h.wt (by decide)

theorem new_drain (k : Int) (w : World) : Calls Try.prog 6 #[.int .i64 k] w fun e w' => ∃ f, e = .returned (ptr f) ∧ w.heap.size < f ∧ DrAt w' ⟨f, w.heap.size, 0, ⟨k, 0, 0, 0⟩, none, 0, []⟩ ∧ Below w.heap.size w w' := by
  have hS := Lib.hid (sync_any k w)
  go_enter Try.func6, Try.ntmps6
  go_wp2_with fail
  refine hS.out.mono ?_
  rintro e w1 ⟨rfl, hW, hb⟩
  have hW2 := Lib.hid (show WtAt (w1.alloc (.cells #[.int .i64 0, ptr w.heap.size, .slice none 0 0] 66)) w.heap.size ⟨k, 0, 0, 0⟩ from hW.alloc _)
  have hlt : w.heap.size < w1.heap.size := hW.lt
  have hb2 := Lib.hid (hb.alloc (o := .cells #[.int .i64 0, ptr w.heap.size, .slice none 0 0] 66) (Nat.le_of_lt hlt))
  clear hW hb hS
  go_wp2_with fail
  go_ret
  exact ⟨w1.heap.size, rfl, hlt, ⟨Blk.made w1 _ _, hW2.out, .inl rfl, Nat.le_refl _, Nat.zero_le _⟩, hb2.out⟩

def dready (M : Mo) (D : Dr) : Bool := if D.at_ = 0 then decide (0 < M.ws.length) else if D.at_ = 1 then readyB M.xs M.hs D.W else true
section
variable {w : World} {M : Mo} {D : Dr}
theorem ready_drain (hM : MemAt w M) (hD : DrAt w D) (hk : 0 < M.hs.length) (hp : D.at_ = 1 → D.W.at_ ≤ 1000 ∧ (D.W.at_ = 2 → 2 + D.W.passed < M.xs.length ∧ D.W.passed ≤ 1000)) (ha : D.at_ ≤ 1000) :
    Calls Try.prog 7 #[ptr D.f, ptr M.m] w fun e w' => e = .returned (.bool (dready M D)) ∧ ∃ n, w' = w.drewN n := by
  obtain ⟨c0, c1, c2⟩ := hD.hd
  unfold dready
  by_cases h0 : D.at_ = 0
  · have hT := Lib.hid (waiting_any hM)
    rw [if_pos h0]
    rw [h0] at c0
    generalize M.ws.length = z at *
    clear hM hD hp ha
    go_enter Try.func7, Try.ntmps7
    go_wp2_with (go_at_call 13; refine hT.out.mono ?_; rintro e w' ⟨rfl, rfl⟩)
    go_ret
    refine ⟨K.ret_bool ?_, 0, rfl⟩
    simp
  · rw [if_neg h0]
    by_cases h1 : D.at_ = 1
    · have hT := Lib.hid (ready_any hM hD.wt hk (hp h1).2 (hp h1).1)
      rw [if_pos h1]
      rw [h1] at c0
      generalize readyB M.xs M.hs D.W = z at *
      clear hM hD hp ha h0
      go_enter Try.func7, Try.ntmps7
      go_wp2_with (go_at_call 24; refine hT.out.mono ?_; rintro e w' ⟨rfl, n, rfl⟩)
      go_ret
      exact ⟨rfl, _, rfl⟩
    · rw [if_neg h1]
      have e0 : ((D.at_ : Int) == 0) = false := by rw [beq_eq_false_iff_ne]; omega
      have e1 : ((D.at_ : Int) == 1) = false := by rw [beq_eq_false_iff_ne]; omega
      generalize D.at_ = z at *
      clear hM hD hp h0 h1
      go_enter Try.func7, Try.ntmps7
      go_wp2_with fail
      go_ret
      exact ⟨rfl, 0, rfl⟩
end

/-! ### a step -/
def mval (F : Nat) (v : Value) : Value := .func (.func F) #[v] #[]
def stepsD (D : Dr) : Array Value := #[mval 43 (ptr D.f), mval 44 (ptr D.fw), mval 45 (ptr D.f)]
theorem enters_dtake (args : Array Value) (w : World) : (callFunc 43 args).run Try.prog w = .ok (.enter 43 args) w := by kernel_rfl
theorem enters_dstep (args : Array Value) (w : World) : (callFunc 44 args).run Try.prog w = .ok (.enter 44 args) w := by kernel_rfl
theorem enters_dfree (args : Array Value) (w : World) : (callFunc 45 args).run Try.prog w = .ok (.enter 45 args) w := by kernel_rfl
section
variable {w : World} {M : Mo} {D : Dr}
theorem steps_drain (hD : DrAt w D) : Calls Try.prog 28 #[ptr D.f] w fun e w' => e = .returned (.slice (some ⟨w.heap.size, 0, none⟩) 3 3) ∧ Listed w.heap.size (stepsD D) w' ∧ Below w.heap.size w w' := by
  obtain ⟨c0, c1, c2⟩ := hD.hd
  have hlt := hD.blk.lt
  clear hD
  go_enter Try.func28, Try.ntmps28
  go_wp2
  go_ret
  refine ⟨rfl, fun i hi => ?_, (Below.refl _ _).alloc (Nat.le_refl _) _⟩
  exact (Blk.made w _ _).cell i
/-- What a step leaves: what its function leaves, and where the frame goes on. -/
def SteppedD (P : World → Prop) (f at_ : Nat) (c : Bool) (w' : World) : Prop := ∃ w1, P w1 ∧ w' = if c = true then w1.setCell ⟨f, 0, none⟩ (.int .i64 ((at_ + 1 : Nat) : Int)) else w1
theorem step_Drain {F : Nat} {cv m : Value} {c : Bool} {P : World → Prop} (hD : DrAt w D) (ha : D.at_ < 3) (hs : (stepsD D)[D.at_]? = some (mval F cv)) (eF : ∀ args w, (callFunc F args).run Try.prog w = .ok (.enter F args) w)
    (hF : ∀ w2, Below w.heap.size w w2 → Calls Try.prog F #[cv, m] w2 fun e w' => e = .returned (.bool c) ∧ P w') (hP : ∀ w', P w' → w'.cell? ⟨D.f, 0, none⟩ = some (.int .i64 D.at_) ∧ w'.frozen? ⟨D.f, 0, none⟩ = false) :
    Calls Try.prog 12 #[ptr D.f, m] w fun e w' => e = .returned (.bool (decide ((if c = true then D.at_ + 1 else D.at_) = 3))) ∧ SteppedD P D.f D.at_ c w' := by
  have hS := Lib.hid (steps_drain hD)
  have hc := Lib.hid (fun w2 (hb : Below w.heap.size w w2) => (hD.below hb).hd.1)
  have hlt := hD.blk.lt
  replace hF := Lib.hid hF
  replace hP := Lib.hid hP
  have ha3 : D.at_ ≤ 2 := by omega
  replace hs := Lib.hid hs
  have hsz : Hid (D.at_ < (stepsD D).size) := Lib.hid (by show D.at_ < 3; omega)
  clear hD ha
  generalize D.at_ = at_ at *
  generalize D.f = f at *
  go_enter Try.func12, Try.ntmps12
  go_wp2_with fail
  refine hS.out.mono ?_
  rintro e w2 ⟨rfl, hl2, hb2⟩
  have c0 := hc.out w2 hb2
  have c1 := hl2 _ hsz.out
  rw [hs.out] at c1
  unfold mval at c1
  replace hF := Lib.hid (hF.out w2 hb2)
  have h3 : ¬ (3 ≤ at_) := by omega
  have h4 : decide ((at_ : Int) < (3 : Int)) = true := by simp; omega
  clear hl2 hb2 hS hc
  generalize w.heap.size = sb at *
  cases c with
  | true =>
    go_wp2_with fail
    refine hF.out.mono ?_
    rintro e w' ⟨rfl, hPw⟩
    obtain ⟨k1, k2⟩ := hP.out w' hPw
    replace hPw := Lib.hid hPw
    clear c0 c1
    go_wp2_with fail
    go_ret
    refine ⟨K.ret_bool ?_, w', hPw.out, by simp⟩
    rcases (by omega : at_ = 0 ∨ at_ = 1 ∨ at_ = 2) with h | h | h <;> simp [h]
  | false =>
    go_wp2_with fail
    refine hF.out.mono ?_
    rintro e w' ⟨rfl, hPw⟩
    obtain ⟨k1, k2⟩ := hP.out w' hPw
    replace hPw := Lib.hid hPw
    clear c0 c1
    go_wp2_with fail
    go_ret
    refine ⟨K.ret_bool ?_, w', hPw.out, by simp⟩
    rcases (by omega : at_ = 0 ∨ at_ = 1 ∨ at_ = 2) with h | h | h <;> simp [h]
end
end Go.Proofs.Ytnmneofmflkilaa.Re
