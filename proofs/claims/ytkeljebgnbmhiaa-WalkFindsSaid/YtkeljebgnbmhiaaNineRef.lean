/- The document's list of nodes, laid from its end; the document's answer over it. -/
import Derived.Test.YtkeljebgnbmhiaaNineMath
namespace Go.Proofs.Ytkeljebgnbmhiaa.LawNine
open Go Go.RowKit Hp K Fl Rw Hm Ar Mm Me Wk
set_option maxRecDepth 100000

/-- The document's nodes of the last j pairs. -/
def Rns (w : World) (nb : Nat) (l : List Pr) (j : Nat) : Prop :=
  ∃ cs, Blk w nb 45 cs ∧ cs.size = l.length * 3 ∧ ∀ k, l.length - j ≤ k → k < l.length → cs[k * 3]? = some (.int .u64 (l.length - k : Nat)) ∧ cs[k * 3 + 1]? = some (.string (pat l k).1) ∧ cs[k * 3 + 2]? = some (.int .u32 (pat l k).2)
section
variable {w w' : World} {nb : Nat} {l : List Pr} {j : Nat}
theorem Rns.lt (h : Rns w nb l j) : nb < w.heap.size := by obtain ⟨cs, hB, _⟩ := h; exact hB.lt
theorem Rns.ty (h : Rns w nb l j) : Ty w nb [45] := by obtain ⟨cs, hB, _⟩ := h; exact blk_ty hB
theorem Rns.only {S : Nat → Prop} (h : Rns w nb l j) (ho : Only S w w') (hn : ¬ S nb) : Rns w' nb l j := by
  obtain ⟨cs, hB, r⟩ := h
  exact ⟨cs, hB.only ho hn, r⟩
theorem Rns.at (h : Rns w nb l j) (k : Nat) (h1 : l.length - j ≤ k) (h2 : k < l.length) : w.cell? ⟨nb, k * 3, none⟩ = some (.int .u64 (l.length - k : Nat)) ∧ w.cell? ⟨nb, k * 3 + 1, none⟩ = some (.string (pat l k).1) ∧ w.cell? ⟨nb, k * 3 + 2, none⟩ = some (.int .u32 (pat l k).2) := by
  obtain ⟨cs, hB, _, hc⟩ := h
  rw [hB.cell, hB.cell, hB.cell]
  exact hc k h1 h2
theorem Rns.room (h : Rns w nb l j) (k : Nat) (hk : k < l.length) : (∃ u, w.cell? ⟨nb, k * 3, none⟩ = some u) ∧ (∃ u, w.cell? ⟨nb, k * 3 + 1, none⟩ = some u) ∧ (∃ u, w.cell? ⟨nb, k * 3 + 2, none⟩ = some u) ∧ ∀ i, w.frozen? ⟨nb, i, none⟩ = false := by
  obtain ⟨cs, hB, hs, _⟩ := h
  rw [hB.cell, hB.cell, hB.cell]
  exact ⟨⟨_, Array.getElem?_eq_getElem (by omega)⟩, ⟨_, Array.getElem?_eq_getElem (by omega)⟩, ⟨_, Array.getElem?_eq_getElem (by omega)⟩, fun i => hB.frozen i⟩
/-- The next one is laid. -/
theorem Rns.step (h : Rns w nb l j) (hj : j < l.length) : Rns (((w.setCell ⟨nb, (l.length - 1 - j) * 3, none⟩ (.int .u64 (j + 1 : Nat))).setCell ⟨nb, (l.length - 1 - j) * 3 + 1, none⟩ (.string (pat l (l.length - 1 - j)).1)).setCell ⟨nb, (l.length - 1 - j) * 3 + 2, none⟩ (.int .u32 (pat l (l.length - 1 - j)).2)) nb l (j + 1) := by
  obtain ⟨cs, hB, hs, hc⟩ := h
  obtain ⟨i, hi⟩ : ∃ i, i = l.length - 1 - j := ⟨_, rfl⟩
  rw [← hi]
  refine ⟨_, ((hB.store (i * 3) _).store (i * 3 + 1) _).store (i * 3 + 2) _, by simp [hs], fun k h1 h2 => ?_⟩
  simp only [Array.getElem?_setIfInBounds, Array.size_setIfInBounds, hs]
  by_cases e : k = i
  · subst e
    rw [if_neg (by omega), if_neg (by omega), if_pos rfl, if_pos (by omega), if_neg (by omega), if_pos rfl, if_pos (by omega), if_pos rfl, if_pos (by omega)]
    exact ⟨by congr 3; omega, rfl, rfl⟩
  · have := hc k (by omega) h2
    rw [if_neg (by omega), if_neg (by omega), if_neg (by omega), if_neg (by omega), if_neg (by omega), if_neg (by omega), if_neg (by omega), if_neg (by omega), if_neg (by omega)]
    exact this
end
def ixv : Option Nat → Int
  | some r => r
  | none => -1
theorem fx_one {l : List Pr} {s : Int} {k : ByteArray} (i n : Nat) : fx l s k i (n + 1) = if (pat l i).2 = s ∧ (pat l i).1 = k then some i else fx l s k (i + 1) n := rfl
set_option maxHeartbeats 2000000 in
theorem find_any {w : World} {nb : Nat} {l : List Pr} (h : Rns w nb l l.length) (hl : l.length ≤ 50) (s : Int) (k : ByteArray) :
    Calls Try.prog 12 #[.slice (some ⟨nb, 0, none⟩) l.length l.length, .int .u32 s, .string k] w fun e w' => e = .returned (.int .i64 (ixv (ix l s k))) ∧ w' = w := by
  have H := Lib.hid h
  have h0 : Hid (fx l s k 0 (l.length - 0) = ix l s k) := Lib.hid rfl
  clear h
  generalize hz : ix l s k = z at *
  replace hz := Lib.hid hz
  go_enter Try.func12, Try.ntmps12
  go_wp2_with fail
  go_loop [7] (fun i => ∃ n : Nat, n ≤ l.length ∧ i = .int .i64 n ∧ Hid (fx l s k n (l.length - n) = z)) (fun i => l.length - (intOf i).toNat)
  case atStart => exact ⟨0, Nat.zero_le _, rfl, h0⟩
  case round =>
    obtain ⟨n, hn, rfl, hf⟩ := hrel
    clear h0
    by_cases hlt : n < l.length
    · obtain ⟨c0, c1, c2⟩ := H.out.at n (by omega) hlt
      have e1 := hf.out
      rw [show l.length - n = (l.length - (n + 1)) + 1 by omega, fx_one] at e1
      generalize hp : pat l n = p at *
      obtain ⟨pk, ps⟩ := p
      simp only at c1 c2 e1
      replace hp := Lib.hid hp
      clear hf
      by_cases h1 : ps = s
      · by_cases h2 : pk = k
        · rw [if_pos ⟨h1, h2⟩] at e1
          replace e1 := Lib.hid e1
          subst h1
          subst h2
          go_wp2_with fail
          go_ret
          rw [← e1.out]
          exact ⟨rfl, rfl⟩
        · rw [if_neg (fun q => h2 q.2)] at e1
          replace e1 := Lib.hid e1
          have b2 := bytes_ne h2
          subst h1
          clear h2
          go_wp2_with fail
          go_round
          case rel => exact ⟨n + 1, by omega, by go_num, e1⟩
          case measure => simp [intOf]; omega
      · rw [if_neg (fun q => h1 q.1)] at e1
        replace e1 := Lib.hid e1
        have b1 : (ps == s) = false := by simpa using h1
        clear h1
        go_wp2_with fail
        go_round
        case rel => exact ⟨n + 1, by omega, by go_num, e1⟩
        case measure => simp [intOf]; omega
    · obtain rfl : n = l.length := by omega
      have e1 := hf.out
      rw [show l.length - l.length = 0 by omega] at e1
      have e2 : ixv z = -1 := by rw [← e1]; rfl
      replace e2 := Lib.hid e2
      clear hf e1
      go_wp2_with fail
      go_ret
      rw [e2.out]
      exact ⟨rfl, rfl⟩
/-- What a walk over the chain comes to, from its first step on. -/
theorem fin_chain {l : List Pr} {ss : List Sl} (h : Fw l ss l.length) (s : Int) (key : ByteArray) (f : Nat) (F : Bool) :
    ∃ (r1 : Nat) (V : Wa), wfin [1, 0, 0, (l.length : Int)] ss 100 (F, new f 3 s key) = (r1 + 1, true, (F, V)) ∧ V.f = f ∧ V.first = l.length ∧
      (∀ r, ix l s key = some r → r1 = r + 1 ∧ V.read = r + 1 ∧ V.found = l.length - r ∧ V.prev = (if r = 0 then 0 else l.length - r + 1) ∧ V.nd = nof l (l.length - r - 1)) ∧
      (ix l s key = none → r1 = l.length ∧ V.read = l.length ∧ V.found = 0 ∧ V.prev = (if l.length = 0 then 0 else 1) ∧ V.nd = .zero) := by
  have hwd : word [1, 0, 0, (l.length : Int)] 3 = l.length := by simp [word, Cl.nth]
  have hle := h.le
  obtain ⟨a, hfin⟩ := along_whole (F := F) (xs := [1, 0, 0, (l.length : Int)]) (ss := ss) (by have := h.len; omega) (hs l.length) (new f 3 s key) 100 (by show Pa ss (word [1, 0, 0, (l.length : Int)] 3) _; rw [hwd]; exact h.path _ (Nat.le_refl _)) rfl (by rw [hs_len]; omega)
  have hal := along_hs h s key l.length { new f 3 s key with first := word [1, 0, 0, (l.length : Int)] (new f 3 s key).cell, at_ := a } (Nat.le_refl _) rfl rfl rfl rfl
  rw [Nat.sub_self] at hal
  refine ⟨_, _, hfin, ?_, ?_, fun r hr => ?_, fun hr => ?_⟩
  · cases hx : ix l s key with
    | some r => exact (hal.1 r hx).2.2.2.2.2.2
    | none => exact (hal.2 hx).2.2.2.2.2.2
  · cases hx : ix l s key with
    | some r => exact (hal.1 r hx).2.2.2.2.2.1.trans hwd
    | none => exact (hal.2 hx).2.2.2.2.2.1.trans hwd
  · obtain ⟨q1, q2, q3, q4, q5, _⟩ := hal.1 r hr
    exact ⟨q1, q2.trans (Nat.zero_add _), q3, q4, q5⟩
  · obtain ⟨q1, q2, q3, q4, q5, _⟩ := hal.2 hr
    exact ⟨q1, q2.trans (Nat.zero_add _), q3, q4, q5⟩
end Go.Proofs.Ytkeljebgnbmhiaa.LawNine
