/- What a round of the first statement of layer 4 keeps: the arena, the document's arena, the handles; which blocks they lie in, apart from each other. -/
import Derived.Test.YtihgfjamnmbppaaLawFourA
namespace Go.Proofs.Ytihgfjamnmbppaa.LawFour
open Go Go.RowKit Hp K Fl Rw Hm Hw Ar Rf LK

def hnd (h : Nat) : List Value := [.int .u64 h]
theorem hnd_len (h : Nat) : (hnd h).length = 1 := rfl
abbrev Hnds (w : World) (A : Option Addr) (cap : Nat) (hs : List Nat) : Prop := Row w 33 1 hnd A cap hs
theorem hnds_at {w : World} {A : Option Addr} {cap : Nat} {hs : List Nat} (h : Hnds w A cap hs) (k : Nat) (hk : k < hs.length) : ∃ b, A = some ⟨b, 0, none⟩ ∧ w.cell? ⟨b, k, none⟩ = some (.int .u64 (nth hs k : Nat)) := by
  obtain ⟨b, e, _, hc⟩ := h.cells hnd_len k hk
  refine ⟨b, e, ?_⟩
  have := (hc 0 (by omega)).1
  simp [hnd] at this
  rw [nth_get hk]
  exact this
theorem bcell {W w1 : World} (hb : Below W.heap.size W w1) : (∀ b o, b < W.heap.size → w1.cell? ⟨b, o, none⟩ = W.cell? ⟨b, o, none⟩) ∧ (∀ b o, b < W.heap.size → w1.frozen? ⟨b, o, none⟩ = W.frozen? ⟨b, o, none⟩) :=
  ⟨fun b o h => hb.cell (p := ⟨b, o, none⟩) h, fun b o h => hb.frozen (p := ⟨b, o, none⟩) h⟩
theorem info_handle : (Try.prog.info? 33).map (fun i => (i.zero, i.size, i.bytes)) = some (some (.int .u64 0), 1, 8) := by kernel_rfl
/-- The arena, with ss; the document's, with ss'; the handles. -/
def St (W w : World) (g sb fb r nb ub gb n : Nat) (ss : List Sl) (F : Bool) (ss' : List Sl) (F' : Bool) (A : Option Addr) (cap : Nat) (hs : List Nat) : Prop :=
  ArenaAt w g sb fb ss F ∧ RefAt w r nb ub gb n ss' F' ∧ Hnds w A cap hs ∧ Below W.heap.size W w ∧ (∀ x, afoot g sb fb x → W.heap.size ≤ x) ∧ (∀ x, rfoot r nb ub gb x → W.heap.size ≤ x) ∧ (∀ x, In A x → W.heap.size ≤ x)

theorem row_blk {α : Type} {w : World} {e : TypeId} {c : Nat} {f : α → List Value} {A : Option Addr} {cap : Nat} {xs : List α} (h : Row w e c f A cap xs) {x : Nat} (hx : In A x) : ∃ cs, Blk w x e cs := by
  rcases h.2 with ⟨q, _⟩ | ⟨g, cap1, cur, hv, _, hg, _⟩
  · injection q with q; subst q; simp [In] at hx
  · injection hv with h3; subst h3
    have : g = x := by simpa [In] using hx
    subst this
    exact ⟨cur, hg⟩
theorem arena_blk {w : World} {g sb fb : Nat} {ss : List Sl} {F : Bool} (h : ArenaAt w g sb fb ss F) {x : Nat} (hx : afoot g sb fb x) : ∃ t cs, Blk w x t cs ∧ (t = 67 ∨ t = 72 ∨ t = 3) := by
  obtain ⟨fr, hP, hB, _⟩ := h
  rcases hx with rfl | rfl | rfl
  · exact ⟨_, _, hP.1, .inl rfl⟩
  · exact ⟨_, _, hB, .inr (.inl rfl)⟩
  · obtain ⟨cs, hc⟩ := row_blk hP.2 (x := x) rfl
    exact ⟨_, cs, hc, .inr (.inr rfl)⟩
theorem ref_blk {w : World} {r nb ub gb n : Nat} {ss : List Sl} {F : Bool} (h : RefAt w r nb ub gb n ss F) {x : Nat} (hx : rfoot r nb ub gb x) : ∃ t cs, Blk w x t cs ∧ (t = 53 ∨ t = 43 ∨ t = 4 ∨ t = 31) := by
  rcases hx with rfl | rfl | rfl | rfl
  · exact ⟨_, _, h.1, .inl rfl⟩
  · exact ⟨_, _, h.2.1, .inr (.inl rfl)⟩
  · exact ⟨_, _, h.2.2.1, .inr (.inr (.inl rfl))⟩
  · exact ⟨_, _, h.2.2.2.1, .inr (.inr (.inr rfl))⟩
theorem blk_type {w : World} {x : Nat} {t t' : TypeId} {cs cs' : Array Value} (h : Blk w x t cs) (h' : Blk w x t' cs') : t = t' := by
  by_cases e : t = t'
  · exact e
  · exact absurd rfl (h.differ h' e)
theorem apart_ar {w : World} {g sb fb r nb ub gb n : Nat} {ss ss' : List Sl} {F F' : Bool} (h : ArenaAt w g sb fb ss F) (h' : RefAt w r nb ub gb n ss' F') (x : Nat) (hx : afoot g sb fb x) : ¬ rfoot r nb ub gb x := by
  intro hy
  obtain ⟨t, cs, hb, ht⟩ := arena_blk h hx
  obtain ⟨t', cs', hb', ht'⟩ := ref_blk h' hy
  have := blk_type hb hb'
  subst this
  revert ht ht'
  rintro (rfl | rfl | rfl) <;> decide
theorem apart_ax {w : World} {g sb fb : Nat} {ss : List Sl} {F : Bool} (h : ArenaAt w g sb fb ss F) {x : Nat} {t : TypeId} {cs : Array Value} (hb : Blk w x t cs) (ht : t = 33 ∨ t = 37) : ¬ afoot g sb fb x := by
  intro hx
  obtain ⟨t', cs', hb', ht'⟩ := arena_blk h hx
  have := blk_type hb hb'
  subst this
  revert ht ht'
  rintro (rfl | rfl) <;> decide
theorem apart_rx {w : World} {r nb ub gb n : Nat} {ss : List Sl} {F : Bool} (h : RefAt w r nb ub gb n ss F) {x : Nat} {t : TypeId} {cs : Array Value} (hb : Blk w x t cs) (ht : t = 33 ∨ t = 37) : ¬ rfoot r nb ub gb x := by
  intro hx
  obtain ⟨t', cs', hb', ht'⟩ := ref_blk h hx
  have := blk_type hb hb'
  subst this
  revert ht ht'
  rintro (rfl | rfl) <;> decide

theorem apart_n {w : World} {r nb ub gb n : Nat} {ss : List Sl} {F : Bool} (h : RefAt w r nb ub gb n ss F) {x : Nat} {cs : Array Value} (hb : Blk w x 35 cs) : ¬ rfoot r nb ub gb x := by
  intro hx
  obtain ⟨t', cs', hb', ht'⟩ := ref_blk h hx
  have := blk_type hb hb'
  subst this
  revert ht'
  decide
section
variable {W w w' : World} {g sb fb r nb ub gb n : Nat} {ss ss' ss1 : List Sl} {F F' F1 : Bool} {A A' : Option Addr} {cap cap' : Nat} {hs hs' : List Nat}
theorem St.below (h : St W w g sb fb r nb ub gb n ss F ss' F' A cap hs) (hb : Below w.heap.size w w') : St W w' g sb fb r nb ub gb n ss F ss' F' A cap hs := by
  obtain ⟨h1, h2, h3, h4, h5⟩ := h
  have ho := Only.ofBelow hb (fun _ => False)
  exact ⟨h1.only ho (by simp), h2.only ho (by simp), h3.only ho (by simp), h4.trans (hb.mono h4.size), h5⟩
theorem St.drewN (h : St W w g sb fb r nb ub gb n ss F ss' F' A cap hs) (k : Nat) : St W (w.drewN k) g sb fb r nb ub gb n ss F ss' F' A cap hs :=
  h.below (((Only.refl (fun _ => False) w).drewN k).toBelow (Nat.le_refl _) (by simp))
theorem St.alloc (h : St W w g sb fb r nb ub gb n ss F ss' F' A cap hs) (o : Obj) : St W (w.alloc o) g sb fb r nb ub gb n ss F ss' F' A cap hs := h.below ((Below.refl _ _).alloc (Nat.le_refl _) _)
theorem St.arena (h : St W w g sb fb r nb ub gb n ss F ss' F' A cap hs) (hA : ArenaAt w' g sb fb ss1 F1) (ho : Only (afoot g sb fb) w w') : St W w' g sb fb r nb ub gb n ss1 F1 ss' F' A cap hs := by
  obtain ⟨h1, h2, h3, h4, h5, h6⟩ := h
  refine ⟨hA, h2.only ho (fun x hx hy => apart_ar h1 h2 x hy hx), h3.only ho (fun x hx => ?_), h4.trans (ho.toBelow h4.size (fun x hx hy => by have := h5 x hy; omega)), h5, h6⟩
  obtain ⟨cs, hc⟩ := row_blk h3 hx
  exact apart_ax h1 hc (.inl rfl)
theorem St.ref (h : St W w g sb fb r nb ub gb n ss F ss' F' A cap hs) (hR : RefAt w' r nb ub gb n ss1 F1) (ho : Only (rfoot r nb ub gb) w w') : St W w' g sb fb r nb ub gb n ss F ss1 F1 A cap hs := by
  obtain ⟨h1, h2, h3, h4, h5, h6, h7⟩ := h
  refine ⟨h1.only ho (fun x hx hy => apart_ar h1 h2 x hx hy), hR, h3.only ho (fun x hx => ?_), h4.trans (ho.toBelow h4.size (fun x hx hy => by have := h6 x hy; omega)), h5, h6, h7⟩
  obtain ⟨cs, hc⟩ := row_blk h3 hx
  exact apart_rx h2 hc (.inl rfl)
theorem St.hands (h : St W w g sb fb r nb ub gb n ss F ss' F' A cap hs) (hH : Hnds w' A' cap' hs') (ho : Only (In A) w w') (hA' : ∀ x, In A' x → In A x ∨ w.heap.size ≤ x) : St W w' g sb fb r nb ub gb n ss F ss' F' A' cap' hs' := by
  obtain ⟨h1, h2, h3, h4, h5, h6, h7⟩ := h
  refine ⟨h1.only ho (fun x hx hy => ?_), h2.only ho (fun x hx hy => ?_), hH, h4.trans (ho.toBelow h4.size (fun x hx hy => by have := h7 x hy; omega)), h5, h6, fun x hx => ?_⟩
  · obtain ⟨cs, hc⟩ := row_blk h3 hy
    exact apart_ax h1 hc (.inl rfl) hx
  · obtain ⟨cs, hc⟩ := row_blk h3 hy
    exact apart_rx h2 hc (.inl rfl) hx
  · rcases hA' x hx with q | q
    · exact h7 x q
    · exact Nat.le_trans h4.size q
/-- The act's own block stays. -/
theorem St.actA (h : St W w g sb fb r nb ub gb n ss F ss' F' A cap hs) {q : Nat} {cs : Array Value} (hK : Blk w q 37 cs) (ho : Only (afoot g sb fb) w w') : Blk w' q 37 cs := hK.only ho (apart_ax h.1 hK (.inr rfl))
theorem St.actR (h : St W w g sb fb r nb ub gb n ss F ss' F' A cap hs) {q : Nat} {cs : Array Value} (hK : Blk w q 37 cs) (ho : Only (rfoot r nb ub gb) w w') : Blk w' q 37 cs := hK.only ho (apart_rx h.2.1 hK (.inr rfl))
end

theorem gens_set {ss : List Sl} {B : Nat} (h : Gens ss B) {j : Nat} (hj : j < ss.length) (s : Sl) (hs : s.gen ≤ B) : Gens (ss.set j s) B := fun k => by
  rw [at_set hj]
  by_cases e : k = j
  · rw [if_pos e]; exact hs
  · rw [if_neg e]; exact h k
theorem gens_mono {ss : List Sl} {B B' : Nat} (h : Gens ss B) (hB : B ≤ B') : Gens ss B' := fun k => Nat.le_trans (h k) hB
theorem least_or (ss : List Sl) : (∀ k, k < ss.length → (at' ss k).taken = true) ∨ ∃ m, Least ss m := by
  have : ∀ n, n ≤ ss.length → (∀ k, k < n → (at' ss k).taken = true) ∨ ∃ m, Least ss m := by
    intro n
    induction n with
    | zero => intro _; exact .inl (fun k hk => by omega)
    | succ n ih =>
      intro hn
      rcases ih (by omega) with h | h
      · by_cases ht : (at' ss n).taken = true
        · refine .inl fun k hk => ?_
          by_cases e : k = n
          · subst e; exact ht
          · exact h k (by omega)
        · exact .inr ⟨n, by omega, by simpa using ht, h⟩
      · exact .inr h
  exact this _ (Nat.le_refl _)

/-- A place's Next set, in the document's arena. -/
theorem ref_link {w : World} {r nb ub gb n : Nat} {ss : List Sl} {F : Bool} (h : RefAt w r nb ub gb n ss F) (k : Nat) (hk : k < n) (y : Int) :
    RefAt (w.setCell ⟨nb, k * 4 + 3, none⟩ (.int .u64 y)) r nb ub gb n (ss.set k { at' ss k with nd := { (at' ss k).nd with next := y } }) F ∧ Only (rfoot r nb ub gb) w (w.setCell ⟨nb, k * 4 + 3, none⟩ (.int .u64 y)) := by
  have hne := h.ne
  obtain ⟨hR, hN, hU, hG, hl⟩ := h
  have hkl : k < ss.length := by omega
  have ho := (Only.refl (· = nb) w).setCell (p := ⟨nb, k * 4 + 3, none⟩) (.inl rfl) (.int .u64 y)
  refine ⟨⟨hR.only ho hne.1, ?_, ?_, ?_, by simpa using hl⟩, ho.mono (fun x _ q => .inr (.inl q))⟩
  · have e := flat_set nds_len ss k 3 (by omega) (at' ss k) { at' ss k with nd := { (at' ss k).nd with next := y } } (.int .u64 y) (at_some hkl) rfl
    have := hN.store (k * 4 + 3) (.int .u64 y)
    show Blk _ _ _ (List.flatMap (fun s : Sl => ndc s.nd) _).toArray
    rw [e]
    simpa [nds] using this
  · have e : tks (ss.set k { at' ss k with nd := { (at' ss k).nd with next := y } }) = tks ss := by
      rw [tks_set]
      apply List.ext_getElem?
      intro i
      rw [List.getElem?_set]
      by_cases hi : k = i
      · subst hi
        rw [if_pos rfl, if_pos (by simpa [tks] using hkl), tks, List.getElem?_map, at_some hkl]
        rfl
      · rw [if_neg hi]
    rw [e]
    exact hU.only ho (fun e => hne.2.2.2.1 e.symm)
  · rw [gns_same ss k hkl { at' ss k with nd := { (at' ss k).nd with next := y } } rfl]
    exact hG.only ho (fun e => hne.2.2.2.2.1 e.symm)
end Go.Proofs.Ytihgfjamnmbppaa.LawFour
