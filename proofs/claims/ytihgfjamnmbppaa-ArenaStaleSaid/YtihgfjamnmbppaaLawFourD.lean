/- The memory that the second statement of layer 4 keeps. -/
import Derived.Test.YtihgfjamnmbppaaLawFourC
namespace Go.Proofs.Ytihgfjamnmbppaa.LawFour
open Go Go.RowKit Hp K Fl Rw Hm Hw Ar Rf LK

/-- The arena, the live handles, the dead ones, the map that counts them. -/
def T (W w : World) (g sb fb B : Nat) (ss : List Sl) (Al : Option Addr) (capl : Nat) (live : List Nat) (Ad : Option Addr) (capd : Nat) (dead ms : List Nat) : Prop :=
  ArenaAt w g sb fb ss false ∧ Lst w Al capl live ∧ Hnds w Ad capd dead ∧ Met w B ms ∧ Below W.heap.size W w ∧ (∀ x, afoot g sb fb x → W.heap.size ≤ x) ∧ (∀ x, In Al x → W.heap.size ≤ x) ∧ (∀ x, In Ad x → W.heap.size ≤ x) ∧ W.heap.size ≤ B ∧ (∀ x, In Al x → ¬ In Ad x)

theorem met_ne {w : World} {B : Nat} {ms : List Nat} (h : Met w B ms) {x : Nat} {t : TypeId} {cs : Array Value} (hb : Blk w x t cs) : x ≠ B := by
  rintro rfl
  obtain ⟨n, D, ⟨es, clock, he, _⟩, _⟩ := h
  have := hb.symm.trans he
  simp at this
theorem Met.lt {w : World} {B : Nat} {ms : List Nat} (h : Met w B ms) : B < w.heap.size := by
  obtain ⟨n, D, hm, _⟩ := h
  exact hm.lt

section
variable {W w w' : World} {g sb fb B : Nat} {ss ss' : List Sl} {Al Al' : Option Addr} {capl capl' : Nat} {live live' : List Nat} {Ad Ad' : Option Addr} {capd capd' : Nat} {dead dead' ms ms' : List Nat}
theorem T.below (h : T W w g sb fb B ss Al capl live Ad capd dead ms) (hb : Below w.heap.size w w') : T W w' g sb fb B ss Al capl live Ad capd dead ms := by
  obtain ⟨h1, h2, h3, h4, h5, h6⟩ := h
  have ho := Only.ofBelow hb (fun _ => False)
  exact ⟨h1.only ho (by simp), h2.only ho (by simp), h3.only ho (by simp), h4.only ho (by simp), h5.trans (hb.mono h5.size), h6⟩
theorem T.drewN (h : T W w g sb fb B ss Al capl live Ad capd dead ms) (k : Nat) : T W (w.drewN k) g sb fb B ss Al capl live Ad capd dead ms := h.below (((Only.refl (fun _ => False) w).drewN k).toBelow (Nat.le_refl _) (by simp))
theorem T.alloc (h : T W w g sb fb B ss Al capl live Ad capd dead ms) (o : Obj) : T W (w.alloc o) g sb fb B ss Al capl live Ad capd dead ms := h.below ((Below.refl _ _).alloc (Nat.le_refl _) _)
theorem T.arena (h : T W w g sb fb B ss Al capl live Ad capd dead ms) (hA : ArenaAt w' g sb fb ss' false) (ho : Only (afoot g sb fb) w w') : T W w' g sb fb B ss' Al capl live Ad capd dead ms := by
  obtain ⟨h1, h2, h3, h4, h5, h6, h7, h8, h9, h10⟩ := h
  refine ⟨hA, h2.only ho (fun x hx => ?_), h3.only ho (fun x hx => ?_), h4.only ho (fun hx => ?_), h5.trans (ho.toBelow h5.size (fun x hx hy => by have := h6 x hy; omega)), h6, h7, h8, h9, h10⟩
  · obtain ⟨cs, hc⟩ := h2.blk hx
    exact apart_ax h1 hc (.inl rfl)
  · obtain ⟨cs, hc⟩ := row_blk h3 hx
    exact apart_ax h1 hc (.inl rfl)
  · obtain ⟨t, cs, hb, _⟩ := arena_blk h1 hx
    exact met_ne h4 hb rfl
theorem T.liv (h : T W w g sb fb B ss Al capl live Ad capd dead ms) (hL : Lst w' Al' capl' live') (ho : Only (In Al) w w') (hA' : ∀ x, In Al' x → In Al x ∨ w.heap.size ≤ x) : T W w' g sb fb B ss Al' capl' live' Ad capd dead ms := by
  obtain ⟨h1, h2, h3, h4, h5, h6, h7, h8, h9, h10⟩ := h
  refine ⟨h1.only ho (fun x hx hy => ?_), hL, h3.only ho (fun x hx hy => h10 x hy hx), h4.only ho (fun hx => ?_), h5.trans (ho.toBelow h5.size (fun x hx hy => by have := h7 x hy; omega)), h6, fun x hx => ?_, h8, h9, fun x hx hy => ?_⟩
  · obtain ⟨cs, hc⟩ := h2.blk hy
    exact apart_ax h1 hc (.inl rfl) hx
  · obtain ⟨cs, hc⟩ := h2.blk hx
    exact met_ne h4 hc rfl
  · rcases hA' x hx with q | q
    · exact h7 x q
    · exact Nat.le_trans h5.size q
  · rcases hA' x hx with q | q
    · exact h10 x q hy
    · have := h3.lt hy
      omega
theorem T.ded (h : T W w g sb fb B ss Al capl live Ad capd dead ms) (hL : Hnds w' Ad' capd' dead') (ho : Only (In Ad) w w') (hA' : ∀ x, In Ad' x → In Ad x ∨ w.heap.size ≤ x) : T W w' g sb fb B ss Al capl live Ad' capd' dead' ms := by
  obtain ⟨h1, h2, h3, h4, h5, h6, h7, h8, h9, h10⟩ := h
  refine ⟨h1.only ho (fun x hx hy => ?_), h2.only ho (fun x hx hy => h10 x hx hy), hL, h4.only ho (fun hx => ?_), h5.trans (ho.toBelow h5.size (fun x hx hy => by have := h8 x hy; omega)), h6, h7, fun x hx => ?_, h9, fun x hx hy => ?_⟩
  · obtain ⟨cs, hc⟩ := row_blk h3 hy
    exact apart_ax h1 hc (.inl rfl) hx
  · obtain ⟨cs, hc⟩ := row_blk h3 hx
    exact met_ne h4 hc rfl
  · rcases hA' x hx with q | q
    · exact h8 x q
    · exact Nat.le_trans h5.size q
  · rcases hA' x hy with q | q
    · exact h10 x hx q
    · obtain ⟨cs, hc⟩ := h2.blk hx
      have := hc.lt
      omega
theorem T.met (h : T W w g sb fb B ss Al capl live Ad capd dead ms) (hM : Met w' B ms') (ho : Only (· = B) w w') : T W w' g sb fb B ss Al capl live Ad capd dead ms' := by
  obtain ⟨h1, h2, h3, h4, h5, h6, h7, h8, h9, h10⟩ := h
  refine ⟨h1.only ho (fun x hx e => ?_), h2.only ho (fun x hx e => ?_), h3.only ho (fun x hx e => ?_), hM, h5.trans (ho.toBelow h5.size (fun x hx e => by omega)), h6, h7, h8, h9, h10⟩
  · obtain ⟨t, cs, hb, _⟩ := arena_blk h1 hx
    exact met_ne h4 hb e
  · obtain ⟨cs, hb⟩ := h2.blk hx
    exact met_ne h4 hb e
  · obtain ⟨cs, hb⟩ := row_blk h3 hx
    exact met_ne h4 hb e
end

/-- What holds ahead of each act. -/
def SInv (W w : World) (g sb fb n B : Nat) (v7 v8 : Value) (k : Nat) : Prop := ∃ (Al : Option Addr) (capl : Nat) (live : List Nat) (Ad : Option Addr) (capd : Nat) (dead : List Nat) (ss : List Sl) (ms : List Nat),
  v7 = .slice Al live.length capl ∧ v8 = .slice Ad dead.length capd ∧ T W w g sb fb B ss Al capl live Ad capd dead ms ∧ Logic ss live dead ms ∧ Gens ss k ∧ live.length ≤ k ∧ dead.length ≤ k ∧ ms.length ≤ k ∧ ss.length = n
theorem old_le {ss : List Sl} {x k : Nat} (h : Old ss x) (hg : Gens ss k) (hk : k ≤ 1000000) (hl : ss.length ≤ 1024) : x ≤ 18446744073709551615 := by
  rcases h with ⟨p, q, hp, hx, hq⟩ | ⟨p, h1, h2, h3⟩
  · have := hg p; omega
  · have := hg p; omega
/-- What was handed in: where each bool lies. -/
def BoolsAt (w : World) (A : Option Addr) (len : Nat) : Prop := ∀ i, i < len → ∃ (b o : Nat) (x : Bool), A = some ⟨b, o, none⟩ ∧ b < w.heap.size ∧ w.cell? ⟨b, o + i, none⟩ = some (.bool x)
theorem bools_of {H : Type} {enc : TypeId × Value → H} {w : World} {base : Nat} {spare : Nat → Bool} {held : Bool} {r : Reach} {b0 : Nat} {v : Value} {d : DataW H} {p : List MemPlace}
    (hv : Value.okWide Try.prog w r b0 50 v) (h : DataW.Trod enc Try.prog w base spare held 50 v d p) :
    ∃ (A : Option Addr) (len cap : Nat), v = .slice A len cap ∧ len ≤ maxLen ∧ BoolsAt w A len := by
  obtain ⟨A, len, cap, rfl, hl, hrow⟩ := rows_raw (C := 1) Try.underlying50 (by kernel_rfl) (by decide) hv h
  refine ⟨A, len, cap, rfl, hl, fun i hi => ?_⟩
  obtain ⟨b, o, cs, rfl, hb, hcl, hat, n, y, ht⟩ := hrow i hi
  obtain ⟨x, rfl, _⟩ := DataW.trod_bool Try.underlying4 ht
  exact ⟨b, o, x, rfl, hb, by simpa using hat 0 (by omega)⟩
/-- Whether an act takes. -/
def byIn (x : Bool) (m : Nat) : Bool := x || decide (m = 0)
theorem byIn_no {x : Bool} {m : Nat} (h : byIn x m = false) : 0 < m := by
  cases x
  · simp [byIn] at h; omega
  · simp [byIn] at h
def kn : Nd := ⟨⟨#[107]⟩, ⟨#[]⟩, 0, 0⟩
end Go.Proofs.Ytihgfjamnmbppaa.LawFour
