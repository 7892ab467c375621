/- Walks and plain mathematics, put together in their order. -/
import Derived.Test.YtmapijbfnakdiaaGreatZipE
import Derived.Test.YtmapijbfnakdiaaGreatMixB
import Derived.Test.YtmapijbfnakdiaaGreatQsbrD
import Derived.Test.YtmapijbfnakdiaaGreatFinish
import Derived.Test.YtmapijbfnakdiaaGreatLm
import Derived.Test.YtmapijbfnakdiaaGreatFrm
import Derived.Laws.EntriesVeiled
import Derived.Maps.Own
import Derived.Maps.OwnOps
import Derived.Maps.OwnSet
import Derived.Maps.Views
import Derived.OrdersHeld
import Derived.StillTail
import Derived.Deep.RegionHeld3
import Derived.Test.YtmapijbfnakdiaaGreatRowKit
import Derived.StillTailTactics
/- Whoever parts buckets, beside two who get keys: what each kind of step leaves (plain). -/
namespace Go.Proofs.YtmapijbfnakdiaaGreat.Zp
open Go Hm Ar Mm Wk Pc Me Mq Pu Pn Gt Qs Mx

/-- A memory whose buckets are parted, of three workers and few pairs. -/
def ZD (l : List Pr) (Z : Zs) (L : Lm) : Prop := Z.Ok L l ∧ Z.few ≤ 35 ∧ 3 ≤ L.k
/-- How readers stand then. -/
def Beside (l : List Pr) (Z : Zs) (L : Lm) (old : Nat → Int → Nat → Prop) (Z' : Zs) (L' : Lm) (old' : Nat → Int → Nat → Prop) : Prop :=
  ∀ (R : Rn) (k : Nat), R.w = 1 ∨ R.w = 2 → RnOk Z.wy L l old R k → ∃ k', k' ≤ k + 0 ∧ RnOk Z'.wy L' l old' R k'
section
variable {l : List Pr} {Z : Zs} {L : Lm} {old old' : Nat → Int → Nat → Prop}
theorem ZD.ways (h : ZD l Z L) : Z.wy.Ok L l := h.1.ways
theorem ZD.few (h : ZD l Z L) : Z.wy.few ≤ 35 := h.2.1
theorem ZD.ctr (h : ZD l Z L) (w : Nat) (p : Int) (hw : w = 1 ∨ w = 2) (h0 : 0 ≤ p) (h1 : p ≤ 18446744073709551615) : ZD l Z { L with xs := L.xs.set (2 + w) p } :=
  ⟨h.1.counter (by have := h.2.2; rcases hw with rfl | rfl <;> omega) ⟨h0, h1⟩, h.2⟩
/-- Only who counts as one who came in long ago. -/
theorem Beside.olds (h : ZD l Z L) (ho : ∀ w p e, old w p e → old' w p e) : Beside l Z L old Z L old' := fun R k _ hR =>
  ⟨k, Nat.le_refl _, hR.mono h.ways (fun p e => ho _ p e)⟩
theorem Beside.trans {Z' Z'' : Zs} {L' L'' : Lm} {old'' : Nat → Int → Nat → Prop} (h : Beside l Z L old Z' L' old') (h' : Beside l Z' L' old' Z'' L'' old'') : Beside l Z L old Z'' L'' old'' := fun R k hw hR => by
  obtain ⟨k', h1, h2⟩ := h R k hw hR
  obtain ⟨k'', h3, h4⟩ := h' R k' hw h2
  exact ⟨k'', by omega, h4⟩
/-- Cells beyond the ways and the counters, tables, locks, what waits. -/
theorem beside_cells (h : ZD l Z L) {xs' hs' : List Int} {ds' : List (Nat × Nat)} {ws' : List Nat} (h1 : ∀ i, 3 ≤ i → i < Z.B + Z.n → Cl.nth xs' i = Cl.nth L.xs i) (h2 : Z.pub = true → ∀ b, b < 2 * Z.n → Cl.nth xs' (Z.B2 + b) = Cl.nth L.xs (Z.B2 + b)) (hl : L.xs.length ≤ xs'.length)
    (hxb : ∀ x ∈ xs', 0 ≤ x ∧ x ≤ 18446744073709551615) (hnow : Me.now xs' ds' = Me.now L.xs L.ds) (htb : ∀ i, (tab ds' i).1 ≤ 65536 ∧ (tab ds' i).2 ≤ 4000000) (h0 : Cl.nth L.xs 0 ≤ Cl.nth xs' 0) :
    ZD l Z { L with xs := xs', ds := ds', hs := hs', ws := ws' } ∧ Beside l Z L old Z { L with xs := xs', ds := ds', hs := hs', ws := ws' } old := by
  have hkB := h.1.kB
  have hk := h.2.2
  have hp1 := h.1.p1
  refine ⟨⟨h.1.cells (fun i q1 q2 => h1 i (by omega) q2) h2 hl hxb hnow htb (by omega), h.2⟩, fun R k hw hR => ⟨k, Nat.le_refl _, hR.moved ?_ h0 rfl⟩⟩
  show Cl.nth xs' (2 + R.w) = _
  exact h1 _ (by omega) (by omega)
/-- The greater table counts. -/
theorem beside_publish (h : ZD l Z L) (hp : Z.pub = false) {t : Nat} (ht : t ≤ 1000000) (hnow : Me.now (L.xs.set 1 (t : Int)) L.ds = (2 * Z.n, Z.B2)) (h2 : Z.B2 + 2 * Z.n ≤ L.xs.length) (hnew : ∀ b, b < 2 * Z.n → Cl.nth L.xs (Z.B2 + b) = ((Z.head b : Nat) : Int)) :
    ZD l { Z with pub := true } { L with xs := L.xs.set 1 (t : Int) } ∧ Beside l Z L old { Z with pub := true } { L with xs := L.xs.set 1 (t : Int) } old := by
  have hkB := h.1.kB
  have hk := h.2.2
  have hxl := h.1.xl
  have hn : ∀ i, i ≠ 1 → Cl.nth (L.xs.set 1 (t : Int)) i = Cl.nth L.xs i := fun i hi => by rw [nth_set _ _ _ (by omega), if_neg hi]
  refine ⟨⟨h.1.publish hp hn (by simp) (fun x hx => ?_) hnow h2 hnew, h.2⟩, fun R k hw hR => ⟨k, Nat.le_refl _, ?_⟩⟩
  · rcases List.mem_or_eq_of_mem_set hx with q | rfl
    · exact h.1.xb x q
    · omega
  · exact hR.publish.moved (hn _ (by omega)) (by show _ ≤ Cl.nth (L.xs.set 1 (t : Int)) 0; rw [hn 0 (by omega)]; exact Int.le_refl _) rfl
/-- A wait's step. -/
theorem beside_wait {n : Nat} {W : Wt} (h : ZD l Z L) (hb : Cl.nth L.xs 0 ≤ 4611686018427387904) (hr : readyB L.xs L.hs W = true) (hp0 : W.at_ ≤ 1 → W.passed = 0) (h3 : W.at_ ≤ 3) (hw : 2 < n) (hn : (n : Int) ≤ L.k) :
    ZD l Z { L with xs := (wstep n L.xs L.hs W).1, hs := (wstep n L.xs L.hs W).2.1 } ∧ Beside l Z L (oldW W) Z { L with xs := (wstep n L.xs L.hs W).1, hs := (wstep n L.xs L.hs W).2.1 } (oldW (wstep n L.xs L.hs W).2.2) :=
  ⟨⟨h.1.waits hb, h.2⟩, fun R k hw' hR => ⟨k, Nat.le_refl _, hR.waits h.ways hb hr hp0 h3 (by omega) hn⟩⟩
/-- A link: ahead of it nobody who came in ahead of what was last turned in this chain may be there. -/
theorem beside_link {e : Nat} {r0 d t : List Mq.Hp} {a : Mq.Hp} (h : ZD l Z L) (hp : Z.pub = true) (he : e < Z.n) (hr : Z.r e = r0 ++ [a]) (hd : Z.rest e = d ++ t) (hd0 : d ≠ []) (hds' : ∀ b ∈ d, sd Z.n b.2.1 = !Z.s e) (ht : ∀ b t', t = b :: t' → sd Z.n b.2.1 = Z.s e)
    (hold : ∀ w p, ¬ old w p e) (hold' : ∀ w p i, old' w p i ↔ i = e ∨ old w p i) :
    ZD l (Z.linked e d t) { L with ss := lnk L.ss a.1 (hdH t) } ∧ Beside l Z L old (Z.linked e d t) { L with ss := lnk L.ss a.1 (hdH t) } old' := by
  have hz := h.1.zip e he
  have hbt : hdH t ≤ 18446744073709551615 := by
    cases t with
    | nil => simp [hdH]
    | cons b t' =>
      have h1 := hz.oth
      rw [hd] at h1
      obtain ⟨j, _, hj, _⟩ := h1.at b (by simp)
      have hx := hz.own
      -- the handle is some node's Next
      obtain ⟨d1, g, hdl⟩ : ∃ d1 g, d = d1 ++ [g] := ⟨d.dropLast, d.getLast hd0, (List.dropLast_concat_getLast hd0).symm⟩
      obtain ⟨gx, gp⟩ := g
      have h2 : Cx L.ss gx ((gx, gp) :: b :: t') := by
        have h3 : Z.v e ++ (d ++ b :: t') = (Z.v e ++ d1) ++ ((gx, gp) :: b :: t') := by rw [hdl]; simp
        rw [h3] at h1
        exact Cx.back _ h1
      obtain ⟨k, z, q1, q2, q3⟩ := h2.tail
      have hz2 := (h.1.nexts k).2
      rw [q2] at hz2
      unfold ndp at hz2
      simp only at hz2
      have := Cx.hd q3
      omega
  refine ⟨⟨h.1.linked hp he hr hd hd0 hds' ht hbt, h.2⟩, fun R k _ hR => ?_⟩
  obtain ⟨k', h1, h2⟩ := RnOk.linked h.1 he hr hd hds' (fun p => hold _ p) (fun p => (hold' _ p e).2 (.inl rfl)) (fun p i _ q => (hold' _ p i).2 (.inr q)) hR
  exact ⟨k', h1, h2⟩
end
end Go.Proofs.YtmapijbfnakdiaaGreat.Zp
/- Plain: what is kept of a chain that is gone along to be parted; the links that part it. -/
namespace Go.Proofs.YtmapijbfnakdiaaGreat.Gw
open Go Hm Ar Mm Wk Pc Me Mq Pu Pn Gt Qs Zp

/-- One of two, by a half (0 or 1). -/
def sel (p : Nat × Nat) (h : Nat) : Nat := if h = 0 then p.1 else p.2
def put (p : Nat × Nat) (h x : Nat) : Nat × Nat := if h = 0 then (x, p.2) else (p.1, x)
theorem sel_put (p : Nat × Nat) (h x i : Nat) (hh : h ≤ 1) (hi : i ≤ 1) : sel (put p h x) i = if i = h then x else sel p i := by
  unfold sel put
  have : h = 0 ∨ h = 1 := by omega
  have : i = 0 ∨ i = 1 := by omega
  rcases ‹h = 0 ∨ h = 1› with rfl | rfl <;> rcases ‹i = 0 ∨ i = 1› with rfl | rfl <;> simp
/-- What is kept of a chain: of each half the first and the last one; the half of the last one; those that were met; the links. -/
structure Ch where
  fi : Nat × Nat
  la : Nat × Nat
  half : Nat
  met : List Nat
  lk : List (Nat × Nat)
def Ch.new : Ch := ⟨(0, 0), (0, 0), 0, [], []⟩
/-- One more. -/
def Ch.add (C : Ch) (x h : Nat) : Ch :=
  ⟨if sel C.fi h = 0 then put C.fi h x else C.fi, put C.la h x, h, x :: C.met, if sel C.fi h = 0 then C.lk else if h ≠ C.half then C.lk ++ [(sel C.la h, x)] else C.lk⟩
/-- The links, of a chain that ends. -/
def Ch.over (C : Ch) : List (Nat × Nat) := if sel C.la (1 - C.half) ≠ 0 then C.lk ++ [(sel C.la (1 - C.half), 0)] else C.lk
/-- Halves as sides. -/
def hf (b : Bool) : Nat := if b = true then 1 else 0
theorem hf_le (b : Bool) : hf b ≤ 1 := by cases b <;> simp [hf]
theorem hf_not (b : Bool) : 1 - hf b = hf (!b) := by cases b <;> rfl
theorem hf_inj {a b : Bool} : hf a = hf b ↔ a = b := by cases a <;> cases b <;> simp [hf]
/-- A chain gone along up to there. -/
def chn (σ : ByteArray → Bool) (q : List Mq.Hp) : Ch := q.foldl (fun C a => C.add a.1 (hf (σ a.2.1))) .new
theorem chn_snoc (σ : ByteArray → Bool) (q : List Mq.Hp) (a : Mq.Hp) : chn σ (q ++ [a]) = (chn σ q).add a.1 (hf (σ a.2.1)) := by
  unfold chn
  rw [List.foldl_append]
  rfl
/-- The links that part a chain of which r, of one side, and the rest, that begins with the other one, are left. -/
inductive Lnk (σ : ByteArray → Bool) : List Mq.Hp → List Mq.Hp → List (Nat × Nat) → Prop
  | nil {r : List Mq.Hp} : Lnk σ r [] []
  | cons {r0 d t : List Mq.Hp} {a : Mq.Hp} {s : Bool} {ls : List (Nat × Nat)} : d ≠ [] → (∀ b ∈ d, σ b.2.1 = !s) → (∀ b t', t = b :: t' → σ b.2.1 = s) → Lnk σ d t ls → Lnk σ (r0 ++ [a]) (d ++ t) ((a.1, hdH t) :: ls)
/-- What a chain's state says of what was gone along. -/
structure Gone (σ : ByteArray → Bool) (p : List Mq.Hp) (C : Ch) : Prop where
  fi : ∀ b, sel C.fi (hf b) = hdH (p.filter fun e => σ e.2.1 == b)
  met : C.met = (hds p).reverse
theorem hdH_append (p q : List Mq.Hp) : hdH (p ++ q) = if p = [] then hdH q else hdH p := by
  cases p <;> simp [hdH]
theorem hdH_pos {p : List Mq.Hp} (hp : ∀ e ∈ p, e.1 ≠ 0) : hdH p = 0 ↔ p = [] := by
  cases p with
  | nil => simp [hdH]
  | cons e t => simp [hdH, hp e (by simp)]
theorem gone_chn (σ : ByteArray → Bool) : ∀ (n : Nat) (p : List Mq.Hp), p.length = n → (∀ e ∈ p, e.1 ≠ 0) → Gone σ p (chn σ p) := by
  intro n
  induction n with
  | zero =>
    intro p hl _
    have : p = [] := List.eq_nil_of_length_eq_zero hl
    subst this
    exact ⟨fun b => by cases b <;> rfl, rfl⟩
  | succ n ih =>
    intro p hl hp
    obtain ⟨q, a, rfl⟩ : ∃ q a, p = q ++ [a] := ⟨p.dropLast, p.getLast (by rintro rfl; simp at hl), (List.dropLast_concat_getLast _).symm⟩
    have hq := ih q (by simp at hl; omega) (fun e he => hp e (by simp [he]))
    rw [chn_snoc]
    generalize chn σ q = C at *
    have ha := hp a (by simp)
    refine ⟨fun b => ?_, ?_⟩
    · have h1 := hq.fi b
      have h2 := hq.fi (σ a.2.1)
      have hz := hdH_pos (p := q.filter fun e => σ e.2.1 == b) (fun e he => hp e (by have := (List.mem_filter.1 he).1; simp [this]))
      have hz2 := hdH_pos (p := q.filter fun e => σ e.2.1 == σ a.2.1) (fun e he => hp e (by have := (List.mem_filter.1 he).1; simp [this]))
      rw [List.filter_append, hdH_append]
      show sel (if sel C.fi (hf (σ a.2.1)) = 0 then put C.fi (hf (σ a.2.1)) a.1 else C.fi) (hf b) = _
      by_cases hb : b = σ a.2.1
      · subst hb
        by_cases h0 : sel C.fi (hf (σ a.2.1)) = 0
        · rw [if_pos h0, sel_put _ _ _ _ (hf_le _) (hf_le _), if_pos rfl, if_pos (hz2.1 (by rw [← h2]; exact h0))]
          simp [hdH]
        · rw [if_neg h0, if_neg (fun e => h0 (by rw [h2]; exact hz2.2 e))]
          exact h1
      · have e1 : sel (if sel C.fi (hf (σ a.2.1)) = 0 then put C.fi (hf (σ a.2.1)) a.1 else C.fi) (hf b) = sel C.fi (hf b) := by
          split
          · rw [sel_put _ _ _ _ (hf_le _) (hf_le _), if_neg (fun e => hb (hf_inj.1 e))]
          · rfl
        rw [e1, h1]
        have e2 : [a].filter (fun e => σ e.2.1 == b) = [] := by
          rw [List.filter_cons, if_neg (by simpa using fun e => hb e.symm)]; rfl
        rw [e2]
        split
        · rename_i q; rw [q]
        · rfl
    · show a.1 :: C.met = _
      rw [hq.met]
      simp [hds]
/-- The links that are still to come. -/
def more (σ : ByteArray → Bool) (C : Ch) (q : List Mq.Hp) (l : List (Nat × Nat)) : Prop := (q.foldl (fun C a => C.add a.1 (hf (σ a.2.1))) C).over = C.lk ++ l
/-- There was one of each side: a is the last of the one, and d, of the other, begins there. -/
theorem more_two (σ : ByteArray → Bool) : ∀ (q : List Mq.Hp) (C : Ch) (r0 d : List Mq.Hp) (a : Mq.Hp) (s : Bool), C.half = hf s → a.1 ≠ 0 → sel C.la (hf (!s)) = a.1 → sel C.fi (hf s) ≠ 0 → sel C.fi (hf (!s)) ≠ 0 → (∃ d0 z, d = d0 ++ [z] ∧ sel C.la (hf s) = z.1 ∧ z.1 ≠ 0) →
    (∀ b ∈ d, σ b.2.1 = s) → (∀ e ∈ q, e.1 ≠ 0) → ∃ l, more σ C q l ∧ Lnk σ (r0 ++ [a]) (d ++ q) l := by
  intro q
  induction q with
  | nil =>
    intro C r0 d a s hh ha hl hf1 hf2 hd hds' hq
    obtain ⟨d0, z, rfl, hz, hz0⟩ := hd
    refine ⟨[(a.1, 0)], ?_, ?_⟩
    · show C.over = _
      unfold Ch.over
      rw [hh, hf_not, hl, if_pos ha]
    · have := Lnk.cons (σ := σ) (r0 := r0) (d := d0 ++ [z]) (t := []) (a := a) (s := !s) (ls := []) (by simp) (by simpa using hds') (by simp) .nil
      simpa [hdH] using this
  | cons e q ih =>
    intro C r0 d a s hh ha hl hf1 hf2 hd hds' hq
    obtain ⟨d0, z, hdz, hz, hz0⟩ := hd
    have he := hq e (by simp)
    by_cases hs : σ e.2.1 = s
    · have hadd : (C.add e.1 (hf (σ e.2.1))) = ⟨C.fi, put C.la (hf s) e.1, hf s, e.1 :: C.met, C.lk⟩ := by
        unfold Ch.add
        rw [hs, if_neg hf1, if_neg hf1, if_neg (by rw [hh]; simp)]
      have h1 : s ≠ !s := by cases s <;> simp
      obtain ⟨l, h2, h3⟩ := ih ⟨C.fi, put C.la (hf s) e.1, hf s, e.1 :: C.met, C.lk⟩ r0 (d ++ [e]) a s rfl ha
        (by rw [sel_put _ _ _ _ (hf_le _) (hf_le _), if_neg (fun q => h1 (hf_inj.1 q).symm)]; exact hl) hf1 hf2 ⟨d, e, rfl, by rw [sel_put _ _ _ _ (hf_le _) (hf_le _), if_pos rfl], he⟩
        (fun b hb => by
          rcases List.mem_append.1 hb with q | q
          · exact hds' b q
          · have : b = e := by simpa using q
            rw [this]; exact hs) (fun b hb => hq b (List.mem_cons_of_mem _ hb))
      refine ⟨l, ?_, by simpa using h3⟩
      unfold more at h2 ⊢
      rw [List.foldl_cons, hadd]
      exact h2
    · have hs' : σ e.2.1 = !s := by revert hs; cases σ e.2.1 <;> cases s <;> simp
      have h1 : s ≠ !s := by cases s <;> simp
      have hadd : (C.add e.1 (hf (σ e.2.1))) = ⟨C.fi, put C.la (hf (!s)) e.1, hf (!s), e.1 :: C.met, C.lk ++ [(a.1, e.1)]⟩ := by
        unfold Ch.add
        rw [hs', if_neg hf2, if_neg hf2, if_pos (by rw [hh]; exact fun q => h1 (hf_inj.1 q).symm), hl]
      obtain ⟨l, h2, h3⟩ := ih ⟨C.fi, put C.la (hf (!s)) e.1, hf (!s), e.1 :: C.met, C.lk ++ [(a.1, e.1)]⟩ d0 [e] z (!s) rfl hz0
        (by rw [Bool.not_not, sel_put _ _ _ _ (hf_le _) (hf_le _), if_neg (fun q => h1 (hf_inj.1 q))]; exact hz) hf2 (by rw [Bool.not_not]; exact hf1) ⟨[], e, rfl, by rw [sel_put _ _ _ _ (hf_le _) (hf_le _), if_pos rfl], he⟩
        (fun b hb => by have : b = e := by simpa using hb
                        rw [this]; exact hs') (fun b hb => hq b (List.mem_cons_of_mem _ hb))
      refine ⟨(a.1, e.1) :: l, ?_, ?_⟩
      · unfold more at h2 ⊢
        rw [List.foldl_cons, hadd, h2]
        simp
      · rw [← hdz] at h3
        exact Lnk.cons (σ := σ) (r0 := r0) (d := d) (t := e :: q) (a := a) (s := !s) (by rw [hdz]; simp) (by rw [Bool.not_not]; exact hds') (fun b t' q => by
          injection q with q1 _
          rw [← q1]; exact hs') h3
/-- There was one side alone. -/
theorem more_one (σ : ByteArray → Bool) : ∀ (q : List Mq.Hp) (C : Ch) (r0 : List Mq.Hp) (z : Mq.Hp) (s : Bool), C.half = hf s → sel C.la (hf (!s)) = 0 → sel C.fi (hf s) ≠ 0 → sel C.fi (hf (!s)) = 0 → sel C.la (hf s) = z.1 → z.1 ≠ 0 →
    (∀ b ∈ r0 ++ [z], σ b.2.1 = s) → (∀ e ∈ q, e.1 ≠ 0) → ∀ r rest, (r0 ++ [z]) ++ q = r ++ rest → (∀ b ∈ r, σ b.2.1 = s) → (∀ b t', rest = b :: t' → σ b.2.1 = !s) → ∃ l, more σ C q l ∧ Lnk σ r rest l := by
  intro q
  induction q with
  | nil =>
    intro C r0 z s hh hl hf1 hf2 hz hz0 hr hq r rest he hr1 hr2
    have : rest = [] := by
      cases rest with
      | nil => rfl
      | cons b t =>
        exfalso
        have h1 := hr2 b t rfl
        have h2 := hr b (by rw [List.append_nil] at he; rw [he]; simp)
        rw [h2] at h1
        revert h1
        cases s <;> simp
    subst this
    refine ⟨[], ?_, .nil⟩
    show C.over = _
    unfold Ch.over
    rw [hh, hf_not, hl, if_neg (by simp), List.append_nil]
  | cons e q ih =>
    intro C r0 z s hh hl hf1 hf2 hz hz0 hr hq r rest hx hr1 hr2
    have he := hq e (by simp)
    have h1 : s ≠ !s := by cases s <;> simp
    by_cases hs : σ e.2.1 = s
    · have hadd : (C.add e.1 (hf (σ e.2.1))) = ⟨C.fi, put C.la (hf s) e.1, hf s, e.1 :: C.met, C.lk⟩ := by
        unfold Ch.add
        rw [hs, if_neg hf1, if_neg hf1, if_neg (by rw [hh]; simp)]
      obtain ⟨l, h2, h3⟩ := ih ⟨C.fi, put C.la (hf s) e.1, hf s, e.1 :: C.met, C.lk⟩ (r0 ++ [z]) e s rfl
        (by rw [sel_put _ _ _ _ (hf_le _) (hf_le _), if_neg (fun q => h1 (hf_inj.1 q).symm)]; exact hl) hf1 hf2 (by rw [sel_put _ _ _ _ (hf_le _) (hf_le _), if_pos rfl]) he
        (fun b hb => by
          rcases List.mem_append.1 hb with q | q
          · exact hr b q
          · have : b = e := by simpa using q
            rw [this]; exact hs) (fun b hb => hq b (List.mem_cons_of_mem _ hb)) r rest (by simpa using hx) hr1 hr2
      refine ⟨l, ?_, h3⟩
      unfold more at h2 ⊢
      rw [List.foldl_cons, hadd]
      exact h2
    · have hs' : σ e.2.1 = !s := by revert hs; cases σ e.2.1 <;> cases s <;> simp
      -- r is what there was
      have hrr : r = r0 ++ [z] ∧ rest = e :: q := by
        rcases List.append_eq_append_iff.1 hx with ⟨c, p1, p2⟩ | ⟨c, p1, p2⟩
        · cases c with
          | nil => exact ⟨by simpa using p1, by simpa using p2.symm⟩
          | cons b c =>
            exfalso
            injection p2 with p2 _
            have := hr1 b (by rw [p1]; simp)
            rw [← p2, hs'] at this
            exact h1 this.symm
        · cases c with
          | nil => exact ⟨by simpa using p1.symm, by simpa using p2⟩
          | cons b c =>
            exfalso
            have h2 := hr2 b (c ++ e :: q) (by rw [p2]; simp)
            have h3 := hr b (by rw [p1]; simp)
            rw [h3] at h2
            exact h1 h2
      obtain ⟨rfl, rfl⟩ := hrr
      have hadd : (C.add e.1 (hf (σ e.2.1))) = ⟨put C.fi (hf (!s)) e.1, put C.la (hf (!s)) e.1, hf (!s), e.1 :: C.met, C.lk⟩ := by
        unfold Ch.add
        rw [hs', if_pos hf2, if_pos hf2]
      obtain ⟨l, h2, h3⟩ := more_two σ q ⟨put C.fi (hf (!s)) e.1, put C.la (hf (!s)) e.1, hf (!s), e.1 :: C.met, C.lk⟩ r0 [e] z (!s) rfl hz0
        (by rw [Bool.not_not, sel_put _ _ _ _ (hf_le _) (hf_le _), if_neg (fun q => h1 (hf_inj.1 q))]; exact hz) (by rw [sel_put _ _ _ _ (hf_le _) (hf_le _), if_pos rfl]; exact he)
        (by rw [Bool.not_not, sel_put _ _ _ _ (hf_le _) (hf_le _), if_neg (fun q => h1 (hf_inj.1 q))]; exact hf1) ⟨[], e, rfl, by rw [sel_put _ _ _ _ (hf_le _) (hf_le _), if_pos rfl], he⟩
        (fun b hb => by have : b = e := by simpa using hb
                        rw [this]; exact hs') (fun b hb => hq b (List.mem_cons_of_mem _ hb))
      refine ⟨l, ?_, h3⟩
      unfold more at h2 ⊢
      rw [List.foldl_cons, hadd]
      exact h2
/-- A chain whole: its links part it. -/
theorem lnk_whole (σ : ByteArray → Bool) {ss : List Sl} {All : List Mq.Hp} {s : Bool} {x y : Nat} {r rest : List Mq.Hp} (h : Zip ss σ All s x y [] r [] rest) (hA : All = r ++ rest) (h0 : ∀ e ∈ All, e.1 ≠ 0) : Lnk σ r rest (chn σ All).over := by
  cases hq : All with
  | nil =>
    have h1 := hA
    rw [hq] at h1
    have h2 := List.append_eq_nil_iff.1 h1.symm
    rw [h2.1, h2.2]
    exact .nil
  | cons e t =>
    have hrne : r ≠ [] := by
      intro e0
      have h1 : rest = [] := by
        cases rest with
        | nil => rfl
        | cons b t' => exact absurd e0 (h.ne (by simp))
      rw [e0, h1, hq] at hA
      simp at hA
    obtain ⟨b, r', rfl⟩ : ∃ b r', r = b :: r' := by
      cases r with
      | nil => exact absurd rfl hrne
      | cons b r' => exact ⟨b, r', rfl⟩
    rw [hq, List.cons_append] at hA
    injection hA with hb ht
    subst hb
    have hs : σ e.2.1 = s := h.su e (by simp)
    have he : e.1 ≠ 0 := h0 e (by rw [hq]; simp)
    obtain ⟨l, h2, h3⟩ := more_one σ t ⟨put (0, 0) (hf s) e.1, put (0, 0) (hf s) e.1, hf s, [e.1], []⟩ [] e s rfl
      (by rw [sel_put _ _ _ _ (hf_le _) (hf_le _), if_neg (fun q => by have := hf_inj.1 q; revert this; cases s <;> simp)]; unfold sel; split <;> rfl)
      (by rw [sel_put _ _ _ _ (hf_le _) (hf_le _), if_pos rfl]; exact he)
      (by rw [sel_put _ _ _ _ (hf_le _) (hf_le _), if_neg (fun q => by have := hf_inj.1 q; revert this; cases s <;> simp)]; unfold sel; split <;> rfl)
      (by rw [sel_put _ _ _ _ (hf_le _) (hf_le _), if_pos rfl]) he (by simpa using hs) (fun b hb => h0 b (by rw [hq]; exact List.mem_cons_of_mem _ hb)) (e :: r') rest (by simpa using ht) (by simpa using h.su) h.hd
    unfold more at h2
    have e1 : (chn σ (e :: t)).over = (t.foldl (fun (C : Ch) (a : Mq.Hp) => C.add a.1 (hf (σ a.2.1))) ⟨put (0, 0) (hf s) e.1, put (0, 0) (hf s) e.1, hf s, [e.1], []⟩).over := by
      unfold chn
      rw [List.foldl_cons, hs]
      have : Ch.new.add e.1 (hf s) = ⟨put (0, 0) (hf s) e.1, put (0, 0) (hf s) e.1, hf s, [e.1], []⟩ := by
        have hz : sel Ch.new.fi (hf s) = 0 := by unfold sel Ch.new; split <;> rfl
        unfold Ch.add
        rw [if_pos hz, if_pos hz]
        rfl
      rw [this]
    rw [e1, h2]
    simpa using h3
/-- There are no more links than nodes. -/
theorem Lnk.le {σ : ByteArray → Bool} {r rest : List Mq.Hp} {l : List (Nat × Nat)} (h : Lnk σ r rest l) : l.length ≤ rest.length := by
  induction h with
  | nil => simp
  | @cons r0 d t a s ls h1 _ _ _ ih =>
    have : 1 ≤ d.length := List.length_pos_iff.2 h1
    simp only [List.length_cons, List.length_append]
    omega
theorem Lnk.none {σ : ByteArray → Bool} {r rest : List Mq.Hp} (h : Lnk σ r rest []) : rest = [] := by cases h; rfl
end Go.Proofs.YtmapijbfnakdiaaGreat.Gw
/- Layer 6 (qsbr): frames behind mem.Finish. -/
namespace Go.Proofs.YtmapijbfnakdiaaGreat.Qs
open Go Go.RowKit Hp K Fl Rw Hm Ar Mm Me
set_option maxRecDepth 100000

theorem mrW (a : Addr) (w : World) (f : Nat) : (method (f + 1) 76 (.pointer (some a)) "Ready").run Tryz.prog w = .ok (115, .pointer (some a)) w := by kernel_rfl
theorem msW (a : Addr) (w : World) (f : Nat) : (method (f + 1) 76 (.pointer (some a)) "Step").run Tryz.prog w = .ok (119, .pointer (some a)) w := by kernel_rfl
theorem mrC (a : Addr) (w : World) (f : Nat) : (method (f + 1) 124 (.pointer (some a)) "Ready").run Tryz.prog w = .ok (156, .pointer (some a)) w := by kernel_rfl
theorem msC (a : Addr) (w : World) (f : Nat) : (method (f + 1) 124 (.pointer (some a)) "Step").run Tryz.prog w = .ok (71, .pointer (some a)) w := by kernel_rfl
theorem mrG (a : Addr) (w : World) (f : Nat) : (method (f + 1) 126 (.pointer (some a)) "Ready").run Tryz.prog w = .ok (157, .pointer (some a)) w := by kernel_rfl
theorem msG (a : Addr) (w : World) (f : Nat) : (method (f + 1) 126 (.pointer (some a)) "Step").run Tryz.prog w = .ok (99, .pointer (some a)) w := by kernel_rfl
theorem erW (args : Array Value) (w : World) : (callFunc 115 args).run Tryz.prog w = .ok (.enter 115 args) w := by kernel_rfl
theorem esW (args : Array Value) (w : World) : (callFunc 119 args).run Tryz.prog w = .ok (.enter 119 args) w := by kernel_rfl
theorem erC (args : Array Value) (w : World) : (callFunc 156 args).run Tryz.prog w = .ok (.enter 156 args) w := by kernel_rfl
theorem esC (args : Array Value) (w : World) : (callFunc 71 args).run Tryz.prog w = .ok (.enter 71 args) w := by kernel_rfl
theorem erG (args : Array Value) (w : World) : (callFunc 157 args).run Tryz.prog w = .ok (.enter 157 args) w := by kernel_rfl
theorem esG (args : Array Value) (w : World) : (callFunc 99 args).run Tryz.prog w = .ok (.enter 99 args) w := by kernel_rfl

section
variable {w : World} {M : Mo} {f : Nat} {W : Wt} {C : Cm}
theorem only_drewN {S : Nat → Prop} {a w : World} (h : Only S a w) (n : Nat) : Only S a (w.drewN n) := h.drewN n
def rdW (s : List Int × List Int × Wt) : Bool := readyB s.1 s.2.1 s.2.2
def stW (n : Nat) (s : List Int × List Int × Wt) : List Int × List Int × Wt := wstep n s.1 s.2.1 s.2.2
def dnW (s : List Int × List Int × Wt) : Bool := decide (s.2.2.at_ = 3)
def InvW (w0 : World) (M : Mo) (f : Nat) (s : List Int × List Int × Wt) (w : World) : Prop := MemAt w { M with xs := s.1, hs := s.2.1 } ∧ WtAt w f s.2.2 ∧ Only (fun x => mfoot M x ∨ x = f) w0 w
theorem finish_wait {n : Nat} (hM : MemAt w M) (hf : WtAt w f W) (hn : M.k = n) (ok : Okw n M.xs M.hs W) (K : Nat) (hK : K ≤ 1000000) :
    Calls Tryz.prog 10 #[ptr M.m, .iface 76 (ptr f), .int .i64 K] w fun e w' => e = .returned (.tuple #[.int .i64 (fin rdW (stW n) dnW K (M.xs, M.hs, W)).1, .bool (fin rdW (stW n) dnW K (M.xs, M.hs, W)).2.1]) ∧
      InvW w M f (fin rdW (stW n) dnW K (M.xs, M.hs, W)).2.2 w' := by
  refine finish_gen 76 115 119 f (ptr M.m) (InvW w M f) (fun s => Okw n s.1 s.2.1 s.2.2) rdW (stW n) dnW (mrW _) (msW _) erW esW ?_ ?_ ?_ K hK (M.xs, M.hs, W) ok w ⟨hM, hf, Only.refl _ _⟩
  · rintro s w1 ⟨h1, h2, h3⟩ ok
    exact (ready_any h1 h2 ok.hl (fun q => by have := ok.passed; have := ok.xl; have := ok.n1; exact ⟨by show 2 + s.2.2.passed < s.1.length; omega, by omega⟩) (by have := ok.at_; omega)).mono fun e w' ⟨h, nq, q⟩ => by
      subst q
      exact ⟨h, h1.drewN nq, h2.only ((Only.refl (fun _ => False) w1).drewN nq) (by simp), h3.drewN nq⟩
  · rintro s w1 ⟨h1, h2, h3⟩ ok hr
    exact (wait_step (M := { M with xs := s.1, hs := s.2.1 }) h1 h2 hn ok hr).mono fun e w' h => ⟨h.1, h.2.1, h.2.2.1, h3.trans h.2.2.2⟩
  · intro s ok hr hd
    exact ok.step hr (by simpa [dnW] using hd)
/-- Coming in, at once. -/
def InvC (w0 : World) (M : Mo) (f : Nat) (s : List Int × Cm) (w : World) : Prop := MemAt w { M with xs := s.1 } ∧ CmAt w f s.2 ∧ Only (fun x => mfoot M x ∨ x = f) w0 w
def stC (s : List Int × Cm) : List Int × Cm := cstep s.1 s.2
theorem finish_coming (hM : MemAt w M) (hf : CmAt w f C) (ha : C.at_ ≤ 1) (hk : 2 + C.worker < M.xs.length) (hp : C.worker ≤ 1000) (hv : 0 ≤ C.period ∧ C.period ≤ 18446744073709551615) (K : Nat) (hK : K ≤ 1000000) :
    Calls Tryz.prog 10 #[ptr M.m, .iface 124 (ptr f), .int .i64 K] w fun e w' => e = .returned (.tuple #[.int .i64 (fin (fun _ => true) stC (fun s => decide (s.2.at_ = 1)) K (M.xs, C)).1, .bool (fin (fun _ => true) stC (fun s => decide (s.2.at_ = 1)) K (M.xs, C)).2.1]) ∧
      InvC w M f (fin (fun _ => true) stC (fun s => decide (s.2.at_ = 1)) K (M.xs, C)).2.2 w' := by
  refine finish_gen 124 156 71 f (ptr M.m) (InvC w M f) (fun s => s.2.at_ ≤ 1 ∧ s.2.worker = C.worker ∧ s.1.length = M.xs.length ∧ (0 ≤ s.2.period ∧ s.2.period ≤ 18446744073709551615) ∧ (∀ x ∈ s.1, 0 ≤ x ∧ x ≤ 18446744073709551615))
    (fun _ => true) stC (fun s => decide (s.2.at_ = 1)) (mrC _) (msC _) erC esC ?_ ?_ ?_ K hK (M.xs, C) ⟨ha, rfl, rfl, hv, hM.2.1.2.2.1⟩ w ⟨hM, hf, Only.refl _ _⟩
  · rintro s w1 ⟨h1, h2, h3⟩ ok
    exact (coming_ready _ w1).mono fun e w' ⟨h, q⟩ => by
      subst q
      exact ⟨h, h1, h2, h3⟩
  · rintro s w1 ⟨h1, h2, h3⟩ ⟨o1, o2, o3, o4, o5⟩ hr
    exact (coming_step (M := { M with xs := s.1 }) h1 h2 o1 (by show 2 + s.2.worker < s.1.length; omega) (by omega) o4).mono fun e w' h => ⟨h.1, h.2.1, h.2.2.1, h3.trans h.2.2.2⟩
  · rintro s ⟨o1, o2, o3, o4, o5⟩ hr hd
    have h0 : s.2.at_ = 0 := by
      have : ¬ s.2.at_ = 1 := by simpa using hd
      omega
    have e : stC s = (s.1, { s.2 with period := Cl.nth s.1 0, at_ := 1 }) := by unfold stC cstep; rw [if_pos h0]
    rw [e]
    exact ⟨by simp, o2, o3, Cl.getD_bd o5 0, o5⟩
theorem finish_going {k : Nat} (hM : MemAt w M) (hf : GgAt w f k 0) (hk : 2 + k < M.xs.length) (hp : k ≤ 1000) (K : Nat) (hK : K ≤ 1000000) (h1K : 1 ≤ K) :
    Calls Tryz.prog 10 #[ptr M.m, .iface 126 (ptr f), .int .i64 K] w fun e w' => e = .returned (.tuple #[.int .i64 1, .bool true]) ∧
      MemAt w' { M with xs := M.xs.set (2 + k) 0 } ∧ GgAt w' f k 1 ∧ Only (fun x => mfoot M x ∨ x = f) w w' := by
  have h := finish_gen 126 157 99 f (ptr M.m) (fun (s : Bool) w' => MemAt w' { M with xs := if s = true then M.xs.set (2 + k) 0 else M.xs } ∧ GgAt w' f k (if s = true then 1 else 0) ∧ Only (fun x => mfoot M x ∨ x = f) w w') (fun s => s = false)
    (fun _ => true) (fun _ => true) (fun _ => true) (mrG _) (msG _) erG esG (fun s w1 h _ => (going_ready _ w1).mono fun e w' ⟨h', q⟩ => by
      subst q
      exact ⟨h', h⟩) (fun s w1 h o _ => by
      subst o
      exact (going_step (M := M) h.1 h.2.1 hk hp).mono fun e w' h' => ⟨h'.1, h'.2.1, h'.2.2.1, h.2.2.trans h'.2.2.2⟩) (fun s _ _ h => by simp at h) K hK false rfl w ⟨hM, hf, Only.refl _ _⟩
  obtain ⟨j, rfl⟩ : ∃ j, K = j + 1 := ⟨K - 1, by omega⟩
  simpa [fin] using h
end
end Go.Proofs.YtmapijbfnakdiaaGreat.Qs
/- Walks over layer 13 (grow): a grow; how it is laid; its steps as plain data. -/
namespace Go.Proofs.YtmapijbfnakdiaaGreat.Gw
open Go Go.RowKit Hp K Fl Rw Hm Ar Mm Me Qs Wk Pn
set_option maxRecDepth 100000

/-! ### a map of handles to halves -/
abbrev DHg := DataW Unit
abbrev GKey (x : Nat) : Lit := .int .u64 x
abbrev GVal (v : Int) : DHg := .lit (.int .i64 v)
/-- The map in the block B has just the handles ms. -/
def Mth (w : World) (B : Nat) (ms : List Nat) : Prop := ∃ (n : Nat) (D : DHg), w.ownsMap Tryz.prog 69 (plainElem Tryz.prog 3) B n D ∧ n ≤ ms.length ∧ ∀ x, x ≤ 18446744073709551615 → Maps.has D (GKey x) = decide (x ∈ ms)
theorem gkeyed : Maps.Keyed Tryz.prog 69 := Maps.int_keyed Tryz.underlying69
theorem zeroI (w : World) : (zeroValue 3).run Tryz.prog w = .ok (.int .i64 0) w := by kernel_rfl
theorem glit_u64 {x : Nat} (hx : x ≤ 18446744073709551615) : (Lit.int .u64 (x : Int)).wf = true := by
  simp [Lit.wf, IntKind.min, IntKind.max, IntKind.signed, IntKind.bits]; omega
theorem glit_i64 {x : Nat} (hx : x ≤ 1) : (Lit.int .i64 (x : Int)).wf = true := by
  simp [Lit.wf, IntKind.min, IntKind.max, IntKind.signed, IntKind.bits]; omega
theorem gkey {x : Nat} (hx : x ≤ 18446744073709551615) : keyOf Tryz.prog 69 (.int .u64 x) = some (GKey x) := Maps.keyOf_int_mk Tryz.underlying69 (glit_u64 hx)
theorem gkey_lit {x : Nat} (hx : x ≤ 18446744073709551615) : WideAt.IsKeyLit (GKey x) := gkeyed.key (gkey hx)
section
variable {w w' : World} {B : Nat} {ms : List Nat}
theorem Mth.made (w : World) : Mth (w.alloc (.map #[] 0)) w.heap.size [] := ⟨0, .map [], World.ownsMap_made _ _ _ _, Nat.le_refl _, fun x _ => by simp [Maps.has_eq]⟩
theorem Mth.lt (h : Mth w B ms) : B < w.heap.size := by obtain ⟨n, D, hm, r⟩ := h; exact hm.lt
theorem Mth.only {S : Nat → Prop} (h : Mth w B ms) (ho : Only S w w') (hn : ¬ S B) : Mth w' B ms := by
  obtain ⟨n, D, hm, r⟩ := h
  have hlt := hm.lt
  obtain ⟨es, clock, hb, F, hs, hD⟩ := hm
  exact ⟨n, D, ⟨es, clock, (ho.block B hlt hn).trans hb, F, hs, hD⟩, r⟩
theorem Mth.no (h : Mth w B ms) {ts : List TypeId} (ht : Ty w B ts) : False := by
  obtain ⟨n, D, hm, r⟩ := h
  obtain ⟨es, clock, hb, _⟩ := hm
  obtain ⟨t, cs, hb', _⟩ := ht
  have e := hb.symm.trans hb'
  injection e with e
  injection e
theorem Mth.look (h : Mth w B ms) {x : Nat} (hx : x ≤ 18446744073709551615) : ∃ c : Int, (Instr.lookup 170 (.map (some B)) (.int .u64 x) true).run Tryz.prog w = .ok (.tuple #[.int .i64 c, .bool (decide (x ∈ ms))]) w := by
  obtain ⟨n, D, hm, _, hat⟩ := h
  obtain ⟨v, ps, hrun, hv⟩ := hm.look_ok gkeyed Tryz.underlying170 (zeroI w) (plainElem_int Tryz.underlying3 (by decide)) (gkey hx)
  obtain ⟨c, rfl, _, _⟩ := plainElem_int_inv Tryz.underlying3 hv
  exact ⟨c, by rw [hrun, hat x hx]⟩
/-- A handle put to those that were met. -/
theorem wpList_mth {ops : Array Oper} {rest : List Oper} {o : Oper} {a : Act} {Q : Exit → Act → World → Prop} (hgd : o.guard = none) (m x v : Operand)
    (hop : o.op = Op.mapUpdate 170 m x v) (h : Mth w B ms) (hl : ms.length ≤ 1000000) (y : Nat) (hy : y ≤ 18446744073709551615) (z : Nat) (hz : z ≤ 1)
    (hm : a.eval m = .map (some B)) (hx : a.eval x = .int .u64 y) (hv : a.eval v = .int .i64 z)
    (hK : ∀ w', Mth w' B (y :: ms) → Only (· = B) w w' → wpList Tryz.prog ops Q rest (a.put o.dst undef) w') : wpList Tryz.prog ops Q (o :: rest) a w := by
  obtain ⟨n, D, hM, hn, hat⟩ := h
  refine wpList_mapUpdate_own w hgd m x v 170 hop 69 3 gkeyed Tryz.underlying170 _ B n D hm hM (by unfold maxLen; omega) _ _ _ hx hv (gkey hy) (GVal z) [] (plainElem_int Tryz.underlying3 (glit_i64 hz)) ?_
  intro w' hM' hg
  refine hK w' ⟨n + 1, _, hM', by simp; omega, fun u hu => ?_⟩ ((Only.refl (· = B) w).grown hg (fun z hz => .inl (by injection hz with hz; exact hz.symm)))
  by_cases e : u = y
  · subst e
    rw [Maps.has_put_same hM.isMap (gkey_lit hu)]
    simp
  · have hne : GKey u ≠ GKey y := fun h => by
      injection h with _ h
      exact e (by omega)
    rw [Maps.has_put_other hne, hat u hu]
    simp [e]
end

/-! ### rows of links, rows of such rows -/
/-- A slice: where it begins, how many it has, its room. -/
structure El where
  A : Option Addr
  n : Nat
  cap : Nat
def elv (x : El) : List Value := [.slice x.A x.n x.cap]
theorem elv_len (x : El) : (elv x).length = 1 := rfl
def lkv (p : Nat × Nat) : List Value := [.int .u64 p.1, .int .u64 p.2]
theorem lkv_len (p : Nat × Nat) : (lkv p).length = 2 := rfl
def nlk (l : List (Nat × Nat)) (i : Nat) : Nat × Nat := l.getD i (0, 0)
def nel (l : List El) (i : Nat) : El := l.getD i ⟨none, 0, 0⟩
/-- A slice of links, wherever in its block it begins; at least one. -/
structure LkAt (w : World) (x : El) (l : List (Nat × Nat)) : Prop where
  n : x.n = l.length
  ne : l ≠ []
  cap : x.n ≤ x.cap ∧ x.cap ≤ maxLen
  at_ : ∃ b o cs, x.A = some ⟨b, o, none⟩ ∧ Blk w b 185 cs ∧ ∀ i, i < l.length → cs[o + i * 2]? = some (.int .u64 (nlk l i).1) ∧ cs[o + i * 2 + 1]? = some (.int .u64 (nlk l i).2)
/-- A slice of such slices, wherever it begins. -/
def PlAt (w : World) (A : Option Addr) (l : List El) : Prop := l = [] ∨ ∃ b o cs, A = some ⟨b, o, none⟩ ∧ Blk w b 172 cs ∧ ∀ i, i < l.length → cs[o + i]? = some (.slice (nel l i).A (nel l i).n (nel l i).cap)
abbrev PsRow (w : World) (A : Option Addr) (cap : Nat) (l : List El) : Prop := Row w 172 1 elv A cap l
abbrev LkRow (w : World) (A : Option Addr) (cap : Nat) (l : List (Nat × Nat)) : Prop := Row w 185 2 lkv A cap l
section
variable {w w' : World} {x : El} {l : List (Nat × Nat)} {A : Option Addr} {cap : Nat} {es : List El}
theorem LkAt.only {S : Nat → Prop} (h : LkAt w x l) (ho : Only S w w') (hn : ∀ b, In x.A b → ¬ S b) : LkAt w' x l := by
  obtain ⟨h1, h2, h3, b, o, cs, h4, h5, h6⟩ := h
  exact ⟨h1, h2, h3, b, o, cs, h4, h5.only ho (hn b (by rw [h4]; rfl)), h6⟩
theorem LkAt.ty (h : LkAt w x l) {b : Nat} (hb : In x.A b) : Ty w b [185] := by
  obtain ⟨h1, h2, h3, b', o, cs, h4, h5, h6⟩ := h
  rw [h4] at hb
  have : b' = b := by simpa [In] using hb
  subst this
  exact ⟨_, cs, h5, by simp⟩
theorem PlAt.only {S : Nat → Prop} (h : PlAt w A es) (ho : Only S w w') (hn : ∀ b, In A b → ¬ S b) : PlAt w' A es := by
  rcases h with h | ⟨b, o, cs, h1, h2, h3⟩
  · exact .inl h
  · exact .inr ⟨b, o, cs, h1, h2.only ho (hn b (by rw [h1]; rfl)), h3⟩
theorem PsRow.pl (h : PsRow w A cap es) : PlAt w A es := by
  by_cases h0 : es = []
  · exact .inl h0
  · obtain ⟨b, e, hb, hc⟩ := h.cells elv_len 0 (List.length_pos_iff.2 h0)
    obtain ⟨cs, hB⟩ := row_blk h (x := b) (by rw [e]; rfl)
    refine .inr ⟨b, 0, cs, e, hB, fun i hi => ?_⟩
    obtain ⟨b', e', _, hc'⟩ := h.cells elv_len i hi
    have : b' = b := by rw [e] at e'; simpa using e'.symm
    subst this
    have := (hc' 0 (by omega)).1
    rw [hB.cell] at this
    rw [Nat.zero_add, show i = i * 1 + 0 by omega, this]
    simp [elv, nel, List.getD, hi]
theorem LkRow.at (h : LkRow w A cap l) (hl : l ≠ []) : LkAt w ⟨A, l.length, cap⟩ l := by
  obtain ⟨b, e, hb, hc⟩ := h.cells lkv_len 0 (List.length_pos_iff.2 hl)
  obtain ⟨cs, hB⟩ := row_blk h (x := b) (by rw [e]; rfl)
  refine ⟨rfl, hl, h.capLe, b, 0, cs, e, hB, fun i hi => ?_⟩
  obtain ⟨b', e', _, hc'⟩ := h.cells lkv_len i hi
  have : b' = b := by rw [e] at e'; simpa using e'.symm
  subst this
  have h0 := (hc' 0 (by omega)).1
  have h1 := (hc' 1 (by omega)).1
  rw [hB.cell] at h0 h1
  rw [Nat.zero_add]
  exact ⟨h0.trans (by simp [lkv, nlk, List.getD, hi]), h1.trans (by simp [lkv, nlk, List.getD, hi])⟩
end

/-- Each of these slices has the links of one list. -/
inductive Each (w : World) : List El → List (List (Nat × Nat)) → Prop
  | nil : Each w [] []
  | cons {x : El} {l : List (Nat × Nat)} {es : List El} {ls : List (List (Nat × Nat))} : LkAt w x l → Each w es ls → Each w (x :: es) (l :: ls)
section
variable {w w' : World} {es : List El} {ls : List (List (Nat × Nat))}
theorem Each.len (h : Each w es ls) : es.length = ls.length := by
  induction h with
  | nil => rfl
  | cons _ _ ih => simp [ih]
theorem Each.only {S : Nat → Prop} (h : Each w es ls) (ho : Only S w w') (hn : ∀ e ∈ es, ∀ b, In e.A b → ¬ S b) : Each w' es ls := by
  induction h with
  | nil => exact .nil
  | cons a _ ih => exact .cons (a.only ho (hn _ (by simp))) (ih fun e he => hn e (List.mem_cons_of_mem _ he))
theorem Each.ty (h : Each w es ls) : ∀ e ∈ es, ∀ b, In e.A b → Ty w b [185] := by
  induction h with
  | nil => simp
  | cons a _ ih =>
    intro e he b hb
    rcases List.mem_cons.1 he with rfl | he
    · exact a.ty hb
    · exact ih e he b hb
theorem Each.snoc (h : Each w es ls) {x : El} {l : List (Nat × Nat)} (hx : LkAt w x l) : Each w (es ++ [x]) (ls ++ [l]) := by
  induction h with
  | nil => exact .cons hx .nil
  | cons a _ ih => exact .cons a ih
end

/-! ### a grow -/
structure Gr where
  worker : Int
  nx : Nat
  err : Int
  el : Nat × Nat
  nw : Nat × Nat
  num : Int
  bucket : Nat
  C : Ch
  at_ : Nat
  half : Nat
  W : Wt
  pass : List (List (Nat × Nat))
  later : List (List (Nat × Nat))
/-- Where it lies: itself, its chain, the chain's map and links, its wait, the rows of links. -/
structure Gl where
  f : Nat
  cv : Value
  wv : Value
  c : Nat
  B : Nat
  LA : Option Addr
  lcap : Nat
  w : Nat
  PA : Option Addr
  pcap : Nat
  ps : List El
  QA : Option Addr
  qcap : Nat
  qs : List El
def grv (a : Gl) (nx : Nat) : Value := if nx = 7 then wfm 115 (ptr a.w) else wf0 45
def gnv (f nx : Nat) : Value := if nx = 1 then wfm 27 (ptr f) else if nx = 2 then wfm 46 (ptr f) else if nx = 3 then wfm 69 (ptr f)
  else if nx = 4 then wfm 94 (ptr f) else if nx = 5 then wfm 111 (ptr f) else if nx = 6 then wfm 112 (ptr f)
  else if nx = 7 then wfm 116 (ptr f) else if nx = 8 then wfm 120 (ptr f) else wf0 79
def grc (a : Gl) (G : Gr) : Array Value := #[.int .i64 G.worker, grv a G.nx, gnv a.f G.nx, .int .i64 G.err, .int .i64 G.el.1, .int .i64 G.el.2, .int .i64 G.nw.1, .int .i64 G.nw.2, .int .i64 G.num, .int .i64 G.bucket, a.cv, .int .u64 G.at_, .int .i64 G.half, a.wv,
  .slice a.PA a.ps.length a.pcap, .slice a.QA a.qs.length a.qcap]
def chc (a : Gl) (C : Ch) : Array Value := #[.int .u64 C.fi.1, .int .u64 C.fi.2, .int .u64 C.la.1, .int .u64 C.la.2, .int .i64 C.half, .map (some a.B), .slice a.LA C.lk.length a.lcap]
abbrev Own (w : World) (a : Gl) (G : Gr) : Prop := Blk w a.f 79 (grc a G)
/-- A chain's first ones. -/
def Fst (w : World) (c : Nat) (fi : Nat × Nat) : Prop := ∃ cs, Blk w c 174 cs ∧ cs[0]? = some (.int .u64 fi.1) ∧ cs[1]? = some (.int .u64 fi.2)
/-- The chain that is gone along. -/
structure Mid (w : World) (a : Gl) (C : Ch) : Prop where
  cv : a.cv = ptr a.c
  cb : Blk w a.c 174 (chc a C)
  mt : Mth w a.B C.met
  lr : LkRow w a.LA a.lcap C.lk
  ap : ∀ x ∈ a.ps, ∀ b, In a.LA b → ¬ In x.A b
/-- The rows of links. -/
structure Rws (w : World) (a : Gl) (p q : List (List (Nat × Nat))) (grows : Bool) : Prop where
  ps : Each w a.ps p
  qs : Each w a.qs q
  pr : grows = true → PsRow w a.PA a.pcap a.ps
  pl : PlAt w a.PA a.ps
  pc : a.ps.length ≤ a.pcap ∧ a.pcap ≤ maxLen
  qr : PsRow w a.QA a.qcap a.qs
  pq : ∀ b, In a.PA b → (a.ps ≠ [] ∨ grows = true) → ¬ In a.QA b
structure GrAt (w : World) (a : Gl) (G : Gr) : Prop where
  blk : Own w a G
  c4 : G.nx = 4 → Mid w a G.C
  c5 : G.nx = 5 → a.cv = ptr a.c ∧ Fst w a.c G.C.fi
  wt : G.nx = 7 → a.wv = ptr a.w ∧ WtAt w a.w G.W
  rw_ : Rws w a G.pass G.later (decide (G.nx ≤ 6))
/-- Its blocks. -/
def rfoot (a : Gl) (g : Bool) (x : Nat) : Prop := ((a.ps ≠ [] ∨ g = true) ∧ In a.PA x) ∨ In a.QA x ∨ (∃ e ∈ a.ps, In e.A x) ∨ ∃ e ∈ a.qs, In e.A x
def gfoot (a : Gl) (G : Gr) (x : Nat) : Prop := x = a.f ∨ ((G.nx = 4 ∨ G.nx = 5) ∧ x = a.c) ∨ (G.nx = 4 ∧ (x = a.B ∨ In a.LA x)) ∨ (G.nx = 7 ∧ x = a.w) ∨ rfoot a (decide (G.nx ≤ 6)) x
abbrev grL : Lay Gl Gr := ⟨Gl.f, GrAt, gfoot⟩
section
variable {w w' : World} {M : Mo} {a : Gl} {G : Gr} {p q : List (List (Nat × Nat))} {g : Bool} {C : Ch}
abbrev growTypes : List TypeId := [79, 174, 185, 172, 155]
theorem Rws.ty (h : Rws w a p q g) {x : Nat} (hx : rfoot a g x) : Ty w x [185, 172] := by
  rcases hx with ⟨hg, hx⟩ | hx | ⟨e, he, hx⟩ | ⟨e, he, hx⟩
  · rcases hg with hg | hg
    · rcases h.pl with h1 | ⟨b, o, cs, h1, h2, _⟩
      · exact absurd h1 hg
      · rw [h1] at hx
        have : b = x := by simpa [In] using hx
        subst this
        exact ⟨_, cs, h2, by simp⟩
    · exact (row_ty (h.pr hg) hx).mono (by simp)
  · exact (row_ty h.qr hx).mono (by simp)
  · exact (h.ps.ty e he x hx).mono (by simp)
  · exact (h.qs.ty e he x hx).mono (by simp)
theorem Rws.only {S : Nat → Prop} (h : Rws w a p q g) (ho : Only S w w') (hn : ∀ x, rfoot a g x → ¬ S x) : Rws w' a p q g where
  ps := h.ps.only ho fun e he b hb => hn b (.inr (.inr (.inl ⟨e, he, hb⟩)))
  qs := h.qs.only ho fun e he b hb => hn b (.inr (.inr (.inr ⟨e, he, hb⟩)))
  pr hg := (h.pr hg).only ho fun b hb => hn b (.inl ⟨.inr hg, hb⟩)
  pl := by
    by_cases h0 : a.ps = []
    · exact .inl h0
    · exact h.pl.only ho fun b hb => hn b (.inl ⟨.inl h0, hb⟩)
  pc := h.pc
  qr := h.qr.only ho fun b hb => hn b (.inr (.inl hb))
  pq := h.pq
theorem Mid.only {S : Nat → Prop} (h : Mid w a C) (ho : Only S w w') (h1 : ¬ S a.c) (h2 : ¬ S a.B) (h3 : ∀ b, In a.LA b → ¬ S b) : Mid w' a C :=
  ⟨h.cv, h.cb.only ho h1, h.mt.only ho h2, h.lr.only ho h3, h.ap⟩
/-- Its blocks are of its own types, or a map. -/
theorem GrAt.ty (h : GrAt w a G) {x : Nat} (hx : gfoot a G x) : Ty w x growTypes ∨ ∃ ms, Mth w x ms := by
  rcases hx with rfl | ⟨hn, rfl⟩ | ⟨hn, hx⟩ | ⟨hn, rfl⟩ | hx
  · exact .inl ((blk_ty h.blk).mono (by simp))
  · rcases hn with hn | hn
    · exact .inl ((blk_ty (h.c4 hn).cb).mono (by simp))
    · obtain ⟨cs, hb, _⟩ := (h.c5 hn).2
      exact .inl ((blk_ty hb).mono (by simp))
  · rcases hx with rfl | hx
    · exact .inr ⟨_, (h.c4 hn).mt⟩
    · exact .inl ((row_ty (h.c4 hn).lr hx).mono (by simp))
  · exact .inl ((blk_ty (h.wt hn).2).mono (by simp))
  · exact .inl ((h.rw_.ty hx).mono (by simp))
theorem GrAt.lt (h : GrAt w a G) {x : Nat} (hx : gfoot a G x) : x < w.heap.size := by
  rcases h.ty hx with q | ⟨ms, q⟩
  · exact q.lt
  · exact q.lt
theorem GrAt.far (h : GrAt w a G) (hM : MemAt w M) {x : Nat} (hx : gfoot a G x) : ¬ mfoot M x := fun hm => by
  rcases h.ty hx with q | ⟨ms, q⟩
  · exact (hM.ty hm).apart q (by decide)
  · exact q.no (hM.ty hm)
theorem GrAt.only {S : Nat → Prop} (h : GrAt w a G) (ho : Only S w w') (hn : ∀ x, gfoot a G x → ¬ S x) : GrAt w' a G where
  blk := h.blk.only ho (hn _ (.inl rfl))
  c4 q := (h.c4 q).only ho (hn _ (.inr (.inl ⟨.inl q, rfl⟩))) (hn _ (.inr (.inr (.inl ⟨q, .inl rfl⟩)))) (fun b hb => hn _ (.inr (.inr (.inl ⟨q, .inr hb⟩))))
  c5 q := by
    obtain ⟨h1, cs, h2, h3⟩ := h.c5 q
    exact ⟨h1, cs, h2.only ho (hn _ (.inr (.inl ⟨.inr q, rfl⟩))), h3⟩
  wt q := ⟨(h.wt q).1, (h.wt q).2.only ho (hn _ (.inr (.inr (.inr (.inl ⟨q, rfl⟩)))))⟩
  rw_ := h.rw_.only ho fun x hx => hn x (.inr (.inr (.inr (.inr hx))))
theorem GrAt.below (h : GrAt w a G) (hb : Below w.heap.size w w') : GrAt w' a G := h.only (Only.ofBelow hb (fun _ => False)) (by simp)
theorem GrAt.drewN (h : GrAt w a G) (n : Nat) : GrAt (w.drewN n) a G := h.only ((Only.refl (fun _ => False) w).drewN n) (by simp)
theorem own_hd (h : Own w a G) : w.cell? ⟨a.f, 0, none⟩ = some (.int .i64 G.worker) ∧ w.cell? ⟨a.f, 1, none⟩ = some (grv a G.nx) ∧ w.cell? ⟨a.f, 2, none⟩ = some (gnv a.f G.nx) ∧ w.cell? ⟨a.f, 3, none⟩ = some (.int .i64 G.err) ∧
    w.cell? ⟨a.f, 4, none⟩ = some (.int .i64 G.el.1) ∧ w.cell? ⟨a.f, 5, none⟩ = some (.int .i64 G.el.2) ∧ w.cell? ⟨a.f, 6, none⟩ = some (.int .i64 G.nw.1) ∧ w.cell? ⟨a.f, 7, none⟩ = some (.int .i64 G.nw.2) ∧
    w.cell? ⟨a.f, 8, none⟩ = some (.int .i64 G.num) ∧ w.cell? ⟨a.f, 9, none⟩ = some (.int .i64 G.bucket) ∧ w.cell? ⟨a.f, 10, none⟩ = some a.cv ∧ w.cell? ⟨a.f, 11, none⟩ = some (.int .u64 G.at_) ∧
    w.cell? ⟨a.f, 12, none⟩ = some (.int .i64 G.half) ∧ w.cell? ⟨a.f, 13, none⟩ = some a.wv ∧ w.cell? ⟨a.f, 14, none⟩ = some (.slice a.PA a.ps.length a.pcap) ∧ w.cell? ⟨a.f, 15, none⟩ = some (.slice a.QA a.qs.length a.qcap) :=
  ⟨h.cell 0, h.cell 1, h.cell 2, h.cell 3, h.cell 4, h.cell 5, h.cell 6, h.cell 7, h.cell 8, h.cell 9, h.cell 10, h.cell 11, h.cell 12, h.cell 13, h.cell 14, h.cell 15⟩
theorem own_fr (h : Own w a G) (i : Nat) : w.frozen? ⟨a.f, i, none⟩ = false := h.frozen i
/-- Its own block is none of its rows'. -/
theorem Rws.self (h : Rws w a p q g) (hf : Own w a G) : ∀ x, rfoot a g x → x ≠ a.f := by
  rintro x hx rfl
  exact (h.ty hx).apart (blk_ty hf) (by decide)
theorem Rws.chain (h : Rws w a p q g) {c : Nat} {cs : Array Value} (hc : Blk w c 174 cs) : ∀ x, rfoot a g x → x ≠ c := by
  rintro x hx rfl
  exact (h.ty hx).apart (blk_ty hc) (by decide)
end
theorem info_link : (Tryz.prog.info? 185).map (fun i => (i.zero, i.size, i.bytes)) = some (some (.agg #[.int .u64 0, .int .u64 0]), 2, 16) := by kernel_rfl
theorem info_row : (Tryz.prog.info? 172).map (fun i => (i.zero, i.size, i.bytes)) = some (some (.slice none 0 0), 1, 24) := by kernel_rfl

/-! ### its steps as plain data -/
/-- The next first one is stored, or the next chain is gone along, or the table counts. -/
def half1 (h : Nat) (fi : Nat × Nat) : Nat := if h = 0 ∧ fi.1 = 0 then 1 else h
def half2 (h : Nat) (fi : Nat × Nat) : Nat := if half1 h fi = 1 ∧ fi.2 = 0 then 2 else half1 h fi
def toStore (G : Gr) : Gr :=
  if half2 G.half G.C.fi < 2 then { G with half := half2 G.half G.C.fi, nx := 5 } else { G with half := half2 G.half G.C.fi, bucket := G.bucket + 1, nx := if G.bucket + 1 = G.el.1 then 6 else 3 }
def endChain (G : Gr) : Gr := toStore { G with pass := if G.C.over = [] then G.pass else G.pass ++ [G.C.over], half := 0 }
def comeTo (G : Gr) (x : Nat) : Gr := if x = 0 then endChain G else { G with at_ := x, nx := 4 }
def waitNew (G : Gr) : Gr := { G with W := ⟨G.worker, 0, 0, 0⟩, nx := 7 }
/-- The half of a sum. -/
def hfs (G : Gr) (s : Int) : Nat := (FM.bucket s G.nw.1 / G.el.1).toNat
def gstep (L : Lm) (G : Gr) : Lm × Gr :=
  if G.nx = 1 then (L, { G with el := now L.xs L.ds, nx := 2 })
  else if G.nx = 2 then
    (if FM.power ((2 * G.el.1 : Nat) : Int) = true ∧ L.xs.length + 2 * G.el.1 ≤ 1048576 then
      ({ L with xs := L.xs ++ List.replicate (2 * G.el.1) 0, ds := L.ds ++ [(2 * G.el.1, L.xs.length)] }, { G with num := L.ds.length, err := 0, nw := (2 * G.el.1, L.xs.length), nx := 3 })
    else (L, { G with num := -1, err := if FM.power ((2 * G.el.1 : Nat) : Int) = true then 2 else 5, nx := 9 }))
  else if G.nx = 3 then (L, comeTo { G with C := .new } (Cl.nth L.xs (G.el.2 + G.bucket)).toNat)
  else if G.nx = 4 then
    (L, comeTo { G with C := G.C.add G.at_ (hfs G (at' L.ss ((G.at_ - 1) % 65536)).nd.sum) } (at' L.ss ((G.at_ - 1) % 65536)).nd.next.toNat)
  else if G.nx = 5 then ({ L with xs := L.xs.set (G.nw.2 + (G.bucket + G.half * G.el.1)) ((sel G.C.fi G.half : Nat) : Int) }, toStore { G with half := G.half + 1 })
  else if G.nx = 6 then ({ L with xs := L.xs.set 1 G.num }, waitNew G)
  else if G.nx = 7 then ({ L with xs := (wstep L.k.toNat L.xs L.hs G.W).1, hs := (wstep L.k.toNat L.xs L.hs G.W).2.1 },
    { G with W := (wstep L.k.toNat L.xs L.hs G.W).2.2, nx := if G.W.at_ = 3 then (if G.pass = [] then 9 else 8) else 7 })
  else match G.pass with
    | [] => (L, G)
    | l :: t =>
      ({ L with ss := Pu.lnk L.ss (nlk l 0).1 (nlk l 0).2 },
        if t = [] then waitNew { G with pass := if 1 < l.length then G.later ++ [l.drop 1] else G.later, later := [] } else { G with pass := t, later := if 1 < l.length then G.later ++ [l.drop 1] else G.later })
def gready (L : Lm) (G : Gr) : Bool := if G.nx = 7 then readyB L.xs L.hs G.W else true
def gdone (L : Lm) (G : Gr) : Bool :=
  if G.nx = 2 then !decide (FM.power ((2 * G.el.1 : Nat) : Int) = true ∧ L.xs.length + 2 * G.el.1 ≤ 1048576) else if G.nx = 7 then decide (G.W.at_ = 3 ∧ G.pass = []) else decide (9 ≤ G.nx)
end Go.Proofs.YtmapijbfnakdiaaGreat.Gw
/- A region that draws its order: loads taken first though a later store hits what they read. A condition on the world is asked only until an operation of a chosen kind (till: the stores) comes up; each of those waits for every load that is taken first. -/
namespace Go.Proofs.YtmapijbfnakdiaaGreat.Rn
open Go

/-- Whatever order is picked; S is asked behind each operation until one of till has come up. -/
def wpN (P : Program) (md : Region.Mode) (ops : Array Oper) (Q : Exit → Act → World → Prop) (S : World → Prop) (till : Nat → Bool) : Nat → Array Bool → Act → World → Prop
  | 0, listed, a, w => Region.ready md ops listed = [] ∧ Q .normal a w
  | f + 1, listed, a, w => (Region.ready md ops listed = [] → Q .normal a w) ∧
      ∀ i ∈ Region.ready md ops listed, wpOp P ops Q i (fun a' w' => (till i = true ∧ wpAny P md ops Q f (listed.setIfInBounds i true) a' w') ∨ (till i = false ∧ S w' ∧ wpN P md ops Q S till f (listed.setIfInBounds i true) a' w')) a w

section
variable {P : Program} {ops : Array Oper} {Q : Exit → Act → World → Prop} {md : Region.Mode} {S : World → Prop} {till : Nat → Bool}
theorem wpN_any : ∀ (f : Nat) (listed : Array Bool) (a : Act) (w : World), wpN P md ops Q S till f listed a w → wpAny P md ops Q f listed a w
  | 0, _, _, _, h => h
  | f + 1, _, _, _, h => ⟨h.1, fun i hi => wpOp_mono (fun a' w' h' => by
      rcases h' with ⟨_, h'⟩ | ⟨_, _, h'⟩
      · exact h'
      · exact wpN_any f _ a' w' h') (h.2 i hi)⟩

theorem wpN_first {i : Nat} {oi : Oper} {v : Value} (hi : ops[i]? = some oi) (hsel : ∀ (j : Nat) (o : Oper) cs b, ops[j]? = some o → o.op ≠ .select cs b)
    (hQ : ∀ c a w, Q (.panic c) (a.put oi.dst v) w → Q (.panic c) a w) (hti : till i = false) (htw : ∀ j, till j = true → Region.waitsFor md ops j i = true) :
    ∀ (f : Nat) (listed : Array Bool) (a : Act) (w : World),
      (∀ j oj, ops[j]? = some oj → j ≠ i → listed.getD j true = false → (∀ e ∈ oj.after, Region.binds md e = true → e.on ≠ i) → oi.apart ops oj = true) →
      i ∈ Region.ready md ops listed → YieldsIf P ops S oi v a → S w →
      wpN P md ops Q S till f (listed.setIfInBounds i true) (a.put oi.dst v) w → wpN P md ops Q S till (f + 1) listed a w := by
  intro f
  induction f with
  | zero =>
    intro listed a w _ hr hy hS H
    refine ⟨fun h => absurd hr (by rw [h]; simp), fun j hj => ?_⟩
    by_cases hji : j = i
    · rw [hji]
      exact hy.wpOp hi hS (.inr ⟨hti, hS, H⟩)
    · have h0 := ready_mono hj hji
      rw [H.1] at h0
      simp at h0
  | succ f ih =>
    intro listed a w hfree hr hy hS H
    refine ⟨fun h => absurd hr (by rw [h]; simp), fun j hj => ?_⟩
    by_cases hji : j = i
    · rw [hji]
      exact hy.wpOp hi hS (.inr ⟨hti, hS, H⟩)
    · obtain ⟨hun, oj, hoj, hall⟩ := mem_ready.1 hj
      have hnot : ∀ e ∈ oj.after, Region.binds md e = true → e.on ≠ i := fun e he hb heq => by
        have h1 := hall e he hb
        have h0 := (mem_ready.1 hr).1
        rw [heq, getD_both h0] at h1
        simp at h1
      have htj : till j = false := by
        cases ht : till j with
        | false => rfl
        | true =>
          obtain ⟨o', ho', e, he, hb, hon⟩ := Region.waitsFor_spec (htw j ht)
          rw [hoj] at ho'
          injection ho' with ho'
          subst ho'
          exact absurd hon (hnot e he hb)
      have h1 := H.2 j (ready_mono hj hji)
      refine wpOp_mono (fun a' w' h3 => ?_) (wpOp_putIf hoj (hfree j oj hoj hji hun hnot) (fun cs b => hsel i oi cs b hi) (fun cs b => hsel j oj cs b hoj) hQ hy h1)
      obtain ⟨hy', h3⟩ := h3
      rcases h3 with ⟨ht, _⟩ | ⟨_, hS', h3⟩
      · rw [htj] at ht
        simp at ht
      · refine .inr ⟨htj, hS', ih _ _ _ ?_ (ready_mono hr (Ne.symm hji)) hy' hS' (by rw [Array.setIfInBounds_comm _ _ hji]; exact h3)⟩
        intro k ok hk hki hku hno
        refine hfree k ok hk hki ?_ hno
        by_cases hjk : j = k
        · rw [← hjk]; exact hun
        · rwa [getD_set_ne true hjk] at hku

/-- Number i is taken first. -/
theorem wpN_take {i : Nat} {oi : Oper} {v : Value} {f : Nat} {listed : Array Bool} {a : Act} {w : World} (hi : ops[i]? = some oi)
    (hs : Region.noSelect ops = true) (hf : Region.free md ops listed i = true) (hr : (Region.ready md ops listed).contains i = true) (hti : till i = false)
    (htw : ∀ j, till j = true → Region.waitsFor md ops j i = true)
    (hQ : ∀ c a w, Q (.panic c) (a.put oi.dst v) w → Q (.panic c) a w) (hy : YieldsIf P ops S oi v a) (hS : S w)
    (h : wpN P md ops Q S till f (listed.setIfInBounds i true) (a.put oi.dst v) w) : wpN P md ops Q S till (f + 1) listed a w :=
  wpN_first hi (Region.noSelect_spec hs) hQ hti htw f listed a w (Region.free_spec hi hf) (by simpa using hr) hy hS h
theorem wpOp_of {i : Nat} {o : Oper} {a : Act} {w : World} {K : Act → World → Prop} (hi : ops[i]? = some o) (h : if Region.wanted o (yielded ops a.tmps) = true then Oper.wp P o a w K Q else K (a.put o.dst undef) w) : wpOp P ops Q i K a w := by
  unfold wpOp
  simp only [hi]
  split
  · rename_i hw
    rw [if_pos hw] at h
    exact .inl h
  · rename_i hw
    rw [if_neg hw] at h
    exact h
/-- An operation that looks at no world is taken first, whatever waits for it. -/
theorem wpN_first0 {i : Nat} {oi : Oper} {v : Value} (hi : ops[i]? = some oi) (hsel : ∀ (j : Nat) (o : Oper) cs b, ops[j]? = some o → o.op ≠ .select cs b)
    (hQ : ∀ c a w, Q (.panic c) (a.put oi.dst v) w → Q (.panic c) a w) (hti : till i = false) :
    ∀ (f : Nat) (listed : Array Bool) (a : Act) (w : World),
      (∀ j oj, ops[j]? = some oj → j ≠ i → listed.getD j true = false → (∀ e ∈ oj.after, Region.binds md e = true → e.on ≠ i) → oi.apart ops oj = true) →
      i ∈ Region.ready md ops listed → YieldsIf P ops (fun _ => True) oi v a → S w →
      wpN P md ops Q S till f (listed.setIfInBounds i true) (a.put oi.dst v) w → wpN P md ops Q S till (f + 1) listed a w := by
  intro f
  induction f with
  | zero =>
    intro listed a w _ hr hy hS H
    refine ⟨fun h => absurd hr (by rw [h]; simp), fun j hj => ?_⟩
    by_cases hji : j = i
    · rw [hji]
      exact hy.wpOp hi trivial (.inr ⟨hti, hS, H⟩)
    · have h0 := ready_mono hj hji
      rw [H.1] at h0
      simp at h0
  | succ f ih =>
    intro listed a w hfree hr hy hS H
    refine ⟨fun h => absurd hr (by rw [h]; simp), fun j hj => ?_⟩
    by_cases hji : j = i
    · rw [hji]
      exact hy.wpOp hi trivial (.inr ⟨hti, hS, H⟩)
    · obtain ⟨hun, oj, hoj, hall⟩ := mem_ready.1 hj
      have hnot : ∀ e ∈ oj.after, Region.binds md e = true → e.on ≠ i := fun e he hb heq => by
        have h1 := hall e he hb
        have h0 := (mem_ready.1 hr).1
        rw [heq, getD_both h0] at h1
        simp at h1
      have hfr : ∀ k ok, ops[k]? = some ok → k ≠ i → (listed.setIfInBounds j true).getD k true = false → (∀ e ∈ ok.after, Region.binds md e = true → e.on ≠ i) → oi.apart ops ok = true := fun k ok hk hki hku hno => by
        refine hfree k ok hk hki ?_ hno
        by_cases hjk : j = k
        · rw [← hjk]; exact hun
        · rwa [getD_set_ne true hjk] at hku
      have h1 := H.2 j (ready_mono hj hji)
      refine wpOp_mono (fun a' w' h3 => ?_) (wpOp_putIf hoj (hfree j oj hoj hji hun hnot) (fun cs b => hsel i oi cs b hi) (fun cs b => hsel j oj cs b hoj) hQ hy h1)
      obtain ⟨hy', h3⟩ := h3
      rcases h3 with ⟨ht, h3⟩ | ⟨htj, hS', h3⟩
      · refine .inl ⟨ht, wpAny_first hi hsel hQ f _ _ _ hfr (ready_mono hr (Ne.symm hji)) ?_ (by rw [Array.setIfInBounds_comm _ _ hji]; exact h3)⟩
        rcases hy' with ⟨h1, h2⟩ | h1
        · exact .inl ⟨h1, fun w => h2 w trivial⟩
        · exact .inr h1
      · exact .inr ⟨htj, hS', ih _ _ _ hfr (ready_mono hr (Ne.symm hji)) hy' hS' (by rw [Array.setIfInBounds_comm _ _ hji]; exact h3)⟩
theorem wpN_take0 {i : Nat} {oi : Oper} {v : Value} {f : Nat} {listed : Array Bool} {a : Act} {w : World} (hi : ops[i]? = some oi)
    (hs : Region.noSelect ops = true) (hf : Region.free md ops listed i = true) (hr : (Region.ready md ops listed).contains i = true) (hti : till i = false)
    (hQ : ∀ c a w, Q (.panic c) (a.put oi.dst v) w → Q (.panic c) a w) (hy : YieldsIf P ops (fun _ => True) oi v a) (hS : S w)
    (h : wpN P md ops Q S till f (listed.setIfInBounds i true) (a.put oi.dst v) w) : wpN P md ops Q S till (f + 1) listed a w :=
  wpN_first0 hi (Region.noSelect_spec hs) hQ hti f listed a w (Region.free_spec hi hf) (by simpa using hr) hy hS h
/-- One alone may come up, none of till. -/
theorem wpN_one {i : Nat} {o : Oper} {f : Nat} {listed : Array Bool} {a : Act} {w : World} (hr : Region.ready md ops listed = [i]) (hi : ops[i]? = some o) (hti : till i = false)
    (h : ∀ K : Act → World → Prop, (∀ a' w', S w' → wpN P md ops Q S till f (listed.setIfInBounds i true) a' w' → K a' w') → if Region.wanted o (yielded ops a.tmps) = true then Oper.wp P o a w K Q else K (a.put o.dst undef) w) :
    wpN P md ops Q S till (f + 1) listed a w := by
  refine ⟨fun h => absurd (hr.symm.trans h) (by simp), fun j hj => ?_⟩
  rw [hr] at hj
  have hji : j = i := by simpa using hj
  subst hji
  exact wpOp_of hi (h _ fun a' w' hS hw => Or.inr ⟨hti, hS, hw⟩)
/-- Two may come up, none of till. -/
theorem wpN_two {i j : Nat} {o o' : Oper} {f : Nat} {listed : Array Bool} {a : Act} {w : World} (hr : Region.ready md ops listed = [i, j]) (hi : ops[i]? = some o) (hti : till i = false) (hj : ops[j]? = some o') (htj : till j = false)
    (h : ∀ K : Act → World → Prop, (∀ a' w', S w' → wpN P md ops Q S till f (listed.setIfInBounds i true) a' w' → K a' w') → if Region.wanted o (yielded ops a.tmps) = true then Oper.wp P o a w K Q else K (a.put o.dst undef) w)
    (h' : ∀ K : Act → World → Prop, (∀ a' w', S w' → wpN P md ops Q S till f (listed.setIfInBounds j true) a' w' → K a' w') → if Region.wanted o' (yielded ops a.tmps) = true then Oper.wp P o' a w K Q else K (a.put o'.dst undef) w) :
    wpN P md ops Q S till (f + 1) listed a w := by
  refine ⟨fun h => absurd (hr.symm.trans h) (by simp), fun k hk => ?_⟩
  rw [hr] at hk
  have hk : k = i ∨ k = j := by simpa using hk
  rcases hk with rfl | rfl
  · exact wpOp_of hi (h _ fun a' w' hS hw => Or.inr ⟨hti, hS, hw⟩)
  · exact wpOp_of hj (h' _ fun a' w' hS hw => Or.inr ⟨htj, hS, hw⟩)
/-- From here on one may come up at a time, in the order of the text. -/
theorem wpN_seq (l : List Oper) (k : Nat) {listed : Array Bool} {a : Act} {w : World} (hl : ∀ j, l[j]? = ops[k + j]?) (hB : Region.seqB md ops l.length k listed = true) (h : wpList P ops Q l a w)
    (hk : till k = true ∨ l = []) : wpN P md ops Q S till l.length listed a w := by
  have hA := wpAny_of_seq l k listed a w hl hB h
  cases l with
  | nil => exact hA
  | cons o l =>
    refine ⟨hA.1, fun i hi => ?_⟩
    have hr : Region.ready md ops listed = [k] := by
      simp only [List.length_cons, Region.seqB, Bool.and_eq_true, decide_eq_true_eq] at hB
      exact hB.1
    rw [hr] at hi
    have hik : i = k := by simpa using hi
    subst hik
    have htk : till i = true := by
      rcases hk with h | h
      · exact h
      · cases h
    exact wpOp_mono (fun a' w' h' => .inl ⟨htk, h'⟩) (hA.2 i (by rw [hr]; simp))
theorem wpN_tail {f : Nat} (k : Nat) {listed : Array Bool} {a : Act} {w : World} (hf : (ops.toList.drop k).length = f) (hB : Region.seqB md ops f k listed = true) (hk : till k = true) (h : wpList P ops Q (ops.toList.drop k) a w) :
    wpN P md ops Q S till f listed a w := by
  subst hf
  exact wpN_seq _ k (fun j => by rw [List.getElem?_drop, Array.getElem?_toList]) hB h (.inl hk)
/-- The region, from its beginning on. -/
theorem wp_region_N {id : Nat} {a : Act} {w : World} (S : World → Prop) (till : Nat → Bool) (hm : P.follows .mixedOrders = true) (h : wpN P .any ops Q S till ops.size (Array.replicate ops.size false) a w.drew) :
    (Code.region id ops true).wp P Q a w := wp_region_any hm (wpN_any _ _ _ _ h)
end
end Go.Proofs.YtmapijbfnakdiaaGreat.Rn
/- append of one record to a row that the call itself owns: as an equation on the operation's run; as one step of a region that draws its order. -/
namespace Go.Proofs.YtmapijbfnakdiaaGreat.Rw
open Go Go.RowKit Hp Fl

section
variable {P : Program}
theorem step_app {ops : Array Oper} {o : Oper} {a : Act} {w : World} {K : Act → World → Prop} {Q : Exit → Act → World → Prop} {E : Prop}
    (hg : o.guard = none) (s x : Operand) (t : TypeId) (hop : o.op = Op.call { callee := Callee.builtin Builtin.append, args := #[s, x], argTypes := #[t, t] })
    (vs vx : Value) (hs : a.eval s = vs) (hx : a.eval x = vx) {v : Value} {w' : World} (hrun : (Builtin.append_ #[t, t] o.type #[vs, vx]).run P w = .ok v w')
    (hK : K (a.put o.dst v) w') : if Region.wanted o (yielded ops a.tmps) = true then Oper.wp P o a w K Q else E := by
  have hw : Region.wanted o (yielded ops a.tmps) = true := by simp [Region.wanted, hg]
  rw [if_pos hw]
  unfold Oper.wp
  simp [execOp, hop, resolve, invoke, builtin, hs, hx, hrun, Result.andThen]
  exact hK
theorem run_one {α : Type} (w : World) (t ty e : TypeId) (i : TypeInfo) (z : Value) (c bytes : Nat) (ht : P.underlying t = some (.slice e)) (hi : P.info? e = some i) (hz : i.zero = some z) (hsize : i.size = c) (hby : i.bytes = bytes) (hzs : z.cells.size = c) (hsz : 0 < c)
    (f : α → List Value) (hf : ∀ x, (f x).length = c) (h1 : ∀ x, ∀ u ∈ f x, u.oneCell' = true) {A : Option Addr} {cap n : Nat} {xs : List α} (hn : xs.length = n) (h : Row w e c f A cap xs) (y : α) (ad : Addr) (cx : Nat)
    (hc : ∀ (j : Nat) (u : Value), (f y)[j]? = some u → w.cell? (ad.add j) = some u) (h63 : n + 1 ≤ maxLen) (hbytes : (n + 1) * bytes ≤ 140737488355328) :
    ∃ A' cap' w', (Builtin.append_ #[t, t] ty #[.slice A n cap, .slice (some ad) 1 cx]).run P w = .ok (.slice A' (n + 1) cap') w' ∧ Row w' e c f A' cap' (xs ++ [y]) ∧ Only (In A) w w' ∧ ∀ b, In A' b → In A b ∨ w.heap.size ≤ b := by
  subst hn
  have e1 : (xs ++ [y]).flatMap f = xs.flatMap f ++ f y := by simp
  obtain ⟨v', w', hrun, hown, hg, _, hat⟩ := run_append_own_at (P := P) w 0 t ty e i z c bytes ht hi hz hsize hby hzs hsz (.slice A xs.length cap) xs.length (xs.flatMap f) h ad 1 cx (f y) (by rw [hf, Nat.one_mul]) hc (h1 y) h63 hbytes (Nat.zero_le _)
  obtain ⟨A', cap', rfl⟩ := own_slice hown
  refine ⟨A', cap', w', hrun, ?_, (Only.refl (In A) w).grown hg (fun b hb => .inl (by rw [own_block] at hb; exact hb)), fun b hb => ?_⟩
  · rw [Row, e1, List.length_append]
    exact hown
  · rw [own_block, own_block] at hat
    rcases hat with q | q
    · exact .inl (by rw [In, ← q]; exact hb)
    · refine .inr ?_
      rw [In, q] at hb
      injection hb with hb
      omega
end
end Go.Proofs.YtmapijbfnakdiaaGreat.Rw
/- Layer 13 (grow): a chain that is gone along: a new one, whether a node was met, one more, its end. -/
namespace Go.Proofs.YtmapijbfnakdiaaGreat.Gw
open Go Go.RowKit Hp K Fl Rw Hm Ar Mm Me Qs Wk Pn
set_option maxRecDepth 100000

section
variable {w w' : World} {a : Gl} {C : Ch}
theorem chain_new (w : World) : Calls Tryz.prog 80 #[] w fun e w' => ∃ c B, e = .returned (ptr c) ∧ Blk w' c 174 #[.int .u64 0, .int .u64 0, .int .u64 0, .int .u64 0, .int .i64 0, .map (some B), .slice none 0 0] ∧ Mth w' B [] ∧
    w.heap.size ≤ B ∧ w.heap.size ≤ c ∧ Below w.heap.size w w' := by
  have hmm := @run_makeMap Tryz.prog
  go_enter Tryz.func80, Tryz.ntmps80
  go_wp2_with fail
  go_ret
  refine ⟨_, _, rfl, by simpa using Blk.made (w.alloc (.map #[] 0)) _ _, ?_, Nat.le_refl _, by simp, ((Below.refl _ _).alloc (Nat.le_refl _) _).alloc (by simp) _⟩
  exact (Mth.made w).only ((Only.refl (fun _ => False) _).alloc _) (by simp)
theorem met_any (h : Mid w a C) {x : Nat} (hx : x ≤ 18446744073709551615) : Calls Tryz.prog 92 #[ptr a.c, .int .u64 x] w fun e w' => e = .returned (.bool (decide (x ∈ C.met))) ∧ w = w' := by
  obtain ⟨z, hl⟩ := h.mt.look hx
  have c5 : w.cell? ⟨a.c, 5, none⟩ = some (.map (some a.B)) := h.cb.cell 5
  generalize decide (x ∈ C.met) = b at *
  clear h
  go_enter Tryz.func92, Tryz.ntmps92
  go_wp2
  go_ret
  exact ⟨rfl, rfl⟩
/-- The chain, wherever its links lie now. -/
def Mids (w : World) (a : Gl) (C' : Ch) (w' : World) : Prop := ∃ LA lcap, Mid w' { a with LA := LA, lcap := lcap } C' ∧ (∀ b, In LA b → In a.LA b ∨ w.heap.size ≤ b) ∧ Only (fun x => x = a.c ∨ x = a.B ∨ In a.LA x) w w'
theorem hd_chain (h : Blk w a.c 174 (chc a C)) : w.cell? ⟨a.c, 0, none⟩ = some (.int .u64 C.fi.1) ∧ w.cell? ⟨a.c, 1, none⟩ = some (.int .u64 C.fi.2) ∧ w.cell? ⟨a.c, 2, none⟩ = some (.int .u64 C.la.1) ∧ w.cell? ⟨a.c, 3, none⟩ = some (.int .u64 C.la.2) ∧
    w.cell? ⟨a.c, 4, none⟩ = some (.int .i64 C.half) ∧ w.cell? ⟨a.c, 5, none⟩ = some (.map (some a.B)) ∧ w.cell? ⟨a.c, 6, none⟩ = some (.slice a.LA C.lk.length a.lcap) :=
  ⟨h.cell 0, h.cell 1, h.cell 2, h.cell 3, h.cell 4, h.cell 5, h.cell 6⟩
theorem Mid.c_B (h : Mid w a C) : a.B ≠ a.c := fun e => h.mt.no (by rw [e]; exact blk_ty h.cb)
theorem Mid.c_LA (h : Mid w a C) {b : Nat} (hb : In a.LA b) : b ≠ a.c ∧ b ≠ a.B := by
  refine ⟨fun e => ?_, fun e => h.mt.no (by rw [← e]; exact row_ty h.lr hb)⟩
  subst e
  exact (row_ty h.lr hb).apart (blk_ty h.cb) (by decide)
/-- The chain's own block turned, then the map; the links stay. -/
theorem Mid.turned {w1 : World} {C1 : Ch} {y : Nat} (h : Mid w a C) (hb : Blk w1 a.c 174 (chc a C1)) (ho : Only (· = a.c) w w1) (em : C1.met = y :: C.met) (el : C1.lk = C.lk) : ∀ w2, Mth w2 a.B (y :: C.met) → Only (· = a.B) w1 w2 → Mids w a C1 w2 := by
  intro w2 hm ho2
  refine ⟨a.LA, a.lcap, ⟨h.cv, hb.only ho2 h.c_B.symm, by rw [em]; exact hm, ?_, h.ap⟩, fun b hb => .inl hb, (ho.mono (fun x _ q => .inl q)).trans' ho2 (fun x _ q => .inr (.inl q))⟩
  rw [el]
  exact (h.lr.only ho (fun b hb => (h.c_LA hb).1)).only ho2 (fun b hb => (h.c_LA hb).2)
/-- The links turned, then the chain's own block, then the map. -/
theorem Mid.linked {w2 w3 : World} {C1 : Ch} {y : Nat} {A2 : Option Addr} {cap2 : Nat} (h : Mid w a C) (hlt : ∀ e ∈ a.ps, ∀ b, In e.A b → b < w.heap.size) (hR : LkRow w2 A2 cap2 C1.lk) (hO : Only (In a.LA) w w2) (hA : ∀ b, In A2 b → In a.LA b ∨ w.heap.size ≤ b)
    (hb : Blk w3 a.c 174 (chc { a with LA := A2, lcap := cap2 } C1)) (ho : Only (· = a.c) w2 w3) (em : C1.met = y :: C.met) : ∀ w4, Mth w4 a.B (y :: C.met) → Only (· = a.B) w3 w4 → Mids w a C1 w4 := by
  intro w4 hm ho4
  have hc2 := h.cb.only hO (fun q => (h.c_LA q).1 rfl)
  have hm2 := h.mt.only hO (fun q => (h.c_LA q).2 rfl)
  have h1 : ∀ b, In A2 b → b ≠ a.c ∧ b ≠ a.B := fun b hb => ⟨fun e => (row_ty hR hb).apart (e ▸ blk_ty hc2 : Ty w2 b [174]) (by decide), fun e => hm2.no (e ▸ row_ty hR hb : Ty w2 a.B [185])⟩
  refine ⟨A2, cap2, ⟨h.cv, hb.only ho4 h.c_B.symm, by rw [em]; exact hm, (hR.only ho (fun b hb => (h1 b hb).1)).only ho4 (fun b hb => (h1 b hb).2), fun e he b hb hx => ?_⟩, hA, ?_⟩
  · rcases hA b hb with q | q
    · exact h.ap e he b q hx
    · have := hlt e he b hx
      omega
  · exact ((hO.mono (fun x _ q => (.inr (.inr q) : x = a.c ∨ x = a.B ∨ In a.LA x))).trans' ho (fun x _ q => .inl q)).trans' ho4 (fun x _ q => .inr (.inl q))
theorem only3 {c : Nat} (w : World) (i j k : Nat) (u v y : Value) : Only (· = c) w (((w.setCell ⟨c, i, none⟩ u).setCell ⟨c, j, none⟩ v).setCell ⟨c, k, none⟩ y) :=
  (((Only.refl (· = c) w).setCell (p := ⟨c, i, none⟩) (.inl rfl) _).setCell (p := ⟨c, j, none⟩) (.inl rfl) _).setCell (p := ⟨c, k, none⟩) (.inl rfl) _
theorem only2 {c : Nat} (w : World) (i j : Nat) (u v : Value) : Only (· = c) w ((w.setCell ⟨c, i, none⟩ u).setCell ⟨c, j, none⟩ v) :=
  ((Only.refl (· = c) w).setCell (p := ⟨c, i, none⟩) (.inl rfl) _).setCell (p := ⟨c, j, none⟩) (.inl rfl) _
set_option maxHeartbeats 2000000 in
/-- One more: the first one of its half. -/
theorem add_first0 (h : Mid w a C) {x : Nat} (hx : x ≤ 18446744073709551615) (hm : C.met.length ≤ 1000000) (h0 : C.fi.1 = 0) : Calls Tryz.prog 106 #[ptr a.c, .int .u64 x, .int .i64 0] w fun e w' => e = .returned (.tuple #[]) ∧ Mids w a (C.add x 0) w' := by
  obtain ⟨k0, k1, k2, k3, k4, k5, k6⟩ := hd_chain h.cb
  have z0 := h.cb.frozen 0
  have z2 := h.cb.frozen 2
  have z4 := h.cb.frozen 4
  have hO := Lib.hid (fun u v y => only3 (c := a.c) w 0 2 4 u v y)
  have e : C.add x 0 = ⟨(x, C.fi.2), (x, C.la.2), 0, x :: C.met, C.lk⟩ := by
    unfold Ch.add sel put
    simp [h0]
  rw [e]
  have hE := Lib.hid (h.turned (C1 := ⟨(x, C.fi.2), (x, C.la.2), 0, x :: C.met, C.lk⟩) (y := x) (((h.cb.store 0 (.int .u64 x)).store 2 (.int .u64 x)).store 4 (.int .i64 0)) (hO.out _ _ _) rfl rfl)
  rw [h0] at k0
  have hB2 := Lib.hid h.c_B
  have H := Lib.hid h.mt
  clear h e
  go_enter Tryz.func106, Tryz.ntmps106
  go_wp2_with (at_mapUpdate
               refine wpList_mth (B := a.B) (ms := C.met) rfl (.tmp 57) (.tmp 58) (.tmp 59) rfl (H.out.only (hO.out _ _ _) hB2.out) hm x hx 0 (by omega) rfl rfl rfl ?_
               intro w2 hM2 hO2)
  go_end0
  exact ⟨rfl, hE.out w2 hM2 hO2⟩
set_option maxHeartbeats 2000000 in
/-- One more: behind one of its half. -/
theorem add_next0 (h : Mid w a C) {x : Nat} (hx : x ≤ 18446744073709551615) (hm : C.met.length ≤ 1000000) (h0 : C.fi.1 ≠ 0) (hh : C.half = 0) : Calls Tryz.prog 106 #[ptr a.c, .int .u64 x, .int .i64 0] w fun e w' => e = .returned (.tuple #[]) ∧ Mids w a (C.add x 0) w' := by
  obtain ⟨k0, k1, k2, k3, k4, k5, k6⟩ := hd_chain h.cb
  have z2 := h.cb.frozen 2
  have z4 := h.cb.frozen 4
  have hO := Lib.hid (fun u v => only2 (c := a.c) w 2 4 u v)
  have e : C.add x 0 = ⟨C.fi, (x, C.la.2), 0, x :: C.met, C.lk⟩ := by
    unfold Ch.add sel put
    simp [h0, hh]
  rw [e]
  have hE := Lib.hid (h.turned (C1 := ⟨C.fi, (x, C.la.2), 0, x :: C.met, C.lk⟩) (y := x) ((h.cb.store 2 (.int .u64 x)).store 4 (.int .i64 0)) (hO.out _ _) rfl rfl)
  rw [hh] at k4
  have q0 : ((C.fi.1 : Int) == 0) = false := by simp; omega
  have hB2 := Lib.hid h.c_B
  have H := Lib.hid h.mt
  clear h e hh h0
  generalize C.fi.1 = fi0 at *
  go_enter Tryz.func106, Tryz.ntmps106
  go_wp2_with (at_mapUpdate
               refine wpList_mth (B := a.B) (ms := C.met) rfl (.tmp 57) (.tmp 58) (.tmp 59) rfl (H.out.only (hO.out _ _) hB2.out) hm x hx 0 (by omega) rfl rfl rfl ?_
               intro w2 hM2 hO2)
  go_end0
  exact ⟨rfl, hE.out w2 hM2 hO2⟩
set_option maxHeartbeats 2000000 in
/-- One more: behind one of the other half. -/
theorem add_link0 (h : Mid w a C) {x : Nat} (hx : x ≤ 18446744073709551615) (hm : C.met.length ≤ 1000000) (h0 : C.fi.1 ≠ 0) (hh : C.half = 1) (hl : C.lk.length ≤ 100000) (hlt : ∀ e ∈ a.ps, ∀ b, In e.A b → b < w.heap.size) : Calls Tryz.prog 106 #[ptr a.c, .int .u64 x, .int .i64 0] w fun e w' => e = .returned (.tuple #[]) ∧ Mids w a (C.add x 0) w' := by
  obtain ⟨k0, k1, k2, k3, k4, k5, k6⟩ := hd_chain h.cb
  have z2 := h.cb.frozen 2
  have z4 := h.cb.frozen 4
  have z6 := h.cb.frozen 6
  have e : C.add x 0 = ⟨C.fi, (x, C.la.2), 0, x :: C.met, C.lk ++ [(C.la.1, x)]⟩ := by
    unfold Ch.add sel put
    simp [h0, hh]
  rw [e]
  rw [hh] at k4
  have q0 : ((C.fi.1 : Int) == 0) = false := by simp; omega
  have H := Lib.hid h
  have lc : a.c < w.drew.heap.size := h.cb.lt
  obtain ⟨i0, hi0, hz0, hz1, hz2⟩ := info_parts info_link
  generalize hln : C.lk.length = n at *
  replace hln := Lib.hid hln
  generalize hll : C.la.1 = l0 at *
  replace hll := Lib.hid hll
  clear h e hh h0
  generalize C.fi.1 = fi0 at *
  go_enter Tryz.func106, Tryz.ntmps106
  go_upto_region 3 with (fail)
  have r0 : w.drew.cell? ⟨a.c, 6, none⟩ = some (.slice a.LA n a.lcap) ∧ w.drew.cell? ⟨a.c, 2, none⟩ = some (.int .u64 l0) := ⟨k6, k2⟩
  refine wp_region_noPanic ?_
  refine Rn.wp_region_N (fun w' => w'.cell? ⟨a.c, 6, none⟩ = some (.slice a.LA n a.lcap) ∧ w'.cell? ⟨a.c, 2, none⟩ = some (.int .u64 l0)) (fun j => j == 15) (by kernel_rfl) ?_
  refine Rn.wpN_take0 (i := 0) (oi := ⟨some 27, _, _, _, _, _⟩) (v := ptr a.c) (by rfl) (by kernel_rfl) (by kernel_rfl) (by kernel_rfl) rfl (fun _ _ _ h => h.elim) (Or.inl ⟨by rfl, by intro w' _; go_simp⟩) r0 ?_
  try simp only [Act.put, List.setIfInBounds_toArray, List.set_cons_zero, List.set_cons_succ]
  refine Rn.wpN_take0 (i := 1) (oi := ⟨some 28, _, _, _, _, _⟩) (v := ptr a.c) (by rfl) (by kernel_rfl) (by kernel_rfl) (by kernel_rfl) rfl (fun _ _ _ h => h.elim) (Or.inl ⟨by rfl, by intro w' _; go_simp⟩) r0 ?_
  try simp only [Act.put, List.setIfInBounds_toArray, List.set_cons_zero, List.set_cons_succ]
  refine Rn.wpN_take0 (i := 2) (oi := ⟨some 29, _, _, _, _, _⟩) (v := .pointer (some ⟨a.c, 0, none⟩)) (by rfl) (by kernel_rfl) (by kernel_rfl) (by kernel_rfl) rfl (fun _ _ _ h => h.elim) (Or.inl ⟨by rfl, by intro w' _; go_simp⟩) r0 ?_
  try simp only [Act.put, List.setIfInBounds_toArray, List.set_cons_zero, List.set_cons_succ]
  refine Rn.wpN_take0 (i := 3) (oi := ⟨some 30, _, _, _, _, _⟩) (v := .pointer (some ⟨a.c, 6, none⟩)) (by rfl) (by kernel_rfl) (by kernel_rfl) (by kernel_rfl) rfl (fun _ _ _ h => h.elim) (Or.inl ⟨by rfl, by intro w' _; go_simp⟩) r0 ?_
  try simp only [Act.put, List.setIfInBounds_toArray, List.set_cons_zero, List.set_cons_succ]
  refine Rn.wpN_take (i := 4) (oi := ⟨some 31, _, _, _, _, _⟩) (v := .slice a.LA n a.lcap) (by rfl) (by kernel_rfl) (by kernel_rfl) (by kernel_rfl) rfl (by intro j hj; rw [show j = 15 from by simpa using hj]; kernel_rfl) (fun _ _ _ h => h.elim) (Or.inl ⟨by rfl, by intro w' hSw; go_simp⟩) r0 ?_
  try simp only [Act.put, List.setIfInBounds_toArray, List.set_cons_zero, List.set_cons_succ]
  refine Rn.wpN_take0 (i := 5) (oi := ⟨some 32, _, _, _, _, _⟩) (v := ptr a.c) (by rfl) (by kernel_rfl) (by kernel_rfl) (by kernel_rfl) rfl (fun _ _ _ h => h.elim) (Or.inl ⟨by rfl, by intro w' _; go_simp⟩) r0 ?_
  try simp only [Act.put, List.setIfInBounds_toArray, List.set_cons_zero, List.set_cons_succ]
  refine Rn.wpN_take0 (i := 6) (oi := ⟨some 33, _, _, _, _, _⟩) (v := .int .i64 0) (by rfl) (by kernel_rfl) (by kernel_rfl) (by kernel_rfl) rfl (fun _ _ _ h => h.elim) (Or.inl ⟨by rfl, by intro w' _; go_simp⟩) r0 ?_
  try simp only [Act.put, List.setIfInBounds_toArray, List.set_cons_zero, List.set_cons_succ]
  refine Rn.wpN_take0 (i := 7) (oi := ⟨some 34, _, _, _, _, _⟩) (v := .pointer (some ⟨a.c, 0, none⟩)) (by rfl) (by kernel_rfl) (by kernel_rfl) (by kernel_rfl) rfl (fun _ _ _ h => h.elim) (Or.inl ⟨by rfl, by intro w' _; go_simp⟩) r0 ?_
  try simp only [Act.put, List.setIfInBounds_toArray, List.set_cons_zero, List.set_cons_succ]
  refine Rn.wpN_take0 (i := 8) (oi := ⟨some 35, _, _, _, _, _⟩) (v := .pointer (some ⟨a.c, 2, none⟩)) (by rfl) (by kernel_rfl) (by kernel_rfl) (by kernel_rfl) rfl (fun _ _ _ h => h.elim) (Or.inl ⟨by rfl, by intro w' _; go_simp⟩) r0 ?_
  try simp only [Act.put, List.setIfInBounds_toArray, List.set_cons_zero, List.set_cons_succ]
  refine Rn.wpN_take0 (i := 9) (oi := ⟨some 36, _, _, _, _, _⟩) (v := .pointer (some ⟨a.c, 2, none⟩)) (by rfl) (by kernel_rfl) (by kernel_rfl) (by kernel_rfl) rfl (fun _ _ _ h => h.elim) (Or.inl ⟨by rfl, by intro w' _; go_simp⟩) r0 ?_
  try simp only [Act.put, List.setIfInBounds_toArray, List.set_cons_zero, List.set_cons_succ]
  refine Rn.wpN_take (i := 10) (oi := ⟨some 37, _, _, _, _, _⟩) (v := .int .u64 l0) (by rfl) (by kernel_rfl) (by kernel_rfl) (by kernel_rfl) rfl (by intro j hj; rw [show j = 15 from by simpa using hj]; kernel_rfl) (fun _ _ _ h => h.elim) (Or.inl ⟨by rfl, by intro w' hSw; go_simp⟩) r0 ?_
  try simp only [Act.put, List.setIfInBounds_toArray, List.set_cons_zero, List.set_cons_succ]
  refine Rn.wpN_take0 (i := 11) (oi := ⟨some 38, _, _, _, _, _⟩) (v := .int .u64 x) (by rfl) (by kernel_rfl) (by kernel_rfl) (by kernel_rfl) rfl (fun _ _ _ h => h.elim) (Or.inl ⟨by rfl, by intro w' _; go_simp⟩) r0 ?_
  try simp only [Act.put, List.setIfInBounds_toArray, List.set_cons_zero, List.set_cons_succ]
  refine Rn.wpN_take0 (i := 12) (oi := ⟨some 39, _, _, _, _, _⟩) (v := .agg #[.int .u64 l0, .int .u64 x]) (by rfl) (by kernel_rfl) (by kernel_rfl) (by kernel_rfl) rfl (fun _ _ _ h => h.elim) (Or.inl ⟨by rfl, by intro w' _; go_simp⟩) r0 ?_
  try simp only [Act.put, List.setIfInBounds_toArray, List.set_cons_zero, List.set_cons_succ]
  refine Rn.wpN_one (i := 13) (o := ⟨some 40, _, _, _, _, _⟩) (by kernel_rfl) (by rfl) rfl ?_
  intro K hK
  go_simp
  have r1 : (w.drew.alloc (.cells #[.int .u64 l0, .int .u64 x] 185)).cell? ⟨a.c, 6, none⟩ = some (.slice a.LA n a.lcap) ∧ (w.drew.alloc (.cells #[.int .u64 l0, .int .u64 x] 185)).cell? ⟨a.c, 2, none⟩ = some (.int .u64 l0) :=
    ⟨(Only.cell ((Only.refl (fun _ => False) w.drew).alloc _) (p := ⟨a.c, 6, none⟩) lc (by simp)).trans k6, (Only.cell ((Only.refl (fun _ => False) w.drew).alloc _) (p := ⟨a.c, 2, none⟩) lc (by simp)).trans k2⟩
  refine hK _ _ r1 ?_
  clear hK
  try simp only [Act.put, List.setIfInBounds_toArray, List.set_cons_zero, List.set_cons_succ]
  have hL1 : LkRow (w.drew.alloc (.cells #[.int .u64 l0, .int .u64 x] 185)) a.LA a.lcap C.lk := H.out.lr.only (((Only.refl (fun _ => False) w).drew).alloc _) (by simp)
  have hN1 := Blk.made w.drew 185 #[.int .u64 l0, .int .u64 x]
  obtain ⟨A2, cap2, w2, hrun, hR2, hO2, hA2⟩ := run_one (P := Tryz.prog) (w.drew.alloc (.cells #[.int .u64 l0, .int .u64 x] 185)) 172 172 185 i0 _ 2 16 Tryz.underlying172 hi0 hz0 hz1 hz2 rfl (by omega) lkv lkv_len
    (by intro x u hu; simp [lkv] at hu; rcases hu with rfl | rfl <;> rfl) hln.out hL1 (l0, x) ⟨w.drew.heap.size, 0, none⟩ 1 (by
      intro j u hu
      rw [Addr.add_lit, Nat.zero_add, hN1.cell]
      simpa [lkv] using hu) (by simp only [maxLen]; omega) (by omega)
  refine Rn.wpN_one (i := 14) (o := ⟨some 41, _, _, _, _, _⟩) (by kernel_rfl) (by rfl) rfl ?_
  intro K hK
  refine step_app rfl (.tmp 31) (.tmp 40) 172 rfl (.slice a.LA n a.lcap) (.slice (some ⟨w.drew.heap.size, 0, none⟩) 1 1) rfl rfl hrun ?_
  have hc2 : Blk w2 a.c 174 (chc a C) := (H.out.cb.only (((Only.refl (fun _ => False) w).drew).alloc _) (by simp)).only hO2 (fun q => (H.out.c_LA q).1 rfl)
  have p6 := hc2.cell 6
  have p2 := hc2.cell 2
  have p4 := hc2.cell 4
  have p5 := hc2.cell 5
  have hcc : chc a C = #[.int .u64 C.fi.1, .int .u64 C.fi.2, .int .u64 C.la.1, .int .u64 C.la.2, .int .i64 C.half, .map (some a.B), .slice a.LA n a.lcap] := by unfold chc; rw [hln.out]
  rw [hcc] at p6 p2 p4 p5
  simp only [List.getElem?_toArray, List.getElem?_cons_succ, List.getElem?_cons_zero, hll.out] at p6 p2 p4 p5
  refine hK _ _ ⟨p6, p2⟩ ?_
  clear hK
  try simp only [Act.put, List.setIfInBounds_toArray, List.set_cons_zero, List.set_cons_succ]
  refine Rn.wpN_tail 15 (by rfl) (by kernel_rfl) (by rfl) ?_
  dsimp only [List.drop]
  have hO02 : Only (In a.LA) w w2 := (((Only.refl (In a.LA) w).drew).alloc _).trans' hO2 (fun x _ q => q)
  have y6 := hc2.frozen 6
  have y2 := hc2.frozen 2
  have y4 := hc2.frozen 4
  have hO3 := Lib.hid (fun u v y => only3 (c := a.c) w2 6 2 4 u v y)
  have hE := Lib.hid (H.out.linked (C1 := ⟨C.fi, (x, C.la.2), 0, x :: C.met, C.lk ++ [(l0, x)]⟩) (y := x) hlt hR2 hO02 (fun b hb => by
    rcases hA2 b hb with q | q
    · exact .inl q
    · refine .inr (Nat.le_trans ?_ q)
      simp) (by
    have hb := ((hc2.store 6 (.slice A2 ((n + 1 : Nat)) cap2)).store 2 (.int .u64 x)).store 4 (.int .i64 0)
    rw [hcc] at hb
    simp only [chc, List.length_append, List.length_singleton, hln.out]
    exact hb) (hO3.out _ _ _) rfl)
  have hm2 := Lib.hid (H.out.mt.only hO02 (fun q => (H.out.c_LA q).2 rfl))
  have hB2 := Lib.hid H.out.c_B
  clear k0 k1 k2 k3 k4 k5 k6 z2 z4 z6 r0 r1 hL1 hN1 hrun hR2 hO2 hA2 hcc hO02 hc2 hlt
  go_wp2_with fail
  refine NoPanic.normal ?_
  go_wp2_with (at_mapUpdate
               refine wpList_mth (B := a.B) (ms := C.met) rfl (.tmp 57) (.tmp 58) (.tmp 59) rfl (hm2.out.only (hO3.out _ _ _) hB2.out) hm x hx 0 (by omega) rfl rfl rfl ?_
               intro w5 hM5 hO5)
  go_end0
  exact ⟨rfl, hE.out w5 hM5 hO5⟩
set_option maxHeartbeats 2000000 in
/-- One more: the first one of its half. -/
theorem add_first1 (h : Mid w a C) {x : Nat} (hx : x ≤ 18446744073709551615) (hm : C.met.length ≤ 1000000) (h0 : C.fi.2 = 0) : Calls Tryz.prog 106 #[ptr a.c, .int .u64 x, .int .i64 1] w fun e w' => e = .returned (.tuple #[]) ∧ Mids w a (C.add x 1) w' := by
  obtain ⟨k0, k1, k2, k3, k4, k5, k6⟩ := hd_chain h.cb
  have z0 := h.cb.frozen 1
  have z2 := h.cb.frozen 3
  have z4 := h.cb.frozen 4
  have hO := Lib.hid (fun u v y => only3 (c := a.c) w 1 3 4 u v y)
  have e : C.add x 1 = ⟨(C.fi.1, x), (C.la.1, x), 1, x :: C.met, C.lk⟩ := by
    unfold Ch.add sel put
    simp [h0]
  rw [e]
  have hE := Lib.hid (h.turned (C1 := ⟨(C.fi.1, x), (C.la.1, x), 1, x :: C.met, C.lk⟩) (y := x) (((h.cb.store 1 (.int .u64 x)).store 3 (.int .u64 x)).store 4 (.int .i64 1)) (hO.out _ _ _) rfl rfl)
  rw [h0] at k1
  have hB2 := Lib.hid h.c_B
  have H := Lib.hid h.mt
  clear h e
  go_enter Tryz.func106, Tryz.ntmps106
  go_wp2_with (at_mapUpdate
               refine wpList_mth (B := a.B) (ms := C.met) rfl (.tmp 57) (.tmp 58) (.tmp 59) rfl (H.out.only (hO.out _ _ _) hB2.out) hm x hx 1 (by omega) rfl rfl rfl ?_
               intro w2 hM2 hO2)
  go_end0
  exact ⟨rfl, hE.out w2 hM2 hO2⟩
set_option maxHeartbeats 2000000 in
/-- One more: behind one of its half. -/
theorem add_next1 (h : Mid w a C) {x : Nat} (hx : x ≤ 18446744073709551615) (hm : C.met.length ≤ 1000000) (h0 : C.fi.2 ≠ 0) (hh : C.half = 1) : Calls Tryz.prog 106 #[ptr a.c, .int .u64 x, .int .i64 1] w fun e w' => e = .returned (.tuple #[]) ∧ Mids w a (C.add x 1) w' := by
  obtain ⟨k0, k1, k2, k3, k4, k5, k6⟩ := hd_chain h.cb
  have z2 := h.cb.frozen 3
  have z4 := h.cb.frozen 4
  have hO := Lib.hid (fun u v => only2 (c := a.c) w 3 4 u v)
  have e : C.add x 1 = ⟨C.fi, (C.la.1, x), 1, x :: C.met, C.lk⟩ := by
    unfold Ch.add sel put
    simp [h0, hh]
  rw [e]
  have hE := Lib.hid (h.turned (C1 := ⟨C.fi, (C.la.1, x), 1, x :: C.met, C.lk⟩) (y := x) ((h.cb.store 3 (.int .u64 x)).store 4 (.int .i64 1)) (hO.out _ _) rfl rfl)
  rw [hh] at k4
  have q0 : ((C.fi.2 : Int) == 0) = false := by simp; omega
  have hB2 := Lib.hid h.c_B
  have H := Lib.hid h.mt
  clear h e hh h0
  generalize C.fi.2 = fi0 at *
  go_enter Tryz.func106, Tryz.ntmps106
  go_wp2_with (at_mapUpdate
               refine wpList_mth (B := a.B) (ms := C.met) rfl (.tmp 57) (.tmp 58) (.tmp 59) rfl (H.out.only (hO.out _ _) hB2.out) hm x hx 1 (by omega) rfl rfl rfl ?_
               intro w2 hM2 hO2)
  go_end0
  exact ⟨rfl, hE.out w2 hM2 hO2⟩
set_option maxHeartbeats 2000000 in
/-- One more: behind one of the other half. -/
theorem add_link1 (h : Mid w a C) {x : Nat} (hx : x ≤ 18446744073709551615) (hm : C.met.length ≤ 1000000) (h0 : C.fi.2 ≠ 0) (hh : C.half = 0) (hl : C.lk.length ≤ 100000) (hlt : ∀ e ∈ a.ps, ∀ b, In e.A b → b < w.heap.size) : Calls Tryz.prog 106 #[ptr a.c, .int .u64 x, .int .i64 1] w fun e w' => e = .returned (.tuple #[]) ∧ Mids w a (C.add x 1) w' := by
  obtain ⟨k0, k1, k2, k3, k4, k5, k6⟩ := hd_chain h.cb
  have z2 := h.cb.frozen 3
  have z4 := h.cb.frozen 4
  have z6 := h.cb.frozen 6
  have e : C.add x 1 = ⟨C.fi, (C.la.1, x), 1, x :: C.met, C.lk ++ [(C.la.2, x)]⟩ := by
    unfold Ch.add sel put
    simp [h0, hh]
  rw [e]
  rw [hh] at k4
  have q0 : ((C.fi.2 : Int) == 0) = false := by simp; omega
  have H := Lib.hid h
  have lc : a.c < w.drew.heap.size := h.cb.lt
  obtain ⟨i0, hi0, hz0, hz1, hz2⟩ := info_parts info_link
  generalize hln : C.lk.length = n at *
  replace hln := Lib.hid hln
  generalize hll : C.la.2 = l0 at *
  replace hll := Lib.hid hll
  clear h e hh h0
  generalize C.fi.2 = fi0 at *
  go_enter Tryz.func106, Tryz.ntmps106
  go_upto_region 3 with (fail)
  have r0 : w.drew.cell? ⟨a.c, 6, none⟩ = some (.slice a.LA n a.lcap) ∧ w.drew.cell? ⟨a.c, 3, none⟩ = some (.int .u64 l0) := ⟨k6, k3⟩
  refine wp_region_noPanic ?_
  refine Rn.wp_region_N (fun w' => w'.cell? ⟨a.c, 6, none⟩ = some (.slice a.LA n a.lcap) ∧ w'.cell? ⟨a.c, 3, none⟩ = some (.int .u64 l0)) (fun j => j == 15) (by kernel_rfl) ?_
  refine Rn.wpN_take0 (i := 0) (oi := ⟨some 27, _, _, _, _, _⟩) (v := ptr a.c) (by rfl) (by kernel_rfl) (by kernel_rfl) (by kernel_rfl) rfl (fun _ _ _ h => h.elim) (Or.inl ⟨by rfl, by intro w' _; go_simp⟩) r0 ?_
  try simp only [Act.put, List.setIfInBounds_toArray, List.set_cons_zero, List.set_cons_succ]
  refine Rn.wpN_take0 (i := 1) (oi := ⟨some 28, _, _, _, _, _⟩) (v := ptr a.c) (by rfl) (by kernel_rfl) (by kernel_rfl) (by kernel_rfl) rfl (fun _ _ _ h => h.elim) (Or.inl ⟨by rfl, by intro w' _; go_simp⟩) r0 ?_
  try simp only [Act.put, List.setIfInBounds_toArray, List.set_cons_zero, List.set_cons_succ]
  refine Rn.wpN_take0 (i := 2) (oi := ⟨some 29, _, _, _, _, _⟩) (v := .pointer (some ⟨a.c, 0, none⟩)) (by rfl) (by kernel_rfl) (by kernel_rfl) (by kernel_rfl) rfl (fun _ _ _ h => h.elim) (Or.inl ⟨by rfl, by intro w' _; go_simp⟩) r0 ?_
  try simp only [Act.put, List.setIfInBounds_toArray, List.set_cons_zero, List.set_cons_succ]
  refine Rn.wpN_take0 (i := 3) (oi := ⟨some 30, _, _, _, _, _⟩) (v := .pointer (some ⟨a.c, 6, none⟩)) (by rfl) (by kernel_rfl) (by kernel_rfl) (by kernel_rfl) rfl (fun _ _ _ h => h.elim) (Or.inl ⟨by rfl, by intro w' _; go_simp⟩) r0 ?_
  try simp only [Act.put, List.setIfInBounds_toArray, List.set_cons_zero, List.set_cons_succ]
  refine Rn.wpN_take (i := 4) (oi := ⟨some 31, _, _, _, _, _⟩) (v := .slice a.LA n a.lcap) (by rfl) (by kernel_rfl) (by kernel_rfl) (by kernel_rfl) rfl (by intro j hj; rw [show j = 15 from by simpa using hj]; kernel_rfl) (fun _ _ _ h => h.elim) (Or.inl ⟨by rfl, by intro w' hSw; go_simp⟩) r0 ?_
  try simp only [Act.put, List.setIfInBounds_toArray, List.set_cons_zero, List.set_cons_succ]
  refine Rn.wpN_take0 (i := 5) (oi := ⟨some 32, _, _, _, _, _⟩) (v := ptr a.c) (by rfl) (by kernel_rfl) (by kernel_rfl) (by kernel_rfl) rfl (fun _ _ _ h => h.elim) (Or.inl ⟨by rfl, by intro w' _; go_simp⟩) r0 ?_
  try simp only [Act.put, List.setIfInBounds_toArray, List.set_cons_zero, List.set_cons_succ]
  refine Rn.wpN_take0 (i := 6) (oi := ⟨some 33, _, _, _, _, _⟩) (v := .int .i64 1) (by rfl) (by kernel_rfl) (by kernel_rfl) (by kernel_rfl) rfl (fun _ _ _ h => h.elim) (Or.inl ⟨by rfl, by intro w' _; go_simp⟩) r0 ?_
  try simp only [Act.put, List.setIfInBounds_toArray, List.set_cons_zero, List.set_cons_succ]
  refine Rn.wpN_take0 (i := 7) (oi := ⟨some 34, _, _, _, _, _⟩) (v := .pointer (some ⟨a.c, 0, none⟩)) (by rfl) (by kernel_rfl) (by kernel_rfl) (by kernel_rfl) rfl (fun _ _ _ h => h.elim) (Or.inl ⟨by rfl, by intro w' _; go_simp⟩) r0 ?_
  try simp only [Act.put, List.setIfInBounds_toArray, List.set_cons_zero, List.set_cons_succ]
  refine Rn.wpN_take0 (i := 8) (oi := ⟨some 35, _, _, _, _, _⟩) (v := .pointer (some ⟨a.c, 2, none⟩)) (by rfl) (by kernel_rfl) (by kernel_rfl) (by kernel_rfl) rfl (fun _ _ _ h => h.elim) (Or.inl ⟨by rfl, by intro w' _; go_simp⟩) r0 ?_
  try simp only [Act.put, List.setIfInBounds_toArray, List.set_cons_zero, List.set_cons_succ]
  refine Rn.wpN_take0 (i := 9) (oi := ⟨some 36, _, _, _, _, _⟩) (v := .pointer (some ⟨a.c, 3, none⟩)) (by rfl) (by kernel_rfl) (by kernel_rfl) (by kernel_rfl) rfl (fun _ _ _ h => h.elim) (Or.inl ⟨by rfl, by intro w' _; go_simp⟩) r0 ?_
  try simp only [Act.put, List.setIfInBounds_toArray, List.set_cons_zero, List.set_cons_succ]
  refine Rn.wpN_take (i := 10) (oi := ⟨some 37, _, _, _, _, _⟩) (v := .int .u64 l0) (by rfl) (by kernel_rfl) (by kernel_rfl) (by kernel_rfl) rfl (by intro j hj; rw [show j = 15 from by simpa using hj]; kernel_rfl) (fun _ _ _ h => h.elim) (Or.inl ⟨by rfl, by intro w' hSw; go_simp⟩) r0 ?_
  try simp only [Act.put, List.setIfInBounds_toArray, List.set_cons_zero, List.set_cons_succ]
  refine Rn.wpN_take0 (i := 11) (oi := ⟨some 38, _, _, _, _, _⟩) (v := .int .u64 x) (by rfl) (by kernel_rfl) (by kernel_rfl) (by kernel_rfl) rfl (fun _ _ _ h => h.elim) (Or.inl ⟨by rfl, by intro w' _; go_simp⟩) r0 ?_
  try simp only [Act.put, List.setIfInBounds_toArray, List.set_cons_zero, List.set_cons_succ]
  refine Rn.wpN_take0 (i := 12) (oi := ⟨some 39, _, _, _, _, _⟩) (v := .agg #[.int .u64 l0, .int .u64 x]) (by rfl) (by kernel_rfl) (by kernel_rfl) (by kernel_rfl) rfl (fun _ _ _ h => h.elim) (Or.inl ⟨by rfl, by intro w' _; go_simp⟩) r0 ?_
  try simp only [Act.put, List.setIfInBounds_toArray, List.set_cons_zero, List.set_cons_succ]
  refine Rn.wpN_one (i := 13) (o := ⟨some 40, _, _, _, _, _⟩) (by kernel_rfl) (by rfl) rfl ?_
  intro K hK
  go_simp
  have r1 : (w.drew.alloc (.cells #[.int .u64 l0, .int .u64 x] 185)).cell? ⟨a.c, 6, none⟩ = some (.slice a.LA n a.lcap) ∧ (w.drew.alloc (.cells #[.int .u64 l0, .int .u64 x] 185)).cell? ⟨a.c, 3, none⟩ = some (.int .u64 l0) :=
    ⟨(Only.cell ((Only.refl (fun _ => False) w.drew).alloc _) (p := ⟨a.c, 6, none⟩) lc (by simp)).trans k6, (Only.cell ((Only.refl (fun _ => False) w.drew).alloc _) (p := ⟨a.c, 3, none⟩) lc (by simp)).trans k3⟩
  refine hK _ _ r1 ?_
  clear hK
  try simp only [Act.put, List.setIfInBounds_toArray, List.set_cons_zero, List.set_cons_succ]
  have hL1 : LkRow (w.drew.alloc (.cells #[.int .u64 l0, .int .u64 x] 185)) a.LA a.lcap C.lk := H.out.lr.only (((Only.refl (fun _ => False) w).drew).alloc _) (by simp)
  have hN1 := Blk.made w.drew 185 #[.int .u64 l0, .int .u64 x]
  obtain ⟨A2, cap2, w2, hrun, hR2, hO2, hA2⟩ := run_one (P := Tryz.prog) (w.drew.alloc (.cells #[.int .u64 l0, .int .u64 x] 185)) 172 172 185 i0 _ 2 16 Tryz.underlying172 hi0 hz0 hz1 hz2 rfl (by omega) lkv lkv_len
    (by intro x u hu; simp [lkv] at hu; rcases hu with rfl | rfl <;> rfl) hln.out hL1 (l0, x) ⟨w.drew.heap.size, 0, none⟩ 1 (by
      intro j u hu
      rw [Addr.add_lit, Nat.zero_add, hN1.cell]
      simpa [lkv] using hu) (by simp only [maxLen]; omega) (by omega)
  refine Rn.wpN_one (i := 14) (o := ⟨some 41, _, _, _, _, _⟩) (by kernel_rfl) (by rfl) rfl ?_
  intro K hK
  refine step_app rfl (.tmp 31) (.tmp 40) 172 rfl (.slice a.LA n a.lcap) (.slice (some ⟨w.drew.heap.size, 0, none⟩) 1 1) rfl rfl hrun ?_
  have hc2 : Blk w2 a.c 174 (chc a C) := (H.out.cb.only (((Only.refl (fun _ => False) w).drew).alloc _) (by simp)).only hO2 (fun q => (H.out.c_LA q).1 rfl)
  have p6 := hc2.cell 6
  have p3 := hc2.cell 3
  have p4 := hc2.cell 4
  have p5 := hc2.cell 5
  have hcc : chc a C = #[.int .u64 C.fi.1, .int .u64 C.fi.2, .int .u64 C.la.1, .int .u64 C.la.2, .int .i64 C.half, .map (some a.B), .slice a.LA n a.lcap] := by unfold chc; rw [hln.out]
  rw [hcc] at p6 p3 p4 p5
  simp only [List.getElem?_toArray, List.getElem?_cons_succ, List.getElem?_cons_zero, hll.out] at p6 p3 p4 p5
  refine hK _ _ ⟨p6, p3⟩ ?_
  clear hK
  try simp only [Act.put, List.setIfInBounds_toArray, List.set_cons_zero, List.set_cons_succ]
  refine Rn.wpN_tail 15 (by rfl) (by kernel_rfl) (by rfl) ?_
  dsimp only [List.drop]
  have hO02 : Only (In a.LA) w w2 := (((Only.refl (In a.LA) w).drew).alloc _).trans' hO2 (fun x _ q => q)
  have y6 := hc2.frozen 6
  have y3 := hc2.frozen 3
  have y4 := hc2.frozen 4
  have hO3 := Lib.hid (fun u v y => only3 (c := a.c) w2 6 3 4 u v y)
  have hE := Lib.hid (H.out.linked (C1 := ⟨C.fi, (C.la.1, x), 1, x :: C.met, C.lk ++ [(l0, x)]⟩) (y := x) hlt hR2 hO02 (fun b hb => by
    rcases hA2 b hb with q | q
    · exact .inl q
    · refine .inr (Nat.le_trans ?_ q)
      simp) (by
    have hb := ((hc2.store 6 (.slice A2 ((n + 1 : Nat)) cap2)).store 3 (.int .u64 x)).store 4 (.int .i64 1)
    rw [hcc] at hb
    simp only [chc, List.length_append, List.length_singleton, hln.out]
    exact hb) (hO3.out _ _ _) rfl)
  have hm2 := Lib.hid (H.out.mt.only hO02 (fun q => (H.out.c_LA q).2 rfl))
  have hB2 := Lib.hid H.out.c_B
  clear k0 k1 k2 k3 k4 k5 k6 z2 z4 z6 r0 r1 hL1 hN1 hrun hR2 hO2 hA2 hcc hO02 hc2 hlt
  go_wp2_with fail
  refine NoPanic.normal ?_
  go_wp2_with (at_mapUpdate
               refine wpList_mth (B := a.B) (ms := C.met) rfl (.tmp 57) (.tmp 58) (.tmp 59) rfl (hm2.out.only (hO3.out _ _ _) hB2.out) hm x hx 1 (by omega) rfl rfl rfl ?_
               intro w5 hM5 hO5)
  go_end0
  exact ⟨rfl, hE.out w5 hM5 hO5⟩
end
end Go.Proofs.YtmapijbfnakdiaaGreat.Gw
/- Layer 13 (grow): the end of a chain that is gone along. -/
namespace Go.Proofs.YtmapijbfnakdiaaGreat.Gw
open Go Go.RowKit Hp K Fl Rw Hm Ar Mm Me Qs Wk Pn
set_option maxRecDepth 100000

section
variable {w w' : World} {a : Gl} {C : Ch}
/-- What the end of a chain answers and leaves. -/
def Over (w : World) (a : Gl) (C : Ch) (l : List (Nat × Nat)) (e : Ending) (w' : World) : Prop :=
  ∃ A2 cap2, e = .returned (.slice A2 l.length cap2) ∧ LkRow w' A2 cap2 l ∧ (∀ b, In A2 b → In a.LA b ∨ w.heap.size ≤ b) ∧ Fst w' a.c C.fi ∧ Only (fun x => x = a.c ∨ In a.LA x) w w'
theorem Mid.fst (h : Mid w a C) : Fst w a.c C.fi := ⟨_, h.cb, rfl, rfl⟩
set_option maxHeartbeats 2000000 in
theorem end_none0 (h : Mid w a C) (h0 : 0 ∉ C.met) (hh : C.half = 0) (hl : C.la.2 = 0) : Calls Tryz.prog 104 #[ptr a.c, .int .u64 0] w (Over w a C C.over) := by
  have e : C.over = C.lk := by unfold Ch.over sel; simp [hh, hl]
  rw [e]
  obtain ⟨k0, k1, k2, k3, k4, k5, k6⟩ := hd_chain h.cb
  rw [hh] at k4
  rw [hl] at k3
  have hL := fun n => (h.mt.only ((Only.refl (fun _ => False) w).drewN n) (by simp)).look (x := 0) (by omega)
  replace hL : Hid (∀ n, ∃ c : Int, (Instr.lookup 170 (.map (some a.B)) (.int .u64 0) true).run Tryz.prog (w.drewN n) = .ok (.tuple #[.int .i64 c, .bool (decide (0 ∈ C.met))]) (w.drewN n)) := Lib.hid hL
  have hE := Lib.hid (fun n => show Over w a C C.lk (.returned (.slice a.LA C.lk.length a.lcap)) (w.drewN n) from ⟨a.LA, a.lcap, rfl, h.lr.only ((Only.refl (fun _ => False) w).drewN n) (by simp), fun b hb => .inl hb, by
    obtain ⟨cs, h1, h2⟩ := h.fst
    exact ⟨cs, h1.only ((Only.refl (fun _ => False) w).drewN n) (by simp), h2⟩, (Only.refl _ w).drewN n⟩)
  rw [show decide (0 ∈ C.met) = false by simpa using h0] at hL
  clear h h0 e
  go_enter Tryz.func104, Tryz.ntmps104
  go_wp2_with fail
  go_quiet (fail)
  obtain ⟨z, hlk⟩ := hL.out nq
  go_wp2_with fail
  go_ret
  exact hE.out _
set_option maxHeartbeats 2000000 in
theorem end_none1 (h : Mid w a C) (h0 : 0 ∉ C.met) (hh : C.half = 1) (hl : C.la.1 = 0) : Calls Tryz.prog 104 #[ptr a.c, .int .u64 0] w (Over w a C C.over) := by
  have e : C.over = C.lk := by unfold Ch.over sel; simp [hh, hl]
  rw [e]
  obtain ⟨k0, k1, k2, k3, k4, k5, k6⟩ := hd_chain h.cb
  rw [hh] at k4
  rw [hl] at k2
  have hL := fun n => (h.mt.only ((Only.refl (fun _ => False) w).drewN n) (by simp)).look (x := 0) (by omega)
  replace hL : Hid (∀ n, ∃ c : Int, (Instr.lookup 170 (.map (some a.B)) (.int .u64 0) true).run Tryz.prog (w.drewN n) = .ok (.tuple #[.int .i64 c, .bool (decide (0 ∈ C.met))]) (w.drewN n)) := Lib.hid hL
  have hE := Lib.hid (fun n => show Over w a C C.lk (.returned (.slice a.LA C.lk.length a.lcap)) (w.drewN n) from ⟨a.LA, a.lcap, rfl, h.lr.only ((Only.refl (fun _ => False) w).drewN n) (by simp), fun b hb => .inl hb, by
    obtain ⟨cs, h1, h2⟩ := h.fst
    exact ⟨cs, h1.only ((Only.refl (fun _ => False) w).drewN n) (by simp), h2⟩, (Only.refl _ w).drewN n⟩)
  rw [show decide (0 ∈ C.met) = false by simpa using h0] at hL
  clear h h0 e
  go_enter Tryz.func104, Tryz.ntmps104
  go_wp2_with fail
  go_quiet (fail)
  obtain ⟨z, hlk⟩ := hL.out nq
  go_wp2_with fail
  go_ret
  exact hE.out _
set_option maxHeartbeats 2000000 in
theorem end_link0 (h : Mid w a C) (h0 : 0 ∉ C.met) (hh : C.half = 0) (hl : C.la.2 ≠ 0) (hn : C.lk.length ≤ 100000) : Calls Tryz.prog 104 #[ptr a.c, .int .u64 0] w (Over w a C C.over) := by
  have e : C.over = C.lk ++ [(C.la.2, 0)] := by unfold Ch.over sel; simp [hh, hl]
  rw [e]
  obtain ⟨k0, k1, k2, k3, k4, k5, k6⟩ := hd_chain h.cb
  rw [hh] at k4
  have q0 : ((C.la.2 : Int) != 0) = true := by simp; omega
  obtain ⟨i0, hi0, hz0, hz1, hz2⟩ := info_parts info_link
  generalize hln : C.lk.length = n at *
  replace hln := Lib.hid hln
  have H := Lib.hid h
  have H0 := Lib.hid h0
  have z6 := h.cb.frozen 6
  clear h h0 e hl hh
  generalize hll : C.la.2 = l0 at *
  replace hll := Lib.hid hll
  go_enter Tryz.func104, Tryz.ntmps104
  go_wp2_with fail
  go_quiet (fail)
  have H1 : Mid (w.drewN nq) a C := H.out.only ((Only.refl (fun _ => False) w).drewN nq) (by simp) (by simp) (by simp)
  have hO1 := Lib.hid ((Only.refl (fun x => x = a.c ∨ In a.LA x) w).drewN nq)
  have hsz : (w.drewN nq).heap.size = w.heap.size := rfl
  replace hsz := Lib.hid hsz
  replace H1 := Lib.hid H1
  clear k0 k1 k2 k3 k4 k5 k6 z6
  generalize w.drewN nq = w1 at *
  obtain ⟨k0, k1, k2, k3, k4, k5, k6⟩ := hd_chain H1.out.cb
  rw [hln.out] at k6
  have z6 := H1.out.cb.frozen 6
  go_wp2_with (at_builtin
               refine wpList_append_one w1 rfl (.tmp 24) (.tmp 27) 172 rfl 185 i0 _ 2 16 Tryz.underlying172 hi0 hz0 hz1 hz2 rfl (by omega) lkv lkv_len (by intro x u hu; simp [lkv] at hu; rcases hu with rfl | rfl <;> rfl)
                 a.LA a.lcap n C.lk hln.out (l0, 0) #[.int .u64 l0, .int .u64 0] rfl rfl H1.out.lr rfl (by simp only [maxLen]; omega) (by omega) ?_
               intro A2 cap2 w2 hR2 hO2 hA2
               have hB2 := H1.out.cb.only hO2 (fun q => (H1.out.c_LA q).1 rfl)
               have p6 := hB2.cell 6
               have p5 := hB2.cell 5
               have y6 := hB2.frozen 6
               simp only [chc, List.getElem?_toArray, List.getElem?_cons_succ, List.getElem?_cons_zero] at p5 p6
               obtain ⟨z, hlk⟩ := ((H1.out.mt.only hO2 (fun q => (H1.out.c_LA q).2 rfl)).only ((Only.refl (· = a.c) w2).setCell (p := ⟨a.c, 6, none⟩) (.inl rfl) (.slice A2 (n + 1 : Nat) cap2)) H1.out.c_B).look (x := 0) (by omega)
               rw [show decide (0 ∈ C.met) = false by simpa using H0.out] at hlk
               replace hlk : (Instr.lookup 170 (.map (some a.B)) (.int .u64 0) true).run Tryz.prog (w2.setCell ⟨a.c, 6, none⟩ (.slice A2 (n + 1) cap2)) = .ok (.tuple #[.int .i64 z, .bool false]) (w2.setCell ⟨a.c, 6, none⟩ (.slice A2 (n + 1) cap2)) := hlk
               replace hR2 := Lib.hid hR2
               replace hO2 := Lib.hid hO2
               replace hA2 := Lib.hid hA2
               replace hB2 := Lib.hid hB2)
  go_ret
  have hOs := (Only.refl (· = a.c) w2).setCell (p := ⟨a.c, 6, none⟩) (.inl rfl) (.slice A2 (n + 1) cap2)
  refine ⟨A2, cap2, by simp [hln.out], hR2.out.only hOs (fun b hb e => (row_ty hR2.out hb).apart (e ▸ blk_ty hB2.out : Ty w2 b [174]) (by decide)), fun b hb => ?_, ⟨_, hB2.out.store 6 (.slice A2 (n + 1) cap2), by simp [chc], by simp [chc]⟩, ?_⟩
  · have := hA2.out b hb
    rw [hsz.out] at this
    exact this
  · exact (hO1.out.trans' hO2.out (fun x _ q => .inr q)).trans' hOs (fun x _ q => .inl q)
set_option maxHeartbeats 2000000 in
theorem end_link1 (h : Mid w a C) (h0 : 0 ∉ C.met) (hh : C.half = 1) (hl : C.la.1 ≠ 0) (hn : C.lk.length ≤ 100000) : Calls Tryz.prog 104 #[ptr a.c, .int .u64 0] w (Over w a C C.over) := by
  have e : C.over = C.lk ++ [(C.la.1, 0)] := by unfold Ch.over sel; simp [hh, hl]
  rw [e]
  obtain ⟨k0, k1, k2, k3, k4, k5, k6⟩ := hd_chain h.cb
  rw [hh] at k4
  have q0 : ((C.la.1 : Int) != 0) = true := by simp; omega
  obtain ⟨i0, hi0, hz0, hz1, hz2⟩ := info_parts info_link
  generalize hln : C.lk.length = n at *
  replace hln := Lib.hid hln
  have H := Lib.hid h
  have H0 := Lib.hid h0
  have z6 := h.cb.frozen 6
  clear h h0 e hl hh
  generalize hll : C.la.1 = l0 at *
  replace hll := Lib.hid hll
  go_enter Tryz.func104, Tryz.ntmps104
  go_wp2_with fail
  go_quiet (fail)
  have H1 : Mid (w.drewN nq) a C := H.out.only ((Only.refl (fun _ => False) w).drewN nq) (by simp) (by simp) (by simp)
  have hO1 := Lib.hid ((Only.refl (fun x => x = a.c ∨ In a.LA x) w).drewN nq)
  have hsz : (w.drewN nq).heap.size = w.heap.size := rfl
  replace hsz := Lib.hid hsz
  replace H1 := Lib.hid H1
  clear k0 k1 k2 k3 k4 k5 k6 z6
  generalize w.drewN nq = w1 at *
  obtain ⟨k0, k1, k2, k3, k4, k5, k6⟩ := hd_chain H1.out.cb
  rw [hln.out] at k6
  have z6 := H1.out.cb.frozen 6
  go_wp2_with (at_builtin
               refine wpList_append_one w1 rfl (.tmp 24) (.tmp 27) 172 rfl 185 i0 _ 2 16 Tryz.underlying172 hi0 hz0 hz1 hz2 rfl (by omega) lkv lkv_len (by intro x u hu; simp [lkv] at hu; rcases hu with rfl | rfl <;> rfl)
                 a.LA a.lcap n C.lk hln.out (l0, 0) #[.int .u64 l0, .int .u64 0] rfl rfl H1.out.lr rfl (by simp only [maxLen]; omega) (by omega) ?_
               intro A2 cap2 w2 hR2 hO2 hA2
               have hB2 := H1.out.cb.only hO2 (fun q => (H1.out.c_LA q).1 rfl)
               have p6 := hB2.cell 6
               have p5 := hB2.cell 5
               have y6 := hB2.frozen 6
               simp only [chc, List.getElem?_toArray, List.getElem?_cons_succ, List.getElem?_cons_zero] at p5 p6
               obtain ⟨z, hlk⟩ := ((H1.out.mt.only hO2 (fun q => (H1.out.c_LA q).2 rfl)).only ((Only.refl (· = a.c) w2).setCell (p := ⟨a.c, 6, none⟩) (.inl rfl) (.slice A2 (n + 1 : Nat) cap2)) H1.out.c_B).look (x := 0) (by omega)
               rw [show decide (0 ∈ C.met) = false by simpa using H0.out] at hlk
               replace hlk : (Instr.lookup 170 (.map (some a.B)) (.int .u64 0) true).run Tryz.prog (w2.setCell ⟨a.c, 6, none⟩ (.slice A2 (n + 1) cap2)) = .ok (.tuple #[.int .i64 z, .bool false]) (w2.setCell ⟨a.c, 6, none⟩ (.slice A2 (n + 1) cap2)) := hlk
               replace hR2 := Lib.hid hR2
               replace hO2 := Lib.hid hO2
               replace hA2 := Lib.hid hA2
               replace hB2 := Lib.hid hB2)
  go_ret
  have hOs := (Only.refl (· = a.c) w2).setCell (p := ⟨a.c, 6, none⟩) (.inl rfl) (.slice A2 (n + 1) cap2)
  refine ⟨A2, cap2, by simp [hln.out], hR2.out.only hOs (fun b hb e => (row_ty hR2.out hb).apart (e ▸ blk_ty hB2.out : Ty w2 b [174]) (by decide)), fun b hb => ?_, ⟨_, hB2.out.store 6 (.slice A2 (n + 1) cap2), by simp [chc], by simp [chc]⟩, ?_⟩
  · have := hA2.out b hb
    rw [hsz.out] at this
    exact this
  · exact (hO1.out.trans' hO2.out (fun x _ q => .inr q)).trans' hOs (fun x _ q => .inl q)
theorem end_any (h : Mid w a C) (h0 : 0 ∉ C.met) (hh : C.half ≤ 1) (hn : C.lk.length ≤ 100000) : Calls Tryz.prog 104 #[ptr a.c, .int .u64 0] w (Over w a C C.over) := by
  have : C.half = 0 ∨ C.half = 1 := by omega
  rcases this with q | q
  · by_cases hl : C.la.2 = 0
    · exact end_none0 h h0 q hl
    · exact end_link0 h h0 q hl hn
  · by_cases hl : C.la.1 = 0
    · exact end_none1 h h0 q hl
    · exact end_link1 h h0 q hl hn
/-- One more, of whichever half. -/
theorem add_any (h : Mid w a C) {x y : Nat} (hx : x ≤ 18446744073709551615) (hm : C.met.length ≤ 1000000) (hy : y ≤ 1) (hh : C.half ≤ 1) (hl : C.lk.length ≤ 100000) (hlt : ∀ e ∈ a.ps, ∀ b, In e.A b → b < w.heap.size) :
    Calls Tryz.prog 106 #[ptr a.c, .int .u64 x, .int .i64 y] w fun e w' => e = .returned (.tuple #[]) ∧ Mids w a (C.add x y) w' := by
  have : C.half = 0 ∨ C.half = 1 := by omega
  have hy' : y = 0 ∨ y = 1 := by omega
  rcases hy' with rfl | rfl
  · by_cases h0 : C.fi.1 = 0
    · exact add_first0 h hx hm h0
    · rcases this with q | q
      · exact add_next0 h hx hm h0 q
      · exact add_link0 h hx hm h0 q hl hlt
  · by_cases h0 : C.fi.2 = 0
    · exact add_first1 h hx hm h0
    · rcases this with q | q
      · exact add_link1 h hx hm h0 q hl hlt
      · exact add_next1 h hx hm h0 q
end
end Go.Proofs.YtmapijbfnakdiaaGreat.Gw
