/- One who parts or joins buckets, mixed with two who get keys, by picks, then by turns: each get finds what there is, and it comes to its end (plain). -/
import Derived.Test.YtmapijbfnakdiaaGreatWayC
import Derived.Test.YtmapijbfnakdiaaGreatFrm
namespace Go.Proofs.YtmapijbfnakdiaaGreat.Mx
open Go Hm Ar Mm Wk Pc Me Mq Pn Gt Qs Zp

/-- What the one who parts or joins buckets keeps, by steps that are left (m), and by how much longer a get may come to be (c). D: how far it came; nothing of it hangs on the counters of the workers 1 and 2. -/
structure GLaw {P D : Type} (wy : D → Wy) (DOk : D → Lm → Prop) (Ok : Lm → P → Prop) (rd : Lm → P → Bool) (st : Lm → P → Lm × P) (dn : Lm → P → Bool) (l : List Pr) (J : D → (Nat → Int → Nat → Prop) → Lm → P → Nat → Nat → Prop) (Q : Lm → P → Prop) : Prop where
  ways : ∀ {Z L}, DOk Z L → (wy Z).Ok L l
  few : ∀ {Z L}, DOk Z L → (wy Z).few ≤ 35
  k3 : ∀ {Z L}, DOk Z L → 3 ≤ L.k
  ctr : ∀ {Z L}, DOk Z L → ∀ (w : Nat) (p : Int), w = 1 ∨ w = 2 → 0 ≤ p → p ≤ 18446744073709551615 → DOk Z { L with xs := L.xs.set (2 + w) p }
  ok : ∀ {Z old L p m c}, J Z old L p m c → DOk Z L → Ok L p
  pub : ∀ {Z old L p m c}, J Z old L p m c → (wy Z).pub = false → ∀ w x e, old w x e
  pos : ∀ {Z old L p m c}, J Z old L p m c → DOk Z L → 1 ≤ m
  wait : ∀ {Z old L p m c}, J Z old L p m c → DOk Z L → rd L p = false → Cl.nth L.xs 3 ≠ 0 ∨ Cl.nth L.xs 4 ≠ 0
  over : ∀ {Z old L p m c}, J Z old L p m c → DOk Z L → rd L p = true → dn L p = true → Q (st L p).1 (st L p).2
  go : ∀ {Z old L p m c}, J Z old L p m c → DOk Z L → rd L p = true → dn L p = false → ∃ Z' old' m' c' j, m' + 1 ≤ m ∧ c' + j ≤ c ∧ J Z' old' (st L p).1 (st L p).2 m' c' ∧ DOk Z' (st L p).1 ∧
    (∀ (R : Rn) (k : Nat), R.w = 1 ∨ R.w = 2 → RnOk (wy Z) L l old R k → ∃ k', k' ≤ k + j ∧ RnOk (wy Z') (st L p).1 l old' R k') ∧ Cl.nth (st L p).1.xs 3 = Cl.nth L.xs 3 ∧ Cl.nth (st L p).1.xs 4 = Cl.nth L.xs 4
  stays : ∀ {Z old L p m c}, J Z old L p m c → ∀ (w : Nat) (p' : Int), w = 1 ∨ w = 2 → J Z old { L with xs := L.xs.set (2 + w) p' } p m c
/-- All of a mix. -/
structure Ms (P : Type) where
  L : Lm
  p : P
  a : Rn
  b : Rn
section
variable {P D : Type} {wy : D → Wy} {DOk : D → Lm → Prop} {Ok : Lm → P → Prop} {rd : Lm → P → Bool} {st : Lm → P → Lm × P} {dn : Lm → P → Bool} {l : List Pr} {J : D → (Nat → Int → Nat → Prop) → Lm → P → Nat → Nat → Prop} {Q : Lm → P → Prop} {len M0 D0 i : Nat} {S : Ms P}
/-- By turns: what is left; whether somebody came nearer to the end since the last turn of the first one began. -/
def Turns (len T i Ψ : Nat) (ba bb : Bool) : Prop := (len + 2) / 3 ≤ i / 3 → ∃ f : Nat, f ≤ 1 ∧ Ψ + i / 3 + f ≤ T + (len + 2) / 3 ∧ (f = 0 → i % 3 = 0 ∨ (i % 3 = 1 ∧ (ba = true ∨ bb = true)) ∨ (i % 3 = 2 ∧ bb = true))
/-- Ahead of a round. -/
def MInv (wy : D → Wy) (DOk : D → Lm → Prop) (J : D → (Nat → Int → Nat → Prop) → Lm → P → Nat → Nat → Prop) (l : List Pr) (len M0 D0 : Nat) (i : Nat) (S : Ms P) : Prop :=
  ∃ Z old m c ka kb, DOk Z S.L ∧ J Z old S.L S.p m c ∧ RnOk (wy Z) S.L l old S.a ka ∧ RnOk (wy Z) S.L l old S.b kb ∧ S.a.w = 1 ∧ S.b.w = 2 ∧ S.a.n ≤ i ∧ S.b.n ≤ i ∧
    (m ≤ M0 ∧ c ≤ D0) ∧ ka + c ≤ 40 + D0 ∧ kb + c ≤ 40 + D0 ∧ (S.a.g.isSome = false → ka = 0) ∧ (S.b.g.isSome = false → kb = 0) ∧
    (len ≤ i → Turns len (M0 + 80 + 2 * D0) i (m + (ka + c) + (kb + c)) S.a.g.isSome S.b.g.isSome)
theorem Turns.start {T Ψ : Nat} {ba bb : Bool} (h : Ψ ≤ T) (hi : i ≤ len) : Turns len T i Ψ ba bb := fun q => by
  have h1 : i / 3 = (len + 2) / 3 := by omega
  have h2 : i % 3 = 0 := by omega
  exact ⟨0, by omega, by omega, fun _ => .inl h2⟩
theorem Turns.early {T Ψ Ψ' : Nat} {ba bb ba' bb' : Bool} (h : len ≤ i → Turns len T i Ψ ba bb) (hT : Ψ' ≤ T) (hi : i < len) : Turns len T (i + 1) Ψ' ba' bb' := Turns.start hT (by omega)
/-- Somebody came nearer. -/
theorem Turns.near {T Ψ Ψ' : Nat} {ba bb ba' bb' : Bool} (h : Turns len T i Ψ ba bb) (hΨ : Ψ' + 1 ≤ Ψ) (hT : Ψ' ≤ T) : Turns len T (i + 1) Ψ' ba' bb' := fun q => by
  by_cases hq : (len + 2) / 3 ≤ i / 3
  · obtain ⟨f, h1, h2, h3⟩ := h hq
    by_cases hm : i % 3 = 2
    · exact ⟨0, by omega, by omega, fun _ => .inl (by omega)⟩
    · exact ⟨1, by omega, by omega, fun q => by omega⟩
  · exact ⟨0, by omega, by omega, fun _ => .inl (by omega)⟩
/-- Nobody came nearer. -/
theorem Turns.same {T Ψ : Nat} {ba bb ba' bb' : Bool} (h : Turns len T i Ψ ba bb) (hT : Ψ ≤ T) (h0 : i % 3 = 0 → ba' = true ∨ bb' = true) (h1 : i % 3 = 1 → (ba = true ∨ bb = true) → bb' = true) (h2 : i % 3 = 2 → bb = false) : Turns len T (i + 1) Ψ ba' bb' := fun q => by
  by_cases hq : (len + 2) / 3 ≤ i / 3
  · obtain ⟨f, g1, g2, g3⟩ := h hq
    have hm : i % 3 = 0 ∨ i % 3 = 1 ∨ i % 3 = 2 := by omega
    rcases hm with hm | hm | hm
    · exact ⟨f, g1, by omega, fun e => .inr (.inl ⟨by omega, h0 hm⟩)⟩
    · refine ⟨f, g1, by omega, fun e => .inr (.inr ⟨by omega, ?_⟩)⟩
      rcases g3 e with q | ⟨_, q⟩ | ⟨q, _⟩
      · omega
      · exact h1 hm q
      · omega
    · have hf : f = 1 := by
        by_cases e : f = 0
        · rcases g3 e with q | ⟨q, _⟩ | ⟨_, q⟩
          · omega
          · omega
          · rw [h2 hm] at q; simp at q
        · omega
      exact ⟨0, by omega, by omega, fun _ => .inl (by omega)⟩
  · exact ⟨0, by omega, by omega, fun _ => .inl (by omega)⟩
theorem MInv.flag (F : GLaw wy DOk Ok rd st dn l J Q) (h : MInv wy DOk J l len M0 D0 i S) : S.L.F = false := by
  obtain ⟨Z, old, m, c, ka, kb, hZ, _⟩ := h
  exact (F.ways hZ).F
theorem MInv.ok (F : GLaw wy DOk Ok rd st dn l J Q) (h : MInv wy DOk J l len M0 D0 i S) : Ok S.L S.p := by
  obtain ⟨Z, old, m, c, ka, kb, hZ, hJ, _⟩ := h
  exact F.ok hJ hZ
theorem MInv.n (h : MInv wy DOk J l len M0 D0 i S) : S.a.n ≤ i ∧ S.b.n ≤ i := by
  obtain ⟨Z, old, m, c, ka, kb, hZ, hJ, h1, h2, h3, h4, h5, h6, _⟩ := h
  exact ⟨h5, h6⟩
theorem MInv.ends (h : MInv wy DOk J l len M0 D0 i S) (hT : 3 * (M0 + 80 + 2 * D0) + 6 ≤ 20000) (hi : len + 20000 ≤ i) : False := by
  obtain ⟨Z, old, m, c, ka, kb, hZ, hJ, h1, h2, h3, h4, h5, h6, h7, h8, h9, h10, h11, h12⟩ := h
  obtain ⟨f, g1, g2, _⟩ := h12 (by omega) (by omega)
  omega
/-- The first one's turn: it is done. -/
theorem MInv.over (F : GLaw wy DOk Ok rd st dn l J Q) (h : MInv wy DOk J l len M0 D0 i S) (hr : rd S.L S.p = true) (hd : dn S.L S.p = true) : Q (st S.L S.p).1 (st S.L S.p).2 := by
  obtain ⟨Z, old, m, c, ka, kb, hZ, hJ, _⟩ := h
  exact F.over hJ hZ hr hd
/-- The first one's turn: it goes on. -/
theorem MInv.go (F : GLaw wy DOk Ok rd st dn l J Q) (h : MInv wy DOk J l len M0 D0 i S) (hr : rd S.L S.p = true) (hd : dn S.L S.p = false) : MInv wy DOk J l len M0 D0 (i + 1) ⟨(st S.L S.p).1, (st S.L S.p).2, S.a, S.b⟩ := by
  obtain ⟨Z, old, m, c, ka, kb, hZ, hJ, h1, h2, h3, h4, h5, h6, h7, h8, h9, h10, h11, h12⟩ := h
  obtain ⟨Z', old', m', c', j, q1, q2, q3, q4, q5, _, _⟩ := F.go hJ hZ hr hd
  obtain ⟨ka', a1, a2⟩ := q5 S.a ka (.inl h3) h1
  obtain ⟨kb', b1, b2⟩ := q5 S.b kb (.inr h4) h2
  have zero : ∀ {R : Rn} {k : Nat}, RnOk (wy Z') (st S.L S.p).1 l old' R k → R.g.isSome = false → k = 0 := fun {R k} hR hg => by
    unfold RnOk at hR
    split at hR
    · exact hR.2
    · rename_i q; rw [q] at hg; simp at hg
  refine ⟨Z', old', m', c', ka', kb', q4, q3, a2, b2, h3, h4, by show S.a.n ≤ _; omega, by show S.b.n ≤ _; omega, ⟨by omega, by omega⟩, by omega, by omega, zero a2, zero b2, fun hi => ?_⟩
  by_cases hl : len ≤ i
  · exact Turns.near (h12 hl) (by omega) (by omega)
  · exact Turns.start (by omega) (by omega)
/-- The first one's turn: it waits. -/
theorem MInv.wait (F : GLaw wy DOk Ok rd st dn l J Q) (h : MInv wy DOk J l len M0 D0 i S) (hr : rd S.L S.p = false) (hp : len ≤ i → i % 3 = 0) : MInv wy DOk J l len M0 D0 (i + 1) S := by
  obtain ⟨Z, old, m, c, ka, kb, hZ, hJ, h1, h2, h3, h4, h5, h6, h7, h8, h9, h10, h11, h12⟩ := h
  have busy : ∀ {R : Rn} {k : Nat}, RnOk (wy Z) S.L l old R k → Cl.nth S.L.xs (2 + R.w) ≠ 0 → R.g.isSome = true := fun {R k} hR hc => by
    unfold RnOk at hR
    split at hR
    · exact absurd hR.1 hc
    · rename_i q; rw [q]; rfl
  refine ⟨Z, old, m, c, ka, kb, hZ, hJ, h1, h2, h3, h4, by omega, by omega, h7, h8, h9, h10, h11, fun hi => ?_⟩
  by_cases hl : len ≤ i
  · refine Turns.same (h12 hl) (by omega) (fun _ => ?_) (fun q => by have := hp hl; omega) (fun q => by have := hp hl; omega)
    rcases F.wait hJ hZ hr with q | q
    · exact .inl (busy h1 (by rw [h3]; exact q))
    · exact .inr (busy h2 (by rw [h4]; exact q))
  · exact Turns.start (by omega) (by omega)
/-- One who gets keys has no turn. -/
theorem MInv.idleA (h : MInv wy DOk J l len M0 D0 i S) (hp : len ≤ i → i % 3 = 1 ∧ S.a.g.isSome = false) : MInv wy DOk J l len M0 D0 (i + 1) S := by
  obtain ⟨Z, old, m, c, ka, kb, hZ, hJ, h1, h2, h3, h4, h5, h6, h7, h8, h9, h10, h11, h12⟩ := h
  refine ⟨Z, old, m, c, ka, kb, hZ, hJ, h1, h2, h3, h4, by omega, by omega, h7, h8, h9, h10, h11, fun hi => ?_⟩
  by_cases hl : len ≤ i
  · obtain ⟨p1, p2⟩ := hp hl
    exact Turns.same (h12 hl) (by omega) (fun q => by omega) (fun _ q => by rw [p2] at q; simpa using q) (fun q => by omega)
  · exact Turns.start (by omega) (by omega)
theorem MInv.idleB (h : MInv wy DOk J l len M0 D0 i S) (hp : len ≤ i → i % 3 = 2 ∧ S.b.g.isSome = false) : MInv wy DOk J l len M0 D0 (i + 1) S := by
  obtain ⟨Z, old, m, c, ka, kb, hZ, hJ, h1, h2, h3, h4, h5, h6, h7, h8, h9, h10, h11, h12⟩ := h
  refine ⟨Z, old, m, c, ka, kb, hZ, hJ, h1, h2, h3, h4, by omega, by omega, h7, h8, h9, h10, h11, fun hi => ?_⟩
  by_cases hl : len ≤ i
  · obtain ⟨p1, p2⟩ := hp hl
    exact Turns.same (h12 hl) (by omega) (fun q => by omega) (fun q => by omega) (fun _ => p2)
  · exact Turns.start (by omega) (by omega)
theorem next_n (R : Rn) (L : Lm) : (R.next L).n ≤ R.n + 1 ∧ (R.next L).w = R.w ∧ (R.next L).keys = R.keys := by
  unfold Rn.next
  split
  · exact ⟨Nat.le_refl _, rfl, rfl⟩
  · exact ⟨Nat.le_succ _, rfl, rfl⟩
/-- A step of the one, beside the other. -/
theorem MInv.stepA (F : GLaw wy DOk Ok rd st dn l J Q) (h : MInv wy DOk J l len M0 D0 i S) (hp : len ≤ i → i % 3 = 1 ∧ S.a.g.isSome = true) :
    (∀ r, r ≤ 4000000000000000000 → Okg r S.L.ds S.L.ss S.L.xs S.a.get) ∧ (Gt.ggdn S.a.get = true → Gt.Fits (Pc.lk l S.a.key) (S.a.st S.L).2.2.W) ∧ (S.a.mem S.L).F = false ∧ MInv wy DOk J l len M0 D0 (i + 1) ⟨S.a.mem S.L, S.p, S.a.next S.L, S.b⟩ := by
  obtain ⟨Z, old, m, c, ka, kb, hZ, hJ, h1, h2, h3, h4, h5, h6, h7, h8, h9, h10, h11, h12⟩ := h
  have hk := F.k3 hZ
  have hpub := F.pub hJ
  have hY := F.ways hZ
  obtain ⟨g1, g2, g3, g4, g5, j, g6, g7, g8, g9⟩ := h1.step hY hpub (by rw [h3]; omega) (by rw [h3, h4]; omega) h2
  have hfew := F.few hZ
  have hDJ : DOk Z (S.a.mem S.L) ∧ J Z old (S.a.mem S.L) S.p m c := by
    rcases g4 with ⟨p, p0, p1, e⟩ | e
    · rw [e]
      exact ⟨F.ctr hZ _ p (.inl h3) p0 p1, F.stays hJ _ p (.inl h3)⟩
    · rw [e]
      exact ⟨hZ, hJ⟩
  obtain ⟨n1, n2, n3⟩ := next_n S.a S.L
  have hj : j ≤ 40 ∨ j + 1 ≤ ka := by
    cases hg : S.a.g.isSome with
    | true => exact .inr (g7 hg)
    | false => have := h10 hg; exact .inl (by omega)
  have hjc : j + c ≤ 40 + D0 := by omega
  refine ⟨g1, g2, g3, Z, old, m, c, j, kb, hDJ.1, hDJ.2, g6, g5, by show (S.a.next S.L).w = 1; rw [n2]; exact h3, h4, by show (S.a.next S.L).n ≤ _; omega, by show S.b.n ≤ _; omega, h7, hjc, h9, g9, h11, fun hi => ?_⟩
  by_cases hl : len ≤ i
  · obtain ⟨p1, p2⟩ := hp hl
    have := g7 p2
    exact Turns.near (h12 hl) (by omega) (by omega)
  · exact Turns.start (by omega) (by omega)
theorem MInv.stepB (F : GLaw wy DOk Ok rd st dn l J Q) (h : MInv wy DOk J l len M0 D0 i S) (hp : len ≤ i → i % 3 = 2 ∧ S.b.g.isSome = true) :
    (∀ r, r ≤ 4000000000000000000 → Okg r S.L.ds S.L.ss S.L.xs S.b.get) ∧ (Gt.ggdn S.b.get = true → Gt.Fits (Pc.lk l S.b.key) (S.b.st S.L).2.2.W) ∧ (S.b.mem S.L).F = false ∧ MInv wy DOk J l len M0 D0 (i + 1) ⟨S.b.mem S.L, S.p, S.a, S.b.next S.L⟩ := by
  obtain ⟨Z, old, m, c, ka, kb, hZ, hJ, h1, h2, h3, h4, h5, h6, h7, h8, h9, h10, h11, h12⟩ := h
  have hk := F.k3 hZ
  have hpub := F.pub hJ
  have hY := F.ways hZ
  obtain ⟨g1, g2, g3, g4, g5, j, g6, g7, g8, g9⟩ := h2.step hY hpub (by rw [h4]; omega) (by rw [h3, h4]; omega) h1
  have hfew := F.few hZ
  have hDJ : DOk Z (S.b.mem S.L) ∧ J Z old (S.b.mem S.L) S.p m c := by
    rcases g4 with ⟨p, p0, p1, e⟩ | e
    · rw [e]
      exact ⟨F.ctr hZ _ p (.inr h4) p0 p1, F.stays hJ _ p (.inr h4)⟩
    · rw [e]
      exact ⟨hZ, hJ⟩
  obtain ⟨n1, n2, n3⟩ := next_n S.b S.L
  have hj : j ≤ 40 ∨ j + 1 ≤ kb := by
    cases hg : S.b.g.isSome with
    | true => exact .inr (g7 hg)
    | false => have := h11 hg; exact .inl (by omega)
  have hjc : j + c ≤ 40 + D0 := by omega
  refine ⟨g1, g2, g3, Z, old, m, c, ka, j, hDJ.1, hDJ.2, g5, g6, h3, by show (S.b.next S.L).w = 2; rw [n2]; exact h4, by show S.a.n ≤ _; omega, by show (S.b.next S.L).n ≤ _; omega, h7, h8, hjc, h10, g9, fun hi => ?_⟩
  by_cases hl : len ≤ i
  · obtain ⟨p1, p2⟩ := hp hl
    have := g7 p2
    exact Turns.near (h12 hl) (by omega) (by omega)
  · exact Turns.start (by omega) (by omega)
/-- Alone: it is ready, and comes nearer to its end by each step (finish_frm's R). -/
def Alone (DOk : D → Lm → Prop) (J : D → (Nat → Int → Nat → Prop) → Lm → P → Nat → Nat → Prop) (k : Nat) (s : Lm × P) : Prop := ∃ Z old m c, m ≤ k ∧ DOk Z s.1 ∧ J Z old s.1 s.2 m c ∧ Cl.nth s.1.xs 3 = 0 ∧ Cl.nth s.1.xs 4 = 0
theorem Alone.step (F : GLaw wy DOk Ok rd st dn l J Q) {k : Nat} {s : Lm × P} (h : Alone DOk J k s) : Ok s.1 s.2 ∧ rd s.1 s.2 = true ∧ 1 ≤ k ∧ (dn s.1 s.2 = true → Q (st s.1 s.2).1 (st s.1 s.2).2) ∧ (dn s.1 s.2 = false → Alone DOk J (k - 1) (st s.1 s.2)) := by
  obtain ⟨Z, old, m, c, hm, hZ, hJ, h3, h4⟩ := h
  have hr : rd s.1 s.2 = true := by
    cases hr : rd s.1 s.2 with
    | true => rfl
    | false =>
      rcases F.wait hJ hZ hr with q | q
      · exact absurd h3 q
      · exact absurd h4 q
  have hp := F.pos hJ hZ
  refine ⟨F.ok hJ hZ, hr, by omega, fun hd => F.over hJ hZ hr hd, fun hd => ?_⟩
  obtain ⟨Z', old', m', c', j, q1, q2, q3, q4, q5, q6, q7⟩ := F.go hJ hZ hr hd
  exact ⟨Z', old', m', c', by omega, q4, q3, q6.trans h3, q7.trans h4⟩
end
end Go.Proofs.YtmapijbfnakdiaaGreat.Mx
