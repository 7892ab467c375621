/- Memories whose buckets are parted: what those who part them may turn, and how readers stand then. -/
import Derived.Test.YtmapijbfnakdiaaGreatZipB
namespace Go.Proofs.YtmapijbfnakdiaaGreat.Zp
open Go Hm Ar Mm Wk Pc Me Mq Pu Pn Gt Qs

theorem Zip.sub {ss : List Sl} {σ : ByteArray → Bool} {All : List Mq.Hp} {s : Bool} {x y : Nat} {u r v rest : List Mq.Hp} (h : Zip ss σ All s x y u r v rest) : ∀ a ∈ u ++ r ++ v ++ rest, a ∈ All := by
  intro a ha
  have h1 : ∀ b, a ∈ All.filter (fun e => σ e.2.1 == b) → a ∈ All := fun b q => (List.mem_filter.1 q).1
  have ha : a ∈ u ++ r ∨ a ∈ v ∨ a ∈ rest := by
    simp only [List.mem_append] at ha ⊢
    rcases ha with ((q | q) | q) | q
    · exact .inl (.inl q)
    · exact .inl (.inr q)
    · exact .inr (.inl q)
    · exact .inr (.inr q)
  rcases ha with q | q | q
  · exact h1 s (by rw [h.fs]; exact List.mem_append_left _ q)
  · exact h1 (!s) (by rw [h.fv]; exact List.mem_append_left _ q)
  · by_cases hs : σ a.2.1 = s
    · exact h1 s (by rw [h.fs]; exact List.mem_append_right _ (List.mem_filter.2 ⟨q, by simp [hs]⟩))
    · exact h1 (!s) (by rw [h.fv]; exact List.mem_append_right _ (List.mem_filter.2 ⟨q, by revert hs; cases σ a.2.1 <;> cases s <;> simp⟩))
theorem Zip.aside {ss : List Sl} {σ : ByteArray → Bool} {All : List Mq.Hp} {s : Bool} {x y : Nat} {u r v rest : List Mq.Hp} (h : Zip ss σ All s x y u r v rest) (hl : ss.length ≤ 1024) {a z j : Nat} (hj : IsAt ss a j) (ha : a ∉ hds All) : Zip (lnk ss a z) σ All s x y u r v rest := by
  have hsub : ∀ q : List Mq.Hp, (∀ b ∈ q, b ∈ u ++ r ++ v ++ rest) → a ∉ hds q := fun q hq hm => by
    obtain ⟨b, hb, rfl⟩ := List.mem_map.1 hm
    exact ha (List.mem_map.2 ⟨b, h.sub b (hq b hb), rfl⟩)
  exact { h with own := Cx.aside hl hj h.own (hsub _ fun b hb => by simp only [List.mem_append] at hb ⊢; rcases hb with (q | q) | q <;> simp [q]), oth := Cx.aside hl hj h.oth (hsub _ fun b hb => by simp only [List.mem_append] at hb ⊢; rcases hb with q | q <;> simp [q]) }
/-- A function turned at a place. -/
def turnF {α : Type} (f : Nat → α) (e : Nat) (a : α) (i : Nat) : α := if i = e then a else f i
theorem turnF_at {α : Type} (f : Nat → α) (e : Nat) (a : α) : turnF f e a e = a := by simp [turnF]
theorem turnF_ne {α : Type} (f : Nat → α) {e i : Nat} (a : α) (h : i ≠ e) : turnF f e a i = f i := by simp [turnF, h]
/-- A link more, in one of the chains. -/
def Zs.linked (Z : Zs) (e : Nat) (d t : List Mq.Hp) : Zs :=
  { Z with s := turnF Z.s e (!Z.s e), X := turnF Z.X e (Z.Y e), Y := turnF Z.Y e (Z.X e), u := turnF Z.u e (Z.v e), r := turnF Z.r e d, v := turnF Z.v e (Z.u e ++ Z.r e), rest := turnF Z.rest e t }
section
variable {Z : Zs} {L : Lm} {l : List Pr} {old old' : Int → Nat → Prop} {oldn oldn' : Nat → Int → Nat → Prop} {w k e : Nat} {key : ByteArray} {G : Gt.Ge} {r0 d t : List Mq.Hp} {a : Mq.Hp}
theorem Zs.linked_head (Z : Zs) (e : Nat) (d t : List Mq.Hp) (b : Nat) : (Z.linked e d t).head b = Z.head b := by
  unfold Zs.head Zs.linked
  simp only
  by_cases h : b % Z.n = e
  · rw [h, turnF_at, turnF_at, turnF_at]
    cases decide (Z.n ≤ b) <;> cases Z.s e <;> simp
  · rw [turnF_ne _ _ h, turnF_ne _ _ h, turnF_ne _ _ h]
theorem Zs.Ok.linked (hZ : Z.Ok L l) (hpub : Z.pub = true) (he : e < Z.n) (hr : Z.r e = r0 ++ [a]) (hd : Z.rest e = d ++ t) (hd0 : d ≠ []) (hds' : ∀ b ∈ d, sd Z.n b.2.1 = !Z.s e) (ht : ∀ b t', t = b :: t' → sd Z.n b.2.1 = Z.s e) (hbt : hdH t ≤ 18446744073709551615) :
    (Z.linked e d t).Ok { L with ss := lnk L.ss a.1 (hdH t) } l := by
  have hz := hZ.zip e he
  have hza := hz.own
  rw [hr] at hza
  obtain ⟨j, _, hj, _⟩ := hza.at a (by simp)
  have ha : a.1 ∈ hds (Z.All e) := List.mem_map.2 ⟨a, hz.sub a (by rw [hr]; simp), rfl⟩
  have hlink := Zip.link hz hZ.len hr hd hd0 hds' ht
  refine { hZ with nexts := ?_, len := ?_, newer := ?_, zip := ?_, fr := fun q => by have q : Z.pub = false := q; rw [hpub] at q; simp at q }
  · show Nexts (lnk L.ss a.1 (hdH t))
    unfold lnk
    by_cases hk : (a.1 - 1) % 65536 < L.ss.length
    · exact hZ.nexts.set hk _ ⟨by simp only; omega, by simp only; omega⟩
    · rw [List.set_eq_of_length_le (by omega)]
      exact hZ.nexts
  · show (lnk L.ss a.1 (hdH t)).length ≤ _
    rw [lnk_len]
    exact hZ.len
  · intro hp b hb
    rw [Zs.linked_head]
    exact hZ.newer hp b hb
  · intro i hi
    show Zip (lnk L.ss a.1 (hdH t)) (sd Z.n) (Z.All i) (turnF Z.s e (!Z.s e) i) (turnF Z.X e (Z.Y e) i) (turnF Z.Y e (Z.X e) i) (turnF Z.u e (Z.v e) i) (turnF Z.r e d i) (turnF Z.v e (Z.u e ++ Z.r e) i) (turnF Z.rest e t i)
    by_cases hie : i = e
    · subst hie
      simp only [turnF_at]
      exact hlink
    · simp only [turnF_ne _ _ hie]
      exact Zip.aside (hZ.zip i hi) hZ.len hj (hZ.dj e i he hi (fun q => hie q.symm) _ ha)
/-- A reader who didn't come in long ago, while a link is turned. -/
theorem Rok.linked (hZ : Z.Ok L l) (he : e < Z.n) (hr : Z.r e = r0 ++ [a]) (hd : Z.rest e = d ++ t) (hds' : ∀ b ∈ d, sd Z.n b.2.1 = !Z.s e) (hold : ∀ p, ¬ old p e) (hold' : ∀ p, old' p e) (hke : ∀ p i, i ≠ e → old p i → old' p i) (h : Rok Z.wy L l old w key G k) :
    ∃ k', k' ≤ k ∧ Rok (Z.linked e d t).wy { L with ss := lnk L.ss a.1 (hdH t) } l old' w key G k' := by
  have hz := hZ.zip e he
  have hza := hz.own
  rw [hr] at hza
  obtain ⟨j, _, hj, _⟩ := hza.at a (by simp)
  have ha : a.1 ∈ hds (Z.All e) := List.mem_map.2 ⟨a, hz.sub a (by rw [hr]; simp), rfl⟩
  have mk : ∀ k', k' ≤ k → Rph (Z.linked e d t).wy { L with ss := lnk L.ss a.1 (hdH t) } l old' key G k' → ∃ k', k' ≤ k ∧ Rok (Z.linked e d t).wy { L with ss := lnk L.ss a.1 (hdH t) } l old' w key G k' := fun k' hk' hp => ⟨k', hk', ⟨h.ky, h.sum, h.wk, h.gat, h.pd, h.cnt, h.pr, hp⟩⟩
  cases h.ph with
  | come a b => exact mk _ (Nat.le_refl _) (.come a b)
  | put a b => exact mk _ (Nat.le_refl _) (.put a b)
  | load a => exact mk _ (Nat.le_refl _) (.load a)
  | first c a1 b hcb hc =>
    rcases hc with hc | ⟨hc, ho, hfr⟩
    · exact mk _ (Nat.le_refl _) (.first c a1 b hcb (.inl hc))
    · by_cases hie : bkt key Z.n = e
      · exact absurd (hie ▸ ho) (hold _)
      · refine mk _ (Nat.le_refl _) (.first c a1 b hcb (.inr ⟨hc, hke _ _ hie ho, ?_⟩))
        obtain ⟨f1, f2, f3⟩ := hfr
        refine ⟨?_, ?_, ?_⟩
        · show turnF Z.u e (Z.v e) (bkt key Z.n) = []
          rw [turnF_ne _ _ hie]; exact f1
        · show turnF Z.v e (Z.u e ++ Z.r e) (bkt key Z.n) = []
          rw [turnF_ne _ _ hie]; exact f2
        · show Z.All (bkt key Z.n) = turnF Z.r e d (bkt key Z.n) ++ turnF Z.rest e t (bkt key Z.n)
          rw [turnF_ne _ _ hie, turnF_ne _ _ hie]; exact f3
  | look q a1 a2 a3 a4 a5 a6 a7 a8 a9 a10 a11 a12 a13 =>
    have hpos : G.W.at_ ≠ 0 := fun q => a7 (a8.pos.1 q)
    by_cases hie : bkt key Z.n = e
    · have a9' : Std (sd Z.n) (Z.s e) (Z.u e) (Z.r e) (Z.v e) (Z.rest e) False key q := by
        have a9 := Std.mono a9 (fun o => hold _ (hie ▸ o))
        rw [hie] at a9
        exact a9
      obtain ⟨q', p1, p2, p3, p4⟩ := Std.link hz hZ.len hr hd hds' a8 a9'
      refine mk (q'.length + 1) (by omega) (.look q' a1 a2 a3 a4 a5 a6 (fun e => hpos (p1.pos.2 e)) p1 ?_ (p2.trans a10) (Nat.le_trans (Nat.add_le_add_left p3 _) a11) a12 a13)
      show Std (sd Z.n) (turnF Z.s e (!Z.s e) (bkt key Z.n)) (turnF Z.u e (Z.v e) (bkt key Z.n)) (turnF Z.r e d (bkt key Z.n)) (turnF Z.v e (Z.u e ++ Z.r e) (bkt key Z.n)) (turnF Z.rest e t (bkt key Z.n)) _ key q'
      rw [hie]
      simp only [turnF_at]
      exact p4.mono fun _ => by
        have : old' G.C.period (bkt key Z.n) := by rw [hie]; exact hold' _
        exact this
    · have hb : bkt key Z.n < Z.n := (bkt_lt hZ.pw key).1
      have hzb := hZ.zip _ hb
      have hna : a.1 ∉ hds (Z.All (bkt key Z.n)) := hZ.dj e _ he hb (fun q => hie q.symm) _ ha
      have hnq : a.1 ∉ hds q := fun hm => by
        obtain ⟨b, hbq, hbe⟩ := List.mem_map.1 hm
        refine hna (List.mem_map.2 ⟨b, hzb.sub b ?_, hbe⟩)
        rcases a9 with ⟨_, s⟩ | ⟨_, s⟩ | ⟨_, _, s⟩
        · have := s.subset hbq
          simp only [List.mem_append] at this ⊢
          rcases this with (q | q) | q <;> simp [q]
        · have := s.subset hbq
          simp only [List.mem_append] at this ⊢
          rcases this with q | q <;> simp [q]
        · have := s.subset hbq
          simp only [List.mem_append] at this ⊢
          rcases this with q | q <;> simp [q]
      refine mk (q.length + 1) (Nat.le_refl _) (.look q a1 a2 a3 a4 a5 a6 a7 (Cx.aside hZ.len hj a8 hnq) ?_ a10 a11 a12 a13)
      show Std (sd Z.n) (turnF Z.s e (!Z.s e) (bkt key Z.n)) (turnF Z.u e (Z.v e) (bkt key Z.n)) (turnF Z.r e d (bkt key Z.n)) (turnF Z.v e (Z.u e ++ Z.r e) (bkt key Z.n)) (turnF Z.rest e t (bkt key Z.n)) _ key q
      simp only [turnF_ne _ _ hie]
      exact Std.mono a9 (hke _ _ hie)
  | leave a b => exact mk _ (Nat.le_refl _) (.leave a b)
/-- Other cells turned. -/
theorem Zs.Ok.cells (hZ : Z.Ok L l) {xs' hs' : List Int} {ds' : List (Nat × Nat)} {ws' : List Nat} (h1 : ∀ i, Z.B ≤ i → i < Z.B + Z.n → Cl.nth xs' i = Cl.nth L.xs i) (h2 : Z.pub = true → ∀ b, b < 2 * Z.n → Cl.nth xs' (Z.B2 + b) = Cl.nth L.xs (Z.B2 + b)) (hl : L.xs.length ≤ xs'.length)
    (hxb : ∀ x ∈ xs', 0 ≤ x ∧ x ≤ 18446744073709551615) (hnow : Me.now xs' ds' = Me.now L.xs L.ds) (htb : ∀ i, (tab ds' i).1 ≤ 65536 ∧ (tab ds' i).2 ≤ 4000000) (hp1 : 1 ≤ Cl.nth xs' 0) : Z.Ok { L with xs := xs', ds := ds', hs := hs', ws := ws' } l :=
  { hZ with now := by show Me.now xs' ds' = _; rw [hnow]; exact hZ.now, tb := htb, xl := by have := hZ.xl; exact ⟨Nat.le_trans this.1 hl, this.2.1, fun p => Nat.le_trans (this.2.2 p) hl⟩, xb := hxb, elder := fun i hi => by show Cl.nth xs' _ = _; rw [h1 _ (by omega) (by omega)]; exact hZ.elder i hi, newer := fun p b hb => by show Cl.nth xs' _ = _; rw [h2 p b hb]; exact hZ.newer p b hb, p1 := hp1 }
/-- The greater table counts. -/
theorem Zs.Ok.publish (hZ : Z.Ok L l) (_hp : Z.pub = false) {xs' : List Int} (h1 : ∀ i, i ≠ 1 → Cl.nth xs' i = Cl.nth L.xs i) (hl : xs'.length = L.xs.length) (hxb : ∀ x ∈ xs', 0 ≤ x ∧ x ≤ 18446744073709551615) (hnow : Me.now xs' L.ds = (2 * Z.n, Z.B2)) (h2 : Z.B2 + 2 * Z.n ≤ L.xs.length) (hnew : ∀ b, b < 2 * Z.n → Cl.nth L.xs (Z.B2 + b) = ((Z.head b : Nat) : Int)) : Zs.Ok { Z with pub := true } { L with xs := xs' } l := by
  have hkB := hZ.kB
  have hk := hZ.k
  have hxl := hZ.xl
  exact { hZ with now := hnow, xl := ⟨by show _ ≤ xs'.length; rw [hl]; exact hxl.1, hxl.2.1, fun _ => by show _ ≤ xs'.length; rw [hl]; exact h2⟩, xb := hxb, elder := fun i hi => by show Cl.nth xs' (Z.B + i) = _; rw [h1 _ (by omega)]; exact hZ.elder i hi, newer := fun _ b hb => by show Cl.nth xs' (Z.B2 + b) = _; rw [h1 _ (by omega)]; exact hnew b hb, fr := fun q => by simp at q, p1 := by show 1 ≤ Cl.nth xs' 0; rw [h1 _ (by omega)]; exact hZ.p1 }
theorem RnOk.publish {R : Rn} (h : RnOk Z.wy L l oldn R k) : RnOk { Z with pub := true }.wy L l oldn R k :=
  h.to rfl (Int.le_refl _) rfl rfl (Nat.le_refl _) (fun _ _ _ q => q.imp (fun q => ⟨q.1, rfl⟩) id) (fun _ _ _ q => q)
theorem RnOk.mono {R : Rn} (hY : Z.wy.Ok L l) (h : RnOk Z.wy L l oldn R k) (ho : ∀ p e, oldn R.w p e → oldn' R.w p e) : RnOk Z.wy L l oldn' R k :=
  h.to rfl (Int.le_refl _) rfl rfl (Nat.le_refl _) (fun _ _ _ => hY.celm (ho _)) (fun _ _ _ => hY.mono (ho _))
/-- All parted: each bucket has just its own, in their order. -/
theorem Zs.Ok.parted (hZ : Z.Ok L l) (hp : ∀ e, e < Z.n → Z.rest e = []) {b : Nat} (hb : b < 2 * Z.n) : Cx L.ss (Z.head b) ((Z.All (b % Z.n)).filter fun a => sd Z.n a.2.1 == decide (Z.n ≤ b)) := by
  have hn := FM.power_bd hZ.pw
  have he : b % Z.n < Z.n := Nat.mod_lt _ (by omega)
  have hz := hZ.zip _ he
  rw [hp _ he] at hz
  obtain ⟨h1, h2⟩ := hz.parted
  unfold Zs.head
  by_cases hs : decide (Z.n ≤ b) = Z.s (b % Z.n)
  · rw [if_pos hs, hs]
    exact h1
  · rw [if_neg hs]
    have : decide (Z.n ≤ b) = !(Z.s (b % Z.n)) := by
      revert hs
      cases decide (Z.n ≤ b) <;> cases Z.s (b % Z.n) <;> simp
    rw [this]
    exact h2
theorem RnOk.linked {R : Rn} (hZ : Z.Ok L l) (he : e < Z.n) (hr : Z.r e = r0 ++ [a]) (hd : Z.rest e = d ++ t) (hds' : ∀ b ∈ d, sd Z.n b.2.1 = !Z.s e) (hold : ∀ p, ¬ oldn R.w p e) (hold' : ∀ p, oldn' R.w p e) (hke : ∀ p i, i ≠ e → oldn R.w p i → oldn' R.w p i) (h : RnOk Z.wy L l oldn R k) :
    ∃ k', k' ≤ k ∧ RnOk (Z.linked e d t).wy { L with ss := lnk L.ss a.1 (hdH t) } l oldn' R k' := by
  unfold RnOk at h ⊢
  split
  · rename_i q
    rw [q] at h
    exact ⟨k, Nat.le_refl _, h⟩
  · rename_i G q
    rw [q] at h
    exact Rok.linked hZ he hr hd hds' hold hold' hke h
end
end Go.Proofs.YtmapijbfnakdiaaGreat.Zp
