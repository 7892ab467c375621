/- Plain memories whose buckets are parted: the ways of their readers. -/
import Derived.Test.YtmapijbfnakdiaaGreatZipA
import Derived.Test.YtmapijbfnakdiaaGreatWayC
namespace Go.Proofs.YtmapijbfnakdiaaGreat.Zp
open Go Hm Ar Mm Wk Pc Me Mq Pu Pn Gt

/-- Which of the two buckets a key comes to. -/
def sd (n : Nat) (key : ByteArray) : Bool := decide (n ≤ bkt key (2 * n))
theorem bkt_mod {n : Nat} (hp : FM.power n = true) (key : ByteArray) : bkt key n = (sm key).toNat % n := by
  have h := sm_bd key
  have hn := FM.power_bd hp
  unfold bkt FM.bucket
  rw [if_pos hp]
  obtain ⟨a, ha⟩ := Int.eq_ofNat_of_zero_le h.1
  rw [ha]
  simp only [Int.toNat_natCast]
  rw [← Int.natCast_emod, Int.toNat_natCast]
theorem bkt_two {n : Nat} (hp : FM.power n = true) (hp2 : FM.power ((2 * n : Nat) : Int) = true) (key : ByteArray) : bkt key (2 * n) % n = bkt key n ∧ bkt key (2 * n) < 2 * n ∧ bkt key (2 * n) = bkt key n + (if sd n key = true then n else 0) := by
  have h1 := bkt_mod hp key
  have h2 := bkt_mod hp2 key
  have hn := FM.power_bd hp
  have h3 : bkt key (2 * n) % n = bkt key n := by
    rw [h1, h2, Nat.mod_mul_left_mod]
  have h4 : bkt key (2 * n) < 2 * n := by rw [h2]; exact Nat.mod_lt _ (by omega)
  refine ⟨h3, h4, ?_⟩
  have h5 : bkt key n < n := by rw [h1]; exact Nat.mod_lt _ (by omega)
  unfold sd
  by_cases q : n ≤ bkt key (2 * n)
  · rw [if_pos (by simp [q])]
    have : bkt key (2 * n) % n = bkt key (2 * n) - n := by
      rw [Nat.mod_eq_sub_mod q, Nat.mod_eq_of_lt (by omega)]
    omega
  · rw [if_neg (by simp [q])]
    rw [Nat.mod_eq_of_lt (by omega)] at h3
    omega
/-- How far the buckets are parted. -/
structure Zs where
  n : Nat
  B : Nat
  B2 : Nat
  few : Nat
  cap : Nat
  pub : Bool
  All : Nat → List Mq.Hp
  s : Nat → Bool
  X : Nat → Nat
  Y : Nat → Nat
  u : Nat → List Mq.Hp
  r : Nat → List Mq.Hp
  v : Nat → List Mq.Hp
  rest : Nat → List Mq.Hp
/-- Where a bucket of the greater table begins. -/
def Zs.head (Z : Zs) (b : Nat) : Nat := if decide (Z.n ≤ b) = Z.s (b % Z.n) then Z.X (b % Z.n) else Z.Y (b % Z.n)
/-- A chain that no link was turned of. -/
def Zs.fresh (Z : Zs) (e : Nat) : Prop := Z.u e = [] ∧ Z.v e = [] ∧ Z.All e = Z.r e ++ Z.rest e
structure Zs.Ok (Z : Zs) (L : Lm) (l : List Pr) : Prop where
  pw : FM.power Z.n = true
  pw2 : FM.power ((2 * Z.n : Nat) : Int) = true
  now : Me.now L.xs L.ds = if Z.pub = true then (2 * Z.n, Z.B2) else (Z.n, Z.B)
  tb : ∀ i, (tab L.ds i).1 ≤ 65536 ∧ (tab L.ds i).2 ≤ 4000000
  k : 1 ≤ L.k ∧ L.k ≤ 8
  kB : 2 + L.k ≤ Z.B
  xl : Z.B + Z.n ≤ L.xs.length ∧ Z.B + Z.n ≤ Z.B2 ∧ (Z.pub = true → Z.B2 + 2 * Z.n ≤ L.xs.length)
  bb : Z.B2 ≤ 4000000
  xb : ∀ x ∈ L.xs, 0 ≤ x ∧ x ≤ 18446744073709551615
  nexts : Nexts L.ss
  len : L.ss.length ≤ 1024
  elder : ∀ e, e < Z.n → Cl.nth L.xs (Z.B + e) = ((hdH (Z.All e) : Nat) : Int)
  newer : Z.pub = true → ∀ b, b < 2 * Z.n → Cl.nth L.xs (Z.B2 + b) = ((Z.head b : Nat) : Int)
  zip : ∀ e, e < Z.n → Zip L.ss (sd Z.n) (Z.All e) (Z.s e) (Z.X e) (Z.Y e) (Z.u e) (Z.r e) (Z.v e) (Z.rest e)
  lk : ∀ key, Pc.lk l key = Pc.lk (prs (Z.All (bkt key Z.n))) key
  F : L.F = false
  p1 : 1 ≤ Cl.nth L.xs 0
  few : (∀ e, e < Z.n → (Z.All e).length ≤ Z.few) ∧ Z.few ≤ 900 ∧ Z.few ≤ Z.cap ∧ Z.cap ≤ 1000000
  fr : Z.pub = false → ∀ e, e < Z.n → Z.fresh e
  dj : ∀ e e', e < Z.n → e' < Z.n → e ≠ e' → ∀ a ∈ hds (Z.All e), a ∉ hds (Z.All e')
theorem Zip.length {ss : List Sl} {σ : ByteArray → Bool} {All : List Mq.Hp} {s : Bool} {x y : Nat} {u r v rest : List Mq.Hp} (h : Zip ss σ All s x y u r v rest) : u.length + r.length + v.length + rest.length = All.length := by
  have hf : ∀ (q : List Mq.Hp), (q.filter fun e => σ e.2.1 == s).length + (q.filter fun e => σ e.2.1 == !s).length = q.length := by
    intro q
    induction q with
    | nil => rfl
    | cons e t ih =>
      rw [List.filter_cons, List.filter_cons]
      cases σ e.2.1 <;> cases s <;> simp at ih ⊢ <;> omega
  have h1 := hf All
  have h2 := hf rest
  rw [h.fs, h.fv] at h1
  simp only [List.length_append] at h1
  omega
section
variable {Z : Zs} {L : Lm} {l : List Pr} {w : Nat}
/-- What is looked for lies along the way of its side. -/
theorem Zs.Ok.way (hZ : Z.Ok L l) (key : ByteArray) : ∃ q, Cx L.ss (Z.head (bkt key (2 * Z.n))) q ∧ Std (sd Z.n) (Z.s (bkt key Z.n)) (Z.u (bkt key Z.n)) (Z.r (bkt key Z.n)) (Z.v (bkt key Z.n)) (Z.rest (bkt key Z.n)) False key q ∧ Pc.lk (prs q) key = Pc.lk l key ∧ q.length ≤ (Z.All (bkt key Z.n)).length := by
  obtain ⟨h1, h2, h3⟩ := bkt_two hZ.pw hZ.pw2 key
  have he : bkt key Z.n < Z.n := (bkt_lt hZ.pw key).1
  have hz := hZ.zip _ he
  have hsd : decide (Z.n ≤ bkt key (2 * Z.n)) = sd Z.n key := rfl
  have hlk : ∀ (q : List Mq.Hp) (b : Bool), b = sd Z.n key → Pc.lk (prs (q.filter fun e => sd Z.n e.2.1 == b)) key = Pc.lk (prs q) key := by
    intro q b hb
    induction q with
    | nil => rfl
    | cons e t ih =>
      rw [List.filter_cons]
      by_cases hk : e.2.1 = key
      · rw [if_pos (by rw [hk, hb]; simp)]
        simp only [prs, List.map_cons, Pc.lk, if_pos hk]
      · split
        · simp only [prs, List.map_cons, Pc.lk, if_neg hk] at ih ⊢
          exact ih
        · simp only [prs, List.map_cons, Pc.lk, if_neg hk] at ih ⊢
          exact ih
  have hall := hZ.lk key
  unfold Zs.head
  rw [h1, hsd]
  by_cases hs : sd Z.n key = Z.s (bkt key Z.n)
  · rw [if_pos hs]
    refine ⟨_, hz.own, .inl ⟨hs, List.suffix_refl _⟩, ?_, by have := Zip.length hz; simp only [List.length_append]; omega⟩
    rw [hall, ← hlk (Z.All (bkt key Z.n)) (Z.s (bkt key Z.n)) hs.symm, hz.fs, ← hlk (Z.u (bkt key Z.n) ++ Z.r (bkt key Z.n) ++ Z.rest (bkt key Z.n)) (Z.s (bkt key Z.n)) hs.symm, List.filter_append, filter_all hz.su]
  · rw [if_neg hs]
    have hs' : sd Z.n key = !(Z.s (bkt key Z.n)) := by
      revert hs
      cases sd Z.n key <;> cases Z.s (bkt key Z.n) <;> simp
    refine ⟨_, hz.oth, .inr (.inl ⟨hs', List.suffix_refl _⟩), ?_, by have := Zip.length hz; simp only [List.length_append]; omega⟩
    rw [hall, ← hlk (Z.All (bkt key Z.n)) (!(Z.s (bkt key Z.n))) hs'.symm, hz.fv, ← hlk (Z.v (bkt key Z.n) ++ Z.rest (bkt key Z.n)) (!(Z.s (bkt key Z.n))) hs'.symm, List.filter_append, filter_all hz.sv]
/-- The elder way, as long as it is there. -/
theorem Zs.Ok.elderWay (hZ : Z.Ok L l) (key : ByteArray) (hf : Z.fresh (bkt key Z.n)) {o : Prop} (ho : o) : Cx L.ss (hdH (Z.All (bkt key Z.n))) (Z.All (bkt key Z.n)) ∧ Std (sd Z.n) (Z.s (bkt key Z.n)) (Z.u (bkt key Z.n)) (Z.r (bkt key Z.n)) (Z.v (bkt key Z.n)) (Z.rest (bkt key Z.n)) o key (Z.All (bkt key Z.n)) := by
  have he : bkt key Z.n < Z.n := (bkt_lt hZ.pw key).1
  have hz := hZ.zip _ he
  obtain ⟨f1, f2, f3⟩ := hf
  have hc : Cx L.ss (Z.X (bkt key Z.n)) (Z.All (bkt key Z.n)) := by
    have := hz.own
    rw [f1, List.nil_append, ← f3] at this
    exact this
  refine ⟨by rw [← Cx.hd hc]; exact hc, ?_⟩
  by_cases hs : sd Z.n key = Z.s (bkt key Z.n)
  · exact .inl ⟨hs, by rw [f1, List.nil_append, ← f3]; exact List.suffix_refl _⟩
  · refine .inr (.inr ⟨ho, ?_, by rw [← f3]; exact List.suffix_refl _⟩)
    revert hs
    cases sd Z.n key <;> cases Z.s (bkt key Z.n) <;> simp

/-- The ways of its readers. -/
def Zs.wy (Z : Zs) : Wy := ⟨fun o key q => Std (sd Z.n) (Z.s (bkt key Z.n)) (Z.u (bkt key Z.n)) (Z.r (bkt key Z.n)) (Z.v (bkt key Z.n)) (Z.rest (bkt key Z.n)) (o (bkt key Z.n)) key q,
  fun o key c => (c = Z.B2 + bkt key (2 * Z.n) ∧ Z.pub = true) ∨ (c = Z.B + bkt key Z.n ∧ o (bkt key Z.n) ∧ Z.fresh (bkt key Z.n)), Z.few, Z.cap, Z.pub⟩
theorem Zs.Ok.wl (hZ : Z.Ok L l) (w : Nat) (hw : (w : Int) < L.k) : 2 + w < L.xs.length := by
  have hkB := hZ.kB
  have hxl := hZ.xl.1
  have hn := FM.power_bd hZ.pw
  omega
theorem Zs.Ok.ways (hZ : Z.Ok L l) : Z.wy.Ok L l := by
  have hbd := hZ.bb
  have hxl := hZ.xl
  have hn1 := FM.power_bd hZ.pw
  refine ⟨hZ.k, hZ.wl, hZ.xb, hZ.nexts, hZ.len, hZ.F, hZ.p1, hZ.tb, hZ.few.2, fun h => Std.next h, fun ho h => Std.mono h (ho _), fun ho h => h.imp id (fun q => ⟨q.1, ho _ q.2.1, q.2.2⟩), fun {o key c} hc => ?_, fun o key ho => ?_⟩
  · obtain ⟨t1, t2, t3⟩ := bkt_two hZ.pw hZ.pw2 key
    have he : bkt key Z.n < Z.n := (bkt_lt hZ.pw key).1
    rcases hc with ⟨rfl, hp⟩ | ⟨rfl, ho, hf⟩
    · obtain ⟨q, q1, q2, q3, q4⟩ := hZ.way key
      have hw1 : word L.xs ((Z.B2 + bkt key (2 * Z.n) : Nat) : Int) = Z.head (bkt key (2 * Z.n)) := by
        unfold word
        rw [if_pos (by have := hxl.2.2 hp; omega), Int.toNat_natCast, hZ.newer hp _ t2, Int.toNat_natCast]
      rw [hw1]
      exact ⟨by omega, q, q1, q2.mono (fun f => absurd f id), q3, Nat.le_trans q4 (hZ.few.1 _ he)⟩
    · obtain ⟨q1, q2⟩ := hZ.elderWay key hf ho
      have hw1 : word L.xs ((Z.B + bkt key Z.n : Nat) : Int) = hdH (Z.All (bkt key Z.n)) := by
        unfold word
        rw [if_pos (by omega), Int.toNat_natCast, hZ.elder _ he, Int.toNat_natCast]
      rw [hw1]
      exact ⟨by omega, _, q1, q2, (hZ.lk key).symm, hZ.few.1 _ he⟩
  · have he : bkt key Z.n < Z.n := (bkt_lt hZ.pw key).1
    have hnow := hZ.now
    cases hp : Z.pub with
    | true =>
      rw [hp, if_pos rfl] at hnow
      refine ⟨Z.B2 + bkt key (2 * Z.n), ?_, .inl ⟨rfl, hp⟩⟩
      rw [hnow]
      unfold Gt.cellOf
      simp only
      rw [if_neg (by omega), (bkt_lt hZ.pw2 key).2]
      simp
    | false =>
      rw [hp, if_neg (by simp)] at hnow
      refine ⟨Z.B + bkt key Z.n, ?_, .inr ⟨rfl, ho hp _, hZ.fr hp _ he⟩⟩
      rw [hnow]
      unfold Gt.cellOf
      simp only
      rw [if_neg (by omega), (bkt_lt hZ.pw key).2]
      simp
/-- A counter turned. -/
theorem Zs.Ok.counter (hZ : Z.Ok L l) (hw : (w : Int) < L.k) {p : Int} (hp : 0 ≤ p ∧ p ≤ 18446744073709551615) : Z.Ok { L with xs := L.xs.set (2 + w) p } l := by
  have hkB := hZ.kB
  have hxl := hZ.xl
  have hn : ∀ i, i ≠ 2 + w → Cl.nth (L.xs.set (2 + w) p) i = Cl.nth L.xs i := fun i hi => by
    rw [nth_set _ _ _ (by omega), if_neg hi]
  have hnow : Me.now (L.xs.set (2 + w) p) L.ds = Me.now L.xs L.ds := by unfold Me.now; rw [hn 1 (by omega)]
  refine { hZ with now := by show Me.now (L.xs.set (2 + w) p) L.ds = _; rw [hnow]; exact hZ.now, xl := by show _ ≤ (L.xs.set (2 + w) p).length ∧ _ ∧ (_ → _ ≤ (L.xs.set (2 + w) p).length); rw [List.length_set]; exact hxl, xb := fun x hx => ?_, elder := fun e he => ?_, newer := fun hb b hb2 => ?_, p1 := by show 1 ≤ Cl.nth (L.xs.set (2 + w) p) 0; rw [hn 0 (by omega)]; exact hZ.p1 }
  · rcases List.mem_or_eq_of_mem_set hx with q | rfl
    · exact hZ.xb x q
    · exact hp
  · show Cl.nth (L.xs.set (2 + w) p) _ = _
    rw [hn _ (by omega)]
    exact hZ.elder e he
  · show Cl.nth (L.xs.set (2 + w) p) _ = _
    rw [hn _ (by omega)]
    exact hZ.newer hb b hb2
end
end Go.Proofs.YtmapijbfnakdiaaGreat.Zp
