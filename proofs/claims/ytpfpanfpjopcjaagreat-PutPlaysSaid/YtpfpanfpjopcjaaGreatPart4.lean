/- Walks and plain mathematics, put together in their order. -/
import Derived.Test.YtpfpanfpjopcjaaGreatPart3
import Derived.Test.YtpfpanfpjopcjaaGreatLawFnv
import Derived.Deep.DeepCutAuto
import Derived.Deep.CutBlock
import Derived.Test.YtpfpanfpjopcjaaGreatLawSixA
import Derived.Test.YtpfpanfpjopcjaaGreatLawNineA
/- Plain memories that hold a map: a put alone puts the key's value in. -/
namespace Go.Proofs.YtpfpanfpjopcjaaGreat.Mq
open Go Go.RowKit Hp K Fl Rw Hm Ar Mm Me Wk Ta Pn Pc Pu Re

theorem kys_prs (q : List Mq.Hp) : (prs q).map (·.1) = kys q := by rw [List.map_map]; rfl
section
variable {L : Lm} {n B : Nat} {cs : Nat → List Mq.Hp} {l : List Pr} {G : Nat} {key val : ByteArray} {i : Int} {hb : Nat}
theorem Mp.small (h : Mp L n B cs l G) : L.ws.length + (alls n cs).length ≤ 1024 ∧ L.ss.length ≤ 1024 := by
  have := h.wr.cnt
  have := h.wr.room
  omega
theorem Mp.ql (h : Mp L n B cs l G) {b : Nat} (hb : b < n) : (cs b).length ≤ (alls n cs).length := by
  have := (alls_self hb cs).length_eq
  simp only [List.length_append, List.length_map] at this
  omega
/-- A put's places. -/
abbrev Mp.ep (L : Lm) (n B : Nat) (cs : Nat → List Mq.Hp) (key val : ByteArray) (i : Int) (hb : Nat) : Ep := ⟨L, key, val, i, hb, (n, B), B + bkt key n, cs (bkt key n)⟩
theorem Mp.eok (h : Mp L n B cs l G) (hG : G ≤ 1000000) (hi : 0 ≤ i ∧ i ≤ 1000) : (Mp.ep L n B cs key val i hb).Ok := by
  have hsm := h.small
  obtain ⟨hb1, hb2⟩ := bkt_lt h.pw key
  have hql := h.ql hb1
  have hnb := h.n_bd
  have hkB := h.kB
  have hk := h.k
  have hxl := h.xl
  refine ⟨hsm.2, h.nexts, h.tb, hi, h.xb, h.hs, h.now, by show n ≠ 0; omega, ?_, by show B + bkt key n < L.xs.length; omega, by show 1 < L.xs.length; omega, h.ch _ hb1, fun k => by have := h.wr.gens k; show (at' L.ss k).gen ≤ _; omega, by show L.ws.length ≤ _; omega, by show (cs _).length ≤ _; omega⟩
  show ((B + bkt key n : Nat) : Int) = (B : Int) + FM.bucket (sm key) n
  rw [hb2]
  omega
theorem fnd_lk (h : Mp L n B cs l G) {W : Wa} (hf : Fnd (Mp.ep L n B cs key val i hb) W) : decide (W.found ≠ 0) = (Pc.lk l key).isSome := by
  rw [h.lk]
  rcases hf with ⟨h0, hk, _⟩ | ⟨pre, x, p, t, z, k, hq, hp, hx, hk, hnd, hW, hc, hpv⟩
  · have : Pc.lk (prs (cs (bkt key n))) key = none := lk_none.2 (by simpa using hk)
    rw [this, h0]
    rfl
  · have hm : p ∈ prs (cs (bkt key n)) := by
      have hq : cs (bkt key n) = _ := hq
      rw [hq]
      simp
    have hp : p.1 = key := hp
    have hn : ((prs (cs (bkt key n))).map (·.1)).Nodup := by
      rw [kys_prs]
      exact h.kd _ (bkt_lt h.pw key).1
    have := lk_mem hn hm
    rw [hp] at this
    rw [this, hx]
    simp [hk.pos]
theorem put_map (h : Mp L n B cs l G) (hG : G ≤ 1000000) (hi : 0 ≤ i ∧ i ≤ 1000) {s : Lm × Pt} (hq : Qp (Mp.ep L n B cs key val i hb) s) :
    decide (s.2.W.found ≠ 0) = (Pc.lk l key).isSome ∧ s.2.mine = 0 ∧
      ((freePl L.ss = none ∧ s.1 = L ∧ s.2.err = 4) ∨ ((freePl L.ss).isSome ∧ s.2.err = 0 ∧ s.1.ws.length = L.ws.length + (if (Pc.lk l key).isSome then 1 else 0) ∧ s.1.ss.length = L.ss.length ∧ s.1.k = L.k ∧ ∃ cs', ∀ l', Upd l l' key val → Mp s.1 n B cs' l' (G + 1))) := by
  have hE := h.eok (key := key) (val := val) (i := i) (hb := hb) hG hi
  cases hq with
  | full W hf hfr => exact ⟨fnd_lk h hf, rfl, .inl ⟨hfr, rfl, rfl⟩⟩
  | done W m hf hm =>
    have hlk := fnd_lk h hf
    refine ⟨hlk, rfl, .inr ⟨by show (freePl L.ss).isSome; rw [freePl_some.2 hm]; rfl, rfl, ?_, ?_, (putL_hs _ W m).2.2.2.2, ?_⟩⟩
    · show (putW (Mp.ep L n B cs key val i hb) W).length = _
      unfold putW
      rw [← hlk]
      by_cases h0 : W.found ≠ 0
      · rw [if_pos h0, if_pos (by simpa using h0)]; simp
      · rw [if_neg h0, if_neg (by simpa using h0)]
        rfl
    · show (putL _ W m).ss.length = _
      unfold putL lnk Ep.ss
      split <;> simp
    obtain ⟨hb1, hb2⟩ := bkt_lt h.pw key
    obtain ⟨b0, hb0⟩ : ∃ b0, b0 = bkt key n := ⟨_, rfl⟩
    have hml : m < L.ss.length := hm.1
    have hxl := h.xl
    have hN := hE.nexts_ss hf hm
    have hnb := hE.new_bd hm
    have hs : ∀ (y k : Nat), IsAt L.ss y k → IsAt (Ep.ss (Mp.ep L n B cs key val i hb) W m) y k ∧ at' (Ep.ss (Mp.ep L n B cs key val i hb) W m) k = at' L.ss k ∧ k ≠ m := fun y k hk => keep_set hm _ hk
    have hnew : IsAt (Ep.ss (Mp.ep L n B cs key val i hb) W m) (Ep.new (Mp.ep L n B cs key val i hb) m) m := (isAt_turn hml _ _ _).2 (by rw [if_pos rfl]; exact ⟨rfl, rfl⟩)
    have hnd : (at' (Ep.ss (Mp.ep L n B cs key val i hb) W m) m).nd = ⟨key, val, sm key, fol W⟩ := by
      show (at' (L.ss.set m _) m).nd = _
      rw [at_set hml, if_pos rfl]
    have hwr := h.wr.put hm ⟨key, val, sm key, fol W⟩
    have hupd1 : ∀ {l' : List Pr}, Upd l l' key val → ∀ key', bkt key' n ≠ b0 → Pc.lk l' key' = Pc.lk l key' := fun hu key' hne => by
      rw [hu.lk, if_neg (by rintro rfl; exact hne hb0.symm)]
    have hch := h.ch b0 (by rw [hb0]; exact hb1)
    have hxb' : ∀ x ∈ L.xs.set (B + b0) ((Ep.new (Mp.ep L n B cs key val i hb) m : Nat) : Int), 0 ≤ x ∧ x ≤ 18446744073709551615 := by
      intro x hx
      rcases List.mem_or_eq_of_mem_set hx with q | rfl
      · exact h.xb x q
      · exact ⟨by omega, by omega⟩
    have hxset : Cl.nth (L.xs.set (B + b0) ((Ep.new (Mp.ep L n B cs key val i hb) m : Nat) : Int)) (B + b0) = ((Ep.new (Mp.ep L n B cs key val i hb) m : Nat) : Int) := by
      rw [nth_set _ _ _ (by omega), if_pos rfl]
    have hkeep : ∀ b, b < n → b ≠ b0 → Cx (Ep.ss (Mp.ep L n B cs key val i hb) W m) (Cl.nth L.xs (B + b)).toNat (cs b) := fun b hb' _ => (h.ch b hb').keep fun y _ k hk => ⟨(hs y k hk).1, by rw [(hs y k hk).2.1]⟩
    have hap := alls_self (n := n) (b0 := b0) (by omega) cs
    have hkq := h.kd b0 (by omega)
    have hbq := h.bk b0 (by omega)
    have hlq : ∀ key', bkt key' n = b0 → Pc.lk l key' = Pc.lk (prs (cs b0)) key' := fun key' e => by rw [h.lk, e]
    rcases hf with ⟨h0, hk, hfw⟩ | ⟨pre, x, p, t, z, k, hq, hp, hx, hk, hndx, hW, hc, hpv⟩
    · -- a new key
      have hk : key ∉ kys (cs b0) := by rw [hb0]; exact hk
      have hfol : fol W = (((Cl.nth L.xs (B + b0)).toNat : Nat) : Int) := by
        unfold fol
        rw [if_neg (by omega), hfw, hb0]
      have e : ({ putL (Mp.ep L n B cs key val i hb) W m with ws := putW (Mp.ep L n B cs key val i hb) W } : Lm) = { L with xs := L.xs.set (B + b0) ((Ep.new (Mp.ep L n B cs key val i hb) m : Nat) : Int), ss := Ep.ss (Mp.ep L n B cs key val i hb) W m, ws := L.ws } := by
        unfold putL putW
        rw [if_neg (by omega), if_neg (by omega), hb0]
      simp only [e]
      refine ⟨turn cs b0 ((Ep.new (Mp.ep L n B cs key val i hb) m, (key, val)) :: cs b0), fun l' hu => ?_⟩
      have hpa := alls_perm (n := n) (b0 := b0) (by omega) cs ((Ep.new (Mp.ep L n B cs key val i hb) m, (key, val)) :: cs b0)
      have hpb : (alls n (turn cs b0 ((Ep.new (Mp.ep L n B cs key val i hb) m, (key, val)) :: cs b0))).Perm (Ep.new (Mp.ep L n B cs key val i hb) m :: alls n cs) := hpa.trans (List.Perm.cons _ hap.symm)
      have hl0 : Pc.lk l key = none := by
        rw [hlq key hb0.symm]
        exact lk_none.2 (by simpa using hk)
      refine h.turned (by omega) (by simp) (fun j hj => ?_) hxb' hN ?_ hkeep ?_ ?_ ?_ hu.nd (hupd1 hu) (fun key' e' => ?_) ?_
      · rw [nth_set _ _ _ (by omega), if_neg hj]
      · rw [hxset, Int.toNat_natCast]
        refine .cons hnew (z := (Cl.nth L.xs (B + b0)).toNat) ?_ (hch.keep fun y _ k hk => ⟨(hs y k hk).1, by rw [(hs y k hk).2.1]⟩)
        rw [hnd, hfol]
        rfl
      · intro e he
        rcases List.mem_cons.1 he with rfl | he
        · rw [hb0]; exact hb2
        · exact hbq e he
      · exact List.nodup_cons.2 ⟨hk, hkq⟩
      · refine hwr.perm ?_
        refine (List.Perm.append_left L.ws hpb).trans ?_
        rw [List.append_assoc]
        exact List.Perm.refl _
      · rw [hu.lk]
        show _ = Pc.lk ((key, val) :: prs (cs b0)) key'
        simp only [Pc.lk]
        by_cases hkk : key' = key
        · rw [if_pos hkk, if_pos hkk.symm]
        · rw [if_neg hkk, if_neg (fun q => hkk q.symm)]
          exact hlq key' e'
      · rw [hu.len, hl0, hpb.length_eq, List.length_cons, h.len]
        rfl
    · -- in the place of another one
      have hq : cs b0 = pre ++ (x, p) :: t := by rw [hb0]; exact hq
      have hp : p.1 = key := hp
      have hx0 : W.found ≠ 0 := by rw [hx]; exact hk.pos
      have hfol : fol W = ((z : Nat) : Int) := by
        unfold fol
        rw [if_pos hx0, hW]
        rfl
      have hl0 : (Pc.lk l key).isSome = true := by rw [← hlk]; simpa using hx0
      have hkys : kys (pre ++ ((Ep.new (Mp.ep L n B cs key val i hb) m, (key, val)) : Mq.Hp) :: t) = kys (cs b0) := by rw [hq]; simp [hp]
      have hpa := alls_perm (n := n) (b0 := b0) (by omega) cs (pre ++ ((Ep.new (Mp.ep L n B cs key val i hb) m, (key, val)) : Mq.Hp) :: t)
      have hpb : (x :: alls n (turn cs b0 (pre ++ ((Ep.new (Mp.ep L n B cs key val i hb) m, (key, val)) : Mq.Hp) :: t))).Perm (Ep.new (Mp.ep L n B cs key val i hb) m :: alls n cs) := by
        refine (List.Perm.cons x hpa).trans ?_
        refine List.Perm.trans ?_ (List.Perm.cons _ hap.symm)
        rw [hq]
        simp only [hds, List.map_append, List.map_cons, List.append_assoc, List.cons_append]
        refine (List.Perm.cons x List.perm_middle).trans ?_
        refine (List.Perm.swap _ _ _).trans ?_
        exact List.Perm.cons _ List.perm_middle.symm
      have hacc : ∀ {ss' : List Sl}, Wr ss' (L.ws ++ [Ep.new (Mp.ep L n B cs key val i hb) m]) (alls n cs) (G + 1) → Wr ss' (L.ws ++ [W.found]) (alls n (turn cs b0 (pre ++ ((Ep.new (Mp.ep L n B cs key val i hb) m, (key, val)) : Mq.Hp) :: t))) (G + 1) := fun hw => by
        refine hw.perm ?_
        rw [hx, List.append_assoc, List.append_assoc]
        exact List.Perm.append_left _ hpb
      have hlen : ∀ {l' : List Pr}, Upd l l' key val → l'.length = (alls n (turn cs b0 (pre ++ ((Ep.new (Mp.ep L n B cs key val i hb) m, (key, val)) : Mq.Hp) :: t))).length := fun hu => by
        have := hpb.length_eq
        simp only [List.length_cons] at this
        rw [hu.len, if_pos hl0, h.len]
        omega
      have hlk2 : ∀ {l' : List Pr}, Upd l l' key val → ∀ key', bkt key' n = b0 → Pc.lk l' key' = Pc.lk (prs (pre ++ ((Ep.new (Mp.ep L n B cs key val i hb) m, (key, val)) : Mq.Hp) :: t)) key' := fun hu key' e' => by
        rw [hu.lk]
        by_cases hkk : key' = key
        · rw [if_pos hkk, hkk]
          refine (lk_mem (p := (key, val)) ?_ ?_).symm
          · rw [kys_prs, hkys]; exact hkq
          · simp
        · rw [if_neg hkk, hlq key' e', hq]
          simp only [prs, List.map_append, List.map_cons]
          exact lk_swap (by rw [hp]; exact fun q => hkk q.symm) (fun q => hkk q.symm)
      have hbk' : ∀ e ∈ pre ++ ((Ep.new (Mp.ep L n B cs key val i hb) m, (key, val)) : Mq.Hp) :: t, FM.bucket (sm e.2.1) n = (b0 : Nat) := by
        intro e he
        rcases List.mem_append.1 he with he | he
        · exact hbq e (by rw [hq]; exact List.mem_append_left _ he)
        · rcases List.mem_cons.1 he with rfl | he
          · rw [hb0]; exact hb2
          · exact hbq e (by rw [hq]; exact List.mem_append_right _ (List.mem_cons_of_mem _ he))
      have hct : Cx (Ep.ss (Mp.ep L n B cs key val i hb) W m) z t := hc.keep fun y _ k hk => ⟨(hs y k hk).1, by rw [(hs y k hk).2.1]⟩
      have hndz : (at' (Ep.ss (Mp.ep L n B cs key val i hb) W m) m).nd = ndp (key, val) z := by rw [hnd, hfol]; rfl
      by_cases hpre : pre = []
      · -- at the beginning of its chain
        subst hpre
        have hpv0 : W.prev = 0 := hpv
        have e : ({ putL (Mp.ep L n B cs key val i hb) W m with ws := putW (Mp.ep L n B cs key val i hb) W } : Lm) = { L with xs := L.xs.set (B + b0) ((Ep.new (Mp.ep L n B cs key val i hb) m : Nat) : Int), ss := Ep.ss (Mp.ep L n B cs key val i hb) W m, ws := L.ws ++ [W.found] } := by
          unfold putL putW
          rw [if_neg (by omega), if_pos hx0, hb0]
        simp only [e]
        refine ⟨turn cs b0 ([] ++ ((Ep.new (Mp.ep L n B cs key val i hb) m, (key, val)) : Mq.Hp) :: t), fun l' hu => ?_⟩
        refine h.turned (by omega) (by simp) (fun j hj => ?_) hxb' hN ?_ hkeep hbk' (by rw [hkys]; exact hkq) (hacc hwr) hu.nd (hupd1 hu) (hlk2 hu) (hlen hu)
        · rw [nth_set _ _ _ (by omega), if_neg hj]
        · rw [hxset, Int.toNat_natCast]
          exact .cons hnew hndz hct
      · -- behind another one
        have hpv0 : W.prev ≠ 0 := by
          rw [hpv]
          exact lastH_ne (ss := L.ss) (by have := hch; rw [hq] at this; exact this) hpre
        obtain ⟨p0, e0, rfl⟩ : ∃ p0 e, pre = p0 ++ [e] := ⟨pre.dropLast, pre.getLast hpre, (List.dropLast_concat_getLast hpre).symm⟩
        rw [lastH_snoc] at hpv
        rw [hq] at hch
        obtain ⟨j, zj, hj, hndj⟩ := hch.at e0 (by simp)
        have hjs := hs _ _ hj
        have hroom := h.small.2
        have hjp : (W.prev - 1) % 65536 = j := by rw [hpv]; exact (isAt_parts hroom hj).1
        have hjl : j < (Ep.ss (Mp.ep L n B cs key val i hb) W m).length := hjs.1.1
        have e : ({ putL (Mp.ep L n B cs key val i hb) W m with ws := putW (Mp.ep L n B cs key val i hb) W } : Lm) = { L with xs := L.xs, ss := lnk (Ep.ss (Mp.ep L n B cs key val i hb) W m) W.prev (Ep.new (Mp.ep L n B cs key val i hb) m), ws := L.ws ++ [W.found] } := by
          unfold putL putW
          rw [if_pos ⟨hx0, hpv0⟩, if_pos hx0]
        simp only [e]
        -- what the link turns
        have hat : ∀ kk, at' (lnk (Ep.ss (Mp.ep L n B cs key val i hb) W m) W.prev (Ep.new (Mp.ep L n B cs key val i hb) m)) kk = if kk = j then { at' (Ep.ss (Mp.ep L n B cs key val i hb) W m) j with nd := { (at' (Ep.ss (Mp.ep L n B cs key val i hb) W m) j).nd with next := ((Ep.new (Mp.ep L n B cs key val i hb) m : Nat) : Int) } } else at' (Ep.ss (Mp.ep L n B cs key val i hb) W m) kk := fun kk => by
          unfold lnk
          rw [hjp, at_set hjl]
        have hat2 : ∀ kk, (at' (lnk (Ep.ss (Mp.ep L n B cs key val i hb) W m) W.prev (Ep.new (Mp.ep L n B cs key val i hb) m)) kk).taken = (at' (Ep.ss (Mp.ep L n B cs key val i hb) W m) kk).taken ∧ (at' (lnk (Ep.ss (Mp.ep L n B cs key val i hb) W m) W.prev (Ep.new (Mp.ep L n B cs key val i hb) m)) kk).gen = (at' (Ep.ss (Mp.ep L n B cs key val i hb) W m) kk).gen := fun kk => by
          rw [hat]
          split
          · rename_i e; subst e; exact ⟨rfl, rfl⟩
          · exact ⟨rfl, rfl⟩
        have hll : (lnk (Ep.ss (Mp.ep L n B cs key val i hb) W m) W.prev (Ep.new (Mp.ep L n B cs key val i hb) m)).length = (Ep.ss (Mp.ep L n B cs key val i hb) W m).length := by unfold lnk; simp
        have hlive : ∀ {y kk : Nat}, IsAt (Ep.ss (Mp.ep L n B cs key val i hb) W m) y kk → IsAt (lnk (Ep.ss (Mp.ep L n B cs key val i hb) W m) W.prev (Ep.new (Mp.ep L n B cs key val i hb) m)) y kk := fun {y kk} q => ⟨by rw [hll]; exact q.1, by rw [(hat2 kk).1]; exact q.2.1, by rw [(hat2 kk).2]; exact q.2.2⟩
        have hadn := h.ad
        have hperm := hap
        rw [hq] at hperm
        have hnodup := hperm.nodup_iff.1 hadn
        have hne : ∀ y kk, IsAt L.ss y kk → y ≠ e0.1 → kk ≠ j := by
          rintro y kk q1 q2 rfl
          exact q2 (by rw [q1.2.2, hj.2.2])
        have hkp : ∀ y kk, IsAt L.ss y kk → y ≠ e0.1 → IsAt (lnk (Ep.ss (Mp.ep L n B cs key val i hb) W m) W.prev (Ep.new (Mp.ep L n B cs key val i hb) m)) y kk ∧ (at' (lnk (Ep.ss (Mp.ep L n B cs key val i hb) W m) W.prev (Ep.new (Mp.ep L n B cs key val i hb) m)) kk).nd = (at' L.ss kk).nd := fun y kk q1 q2 => by
          have h1 := hs y kk q1
          refine ⟨hlive h1.1, ?_⟩
          rw [hat, if_neg (hne y kk q1 q2), h1.2.1]
        have hN2 : Nexts (lnk (Ep.ss (Mp.ep L n B cs key val i hb) W m) W.prev (Ep.new (Mp.ep L n B cs key val i hb) m)) := nexts_lnk hN _ _ hnb
        refine ⟨turn cs b0 (p0 ++ [e0] ++ ((Ep.new (Mp.ep L n B cs key val i hb) m, (key, val)) : Mq.Hp) :: t), fun l' hu => ?_⟩
        -- e0 stands once
        have hn1 : (hds (p0 ++ [e0] ++ (x, p) :: t)).Nodup := (List.nodup_append.1 hnodup).1
        have hn2 : ∀ y ∈ hds p0, y ≠ e0.1 := by
          intro y hy q
          have : (hds p0 ++ (e0.1 :: hds ((x, p) :: t))).Nodup := by simpa using hn1
          exact (List.nodup_append.1 this).2.2 y hy e0.1 (by simp) q
        have hn3 : ∀ y ∈ hds t, y ≠ e0.1 := by
          intro y hy q
          have : (hds p0 ++ (e0.1 :: hds ((x, p) :: t))).Nodup := by simpa using hn1
          have := (List.nodup_cons.1 (List.nodup_append.1 this).2.1).1
          exact this (by rw [← q]; exact List.mem_cons_of_mem _ hy)
        refine h.turned (by omega) rfl (fun j hj => rfl) h.xb hN2 ?_ ?_ hbk' (by rw [hkys]; exact hkq) (hacc (hwr.nodes hll hat2)) hu.nd (hupd1 hu) (hlk2 hu) (hlen hu)
        · have hsw : Cx (lnk (Ep.ss (Mp.ep L n B cs key val i hb) W m) W.prev (Ep.new (Mp.ep L n B cs key val i hb) m)) (Cl.nth L.xs (B + b0)).toNat (p0 ++ e0 :: (Ep.new (Mp.ep L n B cs key val i hb) m, (key, val)) :: t) := by
            refine Cx.swap (ss := L.ss) (m := m) (kp := j) (z := z) (e := e0) (e' := (x, p)) (hlive hnew) ?_ ?_ p0 _ (by simpa using hch) hj (hlive hjs.1) ?_ (fun y hy kk q => hkp y kk q (hn2 y hy))
            · rw [hat, if_neg (by have := hjs.2.2; omega)]
              exact hndz
            · exact hc.keep fun y hy kk q => hkp y kk q (hn3 y hy)
            · rw [hat, if_pos rfl]
              have hndj' : (at' (Ep.ss (Mp.ep L n B cs key val i hb) W m) j).nd = ndp e0.2 zj := by rw [hjs.2.1]; exact hndj
              simp only [hndj']
              rfl
          simpa using hsw
        · intro b hb' hbb
          refine (h.ch b hb').keep fun y hy kk q => hkp y kk q ?_
          rintro rfl
          -- a handle of another bucket
          have hy2 : e0.1 ∈ ((List.range n).erase b0).flatMap fun b => hds (cs b) := List.mem_flatMap.2 ⟨b, (List.mem_erase_of_ne hbb).2 (by simpa using hb'), hy⟩
          exact (List.nodup_append.1 hnodup).2.2 e0.1 (by simp) e0.1 hy2 rfl
end
end Go.Proofs.YtpfpanfpjopcjaaGreat.Mq
/- The statements of layer 11: whether a memory holds just a map. -/
namespace Go.Proofs.YtpfpanfpjopcjaaGreat.LawEl
open Go Go.RowKit Hp K Fl Rw Hm Ar Mm Me LK Wk Pc LawTen Pn Mq LawFnv
set_option maxRecDepth 100000

theorem alls_succ (cs : Nat → List Mq.Hp) (b : Nat) : alls (b + 1) cs = alls b cs ++ hds (cs b) := by simp [alls, List.range_succ]
section
variable {w : World} {M : Mo} {n B : Nat} {cs : Nat → List Mq.Hp} {l : List Pr} {G : Nat}
/-- What a chain's node says. -/
structure Says (M : Mo) (n : Nat) (l : List Pr) (b : Nat) (x : Nat) (p : Pr) (k z : Nat) : Prop where
  big : x ≤ 18446744073709551615
  at_ : IsAt M.ss x k
  nd : (at' M.ss k).nd = ndp p z
  zb : z ≤ 18446744073709551615
  lk : lk l p.1 = some p.2
  bk : FM.bucket (sm p.1) n = (b : Nat)
  sz : p.1.size ≤ 140737488355328
theorem says_of (h : Mp (lm M) n B cs l G) (hG : G ≤ 1000000) {A : Option Addr} (hP : PairsAt w A l) {b j : Nat} (hb : b < n) (hj : j < (hds (cs b)).length) : ∃ p k z, Says M n l b (Hm.nth (hds (cs b)) j) p k z := by
  have hj' : j < (cs b).length := by simpa using hj
  have hmem : (cs b)[j] ∈ cs b := List.getElem_mem hj'
  have hx : Hm.nth (hds (cs b)) j = (cs b)[j].1 := by rw [nth_get hj]; simp
  obtain ⟨k, z, hk, hnd⟩ := (h.ch b hb).at _ hmem
  have hal : (cs b)[j].1 ∈ alls n cs := alls_mem hb cs (List.mem_map_of_mem hmem)
  have hbk := h.bk b hb _ hmem
  have hkn : bkt (cs b)[j].2.1 n = b := by
    unfold bkt
    rw [hbk, Int.toNat_natCast]
  have hlk : Pc.lk l (cs b)[j].2.1 = some (cs b)[j].2.2 := by
    rw [h.lk, hkn]
    refine lk_mem ?_ (List.mem_map_of_mem hmem)
    rw [kys_prs]
    exact h.kd b hb
  obtain ⟨i, hi, hpi⟩ := List.getElem_of_mem (lk_some_mem hlk)
  obtain ⟨_, _, _, _, _, _, s0, _⟩ := hP i hi
  have hpp : pat l i = ((cs b)[j].2.1, (cs b)[j].2.2) := by simp [pat, List.getD, hi, hpi]
  rw [hpp] at s0
  refine ⟨(cs b)[j].2, k, z, ?_, ?_, hnd, ?_, hlk, hbk, s0⟩
  · show Hm.nth _ _ ≤ _
    rw [hx]
    exact (h.wr.small hG (List.mem_append_right _ hal)).1
  · show IsAt _ (Hm.nth _ _) _
    rw [hx]; exact hk
  · have := (h.nexts k).2
    have hnd' : (at' (lm M).ss k).nd = ndp (cs b)[j].2 z := hnd
    rw [hnd'] at this
    unfold ndp at this
    simp only at this
    omega
/-- What the rounds of Holds keep. -/
def HInv (w wr : World) (db n B : Nat) : Prop := Below w.heap.size w wr ∧ Blk wr db 72 #[.int .i64 n, .int .i64 B]
set_option maxHeartbeats 4000000 in
theorem holds_any (hM : MemAt w M) (h : Mp (lm M) n B cs l G) (hG : G ≤ 1000000) (A : Option Addr) (cap : Nat) (hl : l.length ≤ 1000000) (hP : PairsAt w A l) :
    Calls Tryz.prog 19 #[ptr M.m, .slice A l.length cap] w fun e w' => e = .returned (.bool true) ∧ Below w.heap.size w w' := by
  have hsm := h.small
  have hsm1 : M.ws.length + (alls n cs).length ≤ 1024 := hsm.1
  have hsm2 : M.ss.length ≤ 1024 := hsm.2
  have hnb := h.n_bd
  have hxl : B + n ≤ M.xs.length := h.xl
  have hkB : 2 + M.k ≤ B := h.kB
  have hk8 : 1 ≤ M.k ∧ M.k ≤ 8 := h.k
  have hNw := now_any hM (by omega)
  have hnw : Me.now M.xs M.ds = (n, B) := h.now
  rw [hnw] at hNw
  unfold dv at hNw
  have hCh := Lib.hid (fun wr (hb : Below w.heap.size w wr) b (hbn : b < n) => chain_any (hM.below hb) h.tabs (by omega) h.nexts hsm2 (b : Int) (by omega) (by omega) _ (h.chain hbn))
  have hRc := Lib.hid (fun wr (hb : Below w.heap.size w wr) => reach_any (hM.below hb) h.tabs (by omega) h.nexts hsm2 _ h.reach)
  have hLv := Lib.hid (fun wr (hb : Below w.heap.size w wr) (x k : Nat) (hx : x ≤ 18446744073709551615) (hk : IsAt M.ss x k) => live_ok (hM.below hb).2.2.2.1 hx hk)
  have hRd := Lib.hid (fun wr (hb : Below w.heap.size w wr) (x k : Nat) (hx : x ≤ 18446744073709551615) (hk : IsAt M.ss x k) => read_ok (hM.below hb).2.2.2.1 hx hk)
  have m2 := Lib.hid (fun wr (hb : Below w.heap.size w wr) => (hM.below hb).hd.2.2.1)
  have hGt := Lib.hid (fun wr (hb : Below w.heap.size w wr) key => ref_any wr l A cap (by simp only [maxLen]; omega) (hP.below hb) key)
  have hSy := Lib.hid (fun b j (hb : b < n) (hj : j < (hds (cs b)).length) => says_of h hG hP hb hj)
  have hll : l.length = (alls n cs).length := h.len
  have hle : ∀ b, b ≤ n → (alls b cs).length ≤ (alls n cs).length := fun b hb => by
    obtain ⟨d, rfl⟩ := Nat.exists_eq_add_of_le hb
    unfold alls
    rw [List.range_add, List.flatMap_append, List.length_append]
    omega
  have hsc : ∀ b, (alls (b + 1) cs).length = (alls b cs).length + (hds (cs b)).length := fun b => by rw [alls_succ, List.length_append]
  have hlm := hM.1.lt
  have h00 : (alls 0 cs).length = 0 := rfl
  obtain ⟨cnt, hcnt⟩ : ∃ cnt : Nat → Nat, cnt = fun b => (alls b cs).length := ⟨_, rfl⟩
  have hcn : ∀ b, (alls b cs).length = cnt b := fun b => by rw [hcnt]
  simp only [hcn] at hll hle hsc hsm1 h00
  replace hcn := Lib.hid hcn
  replace hle := Lib.hid hle
  replace hsc := Lib.hid hsc
  generalize hln : l.length = len at *
  replace hll := Lib.hid hll
  replace hln := Lib.hid hln
  replace hNw := Lib.hid hNw
  replace h00 := Lib.hid h00
  clear hM h hP hnw hcnt hsm
  go_enter Tryz.func19, Tryz.ntmps19
  go_wp2_with fail
  refine hNw.out.mono ?_
  rintro e w1 ⟨rfl, hB1⟩
  obtain ⟨w2, hw2⟩ : ∃ w2, w2 = w1.alloc (.cells #[.int .i64 n, .int .i64 B] 72) := ⟨_, rfl⟩
  have hD2 : Blk w2 w1.heap.size 72 #[.int .i64 n, .int .i64 B] := by rw [hw2]; exact Blk.made w1 _ _
  have hB2 : Below w.heap.size w w2 := by rw [hw2]; exact hB1.alloc hB1.size _
  have hdb := hB1.size
  go_upto_region 3 with (fail)
  rw [← hw2]
  clear hw2 hNw hB1
  generalize w1.heap.size = db at *
  have d0 := hD2.cell 0
  simp at d0
  have H0 := Lib.hid (And.intro hB2 hD2)
  clear hB2 hD2
  replace hlm := Lib.hid hlm
  replace hsm1 := Lib.hid hsm1
  go_wp2_with fail
  go_loopw [5, 18] (fun c i wr => ∃ b : Nat, b ≤ n ∧ i = .int .i64 b ∧ c = .int .i64 (cnt b) ∧ HInv w wr db n B) (fun _ i _ => n - (intOf i).toNat)
  case atStart => exact ⟨0, Nat.zero_le _, rfl, by rw [h00.out]; rfl, H0.out⟩
  case round =>
    obtain ⟨b, hb, rfl, rfl, hB, hD⟩ := hrel
    clear H0 d0
    by_cases hlt : b < n
    · have hC := Lib.hid (hCh.out wr hB b hlt)
      have hlb := hle.out (b + 1) (by omega)
      have hs1 := hsc.out b
      have hlb0 := hle.out b hb
      have hsm := hsm1.out
      generalize hts : hds (cs b) = ts at *
      generalize htl : ts.length = tl at *
      have hcs : cnt b + tl ≤ 1024 := by omega
      replace hs1 := Lib.hid hs1
      replace htl := Lib.hid htl
      replace hts := Lib.hid hts
      replace hB := Lib.hid hB
      replace hD := Lib.hid hD
      generalize hcb : cnt b = c0 at *
      replace hcb := Lib.hid hcb
      clear hlb hlb0 hsm
      go_wp2_with fail
      refine hC.out.mono ?_
      rintro e w3 ⟨Ac, capc, rfl, hR, hBc, hin⟩
      rw [htl.out]
      have hB3 := hB.out.trans (hBc.mono hB.out.size)
      have hD3 := hD.out.only (Only.ofBelow hBc (fun _ => False)) (by simp)
      have H1 : Hid (HInv w w3 db n B ∧ Hnds w3 Ac capc ts) := Lib.hid ⟨⟨hB3, hD3⟩, hR⟩
      have hrl := row_len hR
      rw [htl.out] at hrl
      clear hC hR hBc hin hB3 hD3 hB hD
      go_wp2_with fail
      go_loopw [5, 25] (fun c i wr => ∃ j : Nat, j ≤ tl ∧ i = .int .i64 j ∧ c = .int .i64 (c0 + j : Nat) ∧ HInv w wr db n B ∧ Hnds wr Ac capc ts) (fun _ i _ => tl - (intOf i).toNat)
      case atStart => exact ⟨0, Nat.zero_le _, rfl, rfl, H1.out⟩
      case round =>
        obtain ⟨j, hj, rfl, rfl, ⟨hB, hD⟩, hR⟩ := hrel
        clear H1
        by_cases hlt2 : j < tl
        · obtain ⟨bl, rfl, hbl, hc9, _⟩ := hnds_at hR j (by rw [htl.out]; exact hlt2)
          have hS := hSy.out b j hlt (by rw [hts.out, htl.out]; exact hlt2)
          rw [hts.out] at hS
          obtain ⟨⟨pk, pv⟩, k, z, hS⟩ := hS
          generalize Hm.nth ts j = x at *
          have hL := Lib.hid (hLv.out wr hB x k hS.big hS.at_)
          have hRr := hRd.out wr hB x k hS.big hS.at_
          rw [hS.nd] at hRr
          unfold ndv ndp at hRr
          simp only at hRr
          replace hRr := Lib.hid hRr
          have hm2 := m2.out wr hB
          have hG := fun wr2 hb2 => hGt.out wr2 hb2 pk
          have hlk : Pc.lk l pk = some pv := hS.lk
          rw [hlk] at hG
          unfold lkv at hG
          simp only [Option.getD_some, Option.isSome_some] at hG
          have hSm := fun wr2 => refsum_any pk wr2 (by have : pk.size ≤ 140737488355328 := hS.sz; simp only [maxLen]; omega)
          have hsm : ((FM.sum pk.data.toList : Nat) : Int) = sm pk := rfl
          rw [hsm] at hSm
          have hsb := sm_bd pk
          have hBk := fun wr2 => refbucket_any (sm pk) n wr2 hsb.1 hsb.2 (by omega) (by omega)
          have hbk : FM.bucket (sm pk) n = (b : Nat) := hS.bk
          rw [hbk] at hBk
          have hzb := hS.zb
          generalize sm pk = s at *
          replace hG := Lib.hid hG
          replace hSm := Lib.hid hSm
          replace hBk := Lib.hid hBk
          have hbl2 : bl < wr.heap.size := hbl
          clear hS hlk hsm hbk
          have HH := Lib.hid (And.intro hB (And.intro hD hR))
          clear hB hD hR
          go_wp2_with fail
          refine hL.out.mono ?_
          rintro e w' ⟨rfl, rfl⟩
          clear hL
          go_wp2_with fail
          refine hRr.out.mono ?_
          rintro e w4 ⟨rfl, hB4⟩
          obtain ⟨w5, hw5⟩ : ∃ w5, w5 = w4.alloc (.cells #[.string pk, .string pv, .int .u32 s, .int .u64 z] 89) := ⟨_, rfl⟩
          have hQ5 : Blk w5 w4.heap.size 89 #[.string pk, .string pv, .int .u32 s, .int .u64 z] := by rw [hw5]; exact Blk.made w4 _ _
          have hB5 : Below wr.heap.size wr w5 := by rw [hw5]; exact hB4.alloc hB4.size _
          obtain ⟨hB0, hD0, hR0⟩ := HH.out
          have hB05 := hB0.trans (hB5.mono hB0.size)
          have hD5 := hD0.only (Only.ofBelow hB5 (fun _ => False)) (by simp)
          have hR5 := hR0.only (Only.ofBelow hB5 (fun _ => False)) (by simp)
          go_upto_region 12 with (fail)
          rw [← hw5]
          clear hw5 hRr hc9 hm2 HH hB0 hD0 hR0 hB4 hB5
          generalize w4.heap.size = q at *
          have k0 := hQ5.cell 0
          have k1 := hQ5.cell 1
          have k2 := hQ5.cell 2
          have kd := hD5.cell 0
          simp at k0 k1 k2 kd
          have lq := hQ5.lt
          have ld := hD5.lt
          have hG5 := Lib.hid (hG.out w5 hB05)
          have H5 := Lib.hid (fun nq => show HInv w (w5.drewN nq) db n B ∧ Hnds (w5.drewN nq) (some ⟨bl, 0, none⟩) capc ts from
            ⟨⟨hB05.trans ⟨rfl, rfl, rfl, Nat.le_refl _, fun _ _ => rfl⟩, hD5.only ((Only.refl (fun _ => False) _).drewN nq) (by simp)⟩, hR5.only ((Only.refl (fun _ => False) _).drewN nq) (by simp)⟩)
          clear hQ5 hB05 hD5 hR5 hG
          go_wp2_with fail
          refine hG5.out.mono ?_
          rintro e w' ⟨rfl, rfl⟩
          clear hG5
          go_wp2_with fail
          go_quiet (first | (go_at_call 44; exact Calls.quiet_of_same (hSm.out _)) | (go_at_call 45; exact Calls.quiet_of_same (hBk.out _)))
          clear k0 k1 k2 kd
          go_wp2_with fail
          go_roundw
          case rel => exact ⟨j + 1, by omega, by go_num, by simp only [Int.natCast_add]; go_num, (H5.out nq).1, (H5.out nq).2⟩
          case measure => simp [intOf]; omega
        · obtain rfl : j = tl := by omega
          have H2 := Lib.hid (And.intro hB hD)
          clear hB hD hR
          go_wp2_with fail
          go_roundw
          case rel => exact ⟨b + 1, by omega, by go_num, by rw [hs1.out], H2.out⟩
          case measure => simp [intOf]; omega
    · obtain rfl : b = n := by omega
      have hR := hRc.out wr hB
      unfold Lists at hR
      rw [hcn.out b] at hR
      have hll' := hll.out
      rw [hll'] at *
      have hsm := hsm1.out
      generalize cnt b = c0 at *
      replace hR := Lib.hid hR
      replace hB := Lib.hid hB
      clear hD hll' hll
      go_wp2_with fail
      refine hR.out.mono ?_
      rintro e w3 ⟨Ac, capc, rfl, hRw, hBc, hin⟩
      have hBx := Lib.hid (hB.out.trans (hBc.mono hB.out.size))
      clear hRw hBc hin hR
      go_wp2_with fail
      go_ret
      exact ⟨rfl, hBx.out⟩
end
end Go.Proofs.YtpfpanfpjopcjaaGreat.LawEl
/- Layer 7 (retire): what a drain's step leaves of blocks; a drain behind mem.Finish; how it runs where nobody is in. -/
namespace Go.Proofs.YtpfpanfpjopcjaaGreat.Re
open Go Go.RowKit Hp K Fl Rw Hm Ar Mm Me Qs LawSix
set_option maxRecDepth 100000

theorem least_or (ss : List Sl) : (∀ k, k < ss.length → (at' ss k).taken = true) ∨ ∃ m, Least ss m := by
  have : ∀ n, n ≤ ss.length → (∀ k, k < n → (at' ss k).taken = true) ∨ ∃ m, Least ss m := by
    intro n
    induction n with
    | zero => intro _; exact .inl (fun k hk => by omega)
    | succ n ih =>
      intro hn
      rcases ih (by omega) with h | h
      · by_cases ht : (at' ss n).taken = true
        · refine .inl fun k hk => ?_
          by_cases e : k = n
          · subst e; exact ht
          · exact h k (by omega)
        · exact .inr ⟨n, by omega, by simpa using ht, h⟩
      · exact .inr h
  exact this _ (Nat.le_refl _)
theorem Wr.least {ss : List Sl} {ws left : List Nat} {B : Nat} (h : Wr ss ws left B) (hlt : ws.length + left.length < ss.length) : ∃ m, Least ss m := by
  rcases least_or ss with q | q
  · exfalso
    have : frees ss ss.length = [] := by
      apply List.eq_nil_iff_forall_not_mem.2
      intro a ha
      obtain ⟨h1, h2⟩ := mem_frees.1 ha
      rw [q a h1] at h2
      simp at h2
    have := h.cnt
    simp_all
  · exact q
theorem Wr.full {ss : List Sl} {ws left : List Nat} {B : Nat} (h : Wr ss ws left B) (hge : ss.length ≤ ws.length + left.length) : ∀ k, k < ss.length → (at' ss k).taken = true := by
  intro k hk
  by_cases ht : (at' ss k).taken = true
  · exact ht
  · exfalso
    have hm : k ∈ frees ss ss.length := mem_frees.2 ⟨hk, by simpa using ht⟩
    have := List.length_pos_of_mem hm
    have := h.cnt
    omega

section
variable {w w' : World} {M : Mo} {D : Dr} {n : Nat}
theorem dstep_same : (dstep n M D).1.m = M.m ∧ (dstep n M D).2.f = D.f ∧ (dstep n M D).2.fw = D.fw ∧ (dstep n M D).1.k = M.k ∧ (dstep n M D).1.F = M.F := by
  unfold dstep
  split
  · exact ⟨rfl, rfl, rfl, rfl, rfl⟩
  · split <;> exact ⟨rfl, rfl, rfl, rfl, rfl⟩
theorem dstep_foot {x : Nat} (h : mfoot (dstep n M D).1 x) : mfoot M x := by
  unfold dstep at h
  split at h
  · rcases h with q | q | q | q | q | q
    · exact .inl q
    · exact .inr (.inl q)
    · exact .inr (.inr (.inl q))
    · exact .inr (.inr (.inr (.inl q)))
    · exact .inr (.inr (.inr (.inr (.inl q))))
    · simp [In] at q
  · split at h <;> exact h
theorem dstep_apart (hM : MemAt w M) (hap : D.left ≠ [] → ∀ y, In D.A y → ¬ mfoot M y) (hne : D.at_ ≠ 0 → D.left ≠ []) : (dstep n M D).2.left ≠ [] → ∀ y, In (dstep n M D).2.A y → ¬ mfoot (dstep n M D).1 y := by
  unfold dstep
  split
  · intro _ y hy hx
    have hy : In M.V y := hy
    have ht := row_ty hM.2.2.2.2.2 hy
    rcases hx with q | q | q | q | q | q
    · exact ht.apart (by subst q; exact blk_ty hM.1) (by decide)
    · exact ht.apart (cells_ty hM.2.1 q) (by decide)
    · exact ht.apart (locks_ty hM.2.2.1 q) (by decide)
    · exact ht.apart (arena_ty hM.2.2.2.1 q) (by decide)
    · exact ht.apart (row_ty hM.2.2.2.2.1 q) (by decide)
    · simp [In] at q
  · rename_i h0
    split
    · exact hap
    · intro hl y hy
      exact hap (hne h0) y (nextA_in.1 hy)

theorem dstep_in (hne : D.at_ ≠ 0 → D.left ≠ []) (hl : (dstep n M D).2.left ≠ []) {y : Nat} (hy : In (dstep n M D).2.A y) : mfoot M y ∨ (D.left ≠ [] ∧ In D.A y) := by
  unfold dstep at hy
  split at hy
  · exact .inl (.inr (.inr (.inr (.inr (.inr hy)))))
  · rename_i h0
    split at hy
    · exact .inr ⟨hne h0, hy⟩
    · exact .inr ⟨hne h0, nextA_in.1 hy⟩
theorem mrD (a : Addr) (w : World) (f : Nat) : (method (f + 1) 75 (.pointer (some a)) "Ready").run Tryz.prog w = .ok (173, .pointer (some a)) w := by kernel_rfl
theorem msD (a : Addr) (w : World) (f : Nat) : (method (f + 1) 75 (.pointer (some a)) "Step").run Tryz.prog w = .ok (174, .pointer (some a)) w := by kernel_rfl
theorem erD (args : Array Value) (w : World) : (callFunc 173 args).run Tryz.prog w = .ok (.enter 173 args) w := by kernel_rfl
theorem esD (args : Array Value) (w : World) : (callFunc 174 args).run Tryz.prog w = .ok (.enter 174 args) w := by kernel_rfl

def rdD (s : Mo × Dr) : Bool := dready s.1 s.2
def stD (n : Nat) (s : Mo × Dr) : Mo × Dr := dstep n s.1 s.2
def dnD (s : Mo × Dr) : Bool := decide (s.2.at_ = 2 ∧ s.2.left.tail = [])
structure InvD (w0 : World) (M0 : Mo) (D0 : Dr) (s : Mo × Dr) (w : World) : Prop where
  mem : MemAt w s.1
  dr : DrAt w s.2
  only : Only (sfoot M0 D0) w0 w
  foot : ∀ x, mfoot s.1 x → mfoot M0 x
  apart : s.2.left ≠ [] → ∀ y, In s.2.A y → ¬ mfoot s.1 y
  inA : s.2.left ≠ [] → ∀ y, In s.2.A y → mfoot M0 y ∨ (D0.left ≠ [] ∧ In D0.A y)
  m : s.1.m = M0.m
  f : s.2.f = D0.f
  fw : s.2.fw = D0.fw
theorem Pd.ready {B : Nat} (h : Pd n M D B) (hM : MemAt w M) (hD : DrAt w D) : Calls Tryz.prog 173 #[ptr D.f, ptr M.m] w fun e w' => e = .returned (.bool (dready M D)) ∧ ∃ n, w' = w.drewN n :=
  ready_drain hM hD h.hl (fun q => by
    have ok := h.wt (by omega)
    have := ok.at_
    have := ok.passed
    have := ok.xl
    have := ok.n1
    exact ⟨by omega, fun q => ⟨by omega, by omega⟩⟩) (by have := h.at_; omega)
theorem finish_drain (hM : MemAt w M) (hD : DrAt w D) {B : Nat} (h : Pd n M D B) (hB : B ≤ 1000000) (hap : D.left ≠ [] → ∀ y, In D.A y → ¬ mfoot M y) (K : Nat) (hK : K ≤ 1000000) :
    Calls Tryz.prog 16 #[ptr M.m, .iface 75 (ptr D.f), .int .i64 K] w fun e w' => e = .returned (.tuple #[.int .i64 (fin rdD (stD n) dnD K (M, D)).1, .bool (fin rdD (stD n) dnD K (M, D)).2.1]) ∧
      InvD w M D (fin rdD (stD n) dnD K (M, D)).2.2 w' := by
  refine finish_gen 75 173 174 D.f (ptr M.m) (InvD w M D) (fun s => Pd n s.1 s.2 B) rdD (stD n) dnD (mrD _) (msD _) erD esD ?_ ?_ ?_ K hK (M, D) h w ⟨hM, hD, Only.refl _ _, fun _ q => q, hap, fun hl y hy => .inr ⟨hl, hy⟩, rfl, rfl, rfl⟩
  · rintro s w1 hI ok
    have := ok.ready hI.mem hI.dr
    rw [hI.m, hI.f] at this
    exact this.mono fun e w' ⟨h, nq, q⟩ => by
      subst q
      exact ⟨h, { hI with mem := hI.mem.drewN nq, dr := hI.dr.drewN nq, only := hI.only.drewN nq }⟩
  · rintro s w1 hI ok hr
    have := drain_step hI.mem hI.dr (ok.okd hB hI.apart) hr
    rw [hI.m, hI.f] at this
    have hs := dstep_same (n := n) (M := s.1) (D := s.2)
    exact this.mono fun e w' h => ⟨h.1, h.2.1, h.2.2.1, hI.only.trans' h.2.2.2 (fun x _ q => by
      rcases q with q | q | q
      · exact .inl (hI.foot x q)
      · exact .inr (.inl (by rw [← hI.f]; exact q))
      · exact .inr (.inr (by rw [← hI.fw]; exact q))), fun x q => hI.foot x (dstep_foot q), dstep_apart hI.mem hI.apart ok.some, fun hl y hy => (by
      rcases dstep_in ok.some hl hy with q | ⟨q1, q2⟩
      · exact .inl (hI.foot y q)
      · exact hI.inA q1 y q2), hs.1.trans hI.m, hs.2.1.trans hI.f, hs.2.2.1.trans hI.fw⟩
  · intro s ok hr hd
    exact ok.step hr (by simpa [dnD] using hd)
end

/-! ### where nobody is in -/
structure Qd (n : Nat) (M : Mo) (D : Dr) (z : List Nat) : Prop where
  zero : ∀ i, i < n → Cl.nth M.xs (2 + i) = 0
  lock : D.at_ = 0 ∨ (D.at_ = 1 ∧ D.W.at_ = 0) ∨ D.at_ = 2 → Lo.hol M.hs 0 = -1
  ws0 : D.at_ = 0 → M.ws ≠ [] ∧ z = []
  ws1 : D.at_ ≠ 0 → M.ws = z
def dmu (n : Nat) (M : Mo) (D : Dr) : Nat := if D.at_ = 0 then M.ws.length + (n + 4) - 0 else if D.at_ = 1 then rem n D.W + D.left.length else D.left.length
theorem rem_pos (n : Nat) (W : Wt) : 0 < rem n W := by unfold rem; split; omega; split; omega; split <;> omega
theorem Qd.run {n : Nat} {M : Mo} {D : Dr} {B : Nat} {z : List Nat} (h : Pd n M D B) (q : Qd n M D z) :
    dready M D = true ∧ 0 < dmu n M D ∧ (dnD (M, D) = true ↔ dmu n M D = 1) ∧ (¬ (D.at_ = 2 ∧ D.left.tail = []) → Qd n (dstep n M D).1 (dstep n M D).2 z ∧ dmu n (dstep n M D).1 (dstep n M D).2 + 1 = dmu n M D) := by
  have hat := h.at_
  by_cases h0 : D.at_ = 0
  · obtain ⟨hws, hz⟩ := q.ws0 h0
    have hp : 0 < M.ws.length := List.length_pos_iff.2 hws
    have e : dstep n M D = ({ M with V := none, capV := 0, ws := [] }, { D with A := M.V, cap := M.capV, left := M.ws, at_ := 1 }) := by unfold dstep; rw [if_pos h0]
    refine ⟨by simpa [dready, h0] using hp, by simp [dmu, h0]; omega, by simp [dnD, dmu, h0]; omega, fun _ => ?_⟩
    rw [e]
    refine ⟨⟨q.zero, fun _ => q.lock (.inl h0), fun q => by simp at q, fun _ => hz.symm⟩, ?_⟩
    have hr : rem n D.W = n + 3 := by simp [rem, (h.zero h0).2]
    simp [dmu, h0, hr]
    omega
  by_cases h1 : D.at_ = 1
  · have ok := h.wt (by omega)
    have hlp : 0 < D.left.length := List.length_pos_iff.2 (h.some h0)
    have hrp := rem_pos n D.W
    have hrd : readyB M.xs M.hs D.W = true := by
      unfold readyB
      by_cases g0 : D.W.at_ = 0
      · rw [if_pos g0]
        have := q.lock (.inr (.inl ⟨h1, g0⟩))
        have := ok.wk
        simp [takeB, *]
      rw [if_neg g0]
      by_cases g2 : D.W.at_ = 2
      · rw [if_pos g2]
        have := q.zero D.W.passed (ok.passed.2 (by omega))
        simp [passB, this]
      · rw [if_neg g2]
    have e : dstep n M D = ({ M with xs := (wstep n M.xs M.hs D.W).1, hs := (wstep n M.xs M.hs D.W).2.1 }, { D with W := (wstep n M.xs M.hs D.W).2.2, at_ := if D.W.at_ = 3 then 2 else 1 }) := by unfold dstep; rw [if_neg h0, if_pos h1]
    have hx0 : 0 < M.xs.length := by have := ok.xl; omega
    refine ⟨by simpa [dready, h1] using hrd, by simp [dmu, h1]; omega, by simp [dnD, dmu, h1]; omega, fun _ => ?_⟩
    rw [e]
    have hw3 := ok.at_
    have hz1 := q.ws1 h0
    have hps := ok.passed
    by_cases g0 : D.W.at_ = 0
    · have e' : wstep n M.xs M.hs D.W = (M.xs, M.hs.set 0 D.W.worker, { D.W with at_ := 1 }) := by unfold wstep; rw [if_pos g0]
      rw [e', if_neg (show ¬ D.W.at_ = 3 by omega)]
      refine ⟨⟨q.zero, fun r => ?_, fun r => by simp at r, fun _ => hz1⟩, ?_⟩
      · rcases r with r | r | r
        · simp at r
        · exact absurd r.2 (by simp)
        · simp at r
      · simp [dmu, h1, rem, g0]; omega
    by_cases g1 : D.W.at_ = 1
    · have e' : wstep n M.xs M.hs D.W = (M.xs.set 0 (Cl.sum64 (Cl.nth M.xs 0) 1), M.hs, { D.W with period := Cl.sum64 (Cl.nth M.xs 0) 1, at_ := 2 }) := by unfold wstep; rw [if_neg g0, if_pos g1]
      rw [e', if_neg (show ¬ D.W.at_ = 3 by omega)]
      refine ⟨⟨fun i hi => ?_, fun r => ?_, fun r => by simp at r, fun _ => hz1⟩, ?_⟩
      · show Cl.nth (M.xs.set 0 _) (2 + i) = 0
        rw [cnth_set hx0, if_neg (by omega)]; exact q.zero i hi
      · rcases r with r | r | r
        · simp at r
        · exact absurd r.2 (by simp)
        · simp at r
      · have := h.w01 (by omega) (by omega)
        simp [dmu, h1, rem, g1, this]; omega
    by_cases g2 : D.W.at_ = 2
    · have hlt := hps.2 (by omega)
      have e' : wstep n M.xs M.hs D.W = (M.xs, M.hs, { D.W with passed := D.W.passed + 1, at_ := if n ≤ D.W.passed + 1 then 3 else 2 }) := by unfold wstep; rw [if_neg g0, if_neg g1, if_pos g2]
      rw [e', if_neg (show ¬ D.W.at_ = 3 by omega)]
      refine ⟨⟨q.zero, fun r => ?_, fun r => by simp at r, fun _ => hz1⟩, ?_⟩
      · rcases r with r | r | r
        · simp at r
        · have r2 : (if n ≤ D.W.passed + 1 then 3 else 2) = 0 := r.2
          split at r2 <;> omega
        · simp at r
      · by_cases hc : n ≤ D.W.passed + 1
        · simp [dmu, h1, rem, g2, hc]; omega
        · simp [dmu, h1, rem, g2, hc]; omega
    · have g3 : D.W.at_ = 3 := by omega
      have e' : wstep n M.xs M.hs D.W = (M.xs, M.hs.set 0 (-1), { D.W with at_ := 4 }) := by unfold wstep; rw [if_neg g0, if_neg g1, if_neg g2]
      rw [e', if_pos g3]
      refine ⟨⟨q.zero, fun _ => hol_set h.hl _, fun r => by simp at r, fun _ => hz1⟩, ?_⟩
      simp [dmu, h1, rem, g3]; omega
  · have h2 : D.at_ = 2 := by omega
    obtain ⟨x, r, hl⟩ : ∃ x r, D.left = x :: r := by
      cases hh : D.left with
      | nil => exact absurd hh (h.some h0)
      | cons x r => exact ⟨x, r, rfl⟩
    refine ⟨by simp [dready, h2], by simp [dmu, h2, hl], by simp [dnD, dmu, h2, hl], fun hd => ?_⟩
    have hr0 : r ≠ [] := fun q => hd ⟨h2, by rw [hl]; exact q⟩
    have e : dstep n M D = ({ M with ss := freed M.ss (place x) }, { D with A := nextA D.A D.cap, cap := D.cap - 1, left := r, at_ := 2 }) := by
      unfold dstep; rw [if_neg h0, if_neg h1, hl]; simp [hr0]
    rw [e]
    exact ⟨⟨q.zero, fun _ => q.lock (.inr (.inr h2)), fun r => by simp at r, fun _ => q.ws1 h0⟩, by simp [dmu, h2, hl]⟩
/-- What a drain comes to where nobody is in. -/
theorem fin_run {n : Nat} {B : Nat} {z : List Nat} : ∀ (K : Nat) (s : Mo × Dr), Pd n s.1 s.2 B → Qd n s.1 s.2 z → dmu n s.1 s.2 ≤ K →
    ∃ s', fin rdD (stD n) dnD K s = (dmu n s.1 s.2, true, stD n s') ∧ Pd n s'.1 s'.2 B ∧ Qd n s'.1 s'.2 z ∧ (s'.2.at_ = 2 ∧ s'.2.left.tail = []) ∧ s'.1.F = s.1.F ∧ s'.1.ss.length = s.1.ss.length ∧ s'.1.xs.length = s.1.xs.length ∧ s'.1.hs.length = s.1.hs.length ∧ s'.1.k = s.1.k ∧ s'.2.W.worker = s.2.W.worker := by
  intro K
  induction K with
  | zero =>
    intro s h q hm
    have := (Qd.run h q).2.1
    omega
  | succ K ih =>
    intro s h q hm
    obtain ⟨r1, r2, r3, r4⟩ := Qd.run h q
    unfold fin
    rw [if_pos (show rdD s = true from r1)]
    by_cases hd : s.2.at_ = 2 ∧ s.2.left.tail = []
    · have e : dnD s = true := by simp [dnD, hd]
      rw [if_pos e, (r3.1 e)]
      exact ⟨s, rfl, h, q, hd, rfl, rfl, rfl, rfl, rfl, rfl⟩
    · have e : ¬ dnD s = true := by simpa [dnD] using hd
      obtain ⟨q2, m2⟩ := r4 hd
      rw [if_neg e]
      obtain ⟨s', e', a1, a2, a3, a4, a5, a6, a7, a8, a9⟩ := ih (stD n s) (h.step r1 hd) q2 (by show dmu n (dstep n s.1 s.2).1 (dstep n s.1 s.2).2 ≤ K; omega)
      have e' : fin rdD (stD n) dnD K (stD n s) = (dmu n (dstep n s.1 s.2).1 (dstep n s.1 s.2).2, true, stD n s') := e'
      refine ⟨s', by rw [e']; simp only [Prod.mk.injEq, and_true]; exact m2, a1, a2, a3, ?_⟩
      have hs : (stD n s).1.F = s.1.F ∧ (stD n s).1.ss.length = s.1.ss.length ∧ (stD n s).1.xs.length = s.1.xs.length ∧ (stD n s).1.hs.length = s.1.hs.length ∧ (stD n s).1.k = s.1.k ∧ (stD n s).2.W.worker = s.2.W.worker := by
        unfold stD dstep
        split
        · exact ⟨rfl, rfl, rfl, rfl, rfl, rfl⟩
        split
        · unfold wstep
          split
          · simp
          split
          · simp
          split <;> simp
        · simp [freed]
      rw [a4, a5, a6, a7, a8, a9]
      exact hs
end Go.Proofs.YtpfpanfpjopcjaaGreat.Re
/- Layer 7 (retire): what is left is handed out as a copy. -/
namespace Go.Proofs.YtpfpanfpjopcjaaGreat.Re
open Go Go.RowKit Hp K Fl Rw Hm Ar Mm Me Qs
set_option maxRecDepth 100000

theorem reps (v : Value) (n : Nat) : (madeCells #[v] n).toList = List.replicate n v := by
  apply List.ext_getElem?
  intro j
  by_cases h : j < n
  · simp [madeCells, h, Nat.mod_one]
  · simp [madeCells, h]
/-- A copy of a list of handles. -/
def Copied (w w' : World) (l : List Nat) (e : Ending) : Prop := ∃ A cap, e = .returned (.slice A l.length cap) ∧ Lft w' A l ∧ Below w.heap.size w w'
section
variable {w : World} {D : Dr}
end
end Go.Proofs.YtpfpanfpjopcjaaGreat.Re
/- What the statements of layer 7 use: a memory and a drain; the document's example. -/
namespace Go.Proofs.YtpfpanfpjopcjaaGreat.LawSeven
open Go Go.RowKit Hp K Fl Rw Hm Ar Mm Me LK Qs Re LawSix
set_option maxRecDepth 100000

/-- A memory and a drain, made since. -/
structure S7 (W0 w : World) (M : Mo) (D : Dr) : Prop where
  mem : MemAt w M
  dr : DrAt w D
  below : Below W0.heap.size W0 w
  lom : ∀ x, mfoot M x → W0.heap.size ≤ x
  lod : ∀ x, dfoot D x → W0.heap.size ≤ x
  apart : D.left ≠ [] → ∀ y, In D.A y → ¬ mfoot M y
section
variable {W0 w w' : World} {M M' : Mo} {D : Dr}
theorem S7.far (h : S7 W0 w M D) : ∀ x, dfoot D x → ¬ mfoot M x := by
  rintro x (rfl | rfl | ⟨hl, hx⟩)
  · exact (h.dr.far h.mem).1
  · exact (h.dr.far h.mem).2
  · exact h.apart hl x hx
theorem S7.down (h : S7 W0 w M D) (hb : Below w.heap.size w w') : S7 W0 w' M D := { h with mem := h.mem.below hb, dr := h.dr.below hb, below := h.below.trans (hb.mono h.below.size) }
theorem S7.drewN (h : S7 W0 w M D) (n : Nat) : S7 W0 (w.drewN n) M D := h.down ⟨rfl, rfl, rfl, Nat.le_refl _, fun _ _ => rfl⟩
/-- The memory turned. -/
theorem S7.turn (h : S7 W0 w M D) (hM : MemAt w' M') (ho : Only (mfoot M) w w') (hf : ∀ x, mfoot M' x → mfoot M x ∨ w.heap.size ≤ x) : S7 W0 w' M' D :=
  ⟨hM, h.dr.only ho h.far, h.below.trans (ho.toBelow h.below.size (fun x hx q => by have := h.lom x q; omega)), fun x hx => by
    rcases hf x hx with q | q
    · exact h.lom x q
    · have := h.below.size; omega, h.lod, fun hl y hy q => by
    rcases hf y q with q | q
    · exact h.apart hl y hy q
    · have := h.dr.lt (.inr (.inr ⟨hl, hy⟩)); omega⟩
theorem S7.alloc (h : S7 W0 w M D) {ss' : List Sl} {F' : Bool} (hA : ArenaAt w' M.ar M.sb M.fb ss' F') (ho : Only (afoot M.ar M.sb M.fb) w w') : S7 W0 w' { M with ss := ss', F := F' } D :=
  h.turn (h.mem.arena hA ho) (ho.mono (fun _ _ q => foot_arena _ q)) (fun _ q => .inl q)
/-- A handle waits. -/
theorem S7.put (h : S7 W0 w M D) {x : Nat} (hp : Put w M x w') : ∃ V' capV', S7 W0 w' { M with V := V', capV := capV', ws := M.ws ++ [x] } D := by
  obtain ⟨V', capV', hM, ho, hV⟩ := hp
  refine ⟨V', capV', h.turn hM (ho.mono (fun x _ q => ?_)) (fun x q => ?_)⟩
  · rcases q with q | q
    · exact .inl q
    · exact .inr (.inr (.inr (.inr (.inr q))))
  · rcases q with q | q | q | q | q | q
    · exact .inl (.inl q)
    · exact .inl (.inr (.inl q))
    · exact .inl (.inr (.inr (.inl q)))
    · exact .inl (.inr (.inr (.inr (.inl q))))
    · exact .inl (.inr (.inr (.inr (.inr (.inl q)))))
    · rcases hV x q with q | q
      · exact .inl (.inr (.inr (.inr (.inr (.inr q)))))
      · exact .inr q
theorem S7.stepped {n : Nat} (h : S7 W0 w M D) (hne : D.at_ ≠ 0 → D.left ≠ []) (hM : MemAt w' (dstep n M D).1) (hD : DrAt w' (dstep n M D).2) (ho : Only (sfoot M D) w w') : S7 W0 w' (dstep n M D).1 (dstep n M D).2 := by
  have hs := dstep_same (n := n) (M := M) (D := D)
  refine ⟨hM, hD, h.below.trans (ho.toBelow h.below.size (fun x hx q => ?_)), fun x q => h.lom x (dstep_foot q), fun x q => ?_, dstep_apart h.mem h.apart hne⟩
  · rcases q with q | q | q
    · have := h.lom x q; omega
    · have := h.lod x (.inl q); omega
    · have := h.lod x (.inr (.inl q)); omega
  · rcases q with q | q | ⟨hl, q⟩
    · exact h.lod x (.inl (q.trans hs.2.1))
    · exact h.lod x (.inr (.inl (q.trans hs.2.2.1)))
    · rcases dstep_in hne hl q with q | q
      · exact h.lom x q
      · exact h.lod x (.inr (.inr q))
theorem S7.finished {s : Mo × Dr} (h : S7 W0 w M D) (hI : InvD w M D s w') : S7 W0 w' s.1 s.2 := by
  refine ⟨hI.mem, hI.dr, h.below.trans (hI.only.toBelow h.below.size (fun x hx q => ?_)), fun x q => h.lom x (hI.foot x q), fun x q => ?_, hI.apart⟩
  · rcases q with q | q | q
    · have := h.lom x q; omega
    · have := h.lod x (.inl q); omega
    · have := h.lod x (.inr (.inl q)); omega
  · rcases q with q | q | ⟨hl, q⟩
    · exact h.lod x (.inl (q.trans hI.f))
    · exact h.lod x (.inr (.inl (q.trans hI.fw)))
    · rcases hI.inA hl x q with q | q
      · exact h.lom x q
      · exact h.lod x (.inr (.inr q))
/-- A new drain beside a memory. -/
theorem s7_new {w1 : World} {k : Int} {f : Nat} (hM : MemAt w M) (hb0 : Below W0.heap.size W0 w) (hlo : ∀ x, mfoot M x → W0.heap.size ≤ x) (hf : w.heap.size < f) (hD : DrAt w1 ⟨f, w.heap.size, 0, ⟨k, 0, 0, 0⟩, none, 0, []⟩) (hb : Below w.heap.size w w1) :
    S7 W0 w1 M ⟨f, w.heap.size, 0, ⟨k, 0, 0, 0⟩, none, 0, []⟩ := by
  have h0 := hb0.size
  refine ⟨hM.below hb, hD, hb0.trans (hb.mono h0), hlo, ?_, fun q => absurd rfl q⟩
  rintro x (q | q | ⟨q, _⟩)
  · have q : x = f := q
    omega
  · have q : x = w.heap.size := q
    omega
  · exact absurd rfl q
/-- A node's handle waits: of a place that was free. -/
theorem S7.allocs (h : S7 W0 w M D) {m : Nat} (hm : Least M.ss m) (hg : (at' M.ss m).gen ≤ 1000000) (n : Nd) :
    Calls Tryz.prog 101 #[ptr M.ar, ndv n] w fun e w' => e = .returned (.tuple #[.int .u64 ((at' M.ss m).gen * 65536 + m + 1 : Nat), .int .i64 0]) ∧ S7 W0 w' { M with ss := M.ss.set m ⟨true, (at' M.ss m).gen, n⟩ } D :=
  (alloc_ok h.mem.2.2.2.1 n m hm hg).mono fun _ _ q => ⟨q.1, h.alloc q.2.1 q.2.2⟩
end
/-- A drain at its beginning may stand. -/
theorem pd_new {n : Nat} {M : Mo} {f fw : Nat} {k : Int} {B : Nat} (hn : 1 ≤ n ∧ n ≤ 8) (hk : M.k = n) (hk0 : 0 ≤ k ∧ k ≤ 1000) (hl : 0 < M.hs.length) (hx : n + 2 ≤ M.xs.length) (hw : Wr M.ss M.ws [] B) : Pd n M ⟨f, fw, 0, ⟨k, 0, 0, 0⟩, none, 0, []⟩ B :=
  ⟨by simp, hk, hl, fun _ => ⟨rfl, rfl⟩, fun q => absurd rfl q, fun _ => ⟨hn.2, by simp, by simp; omega, hl, hx, ⟨by simp, fun _ => by show 0 < n; omega⟩, fun q => absurd rfl q⟩, fun _ _ => rfl, hw⟩
theorem wr_none {ss : List Sl} {B : Nat} (h : Wr ss [] [] B) (k : Nat) : (at' ss k).taken = false := by
  by_cases hk : k < ss.length
  · have h1 := h.cnt
    have h2 : (frees ss ss.length).length = (List.range ss.length).length := by simp at h1 ⊢; omega
    have := (List.length_filter_eq_length_iff.1 h2) k (List.mem_range.2 hk)
    simpa using this
  · simp [at', List.getD, List.getElem?_eq_none (Nat.le_of_not_lt hk), Sl.zero]
/-- What a drain leaves that is done. -/
structure Over (W0 w' : World) (M : Mo) (D : Dr) (B : Nat) (z : List Nat) (M' : Mo) (D' : Dr) : Prop where
  s : S7 W0 w' M' D'
  m : M'.m = M.m
  f : D'.f = D.f
  left : D'.left = []
  wr : Wr M'.ss z [] B
  ws : M'.ws = z
  F : M'.F = M.F
  ssl : M'.ss.length = M.ss.length
  xsl : M'.xs.length = M.xs.length
  hsl : M'.hs.length = M.hs.length
  k : M'.k = M.k
  zero : ∀ i : Nat, (i : Int) < M.k → Cl.nth M'.xs (2 + i) = 0
  lock : Lo.hol M'.hs 0 = -1
theorem finish_over {W0 w : World} {M : Mo} {D : Dr} {n B K : Nat} {z : List Nat} (h : S7 W0 w M D) (hp : Pd n M D B) (hB : B ≤ 1000000) (q : Qd n M D z) (hm : dmu n M D ≤ K) (hK : K ≤ 1000000) :
    Calls Tryz.prog 16 #[ptr M.m, .iface 75 (ptr D.f), .int .i64 K] w fun e w' => e = .returned (.tuple #[.int .i64 (dmu n M D), .bool true]) ∧ ∃ M' D', Over W0 w' M D B z M' D' := by
  obtain ⟨s', e', a1, a2, a3, a4, a5, a6, a7, a8, a9⟩ := fin_run K (M, D) hp q hm
  have hF := finish_drain h.mem h.dr hp hB h.apart K hK
  rw [e'] at hF
  refine hF.mono fun e w' hh => ⟨hh.1, (stD n s').1, (stD n s').2, ?_⟩
  have hI := hh.2
  obtain ⟨k, b1, b2, b3, b4, b5, b6, b7⟩ := a1.last a3
  have b1' : (stD n s').1 = { s'.1 with ss := freed s'.1.ss k } := b1
  have hz : s'.1.ws = z := a2.ws1 (by omega)
  refine ⟨h.finished hI, hI.m, hI.f, b2, ?_, ?_, ?_, ?_, ?_, ?_, ?_, fun i hi => ?_, ?_⟩
  · rw [b1']; rw [hz] at b7; exact b7
  · rw [b1']; exact hz
  · rw [b1']; exact a4
  · rw [b1']; show (freed s'.1.ss k).length = _; simp [freed]; exact a5
  · rw [b1']; exact a6
  · rw [b1']; exact a7
  · rw [b1']; exact a8
  · rw [b1']; exact a2.zero i (by have := hp.k; omega)
  · rw [b1']; exact a2.lock (.inr (.inr a3.1))

end Go.Proofs.YtpfpanfpjopcjaaGreat.LawSeven
/- Layer 7 (retire), beside nodes that stay: a drain that keeps a law of its own about places, those that wait and those that are left. -/
namespace Go.Proofs.YtpfpanfpjopcjaaGreat.Rk
open Go Go.RowKit Hp K Fl Rw Hm Ar Mm Me Qs LawSix Re
set_option maxRecDepth 100000

/-- What such a law keeps. -/
structure Rok (R : List Sl → List Nat → List Nat → Prop) : Prop where
  room : ∀ {ss ws left}, R ss ws left → ss.length ≤ 1024
  small : ∀ {ss ws left x}, R ss ws left → x ∈ left → x ≤ 18446744073709551615 ∧ ∃ k, IsAt ss x k ∧ (at' ss k).gen ≤ 1000000
  take : ∀ {ss ws}, R ss ws [] → R ss [] ws
  free : ∀ {ss ws x r k}, R ss ws (x :: r) → IsAt ss x k → R (freed ss k) ws r
section
variable {R : List Sl → List Nat → List Nat → Prop}
/-! ### a drain -/
/-- Where a drain may stand. -/
structure Pk (R : List Sl → List Nat → List Nat → Prop) (n : Nat) (M : Mo) (D : Dr) : Prop where
  at_ : D.at_ ≤ 2
  k : M.k = n
  hl : 0 < M.hs.length
  zero : D.at_ = 0 → D.left = [] ∧ D.W.at_ = 0
  some : D.at_ ≠ 0 → D.left ≠ []
  wt : D.at_ ≤ 1 → Okw n M.xs M.hs D.W
  w01 : D.at_ ≤ 1 → D.W.at_ ≤ 1 → D.W.passed = 0
  wr : R M.ss M.ws D.left
theorem Pk.okd {n : Nat} {M : Mo} {D : Dr} (o : Rok R) (h : Pk R n M D) (ha : D.left ≠ [] → ∀ y, In D.A y → ¬ mfoot M y) : Okd n M D :=
  ⟨h.at_, h.k, h.hl, fun q => (h.zero q).1, h.wt, h.some, fun x hx => o.small h.wr hx, ha⟩
theorem Pk.step {n : Nat} {M : Mo} {D : Dr} (o : Rok R) (h : Pk R n M D) (hr : dready M D = true) (hd : ¬ (D.at_ = 2 ∧ D.left.tail = [])) : Pk R n (dstep n M D).1 (dstep n M D).2 := by
  have hat := h.at_
  by_cases h0 : D.at_ = 0
  · have hws : M.ws ≠ [] := by
      have : 0 < M.ws.length := by simpa [dready, h0] using hr
      intro q; rw [q] at this; simp at this
    have e : dstep n M D = ({ M with V := none, capV := 0, ws := [] }, { D with A := M.V, cap := M.capV, left := M.ws, at_ := 1 }) := by unfold dstep; rw [if_pos h0]
    rw [e]
    have hw := h.wr
    rw [(h.zero h0).1] at hw
    exact ⟨by simp, h.k, h.hl, fun q => by simp at q, fun _ => hws, fun _ => h.wt (by omega), fun _ => h.w01 (by omega), o.take hw⟩
  by_cases h1 : D.at_ = 1
  · have okw := h.wt (by omega)
    have hrd : readyB M.xs M.hs D.W = true := by simpa [dready, h1] using hr
    have e : dstep n M D = ({ M with xs := (wstep n M.xs M.hs D.W).1, hs := (wstep n M.xs M.hs D.W).2.1 }, { D with W := (wstep n M.xs M.hs D.W).2.2, at_ := if D.W.at_ = 3 then 2 else 1 }) := by unfold dstep; rw [if_neg h0, if_pos h1]
    rw [e]
    have hhl : 0 < (wstep n M.xs M.hs D.W).2.1.length := by
      have := h.hl
      unfold wstep
      split
      · simpa using this
      split
      · exact this
      split
      · exact this
      · simpa using this
    by_cases h3 : D.W.at_ = 3
    · rw [if_pos h3]
      exact ⟨by simp, h.k, hhl, fun q => by simp at q, fun _ => h.some h0, fun q => by simp at q, fun q => by simp at q, h.wr⟩
    · rw [if_neg h3]
      refine ⟨by simp, h.k, hhl, fun q => by simp at q, fun _ => h.some h0, fun _ => okw.step hrd h3, fun _ q => ?_, h.wr⟩
      have hp := h.w01 (by omega)
      have hw3 := okw.at_
      show (wstep n M.xs M.hs D.W).2.2.passed = 0
      have q : (wstep n M.xs M.hs D.W).2.2.at_ ≤ 1 := q
      unfold wstep at q ⊢
      split
      · exact hp (by omega)
      · rename_i g0
        rw [if_neg g0] at q
        split
        · rename_i g1
          rw [if_pos g1] at q
          simp at q
        · rename_i g1
          rw [if_neg g1] at q
          split
          · rename_i g2
            rw [if_pos g2] at q
            have q : (if n ≤ D.W.passed + 1 then 3 else 2) ≤ 1 := q
            split at q <;> omega
          · omega
  · have h2 : D.at_ = 2 := by omega
    obtain ⟨x, r, hl⟩ : ∃ x r, D.left = x :: r := by
      cases hh : D.left with
      | nil => exact absurd hh (h.some h0)
      | cons x r => exact ⟨x, r, rfl⟩
    have hr0 : r ≠ [] := fun q => hd ⟨h2, by rw [hl]; exact q⟩
    have hw := h.wr
    rw [hl] at hw
    obtain ⟨_, k, hk, _⟩ := o.small hw List.mem_cons_self
    have hpl := place_at (o.room hw) hk
    have e : dstep n M D = ({ M with ss := freed M.ss k }, { D with A := nextA D.A D.cap, cap := D.cap - 1, left := r, at_ := 2 }) := by
      unfold dstep; rw [if_neg h0, if_neg h1, hl]; simp [hpl, hr0]
    rw [e]
    exact ⟨by simp, h.k, h.hl, fun q => by simp at q, fun _ => hr0, fun q => by simp at q, fun q => by simp at q, o.free hw hk⟩
/-- The last step. -/
theorem Pk.last {n : Nat} {M : Mo} {D : Dr} (o : Rok R) (h : Pk R n M D) (hd : D.at_ = 2 ∧ D.left.tail = []) :
    ∃ k, (dstep n M D).1 = { M with ss := freed M.ss k } ∧ (dstep n M D).2.left = [] ∧ (dstep n M D).2.at_ = 3 ∧ (dstep n M D).2.f = D.f ∧ (dstep n M D).2.fw = D.fw ∧ (dstep n M D).2.W = D.W ∧ R (freed M.ss k) M.ws [] := by
  obtain ⟨h2, ht⟩ := hd
  obtain ⟨x, r, hl⟩ : ∃ x r, D.left = x :: r := by
    cases hh : D.left with
    | nil => exact absurd hh (h.some (by omega))
    | cons x r => exact ⟨x, r, rfl⟩
  rw [hl] at ht
  simp only [List.tail_cons] at ht
  subst ht
  have hw := h.wr
  rw [hl] at hw
  obtain ⟨_, k, hk, _⟩ := o.small hw List.mem_cons_self
  have hpl := place_at (o.room hw) hk
  have e : dstep n M D = ({ M with ss := freed M.ss k }, { D with A := nextA D.A D.cap, cap := D.cap - 1, left := [], at_ := 3 }) := by
    unfold dstep; rw [if_neg (by omega), if_neg (by omega), hl]; simp [hpl]
  rw [e]
  exact ⟨k, rfl, rfl, rfl, rfl, rfl, rfl, o.free hw hk⟩
section
variable {w w' : World} {M : Mo} {D : Dr} {n : Nat}
theorem Pk.ready (h : Pk R n M D) (hM : MemAt w M) (hD : DrAt w D) : Calls Tryz.prog 173 #[ptr D.f, ptr M.m] w fun e w' => e = .returned (.bool (dready M D)) ∧ ∃ n, w' = w.drewN n :=
  ready_drain hM hD h.hl (fun q => by
    have ok := h.wt (by omega)
    have := ok.at_
    have := ok.passed
    have := ok.xl
    have := ok.n1
    exact ⟨by omega, fun q => ⟨by omega, by omega⟩⟩) (by have := h.at_; omega)
theorem finish_drain (o : Rok R) (hM : MemAt w M) (hD : DrAt w D) (h : Pk R n M D) (hap : D.left ≠ [] → ∀ y, In D.A y → ¬ mfoot M y) (K : Nat) (hK : K ≤ 1000000) :
    Calls Tryz.prog 16 #[ptr M.m, .iface 75 (ptr D.f), .int .i64 K] w fun e w' => e = .returned (.tuple #[.int .i64 (fin rdD (stD n) dnD K (M, D)).1, .bool (fin rdD (stD n) dnD K (M, D)).2.1]) ∧
      InvD w M D (fin rdD (stD n) dnD K (M, D)).2.2 w' := by
  refine finish_gen 75 173 174 D.f (ptr M.m) (InvD w M D) (fun s => Pk R n s.1 s.2) rdD (stD n) dnD (mrD _) (msD _) erD esD ?_ ?_ ?_ K hK (M, D) h w ⟨hM, hD, Only.refl _ _, fun _ q => q, hap, fun hl y hy => .inr ⟨hl, hy⟩, rfl, rfl, rfl⟩
  · rintro s w1 hI ok
    have := ok.ready hI.mem hI.dr
    rw [hI.m, hI.f] at this
    exact this.mono fun e w' ⟨h, nq, q⟩ => by
      subst q
      exact ⟨h, { hI with mem := hI.mem.drewN nq, dr := hI.dr.drewN nq, only := hI.only.drewN nq }⟩
  · rintro s w1 hI ok hr
    have := drain_step hI.mem hI.dr (ok.okd o hI.apart) hr
    rw [hI.m, hI.f] at this
    have hs := dstep_same (n := n) (M := s.1) (D := s.2)
    exact this.mono fun e w' h => ⟨h.1, h.2.1, h.2.2.1, hI.only.trans' h.2.2.2 (fun x _ q => by
      rcases q with q | q | q
      · exact .inl (hI.foot x q)
      · exact .inr (.inl (by rw [← hI.f]; exact q))
      · exact .inr (.inr (by rw [← hI.fw]; exact q))), fun x q => hI.foot x (dstep_foot q), dstep_apart hI.mem hI.apart ok.some, fun hl y hy => (by
      rcases dstep_in ok.some hl hy with q | ⟨q1, q2⟩
      · exact .inl (hI.foot y q)
      · exact hI.inA q1 y q2), hs.1.trans hI.m, hs.2.1.trans hI.f, hs.2.2.1.trans hI.fw⟩
  · intro s ok hr hd
    exact ok.step o hr (by simpa [dnD] using hd)
end

/-! ### where nobody is in -/
theorem runk {n : Nat} {M : Mo} {D : Dr} {z : List Nat} (h : Pk R n M D) (q : Qd n M D z) :
    dready M D = true ∧ 0 < dmu n M D ∧ (dnD (M, D) = true ↔ dmu n M D = 1) ∧ (¬ (D.at_ = 2 ∧ D.left.tail = []) → Qd n (dstep n M D).1 (dstep n M D).2 z ∧ dmu n (dstep n M D).1 (dstep n M D).2 + 1 = dmu n M D) := by
  have hat := h.at_
  by_cases h0 : D.at_ = 0
  · obtain ⟨hws, hz⟩ := q.ws0 h0
    have hp : 0 < M.ws.length := List.length_pos_iff.2 hws
    have e : dstep n M D = ({ M with V := none, capV := 0, ws := [] }, { D with A := M.V, cap := M.capV, left := M.ws, at_ := 1 }) := by unfold dstep; rw [if_pos h0]
    refine ⟨by simpa [dready, h0] using hp, by simp [dmu, h0]; omega, by simp [dnD, dmu, h0]; omega, fun _ => ?_⟩
    rw [e]
    refine ⟨⟨q.zero, fun _ => q.lock (.inl h0), fun q => by simp at q, fun _ => hz.symm⟩, ?_⟩
    have hr : rem n D.W = n + 3 := by simp [rem, (h.zero h0).2]
    simp [dmu, h0, hr]
    omega
  by_cases h1 : D.at_ = 1
  · have ok := h.wt (by omega)
    have hlp : 0 < D.left.length := List.length_pos_iff.2 (h.some h0)
    have hrp := rem_pos n D.W
    have hrd : readyB M.xs M.hs D.W = true := by
      unfold readyB
      by_cases g0 : D.W.at_ = 0
      · rw [if_pos g0]
        have := q.lock (.inr (.inl ⟨h1, g0⟩))
        have := ok.wk
        simp [takeB, *]
      rw [if_neg g0]
      by_cases g2 : D.W.at_ = 2
      · rw [if_pos g2]
        have := q.zero D.W.passed (ok.passed.2 (by omega))
        simp [passB, this]
      · rw [if_neg g2]
    have e : dstep n M D = ({ M with xs := (wstep n M.xs M.hs D.W).1, hs := (wstep n M.xs M.hs D.W).2.1 }, { D with W := (wstep n M.xs M.hs D.W).2.2, at_ := if D.W.at_ = 3 then 2 else 1 }) := by unfold dstep; rw [if_neg h0, if_pos h1]
    have hx0 : 0 < M.xs.length := by have := ok.xl; omega
    refine ⟨by simpa [dready, h1] using hrd, by simp [dmu, h1]; omega, by simp [dnD, dmu, h1]; omega, fun _ => ?_⟩
    rw [e]
    have hw3 := ok.at_
    have hz1 := q.ws1 h0
    have hps := ok.passed
    by_cases g0 : D.W.at_ = 0
    · have e' : wstep n M.xs M.hs D.W = (M.xs, M.hs.set 0 D.W.worker, { D.W with at_ := 1 }) := by unfold wstep; rw [if_pos g0]
      rw [e', if_neg (show ¬ D.W.at_ = 3 by omega)]
      refine ⟨⟨q.zero, fun r => ?_, fun r => by simp at r, fun _ => hz1⟩, ?_⟩
      · rcases r with r | r | r
        · simp at r
        · exact absurd r.2 (by simp)
        · simp at r
      · simp [dmu, h1, rem, g0]; omega
    by_cases g1 : D.W.at_ = 1
    · have e' : wstep n M.xs M.hs D.W = (M.xs.set 0 (Cl.sum64 (Cl.nth M.xs 0) 1), M.hs, { D.W with period := Cl.sum64 (Cl.nth M.xs 0) 1, at_ := 2 }) := by unfold wstep; rw [if_neg g0, if_pos g1]
      rw [e', if_neg (show ¬ D.W.at_ = 3 by omega)]
      refine ⟨⟨fun i hi => ?_, fun r => ?_, fun r => by simp at r, fun _ => hz1⟩, ?_⟩
      · show Cl.nth (M.xs.set 0 _) (2 + i) = 0
        rw [cnth_set hx0, if_neg (by omega)]; exact q.zero i hi
      · rcases r with r | r | r
        · simp at r
        · exact absurd r.2 (by simp)
        · simp at r
      · have := h.w01 (by omega) (by omega)
        simp [dmu, h1, rem, g1, this]; omega
    by_cases g2 : D.W.at_ = 2
    · have hlt := hps.2 (by omega)
      have e' : wstep n M.xs M.hs D.W = (M.xs, M.hs, { D.W with passed := D.W.passed + 1, at_ := if n ≤ D.W.passed + 1 then 3 else 2 }) := by unfold wstep; rw [if_neg g0, if_neg g1, if_pos g2]
      rw [e', if_neg (show ¬ D.W.at_ = 3 by omega)]
      refine ⟨⟨q.zero, fun r => ?_, fun r => by simp at r, fun _ => hz1⟩, ?_⟩
      · rcases r with r | r | r
        · simp at r
        · have r2 : (if n ≤ D.W.passed + 1 then 3 else 2) = 0 := r.2
          split at r2 <;> omega
        · simp at r
      · by_cases hc : n ≤ D.W.passed + 1
        · simp [dmu, h1, rem, g2, hc]; omega
        · simp [dmu, h1, rem, g2, hc]; omega
    · have g3 : D.W.at_ = 3 := by omega
      have e' : wstep n M.xs M.hs D.W = (M.xs, M.hs.set 0 (-1), { D.W with at_ := 4 }) := by unfold wstep; rw [if_neg g0, if_neg g1, if_neg g2]
      rw [e', if_pos g3]
      refine ⟨⟨q.zero, fun _ => hol_set h.hl _, fun r => by simp at r, fun _ => hz1⟩, ?_⟩
      simp [dmu, h1, rem, g3]; omega
  · have h2 : D.at_ = 2 := by omega
    obtain ⟨x, r, hl⟩ : ∃ x r, D.left = x :: r := by
      cases hh : D.left with
      | nil => exact absurd hh (h.some h0)
      | cons x r => exact ⟨x, r, rfl⟩
    refine ⟨by simp [dready, h2], by simp [dmu, h2, hl], by simp [dnD, dmu, h2, hl], fun hd => ?_⟩
    have hr0 : r ≠ [] := fun q => hd ⟨h2, by rw [hl]; exact q⟩
    have e : dstep n M D = ({ M with ss := freed M.ss (place x) }, { D with A := nextA D.A D.cap, cap := D.cap - 1, left := r, at_ := 2 }) := by
      unfold dstep; rw [if_neg h0, if_neg h1, hl]; simp [hr0]
    rw [e]
    exact ⟨⟨q.zero, fun _ => q.lock (.inr (.inr h2)), fun r => by simp at r, fun _ => q.ws1 h0⟩, by simp [dmu, h2, hl]⟩
theorem hol_same {hs : List Int} {v : Int} {i : Nat} (hi : 1 ≤ i) : Lo.hol (hs.set 0 v) i = Lo.hol hs i := by
  unfold Lo.hol List.getD
  rw [List.getElem?_set_ne (by omega)]
theorem nth_same {xs : List Int} {v : Int} {i : Nat} (hi : 1 ≤ i) : Cl.nth (xs.set 0 v) i = Cl.nth xs i := by
  unfold Cl.nth List.getD
  rw [List.getElem?_set_ne (by omega)]
theorem dstep_zero {n : Nat} {M : Mo} {D : Dr} : (dstep n M D).1.ds = M.ds ∧ (∀ i, 1 ≤ i → Cl.nth (dstep n M D).1.xs i = Cl.nth M.xs i) ∧ ∀ i, 1 ≤ i → Lo.hol (dstep n M D).1.hs i = Lo.hol M.hs i := by
  unfold dstep
  split
  · exact ⟨rfl, fun _ _ => rfl, fun _ _ => rfl⟩
  split
  · unfold wstep
    split
    · exact ⟨rfl, fun _ _ => rfl, fun i hi => hol_same hi⟩
    split
    · exact ⟨rfl, fun i hi => nth_same hi, fun _ _ => rfl⟩
    split
    · exact ⟨rfl, fun _ _ => rfl, fun _ _ => rfl⟩
    · exact ⟨rfl, fun _ _ => rfl, fun i hi => hol_same hi⟩
  · exact ⟨rfl, fun _ _ => rfl, fun _ _ => rfl⟩
/-- What a drain comes to where nobody is in. -/
theorem fin_run {n : Nat} {z : List Nat} (o : Rok R) : ∀ (K : Nat) (s : Mo × Dr), Pk R n s.1 s.2 → Qd n s.1 s.2 z → dmu n s.1 s.2 ≤ K →
    ∃ s', fin rdD (stD n) dnD K s = (dmu n s.1 s.2, true, stD n s') ∧ Pk R n s'.1 s'.2 ∧ Qd n s'.1 s'.2 z ∧ (s'.2.at_ = 2 ∧ s'.2.left.tail = []) ∧ s'.1.F = s.1.F ∧ s'.1.ss.length = s.1.ss.length ∧ s'.1.xs.length = s.1.xs.length ∧ s'.1.hs.length = s.1.hs.length ∧ s'.1.k = s.1.k ∧ s'.2.W.worker = s.2.W.worker ∧ s'.1.ds = s.1.ds ∧ (∀ i, 1 ≤ i → Cl.nth s'.1.xs i = Cl.nth s.1.xs i) ∧ ∀ i, 1 ≤ i → Lo.hol s'.1.hs i = Lo.hol s.1.hs i := by
  intro K
  induction K with
  | zero =>
    intro s h q hm
    have := (runk h q).2.1
    omega
  | succ K ih =>
    intro s h q hm
    obtain ⟨r1, r2, r3, r4⟩ := runk h q
    unfold fin
    rw [if_pos (show rdD s = true from r1)]
    by_cases hd : s.2.at_ = 2 ∧ s.2.left.tail = []
    · have e : dnD s = true := by simp [dnD, hd]
      rw [if_pos e, (r3.1 e)]
      exact ⟨s, rfl, h, q, hd, rfl, rfl, rfl, rfl, rfl, rfl, rfl, fun _ _ => rfl, fun _ _ => rfl⟩
    · have e : ¬ dnD s = true := by simpa [dnD] using hd
      obtain ⟨q2, m2⟩ := r4 hd
      rw [if_neg e]
      obtain ⟨s', e', a1, a2, a3, a4, a5, a6, a7, a8, a9, b1, b2, b3⟩ := ih (stD n s) (h.step o r1 hd) q2 (by show dmu n (dstep n s.1 s.2).1 (dstep n s.1 s.2).2 ≤ K; omega)
      have e' : fin rdD (stD n) dnD K (stD n s) = (dmu n (dstep n s.1 s.2).1 (dstep n s.1 s.2).2, true, stD n s') := e'
      refine ⟨s', by rw [e']; simp only [Prod.mk.injEq, and_true]; exact m2, a1, a2, a3, ?_⟩
      have hs : (stD n s).1.F = s.1.F ∧ (stD n s).1.ss.length = s.1.ss.length ∧ (stD n s).1.xs.length = s.1.xs.length ∧ (stD n s).1.hs.length = s.1.hs.length ∧ (stD n s).1.k = s.1.k ∧ (stD n s).2.W.worker = s.2.W.worker := by
        unfold stD dstep
        split
        · exact ⟨rfl, rfl, rfl, rfl, rfl, rfl⟩
        split
        · unfold wstep
          split
          · simp
          split
          · simp
          split <;> simp
        · simp [freed]
      have hx := dstep_zero (n := n) (M := s.1) (D := s.2)
      exact ⟨a4.trans hs.1, a5.trans hs.2.1, a6.trans hs.2.2.1, a7.trans hs.2.2.2.1, a8.trans hs.2.2.2.2.1, a9.trans hs.2.2.2.2.2, b1.trans hx.1, fun i hi => (b2 i hi).trans (hx.2.1 i hi), fun i hi => (b3 i hi).trans (hx.2.2 i hi)⟩
end
end Go.Proofs.YtpfpanfpjopcjaaGreat.Rk
/- The statements of layer 11: all that wait are freed; the map stays. -/
namespace Go.Proofs.YtpfpanfpjopcjaaGreat.LawEl
open Go Go.RowKit Hp K Fl Rw Hm Ar Mm Me LK Qs Re LawSix Pn Pc Mq
set_option maxRecDepth 100000

/-- What is kept while those that wait are freed: the nodes of the chains as they were. -/
def Kept (ss0 : List Sl) (ks : List Nat) (G : Nat) (ss : List Sl) (ws left : List Nat) : Prop :=
  Wr ss (ws ++ left) ks G ∧ Nexts ss ∧ ss.length = ss0.length ∧ ∀ y ∈ ks, ∀ k, IsAt ss0 y k → IsAt ss y k ∧ at' ss k = at' ss0 k
theorem kept_ok {ss0 : List Sl} {ks : List Nat} {G : Nat} (hG : G ≤ 1000000) : Rk.Rok (Kept ss0 ks G) := by
  refine ⟨fun h => h.1.room, fun h hx => ?_, fun h => ?_, ?_⟩
  · exact h.1.small hG (List.mem_append_left _ (List.mem_append_right _ hx))
  · obtain ⟨h1, h2, h3, h4⟩ := h
    exact ⟨by simpa using h1, h2, h3, h4⟩
  · rintro ss ws x r k ⟨h1, h2, h3, h4⟩ hk
    have hp : ((ws ++ ks) ++ (x :: r)).Perm ((ws ++ x :: r) ++ ks) := by
      rw [List.append_assoc, List.append_assoc]
      exact List.Perm.append_left _ List.perm_append_comm
    have hw := (h1.perm hp).free hk
    have hnd := h1.nd
    refine ⟨hw.perm ?_, h2.set hk.1 _ (by simp [Nd.zero]), by simp [freed]; exact h3, fun y hy j hj => ?_⟩
    · rw [List.append_assoc, List.append_assoc]
      exact List.Perm.append_left _ List.perm_append_comm
    · obtain ⟨q1, q2⟩ := h4 y hy j hj
      have hne : j ≠ k := by
        rintro rfl
        have e : y = x := by rw [q1.2.2, hk.2.2]
        subst e
        exact (List.nodup_append.1 hnd).2.2 y (by simp) y hy rfl
      unfold freed
      refine ⟨(isAt_turn hk.1 _ _ _).2 (by rw [if_neg hne]; exact q1), ?_⟩
      rw [at_set hk.1, if_neg hne]
      exact q2
theorem hs_all {hs : List Int} (hl : hs.length = 6) (h : ∀ i, Lo.hol hs i = -1) : hs = List.replicate 6 (-1) := by
  apply List.ext_getElem
  · simpa using hl
  · intro i h1 h2
    have := h i
    unfold Lo.hol at this
    rw [List.getD_eq_getElem?_getD, List.getElem?_eq_getElem h1] at this
    rw [List.getElem_replicate]
    exact this
section
variable {w : World} {M : Mo} {n B : Nat} {cs : Nat → List Mq.Hp} {l : List Pr} {G : Nat}
/-- What a memory is when all that waited are freed. -/
def Freed (w : World) (M : Mo) (n B : Nat) (cs : Nat → List Mq.Hp) (l : List Pr) (G : Nat) (w' : World) : Prop :=
  ∃ M', MemAt w' M' ∧ M'.m = M.m ∧ (∀ x, mfoot M' x → mfoot M x ∨ w.heap.size ≤ x) ∧ Mp (lm M') n B cs l G ∧ M'.ws = [] ∧ M'.ss.length = M.ss.length ∧ M'.k = M.k ∧ Only (mfoot M) w w'
theorem drain_ends (hM : MemAt w M) (h : Mp (lm M) n B cs l G) (hG : G ≤ 1000000) {f fw : Nat} {k : Int} (hk : 0 ≤ k ∧ k ≤ 1000) {w1 : World} (hB : Below w.heap.size w w1) (hf : w.heap.size ≤ f ∧ w.heap.size ≤ fw) (hD : DrAt w1 ⟨f, fw, 0, ⟨k, 0, 0, 0⟩, none, 0, []⟩) (hws : M.ws ≠ []) (K : Nat) (hK : 2000 ≤ K ∧ K ≤ 1000000) :
    Calls Tryz.prog 16 #[ptr M.m, .iface 75 (ptr f), .int .i64 K] w1 fun e w' => (∃ m : Nat, e = .returned (.tuple #[.int .i64 m, .bool true])) ∧ Freed w M n B cs l G w' := by
  obtain ⟨kn, hkn⟩ := Int.eq_ofNat_of_zero_le (show 0 ≤ M.k from by have : 1 ≤ M.k ∧ M.k ≤ 8 := h.k; omega)
  have hk8 : 1 ≤ M.k ∧ M.k ≤ 8 := h.k
  have hxl : B + n ≤ M.xs.length := h.xl
  have hkB : 2 + M.k ≤ B := h.kB
  have hhs : M.hs = List.replicate 6 (-1) := h.hs
  have hsm := h.small
  have hsm1 : M.ws.length + (alls n cs).length ≤ 1024 := hsm.1
  have hM1 := hM.below hB
  have o := kept_ok (ss0 := M.ss) (ks := alls n cs) hG
  have hp : Rk.Pk (Kept M.ss (alls n cs) G) kn M ⟨f, fw, 0, ⟨k, 0, 0, 0⟩, none, 0, []⟩ :=
    ⟨by simp, hkn, by rw [hhs]; simp, fun _ => ⟨rfl, rfl⟩, fun q => absurd rfl q, fun _ => ⟨by omega, by simp, by simp; omega, by rw [hhs]; simp, by omega, ⟨by simp, fun _ => by show 0 < kn; omega⟩, fun q => absurd rfl q⟩, fun _ _ => rfl,
      ⟨by simpa using h.wr, h.nexts, rfl, fun y _ k q => ⟨q, rfl⟩⟩⟩
  have hq : Qd kn M ⟨f, fw, 0, ⟨k, 0, 0, 0⟩, none, 0, []⟩ [] :=
    ⟨fun i hi => h.zero i (by show (i : Int) < M.k; omega), fun _ => by rw [hhs]; rfl, fun _ => ⟨hws, rfl⟩, fun q => absurd rfl q⟩
  have hmu : dmu kn M ⟨f, fw, 0, ⟨k, 0, 0, 0⟩, none, 0, []⟩ ≤ K := by
    unfold dmu
    rw [if_pos rfl]
    omega
  obtain ⟨s', e', a1, a2, a3, a4, a5, a6, a7, a8, a9, b1, b2, b3⟩ := Rk.fin_run o K (M, ⟨f, fw, 0, ⟨k, 0, 0, 0⟩, none, 0, []⟩) hp hq hmu
  have hF := Rk.finish_drain o hM1 hD hp (fun q => absurd rfl q) K hK.2
  rw [e'] at hF
  refine hF.mono fun e w' hh => ⟨⟨_, hh.1⟩, ?_⟩
  have hI := hh.2
  obtain ⟨kk, c1, c2, c3, c4, c5, c6, c7⟩ := a1.last o a3
  have c1' : (stD kn s').1 = { s'.1 with ss := freed s'.1.ss kk } := c1
  have hz : s'.1.ws = [] := a2.ws1 (by omega)
  rw [hz] at c7
  obtain ⟨d1, d2, d3, d4⟩ := c7
  have hlock := a2.lock (.inr (.inr a3.1))
  simp only at a4 a5 a6 a7 a8 b1 b2 b3
  have hM' := hI.mem
  simp only at hM'
  refine ⟨(stD kn s').1, hM', hI.m, fun x hx => .inl (hI.foot x hx), ?_, ?_, ?_, ?_, ?_⟩
  · rw [c1']
    have hnow : Me.now s'.1.xs s'.1.ds = (n, B) := by
      have := h.now
      unfold Me.now at this ⊢
      rw [b1, b2 1 (by omega)]
      exact this
    refine ⟨h.pw, hnow, ?_, ?_, ?_, ?_, ?_, ?_, d2, fun b hb => ?_, h.bk, h.kd, by show Wr (freed s'.1.ss kk) s'.1.ws (alls n cs) G; rw [hz]; simpa using d1, h.ln, h.lk, h.len, fun i hi => ?_, ?_, ?_⟩
    · intro i hi
      show _ ∧ _ ∧ _ ≤ s'.1.xs.length
      have hi : i < s'.1.ds.length := hi
      show 1 ≤ (tab s'.1.ds i).1 ∧ (tab s'.1.ds i).1 ≤ 65536 ∧ (tab s'.1.ds i).2 + (tab s'.1.ds i).1 ≤ s'.1.xs.length
      rw [b1] at hi ⊢
      rw [a6]
      exact h.tabs i hi
    · show ∀ i, (tab s'.1.ds i).1 ≤ 65536 ∧ (tab s'.1.ds i).2 ≤ 4000000
      rw [b1]; exact h.tb
    · show 1 ≤ s'.1.k ∧ s'.1.k ≤ 8
      rw [a8]; exact hk8
    · show 2 + s'.1.k ≤ B
      rw [a8]; exact hkB
    · show B + n ≤ s'.1.xs.length
      rw [a6]; exact hxl
    · have := hM'.2.1.2.2.1
      rw [c1'] at this
      exact this
    · show Cx (freed s'.1.ss kk) (Cl.nth s'.1.xs (B + b)).toNat (cs b)
      rw [b2 _ (by omega)]
      refine (h.ch b hb).keep fun y hy j hj => ?_
      obtain ⟨q1, q2⟩ := d4 y (alls_mem hb cs hy) j hj
      exact ⟨q1, by rw [q2]⟩
    · show Cl.nth s'.1.xs (2 + i) = 0
      rw [b2 _ (by omega)]
      have hi : (i : Int) < s'.1.k := hi
      exact h.zero i (by show (i : Int) < M.k; omega)
    · show s'.1.hs = _
      refine hs_all (by rw [a7, hhs]; simp) fun i => ?_
      by_cases hi : i = 0
      · rw [hi]; exact hlock
      · rw [b3 i (by omega), hhs]
        unfold Lo.hol
        rw [List.getD_eq_getElem?_getD, List.getElem?_replicate]
        split <;> rfl
    · show s'.1.F = false
      rw [a4]; exact h.F
  · rw [c1']; exact hz
  · rw [c1']; show (freed s'.1.ss kk).length = _; simp [freed]; exact a5
  · rw [c1']; exact a8
  · refine (Only.ofBelow hB (mfoot M)).trans' hI.only (fun x hx q => ?_)
    rcases q with q | q | q
    · exact q
    · have q : x = f := q
      omega
    · have q : x = fw := q
      omega
set_option maxHeartbeats 1000000 in
theorem free_any (hM : MemAt w M) (h : Mp (lm M) n B cs l G) (hG : G ≤ 1000000) (who : Nat) (hk : who ≤ 1000) :
    Calls Tryz.prog 9 #[ptr M.m, .int .i64 who] w fun e w' => e = .returned (.bool true) ∧ Freed w M n B cs l G w' := by
  have hW := Lib.hid (waiting_any hM)
  by_cases h0 : M.ws = []
  · have e0 : M.ws.length = 0 := by rw [h0]; rfl
    rw [e0] at hW
    have hF := Lib.hid (show Freed w M n B cs l G w from ⟨M, hM, rfl, fun x q => .inl q, h, h0, rfl, rfl, Only.refl _ _⟩)
    clear hM h h0 e0
    go_enter Tryz.func9, Tryz.ntmps9
    go_wp2_with fail
    refine hW.out.mono ?_
    rintro e w1 ⟨rfl, rfl⟩
    go_wp2_with fail
    go_ret
    exact ⟨rfl, hF.out⟩
  · have hlen : ((M.ws.length : Int) == 0) = false := by
      have : M.ws.length ≠ 0 := fun q => h0 (List.eq_nil_of_length_eq_zero q)
      simp; exact h0
    have hD := Lib.hid (new_drain who w)
    have hEn := Lib.hid (fun (f : Nat) (w1 : World) (hB : Below w.heap.size w w1) (hf : w.heap.size ≤ f) (hD : DrAt w1 ⟨f, w.heap.size, 0, ⟨who, 0, 0, 0⟩, none, 0, []⟩) => drain_ends hM h hG (k := (who : Int)) (by omega) hB ⟨hf, Nat.le_refl _⟩ hD h0 5000 (by omega))
    generalize hwl : M.ws.length = m at *
    replace hwl := Lib.hid hwl
    clear hM h h0
    go_enter Tryz.func9, Tryz.ntmps9
    go_wp2_with fail
    refine hW.out.mono ?_
    rintro e w1 ⟨rfl, rfl⟩
    clear hW
    go_wp2_with fail
    refine hD.out.mono ?_
    rintro e w2 ⟨f, rfl, hf, hD2, hB2⟩
    have hE2 := Lib.hid (hEn.out f w2 hB2 (by omega) hD2)
    clear hD hEn hD2 hB2
    go_wp2_with fail
    refine hE2.out.mono ?_
    rintro e w3 ⟨⟨m3, rfl⟩, hFr⟩
    replace hFr := Lib.hid hFr
    clear hE2
    go_wp2_with fail
    go_ret
    exact ⟨rfl, hFr.out⟩
end
end Go.Proofs.YtpfpanfpjopcjaaGreat.LawEl
/- The statements of layer 10: the document's example. -/
namespace Go.Proofs.YtpfpanfpjopcjaaGreat.LawTen
open Go Go.RowKit Hp K Fl Rw Hm Ar Mm Me LK Qs Wk Gt Pc LawSix
set_option maxRecDepth 100000

theorem low_get {W0 a b : World} {M : Mo} {g : Ga} (ha : Below W0.heap.size W0 a) (hlo : ∀ x, mfoot M x → W0.heap.size ≤ x) (hg : ∀ x, gfoot g x → W0.heap.size ≤ x) (ho : Only (fun x => mfoot M x ∨ gfoot g x) a b) : Below W0.heap.size W0 b :=
  ha.trans (ho.toBelow ha.size (fun x hx q => by
    rcases q with q | q
    · have := hlo x q; omega
    · have := hg x q; omega))
/-- A get in a memory just made. -/
theorem ev_made {n k j : Nat} (hn : n ≤ 1024) (hk : k ≤ 8) (hj : j < k) (key : ByteArray) (F : Bool) : Ev.Ok ⟨[(1, k + 2)], List.replicate n .zero, 1 :: List.replicate (k + 2) 0, F, key, j, [], 0⟩ := by
  have hb := bucket_lt (n := 1) (by decide) (sm key) (sm_bd key).1
  have hz : ∀ i, i ≠ 0 → Cl.nth (1 :: List.replicate (k + 2) 0) i = 0 := by
    intro i hi
    obtain ⟨i, rfl⟩ : ∃ i', i = i' + 1 := ⟨i - 1, by omega⟩
    simp only [Cl.nth, List.getD, List.getElem?_cons_succ, List.getElem?_replicate]
    split <;> rfl
  have hnow : now (1 :: List.replicate (k + 2) 0) [(1, k + 2)] = (1, k + 2) := by
    unfold now
    rw [hz 1 (by omega)]
    rfl
  have hc : Ev.cell ⟨[(1, k + 2)], List.replicate n .zero, 1 :: List.replicate (k + 2) 0, F, key, j, [], 0⟩ = ((k + 2 : Nat) : Int) := by
    unfold Ev.cell cellOf
    simp only
    rw [hnow]
    simp only
    rw [if_neg (by omega)]
    omega
  refine ⟨by simp; omega, LawNine.nexts_zero n, ?_, ⟨by simp; omega, by simp only; omega⟩, ?_, hz _ (by simp only; omega), ?_, ?_, Nat.le_refl _, by simp only; omega⟩
  · intro i
    simp only [tab, List.getD]
    rcases i with _ | i
    · simp; omega
    · simp
  · intro x hx
    simp only [List.mem_cons, List.mem_replicate] at hx
    omega
  · rw [hc]; simp only; omega
  · rw [hc]
    have : word (1 :: List.replicate (k + 2) 0) ((k + 2 : Nat) : Int) = 0 := by
      unfold word
      split
      · rw [Int.toNat_natCast, hz _ (by omega)]; rfl
      · rfl
    simp only
    rw [this]
    exact .nil
set_option maxHeartbeats 1000000 in
theorem awake (w : World) : Calls Tryz.prog 30 #[] w fun e w' => e = .returned (.bool true) ∧ Below w.heap.size w w' := by
  have hN := Lib.hid (made_yes 1 1 w (by omega) (by omega))
  go_enter Tryz.func30, Tryz.ntmps30
  go_wp2_with fail
  refine hN.out.mono ?_
  rintro e w1 ⟨M, rfl, hM, hlo, hB, h1, h2, h3, h4, h5, h6, h7⟩
  clear hN
  have hE := Lib.hid (Gt.new_any 0 ⟨#[97]⟩ (by simp [maxLen]; decide) w1)
  have hv : Ev.Ok ⟨M.ds, M.ss, M.xs, M.F, ⟨#[97]⟩, 0, [], 0⟩ := by
    rw [h1, h2, h6]
    exact ev_made (by omega) (by omega) (by omega) _ _
  replace hv := Lib.hid hv
  replace hM := Lib.hid hM
  replace hlo := Lib.hid hlo
  replace hB := Lib.hid hB
  clear h1 h2 h3 h7 h5 h4 h6
  go_wp2_with fail
  refine hE.out.mono ?_
  rintro e w2 ⟨a, rfl, hE2, hA2, hB2⟩
  have hM2 := hM.out.below hB2
  have hge : w.heap.size ≤ w1.heap.size := hB.out.size
  have hB02 := Lib.hid (hB.out.trans (hB2.mono hge))
  have hF := Lib.hid (get_ends hM2 hE2 hv.out 20 (by omega))
  have hA := Lib.hid (fun x hx => Nat.le_trans hge (hA2 x hx))
  clear hM hE hB2 hE2 hM2 hB hA2 hv hge
  go_wp2_with fail
  refine hF.out.mono ?_
  rintro e w3 ⟨n, G, a', rfl, hn, hr, hf, hM3, hG3, ea, _, hO3⟩
  obtain rfl : n = 5 := by omega
  have hB3 := Lib.hid (low_get hB02.out hlo.out hA.out hO3)
  have hFd := val_any hG3
  rw [hf.1, hf.2, ea] at hFd
  replace hFd : Hid (Calls Tryz.prog 23 #[ptr a.f] w3 fun e w' => e = .returned (.tuple #[.string ⟨#[]⟩, .bool false]) ∧ Below w3.heap.size w3 w') := Lib.hid hFd
  clear hF hO3 hB02 hM3 hG3 hn hr hf ea hA hlo
  go_wp2_with fail
  refine hFd.out.mono ?_
  rintro e w4 ⟨rfl, hB4⟩
  have hB04 := Lib.hid (hB3.out.trans (hB4.mono hB3.out.size))
  clear hB3 hB4 hFd
  go_wp2_with fail
  refine (LawSix.awake _).mono ?_
  rintro e w5 ⟨rfl, hB5⟩
  have hB05 := Lib.hid (hB04.out.trans (hB5.mono hB04.out.size))
  clear hB5 hB04
  go_wp2_with fail
  refine (LawNine.awake _).mono ?_
  rintro e w6 ⟨rfl, hB6⟩
  have hB06 := Lib.hid (hB05.out.trans (hB6.mono hB05.out.size))
  clear hB6 hB05
  go_wp2_with fail
  go_ret
  exact ⟨rfl, hB06.out⟩
end Go.Proofs.YtpfpanfpjopcjaaGreat.LawTen
/- The statements of layer 11: a memory and the document's map beside it; a put, a get in it; a memory just made. -/
namespace Go.Proofs.YtpfpanfpjopcjaaGreat.LawEl
open Go Go.RowKit Hp K Fl Rw Hm Ar Mm Me LK Qs Wk Re LawSix Pn Pc Mq Pu LawTen
set_option maxRecDepth 100000

/-- Blocks of other types stay. -/
def Still (us : List TypeId) (w w' : World) : Prop := ∀ x t cs, t ∉ us → Blk w x t cs → Blk w' x t cs
theorem still_only {S : Nat → Prop} {us : List TypeId} {w w' : World} (ho : Only S w w') (hS : ∀ x, S x → Ty w x us) : Still us w w' := fun x t cs ht hb => hb.only ho (fun q => (hS x q).apart (blk_ty hb) (fun t' h1 h2 => by
  have : t' = t := by simpa using h2
  subst this
  exact ht h1))
theorem still_below {w w' : World} (hb : Below w.heap.size w w') (us : List TypeId) : Still us w w' := fun _ _ _ _ h => h.only (Only.ofBelow hb (fun _ => False)) (by simp)
/-- A memory, a row of pairs, made since. -/
structure S11 (W0 w : World) (M : Mo) (A : Option Addr) (cap : Nat) (l : List Pr) : Prop where
  mem : MemAt w M
  row : Prs w A cap l
  below : Below W0.heap.size W0 w
  lom : ∀ x, mfoot M x → W0.heap.size ≤ x
  low : ∀ x, In A x → W0.heap.size ≤ x
section
variable {W0 w w' : World} {M : Mo} {A : Option Addr} {cap : Nat} {l : List Pr} {n B : Nat} {cs : Nat → List Mq.Hp} {G : Nat}
theorem S11.down (h : S11 W0 w M A cap l) (hb : Below w.heap.size w w') : S11 W0 w' M A cap l :=
  ⟨h.mem.below hb, h.row.only (Only.ofBelow hb (fun _ => False)) (by simp), h.below.trans (hb.mono h.below.size), h.lom, h.low⟩
theorem S11.drewN (h : S11 W0 w M A cap l) (k : Nat) : S11 W0 (w.drewN k) M A cap l := h.down ⟨rfl, rfl, rfl, Nat.le_refl _, fun _ _ => rfl⟩
/-- The memory turned, and what else was made since. -/
theorem S11.moved {M' : Mo} {S : Nat → Prop} (h : S11 W0 w M A cap l) (hM : MemAt w' M') (hf : ∀ x, mfoot M' x → mfoot M x ∨ w.heap.size ≤ x) (ho : Only S w w') (hS : ∀ x, S x → W0.heap.size ≤ x) (hA : ∀ x, In A x → ¬ S x) : S11 W0 w' M' A cap l :=
  ⟨hM, h.row.only ho hA, h.below.trans (ho.toBelow h.below.size (fun x hx q => by have := hS x q; omega)), fun x hx => by
    rcases hf x hx with q | q
    · exact h.lom x q
    · have := h.below.size; omega, h.low⟩
theorem S11.apart (h : S11 W0 w M A cap l) {x : Nat} (hx : In A x) {us : List TypeId} (hd : 40 ∉ us) : ¬ Ty w x us := fun q => q.apart (row_ty h.row hx) (by
  intro t ht ht2
  have : t = 40 := by simpa using ht2
  subst this
  exact hd ht)
theorem S11.ap_mem (h : S11 W0 w M A cap l) {x : Nat} (hx : In A x) : ¬ mfoot M x := fun q => h.apart hx (by decide) (h.mem.ty q)
/-- Another row. -/
theorem S11.rowed {A' : Option Addr} {cap' : Nat} {l' : List Pr} (h : S11 W0 w M A cap l) (hb : Below w.heap.size w w') (hr : Prs w' A' cap' l') (hl : ∀ x, In A' x → w.heap.size ≤ x) : S11 W0 w' M A' cap' l' :=
  { h.down hb with row := hr, low := fun x hx => Nat.le_trans h.below.size (hl x hx) }
theorem S11.freed {lr : List Pr} (h : S11 W0 w M A cap lr) (hF : Freed w M n B cs l G w') : ∃ M', S11 W0 w' M' A cap lr ∧ M'.m = M.m ∧ Mp (lm M') n B cs l G ∧ M'.ws = [] ∧ M'.ss.length = M.ss.length ∧ M'.k = M.k ∧ Still memTypes w w' := by
  obtain ⟨M', h1, h2, h3, h4, h5, h6, h7, h8⟩ := hF
  exact ⟨M', h.moved h1 h3 h8 h.lom (fun x hx => h.ap_mem hx), h2, h4, h5, h6, h7, still_only h8 (fun x q => h.mem.ty q)⟩
/-- What a put leaves. -/
def PutS (W0 w w' : World) (M : Mo) (A : Option Addr) (cap : Nat) (lr l : List Pr) (n B G : Nat) (key val : ByteArray) (a : Qa) : Prop :=
  ∃ (M' : Mo) (a' : Qa) (P' : Pt), S11 W0 w' M' A cap lr ∧ M'.m = M.m ∧ PuAt w' a' P' ∧ a'.f = a.f ∧ P'.mine = 0 ∧ decide (P'.W.found ≠ 0) = (Pc.lk l key).isSome ∧ M'.ss.length = M.ss.length ∧ M'.k = M.k ∧ Still (memTypes ++ putTypes) w w' ∧
    ((freePl M.ss = none ∧ P'.err = 4 ∧ lm M' = lm M) ∨ ((freePl M.ss).isSome ∧ P'.err = 0 ∧ M'.ws.length = M.ws.length + (if (Pc.lk l key).isSome then 1 else 0) ∧ ∃ cs', ∀ l', Upd l l' key val → Mp (lm M') n B cs' l' (G + 1)))
theorem put_s {lr : List Pr} (h : S11 W0 w M A cap lr) (hm : Mp (lm M) n B cs l G) (hG : G ≤ 1000000) {a : Qa} {hh : Nat} {i : Int} {key val : ByteArray} (hi : 0 ≤ i ∧ i ≤ 1000) (hP : PuAt w a (newPut hh i key val)) (hlow : ∀ x, pfoot a (newPut hh i key val) x → W0.heap.size ≤ x) (hc : ∀ b, b < n → (cs b).length ≤ 42) (K : Nat) (hK : 50 ≤ K ∧ K ≤ 1000000) :
    Calls Tryz.prog 16 #[ptr M.m, .iface 45 (ptr a.f), .int .i64 K] w fun e w' => (∃ k : Nat, e = .returned (.tuple #[.int .i64 k, .bool true])) ∧ PutS W0 w w' M A cap lr l n B G key val a := by
  have hE := hm.eok (key := key) (val := val) (i := i) (hb := hh) hG hi
  have hcl := hc (bkt key n) (bkt_lt hm.pw key).1
  refine (put_ends h.mem hP hE K ⟨by omega, hK.2⟩).mono fun e w' q => ?_
  obtain ⟨k, s, q1, _, q3, M', a', r1, r2, r3, r4, r5, r7, r8⟩ := q
  obtain ⟨m1, m2, m3⟩ := put_map hm hG hi q3
  have hff : ∀ x, puL.foot a (newPut hh i key val) x → pfoot a (newPut hh i key val) x := fun x q => q
  refine ⟨⟨k, q1⟩, M', a', s.2, h.moved r1 r3.foot r8 (fun x q => ?_) (fun x hx q => ?_), r3.m, r4, r5, m2, m1, ?_, ?_, still_only r8 (fun x q => ?_), ?_⟩
  · rcases q with q | q
    · exact h.lom x q
    · exact hlow x (hff x q)
  · rcases q with q | q
    · exact h.ap_mem hx q
    · exact h.apart hx (by decide) (hP.ty (hff x q))
  · have e : M'.ss = s.1.ss := by rw [← r2]
    rcases m3 with ⟨_, q2, _⟩ | ⟨_, _, _, q4, _⟩
    · rw [e, q2]
    · rw [e, q4]
  · have e : M'.k = s.1.k := by rw [← r2]
    rcases m3 with ⟨_, q2, _⟩ | ⟨_, _, _, _, q5, _⟩
    · rw [e, q2]
    · rw [e, q5]
  · rcases q with q | q
    · exact (h.mem.ty q).mono (fun t ht => List.mem_append_left _ ht)
    · exact (hP.ty (hff x q)).mono (fun t ht => List.mem_append_right _ ht)
  · rcases m3 with ⟨q1, q2, q3⟩ | ⟨q1, q2, q3, _, _, q6⟩
    · exact .inl ⟨q1, q3, r2.trans q2⟩
    · refine .inr ⟨q1, q2, ?_, ?_⟩
      · have e : M'.ws = s.1.ws := by rw [← r2]
        rw [e, q3]
      · rw [r2]; exact q6
/-- Where a get stands in such a memory. -/
theorem ev_map (hm : Mp (lm M) n B cs l G) (key : ByteArray) {j : Nat} (hj : (j : Int) < M.k) : Gt.Ev.Ok ⟨M.ds, M.ss, M.xs, M.F, key, j, prs (cs (bkt key n)), (cs (bkt key n)).length⟩ ∧ lk (prs (cs (bkt key n))) key = lk l key := by
  have hsm := hm.small
  obtain ⟨hb1, hb2⟩ := bkt_lt hm.pw key
  have hql := hm.ql hb1
  have hnb := hm.n_bd
  have hkB : 2 + M.k ≤ B := hm.kB
  have hk : 1 ≤ M.k ∧ M.k ≤ 8 := hm.k
  have hxl : B + n ≤ M.xs.length := hm.xl
  have hc : Gt.cellOf (sm key) (Me.now M.xs M.ds) = ((B + bkt key n : Nat) : Int) := by
    have hnow : Me.now M.xs M.ds = (n, B) := hm.now
    unfold Gt.cellOf
    rw [hnow]
    simp only
    rw [if_neg (by omega), hb2]
    omega
  refine ⟨⟨hsm.2, hm.nexts, hm.tb, ⟨by simp only; omega, by simp only; omega⟩, hm.xb, hm.zero j hj, ?_, ?_, by simp only [prs, List.length_map]; omega, by simp only; omega⟩, (hm.lk key).symm⟩
  · unfold Gt.Ev.cell
    simp only
    rw [hc]
    omega
  · unfold Gt.Ev.cell
    simp only
    rw [hc]
    have e : word M.xs ((B + bkt key n : Nat) : Int) = (Cl.nth M.xs (B + bkt key n)).toNat := by
      unfold word
      rw [if_pos (by omega), Int.toNat_natCast]
    rw [e]
    exact (hm.ch _ hb1).cn
end
theorem Mp.ql2 {L : Lm} {n B : Nat} {cs : Nat → List Mq.Hp} {l : List Pr} {G : Nat} (h : Mp L n B cs l G) : (∀ b, b < n → (cs b).length ≤ L.ss.length) ∧ (frees L.ss L.ss.length).length + L.ws.length + l.length = L.ss.length := by
  have := h.wr.cnt
  have hl := h.len
  refine ⟨fun b hb => ?_, by omega⟩
  have := h.ql hb
  omega
theorem freePl_frees (ss : List Sl) : freePl ss = none ↔ (frees ss ss.length).length = 0 := by
  rw [freePl_none]
  constructor
  · intro h
    rw [List.length_eq_zero_iff]
    apply List.eq_nil_iff_forall_not_mem.2
    intro a ha
    obtain ⟨h1, h2⟩ := mem_frees.1 ha
    rw [h a h1] at h2
    simp at h2
  · intro h k hk
    by_cases ht : (at' ss k).taken = true
    · exact ht
    · have hm : k ∈ frees ss ss.length := mem_frees.2 ⟨hk, by simpa using ht⟩
      have := List.length_pos_of_mem hm
      omega
/-- What a get leaves. -/
def GetS (W0 w w' : World) (M : Mo) (A : Option Addr) (cap : Nat) (lr l : List Pr) (key : ByteArray) (a : Gt.Ga) : Prop :=
  ∃ (g : Gt.Ge) (a' : Gt.Ga), S11 W0 w' M A cap lr ∧ Gt.GeAt w' a' g ∧ a'.f = a.f ∧ Gt.Fits (Pc.lk l key) g.W ∧ Still (memTypes ++ Gt.getTypes) w w'
theorem get_s {W0 w : World} {M : Mo} {A : Option Addr} {cap : Nat} {l lr : List Pr} {n B : Nat} {cs : Nat → List Mq.Hp} {G : Nat} (h : S11 W0 w M A cap lr) (hm : Mp (lm M) n B cs l G) {a : Gt.Ga} {j : Nat} {key : ByteArray} (hj : (j : Int) < M.k) (hP : Gt.GeAt w a (Gt.newGet j key)) (hlow : ∀ x, Gt.gfoot a x → W0.heap.size ≤ x) (K : Nat) (hc : ∀ b, b < n → (cs b).length + 5 ≤ K) (hK : K ≤ 1000000) :
    Calls Tryz.prog 16 #[ptr M.m, .iface 56 (ptr a.f), .int .i64 K] w fun e w' => (∃ k : Nat, e = .returned (.tuple #[.int .i64 k, .bool true])) ∧ GetS W0 w w' M A cap lr l key a := by
  obtain ⟨hE, hlk⟩ := ev_map hm key hj
  have := hc _ (bkt_lt hm.pw key).1
  refine (Gt.get_ends h.mem hP hE K ⟨by omega, hK⟩).mono fun e w' q => ?_
  obtain ⟨k, g, a', q1, q2, q3, q4, q5, q6, q7, q8, q9⟩ := q
  rw [hlk] at q4
  refine ⟨⟨k, q1⟩, g, a', h.moved q5 (fun x q => .inl q) q9 (fun x q => ?_) (fun x hx q => ?_), q6, q7, q4, still_only q9 (fun x q => ?_)⟩
  · rcases q with q | q
    · exact h.lom x q
    · exact hlow x q
  · rcases q with q | q
    · exact h.ap_mem hx q
    · exact h.apart hx (by decide) (hP.ty q)
  · rcases q with q | q
    · exact (h.mem.ty q).mono (fun t ht => List.mem_append_left _ ht)
    · exact (hP.ty q).mono (fun t ht => List.mem_append_right _ ht)
/-- A memory just made holds nothing. -/
theorem mp_new {L : Lm} {n B N : Nat} (hpw : FM.power n = true) (hn : n ≤ 32) (hN : N ≤ 1024) (hk : 1 ≤ L.k ∧ L.k ≤ 8) (hkB : 2 + L.k ≤ B) (hB : B ≤ 20) (hxs : ∀ i, i ≠ 0 → i ≠ 1 → Cl.nth L.xs i = 0) (hxl : L.xs.length = B + n) (hxb : ∀ x ∈ L.xs, 0 ≤ x ∧ x ≤ 18446744073709551615) (hnow : Me.now L.xs L.ds = (n, B)) (hds : ∀ i, i < L.ds.length → 1 ≤ (tab L.ds i).1 ∧ (tab L.ds i).1 ≤ 32 ∧ (tab L.ds i).2 + (tab L.ds i).1 ≤ B + n)
    (hss : L.ss = List.replicate N .zero) (hhs : L.hs = List.replicate 6 (-1)) (hF : L.F = false) (hws : L.ws = []) : Mp L n B (fun _ => []) [] 0 := by
  have ha : alls n (fun _ => ([] : List Mq.Hp)) = [] := by simp [alls]
  refine ⟨hpw, hnow, fun i hi => ?_, fun i => ?_, hk, hkB, by omega, hxb, by rw [hss]; exact LawNine.nexts_zero N, fun b hb => ?_, fun b _ e he => by simp at he, fun b _ => by simp, ?_, by simp, fun key => rfl, by rw [ha]; rfl, fun i hi => hxs _ (by omega) (by omega), hhs, hF⟩
  · have := hds i hi
    rw [hxl]
    omega
  · by_cases hi : i < L.ds.length
    · have := hds i hi
      omega
    · rw [tab_none (by omega)]
      simp
  · rw [hxs _ (by omega) (by omega)]
    exact .nil
  · rw [ha, hss, hws]
    exact wr_new N hN
theorem nth_made (k i : Nat) (h : i ≠ 0) : Cl.nth (1 :: List.replicate k 0) i = 0 := by
  obtain ⟨i, rfl⟩ : ∃ i', i = i' + 1 := ⟨i - 1, by omega⟩
  simp only [Cl.nth, List.getD, List.getElem?_cons_succ, List.getElem?_replicate]
  split <;> rfl
theorem mp_made {w w' : World} {n k : Nat} {M : Mo} (h : MadeP w n k M w') (hn : n ≤ 1024) (hk : 1 ≤ k ∧ k ≤ 8) : Mp (lm M) 1 (k + 2) (fun _ => []) [] 0 := by
  obtain ⟨hM, hlo, hB, h1, h2, h3, h4, h5, h6, h7⟩ := h
  refine mp_new (N := n) (by decide) (by omega) hn (by show 1 ≤ M.k ∧ M.k ≤ 8; omega) (by show 2 + M.k ≤ _; omega) (by omega) (fun i h0 _ => by show Cl.nth M.xs i = 0; rw [h1]; exact nth_made _ _ h0) (by show M.xs.length = _; rw [h1]; simp) hM.2.1.2.2.1 ?_ ?_ h2 h4 h3 h7
  · show Me.now M.xs M.ds = _
    unfold Me.now
    rw [h1, nth_made _ _ (by omega), h6]
    rfl
  · intro i hi
    have hi : i < M.ds.length := hi
    show 1 ≤ (tab M.ds i).1 ∧ (tab M.ds i).1 ≤ 32 ∧ (tab M.ds i).2 + (tab M.ds i).1 ≤ k + 2 + 1
    rw [h6] at hi ⊢
    have : i = 0 := by simpa using hi
    subst this
    exact ⟨by simp [tab], by simp [tab], by simp [tab]⟩
theorem nth_two (k i : Nat) (h : i ≠ 0) (h1 : i ≠ 1) : Cl.nth (1 :: 1 :: List.replicate k 0) i = 0 := by
  obtain ⟨i, rfl⟩ : ∃ i', i = i' + 2 := ⟨i - 2, by omega⟩
  simp only [Cl.nth, List.getD, List.getElem?_cons_succ, List.getElem?_replicate]
  split <;> rfl
end Go.Proofs.YtpfpanfpjopcjaaGreat.LawEl
/- What the statement of layer 8 uses: the document's example. -/
namespace Go.Proofs.YtpfpanfpjopcjaaGreat.LawEight
open Go Go.RowKit Hp K Fl Rw Hm Ar Mm Me LK Ta LawSix
set_option maxRecDepth 100000

theorem below_drewN (w : World) (n : Nat) : Below w.heap.size w (w.drewN n) := ⟨rfl, rfl, rfl, Nat.le_refl _, fun _ _ => rfl⟩
theorem low_only {W0 a b : World} {M : Mo} {f : Nat} (ha : Below W0.heap.size W0 a) (hlo : ∀ x, mfoot M x → W0.heap.size ≤ x) (hf : W0.heap.size ≤ f) (ho : Only (fun x => mfoot M x ∨ x = f) a b) : Below W0.heap.size W0 b :=
  ha.trans (ho.toBelow ha.size (fun x hx q => by
    rcases q with q | q
    · have := hlo x q; omega
    · omega))
theorem fin_alone (f : Nat) : fin (lready [(1, 3)]) (lstep [1, 0, 0, 0] [(1, 3)]) (ldone [1, 0, 0, 0]) 9 (List.replicate 6 (-1), (⟨f, 0, 7, 1, 0, (0, 0), 0, false⟩ : Ho)) = (3, true, [-1, 0, -1, -1, -1, -1], ⟨f, 0, 7, 5, 0, (1, 3), 1, true⟩) := by
  have e : lkn 7 (1, 3) = 1 := by simp [lkn, FM.bucket, FM.power]
  simp [fin, lready, lstep, ldone, tab, e, Cl.nth, Lo.hol, List.replicate]
set_option maxHeartbeats 1000000 in
theorem awake (w : World) : Calls Tryz.prog 29 #[] w fun e w' => e = .returned (.bool true) ∧ Below w.heap.size w w' := by
  have hN := Lib.hid (made_yes 1 1 w (by omega) (by omega))
  go_enter Tryz.func29, Tryz.ntmps29
  go_wp2_with fail
  refine hN.out.mono ?_
  rintro e w1 ⟨M, rfl, hM, hlo, hB, h1, h2, h3, h4, h5, h6, h7⟩
  clear hN
  have hE := Lib.hid (new_hold 0 7 w1)
  replace hM := Lib.hid hM
  replace hlo := Lib.hid hlo
  replace hB := Lib.hid hB
  replace h1 := Lib.hid h1
  replace h4 := Lib.hid h4
  replace h6 := Lib.hid h6
  clear h2 h3 h7 h5
  go_wp2_with fail
  refine hE.out.mono ?_
  rintro e w2 ⟨rfl, hE2, hB2⟩
  have hM2 := hM.out.below hB2
  have hge : w.heap.size ≤ w1.heap.size := hB.out.size
  have hB02 := Lib.hid (hB.out.trans (hB2.mono hge))
  have hF := finish_hold hM2 hE2 (by rw [h1.out, h4.out, h6.out]; exact ⟨by simp, by simp, by simp, by simp, by simp, by decide, fun i => by cases i <;> simp [tab], by simp, by simp, by simp⟩) 9 (by omega)
  rw [h1.out, h4.out, h6.out, show (1 : Int) :: List.replicate (1 + 2) 0 = [1, 0, 0, 0] from rfl, show (1 : Nat) + 2 = 3 from rfl, fin_alone] at hF
  replace hF := Lib.hid hF
  clear hM hE hB2 hE2 hM2 hB
  generalize w1.heap.size = f at *
  replace hge := Lib.hid hge
  go_wp2_with fail
  refine hF.out.mono ?_
  rintro e w3 ⟨rfl, hM3, hH3, _, hO3⟩
  simp only at hM3 hH3
  have hB3 := Lib.hid (low_only hB02.out hlo.out hge.out hO3)
  replace hM3 := Lib.hid hM3
  replace hH3 := Lib.hid hH3
  clear hF hO3 hB02
  go_wp2_with fail
  refine (LawFive.awake w3).mono ?_
  rintro e w4 ⟨rfl, hB4⟩
  have hM4 := hM3.out.below hB4
  have hH4 := hH3.out.below hB4
  have hB04 := hB3.out.trans (hB4.mono hB3.out.size)
  have hDe := desc_of hH4
  have hLk := Lib.hid (lock_of hH4)
  simp only [if_true] at hDe
  unfold dv at hDe
  replace hDe := Lib.hid hDe
  have dn := desc_n
  replace hM4 := Lib.hid hM4
  replace hH4 := Lib.hid hH4
  replace hB04 := Lib.hid hB04
  clear hM3 hH3 hB3 hB4
  go_wp2_with (first
    | (go_at_call 57; refine hLk.out.mono ?_; rintro e w' ⟨rfl, hw⟩; obtain rfl : w4 = w' := hw.symm))
  refine hDe.out.mono ?_
  rintro e w5 ⟨rfl, hB5⟩
  have hM5 := hM4.out.below hB5
  have hH5 := hH4.out.below hB5
  have hB05 := hB04.out.trans (hB5.mono hB04.out.size)
  have d1 := hM5.hd.2.1
  simp only at d1
  have hHo := Lib.hid (Lo.holder_in hM5.2.2.1 1 (by simp))
  have hDr := Lib.hid (drop_yes hM5 hH5 ⟨by simp, by simp, by simp, by show 1 < M.xs.length; rw [h1.out]; simp, by simp, by show (tab M.ds 0).1 ≤ 65536; rw [h6.out]; simp [tab]⟩ (by simp) (by simp [Lo.hol]) rfl)
  have hge' : w.heap.size ≤ f := hge.out
  replace hge' := Lib.hid hge'
  replace hM5 := Lib.hid hM5
  replace hB05 := Lib.hid hB05
  clear hM4 hH4 hB04 hB5 hDe hLk hH5
  go_wp2_with (go_at_call 59; refine hHo.out.mono ?_; rintro e w' ⟨rfl, hw⟩; obtain rfl : w5 = w' := hw.symm)
  refine hDr.out.mono ?_
  rintro e w6 ⟨rfl, hM6, hH6, hO6⟩
  have hB6 := Lib.hid (low_only hB05.out hlo.out hge'.out hO6)
  have d2 := hM6.hd.2.1
  simp only at d2
  have hHo2 := Lib.hid (Lo.holder_in hM6.2.2.1 1 (by simp))
  clear hM6 hH6 hO6 hDr d1 hHo
  go_wp2_with (go_at_call 59; refine hHo2.out.mono ?_; rintro e w' ⟨rfl, hw⟩; obtain rfl : w6 = w' := hw.symm)
  go_ret
  exact ⟨rfl, hB6.out⟩
end Go.Proofs.YtpfpanfpjopcjaaGreat.LawEight
/- The statements of layer 11: the document's example. -/
namespace Go.Proofs.YtpfpanfpjopcjaaGreat.LawEl
open Go Go.RowKit Hp K Fl Rw Hm Ar Mm Me LK Qs Wk Re LawSix Pn Pc Mq Pu LawTen
set_option maxRecDepth 100000

abbrev kA : ByteArray := ⟨#[97]⟩
abbrev kB : ByteArray := ⟨#[98]⟩
abbrev vX : ByteArray := ⟨#[120]⟩
def kAt (j : Nat) : ByteArray := if j = 1 then kB else kA
def mAt (j : Nat) : List Pr := if j = 0 then [] else [(kA, vX)]
/-- What the example's rounds keep. -/
def AInv (W0 w : World) (m j : Nat) : Prop := ∃ (M : Mo) (cs : Nat → List Mq.Hp) (G : Nat), S11 W0 w M none 0 [] ∧ M.m = m ∧ Mp (lm M) 1 3 cs (mAt j) G ∧ G ≤ j ∧ M.ss.length = 1 ∧ M.ws.length = 0
theorem kab : kA ≠ kB := by
  intro e
  have := congrArg ByteArray.data e
  simp at this
theorem AInv.down {W0 w w' : World} {m j : Nat} (h : AInv W0 w m j) (hb : Below w.heap.size w w') : AInv W0 w' m j := by
  obtain ⟨M1, cs, G, hS, r⟩ := h
  exact ⟨M1, cs, G, hS.down hb, r⟩
def errJ (j : Nat) : Int := if j = 0 then 0 else 4
def hadJ (j : Nat) : Bool := decide (j = 2)
theorem eJ0 : errJ 0 = 0 := rfl
theorem eJ1 : errJ 1 = 4 := rfl
theorem eJ2 : errJ 2 = 4 := rfl
theorem hJ0 : hadJ 0 = false := rfl
theorem hJ1 : hadJ 1 = false := rfl
theorem hJ2 : hadJ 2 = true := rfl
/-- A put of the example. -/
def AGot (W0 w0 w : World) (a : Qa) (m j : Nat) : Prop := ∃ (a' : Qa) (P : Pt), Still (memTypes ++ putTypes) w0 w ∧ AInv W0 w m (j + 1) ∧ PuAt w a' P ∧ a'.f = a.f ∧ P.err = errJ j ∧ decide (P.W.found ≠ 0) = hadJ j
theorem aput {W0 w : World} {m j : Nat} (hj : j < 3) (h : AInv W0 w m j) {a : Qa} {hh : Nat} (hP : PuAt w a (newPut hh 0 (kAt j) vX)) (hlow : ∀ x, pfoot a (newPut hh 0 (kAt j) vX) x → W0.heap.size ≤ x) :
    Calls Tryz.prog 16 #[ptr m, .iface 45 (ptr a.f), .int .i64 50] w fun e w' => (∃ k : Nat, e = .returned (.tuple #[.int .i64 k, .bool true])) ∧ AGot W0 w w' a m j := by
  obtain ⟨M, cs, G, hS, rfl, hm, hG, hl, hw0⟩ := h
  have hq := Mp.ql2 hm
  have hl' : (lm M).ss.length = 1 := hl
  refine (put_s hS hm (by omega) (by omega) hP hlow (fun b hb => by have := hq.1 b hb; omega) 50 (by omega)).mono fun e w' q => ⟨q.1, ?_⟩
  obtain ⟨M', a', P', h1, h2, h3, h4, h5, h6, h7, h8, hst, h9⟩ := q.2
  have hfr := freePl_frees M.ss
  have hcnt : (frees M.ss M.ss.length).length + M.ws.length + (mAt j).length = M.ss.length := hq.2
  by_cases j0 : j = 0
  · subst j0
    rcases h9 with ⟨q1, _⟩ | ⟨q1, q2, q3, cs', q4⟩
    · exfalso
      have := hfr.1 q1
      simp only [mAt, if_true, List.length_nil] at hcnt
      omega
    · refine ⟨a', P', hst, ⟨M', cs', G + 1, h1, h2, ?_, by omega, by omega, by rw [q3, hw0]; simp [mAt, Pc.lk]⟩, h3, h4, by simpa [errJ] using q2, ?_⟩
      · refine q4 _ ⟨by simp [mAt], fun k => ?_, by simp [mAt, Pc.lk]⟩
        simp only [mAt, kAt, Pc.lk]
        by_cases e : k = kA
        · simp [e, Pc.lk]
        · have e' : ¬ kA = k := fun q => e q.symm
          simp [e, e', Pc.lk]
      · rw [h6]
        simp [mAt, Pc.lk, hadJ]
  · have hfree : freePl M.ss = none := by
      rw [hfr]
      have : (mAt j).length = 1 := by simp [mAt, j0]
      omega
    rcases h9 with ⟨_, q2, q3⟩ | ⟨q1, _⟩
    · refine ⟨a', P', hst, ⟨M', cs, G, h1, h2, ?_, by omega, by omega, by have e : M'.ws = M.ws := congrArg Lm.ws q3; rw [e]; exact hw0⟩, h3, h4, by unfold errJ; rw [if_neg j0]; exact q2, ?_⟩
      · rw [q3]
        have : mAt (j + 1) = mAt j := by simp [mAt, j0]
        rw [this]
        exact hm
      · rw [h6]
        have hj12 : j = 1 ∨ j = 2 := by omega
        rcases hj12 with rfl | rfl
        · simp [mAt, kAt, Pc.lk, kab, hadJ]
        · simp [mAt, kAt, Pc.lk, hadJ]
    · rw [hfree] at q1
      simp at q1
set_option maxHeartbeats 2000000 in
theorem awake (w : World) : Calls Tryz.prog 5 #[] w fun e w' => e = .returned (.bool true) ∧ Below w.heap.size w w' := by
  have hN := Lib.hid (made_yes 1 1 w (by omega) (by omega))
  go_enter Tryz.func5, Tryz.ntmps5
  go_wp2_with fail
  refine hN.out.mono ?_
  rintro e w1 ⟨M, rfl, hMd⟩
  have hmp := mp_made hMd (by omega) (by omega)
  obtain ⟨hM, hlo, hB, h1, h2, h3, h4, h5, h6, h7⟩ := hMd
  have hI : AInv w w1 M.m 0 := ⟨M, _, 0, ⟨hM, Row.nil _ _ _ _, hB, hlo, by simp [In]⟩, rfl, hmp, by omega, by rw [h2]; simp, by rw [h7]; rfl⟩
  obtain ⟨w2, hw2⟩ : ∃ w2, w2 = w1.alloc (.cells #[.string kA, .string kB, .string kA] 9) := ⟨_, rfl⟩
  have hQ2 : Blk w2 w1.heap.size 9 #[.string kA, .string kB, .string kA] := by rw [hw2]; exact Blk.made w1 _ _
  have hI2 : AInv w w2 M.m 0 := by
    obtain ⟨M1, cs, G, hS, r⟩ := hI
    exact ⟨M1, cs, G, hS.down (by rw [hw2]; exact (Below.refl _ _).alloc (Nat.le_refl _) _), r⟩
  have hge := hB.size
  generalize M.m = m at *
  clear hN hM hlo hB h1 h2 h3 h4 h5 h6 h7 hmp hI
  go_upto_region 5 with (fail)
  rw [← hw2]
  clear hw2
  generalize w1.heap.size = sb at *
  have H0 := Lib.hid (And.intro hI2 hQ2)
  clear hI2 hQ2
  go_wp2_with fail
  go_loopw [12] (fun c wr => ∃ j : Nat, j ≤ 3 ∧ c = .int .i64 j ∧ AInv w wr m j ∧ Blk wr sb 9 #[.string kA, .string kB, .string kA]) (fun c _ => 3 - (intOf c).toNat)
  case atStart => exact ⟨0, by omega, rfl, H0.out.1, H0.out.2⟩
  case round =>
    obtain ⟨j, hj, rfl, hI, hQ⟩ := hrel
    clear H0
    have l1 : (kAt j).size ≤ maxLen := by unfold kAt; split <;> (simp only [maxLen]; decide)
    have hNw := Lib.hid (Pu.new_any 0 (kAt j) vX l1 wr)
    have hlo : w.heap.size ≤ wr.heap.size := by
      obtain ⟨_, _, _, hS, _⟩ := hI
      exact hS.below.size
    have HI := Lib.hid hI
    have HQ := Lib.hid hQ
    have c0 := hQ.cell 0
    have c1 := hQ.cell 1
    have c2 := hQ.cell 2
    have hlq := hQ.lt
    simp at c0 c1 c2
    clear hI hQ l1
    have hj' : j = 0 ∨ j = 1 ∨ j = 2 ∨ j = 3 := by omega
    rcases hj' with rfl | rfl | rfl | rfl
    case' inr.inr.inr =>
      have hB := Lib.hid (show Below w.heap.size w wr from by obtain ⟨_, _, _, hS, _⟩ := HI.out; exact hS.below)
      have hA8 := Lib.hid (fun w => LawEight.awake w)
      have hA10 := Lib.hid (fun w => LawTen.awake w)
      clear HI HQ c0 c1 c2 hNw hlq
      go_wp2_with fail
      refine (hA8.out _).mono ?_
      rintro e w3 ⟨rfl, hB3⟩
      have hB03 := Lib.hid (hB.out.trans (hB3.mono hB.out.size))
      clear hB hB3
      go_wp2_with fail
      refine (hA10.out _).mono ?_
      rintro e w4 ⟨rfl, hB4⟩
      have hB04 := Lib.hid (hB03.out.trans (hB4.mono hB03.out.size))
      clear hB03 hB4
      go_wp2_with fail
      go_ret
      exact ⟨rfl, hB04.out⟩
    all_goals
      go_wp2_with fail
      refine hNw.out.mono ?_
      rintro e w3 ⟨a, hh, rfl, hP3, hl3, hB3⟩
      have hQ3 := HQ.out.only (Only.ofBelow hB3 (fun _ => False)) (by simp)
      have hF := Lib.hid (aput (by omega) (HI.out.down hB3) hP3 (fun x hx => Nat.le_trans hlo (hl3 x hx)))
      replace hQ3 := Lib.hid hQ3
      clear hNw HI HQ hP3 hl3 c0 c1 c2
      go_wp2_with fail
      refine hF.out.mono ?_
      rintro e w4 ⟨⟨k4, rfl⟩, a', P, hst, hI4, hP4, ea, he, hd⟩
      have hQ4 := Lib.hid (hst sb _ _ (by decide) hQ3.out)
      clear hst
      have hE := err_any hP4
      rw [he, ea] at hE
      have hH := had_any hP4
      rw [hd, ea] at hH
      simp only [eJ0, eJ1, eJ2, hJ0, hJ1, hJ2] at hE hH
      replace hE := Lib.hid hE
      replace hH := Lib.hid hH
      replace hI4 := Lib.hid hI4
      clear hF hP4 he hd ea
      go_wp2_with fail
      refine hE.out.mono ?_
      rintro e w' ⟨rfl, rfl⟩
      go_wp2_with fail
      refine hE.out.mono ?_
      rintro e w' ⟨rfl, rfl⟩
      go_wp2_with fail
      refine hH.out.mono ?_
      rintro e w5 ⟨rfl, hB5⟩
      have hI5 := Lib.hid (hI4.out.down hB5)
      have hQ5 := Lib.hid (hQ4.out.only (Only.ofBelow hB5 (fun _ => False)) (by simp))
      clear hE hH hI4 hB5
      go_wp2_with fail
      go_roundw
      case rel => exact ⟨_, by omega, by go_num, hI5.out, hQ5.out⟩
      case measure => simp [intOf]; try omega
end Go.Proofs.YtpfpanfpjopcjaaGreat.LawEl
