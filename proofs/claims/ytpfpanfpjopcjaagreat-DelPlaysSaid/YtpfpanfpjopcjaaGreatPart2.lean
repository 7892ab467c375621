/- Walks and plain mathematics, put together in their order. -/
import Derived.Test.YtpfpanfpjopcjaaGreatPart1
import Derived.Test.YtpfpanfpjopcjaaGreatPairs
import Derived.Test.YtpfpanfpjopcjaaGreatRowKit
import Derived.Laws.Cover1
import Derived.Test.YtpfpanfpjopcjaaGreatMemNew
import Derived.Deep.RegionHeld3
import Derived.Laws.EntriesVeiled
import Derived.Test.YtpfpanfpjopcjaaGreatFinish
import Derived.Test.YtpfpanfpjopcjaaGreatLawFiveA
import Derived.Test.YtpfpanfpjopcjaaGreatMade
import Derived.Test.YtpfpanfpjopcjaaGreatWalkD
import Derived.Test.YtpfpanfpjopcjaaGreatGetA
import Derived.Test.YtpfpanfpjopcjaaGreatFinishN
import Derived.Test.YtpfpanfpjopcjaaGreatGetC
/- Plain lists: chains with their handles; a node put in the place of one, or ahead of all. -/
namespace Go.Proofs.YtpfpanfpjopcjaaGreat.Mq
open Go Hm Ar Mm Wk Pc Me Re

/-- A handle, the pair of its node. -/
abbrev Hp := Nat × Pr
abbrev hds (q : List Hp) : List Nat := q.map (·.1)
abbrev prs (q : List Hp) : List Pr := q.map (·.2)
abbrev kys (q : List Hp) : List ByteArray := q.map (·.2.1)
/-- A chain, with its handles. -/
inductive Cx (ss : List Sl) : Nat → List Hp → Prop
  | nil : Cx ss 0 []
  | cons {x k z : Nat} {p : Pr} {t : List Hp} : IsAt ss x k → (at' ss k).nd = ndp p z → Cx ss z t → Cx ss x ((x, p) :: t)
section
variable {ss ss' : List Sl} {x : Nat} {q : List Hp}
theorem Cx.cn (h : Cx ss x q) : Cn ss x (prs q) := by
  induction h with
  | nil => exact .nil
  | cons a b _ ih => exact .cons a b ih
theorem Cx.pos (h : Cx ss x q) : x = 0 ↔ q = [] := by
  cases h with
  | nil => simp
  | cons a b c => simp [a.pos]
theorem Cx.ch (h : Cx ss x q) : ∀ met, (∀ y ∈ hds q, y ∉ met) → (hds q).Nodup → Ch ss met x (hds q) := by
  induction h with
  | nil => intro met _ _; exact .stop (.inl fun k hk => hk.pos rfl)
  | @cons x k z p t a b c ih =>
    intro met hm hn
    have hn' : x ∉ hds t ∧ (hds t).Nodup := List.nodup_cons.1 hn
    refine .go a (hm x (by simp)) ?_
    have e : nx ss k = z := by unfold nx; rw [b]; rfl
    rw [e]
    refine ih (x :: met) (fun y hy q => ?_) hn'.2
    rcases List.mem_cons.1 q with rfl | q
    · exact hn'.1 hy
    · exact hm y (List.mem_cons_of_mem _ hy) q
theorem Cx.at (h : Cx ss x q) : ∀ e ∈ q, ∃ k z, IsAt ss e.1 k ∧ (at' ss k).nd = ndp e.2 z := by
  induction h with
  | nil => simp
  | @cons x k z p t a b c ih =>
    intro e he
    rcases List.mem_cons.1 he with rfl | he
    · exact ⟨k, z, a, b⟩
    · exact ih e he
theorem Cx.live (h : Cx ss x q) : ∀ y ∈ hds q, ∃ k, IsAt ss y k := by
  intro y hy
  obtain ⟨e, he, rfl⟩ := List.mem_map.1 hy
  obtain ⟨k, _, hk, _⟩ := h.at e he
  exact ⟨k, hk⟩
/-- All its nodes stay. -/
theorem Cx.keep (h : Cx ss x q) : (∀ y ∈ hds q, ∀ k, IsAt ss y k → IsAt ss' y k ∧ (at' ss' k).nd = (at' ss k).nd) → Cx ss' x q := by
  induction h with
  | nil => intro _; exact .nil
  | @cons x k z p t a b c ih =>
    intro hk
    have := hk x (by simp) k a
    exact .cons this.1 (this.2.trans b) (ih fun y hy => hk y (List.mem_cons_of_mem _ hy))
theorem Cx.tail {p : Pr} {t : List Hp} (h : Cx ss x ((x, p) :: t)) : ∃ k z, IsAt ss x k ∧ (at' ss k).nd = ndp p z ∧ Cx ss z t := by
  cases h with
  | cons a b c => exact ⟨_, _, a, b, c⟩
theorem Cx.head {e : Hp} {t : List Hp} (h : Cx ss x (e :: t)) : x = e.1 := by
  cases h with
  | cons a b c => rfl
/-- The last handle of what was passed; none: 0. -/
def lastH (pre : List Hp) : Nat := (hds pre).getLastD 0
theorem lastH_snoc (pre : List Hp) (e : Hp) : lastH (pre ++ [e]) = e.1 := by simp [lastH]
theorem lastH_nil : lastH [] = 0 := rfl
theorem lastH_ne {pre : List Hp} (h : Cx ss x (pre ++ q)) (hp : pre ≠ []) : lastH pre ≠ 0 := by
  obtain ⟨p0, e, rfl⟩ : ∃ p0 e, pre = p0 ++ [e] := ⟨pre.dropLast, pre.getLast hp, (List.dropLast_concat_getLast hp).symm⟩
  rw [lastH_snoc]
  obtain ⟨k, z, hk, _⟩ := h.at e (by simp)
  exact hk.pos
/-- Where a chain goes on. -/
theorem Cx.suffix : ∀ (pre : List Hp) (x : Nat), Cx ss x (pre ++ q) → ∃ y, Cx ss y q := by
  intro pre
  induction pre with
  | nil => intro x h; exact ⟨x, h⟩
  | cons e t ih =>
    intro x h
    cases h with
    | cons a b c => exact ih _ c
/-- One node in the place of another. -/
theorem Cx.swap {m h kp z : Nat} {e e' : Hp} {pr : Pr} {t : List Hp} (hh : IsAt ss' h m) (hnd : (at' ss' m).nd = ndp pr z) (ht : Cx ss' z t) : ∀ (pre : List Hp) (x : Nat), Cx ss x (pre ++ e :: e' :: t) →
    IsAt ss e.1 kp → IsAt ss' e.1 kp → (at' ss' kp).nd = ndp e.2 h → (∀ y ∈ hds pre, ∀ k, IsAt ss y k → IsAt ss' y k ∧ (at' ss' k).nd = (at' ss k).nd) → Cx ss' x (pre ++ e :: (h, pr) :: t) := by
  intro pre
  induction pre with
  | nil =>
    intro x hc h1 h2 h3 _
    cases hc with
    | cons a b c => exact .cons h2 h3 (.cons hh hnd ht)
  | cons e0 r ih =>
    intro x hc h1 h2 h3 hk
    cases hc with
    | @cons _ k z0 p _ a b c =>
      have := hk x (by simp) k a
      exact .cons this.1 (this.2.trans b) (ih _ c h1 h2 h3 fun y hy => hk y (List.mem_cons_of_mem _ hy))
end

/-! ### what is found -/
theorem lk_none {q : List Pr} {key : ByteArray} : lk q key = none ↔ key ∉ q.map (·.1) := by
  induction q with
  | nil => simp [lk]
  | cons p t ih =>
    unfold lk
    by_cases h : p.1 = key
    · rw [if_pos h]; simp [h]
    · rw [if_neg h, ih]
      simp [show ¬ key = p.1 from fun e => h e.symm]
theorem lk_mem {q : List Pr} {p : Pr} (hn : (q.map (·.1)).Nodup) (hp : p ∈ q) : lk q p.1 = some p.2 := by
  induction q with
  | nil => simp at hp
  | cons a t ih =>
    have hn' : a.1 ∉ t.map (·.1) ∧ (t.map (·.1)).Nodup := List.nodup_cons.1 hn
    unfold lk
    rcases List.mem_cons.1 hp with rfl | hp
    · rw [if_pos rfl]
    · rw [if_neg (fun e => hn'.1 (by rw [e]; exact List.mem_map_of_mem hp)), ih hn'.2 hp]
theorem lk_some_mem {q : List Pr} {key v : ByteArray} (h : lk q key = some v) : (key, v) ∈ q := by
  induction q with
  | nil => simp [lk] at h
  | cons a t ih =>
    unfold lk at h
    split at h
    · rename_i e
      injection h with h
      subst h; subst e
      exact List.mem_cons_self
    · exact List.mem_cons_of_mem _ (ih h)
theorem lk_perm {q q' : List Pr} (hn : (q.map (·.1)).Nodup) (hp : q.Perm q') (key : ByteArray) : lk q key = lk q' key := by
  have hn' : (q'.map (·.1)).Nodup := (hp.map _).nodup_iff.1 hn
  cases h : lk q key with
  | none =>
    rw [lk_none] at h
    exact ((lk_none.2 fun e => h ((hp.map _).mem_iff.2 e))).symm
  | some v =>
    have := hp.mem_iff.1 (lk_some_mem h)
    exact (lk_mem hn' this).symm
theorem lk_append (a b : List Pr) (key : ByteArray) : lk (a ++ b) key = if (lk a key).isSome then lk a key else lk b key := by
  induction a with
  | nil => simp [lk]
  | cons p t ih =>
    rw [List.cons_append]
    by_cases h : p.1 = key
    · simp [lk, h]
    · simp only [lk, if_neg h]
      exact ih
/-- A list that has the key's value now, and all else as ahead. -/
structure Upd (l l' : List Pr) (key val : ByteArray) : Prop where
  nd : (l'.map (·.1)).Nodup
  lk : ∀ k, Pc.lk l' k = if k = key then some val else Pc.lk l k
  len : l'.length = if (Pc.lk l key).isSome then l.length else l.length + 1
theorem filter_len {l : List Pr} (hn : (l.map (·.1)).Nodup) (key : ByteArray) : (l.filter fun p => decide (p.1 ≠ key)).length + (if (Pc.lk l key).isSome then 1 else 0) = l.length := by
  induction l with
  | nil => simp [lk]
  | cons p t ih =>
    have hn' : p.1 ∉ t.map (·.1) ∧ (t.map (·.1)).Nodup := List.nodup_cons.1 hn
    have := ih hn'.2
    by_cases h : p.1 = key
    · have h0 : lk t key = none := lk_none.2 (by rw [← h]; exact hn'.1)
      rw [h0] at this
      simp only [Option.isSome_none, Bool.false_eq_true, if_false, Nat.add_zero] at this
      simp only [List.filter_cons, h, ne_eq, not_true_eq_false, decide_false, Bool.false_eq_true, if_false, lk, if_true, Option.isSome_some, List.length_cons]
      simp only [ne_eq] at this
      omega
    · simp only [List.filter_cons, h, ne_eq, not_false_eq_true, decide_true, if_true, lk, if_false, List.length_cons]
      simp only [ne_eq] at this
      omega
theorem lk_filter (l : List Pr) (key k : ByteArray) : lk (l.filter fun p => decide (p.1 ≠ key)) k = if k = key then none else lk l k := by
  induction l with
  | nil => simp [lk]
  | cons p t ih =>
    by_cases h : p.1 = key
    · rw [List.filter_cons, if_neg (by simp [h]), ih]
      split
      · rfl
      · rename_i hk
        conv => rhs; unfold lk
        rw [if_neg (fun e => hk (by rw [← e, h]))]
    · rw [List.filter_cons, if_pos (by simp [h])]
      unfold lk
      split
      · rename_i e
        rw [if_neg (fun q => h (by rw [e, q]))]
      · exact ih
theorem upd_of {l l' : List Pr} {key val : ByteArray} (hn : (l.map (·.1)).Nodup) (hp : l'.Perm ((key, val) :: l.filter fun p => decide (p.1 ≠ key))) : Upd l l' key val := by
  have hf : ((((key, val) :: l.filter fun p => decide (p.1 ≠ key)) : List Pr).map (·.1)).Nodup := by
    rw [List.map_cons, List.nodup_cons]
    refine ⟨fun q => ?_, (List.filter_sublist.map _).nodup hn⟩
    obtain ⟨p, hp, e⟩ := List.mem_map.1 q
    have := (List.mem_filter.1 hp).2
    simp [e] at this
  have hn' : (l'.map (·.1)).Nodup := (hp.map _).nodup_iff.2 hf
  refine ⟨hn', fun k => ?_, ?_⟩
  · rw [lk_perm hn' hp]
    unfold lk
    by_cases e : key = k
    · rw [if_pos e, if_pos e.symm]
    · rw [if_neg e, if_neg (fun q => e q.symm), lk_filter, if_neg (fun q => e q.symm)]
      cases l <;> rfl
  · rw [hp.length_eq, List.length_cons]
    have := filter_len hn key
    split
    · rename_i e; rw [if_pos e] at this; omega
    · rename_i e; rw [if_neg e] at this; omega
end Go.Proofs.YtpfpanfpjopcjaaGreat.Mq
/- The statements of layer 11: the document's map, as a row of pairs; a key's value put in. -/
namespace Go.Proofs.YtpfpanfpjopcjaaGreat.LawEl
open Go Go.RowKit Hp K Fl Rw Hm Ar Mm Me LK Wk Pc LawTen
set_option maxRecDepth 100000

/-- The cells of a pair. -/
def prc (p : Pr) : List Value := [.string p.1, .string p.2]
theorem prc_len (p : Pr) : (prc p).length = 2 := rfl
abbrev Prs (w : World) (A : Option Addr) (cap : Nat) (l : List Pr) : Prop := Row w 40 2 prc A cap l
/-- Short strings. -/
def Short (l : List Pr) : Prop := ∀ p ∈ l, p.1.size ≤ 200 ∧ p.2.size ≤ 200
theorem prs_pairs {w : World} {A : Option Addr} {cap : Nat} {l : List Pr} (h : Prs w A cap l) (hs : Short l) : PairsAt w A l := by
  intro i hi
  obtain ⟨b, e, hb, hc⟩ := h.cells prc_len i hi
  have c0 := (hc 0 (by omega)).1
  have c1 := (hc 1 (by omega)).1
  have hp : pat l i = l[i] := by simp [pat, List.getD, hi]
  have hsz := hs _ (List.getElem_mem hi)
  refine ⟨b, 0, e, hb, ?_, ?_, by rw [hp]; omega, by rw [hp]; omega⟩
  · rw [hp]; simpa [prc] using c0
  · rw [hp]; simpa [prc] using c1
theorem info_pair : (Tryz.prog.info? 40).map (fun i => (i.zero, i.size, i.bytes)) = some (some (.agg #[.string ⟨#[]⟩, .string ⟨#[]⟩]), 2, 32) := by kernel_rfl
/-- What came out so far. -/
def PInv (W w : World) (l : List Pr) (key val : ByteArray) (v : Value) (d : Bool) (k : Nat) : Prop :=
  ∃ (A : Option Addr) (cap : Nat) (o : List Pr), v = .slice A o.length cap ∧ Prs w A cap o ∧ (∀ x, In A x → W.heap.size ≤ x) ∧ Below W.heap.size W w ∧ o.length ≤ k + 1 ∧
    o.Perm ((if d = true then [(key, val)] else []) ++ (l.take k).filter fun p => decide (p.1 ≠ key))
/-- A map with the key's value, as a row of the call's own. -/
def PutR (W : World) (l : List Pr) (key val : ByteArray) (e : Ending) (w : World) : Prop :=
  ∃ (A : Option Addr) (cap : Nat) (o : List Pr), e = .returned (.slice A o.length cap) ∧ Prs w A cap o ∧ (∀ x, In A x → W.heap.size ≤ x) ∧ Below W.heap.size W w ∧ o.Perm ((key, val) :: l.filter fun p => decide (p.1 ≠ key))
theorem take_yes {l : List Pr} {k : Nat} {key : ByteArray} (hk : k < l.length) (h : (pat l k).1 ≠ key) : ((l.take (k + 1)).filter fun p => decide (p.1 ≠ key)) = ((l.take k).filter fun p => decide (p.1 ≠ key)) ++ [pat l k] := by
  have e : l[k]? = some (pat l k) := by simp [pat, List.getD, hk]
  rw [List.take_add_one, e, List.filter_append]
  simp [h]
theorem take_no {l : List Pr} {k : Nat} {key : ByteArray} (hk : k < l.length) (h : (pat l k).1 = key) : ((l.take (k + 1)).filter fun p => decide (p.1 ≠ key)) = (l.take k).filter fun p => decide (p.1 ≠ key) := by
  have e : l[k]? = some (pat l k) := by simp [pat, List.getD, hk]
  rw [List.take_add_one, e, List.filter_append]
  simp [h]
set_option maxHeartbeats 1000000 in
theorem refput_any (W : World) (l : List Pr) (A : Option Addr) (cap : Nat) (hl : l.length ≤ 1000000) (hP : PairsAt W A l) (key val : ByteArray) :
    Calls Tryz.prog 18 #[.slice A l.length cap, .string key, .string val] W (PutR W l key val) := by
  have hI := Lib.hid (show PInv W W l key val (.slice none 0 0) false 0 from ⟨none, 0, [], rfl, Row.nil _ _ _ _, by simp [In], Below.refl _ _, by simp, by simp⟩)
  obtain ⟨i0, hi0, hz0, hz1, hz2⟩ := info_parts info_pair
  replace hP := Lib.hid hP
  generalize hln : l.length = len at *
  replace hln := Lib.hid hln
  go_enter Tryz.func18, Tryz.ntmps18
  go_wp2_with fail
  go_loopw [7, 8, 9] (fun v d i wr => ∃ (k : Nat) (c : Bool), k ≤ len ∧ i = .int .i64 k ∧ d = .bool c ∧ PInv W wr l key val v c k) (fun _ _ i _ => len - (intOf i).toNat)
  case atStart => exact ⟨0, false, Nat.zero_le _, rfl, rfl, hI.out⟩
  case round =>
    obtain ⟨k, c, hk, rfl, rfl, A1, cap1, o, rfl, hR, hA, hB, hol, hp⟩ := hrel
    clear hI
    generalize hom : o.length = m at *
    replace hom := Lib.hid hom
    replace hR := Lib.hid hR
    replace hA := Lib.hid hA
    replace hp := Lib.hid hp
    by_cases hlt : k < len
    · obtain ⟨b, of, rfl, hb, c0, c1, s0, s1⟩ := hP.out k (by rw [hln.out]; exact hlt)
      rw [← hB.cell (p := ⟨b, _, none⟩) hb] at c0 c1
      have hbr : b < wr.heap.size := by have := hB.size; omega
      replace hB := Lib.hid hB
      have hty := fun q => take_yes (l := l) (k := k) (key := key) (by rw [hln.out]; exact hlt) q
      have htn := fun q => take_no (l := l) (k := k) (key := key) (by rw [hln.out]; exact hlt) q
      generalize hpp : pat l k = p at *
      obtain ⟨pk, pv⟩ := p
      simp only at c0 c1 s0 s1 hty htn
      replace hty := Lib.hid hty
      replace htn := Lib.hid htn
      replace hpp := Lib.hid hpp
      have hsz := hB.out.size
      have tf : (true = true) = True := by simp
      -- what is put ahead of it, if anything is
      by_cases hk2 : pk = key
      · have hn := htn.out hk2
        subst hk2
        cases c with
        | true =>
          go_wp2_with fail
          go_roundw
          case rel => exact ⟨k + 1, true, by omega, by go_num, rfl, A1, cap1, o, by rw [hom.out], hR.out, hA.out, hB.out, by have := hom.out; omega, by rw [hn]; exact hp.out⟩
          case measure => simp [intOf]; omega
        | false =>
          cases hbl : Op.bytesLess pk.toList pk.toList with
          | true =>
            go_wp2_with fail
            go_roundw
            case rel => exact ⟨k + 1, false, by omega, by go_num, rfl, A1, cap1, o, by rw [hom.out], hR.out, hA.out, hB.out, by have := hom.out; omega, by rw [hn]; exact hp.out⟩
            case measure => simp [intOf]; omega
          | false =>
            go_wp2_with
              (at_builtin
               refine wpList_append_one wr rfl (.tmp 27) (.tmp 31) 22 rfl 40 i0 (.agg #[.string ⟨#[]⟩, .string ⟨#[]⟩]) 2 32 Tryz.underlying22 hi0 hz0 hz1 hz2 rfl (by omega) prc (fun _ => rfl) (by intro x u hu; simp [prc] at hu; rcases hu with rfl | rfl <;> rfl)
                 A1 cap1 m o hom.out (pk, val) #[.string pk, .string val] rfl rfl hR.out rfl (by simp only [maxLen]; omega) (by omega) ?_
               intro A2 cap2 w2 hR2 hO2 hA2
               have hcc0 : w2.cell? ⟨b, of + k * 2, none⟩ = some (.string pk) := by
                 rw [hO2.cell (p := ⟨b, _, none⟩) hbr (fun q => by have := hA.out b q; omega)]; exact c0
               have HP := Lib.hid (show PInv W w2 l pk val (.slice A2 (m + 1) cap2) true (k + 1) from ⟨A2, cap2, o ++ [(pk, val)], by rw [List.length_append, hom.out]; rfl, hR2, fun x hx => by
                 rcases hA2 x hx with q | q
                 · exact hA.out x q
                 · omega, hB.out.trans (hO2.toBelow hsz (fun x hx q => by have := hA.out x q; omega)), by rw [List.length_append, hom.out]; simp; omega, by
                 rw [hn]
                 refine (List.perm_append_comm).trans ?_
                 have := hp.out
                 simp only [if_true]
                 exact List.Perm.cons _ (by simpa using this)⟩)
               clear c0 hR2 hO2 hA2)
            go_roundw
            case rel => exact ⟨k + 1, true, by omega, by go_num, rfl, HP.out⟩
            case measure => simp [intOf]; omega
      · have hy := hty.out hk2
        have hb2 := bytes_ne hk2
        replace hk2 := Lib.hid hk2
        have hone : ∀ (w2 : World) (A2 : Option Addr) (cap2 : Nat) (c : Bool), Hid (o.Perm ((if c = true then [(key, val)] else []) ++ List.filter (fun p => decide (p.1 ≠ key)) (List.take k l))) → Prs w2 A2 cap2 (o ++ [(pk, pv)]) → Only (In A1) wr w2 → (∀ x, In A2 x → In A1 x ∨ wr.heap.size ≤ x) → PInv W w2 l key val (.slice A2 (m + 1) cap2) c (k + 1) := fun w2 A2 cap2 c hp hR2 hO2 hA2 =>
          ⟨A2, cap2, o ++ [(pk, pv)], by rw [List.length_append, hom.out]; rfl, hR2, fun x hx => by
              rcases hA2 x hx with q | q
              · exact hA.out x q
              · omega, hB.out.trans (hO2.toBelow hsz (fun x hx q => by have := hA.out x q; omega)), by rw [List.length_append, hom.out]; simp; omega, by
              rw [hy, ← List.append_assoc]
              exact List.Perm.append_right _ hp.out⟩
        replace hone := Lib.hid hone
        cases c with
        | true =>
          go_wp2_with
            (at_builtin
             refine wpList_append_one wr rfl (.tmp 40) (.tmp 45) 22 rfl 40 i0 (.agg #[.string ⟨#[]⟩, .string ⟨#[]⟩]) 2 32 Tryz.underlying22 hi0 hz0 hz1 hz2 rfl (by omega) prc (fun _ => rfl) (by intro x u hu; simp [prc] at hu; rcases hu with rfl | rfl <;> rfl)
               A1 cap1 m o hom.out (pk, pv) #[.string pk, .string pv] rfl rfl hR.out rfl (by simp only [maxLen]; omega) (by omega) ?_
             intro A2 cap2 w2 hR2 hO2 hA2)
          have HP := Lib.hid (hone.out w2 A2 cap2 true hp hR2 hO2 hA2)
          clear hR2 hO2 hA2
          go_wp2_with fail
          go_roundw
          case rel => exact ⟨k + 1, true, by omega, by go_num, rfl, HP.out⟩
          case measure => simp [intOf]; omega
        | false =>
          cases hbl : Op.bytesLess pk.toList key.toList with
          | true =>
            go_wp2_with
              (at_builtin
               refine wpList_append_one wr rfl (.tmp 40) (.tmp 45) 22 rfl 40 i0 (.agg #[.string ⟨#[]⟩, .string ⟨#[]⟩]) 2 32 Tryz.underlying22 hi0 hz0 hz1 hz2 rfl (by omega) prc (fun _ => rfl) (by intro x u hu; simp [prc] at hu; rcases hu with rfl | rfl <;> rfl)
                 A1 cap1 m o hom.out (pk, pv) #[.string pk, .string pv] rfl rfl hR.out rfl (by simp only [maxLen]; omega) (by omega) ?_
               intro A2 cap2 w2 hR2 hO2 hA2)
            have HP := Lib.hid (hone.out w2 A2 cap2 false hp hR2 hO2 hA2)
            clear hR2 hO2 hA2
            go_wp2_with fail
            go_roundw
            case rel => exact ⟨k + 1, false, by omega, by go_num, rfl, HP.out⟩
            case measure => simp [intOf]; omega
          | false =>
            go_wp2_with (first
              | (at_builtin
                 refine wpList_append_one wr rfl (.tmp 27) (.tmp 31) 22 rfl 40 i0 (.agg #[.string ⟨#[]⟩, .string ⟨#[]⟩]) 2 32 Tryz.underlying22 hi0 hz0 hz1 hz2 rfl (by omega) prc (fun _ => rfl) (by intro x u hu; simp [prc] at hu; rcases hu with rfl | rfl <;> rfl)
                   A1 cap1 m o hom.out (key, val) #[.string key, .string val] rfl rfl hR.out rfl (by simp only [maxLen]; omega) (by omega) ?_
                 intro A2 cap2 w2 hR2 hO2 hA2
                 have hcc0 : w2.cell? ⟨b, of + k * 2, none⟩ = some (.string pk) := by
                   rw [hO2.cell (p := ⟨b, _, none⟩) hbr (fun q => by have := hA.out b q; omega)]; exact c0
                 have hcc1 : w2.cell? ⟨b, of + k * 2 + 1, none⟩ = some (.string pv) := by
                   rw [hO2.cell (p := ⟨b, _, none⟩) hbr (fun q => by have := hA.out b q; omega)]; exact c1
                 have hsz2 := hO2.size
                 have hB2 := Lib.hid (hB.out.trans (hO2.toBelow hsz (fun x hx q => by have := hA.out x q; omega)))
                 have hA2' := Lib.hid (fun x (hx : In A2 x) => show W.heap.size ≤ x from by
                   rcases hA2 x hx with q | q
                   · exact hA.out x q
                   · omega)
                 replace hR2 := Lib.hid hR2
                 have hom2 := Lib.hid (show (o ++ [(key, val)]).length = m + 1 by rw [List.length_append, hom.out]; rfl)
                 clear c0 c1 hO2 hA2)
              | (at_builtin
                 refine wpList_append_one w2 rfl (.tmp 40) (.tmp 45) 22 rfl 40 i0 (.agg #[.string ⟨#[]⟩, .string ⟨#[]⟩]) 2 32 Tryz.underlying22 hi0 hz0 hz1 hz2 rfl (by omega) prc (fun _ => rfl) (by intro x u hu; simp [prc] at hu; rcases hu with rfl | rfl <;> rfl)
                   A2 cap2 (m + 1) (o ++ [(key, val)]) hom2.out (pk, pv) #[.string pk, .string pv] rfl rfl hR2.out rfl (by simp only [maxLen]; omega) (by omega) ?_
                 intro A3 cap3 w3 hR3 hO3 hA3
                 have HP := Lib.hid (show PInv W w3 l key val (.slice A3 (m + 1 + 1) cap3) true (k + 1) from ⟨A3, cap3, o ++ [(key, val)] ++ [(pk, pv)], by rw [List.length_append, hom2.out]; rfl, hR3, fun x hx => by
                   rcases hA3 x hx with q | q
                   · exact hA2'.out x q
                   · omega, hB2.out.trans (hO3.toBelow hB2.out.size (fun x hx q => by have := hA2'.out x q; omega)), by rw [List.length_append, hom2.out]; simp; have := hom.out; have := hp.out.length_eq; have := List.length_filter_le (fun p : Pr => decide (p.1 ≠ key)) (List.take k l); simp at *; omega, by
                   rw [hy]
                   have := hp.out
                   simp only [if_true]
                   simp only [Bool.false_eq_true, if_false, List.nil_append] at this
                   rw [List.append_assoc]
                   refine (List.Perm.append_right _ this).trans ?_
                   rw [← List.append_assoc, ← List.append_assoc]
                   exact List.Perm.append_right _ List.perm_append_comm⟩)
                 clear hR3 hO3 hA3))
            go_roundw
            case rel => exact ⟨k + 1, true, by omega, by go_num, rfl, HP.out⟩
            case measure => simp [intOf]; omega
    · obtain rfl : k = len := by omega
      have hpe := hp.out
      have e1 : List.take k l = l := by rw [← hln.out]; exact List.take_length
      rw [e1] at hpe
      cases c with
      | true =>
        replace hpe := Lib.hid hpe
        replace hB := Lib.hid hB
        clear e1 hp
        go_wp2_with fail
        go_ret
        exact ⟨A1, cap1, o, by rw [hom.out]; rfl, hR.out, hA.out, hB.out, by simpa using hpe.out⟩
      | false =>
        replace hpe := Lib.hid hpe
        replace hB := Lib.hid hB
        clear e1 hp
        go_wp2_with
          (at_builtin
           refine wpList_append_one wr rfl (.tmp 49) (.tmp 53) 22 rfl 40 i0 (.agg #[.string ⟨#[]⟩, .string ⟨#[]⟩]) 2 32 Tryz.underlying22 hi0 hz0 hz1 hz2 rfl (by omega) prc (fun _ => rfl) (by intro x u hu; simp [prc] at hu; rcases hu with rfl | rfl <;> rfl)
             A1 cap1 m o hom.out (key, val) #[.string key, .string val] rfl rfl hR.out rfl (by simp only [maxLen]; omega) (by omega) ?_
           intro A2 cap2 w2 hR2 hO2 hA2)
        have hsz := hB.out.size
        have HP := Lib.hid (show Prs w2 A2 cap2 (o ++ [(key, val)]) ∧ (∀ x, In A2 x → W.heap.size ≤ x) ∧ Below W.heap.size W w2 from ⟨hR2, fun x hx => by
              rcases hA2 x hx with q | q
              · exact hA.out x q
              · omega, hB.out.trans (hO2.toBelow hsz (fun x hx q => by have := hA.out x q; omega))⟩)
        clear hR2 hO2 hA2
        go_wp2_with fail
        go_ret
        refine ⟨A2, cap2, o ++ [(key, val)], by rw [List.length_append, hom.out]; rfl, HP.out.1, HP.out.2.1, HP.out.2.2, ?_⟩
        have := hpe.out
        simp only [Bool.false_eq_true, if_false, List.nil_append] at this
        exact List.perm_append_comm.trans (List.Perm.cons _ this)
end Go.Proofs.YtpfpanfpjopcjaaGreat.LawEl
/- Walks over layer 8 (table): a hold; what its parts answer, and which blocks they write. -/
namespace Go.Proofs.YtpfpanfpjopcjaaGreat.Ta
open Go Go.RowKit Hp K Fl Rw Hm Ar Mm Me
set_option maxRecDepth 100000

/-- A function, and one that keeps its receiver. -/
abbrev fn0 (F : Nat) : Value := .func (.func F) #[] #[]
abbrev fnm (F : Nat) (v : Value) : Value := .func (.func F) #[v] #[]
/-- A hold. -/
structure Ho where
  f : Nat
  worker : Int
  sum : Int
  nx : Nat
  num : Nat
  d : Nat × Nat
  lock : Nat
  holds : Bool
def rdv (nx f : Nat) : Value := if nx = 2 then fnm 114 (ptr f) else fn0 86
def nxv (nx f : Nat) : Value := if nx = 1 then fnm 87 (ptr f) else if nx = 2 then fnm 115 (ptr f) else if nx = 3 then fnm 133 (ptr f) else if nx = 4 then fnm 141 (ptr f) else fn0 142
def hoc (H : Ho) : Array Value := #[.int .i64 H.worker, .int .u32 H.sum, rdv H.nx H.f, nxv H.nx H.f, .int .u64 H.num, .int .i64 H.d.1, .int .i64 H.d.2, .int .i64 H.lock, .bool H.holds]
def HoAt (w : World) (H : Ho) : Prop := Blk w H.f 151 (hoc H)
/-- A sum's lock, of a table. -/
def lkn (s : Int) (d : Nat × Nat) : Nat := (1 + FM.bucket s d.1 % 4).toNat
theorem lkn_eq {s : Int} (d : Nat × Nat) (hs : 0 ≤ s) : 1 + FM.bucket s d.1 % 4 = ((lkn s d : Nat) : Int) := by
  have := bucket_bd s d.1 hs
  unfold lkn
  omega
theorem lkn_bd {s : Int} (d : Nat × Nat) (hs : 0 ≤ s) : 1 ≤ lkn s d ∧ lkn s d ≤ 4 := by
  have := bucket_bd s d.1 hs
  unfold lkn
  omega
/-- What a hold's steps ask. -/
structure Okh (M : Mo) (H : Ho) : Prop where
  sum : 0 ≤ H.sum ∧ H.sum < 4294967296
  wk : 0 ≤ H.worker ∧ H.worker ≤ 9223372036854775807
  hl : 4 < M.hs.length
  xl : 1 < M.xs.length
  num : H.num ≤ 18446744073709551615
  dn : (tab M.ds H.num).1 ≤ 65536
theorem Okh.lb {M : Mo} {H : Ho} (h : Okh M H) : lkn H.sum (tab M.ds H.num) < M.hs.length := by
  have := lkn_bd (tab M.ds H.num) h.sum.1
  have := h.hl
  omega

section
variable {w w' : World} {M : Mo} {H : Ho}
theorem HoAt.far (h : HoAt w H) (hM : MemAt w M) : ¬ mfoot M H.f := fun hx => (hM.ty hx).apart (blk_ty h) (by decide)
theorem HoAt.only {S : Nat → Prop} (h : HoAt w H) (ho : Only S w w') (hn : ¬ S H.f) : HoAt w' H := Blk.only h ho hn
theorem HoAt.below (h : HoAt w H) (hb : Below w.heap.size w w') : HoAt w' H := h.only (Only.ofBelow hb (fun _ => False)) (by simp)
theorem HoAt.drewN (h : HoAt w H) (n : Nat) : HoAt (w.drewN n) H := h.only ((Only.refl (fun _ => False) w).drewN n) (by simp)
theorem HoAt.hd (h : HoAt w H) : w.cell? ⟨H.f, 0, none⟩ = some (.int .i64 H.worker) ∧ w.cell? ⟨H.f, 1, none⟩ = some (.int .u32 H.sum) ∧ w.cell? ⟨H.f, 2, none⟩ = some (rdv H.nx H.f) ∧ w.cell? ⟨H.f, 3, none⟩ = some (nxv H.nx H.f) ∧
    w.cell? ⟨H.f, 4, none⟩ = some (.int .u64 H.num) ∧ w.cell? ⟨H.f, 5, none⟩ = some (.int .i64 H.d.1) ∧ w.cell? ⟨H.f, 6, none⟩ = some (.int .i64 H.d.2) ∧ w.cell? ⟨H.f, 7, none⟩ = some (.int .i64 H.lock) ∧ w.cell? ⟨H.f, 8, none⟩ = some (.bool H.holds) :=
  ⟨h.cell 0, h.cell 1, h.cell 2, h.cell 3, h.cell 4, h.cell 5, h.cell 6, h.cell 7, h.cell 8⟩
end
theorem always_any (m : Value) (w : World) : Calls Tryz.prog 86 #[m] w fun e w' => e = .returned (.bool true) ∧ w' = w := by
  go_enter Tryz.func86, Tryz.ntmps86
  go_wp2
  go_ret
  exact ⟨rfl, rfl⟩
theorem done_any (m : Value) (w : World) : Calls Tryz.prog 142 #[m] w fun e w' => e = .returned (.bool true) ∧ w' = w := by
  go_enter Tryz.func142, Tryz.ntmps142
  go_wp2
  go_ret
  exact ⟨rfl, rfl⟩
theorem goOn_any {f F G : Nat} {a b : Array Value} {w : World} {u2 u3 : Value} (c2 : w.cell? ⟨f, 2, none⟩ = some u2) (c3 : w.cell? ⟨f, 3, none⟩ = some u3) (z2 : w.frozen? ⟨f, 2, none⟩ = false) (z3 : w.frozen? ⟨f, 3, none⟩ = false) :
    Calls Tryz.prog 85 #[ptr f, .func (.func F) a #[], .func (.func G) b #[]] w fun e w' => e = .returned (.tuple #[]) ∧ w' = (w.setCell ⟨f, 2, none⟩ (.func (.func F) a #[])).setCell ⟨f, 3, none⟩ (.func (.func G) b #[]) := by
  go_enter Tryz.func85, Tryz.ntmps85
  go_wp2
  go_end0
  exact ⟨rfl, rfl⟩
theorem new_hold (k s : Int) (w : World) : Calls Tryz.prog 55 #[.int .i64 k, .int .u32 s] w fun e w' => e = .returned (ptr w.heap.size) ∧ HoAt w' ⟨w.heap.size, k, s, 1, 0, (0, 0), 0, false⟩ ∧ Below w.heap.size w w' := by
  go_enter Tryz.func55, Tryz.ntmps55
  go_wp2_with fail
  refine (goOn_any (u2 := .nilFunc) (u3 := .nilFunc) ((Blk.made w _ _).cell 2) ((Blk.made w _ _).cell 3) ((Blk.made w _ _).frozen 2) ((Blk.made w _ _).frozen 3)).mono ?_
  rintro e w1 ⟨rfl, hw⟩
  have hB : HoAt w1 ⟨w.heap.size, k, s, 1, 0, (0, 0), 0, false⟩ := by
    rw [hw]
    exact ((Blk.made w _ _).store 2 _).store 3 _
  have hb : Below w.heap.size w w1 := by
    rw [hw]
    exact (((Below.refl _ _).alloc (Nat.le_refl _) _).setCell (by simp) _).setCell (by simp) _
  replace hB := Lib.hid hB
  replace hb := Lib.hid hb
  clear hw
  go_wp2_with fail
  go_ret
  exact ⟨rfl, hB.out, hb.out⟩
section
variable {w : World} {M : Mo} {H : Ho}
theorem loaded_any (hM : MemAt w M) (hH : HoAt w H) (hn : H.num ≤ 18446744073709551615) :
    Calls Tryz.prog 132 #[ptr H.f, ptr M.m] w fun e w' => e = .returned (dv (tab M.ds H.num)) ∧ Below w.heap.size w w' := by
  obtain ⟨c0, c1, c2, c3, c4, c5, c6, c7, c8⟩ := hH.hd
  have hl := row_len hM.2.2.2.2.1
  have lM := hM.1.lt
  have lf := hH.lt
  by_cases hg : 9223372036854775807 < H.num
  · rw [tab_none (by omega)]
    clear hM hH c0 c1 c2 c3 c5 c6 c7 c8
    generalize H.num = z at *
    generalize H.f = f at *
    go_enter Tryz.func132, Tryz.ntmps132
    go_wp2
    exact bodyPost_ret (v := dv (0, 0)) (by simp [results, Tryz.results132, go_sem, dv]) rfl ⟨rfl, by first | exact ((Below.refl _ _).alloc (Nat.le_refl _) _) | exact (((Below.refl _ _).alloc (Nat.le_refl _) _).setCell (by simp) _).setCell (by simp) _⟩
  · have hD : Hid (∀ o, Calls Tryz.prog 140 #[ptr M.m, .int .i64 H.num] (w.alloc o) fun e w' => ∃ b, e = .returned (.tuple #[.agg #[.int .i64 (tab M.ds H.num).1, .int .i64 (tab M.ds H.num).2], .bool b]) ∧ Below (w.alloc o).heap.size (w.alloc o) w') := Lib.hid fun o => by
      by_cases hi : H.num < M.ds.length
      · exact (desc_in (hM.alloc o) H.num hi).mono fun e w' h => ⟨true, h⟩
      · rw [tab_none (by omega)]
        exact (desc_out (hM.alloc o) H.num (by omega) (by omega) (.inr (by omega))).mono fun e w' h => ⟨false, h⟩
    clear hM hH c0 c1 c2 c3 c5 c6 c7 c8
    have e1 : IntKind.i64.wrap (H.num : Int) = H.num := IntWalk.i64_in _ (by omega)
    generalize tab M.ds H.num = d at *
    generalize H.num = z at *
    generalize H.f = f at *
    go_enter Tryz.func132, Tryz.ntmps132
    go_wp2_with fail
    refine (hD.out _).mono ?_
    rintro e w1 ⟨b, rfl, hb⟩
    have hB1 : Blk w1 w.heap.size 72 #[.int .i64 0, .int .i64 0] := (Blk.made w _ _).only (Only.ofBelow hb (fun _ => False)) (by simp)
    have k0 := hB1.cell 0
    have k1 := hB1.cell 1
    have z0 := hB1.frozen 0
    have z1 := hB1.frozen 1
    simp at k0 k1
    have hlt := hB1.lt
    have hb' : Below w.heap.size w w1 := ((Below.refl _ _).alloc (Nat.le_refl _) _).trans (hb.mono (by simp))
    replace hb' := Lib.hid hb'
    clear hb hB1 hD c4
    go_wp2_with fail
    exact bodyPost_ret (v := dv d) (by simp [results, Tryz.results132, go_sem, dv, k0, k1, hlt]) rfl ⟨rfl, ((hb'.out.setCell (by simp) _).setCell (by simp) _).alloc (by simp; omega) _⟩
end
end Go.Proofs.YtpfpanfpjopcjaaGreat.Ta
/- Walks over layer 8 (table): a hold's four steps, and what comes next. -/
namespace Go.Proofs.YtpfpanfpjopcjaaGreat.Ta
open Go Go.RowKit Hp K Fl Rw Hm Ar Mm Me
set_option maxRecDepth 100000

theorem desc_n (a b : Int) (w : World) : (Instr.field 72 (.agg #[.int .i64 a, .int .i64 b]) 0).run Tryz.prog w = .ok (.int .i64 a) w := by kernel_rfl
section
variable {w w' : World} {M : Mo} {H : Ho}
theorem foot_cells : ∀ x, Cl.foot M.g M.A x → mfoot M x := fun _ h => .inr (.inl h)
theorem foot_locks : ∀ x, Lo.foot M.lg M.lb x → mfoot M x := fun _ h => .inr (.inr (.inl h))
theorem HoAt.keep {S : Nat → Prop} (h : HoAt w H) (hM : MemAt w M) (ho : Only S w w') (hS : ∀ x, S x → mfoot M x) : HoAt w' H := h.only ho (fun hs => h.far hM (hS _ hs))
theorem HoAt.fr (h : HoAt w H) (i : Nat) : w.frozen? ⟨H.f, i, none⟩ = false := h.frozen i
theorem writer_lk {s : Int} {d : Nat × Nat} (hs : 0 ≤ s ∧ s < 4294967296) (hd : d.1 ≤ 65536) (w : World) : Calls Tryz.prog 131 #[.int .u32 s, .int .i64 d.1] w fun e w' => e = .returned (.int .i64 (lkn s d)) ∧ w = w' := by
  have h := writer_any s d.1 w hs.1 hs.2 (by omega) (by omega)
  rw [lkn_eq d hs.1] at h
  exact h
/-- What the hold is ready for, ahead of its second step. -/
def freeB (M : Mo) (H : Ho) : Bool := decide (Lo.hol M.hs (lkn H.sum (tab M.ds H.num)) = -1)
set_option maxHeartbeats 1000000 in
theorem mayTake_any (hM : MemAt w M) (hH : HoAt w H) (ok : Okh M H) :
    Calls Tryz.prog 114 #[ptr H.f, ptr M.m] w fun e w' => e = .returned (.bool (freeB M H)) ∧ Below w.heap.size w w' := by
  obtain ⟨c0, c1, c2, c3, c4, c5, c6, c7, c8⟩ := hH.hd
  have d1 := hM.hd.2.1
  have lM := hM.1.lt
  have lf := hH.lt
  have hL := Lib.hid (fun nq => (loaded_any (hM.drewN nq) (hH.drewN nq) ok.num).mono fun e w2 h => And.intro h.1 (show Below w.heap.size w w2 from (show Below w.heap.size w (w.drewN nq) from ⟨rfl, rfl, rfl, Nat.le_refl _, fun _ _ => rfl⟩).trans h.2))
  have hW := Lib.hid (fun w => writer_lk (d := tab M.ds H.num) ok.sum ok.dn w)
  have hO := Lib.hid (fun w' (hb : Below w.heap.size w w') => Lo.holder_in (hM.below hb).2.2.1 _ ok.lb)
  have hk := lkn_bd (tab M.ds H.num) ok.sum.1
  have hb := Lo.hol_bd hM.2.2.1.2.2.1 (lkn H.sum (tab M.ds H.num))
  have hw := ok.wk.1
  have hw' : decide (0 ≤ H.worker) = true := by simpa using hw
  have hFB : freeB M H = decide (Lo.hol M.hs (lkn H.sum (tab M.ds H.num)) = -1) := rfl
  rw [hFB]
  unfold dv at hL
  clear hFB hM hH ok c2 c3 c4 c5 c6 c7 c8
  generalize Lo.hol M.hs (lkn H.sum (tab M.ds H.num)) = z at *
  generalize lkn H.sum (tab M.ds H.num) = k at *
  generalize tab M.ds H.num = d at *
  generalize H.f = f at *
  have bc : ∀ w', Below w.heap.size w w' → w'.cell? ⟨M.m, 1, none⟩ = some (ptr M.lg) ∧ w'.cell? ⟨f, 0, none⟩ = some (.int .i64 H.worker) ∧ w'.cell? ⟨f, 1, none⟩ = some (.int .u32 H.sum) := fun w' hb => by
    have h := bcell hb
    exact ⟨(h.1 _ 1 lM).trans d1, (h.1 _ 0 lf).trans c0, (h.1 _ 1 lf).trans c1⟩
  replace bc := Lib.hid bc
  have dn := desc_n
  go_enter Tryz.func114, Tryz.ntmps114
  go_wp2_with fail
  go_region_held3 (fun w' => w'.cell? ⟨M.m, 1, none⟩ = some (ptr M.lg) ∧ w'.cell? ⟨f, 0, none⟩ = some (.int .i64 H.worker) ∧ w'.cell? ⟨f, 1, none⟩ = some (.int .u32 H.sum)) (go_keep)
    (first
      | (go_at_call 132
         refine (hL.out 1).mono ?_
         rintro e w2 ⟨rfl, hb2⟩
         obtain ⟨s1, s2, s3⟩ := bc.out w2 hb2
         have hO2 := Lib.hid (hO.out w2 hb2)
         replace hb2 := Lib.hid hb2)
      | (go_at_call 131
         refine (hW.out _).mono ?_
         rintro e w3 ⟨rfl, rfl⟩)
      | (go_at_call 59
         refine hO2.out.mono ?_
         rintro e w4 ⟨rfl, hw4⟩
         obtain rfl : w2 = w4 := hw4.symm))
  all_goals
    go_wp2_with fail
    go_ret
    exact ⟨K.ret_bool (by simp [BEq.beq]), hb2.out⟩
/-- The hold, further on. -/
theorem HoAt.goes (h : Blk w H.f 151 (hoc H)) (n : Nat) : Blk ((w.setCell ⟨H.f, 2, none⟩ (rdv n H.f)).setCell ⟨H.f, 3, none⟩ (nxv n H.f)) H.f 151 (hoc { H with nx := n }) := (h.store 2 _).store 3 _
theorem HoAt.frz (h : HoAt w H) : w.frozen? ⟨H.f, 2, none⟩ = false ∧ w.frozen? ⟨H.f, 3, none⟩ = false ∧ w.frozen? ⟨H.f, 4, none⟩ = false ∧ w.frozen? ⟨H.f, 5, none⟩ = false ∧ w.frozen? ⟨H.f, 6, none⟩ = false ∧ w.frozen? ⟨H.f, 7, none⟩ = false ∧ w.frozen? ⟨H.f, 8, none⟩ = false :=
  ⟨h.frozen 2, h.frozen 3, h.frozen 4, h.frozen 5, h.frozen 6, h.frozen 7, h.frozen 8⟩
theorem goOn_goes (h : HoAt w H) {F G n : Nat} {a b : Array Value} (e1 : rdv n H.f = .func (.func F) a #[]) (e2 : nxv n H.f = .func (.func G) b #[]) :
    Calls Tryz.prog 85 #[ptr H.f, .func (.func F) a #[], .func (.func G) b #[]] w fun e w' => e = .returned (.tuple #[]) ∧ HoAt w' { H with nx := n } ∧ Only (· = H.f) w w' := by
  refine (goOn_any h.hd.2.2.1 h.hd.2.2.2.1 h.frz.1 h.frz.2.1).mono ?_
  rintro e w' ⟨rfl, rfl⟩
  refine ⟨rfl, ?_, ((Only.refl (· = H.f) w).setCell (.inl rfl) _).setCell (.inl rfl) _⟩
  have := HoAt.goes h n
  rw [e1, e2] at this
  exact this
theorem load_any (hM : MemAt w M) (hH : HoAt w H) (hx : 1 < M.xs.length) :
    Calls Tryz.prog 87 #[ptr H.f, ptr M.m] w fun e w' => e = .returned (.bool false) ∧ HoAt w' { H with nx := 2, num := (Cl.nth M.xs 1).toNat } ∧ Only (· = H.f) w w' := by
  have hL := Lib.hid (Cl.load_in hM.2.1 1 hx)
  have c4 := hH.hd.2.2.2.2.1
  have z4 := hH.frz.2.2.1
  have d0 := hM.hd.1
  have hv := Cl.getD_bd hM.2.1.2.2.1 1
  obtain ⟨z, hz⟩ := Int.eq_ofNat_of_zero_le hv.1
  rw [hz] at hL ⊢
  rw [Int.toNat_natCast]
  have HH := Lib.hid hH
  clear hM hH hv hz
  go_enter Tryz.func87, Tryz.ntmps87
  go_wp2_with (go_at_call 75; refine hL.out.mono ?_; rintro e w' ⟨rfl, hw⟩; obtain rfl : w = w' := hw.symm)
  have hS : HoAt (w.setCell ⟨H.f, 4, none⟩ (.int .u64 z)) { H with num := z } := Blk.store HH.out 4 _
  have hS2 := Lib.hid (((Only.refl (· = H.f) w).setCell (p := ⟨H.f, 4, none⟩) (.inl rfl) (.int .u64 z)))
  refine (goOn_goes hS (n := 2) rfl rfl).mono ?_
  rintro e w2 ⟨rfl, hB2, hO2⟩
  replace hB2 := Lib.hid hB2
  replace hO2 := Lib.hid hO2
  clear hS
  go_wp2_with fail
  go_ret
  exact ⟨rfl, hB2.out, hS2.out.trans hO2.out⟩
end
end Go.Proofs.YtpfpanfpjopcjaaGreat.Ta
/- Walks over layer 8 (table): a hold takes the lock. -/
namespace Go.Proofs.YtpfpanfpjopcjaaGreat.Ta
open Go Go.RowKit Hp K Fl Rw Hm Ar Mm Me
set_option maxRecDepth 100000

section
variable {w w' : World} {M : Mo} {H : Ho}
/-- Whether the lock is free, as Try has it. -/
theorem hol_cases (hM : MemAt w M) (ok : Okh M H) : (Lo.hol M.hs (lkn H.sum (tab M.ds H.num)) = -1 ∧ Lo.hol M.hs (lkn H.sum (tab M.ds H.num)) < 0) ∨ (Lo.hol M.hs (lkn H.sum (tab M.ds H.num)) ≠ -1 ∧ 0 ≤ Lo.hol M.hs (lkn H.sum (tab M.ds H.num))) := by
  have := (Lo.hol_bd hM.2.2.1.2.2.1 (lkn H.sum (tab M.ds H.num)))
  omega
set_option maxHeartbeats 2000000 in
theorem take_free (hM : MemAt w M) (hH : HoAt w H) (ok : Okh M H) (hf : Lo.hol M.hs (lkn H.sum (tab M.ds H.num)) < 0) :
    Calls Tryz.prog 115 #[ptr H.f, ptr M.m] w fun e w' => e = .returned (.bool false) ∧ MemAt w' { M with hs := M.hs.set (lkn H.sum (tab M.ds H.num)) H.worker } ∧
      HoAt w' { H with nx := 3, d := tab M.ds H.num, lock := lkn H.sum (tab M.ds H.num) } ∧ Only (fun x => mfoot M x ∨ x = H.f) w w' := by
  obtain ⟨c0, c1, c2, c3, c4, c5, c6, c7, c8⟩ := hH.hd
  have d1 := hM.hd.2.1
  have lM := hM.1.lt
  have lf := hH.lt
  have hL := Lib.hid (loaded_any hM hH ok.num)
  have hW := Lib.hid (fun w => writer_lk (d := tab M.ds H.num) ok.sum ok.dn w)
  have hk := lkn_bd (tab M.ds H.num) ok.sum.1
  have hT := Lib.hid (fun w' (hb : Below w.heap.size w w') nq => Lo.try_free ((hM.below hb).drewN nq).2.2.1 _ ok.lb H.worker ok.wk.1 ok.wk.2 hf)
  have HM := Lib.hid hM
  have HH := Lib.hid hH
  have bc : ∀ w', Below w.heap.size w w' → w'.cell? ⟨M.m, 1, none⟩ = some (ptr M.lg) ∧ w'.cell? ⟨H.f, 0, none⟩ = some (.int .i64 H.worker) ∧ w'.cell? ⟨H.f, 1, none⟩ = some (.int .u32 H.sum) := fun w' hb => by
    have h := bcell hb
    exact ⟨(h.1 _ 1 lM).trans d1, (h.1 _ 0 lf).trans c0, (h.1 _ 1 lf).trans c1⟩
  replace bc := Lib.hid bc
  unfold dv at hL
  clear hM hH ok hf c0 c1 c2 c3 c4 c5 c6 c7 c8 d1
  generalize hkk : lkn H.sum (tab M.ds H.num) = k at *
  generalize hdd : tab M.ds H.num = d at *
  replace hkk := Lib.hid hkk
  replace hdd := Lib.hid hdd
  go_enter Tryz.func115, Tryz.ntmps115
  go_wp2_with fail
  refine hL.out.mono ?_
  rintro e w1 ⟨rfl, hb1⟩
  have hsz := hb1.size
  obtain ⟨s1, s2, s3⟩ := bc.out w1 hb1
  replace hb1 := Lib.hid hb1
  have lM1 : M.m < w1.heap.size := by omega
  have lf1 : H.f < w1.heap.size := by omega
  clear hL
  go_wp2_with fail
  obtain ⟨b, hbb⟩ : ∃ b, b = w1.heap.size := ⟨_, rfl⟩
  rw [← hbb]
  have hB : Blk (w1.alloc (.cells #[.int .i64 d.1, .int .i64 d.2] 72)) b 72 #[.int .i64 d.1, .int .i64 d.2] := by rw [hbb]; exact Blk.made w1 _ _
  have hb2 := hb1.out.alloc (o := .cells #[.int .i64 d.1, .int .i64 d.2] 72) hsz
  generalize w1.alloc (.cells #[.int .i64 d.1, .int .i64 d.2] 72) = w2 at *
  replace hbb := Lib.hid hbb
  clear s1 s2 s3
  obtain ⟨s1, s2, s3⟩ := bc.out w2 hb2
  have k0 := hB.cell 0
  have k1 := hB.cell 1
  simp at k0 k1
  have hsz2 := hb2.size
  have lb := hB.lt
  replace hB := Lib.hid hB
  replace hb2 := Lib.hid hb2
  have dn := desc_n
  go_quiet ((go_at_call 131; exact Calls.quiet_of_same ((hW.out _).mono fun _ _ h => ⟨h.1, h.2.symm⟩)))
  obtain ⟨w3, hw3⟩ : ∃ w3, w3 = w2.drewN nq := ⟨_, rfl⟩
  have hB3 : Blk w3 b 72 #[.int .i64 d.1, .int .i64 d.2] := by rw [hw3]; exact hB.out
  have hb3 : Below w.heap.size w w3 := by rw [hw3]; exact hb2.out.trans ⟨rfl, rfl, rfl, Nat.le_refl _, fun _ _ => rfl⟩
  rw [← hw3]
  replace hw3 := Lib.hid hw3
  clear s1 s2 s3 k0 k1
  obtain ⟨s1, s2, s3⟩ := bc.out w3 hb3
  have hT3 := Lib.hid (hT.out w3 hb3 1)
  have hX3 := Lib.hid (fun w4 (hL : Lo.LocksAt w4 M.lg M.lb (M.hs.set k H.worker)) (hO : Only (Lo.foot M.lg M.lb) (w3.drewN 1) w4) => by
    have hO' : Only (Lo.foot M.lg M.lb) w3 w4 := ((Only.refl (Lo.foot M.lg M.lb) w3).drewN 1).trans hO
    have hM3 := HM.out.below hb3
    have hH3 := HH.out.below hb3
    exact (⟨hM3.locks hL hO', hH3.keep hM3 hO' foot_locks, Blk.only hB3 hO' (fun hx => (locks_ty hM3.2.2.1 hx).apart (blk_ty hB3) (by decide)), (Only.ofBelow hb3 (fun x => mfoot M x ∨ x = H.f)).trans (hO'.mono (fun x _ q => .inl (foot_locks _ q)))⟩ :
      MemAt w4 { M with hs := M.hs.set k H.worker } ∧ HoAt w4 H ∧ Blk w4 b 72 #[.int .i64 d.1, .int .i64 d.2] ∧ Only (fun x => mfoot M x ∨ x = H.f) w w4))
  replace hB3 := Lib.hid hB3
  replace hb3 := Lib.hid hb3
  clear hB hb2 hT hW
  go_wp2_with fail
  go_region_held3 (fun w' => w'.cell? ⟨M.m, 1, none⟩ = some (ptr M.lg) ∧ w'.cell? ⟨H.f, 0, none⟩ = some (.int .i64 H.worker)) (go_keep)
    (first
      | (go_at_call 118
         refine hT3.out.mono ?_
         rintro e w4 ⟨rfl, hL4, hO4⟩
         obtain ⟨hM4, hH4, hB4, hO4'⟩ := hX3.out w4 hL4 hO4
         have t1 := hM4.hd.2.1
         have t2 := hH4.hd.1
         have t5 := hH4.hd.2.2.2.2.2.1
         have t6 := hH4.hd.2.2.2.2.2.2.1
         have t7 := hH4.hd.2.2.2.2.2.2.2.1
         obtain ⟨_, _, _, y5, y6, y7, _⟩ := hH4.frz
         have k0 := hB4.cell 0
         have k1 := hB4.cell 1
         simp at t1 k0 k1
         replace hM4 := Lib.hid hM4
         replace hH4 := Lib.hid hH4
         replace hB4 := Lib.hid hB4
         replace hO4' := Lib.hid hO4'
         clear hL4 hO4))
  all_goals
    go_wp2_with fail
    have hS : HoAt (((w4.setCell ⟨H.f, 5, none⟩ (.int .i64 d.1)).setCell ⟨H.f, 6, none⟩ (.int .i64 d.2)).setCell ⟨H.f, 7, none⟩ (.int .i64 k)) { H with d := d, lock := k } := ((hH4.out.store 5 _).store 6 _).store 7 _
    have hOS := Lib.hid ((((hO4'.out.setCell (p := ⟨H.f, 5, none⟩) (.inl (.inr rfl)) (.int .i64 d.1)).setCell (p := ⟨H.f, 6, none⟩) (.inl (.inr rfl)) (.int .i64 d.2))).setCell (p := ⟨H.f, 7, none⟩) (.inl (.inr rfl)) (.int .i64 k))
    have hMS := hM4.out.only (((((Only.refl (· = H.f) w4).setCell (p := ⟨H.f, 5, none⟩) (.inl rfl) (.int .i64 d.1)).setCell (p := ⟨H.f, 6, none⟩) (.inl rfl) (.int .i64 d.2))).setCell (p := ⟨H.f, 7, none⟩) (.inl rfl) (.int .i64 k)) (fun x hx q => by subst q; exact hH4.out.far hM4.out hx)
    refine (goOn_goes hS (n := 3) rfl rfl).mono ?_
    rintro e w5 ⟨rfl, hH5, hO5⟩
    have hM5 := Lib.hid (hMS.only hO5 (fun x hx q => by subst q; exact hS.far hMS hx))
    replace hH5 := Lib.hid hH5
    have hO5' := Lib.hid (hOS.out.trans (hO5.mono (fun x _ q => .inr q)))
    clear hS hMS hO5 t1 t2 t5 t6 t7 y5 y6 y7 k0 k1 s1 s2 s3
    go_wp2_with fail
    go_ret
    exact ⟨rfl, hM5.out, hH5.out, hO5'.out⟩
set_option maxHeartbeats 2000000 in
theorem take_held (hM : MemAt w M) (hH : HoAt w H) (ok : Okh M H) (hf : 0 ≤ Lo.hol M.hs (lkn H.sum (tab M.ds H.num))) :
    Calls Tryz.prog 115 #[ptr H.f, ptr M.m] w fun e w' => e = .returned (.bool false) ∧ Below w.heap.size w w' := by
  obtain ⟨c0, c1, c2, c3, c4, c5, c6, c7, c8⟩ := hH.hd
  have d1 := hM.hd.2.1
  have lM := hM.1.lt
  have lf := hH.lt
  have hL := Lib.hid (loaded_any hM hH ok.num)
  have hW := Lib.hid (fun w => writer_lk (d := tab M.ds H.num) ok.sum ok.dn w)
  have hk := lkn_bd (tab M.ds H.num) ok.sum.1
  have hT := Lib.hid (fun w' (hb : Below w.heap.size w w') nq => Lo.try_held ((hM.below hb).drewN nq).2.2.1 _ ok.lb H.worker ok.wk.1 hf)
  have bc : ∀ w', Below w.heap.size w w' → w'.cell? ⟨M.m, 1, none⟩ = some (ptr M.lg) ∧ w'.cell? ⟨H.f, 0, none⟩ = some (.int .i64 H.worker) ∧ w'.cell? ⟨H.f, 1, none⟩ = some (.int .u32 H.sum) := fun w' hb => by
    have h := bcell hb
    exact ⟨(h.1 _ 1 lM).trans d1, (h.1 _ 0 lf).trans c0, (h.1 _ 1 lf).trans c1⟩
  replace bc := Lib.hid bc
  unfold dv at hL
  clear hM hH ok hf c0 c1 c2 c3 c4 c5 c6 c7 c8 d1
  generalize lkn H.sum (tab M.ds H.num) = k at *
  generalize tab M.ds H.num = d at *
  go_enter Tryz.func115, Tryz.ntmps115
  go_wp2_with fail
  refine hL.out.mono ?_
  rintro e w1 ⟨rfl, hb1⟩
  have hsz := hb1.size
  obtain ⟨s1, s2, s3⟩ := bc.out w1 hb1
  replace hb1 := Lib.hid hb1
  have lM1 : M.m < w1.heap.size := by omega
  have lf1 : H.f < w1.heap.size := by omega
  clear hL
  go_wp2_with fail
  obtain ⟨b, hbb⟩ : ∃ b, b = w1.heap.size := ⟨_, rfl⟩
  rw [← hbb]
  have hB : Blk (w1.alloc (.cells #[.int .i64 d.1, .int .i64 d.2] 72)) b 72 #[.int .i64 d.1, .int .i64 d.2] := by rw [hbb]; exact Blk.made w1 _ _
  have hb2 := hb1.out.alloc (o := .cells #[.int .i64 d.1, .int .i64 d.2] 72) hsz
  generalize w1.alloc (.cells #[.int .i64 d.1, .int .i64 d.2] 72) = w2 at *
  replace hbb := Lib.hid hbb
  clear s1 s2 s3
  obtain ⟨s1, s2, s3⟩ := bc.out w2 hb2
  have k0 := hB.cell 0
  have k1 := hB.cell 1
  simp at k0 k1
  have hsz2 := hb2.size
  have lb := hB.lt
  replace hb2 := Lib.hid hb2
  go_quiet ((go_at_call 131; exact Calls.quiet_of_same ((hW.out _).mono fun _ _ h => ⟨h.1, h.2.symm⟩)))
  obtain ⟨w3, hw3⟩ : ∃ w3, w3 = w2.drewN nq := ⟨_, rfl⟩
  have hb3 : Below w.heap.size w w3 := by rw [hw3]; exact hb2.out.trans ⟨rfl, rfl, rfl, Nat.le_refl _, fun _ _ => rfl⟩
  rw [← hw3]
  replace hw3 := Lib.hid hw3
  clear s1 s2 s3 k0 k1 hB
  obtain ⟨s1, s2, s3⟩ := bc.out w3 hb3
  have hT3 := Lib.hid (hT.out w3 hb3)
  replace hb3 := Lib.hid hb3
  clear hb2 hT hW
  go_wp2_with fail
  go_quiet ((go_at_call 118; exact Calls.quiet_of_same (hT3.out _)))
  have hb4 := Lib.hid (hb3.out.trans (show Below w.heap.size w3 (w3.drewN nq) from ⟨rfl, rfl, rfl, Nat.le_refl _, fun _ _ => rfl⟩))
  go_wp2_with fail
  go_ret
  exact ⟨rfl, hb4.out⟩
end
end Go.Proofs.YtpfpanfpjopcjaaGreat.Ta
/- Walks over layer 8 (table): a hold's other steps; Ready, Step, Desc, Lock, Drop. -/
namespace Go.Proofs.YtpfpanfpjopcjaaGreat.Ta
open Go Go.RowKit Hp K Fl Rw Hm Ar Mm Me
set_option maxRecDepth 100000

section
variable {w w' : World} {M : Mo} {H : Ho}
theorem again_same (hM : MemAt w M) (hH : HoAt w H) (hx : 1 < M.xs.length) (he : Cl.nth M.xs 1 = H.num) :
    Calls Tryz.prog 133 #[ptr H.f, ptr M.m] w fun e w' => e = .returned (.bool true) ∧ HoAt w' { H with nx := 5, holds := true } ∧ Only (· = H.f) w w' := by
  have hL := Lib.hid (Cl.load_in hM.2.1 1 hx)
  rw [he] at hL
  have c4 := hH.hd.2.2.2.2.1
  have c8 := hH.hd.2.2.2.2.2.2.2.2
  have z8 := hH.frz.2.2.2.2.2.2
  have d0 := hM.hd.1
  have HH := Lib.hid hH
  clear hM hH he
  go_enter Tryz.func133, Tryz.ntmps133
  go_wp2_with (go_at_call 75; refine hL.out.mono ?_; rintro e w' ⟨rfl, hw⟩; obtain rfl : w = w' := hw.symm)
  have hS : HoAt (w.setCell ⟨H.f, 8, none⟩ (.bool true)) { H with holds := true } := Blk.store HH.out 8 _
  have hS2 := Lib.hid (((Only.refl (· = H.f) w).setCell (p := ⟨H.f, 8, none⟩) (.inl rfl) (.bool true)))
  refine (goOn_goes hS (n := 5) rfl rfl).mono ?_
  rintro e w2 ⟨rfl, hB2, hO2⟩
  replace hB2 := Lib.hid hB2
  replace hO2 := Lib.hid hO2
  clear hS
  go_wp2_with fail
  go_ret
  exact ⟨rfl, hB2.out, hS2.out.trans hO2.out⟩
theorem again_other (hM : MemAt w M) (hH : HoAt w H) (hx : 1 < M.xs.length) (he : Cl.nth M.xs 1 ≠ H.num) :
    Calls Tryz.prog 133 #[ptr H.f, ptr M.m] w fun e w' => e = .returned (.bool false) ∧ HoAt w' { H with nx := 4 } ∧ Only (· = H.f) w w' := by
  have hL := Lib.hid (Cl.load_in hM.2.1 1 hx)
  have c4 := hH.hd.2.2.2.2.1
  have d0 := hM.hd.1
  have HH := Lib.hid hH
  have hne : (Cl.nth M.xs 1 != (H.num : Int)) = true := by simpa using he
  clear hM hH he
  generalize Cl.nth M.xs 1 = z at *
  go_enter Tryz.func133, Tryz.ntmps133
  go_wp2_with (go_at_call 75; refine hL.out.mono ?_; rintro e w' ⟨rfl, hw⟩; obtain rfl : w = w' := hw.symm)
  refine (goOn_goes HH.out (n := 4) rfl rfl).mono ?_
  rintro e w2 ⟨rfl, hB2, hO2⟩
  replace hB2 := Lib.hid hB2
  replace hO2 := Lib.hid hO2
  go_wp2_with fail
  go_ret
  exact ⟨rfl, hB2.out, hO2.out⟩
set_option maxHeartbeats 1000000 in
theorem free_any (hM : MemAt w M) (hH : HoAt w H) (ok : Okh M H) (hl : H.lock < M.hs.length) (hh : Lo.hol M.hs H.lock = H.worker) :
    Calls Tryz.prog 141 #[ptr H.f, ptr M.m] w fun e w' => e = .returned (.bool false) ∧ MemAt w' { M with hs := M.hs.set H.lock (-1) } ∧ HoAt w' { H with nx := 1 } ∧ Only (fun x => mfoot M x ∨ x = H.f) w w' := by
  have hT := Lib.hid (fun nq => Lo.free_own (hM.drewN nq).2.2.1 H.lock hl H.worker ok.wk.1 hh)
  have c0 := hH.hd.1
  have c7 := hH.hd.2.2.2.2.2.2.2.1
  have d1 := hM.hd.2.1
  have HM := Lib.hid hM
  have HH := Lib.hid hH
  have lM := hM.1.lt
  have lf := hH.lt
  clear hM hH ok hl hh
  go_enter Tryz.func141, Tryz.ntmps141
  go_wp2_with fail
  go_region_held3 (fun w' => w'.cell? ⟨M.m, 1, none⟩ = some (ptr M.lg) ∧ w'.cell? ⟨H.f, 0, none⟩ = some (.int .i64 H.worker) ∧ w'.cell? ⟨H.f, 7, none⟩ = some (.int .i64 H.lock)) (go_keep)
    (first
      | (go_at_call 94
         refine (hT.out 1).mono ?_
         rintro e w2 ⟨rfl, hL2, hO2⟩
         have hO2' := ((Only.refl (Lo.foot M.lg M.lb) w).drewN 1).trans hO2
         have hM2 := HM.out.locks hL2 hO2'
         have hH2 := HH.out.keep HM.out hO2' foot_locks
         have s1 := hM2.hd.2.1
         have s2 := hH2.hd.1
         have s3 := hH2.hd.2.2.2.2.2.2.2.1
         simp at s1
         replace hO2' := Lib.hid hO2'
         replace hM2 := Lib.hid hM2
         replace hH2 := Lib.hid hH2
         clear hL2 hO2))
  all_goals
    go_wp2_with fail
    refine (goOn_goes hH2.out (n := 1) rfl rfl).mono ?_
    rintro e w3 ⟨rfl, hB3, hO3⟩
    have hM3 := Lib.hid (hM2.out.only hO3 (fun x hx q => by subst q; exact hH2.out.far hM2.out hx))
    have hOO := Lib.hid ((hO2'.out.mono (fun x _ q => (.inl (foot_locks _ q) : mfoot M x ∨ x = H.f))).trans (hO3.mono (fun x _ q => .inr q)))
    replace hB3 := Lib.hid hB3
    clear hO3 s1 s2 s3
    go_wp2_with fail
    go_ret
    exact ⟨rfl, hM3.out, hB3.out, hOO.out⟩
set_option maxHeartbeats 1000000 in
theorem drop_yes (hM : MemAt w M) (hH : HoAt w H) (ok : Okh M H) (hl : H.lock < M.hs.length) (hh : Lo.hol M.hs H.lock = H.worker) (hs : H.holds = true) :
    Calls Tryz.prog 60 #[ptr H.f, ptr M.m] w fun e w' => e = .returned (.bool true) ∧ MemAt w' { M with hs := M.hs.set H.lock (-1) } ∧ HoAt w' { H with holds := false } ∧ Only (fun x => mfoot M x ∨ x = H.f) w w' := by
  have c0 := hH.hd.1
  have c7 := hH.hd.2.2.2.2.2.2.2.1
  have c8 := hH.hd.2.2.2.2.2.2.2.2
  rw [hs] at c8
  have z8 := hH.frz.2.2.2.2.2.2
  have d1 := hM.hd.2.1
  have lM := hM.1.lt
  have lf := hH.lt
  have hS : HoAt (w.setCell ⟨H.f, 8, none⟩ (.bool false)) { H with holds := false } := Blk.store hH 8 _
  have hOS := (Only.refl (· = H.f) w).setCell (p := ⟨H.f, 8, none⟩) (.inl rfl) (.bool false)
  have hMS := hM.only hOS (fun x hx q => by subst q; exact hH.far hM hx)
  replace hOS := Lib.hid hOS
  have hT := Lib.hid (fun nq => Lo.free_own (hMS.drewN nq).2.2.1 H.lock hl H.worker ok.wk.1 hh)
  have hne : M.m ≠ H.f := fun e => hH.far hM (.inl e.symm)
  replace hMS := Lib.hid hMS
  replace hS := Lib.hid hS
  clear hM hH ok hl hh hs
  go_enter Tryz.func60, Tryz.ntmps60
  go_upto_region 4 with (fail)
  clear c0 c7 c8 z8 d1 hne
  generalize w.setCell ⟨H.f, 8, none⟩ (.bool false) = w1 at *
  have c0 := hS.out.hd.1
  have c7 := hS.out.hd.2.2.2.2.2.2.2.1
  have d1 := hMS.out.hd.2.1
  simp only at c0 c7
  have hlm := hMS.out.1.lt
  have hlf : H.f < w1.heap.size := hS.out.lt
  go_wp2_with fail
  go_region_held3 (fun w' => w'.cell? ⟨M.m, 1, none⟩ = some (ptr M.lg) ∧ w'.cell? ⟨H.f, 0, none⟩ = some (.int .i64 H.worker) ∧ w'.cell? ⟨H.f, 7, none⟩ = some (.int .i64 H.lock)) (go_keep)
    (first
      | (go_at_call 94
         refine (hT.out 1).mono ?_
         rintro e w2 ⟨rfl, hL2, hO2⟩
         have hO2' := ((Only.refl (Lo.foot M.lg M.lb) w1).drewN 1).trans hO2
         have hM2 := hMS.out.locks hL2 hO2'
         have hH2 := hS.out.keep hMS.out hO2' foot_locks
         have s1 := hM2.hd.2.1
         have s2 := hH2.hd.1
         have s3 := hH2.hd.2.2.2.2.2.2.2.1
         simp at s1 s2 s3
         replace hO2' := Lib.hid hO2'
         replace hM2 := Lib.hid hM2
         replace hH2 := Lib.hid hH2
         clear hL2 hO2))
  all_goals
    have hOO := Lib.hid ((hOS.out.mono (fun x _ q => (.inr q : mfoot M x ∨ x = H.f))).trans (hO2'.out.mono (fun x _ q => .inl (foot_locks _ q))))
    go_wp2_with fail
    go_ret
    exact ⟨rfl, hM2.out, hH2.out, hOO.out⟩
theorem drop_no (hH : HoAt w H) (hs : H.holds = false) (m : Value) : Calls Tryz.prog 60 #[ptr H.f, m] w fun e w' => e = .returned (.bool false) ∧ w' = w := by
  have c8 := hH.hd.2.2.2.2.2.2.2.2
  rw [hs] at c8
  clear hH
  go_enter Tryz.func60, Tryz.ntmps60
  go_wp2
  go_ret
  exact ⟨rfl, rfl⟩
theorem lock_of (hH : HoAt w H) : Calls Tryz.prog 57 #[ptr H.f] w fun e w' => e = .returned (.int .i64 (if H.holds = true then (H.lock : Int) else -1)) ∧ w' = w := by
  have c7 := hH.hd.2.2.2.2.2.2.2.1
  have c8 := hH.hd.2.2.2.2.2.2.2.2
  clear hH
  generalize H.lock = k at *
  cases hs : H.holds with
  | true =>
    rw [hs] at c8
    go_enter Tryz.func57, Tryz.ntmps57
    go_wp2
    go_ret
    exact ⟨rfl, rfl⟩
  | false =>
    rw [hs] at c8
    go_enter Tryz.func57, Tryz.ntmps57
    go_wp2
    go_ret
    exact ⟨rfl, rfl⟩
theorem desc_of (hH : HoAt w H) : Calls Tryz.prog 58 #[ptr H.f] w fun e w' => e = .returned (dv (if H.holds = true then H.d else (0, 0))) ∧ Below w.heap.size w w' := by
  have c5 := hH.hd.2.2.2.2.2.1
  have c6 := hH.hd.2.2.2.2.2.2.1
  have c8 := hH.hd.2.2.2.2.2.2.2.2
  have lf := hH.lt
  clear hH
  generalize H.d = d at *
  cases hs : H.holds with
  | true =>
    rw [hs] at c8
    go_enter Tryz.func58, Tryz.ntmps58
    go_wp2
    exact bodyPost_ret (v := dv d) (by simp [results, Tryz.results58, go_sem, dv]) rfl ⟨rfl, by first | exact ((Below.refl _ _).alloc (Nat.le_refl _) _) | exact (((Below.refl _ _).alloc (Nat.le_refl _) _).setCell (by simp) _).setCell (by simp) _⟩
  | false =>
    rw [hs] at c8
    go_enter Tryz.func58, Tryz.ntmps58
    go_wp2
    exact bodyPost_ret (v := dv (0, 0)) (by simp [results, Tryz.results58, go_sem, dv]) rfl ⟨rfl, by first | exact ((Below.refl _ _).alloc (Nat.le_refl _) _) | exact (((Below.refl _ _).alloc (Nat.le_refl _) _).setCell (by simp) _).setCell (by simp) _⟩
/-! ### what comes next -/
theorem enters_mt (args : Array Value) (w : World) : (callFunc 114 args).run Tryz.prog w = .ok (.enter 114 args) w := by kernel_rfl
theorem enters_al (args : Array Value) (w : World) : (callFunc 86 args).run Tryz.prog w = .ok (.enter 86 args) w := by kernel_rfl
theorem enters_do (args : Array Value) (w : World) : (callFunc 142 args).run Tryz.prog w = .ok (.enter 142 args) w := by kernel_rfl
theorem enters_lo (args : Array Value) (w : World) : (callFunc 87 args).run Tryz.prog w = .ok (.enter 87 args) w := by kernel_rfl
theorem enters_ta (args : Array Value) (w : World) : (callFunc 115 args).run Tryz.prog w = .ok (.enter 115 args) w := by kernel_rfl
theorem enters_la (args : Array Value) (w : World) : (callFunc 133 args).run Tryz.prog w = .ok (.enter 133 args) w := by kernel_rfl
theorem enters_fr (args : Array Value) (w : World) : (callFunc 141 args).run Tryz.prog w = .ok (.enter 141 args) w := by kernel_rfl
/-- Step: what the function kept does. -/
theorem step_fm {F f : Nat} {cv m : Value} {c : Bool} {P : World → Prop} (c3 : w.cell? ⟨f, 3, none⟩ = some (fnm F cv)) (eF : ∀ args w, (callFunc F args).run Tryz.prog w = .ok (.enter F args) w)
    (hF : Calls Tryz.prog F #[cv, m] w fun e w' => e = .returned (.bool c) ∧ P w') : Calls Tryz.prog 97 #[ptr f, m] w fun e w' => e = .returned (.bool c) ∧ P w' := by
  replace hF := Lib.hid hF
  go_enter Tryz.func97, Tryz.ntmps97
  go_wp2_with fail
  refine hF.out.mono ?_
  rintro e w' ⟨rfl, hPw⟩
  replace hPw := Lib.hid hPw
  clear c3
  go_wp2_with fail
  go_ret
  exact ⟨rfl, hPw.out⟩
theorem step_f0 {F f : Nat} {m : Value} {c : Bool} {P : World → Prop} (c3 : w.cell? ⟨f, 3, none⟩ = some (fn0 F)) (eF : ∀ args w, (callFunc F args).run Tryz.prog w = .ok (.enter F args) w)
    (hF : Calls Tryz.prog F #[m] w fun e w' => e = .returned (.bool c) ∧ P w') : Calls Tryz.prog 97 #[ptr f, m] w fun e w' => e = .returned (.bool c) ∧ P w' := by
  replace hF := Lib.hid hF
  go_enter Tryz.func97, Tryz.ntmps97
  go_wp2_with fail
  refine hF.out.mono ?_
  rintro e w' ⟨rfl, hPw⟩
  replace hPw := Lib.hid hPw
  clear c3
  go_wp2_with fail
  go_ret
  exact ⟨rfl, hPw.out⟩
theorem ready_fm {F f : Nat} {cv m : Value} {c : Bool} {P : World → Prop} (c3 : w.cell? ⟨f, 2, none⟩ = some (fnm F cv)) (eF : ∀ args w, (callFunc F args).run Tryz.prog w = .ok (.enter F args) w)
    (hF : Calls Tryz.prog F #[cv, m] w fun e w' => e = .returned (.bool c) ∧ P w') : Calls Tryz.prog 69 #[ptr f, m] w fun e w' => e = .returned (.bool c) ∧ P w' := by
  replace hF := Lib.hid hF
  go_enter Tryz.func69, Tryz.ntmps69
  go_wp2_with fail
  refine hF.out.mono ?_
  rintro e w' ⟨rfl, hPw⟩
  replace hPw := Lib.hid hPw
  clear c3
  go_wp2_with fail
  go_ret
  exact ⟨rfl, hPw.out⟩
theorem ready_f0 {F f : Nat} {m : Value} {c : Bool} {P : World → Prop} (c3 : w.cell? ⟨f, 2, none⟩ = some (fn0 F)) (eF : ∀ args w, (callFunc F args).run Tryz.prog w = .ok (.enter F args) w)
    (hF : Calls Tryz.prog F #[m] w fun e w' => e = .returned (.bool c) ∧ P w') : Calls Tryz.prog 69 #[ptr f, m] w fun e w' => e = .returned (.bool c) ∧ P w' := by
  replace hF := Lib.hid hF
  go_enter Tryz.func69, Tryz.ntmps69
  go_wp2_with fail
  refine hF.out.mono ?_
  rintro e w' ⟨rfl, hPw⟩
  replace hPw := Lib.hid hPw
  clear c3
  go_wp2_with fail
  go_ret
  exact ⟨rfl, hPw.out⟩

/-! ### a step, whole -/
/-- Whether a hold is ready. -/
def hready (M : Mo) (H : Ho) : Bool := if H.nx = 2 then freeB M H else true
/-- What a step comes to, of a hold that is ready. -/
def hstep (M : Mo) (H : Ho) : Mo × Ho :=
  if H.nx = 1 then (M, { H with nx := 2, num := (Cl.nth M.xs 1).toNat })
  else if H.nx = 2 then ({ M with hs := M.hs.set (lkn H.sum (tab M.ds H.num)) H.worker }, { H with nx := 3, d := tab M.ds H.num, lock := lkn H.sum (tab M.ds H.num) })
  else if H.nx = 3 then (if Cl.nth M.xs 1 = H.num then (M, { H with nx := 5, holds := true }) else (M, { H with nx := 4 }))
  else if H.nx = 4 then ({ M with hs := M.hs.set H.lock (-1) }, { H with nx := 1 })
  else (M, H)
def hdone (M : Mo) (H : Ho) : Bool := decide (H.nx = 3 ∧ Cl.nth M.xs 1 = H.num ∨ 5 ≤ H.nx)
/-- The lock that a hold took is its own. -/
def Own (M : Mo) (H : Ho) : Prop := (H.nx = 3 ∨ H.nx = 4 ∨ H.holds = true) → H.lock < M.hs.length ∧ Lo.hol M.hs H.lock = H.worker
theorem hold_ready (hM : MemAt w M) (hH : HoAt w H) (ok : Okh M H) :
    Calls Tryz.prog 69 #[ptr H.f, ptr M.m] w fun e w' => e = .returned (.bool (hready M H)) ∧ Below w.heap.size w w' := by
  have c2 := hH.hd.2.2.1
  unfold rdv at c2
  unfold hready
  split
  · rename_i h
    rw [if_pos h] at c2
    exact ready_fm c2 enters_mt (mayTake_any hM hH ok)
  · rename_i h
    rw [if_neg h] at c2
    exact ready_f0 c2 enters_al ((always_any _ w).mono fun e w' q => ⟨q.1, q.2 ▸ Below.refl _ _⟩)
theorem hold_step (hM : MemAt w M) (hH : HoAt w H) (ok : Okh M H) (ow : Own M H) (h1 : 1 ≤ H.nx) (hr : hready M H = true) :
    Calls Tryz.prog 97 #[ptr H.f, ptr M.m] w fun e w' => e = .returned (.bool (hdone M H)) ∧ MemAt w' (hstep M H).1 ∧ HoAt w' (hstep M H).2 ∧ Only (fun x => mfoot M x ∨ x = H.f) w w' := by
  have c3 := hH.hd.2.2.2.1
  unfold nxv at c3
  have up : ∀ w', Only (· = H.f) w w' → MemAt w' M ∧ Only (fun x => mfoot M x ∨ x = H.f) w w' := fun w' ho => ⟨hM.only ho (fun x hx q => by subst q; exact hH.far hM hx), ho.mono (fun x _ q => .inr q)⟩
  by_cases e1 : H.nx = 1
  · have hd : hdone M H = false := by unfold hdone; simp; omega
    have hs : hstep M H = (M, { H with nx := 2, num := (Cl.nth M.xs 1).toNat }) := by unfold hstep; rw [if_pos e1]
    rw [if_pos e1] at c3
    rw [hd, hs]
    exact step_fm c3 enters_lo ((load_any hM hH ok.xl).mono fun e w' q => ⟨q.1, (up w' q.2.2).1, q.2.1, (up w' q.2.2).2⟩)
  · rw [if_neg e1] at c3
    by_cases e2 : H.nx = 2
    · have hd : hdone M H = false := by unfold hdone; simp; omega
      have hs : hstep M H = ({ M with hs := M.hs.set (lkn H.sum (tab M.ds H.num)) H.worker }, { H with nx := 3, d := tab M.ds H.num, lock := lkn H.sum (tab M.ds H.num) }) := by unfold hstep; rw [if_neg e1, if_pos e2]
      rw [if_pos e2] at c3
      rw [hd, hs]
      refine step_fm c3 enters_ta (take_free hM hH ok ?_)
      unfold hready at hr
      rw [if_pos e2] at hr
      unfold freeB at hr
      have := of_decide_eq_true hr
      omega
    · rw [if_neg e2] at c3
      by_cases e3 : H.nx = 3
      · rw [if_pos e3] at c3
        by_cases he : Cl.nth M.xs 1 = H.num
        · have hd : hdone M H = true := by unfold hdone; simp [e3, he]
          have hs : hstep M H = (M, { H with nx := 5, holds := true }) := by unfold hstep; rw [if_neg e1, if_neg e2, if_pos e3, if_pos he]
          rw [hd, hs]
          exact step_fm c3 enters_la ((again_same hM hH ok.xl he).mono fun e w' q => ⟨q.1, (up w' q.2.2).1, q.2.1, (up w' q.2.2).2⟩)
        · have hd : hdone M H = false := by unfold hdone; simp [e3, he]
          have hs : hstep M H = (M, { H with nx := 4 }) := by unfold hstep; rw [if_neg e1, if_neg e2, if_pos e3, if_neg he]
          rw [hd, hs]
          exact step_fm c3 enters_la ((again_other hM hH ok.xl he).mono fun e w' q => ⟨q.1, (up w' q.2.2).1, q.2.1, (up w' q.2.2).2⟩)
      · rw [if_neg e3] at c3
        by_cases e4 : H.nx = 4
        · have hd : hdone M H = false := by unfold hdone; simp; omega
          have hs : hstep M H = ({ M with hs := M.hs.set H.lock (-1) }, { H with nx := 1 }) := by unfold hstep; rw [if_neg e1, if_neg e2, if_neg e3, if_pos e4]
          rw [if_pos e4] at c3
          rw [hd, hs]
          obtain ⟨o1, o2⟩ := ow (.inr (.inl e4))
          exact step_fm c3 enters_fr (free_any hM hH ok o1 o2)
        · have hd : hdone M H = true := by unfold hdone; simp; omega
          have hs : hstep M H = (M, H) := by unfold hstep; rw [if_neg e1, if_neg e2, if_neg e3, if_neg e4]
          rw [if_neg e4] at c3
          rw [hd, hs]
          exact step_f0 c3 enters_do ((done_any _ w).mono fun e w' q => ⟨q.1, by rw [q.2]; exact ⟨hM, hH, Only.refl _ _⟩⟩)
end
end Go.Proofs.YtpfpanfpjopcjaaGreat.Ta
/- Layer 8 (table): a hold behind mem.Finish; a hold's step in the document's words; the document's example. -/
namespace Go.Proofs.YtpfpanfpjopcjaaGreat.Ta
open Go Go.RowKit Hp K Fl Rw Hm Ar Mm Me
set_option maxRecDepth 100000

theorem mrH (a : Addr) (w : World) (f : Nat) : (method (f + 1) 117 (.pointer (some a)) "Ready").run Tryz.prog w = .ok (69, .pointer (some a)) w := by kernel_rfl
theorem msH (a : Addr) (w : World) (f : Nat) : (method (f + 1) 117 (.pointer (some a)) "Step").run Tryz.prog w = .ok (97, .pointer (some a)) w := by kernel_rfl
theorem erH (args : Array Value) (w : World) : (callFunc 69 args).run Tryz.prog w = .ok (.enter 69 args) w := by kernel_rfl
theorem esH (args : Array Value) (w : World) : (callFunc 97 args).run Tryz.prog w = .ok (.enter 97 args) w := by kernel_rfl

/-- Lists alone: what a hold's steps do to the holders and to it. -/
def lready (ds : List (Nat × Nat)) (s : List Int × Ho) : Bool := if s.2.nx = 2 then decide (Lo.hol s.1 (lkn s.2.sum (tab ds s.2.num)) = -1) else true
def lstep (xs : List Int) (ds : List (Nat × Nat)) (s : List Int × Ho) : List Int × Ho :=
  if s.2.nx = 1 then (s.1, { s.2 with nx := 2, num := (Cl.nth xs 1).toNat })
  else if s.2.nx = 2 then (s.1.set (lkn s.2.sum (tab ds s.2.num)) s.2.worker, { s.2 with nx := 3, d := tab ds s.2.num, lock := lkn s.2.sum (tab ds s.2.num) })
  else if s.2.nx = 3 then (if Cl.nth xs 1 = s.2.num then (s.1, { s.2 with nx := 5, holds := true }) else (s.1, { s.2 with nx := 4 }))
  else if s.2.nx = 4 then (s.1.set s.2.lock (-1), { s.2 with nx := 1 })
  else s
def ldone (xs : List Int) (s : List Int × Ho) : Bool := decide (s.2.nx = 3 ∧ Cl.nth xs 1 = s.2.num ∨ 5 ≤ s.2.nx)
theorem hready_eq (M : Mo) (H : Ho) : hready M H = lready M.ds (M.hs, H) := rfl
theorem hdone_eq (M : Mo) (H : Ho) : hdone M H = ldone M.xs (M.hs, H) := rfl
theorem hstep_eq (M : Mo) (H : Ho) : hstep M H = ({ M with hs := (lstep M.xs M.ds (M.hs, H)).1 }, (lstep M.xs M.ds (M.hs, H)).2) := by
  unfold hstep lstep
  by_cases e1 : H.nx = 1
  · simp [e1]
  · by_cases e2 : H.nx = 2
    · simp [e2]
    · by_cases e3 : H.nx = 3
      · by_cases he : Cl.nth M.xs 1 = H.num <;> simp [e3, he]
      · by_cases e4 : H.nx = 4
        · simp [e4]
        · simp [e1, e2, e3, e4]
theorem hol_set {hs : List Int} {j : Nat} (hj : j < hs.length) (v : Int) (i : Nat) : Lo.hol (hs.set j v) i = if i = j then v else Lo.hol hs i := by
  unfold Lo.hol List.getD
  rw [List.getElem?_set]
  by_cases e : j = i
  · subst e; simp [hj]
  · rw [if_neg e, if_neg (fun q => e q.symm)]
/-- A hold's steps, of a lasting table: nothing else asked. -/
structure Okl (xs : List Int) (ds : List (Nat × Nat)) (s : List Int × Ho) : Prop where
  sum : 0 ≤ s.2.sum ∧ s.2.sum < 4294967296
  wk : 0 ≤ s.2.worker ∧ s.2.worker ≤ 9223372036854775807
  hl : 4 < s.1.length
  xl : 1 < xs.length
  num : s.2.num ≤ 18446744073709551615
  x1 : 0 ≤ Cl.nth xs 1 ∧ Cl.nth xs 1 ≤ 18446744073709551615
  dn : ∀ i, (tab ds i).1 ≤ 65536
  nx : 1 ≤ s.2.nx
  own : (s.2.nx = 3 ∨ s.2.nx = 4 ∨ s.2.holds = true) → s.2.lock < s.1.length ∧ Lo.hol s.1 s.2.lock = s.2.worker
  hol : s.2.holds = true → 5 ≤ s.2.nx
section
variable {w w' : World} {M : Mo} {H : Ho}
theorem Okl.step {xs : List Int} {ds : List (Nat × Nat)} {s : List Int × Ho} (h : Okl xs ds s) (hr : lready ds s = true) (hd : ldone xs s = false) : Okl xs ds (lstep xs ds s) := by
  obtain ⟨hs, H⟩ := s
  obtain ⟨h1, h2, h3, h4, h5, h6, h7, h8, h9, h10⟩ := h
  simp only at h1 h2 h3 h4 h5 h6 h7 h8 h9 h10
  unfold lstep
  unfold ldone at hd
  simp only at hd ⊢
  by_cases e1 : H.nx = 1
  · rw [if_pos e1]
    exact ⟨h1, h2, h3, h4, by simp only; omega, h6, h7, by simp, by
      rintro (q | q | q)
      · simp at q
      · simp at q
      · have := h10 q; omega, fun q => by have := h10 q; omega⟩
  · by_cases e2 : H.nx = 2
    · rw [if_neg e1, if_pos e2]
      have hk := lkn_bd (tab ds H.num) h1.1
      refine ⟨h1, h2, by simpa using h3, h4, h5, h6, h7, by simp, fun _ => ⟨by simp; omega, ?_⟩, fun q => by have := h10 q; omega⟩
      rw [hol_set (by omega), if_pos rfl]
    · by_cases e3 : H.nx = 3
      · by_cases he : Cl.nth xs 1 = H.num
        · simp [e3, he] at hd
        · rw [if_neg e1, if_neg e2, if_pos e3, if_neg he]
          refine ⟨h1, h2, h3, h4, h5, h6, h7, by simp, fun _ => h9 (.inl e3), fun q => by have := h10 q; omega⟩
      · by_cases e4 : H.nx = 4
        · rw [if_neg e1, if_neg e2, if_neg e3, if_pos e4]
          refine ⟨h1, h2, by simpa using h3, h4, h5, h6, h7, by simp, ?_, fun q => by have := h10 q; omega⟩
          rintro (q | q | q)
          · simp at q
          · simp at q
          · have := h10 q; omega
        · simp at hd; omega
theorem Okl.okh {s : List Int × Ho} (h : Okl M.xs M.ds s) : Okh { M with hs := s.1 } s.2 := ⟨h.sum, h.wk, h.hl, h.xl, h.num, h.dn _⟩
def InvT (w0 : World) (M : Mo) (s : List Int × Ho) (w : World) : Prop := MemAt w { M with hs := s.1 } ∧ HoAt w s.2 ∧ s.2.f = H.f ∧ Only (fun x => mfoot M x ∨ x = H.f) w0 w
theorem lstep_f {xs : List Int} {ds : List (Nat × Nat)} (s : List Int × Ho) : (lstep xs ds s).2.f = s.2.f := by
  unfold lstep
  split
  · rfl
  split
  · rfl
  split
  · split <;> rfl
  split <;> rfl
theorem finish_hold (hM : MemAt w M) (hH : HoAt w H) (ok : Okl M.xs M.ds (M.hs, H)) (K : Nat) (hK : K ≤ 1000000) :
    Calls Tryz.prog 16 #[ptr M.m, .iface 117 (ptr H.f), .int .i64 K] w fun e w' => e = .returned (.tuple #[.int .i64 (fin (lready M.ds) (lstep M.xs M.ds) (ldone M.xs) K (M.hs, H)).1, .bool (fin (lready M.ds) (lstep M.xs M.ds) (ldone M.xs) K (M.hs, H)).2.1]) ∧
      InvT (H := H) w M (fin (lready M.ds) (lstep M.xs M.ds) (ldone M.xs) K (M.hs, H)).2.2 w' := by
  refine finish_gen 117 69 97 H.f (ptr M.m) (InvT (H := H) w M) (fun s => Okl M.xs M.ds s) (lready M.ds) (lstep M.xs M.ds) (ldone M.xs) (mrH _) (msH _) erH esH ?_ ?_ ?_ K hK (M.hs, H) ok w ⟨hM, hH, rfl, Only.refl _ _⟩
  · rintro s w1 ⟨h1, h2, h3, h4⟩ ok
    rw [← h3]
    exact (hold_ready h1 h2 ok.okh).mono fun e w' h => ⟨h.1, h1.below h.2, h2.below h.2, h3, h4.below h.2⟩
  · rintro s w1 ⟨h1, h2, h3, h4⟩ ok hr
    rw [← h3]
    refine (hold_step h1 h2 ok.okh ok.own ok.nx hr).mono fun e w' h => ⟨h.1, ?_⟩
    obtain ⟨q1, q2, q3⟩ := h.2
    rw [hstep_eq] at q1 q2
    exact ⟨q1, q2, (lstep_f s).trans h3, h4.trans (h3 ▸ q3)⟩
  · intro s ok hr hd
    exact ok.step hr hd
end
end Go.Proofs.YtpfpanfpjopcjaaGreat.Ta
/- Plain memories: what a memory holds, without where it lies; the least free place; frames that come to their end. -/
namespace Go.Proofs.YtpfpanfpjopcjaaGreat.Pn
open Go Go.RowKit Hp K Fl Rw Hm Ar Mm Me
set_option maxRecDepth 100000

/-- What a memory holds. -/
structure Lm where
  xs : List Int
  hs : List Int
  ss : List Sl
  F : Bool
  k : Int
  ds : List (Nat × Nat)
  ws : List Nat
abbrev lm (M : Mo) : Lm := ⟨M.xs, M.hs, M.ss, M.F, M.k, M.ds, M.ws⟩
/-- The same memory, later: where it lies. -/
structure Kin (w : World) (M M' : Mo) : Prop where
  m : M'.m = M.m
  g : M'.g = M.g
  lg : M'.lg = M.lg
  ar : M'.ar = M.ar
  foot : ∀ x, mfoot M' x → mfoot M x ∨ w.heap.size ≤ x
theorem Kin.refl (w : World) (M : Mo) : Kin w M M := ⟨rfl, rfl, rfl, rfl, fun _ h => .inl h⟩
theorem Kin.trans {w w' : World} {M M' M'' : Mo} (h : Kin w M M') (h' : Kin w' M' M'') (hs : w.heap.size ≤ w'.heap.size) : Kin w M M'' :=
  ⟨h'.m.trans h.m, h'.g.trans h.g, h'.lg.trans h.lg, h'.ar.trans h.ar, fun x hx => by
    rcases h'.foot x hx with q | q
    · exact h.foot x q
    · exact .inr (Nat.le_trans hs q)⟩
/-- The least free place; none: all are taken. -/
def freePl (ss : List Sl) : Option Nat := (List.range ss.length).find? fun i => !(at' ss i).taken
theorem freePl_some {ss : List Sl} {m : Nat} : freePl ss = some m ↔ Least ss m := by
  unfold freePl Least
  rw [List.find?_range_eq_some]
  simp only [List.mem_range, Bool.not_eq_true', Bool.not_eq_eq_eq_not, Bool.not_true, Bool.not_false]
  constructor
  · rintro ⟨a, b, c⟩
    exact ⟨b, a, c⟩
  · rintro ⟨a, b, c⟩
    exact ⟨b, a, c⟩
theorem freePl_none {ss : List Sl} : freePl ss = none ↔ ∀ k, k < ss.length → (at' ss k).taken = true := by
  unfold freePl
  rw [List.find?_range_eq_none]
  simp
/-- A frame that comes nearer to its end by each step, and is ready till then. -/
theorem fin_steps {S : Type} {rd : S → Bool} {st : S → S} {dn : S → Bool} (R : Nat → S → Prop) (Q : S → Prop)
    (h : ∀ k s, R k s → rd s = true ∧ 1 ≤ k ∧ (dn s = true → Q (st s)) ∧ (dn s = false → R (k - 1) (st s))) :
    ∀ K k s, R k s → k ≤ K → ∃ n s', fin rd st dn K s = (n, true, s') ∧ n ≤ k ∧ Q s' := by
  intro K
  induction K with
  | zero =>
    intro k s hR hk
    have := (h k s hR).2.1
    omega
  | succ K ih =>
    intro k s hR hk
    obtain ⟨h1, h2, h3, h4⟩ := h k s hR
    unfold fin
    rw [if_pos h1]
    cases hd : dn s with
    | true => exact ⟨1, _, by simp, h2, h3 hd⟩
    | false =>
      obtain ⟨n, s', e, hn, hq⟩ := ih (k - 1) (st s) (h4 hd) (by omega)
      exact ⟨n + 1, s', by rw [if_neg (by simp), e], by omega, hq⟩
end Go.Proofs.YtpfpanfpjopcjaaGreat.Pn
/- Frames over a memory, of any kind: how one is laid, what a step of it leaves; any of them behind mem.Finish. -/
namespace Go.Proofs.YtpfpanfpjopcjaaGreat.Pn
open Go Go.RowKit Hp K Fl Rw Hm Ar Mm Me
set_option maxRecDepth 100000

/-- How a frame is laid: its own block, all of it, its blocks. -/
structure Lay (A P : Type) where
  f : A → Nat
  At : World → A → P → Prop
  foot : A → P → Nat → Prop
section
variable {A P : Type}
/-- What a step leaves: the memory and the frame as these say, wherever they lie now; nothing else was written. -/
def Lay.Stp (X : Lay A P) (w : World) (M : Mo) (a : A) (p : P) (L' : Lm) (p' : P) (w' : World) : Prop :=
  ∃ M' a', MemAt w' M' ∧ lm M' = L' ∧ Kin w M M' ∧ X.At w' a' p' ∧ X.f a' = X.f a ∧ (∀ x, X.foot a' p' x → X.foot a p x ∨ w.heap.size ≤ x) ∧ Only (fun x => mfoot M x ∨ X.foot a p x) w w'
/-- The memory and the frame, wherever they lie now. -/
def Lay.Inv (X : Lay A P) (M0 : Mo) (a0 : A) (p0 : P) (w0 : World) (s : Lm × P) (w : World) : Prop :=
  ∃ M a, MemAt w M ∧ lm M = s.1 ∧ Kin w0 M0 M ∧ X.At w a s.2 ∧ X.f a = X.f a0 ∧ (∀ x, X.foot a s.2 x → X.foot a0 p0 x ∨ w0.heap.size ≤ x) ∧ Only (fun x => mfoot M0 x ∨ X.foot a0 p0 x) w0 w
/-- What its methods do, as plain data. -/
structure Frm (X : Lay A P) (T : TypeId) (fr fs : Nat) (Ok : Lm → P → Prop) (rd : Lm → P → Bool) (st : Lm → P → Lm × P) (dn : Lm → P → Bool) : Prop where
  below : ∀ {w w' : World} {a : A} {p : P}, X.At w a p → Below w.heap.size w w' → X.At w' a p
  mr : ∀ (b : Nat) (w : World) (f : Nat), (method (f + 1) T (.pointer (some ⟨b, 0, none⟩)) "Ready").run Tryz.prog w = .ok (fr, .pointer (some ⟨b, 0, none⟩)) w
  ms : ∀ (b : Nat) (w : World) (f : Nat), (method (f + 1) T (.pointer (some ⟨b, 0, none⟩)) "Step").run Tryz.prog w = .ok (fs, .pointer (some ⟨b, 0, none⟩)) w
  er : ∀ args w, (callFunc fr args).run Tryz.prog w = .ok (.enter fr args) w
  es : ∀ args w, (callFunc fs args).run Tryz.prog w = .ok (.enter fs args) w
  ready : ∀ {w : World} {M : Mo} {a : A} {p : P}, MemAt w M → X.At w a p → Ok (lm M) p → Calls Tryz.prog fr #[ptr (X.f a), ptr M.m] w fun e w' => e = .returned (.bool (rd (lm M) p)) ∧ Below w.heap.size w w'
  step : ∀ {w : World} {M : Mo} {a : A} {p : P}, MemAt w M → X.At w a p → Ok (lm M) p → rd (lm M) p = true → Calls Tryz.prog fs #[ptr (X.f a), ptr M.m] w fun e w' => e = .returned (.bool (dn (lm M) p)) ∧ X.Stp w M a p (st (lm M) p).1 (st (lm M) p).2 w'
variable {X : Lay A P} {T : TypeId} {fr fs : Nat} {Ok : Lm → P → Prop} {rd : Lm → P → Bool} {st : Lm → P → Lm × P} {dn : Lm → P → Bool}
variable {w w0 : World} {M0 : Mo} {a0 : A} {p0 : P} {s : Lm × P}
theorem Lay.Inv.start {M : Mo} {a : A} {p : P} (hM : MemAt w M) (hP : X.At w a p) : X.Inv M a p w (lm M, p) w := ⟨M, a, hM, rfl, Kin.refl _ _, hP, rfl, fun _ q => .inl q, Only.refl _ _⟩
theorem Lay.Inv.stepped (F : Frm X T fr fs Ok rd st dn) (h : X.Inv M0 a0 p0 w0 s w) (ok : Ok s.1 s.2) (hr : rd s.1 s.2 = true) :
    Calls Tryz.prog fs #[ptr (X.f a0), ptr M0.m] w fun e w' => e = .returned (.bool (dn s.1 s.2)) ∧ X.Inv M0 a0 p0 w0 (st s.1 s.2) w' := by
  obtain ⟨M, a, hM, e, hK, hP, ea, hf, hO⟩ := h
  have hs := F.step hM hP (by rw [e]; exact ok) (by rw [e]; exact hr)
  rw [e, hK.m, ea] at hs
  refine hs.mono fun e1 w' q => ⟨q.1, ?_⟩
  obtain ⟨M', a', hM', e', hK', hP', ea', hf', hO'⟩ := q.2
  have hsz := hO.size
  refine ⟨M', a', hM', e', hK.trans hK' hsz, hP', ea'.trans ea, ?_, hO.trans' hO' ?_⟩
  · intro x q
    rcases hf' x q with q | q
    · exact hf x q
    · exact .inr (by omega)
  · rintro x hx (q | q)
    · rcases hK.foot x q with q | q
      · exact .inl q
      · omega
    · rcases hf x q with q | q
      · exact .inr q
      · omega
theorem Lay.Inv.readied (F : Frm X T fr fs Ok rd st dn) (h : X.Inv M0 a0 p0 w0 s w) (ok : Ok s.1 s.2) :
    Calls Tryz.prog fr #[ptr (X.f a0), ptr M0.m] w fun e w' => e = .returned (.bool (rd s.1 s.2)) ∧ X.Inv M0 a0 p0 w0 s w' := by
  obtain ⟨M, a, hM, e, hK, hP, ea, hf, hO⟩ := h
  have hs := F.ready hM hP (by rw [e]; exact ok)
  rw [e, hK.m, ea] at hs
  exact hs.mono fun e1 w' q => ⟨q.1, M, a, hM.below q.2, e, hK, F.below hP q.2, ea, hf, hO.below q.2⟩
/-- A frame behind mem.Finish, that comes nearer to its end by each step. -/
theorem finish_frm (F : Frm X T fr fs Ok rd st dn) {M : Mo} {a : A} {p : P} (hM : MemAt w M) (hP : X.At w a p) (R : Nat → Lm × P → Prop) (Q : Lm × P → Prop)
    (hR : ∀ k s, R k s → Ok s.1 s.2 ∧ rd s.1 s.2 = true ∧ 1 ≤ k ∧ (dn s.1 s.2 = true → Q (st s.1 s.2)) ∧ (dn s.1 s.2 = false → R (k - 1) (st s.1 s.2)))
    (k K : Nat) (h0 : R k (lm M, p)) (hk : k ≤ K) (hK : K ≤ 1000000) :
    Calls Tryz.prog 16 #[ptr M.m, .iface T (ptr (X.f a)), .int .i64 K] w fun e w' => ∃ (n : Nat) (s : Lm × P), e = .returned (.tuple #[.int .i64 n, .bool true]) ∧ (n ≤ k ∧ fin (fun s : Lm × P => rd s.1 s.2) (fun s => st s.1 s.2) (fun s => dn s.1 s.2) K (lm M, p) = (n, true, s)) ∧ Q s ∧ X.Inv M a p w s w' := by
  obtain ⟨n, s', e, hn, hq⟩ := fin_steps (rd := fun s : Lm × P => rd s.1 s.2) (st := fun s => st s.1 s.2) (dn := fun s => dn s.1 s.2) R Q (fun k s h => (hR k s h).2) K k (lm M, p) h0 hk
  have := finish_n T fr fs (X.f a) (ptr M.m) (X.Inv M a p w) (fun _ s => ∃ k, R k s) (fun s : Lm × P => rd s.1 s.2) (fun s => st s.1 s.2) (fun s => dn s.1 s.2)
    (F.mr _) (F.ms _) F.er F.es ?_ ?_ ?_ K hK (lm M, p) ⟨k, h0⟩ w (Lay.Inv.start hM hP)
  · rw [e] at this
    exact this.mono fun e1 w' q => ⟨n, s', q.1, ⟨hn, e⟩, hq, q.2⟩
  · rintro _ s w1 hI ⟨k, hr⟩
    exact hI.readied F (hR k s hr).1
  · rintro _ s w1 hI ⟨k, hr⟩ hrd
    exact hI.stepped F (hR k s hr).1 hrd
  · rintro _ s ⟨k, hr⟩ hrd hd
    exact ⟨k - 1, (hR k s hr).2.2.2.2 hd⟩
end
end Go.Proofs.YtpfpanfpjopcjaaGreat.Pn
/- Walks over the package seek: a seek; what its parts answer, and which blocks they write. -/
namespace Go.Proofs.YtpfpanfpjopcjaaGreat.Pu
open Go Go.RowKit Hp K Fl Rw Hm Ar Mm Me Wk Ta Pn Pc
set_option maxRecDepth 100000

/-- A seek: its hold tells where it lies, its walk not. -/
structure Sk where
  key : ByteArray
  sum : Int
  ph : Nat
  H : Ho
  cell : Int
  W : Wa
/-- Where it lies: itself, its walk. -/
structure Sa where
  f : Nat
  w : Nat
def srv (ph h b : Nat) : Value := if ph = 1 then wfm 69 (ptr h) else wfm 99 (ptr b)
def snv (ph f b : Nat) : Value := if ph = 1 then wfm 70 (ptr f) else wfm 100 (ptr b)
def skc (a : Sa) (S : Sk) : Array Value := #[.int .u32 S.sum, .string S.key, srv S.ph S.H.f a.w, snv S.ph a.f a.w, ptr S.H.f, .int .i64 S.cell, ptr a.w]
abbrev Sk.wa (S : Sk) (b : Nat) : Wa := { S.W with f := b }
def SkAt (w : World) (a : Sa) (S : Sk) : Prop := Blk w a.f 134 (skc a S) ∧ HoAt w S.H ∧ WaAt w (S.wa a.w)
def sfoot (a : Sa) (S : Sk) (x : Nat) : Prop := x = a.f ∨ x = S.H.f ∨ x = a.w
abbrev skTypes : List TypeId := [134, 151, 149]
abbrev skL : Lay Sa Sk := ⟨Sa.f, SkAt, sfoot⟩
section
variable {w w' : World} {M : Mo} {a : Sa} {S : Sk}
theorem SkAt.ty (h : SkAt w a S) {x : Nat} (hx : sfoot a S x) : Ty w x skTypes := by
  obtain ⟨h1, h2, h3⟩ := h
  rcases hx with rfl | rfl | rfl
  · exact (blk_ty h1).mono (by simp)
  · exact (blk_ty h2).mono (by simp)
  · exact (blk_ty h3).mono (by simp)
theorem SkAt.lt (h : SkAt w a S) {x : Nat} (hx : sfoot a S x) : x < w.heap.size := (h.ty hx).lt
theorem SkAt.far (h : SkAt w a S) (hM : MemAt w M) {x : Nat} (hx : sfoot a S x) : ¬ mfoot M x := fun hm => (hM.ty hm).apart (h.ty hx) (by decide)
theorem SkAt.only {T : Nat → Prop} (h : SkAt w a S) (ho : Only T w w') (hn : ∀ x, sfoot a S x → ¬ T x) : SkAt w' a S :=
  ⟨h.1.only ho (hn _ (.inl rfl)), h.2.1.only ho (hn _ (.inr (.inl rfl))), h.2.2.only ho (hn _ (.inr (.inr rfl)))⟩
theorem SkAt.below (h : SkAt w a S) (hb : Below w.heap.size w w') : SkAt w' a S := h.only (Only.ofBelow hb (fun _ => False)) (by simp)
theorem SkAt.drewN (h : SkAt w a S) (n : Nat) : SkAt (w.drewN n) a S := h.only ((Only.refl (fun _ => False) w).drewN n) (by simp)
theorem SkAt.hd (h : SkAt w a S) : w.cell? ⟨a.f, 0, none⟩ = some (.int .u32 S.sum) ∧ w.cell? ⟨a.f, 1, none⟩ = some (.string S.key) ∧ w.cell? ⟨a.f, 2, none⟩ = some (srv S.ph S.H.f a.w) ∧ w.cell? ⟨a.f, 3, none⟩ = some (snv S.ph a.f a.w) ∧
    w.cell? ⟨a.f, 4, none⟩ = some (ptr S.H.f) ∧ w.cell? ⟨a.f, 5, none⟩ = some (.int .i64 S.cell) ∧ w.cell? ⟨a.f, 6, none⟩ = some (ptr a.w) :=
  ⟨h.1.cell 0, h.1.cell 1, h.1.cell 2, h.1.cell 3, h.1.cell 4, h.1.cell 5, h.1.cell 6⟩
theorem SkAt.frz (h : SkAt w a S) (i : Nat) : w.frozen? ⟨a.f, i, none⟩ = false := h.1.frozen i
theorem SkAt.apart (h : SkAt w a S) : a.f ≠ S.H.f ∧ a.f ≠ a.w ∧ S.H.f ≠ a.w := by
  obtain ⟨h1, h2, h3⟩ := h
  exact ⟨h1.differ h2 (by decide), h1.differ h3 (by decide), Blk.differ h2 h3 (by decide)⟩
/-- The hold turned. -/
theorem SkAt.held {H' : Ho} (h : SkAt w a S) (hM : MemAt w M) (hH : HoAt w' H') (hf : H'.f = S.H.f) (ho : Only (fun x => mfoot M x ∨ x = S.H.f) w w') : SkAt w' a { S with H := H' } := by
  have ha := h.apart
  refine ⟨?_, hH, h.2.2.only ho ?_⟩
  · have := h.1.only ho (by
      rintro (q | q)
      · exact h.far hM (.inl rfl) q
      · exact ha.1 q)
    unfold skc at this ⊢
    simp only [hf]
    exact this
  · rintro (q | q)
    · exact h.far hM (.inr (.inr rfl)) q
    · exact ha.2.2 q.symm
/-- The walk turned. -/
theorem SkAt.walked {W' : Wa} (h : SkAt w a S) (hM : MemAt w M) (hW : WaAt w' { W' with f := a.w }) (ho : Only (fun x => mfoot M x ∨ x = a.w) w w') : SkAt w' a { S with W := W' } := by
  have ha := h.apart
  refine ⟨h.1.only ho ?_, h.2.1.only ho ?_, hW⟩
  · rintro (q | q)
    · exact h.far hM (.inl rfl) q
    · exact ha.2.1 q
  · rintro (q | q)
    · exact h.far hM (.inr (.inl rfl)) q
    · exact ha.2.2 q

theorem bucketed_any (h : SkAt w a S) : Calls Tryz.prog 73 #[ptr a.f] w fun e w' => e = .returned (.bool (decide (S.cell ≠ -1))) ∧ w = w' := by
  have c := h.hd.2.2.2.2.2.1
  have ec : (S.cell != -1) = decide (S.cell ≠ -1) := by rw [Bool.eq_iff_iff]; simp
  clear h
  generalize decide (S.cell ≠ -1) = b at *
  replace ec := Lib.hid ec
  go_enter Tryz.func73, Tryz.ntmps73
  go_wp2
  go_ret
  exact ⟨by rw [ec.out]; rfl, rfl⟩
/-- What its walk found. -/
theorem found_walk (h : SkAt w a S) : Calls Tryz.prog 52 #[ptr a.w] w fun e w' => e = .returned (.tuple #[.int .u64 S.W.found, ndv S.W.nd, .bool (decide (S.W.found ≠ 0))]) ∧ Below w.heap.size w w' := by
  have q := found_any h.2.2
  have e1 : (S.wa a.w).found = S.W.found := rfl
  have e2 : (S.wa a.w).nd = S.W.nd := rfl
  have e3 : (S.wa a.w).f = a.w := rfl
  rw [e1, e2, e3] at q
  exact q
theorem found_sk (h : SkAt w a S) : Calls Tryz.prog 39 #[ptr a.f] w fun e w' => e = .returned (.tuple #[.int .u64 S.W.found, ndv S.W.nd, .bool (decide (S.W.found ≠ 0))]) ∧ Below w.heap.size w w' := by
  have c := h.hd.2.2.2.2.2.2
  have nf := World.new_ne w ⟨a.f, 6, none⟩ c
  obtain ⟨w1, hw1⟩ : ∃ w1, w1 = w.alloc (.cells #[.string ⟨#[]⟩, .string ⟨#[]⟩, .int .u32 0, .int .u64 0] 89) := ⟨_, rfl⟩
  have hF1 : Blk w1 w.heap.size 89 #[.string ⟨#[]⟩, .string ⟨#[]⟩, .int .u32 0, .int .u64 0] := by rw [hw1]; exact Blk.made w _ _
  have hb1 : Below w.heap.size w w1 := by rw [hw1]; exact (Below.refl _ _).alloc (Nat.le_refl _) _
  have h1 := h.below hb1
  have c1 := h1.hd.2.2.2.2.2.2
  have hR := found_walk h1
  unfold ndv at hR ⊢
  generalize decide (S.W.found ≠ 0) = b at *
  generalize S.W.found = x at *
  generalize S.W.nd = n at *
  obtain ⟨nk, nv, ns, nn⟩ := n
  simp only at hR ⊢
  obtain ⟨hb0, hh0⟩ : ∃ hb0, hb0 = w.heap.size := ⟨_, rfl⟩
  rw [← hh0] at hF1
  have hge := Lib.hid (Nat.le_of_eq hh0.symm)
  have hsz := Lib.hid hb1.size
  replace hR := Lib.hid hR
  replace hF1 := Lib.hid hF1
  replace hb1 := Lib.hid hb1
  clear h h1
  go_enter Tryz.func39, Tryz.ntmps39
  go_upto_region 1 with (fail)
  rw [← hw1, ← hh0]
  clear c nf hw1 hh0
  go_wp2_with fail
  refine hR.out.mono ?_
  rintro e w2 ⟨rfl, hb2⟩
  have hF2 := hF1.out.only (Only.ofBelow hb2 (fun _ => False)) (by simp)
  have f0 := hF2.cell 0
  have f1 := hF2.cell 1
  have f2 := hF2.cell 2
  have f3 := hF2.cell 3
  simp at f0 f1 f2 f3
  have z0 := hF2.frozen 0
  have z1 := hF2.frozen 1
  have z2 := hF2.frozen 2
  have z3 := hF2.frozen 3
  have lb := hF2.lt
  have hB4 := Lib.hid (((((hb1.out.trans (hb2.mono hsz.out)).setCell (p := ⟨hb0, 0, none⟩) hge.out (.string nk)).setCell (p := ⟨hb0, 1, none⟩) hge.out (.string nv)).setCell (p := ⟨hb0, 2, none⟩) hge.out (.int .u32 ns)).setCell (p := ⟨hb0, 3, none⟩) hge.out (.int .u64 nn))
  clear hR c1 hb2
  go_wp2_with fail
  exact bodyPost_ret (v := .tuple #[.int .u64 x, .agg #[.string nk, .string nv, .int .u32 ns, .int .u64 nn], .bool b]) (by simp [results, Tryz.results39, go_sem, f0, f1, f2, f3]) rfl ⟨rfl, hB4.out⟩
theorem first_sk (h : SkAt w a S) : Calls Tryz.prog 122 #[ptr a.f] w fun e w' => e = .returned (.int .u64 S.W.first) ∧ w = w' := by
  have c := h.hd.2.2.2.2.2.2
  have hR := Lib.hid (first_any h.2.2)
  clear h
  go_enter Tryz.func122, Tryz.ntmps122
  go_wp2_with fail
  refine hR.out.mono ?_
  rintro e w' ⟨rfl, rfl⟩
  go_wp2_with fail
  go_ret
  exact ⟨rfl, rfl⟩
end
set_option maxHeartbeats 1000000 in
theorem walkFrom_any {w : World} {f : Nat} {s : Int} {key : ByteArray} {cs : Array Value} (hB : Blk w f 134 cs) (c0 : cs[0]? = some (.int .u32 s)) (c1 : cs[1]? = some (.string key)) (hz : cs.size = 7) (c : Int) :
    Calls Tryz.prog 68 #[ptr f, .int .i64 c] w fun e w' => e = .returned (.tuple #[]) ∧ ∃ b, w.heap.size ≤ b ∧ Blk w' f 134 ((cs.setIfInBounds 5 (.int .i64 c)).setIfInBounds 6 (ptr b)) ∧ WaAt w' (new b c s key) ∧ Only (· = f) w w' := by
  have hN := Lib.hid (fun n => Wk.new_any c s key (w.drewN n))
  have d0 := (hB.cell 0).trans c0
  have d2 := (hB.cell 1).trans c1
  have lf := hB.lt
  have d6 := hB.cell 5
  have d7 := hB.cell 6
  rw [Array.getElem?_eq_getElem (by omega)] at d6 d7
  generalize cs[5]'(by omega) = u6 at *
  generalize cs[6]'(by omega) = u7 at *
  have HB := Lib.hid hB
  clear hB c0 c1
  go_enter Tryz.func68, Tryz.ntmps68
  go_wp2_with fail
  go_region_held3 (fun w' => w'.cell? ⟨f, 0, none⟩ = some (.int .u32 s) ∧ w'.cell? ⟨f, 1, none⟩ = some (.string key)) ((go_split_ands; (refine ⟨?_, ?_⟩ <;> simp [World.cell?_setCell_other, *])))
    (first
      | (go_at_call 80
         refine (hN.out 1).mono ?_
         rintro e w2 ⟨rfl, h2, hb2⟩
         have hbx : Below w.heap.size w w2 := (show Below w.heap.size w (w.drewN 1) from ⟨rfl, rfl, rfl, Nat.le_refl _, fun _ _ => rfl⟩).trans hb2
         have e0 := (hbx.cell (p := ⟨f, 0, none⟩) lf).trans d0
         have e2 := (hbx.cell (p := ⟨f, 1, none⟩) lf).trans d2
         have e6 := (hbx.cell (p := ⟨f, 5, none⟩) lf).trans d6
         have e7 := (hbx.cell (p := ⟨f, 6, none⟩) lf).trans d7
         have hB2 := HB.out.only (Only.ofBelow hbx (fun _ => False)) (by simp)
         have y6 := hB2.frozen 5
         have y7 := hB2.frozen 6
         have hS2 := Lib.hid ((hB2.store 5 (.int .i64 c)).store 6 (ptr w.heap.size))
         have hd := hB2.differ h2 (by decide)
         have hO2 := (((Only.ofBelow hbx (· = f)).setCell (p := ⟨f, 5, none⟩) (.inl rfl) (.int .i64 c)).setCell (p := ⟨f, 6, none⟩) (.inl rfl) (ptr w.heap.size))
         have hW2 : Hid (WaAt ((w2.setCell ⟨f, 5, none⟩ (.int .i64 c)).setCell ⟨f, 6, none⟩ (ptr w.heap.size)) (new w.heap.size c s key)) := Lib.hid (Blk.far (Blk.far h2 (p := ⟨f, 5, none⟩) (fun e => hd e.symm) _) (p := ⟨f, 6, none⟩) (fun e => hd e.symm) _)
         replace hO2 := Lib.hid hO2
         clear h2 hb2 hB2 hbx hd))
  all_goals
    go_wp2_with fail
    go_end0
    exact ⟨rfl, _, Nat.le_refl _, hS2.out, hW2.out, hO2.out⟩
end Go.Proofs.YtpfpanfpjopcjaaGreat.Pu
/- The package seek: what a step comes to, in plain lists; a new seek; a step of its hold. -/
namespace Go.Proofs.YtpfpanfpjopcjaaGreat.Pu
open Go Go.RowKit Hp K Fl Rw Hm Ar Mm Me Wk Ta Pn Pc
set_option maxRecDepth 100000

/-- The bucket's cell, of a hold. -/
def pcell (s : Int) (H : Ho) : Int := Gt.cellOf s (if H.holds = true then H.d else (0, 0))
/-- What a seek's step comes to. -/
def sstep (L : Lm) (S : Sk) : Lm × Sk :=
  if S.ph = 1 then ({ L with hs := (lstep L.xs L.ds (L.hs, S.H)).1 }, if ldone L.xs (L.hs, S.H) = true then { S with H := (lstep L.xs L.ds (L.hs, S.H)).2, cell := pcell S.sum (lstep L.xs L.ds (L.hs, S.H)).2, W := new 0 (pcell S.sum (lstep L.xs L.ds (L.hs, S.H)).2) S.sum S.key, ph := 2 } else { S with H := (lstep L.xs L.ds (L.hs, S.H)).2 })
  else ({ L with F := (Wk.gstep L.xs L.ss (L.F, S.W)).1 }, { S with W := (Wk.gstep L.xs L.ss (L.F, S.W)).2 })
def sready (L : Lm) (S : Sk) : Bool := if S.ph = 1 then lready L.ds (L.hs, S.H) else true
def sdone (L : Lm) (S : Sk) : Bool := if S.ph = 1 then false else Wk.gdone L.xs L.ss (L.F, S.W)
/-- What its steps ask; how many its walk may still take. -/
structure Oks (r : Nat) (L : Lm) (S : Sk) : Prop where
  sum : 0 ≤ S.sum ∧ S.sum < 4294967296
  hd : S.ph = 1 → Okl L.xs L.ds (L.hs, S.H)
  desc : S.ph = 1 → S.H.d.1 ≤ 65536 ∧ S.H.d.2 ≤ 4000000
  wa : S.ph ≠ 1 → Okw (r + 1) S.W
  nexts : Nexts L.ss
  tb : ∀ i, (tab L.ds i).1 ≤ 65536 ∧ (tab L.ds i).2 ≤ 4000000
/-- What a seek's own step leaves. -/
abbrev SStp (w : World) (M : Mo) (a : Sa) (S : Sk) (L' : Lm) (S' : Sk) (w' : World) : Prop := skL.Stp w M a S L' S' w'

/-- A seek just made. -/
def newSk (h : Nat) (k s : Int) (key : ByteArray) : Sk := ⟨key, s, 1, ⟨h, k, s, 1, 0, (0, 0), 0, false⟩, -1, new 0 (-1) s key⟩
section
variable {w w' : World} {M : Mo} {a : Sa} {S : Sk}
set_option maxHeartbeats 1000000 in
theorem cellIn_any {f : Nat} {s : Int} (lf : f < w.heap.size) (c2 : w.cell? ⟨f, 0, none⟩ = some (.int .u32 s)) (d : Nat × Nat) (hd : d.1 ≤ 65536 ∧ d.2 ≤ 4000000) (hs : 0 ≤ s ∧ s < 4294967296) :
    Calls Tryz.prog 98 #[ptr f, dv d] w fun e w' => e = .returned (.int .i64 (Gt.cellOf s d)) ∧ Below w.heap.size w w' := by
  have hb := bucket_bd s d.1 hs.1
  unfold Gt.cellOf dv
  by_cases h0 : d.1 = 0
  · rw [if_pos h0, h0]
    clear c2 hb h0
    go_enter Tryz.func98, Tryz.ntmps98
    go_wp2_with fail
    go_ret
    exact ⟨rfl, (Below.refl _ _).alloc (Nat.le_refl _) _⟩
  · rw [if_neg h0]
    have hB := Lib.hid (fun w' => Fnv.bucket_any s d.1 w' hs.1 hs.2 (by omega) (by omega))
    have e0 : ((d.1 : Int) == 0) = false := by simp; omega
    generalize FM.bucket s d.1 = b at *
    generalize d.1 = d1 at *
    generalize d.2 = d2 at *
    have e1 : IntKind.i64.wrap ((d2 : Int) + b) = d2 + b := IntWalk.i64_in _ (by omega)
    have nf := World.new_ne w ⟨f, 0, none⟩ c2
    clear h0
    go_enter Tryz.func98, Tryz.ntmps98
    go_wp2_with fail
    go_quiet ((go_at_call 120; exact Calls.quiet_of_same ((hB.out _).mono fun _ _ h => ⟨h.1, h.2⟩)))
    go_wp2_with fail
    go_ret
    exact ⟨rfl, ((Below.refl _ _).alloc (Nat.le_refl _) _).trans ⟨rfl, rfl, rfl, by simp, fun _ _ => rfl⟩⟩
theorem hold_lists (hM : MemAt w M) (h : SkAt w a S) (hl : Okl M.xs M.ds (M.hs, S.H)) (hr : lready M.ds (M.hs, S.H) = true) :
    Calls Tryz.prog 97 #[ptr S.H.f, ptr M.m] w fun e w' => e = .returned (.bool (ldone M.xs (M.hs, S.H))) ∧ MemAt w' { M with hs := (lstep M.xs M.ds (M.hs, S.H)).1 } ∧ SkAt w' a { S with H := (lstep M.xs M.ds (M.hs, S.H)).2 } ∧ Only (fun x => mfoot M x ∨ sfoot a S x) w w' := by
  have q := hold_step hM h.2.1 hl.okh hl.own hl.nx hr
  rw [hstep_eq, hdone_eq] at q
  exact q.mono fun e w' q => ⟨q.1, q.2.1, h.held hM q.2.2.1 (lstep_f _) q.2.2.2, q.2.2.2.mono fun x _ y => y.imp id fun e => .inr (.inl e)⟩
/-- The frame's blocks, with another hold at the same place, another walk made since. -/
theorem sfoot_to {S' : Sk} {a' : Sa} (ef : a'.f = a.f) (eH : S'.H.f = S.H.f) {n : Nat} (ew : a'.w = a.w ∨ n ≤ a'.w) (x : Nat) (q : sfoot a' S' x) : sfoot a S x ∨ n ≤ x := by
  rcases q with q | q | q
  · exact .inl (.inl (q.trans ef))
  · exact .inl (.inr (.inl (q.trans eH)))
  · rcases ew with ew | ew
    · exact .inl (.inr (.inr (q.trans ew)))
    · exact .inr (by omega)
set_option maxHeartbeats 1000000 in
theorem holdBucket_any (hM : MemAt w M) (h : SkAt w a S) (hl : Okl M.xs M.ds (M.hs, S.H)) (hd : (lstep M.xs M.ds (M.hs, S.H)).2.d.1 ≤ 65536 ∧ (lstep M.xs M.ds (M.hs, S.H)).2.d.2 ≤ 4000000) (hs : 0 ≤ S.sum ∧ S.sum < 4294967296) (hr : lready M.ds (M.hs, S.H) = true) (h1 : S.ph = 1) :
    Calls Tryz.prog 70 #[ptr a.f, ptr M.m] w fun e w' => e = .returned (.bool false) ∧ SStp w M a S (sstep (lm M) S).1 (sstep (lm M) S).2 w' := by
  have hS := hold_lists hM h hl hr
  have hf := lstep_f (xs := M.xs) (ds := M.ds) (M.hs, S.H)
  have c5 := h.hd.2.2.2.2.1
  unfold sstep
  rw [if_pos h1]
  simp only
  cases hdn : ldone M.xs (M.hs, S.H) with
  | false =>
    rw [hdn] at hS
    rw [if_neg (by simp)]
    generalize lstep M.xs M.ds (M.hs, S.H) = z at *
    obtain ⟨hs', H'⟩ := z
    simp only at hS hf ⊢
    replace hS := Lib.hid hS
    replace hf := Lib.hid hf
    clear hdn h hM hl hr h1 hs hd
    go_enter Tryz.func70, Tryz.ntmps70
    go_wp2_with fail
    refine hS.out.mono ?_
    rintro e w1 ⟨rfl, hM1, hP1, hO1⟩
    replace hM1 := Lib.hid hM1
    replace hP1 := Lib.hid hP1
    replace hO1 := Lib.hid hO1
    clear hS c5
    go_wp2_with fail
    go_ret
    exact ⟨rfl, _, a, hM1.out, rfl, ⟨rfl, rfl, rfl, rfl, fun _ q => .inl q⟩, hP1.out, rfl, sfoot_to rfl hf.out (.inl rfl), hO1.out⟩
  | true =>
    rw [hdn] at hS
    rw [if_pos rfl]
    generalize lstep M.xs M.ds (M.hs, S.H) = z at *
    obtain ⟨hs', H'⟩ := z
    simp only at hS hf hd ⊢
    have hdd : (if H'.holds = true then H'.d else (0, 0)).1 ≤ 65536 ∧ (if H'.holds = true then H'.d else (0, 0)).2 ≤ 4000000 := by
      split
      · exact hd
      · simp
    obtain ⟨d, hde⟩ : ∃ d, d = if H'.holds = true then H'.d else (0, 0) := ⟨_, rfl⟩
    rw [← hde] at hdd
    have hc : pcell S.sum H' = Gt.cellOf S.sum d := by unfold pcell; rw [hde]
    rw [hc]
    obtain ⟨c, hce⟩ : ∃ c, c = Gt.cellOf S.sum d := ⟨_, rfl⟩
    rw [← hce]
    replace hS := Lib.hid hS
    replace hf := Lib.hid hf
    replace hce := Lib.hid hce
    replace hde := Lib.hid hde
    clear hdn h hM hl hr hd hc
    replace h1 := Lib.hid h1
    go_enter Tryz.func70, Tryz.ntmps70
    go_wp2_with fail
    refine hS.out.mono ?_
    rintro e w1 ⟨rfl, hM1, hP1, hO1⟩
    have k5 := hP1.hd.2.2.2.2.1
    simp only at k5
    have hD := desc_of hP1.2.1
    simp only at hD
    rw [← hde.out] at hD
    unfold dv at hD
    replace hD := Lib.hid hD
    replace hM1 := Lib.hid hM1
    replace hP1 := Lib.hid hP1
    replace hO1 := Lib.hid hO1
    clear hS c5
    go_wp2_with fail
    refine hD.out.mono ?_
    rintro e w2 ⟨rfl, hB2⟩
    have hP2 := hP1.out.below hB2
    have hM2 := hM1.out.below hB2
    have hC := cellIn_any hP2.1.lt hP2.hd.1 d hdd hs
    rw [← hce.out] at hC
    unfold dv at hC
    have hO2 := hO1.out.below hB2
    replace hC := Lib.hid hC
    replace hM2 := Lib.hid hM2
    replace hP2 := Lib.hid hP2
    replace hO2 := Lib.hid hO2
    clear hD hM1 hP1 hO1 hB2 k5
    go_wp2_with fail
    refine hC.out.mono ?_
    rintro e w3 ⟨rfl, hB3⟩
    have hP3 := hP2.out.below hB3
    have hM3 := hM2.out.below hB3
    have hO3 := hO2.out.below hB3
    have hW := Lib.hid (walkFrom_any hP3.1 rfl rfl rfl c)
    replace hM3 := Lib.hid hM3
    replace hP3 := Lib.hid hP3
    replace hO3 := Lib.hid hO3
    clear hC hM2 hP2 hO2 hB3
    go_wp2_with fail
    refine hW.out.mono ?_
    rintro e w4 ⟨rfl, b, hb, hF4, hW4, hO4⟩
    have k3 := hF4.cell 2
    have k4 := hF4.cell 3
    have k6 := hF4.cell 6
    simp [skc] at k3 k4 k6
    have z3 := hF4.frozen 2
    have z4 := hF4.frozen 3
    have hS4 := (hF4.store 2 (wfm 99 (ptr b))).store 3 (wfm 100 (ptr b))
    have ap3 := hP3.out.apart
    have hO5 := (((Only.refl (· = a.f) w4).setCell (p := ⟨a.f, 2, none⟩) (.inl rfl) (wfm 99 (ptr b))).setCell (p := ⟨a.f, 3, none⟩) (.inl rfl) (wfm 100 (ptr b)))
    have hO45 := hO4.trans hO5
    have hd4 := hF4.differ hW4 (by decide)
    have far3 := hP3.out.far hM3.out (.inl rfl)
    have hE : SkAt ((w4.setCell ⟨a.f, 2, none⟩ (wfm 99 (ptr b))).setCell ⟨a.f, 3, none⟩ (wfm 100 (ptr b))) { a with w := b } { S with H := H', cell := c, W := new 0 c S.sum S.key, ph := 2 } :=
      ⟨by simpa [skc, srv, snv] using hS4, hP3.out.2.1.only hO45 (fun e => ap3.1 e.symm), hW4.only hO5 (fun e => hd4 e.symm)⟩
    have hM5 := hM3.out.only hO45 (fun x hx q => far3 (q ▸ hx))
    have hsz := hO3.out.size
    have hO05 : Only (fun x => mfoot M x ∨ sfoot a S x) w _ := hO3.out.trans' hO45 (fun x _ q => .inr (.inl q))
    have hbw := Nat.le_trans hsz hb
    replace hE := Lib.hid hE
    replace hM5 := Lib.hid hM5
    replace hO05 := Lib.hid hO05
    replace hbw := Lib.hid hbw
    clear hW hM3 hP3 hO3 hF4 hW4 hO4 hS4 hO5 hO45 hd4 far3 ap3 hb hsz
    go_wp2_with fail
    go_region
    all_goals
      go_wp2_with fail
      go_ret
      have hdr : ∀ w : World, Below w.heap.size w w.drew := fun w => ⟨rfl, rfl, rfl, Nat.le_refl _, fun _ _ => rfl⟩
      exact ⟨rfl, _, _, hM5.out.below (hdr _), rfl, ⟨rfl, rfl, rfl, rfl, fun _ q => .inl q⟩, hE.out.below (hdr _), rfl, sfoot_to (a := a) (a' := { a with w := b }) (S := S) rfl hf.out (.inr hbw.out), hO05.out.below (hdr _)⟩
end
end Go.Proofs.YtpfpanfpjopcjaaGreat.Pu
