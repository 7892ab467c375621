/- Walks and plain mathematics, put together in their order. -/
import Derived.Test.YtpfpanfpjopcjaaGreatPart3
import Derived.Deep.DeepCutAuto
import Derived.Deep.CutBlock
/- Layer 11 (put): a put alone, along a chain of pairs that stays: where it may stand, what it comes to, behind mem.Finish. -/
namespace Go.Proofs.YtpfpanfpjopcjaaGreat.Pu
open Go Go.RowKit Hp K Fl Rw Hm Ar Mm Me Wk Ta Pn Pc Mq
set_option maxRecDepth 100000

section
variable {L : Lm} {P : Pt}
theorem pstep2 (h : P.nx = 2) : pstep L P = ((sstep L P.toSk).1, { P with toSk := (sstep L P.toSk).2, nx := if sdone L P.toSk = true then (if (sstep L P.toSk).2.cell = -1 then 6 else 3) else 2 }) := by
  unfold pstep; rw [if_pos h]
theorem pstep3 (h : P.nx = 3) {m : Nat} (hm : Least L.ss m) : pstep L P = ({ L with ss := L.ss.set m ⟨true, (at' L.ss m).gen, ⟨P.key, P.val, P.sum, fol P.W⟩⟩ }, { P with mine := (at' L.ss m).gen * 65536 + m + 1, err := 0, nx := 4 }) := by
  unfold pstep; rw [if_neg (by omega), if_pos h]; simp only [freePl_some.2 hm]
theorem pstep3n (h : P.nx = 3) (hm : freePl L.ss = none) : pstep L P = (L, { P with mine := 0, err := 4, nx := 6 }) := by
  unfold pstep; rw [if_neg (by omega), if_pos h]; simp only [hm]
theorem pstep4 (h : P.nx = 4) : pstep L P = (slead L P.toSk P.mine, { P with mine := P.W.found, nx := if P.W.found ≠ 0 then 5 else 6 }) := by
  unfold pstep; rw [if_neg (by omega), if_neg (by omega), if_pos h]
theorem pstep5 (h : P.nx = 5) : pstep L P = ({ L with ws := L.ws ++ [P.mine] }, { P with mine := 0, nx := 6 }) := by
  unfold pstep; rw [if_neg (by omega), if_neg (by omega), if_neg (by omega), if_pos h]
theorem pstep6 (h : P.nx = 6) : pstep L P = ({ L with hs := L.hs.set P.H.lock (-1) }, { P with H := { P.H with holds := false }, nx := 7 }) := by
  unfold pstep; rw [if_neg (by omega), if_neg (by omega), if_neg (by omega), if_neg (by omega)]
end
/-- The new node's handle; the places then. -/
abbrev Ep.new (E : Ep) (m : Nat) : Nat := (at' E.L.ss m).gen * 65536 + m + 1
abbrev Ep.ss (E : Ep) (W : Wa) (m : Nat) : List Sl := E.L.ss.set m ⟨true, (at' E.L.ss m).gen, ⟨E.key, E.val, sm E.key, fol W⟩⟩
/-- The memory behind the step that puts the node in. -/
def putL (E : Ep) (W : Wa) (m : Nat) : Lm := if W.found ≠ 0 ∧ W.prev ≠ 0 then { E.L with ss := lnk (E.ss W m) W.prev (E.new m) } else { E.L with ss := E.ss W m, xs := E.L.xs.set E.c (E.new m : Nat) }
abbrev putW (E : Ep) (W : Wa) : List Nat := if W.found ≠ 0 then E.L.ws ++ [W.found] else E.L.ws
abbrev Ep.p (E : Ep) (nx : Nat) (H : Ho) (W : Wa) (err : Int) (mine : Nat) : Pt := ⟨E.s H W, E.val, nx, err, mine⟩
/-- Where a put may stand; how many steps it still takes at most. -/
inductive Rp (E : Ep) : Nat → Lm × Pt → Prop
  | s (k : Nat) (L : Lm) (S : Sk) : Rs E k (L, S) → Rp E (4 + k) (L, ⟨S, E.val, 2, 0, 0⟩)
  | t (W : Wa) : Fnd E W → Rp E 4 ({ E.L with hs := E.hs }, E.p 3 E.H W 0 0)
  | full (W : Wa) : Fnd E W → freePl E.L.ss = none → Rp E 1 ({ E.L with hs := E.hs }, E.p 6 E.H W 4 0)
  | p (W : Wa) (m : Nat) : Fnd E W → Least E.L.ss m → Rp E 3 ({ E.L with hs := E.hs, ss := E.ss W m }, E.p 4 E.H W 0 (E.new m))
  | r (W : Wa) (m : Nat) : Fnd E W → Least E.L.ss m → W.found ≠ 0 → Rp E 2 ({ putL E W m with hs := E.hs }, E.p 5 E.H W 0 W.found)
  | d (W : Wa) (m : Nat) : Fnd E W → Least E.L.ss m → Rp E 1 ({ putL E W m with hs := E.hs, ws := putW E W }, E.p 6 E.H W 0 0)
/-- What a put comes to. -/
inductive Qp (E : Ep) : Lm × Pt → Prop
  | full (W : Wa) : Fnd E W → freePl E.L.ss = none → Qp E (E.L, E.p 7 { E.H with holds := false } W 4 0)
  | done (W : Wa) (m : Nat) : Fnd E W → Least E.L.ss m → Qp E ({ putL E W m with ws := putW E W }, E.p 7 { E.H with holds := false } W 0 0)
section
variable {E : Ep} {k : Nat} {s : Lm × Pt}
theorem putL_hs (E : Ep) (W : Wa) (m : Nat) : (putL E W m).hs = E.L.hs ∧ (putL E W m).ds = E.L.ds ∧ (putL E W m).ws = E.L.ws ∧ (putL E W m).F = E.L.F ∧ (putL E W m).k = E.L.k := by
  unfold putL
  split <;> exact ⟨rfl, rfl, rfl, rfl, rfl⟩
theorem putL_xl (E : Ep) (W : Wa) (m : Nat) : (putL E W m).xs.length = E.L.xs.length := by
  unfold putL
  split
  · rfl
  · simp
theorem Rp.pos (h : Rp E k s) : 1 ≤ k := by cases h <;> omega
theorem Fnd.bd (hE : E.Ok) {W : Wa} (h : Fnd E W) : 0 ≤ fol W ∧ fol W ≤ 18446744073709551615 := by
  unfold fol
  rcases h with ⟨h0, _, hf⟩ | ⟨pre, x, p, t, z, k, hq, hp, hx, hk, hnd, hW, hc, hpv⟩
  · rw [if_neg (by omega), hf]
    have := Cl.getD_bd hE.xb E.c
    have h2 : E.word = (Cl.nth E.L.xs E.c).toNat := rfl
    generalize E.word = ew at *
    omega
  · rw [if_pos (by rw [hx]; exact hk.pos), hW, ← hnd]
    exact hE.nexts k
theorem Ep.Ok.x1p (hE : E.Ok) (W : Wa) (m : Nat) (hm : Least E.L.ss m) : 0 ≤ Cl.nth (putL E W m).xs 1 ∧ Cl.nth (putL E W m).xs 1 ≤ 18446744073709551615 := by
  unfold putL
  split
  · exact Cl.getD_bd hE.xb 1
  · refine Cl.getD_bd (fun x hx => ?_) 1
    rcases List.mem_or_eq_of_mem_set hx with q | rfl
    · exact hE.xb x q
    · have := hE.gen m
      have := hm.1
      have := hE.len
      show 0 ≤ (((at' E.L.ss m).gen * 65536 + m + 1 : Nat) : Int) ∧ (((at' E.L.ss m).gen * 65536 + m + 1 : Nat) : Int) ≤ _
      omega
theorem Ep.Ok.new_bd (hE : E.Ok) {m : Nat} (hm : Least E.L.ss m) : E.new m ≤ 18446744073709551615 := by
  have := hE.gen m
  have := hm.1
  have := hE.len
  show (at' E.L.ss m).gen * 65536 + m + 1 ≤ _
  omega
theorem Ep.Ok.nexts_ss (hE : E.Ok) {W : Wa} {m : Nat} (hf : Fnd E W) (hm : Least E.L.ss m) : Nexts (E.ss W m) := hE.nexts.set hm.1 _ (hf.bd hE)
theorem Ep.Ok.live (_hE : E.Ok) {m : Nat} (hm : Least E.L.ss m) {W : Wa} {x j : Nat} (hj : IsAt E.L.ss x j) : IsAt (E.ss W m) x j := by
  have hjm : j ≠ m := by
    rintro rfl
    have := hj.2.1
    rw [hm.2.1] at this
    simp at this
  exact (isAt_turn hm.1 _ _ _).2 (by rw [if_neg hjm]; exact hj)
/-- What its step asks. -/
theorem Rp.ok (hE : E.Ok) (h : Rp E k s) : Okp s.1 s.2 := by
  cases h with
  | s k L S h => exact ⟨by simp, fun q => by simp at q, fun _ => h.ok hE, fun q => by simp at q, fun q => by simp at q, fun q => by simp at q, fun q => by simp at q⟩
  | t W hf => exact ⟨by simp, fun _ => by simp, fun q => by simp at q, fun _ => hE.gen, fun q => by simp at q, fun q => by simp at q, fun q => by simp at q⟩
  | full W hf hn => exact ⟨by simp, fun _ => by simp, fun q => by simp at q, fun q => by simp at q, fun q => by simp at q, fun q => by simp at q, fun _ => ⟨hE.okl5 hE.x1 rfl (Cl.getD_bd hE.xb 1), rfl⟩⟩
  | p W m hf hm => exact ⟨by simp, fun _ => by simp, fun q => by simp at q, fun q => by simp at q, fun _ => hf.okd hE (hE.new_bd hm) hE.cx (fun x j hj => hE.live hm hj), fun q => by simp at q, fun q => by simp at q⟩
  | r W m hf hm h0 =>
    have hp := putL_hs E W m
    exact ⟨by simp, fun _ => by simp, fun q => by simp at q, fun q => by simp at q, fun q => by simp at q, fun _ => by show (putL E W m).ws.length ≤ _; rw [hp.2.2.1]; exact hE.ws, fun q => by simp at q⟩
  | d W m hf hm =>
    have hp := putL_hs E W m
    exact ⟨by simp, fun _ => by simp, fun q => by simp at q, fun q => by simp at q, fun q => by simp at q, fun q => by simp at q, fun _ => ⟨hE.okl5 (by show 1 < (putL E W m).xs.length; rw [putL_xl]; exact hE.x1) hp.2.1 (hE.x1p W m hm), rfl⟩⟩
/-- At most so many steps are left. -/
def Rq (E : Ep) (k : Nat) (s : Lm × Pt) : Prop := ∃ j, j ≤ k ∧ Rp E j s
theorem Rp.q {E : Ep} {j : Nat} {s : Lm × Pt} (h : Rp E j s) {k : Nat} (hk : j ≤ k) : Rq E k s := ⟨j, hk, h⟩
theorem Ep.Ok.c0 (_hE : E.Ok) : ¬ ((E.c : Int) = -1) := by omega
theorem Rp.step (hE : E.Ok) (h : Rp E k s) : pready s.1 s.2 = true ∧ 1 ≤ k ∧ (pdone s.1 s.2 = true → Qp E (pstep s.1 s.2)) ∧ (pdone s.1 s.2 = false → Rq E (k - 1) (pstep s.1 s.2)) := by
  cases h with
  | s k L S h =>
    obtain ⟨h1, h2, h3, h4⟩ := h.step hE
    refine ⟨h1, by omega, fun q => by simp [pdone] at q, fun _ => ?_⟩
    rw [pstep2 rfl]
    simp only at h3 h4 ⊢
    cases hd : sdone L S with
    | true =>
      obtain ⟨W, hf, _, e⟩ := h3 hd
      rw [e]
      simp only [if_true, if_neg hE.c0]
      exact (Rp.t W hf).q (by omega)
    | false =>
      obtain ⟨j, hj, hr⟩ := h4 hd
      simp only [Bool.false_eq_true, if_false]
      have := Rp.s (E := E) j (sstep L S).1 (sstep L S).2 hr
      exact this.q (by omega)
  | t W hf =>
    refine ⟨rfl, by omega, fun q => by simp [pdone] at q, fun _ => ?_⟩
    cases hfr : freePl E.L.ss with
    | some m =>
      have hm := freePl_some.1 hfr
      have e : pstep { E.L with hs := E.hs } (E.p 3 E.H W 0 0) = ({ E.L with hs := E.hs, ss := E.ss W m }, E.p 4 E.H W 0 (E.new m)) := pstep3 (L := { E.L with hs := E.hs }) rfl hm
      rw [e]
      exact (Rp.p W m hf hm).q (by omega)
    | none =>
      have e : pstep { E.L with hs := E.hs } (E.p 3 E.H W 0 0) = ({ E.L with hs := E.hs }, E.p 6 E.H W 4 0) := pstep3n (L := { E.L with hs := E.hs }) rfl hfr
      rw [e]
      exact (Rp.full W hf hfr).q (by omega)
  | full W hf hfr =>
    refine ⟨rfl, by omega, fun _ => ?_, fun q => by simp [pdone] at q⟩
    have e : pstep { E.L with hs := E.hs } (E.p 6 E.H W 4 0) = (E.L, E.p 7 { E.H with holds := false } W 4 0) := by
      rw [pstep6 rfl]
      show (({ E.L with hs := E.hs.set E.lock (-1) } : Lm), _) = _
      rw [hE.back]
    rw [e]
    exact .full W hf hfr
  | p W m hf hm =>
    refine ⟨rfl, by omega, fun q => by simp [pdone] at q, fun _ => ?_⟩
    have e : pstep { E.L with hs := E.hs, ss := E.ss W m } (E.p 4 E.H W 0 (E.new m)) = ({ putL E W m with hs := E.hs }, E.p (if W.found ≠ 0 then 5 else 6) E.H W 0 W.found) := by
      rw [pstep4 rfl]
      refine Prod.ext ?_ rfl
      unfold putL slead
      by_cases hl : W.found ≠ 0 ∧ W.prev ≠ 0
      · show (if W.found ≠ 0 ∧ W.prev ≠ 0 then _ else _) = _
        rw [if_pos hl, if_pos hl]
      · show (if W.found ≠ 0 ∧ W.prev ≠ 0 then _ else _) = _
        rw [if_neg hl, if_neg hl]
        show ({ E.L with hs := E.hs, ss := E.ss W m, xs := E.L.xs.set ((E.c : Nat) : Int).toNat (E.new m : Nat) } : Lm) = _
        rw [Int.toNat_natCast]
    rw [e]
    by_cases h0 : W.found ≠ 0
    · rw [if_pos h0]
      exact (Rp.r W m hf hm h0).q (by omega)
    · rw [if_neg h0]
      have h0' : W.found = 0 := by omega
      have := Rp.d W m hf hm
      have e2 : ({ putL E W m with hs := E.hs, ws := putW E W } : Lm) = { putL E W m with hs := E.hs } := by
        unfold putW
        rw [if_neg h0, ← (putL_hs E W m).2.2.1]
      rw [e2] at this
      rw [h0']
      exact this.q (by omega)
  | r W m hf hm h0 =>
    refine ⟨rfl, by omega, fun q => by simp [pdone] at q, fun _ => ?_⟩
    have e : pstep { putL E W m with hs := E.hs } (E.p 5 E.H W 0 W.found) = ({ putL E W m with hs := E.hs, ws := putW E W }, E.p 6 E.H W 0 0) := by
      rw [pstep5 rfl]
      refine Prod.ext ?_ rfl
      show ({ putL E W m with hs := E.hs, ws := (putL E W m).ws ++ [W.found] } : Lm) = _
      unfold putW
      rw [if_pos h0, (putL_hs E W m).2.2.1]
    rw [e]
    exact (Rp.d W m hf hm).q (by omega)
  | d W m hf hm =>
    refine ⟨rfl, by omega, fun _ => ?_, fun q => by simp [pdone] at q⟩
    have e : pstep { putL E W m with hs := E.hs, ws := putW E W } (E.p 6 E.H W 0 0) = ({ putL E W m with ws := putW E W }, E.p 7 { E.H with holds := false } W 0 0) := by
      rw [pstep6 rfl]
      show (({ putL E W m with ws := putW E W, hs := E.hs.set E.lock (-1) } : Lm), _) = _
      rw [hE.back, ← (putL_hs E W m).1]
    rw [e]
    exact .done W m hf hm
end
/-- A put alone, behind mem.Finish. -/
theorem put_ends {w : World} {M : Mo} {a : Qa} {key val : ByteArray} {i : Int} {h c : Nat} {d : Nat × Nat} {q : List Mq.Hp} (hM : MemAt w M) (hP : PuAt w a (newPut h i key val)) (hE : Ep.Ok ⟨lm M, key, val, i, h, d, c, q⟩) (K : Nat) (hK : 8 + q.length ≤ K ∧ K ≤ 1000000) :
    Calls Tryz.prog 16 #[ptr M.m, .iface 45 (ptr a.f), .int .i64 K] w fun e w' => ∃ (n : Nat) (s : Lm × Pt), e = .returned (.tuple #[.int .i64 n, .bool true]) ∧ (n ≤ 8 + q.length ∧ fin (fun s : Lm × Pt => pready s.1 s.2) (fun s => pstep s.1 s.2) (fun s => pdone s.1 s.2) K (lm M, newPut h i key val) = (n, true, s)) ∧ Qp ⟨lm M, key, val, i, h, d, c, q⟩ s ∧ puL.Inv M a (newPut h i key val) w s w' := by
  refine finish_frm put_frm hM hP (Rq ⟨lm M, key, val, i, h, d, c, q⟩) (Qp ⟨lm M, key, val, i, h, d, c, q⟩) ?_ (8 + q.length) K ?_ hK.1 hK.2
  · rintro k s ⟨j, hj, hr⟩
    obtain ⟨h1, h2, h3, h4⟩ := hr.step hE
    refine ⟨hr.ok hE, h1, by omega, h3, fun hd => ?_⟩
    obtain ⟨j', hj', hr'⟩ := h4 hd
    exact ⟨j', by omega, hr'⟩
  · exact (Rp.s (E := ⟨lm M, key, val, i, h, d, c, q⟩) (4 + q.length) _ _ .a1).q (by omega)
end Go.Proofs.YtpfpanfpjopcjaaGreat.Pu
/- Plain memories that hold a map: their chains, the accounts of their places; a bucket turned. -/
namespace Go.Proofs.YtpfpanfpjopcjaaGreat.Mq
open Go Hm Ar Mm Wk Pc Me Re Pn

/-- All handles, bucket by bucket. -/
def alls (n : Nat) (cs : Nat → List Hp) : List Nat := (List.range n).flatMap fun b => hds (cs b)
/-- A key's bucket. -/
def bkt (key : ByteArray) (n : Nat) : Nat := (FM.bucket (sm key) n).toNat
theorem bkt_lt {n : Nat} (hp : FM.power n = true) (key : ByteArray) : bkt key n < n ∧ FM.bucket (sm key) n = (bkt key n : Nat) := by
  have := bucket_lt hp (sm key) (sm_bd key).1
  unfold bkt
  omega
/-- Another chain in a bucket. -/
def turn (cs : Nat → List Hp) (b0 : Nat) (q : List Hp) (b : Nat) : List Hp := if b = b0 then q else cs b
theorem flatMap_same {α β : Type} {l : List α} {f g : α → List β} (h : ∀ a ∈ l, f a = g a) : l.flatMap f = l.flatMap g := by
  induction l with
  | nil => rfl
  | cons a t ih => rw [List.flatMap_cons, List.flatMap_cons, h a (by simp), ih fun b hb => h b (List.mem_cons_of_mem _ hb)]
theorem alls_perm {n b0 : Nat} (h : b0 < n) (cs : Nat → List Hp) (q : List Hp) : (alls n (turn cs b0 q)).Perm (hds q ++ ((List.range n).erase b0).flatMap fun b => hds (cs b)) := by
  have h1 : (List.range n).Perm (b0 :: (List.range n).erase b0) := List.perm_cons_erase (by simpa using h)
  have h2 := h1.flatMap_right (fun b => hds (turn cs b0 q b))
  refine h2.trans ?_
  rw [List.flatMap_cons]
  have e1 : hds (turn cs b0 q b0) = hds q := by unfold turn; rw [if_pos rfl]
  have e2 : (((List.range n).erase b0).flatMap fun b => hds (turn cs b0 q b)) = ((List.range n).erase b0).flatMap fun b => hds (cs b) := by
    apply flatMap_same
    intro b hb
    have hne : b ≠ b0 := (List.Nodup.mem_erase_iff List.nodup_range).1 hb |>.1
    unfold turn
    rw [if_neg hne]
  rw [e1, e2]
theorem turn_self (cs : Nat → List Hp) (b0 : Nat) : turn cs b0 (cs b0) = cs := by
  funext b
  unfold turn
  split
  · rename_i e; rw [e]
  · rfl
theorem alls_self {n b0 : Nat} (h : b0 < n) (cs : Nat → List Hp) : (alls n cs).Perm (hds (cs b0) ++ ((List.range n).erase b0).flatMap fun b => hds (cs b)) := by
  have := alls_perm h cs (cs b0)
  rw [turn_self] at this
  exact this
theorem alls_mem {n b : Nat} (h : b < n) (cs : Nat → List Hp) {y : Nat} (hy : y ∈ hds (cs b)) : y ∈ alls n cs := List.mem_flatMap.2 ⟨b, by simpa using h, hy⟩
/-- What is accounted for, in whatever order. -/
theorem _root_.Go.Proofs.YtpfpanfpjopcjaaGreat.Re.Wr.perm {ss : List Sl} {ws left ws' left' : List Nat} {G : Nat} (h : Wr ss ws left G) (hp : (ws' ++ left').Perm (ws ++ left)) : Wr ss ws' left' G := by
  have hl := hp.length_eq
  simp only [List.length_append] at hl
  exact ⟨h.room, hp.nodup_iff.2 h.nd, fun x hx => h.live x (hp.mem_iff.1 hx), fun k => by have := h.gens k; omega, by have := h.cnt; omega⟩
theorem frees_same {ss ss' : List Sl} (ht : ∀ k, (at' ss' k).taken = (at' ss k).taken) (n : Nat) : frees ss' n = frees ss n := by
  unfold frees
  apply List.filter_congr
  intro k _
  rw [ht]
/-- Nodes alone turned. -/
theorem _root_.Go.Proofs.YtpfpanfpjopcjaaGreat.Re.Wr.nodes {ss ss' : List Sl} {ws left : List Nat} {G : Nat} (h : Wr ss ws left G) (hl : ss'.length = ss.length) (ht : ∀ k, (at' ss' k).taken = (at' ss k).taken ∧ (at' ss' k).gen = (at' ss k).gen) : Wr ss' ws left G :=
  ⟨by rw [hl]; exact h.room, h.nd, fun x hx => by
    obtain ⟨k, h1, h2, h3⟩ := h.live x hx
    exact ⟨k, by rw [hl]; exact h1, by rw [(ht k).1]; exact h2, by rw [(ht k).2]; exact h3⟩, fun k => by rw [(ht k).2]; exact h.gens k, by rw [hl, frees_same fun k => (ht k).1]; exact h.cnt⟩

/-- A plain memory that holds the map l: so many buckets from the cell B on, their chains, a bound of the generations. -/
structure Mp (L : Lm) (n B : Nat) (cs : Nat → List Hp) (l : List Pr) (G : Nat) : Prop where
  pw : FM.power n = true
  now : Me.now L.xs L.ds = (n, B)
  tabs : Tabs L.xs L.ds
  tb : ∀ i, (tab L.ds i).1 ≤ 65536 ∧ (tab L.ds i).2 ≤ 4000000
  k : 1 ≤ L.k ∧ L.k ≤ 8
  kB : 2 + L.k ≤ B
  xl : B + n ≤ L.xs.length
  xb : ∀ x ∈ L.xs, 0 ≤ x ∧ x ≤ 18446744073709551615
  nexts : Nexts L.ss
  ch : ∀ b, b < n → Cx L.ss (Cl.nth L.xs (B + b)).toNat (cs b)
  bk : ∀ b, b < n → ∀ e ∈ cs b, FM.bucket (sm e.2.1) n = (b : Nat)
  kd : ∀ b, b < n → (kys (cs b)).Nodup
  wr : Wr L.ss L.ws (alls n cs) G
  ln : (l.map (·.1)).Nodup
  lk : ∀ key, Pc.lk l key = Pc.lk (prs (cs (bkt key n))) key
  len : l.length = (alls n cs).length
  zero : ∀ i : Nat, (i : Int) < L.k → Cl.nth L.xs (2 + i) = 0
  hs : L.hs = List.replicate 6 (-1)
  F : L.F = false
section
variable {L : Lm} {n B : Nat} {cs : Nat → List Hp} {l : List Pr} {G : Nat}
theorem Mp.ad (h : Mp L n B cs l G) : (alls n cs).Nodup := (List.nodup_append.1 h.wr.nd).2.1
theorem Mp.hd (h : Mp L n B cs l G) {b : Nat} (hb : b < n) : (hds (cs b)).Nodup := by
  have := (alls_self hb cs).nodup_iff.1 h.ad
  exact (List.nodup_append.1 this).1
theorem Mp.mono {G' : Nat} (h : Mp L n B cs l G) (hG : G ≤ G') : Mp L n B cs l G' := { h with wr := h.wr.mono hG }
theorem Mp.n_bd (h : Mp L n B cs l G) : 1 ≤ n ∧ n ≤ 65536 := by
  have := FM.power_bd h.pw
  omega
theorem Mp.first (h : Mp L n B cs l G) (b : Nat) : Me.first L.xs L.ds b = (Cl.nth L.xs (B + b)).toNat := by
  unfold Me.first
  rw [h.now]
/-- A bucket's chain, as Chain tells it. -/
theorem Mp.chain (h : Mp L n B cs l G) {b : Nat} (hb : b < n) : Chn L.xs L.ds L.ss (b : Nat) (hds (cs b)) := by
  unfold Chn
  rw [h.now, if_pos ⟨by omega, by simp only; omega⟩, Int.toNat_natCast, h.first]
  exact (h.ch b hb).ch [] (by simp) (h.hd hb)
theorem rh_alls {ss : List Sl} {f : Nat → Nat} {cs : Nat → List Hp} {n : Nat} (hc : ∀ b, b < n → Cx ss (f b) (cs b)) (hn : (alls n cs).Nodup) : ∀ m, m ≤ n → Rh ss f m (alls m cs) := by
  intro m
  induction m with
  | zero => intro _; exact .zero
  | succ m ih =>
    intro hm
    have e : alls (m + 1) cs = alls m cs ++ hds (cs m) := by simp [alls, List.range_succ]
    have hn' : (alls (m + 1) cs).Nodup := by
      have : (alls (m + 1) cs).Sublist (alls n cs) := by
        obtain ⟨d, rfl⟩ := Nat.exists_eq_add_of_le hm
        unfold alls
        rw [show List.range (m + 1 + d) = List.range (m + 1) ++ (List.range d).map (m + 1 + ·) from List.range_add, List.flatMap_append]
        exact List.sublist_append_left _ _
      exact this.nodup hn
    rw [e] at hn' ⊢
    obtain ⟨h1, h2, h3⟩ := List.nodup_append.1 hn'
    exact .succ (ih (by omega)) ((hc m (by omega)).ch _ (fun y hy q => h3 y q y hy rfl) h2)
theorem Mp.reach (h : Mp L n B cs l G) : Rch L.xs L.ds L.ss (alls n cs) := by
  unfold Rch
  rw [h.now]
  refine rh_alls (n := n) (fun b hb => ?_) h.ad n (Nat.le_refl _)
  rw [h.first]
  exact h.ch b hb
/-- A bucket turned. -/
theorem Mp.turned (h : Mp L n B cs l G) {b0 G' : Nat} (hb : b0 < n) {q : List Hp} {ss' : List Sl} {xs' : List Int} {ws' : List Nat} {l' : List Pr}
    (hxl : xs'.length = L.xs.length) (hx : ∀ j, j ≠ B + b0 → Cl.nth xs' j = Cl.nth L.xs j) (hxb : ∀ x ∈ xs', 0 ≤ x ∧ x ≤ 18446744073709551615) (hN : Nexts ss')
    (hc : Cx ss' (Cl.nth xs' (B + b0)).toNat q) (ho : ∀ b, b < n → b ≠ b0 → Cx ss' (Cl.nth L.xs (B + b)).toNat (cs b)) (hbk : ∀ e ∈ q, FM.bucket (sm e.2.1) n = (b0 : Nat)) (hkd : (kys q).Nodup)
    (hw : Wr ss' ws' (alls n (turn cs b0 q)) G') (hln : (l'.map (·.1)).Nodup) (hl1 : ∀ key, bkt key n ≠ b0 → Pc.lk l' key = Pc.lk l key) (hl2 : ∀ key, bkt key n = b0 → Pc.lk l' key = Pc.lk (prs q) key) (hll : l'.length = (alls n (turn cs b0 q)).length) :
    Mp { L with xs := xs', ss := ss', ws := ws' } n B (turn cs b0 q) l' G' := by
  have hk := h.kB
  have hk1 := h.k
  refine ⟨h.pw, ?_, ?_, h.tb, h.k, h.kB, by show B + n ≤ xs'.length; rw [hxl]; exact h.xl, hxb, hN, fun b hb' => ?_, fun b hb' e he => ?_, fun b hb' => ?_, hw, hln, fun key => ?_, hll, fun i hi => ?_, h.hs, h.F⟩
  · have := h.now
    unfold Me.now at this ⊢
    show tab L.ds (Cl.nth xs' 1).toNat = _
    rw [hx 1 (by omega)]
    exact this
  · intro i hi
    have := h.tabs i hi
    show _ ∧ _ ∧ _ ≤ xs'.length
    rw [hxl]
    exact this
  · show Cx ss' (Cl.nth xs' (B + b)).toNat (turn cs b0 q b)
    unfold turn
    split
    · rename_i e; rw [e]; exact hc
    · rename_i e
      rw [hx _ (by omega)]
      exact ho b hb' e
  · unfold turn at he
    split at he
    · rename_i e'; rw [e']; exact hbk e he
    · exact h.bk b hb' e he
  · unfold turn
    split
    · exact hkd
    · exact h.kd b hb'
  · unfold turn
    split
    · rename_i e; exact hl2 key e
    · rename_i e
      rw [hl1 key e]
      exact h.lk key
  · have hi : (i : Int) < L.k := hi
    show Cl.nth xs' (2 + i) = 0
    rw [hx _ (by omega)]
    exact h.zero i hi
end
theorem lk_swap {a t : List Pr} {p p' : Pr} {k : ByteArray} (h : p.1 ≠ k) (h' : p'.1 ≠ k) : lk (a ++ p :: t) k = lk (a ++ p' :: t) k := by
  induction a with
  | nil => simp [lk, h, h']
  | cons e r ih =>
    rw [List.cons_append, List.cons_append]
    simp only [lk]
    rw [ih]
/-- A free place taken: what was live stays. -/
theorem keep_set {ss : List Sl} {m : Nat} (hm : Least ss m) (s : Sl) {y k : Nat} (hk : IsAt ss y k) : IsAt (ss.set m s) y k ∧ at' (ss.set m s) k = at' ss k ∧ k ≠ m := by
  have hne : k ≠ m := by
    rintro rfl
    have := hk.2.1
    rw [hm.2.1] at this
    simp at this
  refine ⟨(isAt_turn hm.1 _ _ _).2 (by rw [if_neg hne]; exact hk), ?_, hne⟩
  rw [at_set hm.1, if_neg hne]
end Go.Proofs.YtpfpanfpjopcjaaGreat.Mq
/- Plain memories that hold a map: a put alone puts the key's value in. -/
namespace Go.Proofs.YtpfpanfpjopcjaaGreat.Mq
open Go Go.RowKit Hp K Fl Rw Hm Ar Mm Me Wk Ta Pn Pc Pu Re

theorem kys_prs (q : List Mq.Hp) : (prs q).map (·.1) = kys q := by rw [List.map_map]; rfl
section
variable {L : Lm} {n B : Nat} {cs : Nat → List Mq.Hp} {l : List Pr} {G : Nat} {key val : ByteArray} {i : Int} {hb : Nat}
theorem Mp.small (h : Mp L n B cs l G) : L.ws.length + (alls n cs).length ≤ 1024 ∧ L.ss.length ≤ 1024 := by
  have := h.wr.cnt
  have := h.wr.room
  omega
theorem Mp.ql (h : Mp L n B cs l G) {b : Nat} (hb : b < n) : (cs b).length ≤ (alls n cs).length := by
  have := (alls_self hb cs).length_eq
  simp only [List.length_append, List.length_map] at this
  omega
/-- A put's places. -/
abbrev Mp.ep (L : Lm) (n B : Nat) (cs : Nat → List Mq.Hp) (key val : ByteArray) (i : Int) (hb : Nat) : Ep := ⟨L, key, val, i, hb, (n, B), B + bkt key n, cs (bkt key n)⟩
theorem Mp.eok (h : Mp L n B cs l G) (hG : G ≤ 1000000) (hi : 0 ≤ i ∧ i ≤ 1000) : (Mp.ep L n B cs key val i hb).Ok := by
  have hsm := h.small
  obtain ⟨hb1, hb2⟩ := bkt_lt h.pw key
  have hql := h.ql hb1
  have hnb := h.n_bd
  have hkB := h.kB
  have hk := h.k
  have hxl := h.xl
  refine ⟨hsm.2, h.nexts, h.tb, hi, h.xb, h.hs, h.now, by show n ≠ 0; omega, ?_, by show B + bkt key n < L.xs.length; omega, by show 1 < L.xs.length; omega, h.ch _ hb1, fun k => by have := h.wr.gens k; show (at' L.ss k).gen ≤ _; omega, by show L.ws.length ≤ _; omega, by show (cs _).length ≤ _; omega⟩
  show ((B + bkt key n : Nat) : Int) = (B : Int) + FM.bucket (sm key) n
  rw [hb2]
  omega
theorem fnd_lk (h : Mp L n B cs l G) {W : Wa} (hf : Fnd (Mp.ep L n B cs key val i hb) W) : decide (W.found ≠ 0) = (Pc.lk l key).isSome := by
  rw [h.lk]
  rcases hf with ⟨h0, hk, _⟩ | ⟨pre, x, p, t, z, k, hq, hp, hx, hk, hnd, hW, hc, hpv⟩
  · have : Pc.lk (prs (cs (bkt key n))) key = none := lk_none.2 (by simpa using hk)
    rw [this, h0]
    rfl
  · have hm : p ∈ prs (cs (bkt key n)) := by
      have hq : cs (bkt key n) = _ := hq
      rw [hq]
      simp
    have hp : p.1 = key := hp
    have hn : ((prs (cs (bkt key n))).map (·.1)).Nodup := by
      rw [kys_prs]
      exact h.kd _ (bkt_lt h.pw key).1
    have := lk_mem hn hm
    rw [hp] at this
    rw [this, hx]
    simp [hk.pos]
theorem put_map (h : Mp L n B cs l G) (hG : G ≤ 1000000) (hi : 0 ≤ i ∧ i ≤ 1000) {s : Lm × Pt} (hq : Qp (Mp.ep L n B cs key val i hb) s) :
    decide (s.2.W.found ≠ 0) = (Pc.lk l key).isSome ∧ s.2.mine = 0 ∧
      ((freePl L.ss = none ∧ s.1 = L ∧ s.2.err = 4) ∨ ((freePl L.ss).isSome ∧ s.2.err = 0 ∧ s.1.ws.length = L.ws.length + (if (Pc.lk l key).isSome then 1 else 0) ∧ s.1.ss.length = L.ss.length ∧ s.1.k = L.k ∧ ∃ cs', ∀ l', Upd l l' key val → Mp s.1 n B cs' l' (G + 1))) := by
  have hE := h.eok (key := key) (val := val) (i := i) (hb := hb) hG hi
  cases hq with
  | full W hf hfr => exact ⟨fnd_lk h hf, rfl, .inl ⟨hfr, rfl, rfl⟩⟩
  | done W m hf hm =>
    have hlk := fnd_lk h hf
    refine ⟨hlk, rfl, .inr ⟨by show (freePl L.ss).isSome; rw [freePl_some.2 hm]; rfl, rfl, ?_, ?_, (putL_hs _ W m).2.2.2.2, ?_⟩⟩
    · show (putW (Mp.ep L n B cs key val i hb) W).length = _
      unfold putW
      rw [← hlk]
      by_cases h0 : W.found ≠ 0
      · rw [if_pos h0, if_pos (by simpa using h0)]; simp
      · rw [if_neg h0, if_neg (by simpa using h0)]
        rfl
    · show (putL _ W m).ss.length = _
      unfold putL lnk Ep.ss
      split <;> simp
    obtain ⟨hb1, hb2⟩ := bkt_lt h.pw key
    obtain ⟨b0, hb0⟩ : ∃ b0, b0 = bkt key n := ⟨_, rfl⟩
    have hml : m < L.ss.length := hm.1
    have hxl := h.xl
    have hN := hE.nexts_ss hf hm
    have hnb := hE.new_bd hm
    have hs : ∀ (y k : Nat), IsAt L.ss y k → IsAt (Ep.ss (Mp.ep L n B cs key val i hb) W m) y k ∧ at' (Ep.ss (Mp.ep L n B cs key val i hb) W m) k = at' L.ss k ∧ k ≠ m := fun y k hk => keep_set hm _ hk
    have hnew : IsAt (Ep.ss (Mp.ep L n B cs key val i hb) W m) (Ep.new (Mp.ep L n B cs key val i hb) m) m := (isAt_turn hml _ _ _).2 (by rw [if_pos rfl]; exact ⟨rfl, rfl⟩)
    have hnd : (at' (Ep.ss (Mp.ep L n B cs key val i hb) W m) m).nd = ⟨key, val, sm key, fol W⟩ := by
      show (at' (L.ss.set m _) m).nd = _
      rw [at_set hml, if_pos rfl]
    have hwr := h.wr.put hm ⟨key, val, sm key, fol W⟩
    have hupd1 : ∀ {l' : List Pr}, Upd l l' key val → ∀ key', bkt key' n ≠ b0 → Pc.lk l' key' = Pc.lk l key' := fun hu key' hne => by
      rw [hu.lk, if_neg (by rintro rfl; exact hne hb0.symm)]
    have hch := h.ch b0 (by rw [hb0]; exact hb1)
    have hxb' : ∀ x ∈ L.xs.set (B + b0) ((Ep.new (Mp.ep L n B cs key val i hb) m : Nat) : Int), 0 ≤ x ∧ x ≤ 18446744073709551615 := by
      intro x hx
      rcases List.mem_or_eq_of_mem_set hx with q | rfl
      · exact h.xb x q
      · exact ⟨by omega, by omega⟩
    have hxset : Cl.nth (L.xs.set (B + b0) ((Ep.new (Mp.ep L n B cs key val i hb) m : Nat) : Int)) (B + b0) = ((Ep.new (Mp.ep L n B cs key val i hb) m : Nat) : Int) := by
      rw [nth_set _ _ _ (by omega), if_pos rfl]
    have hkeep : ∀ b, b < n → b ≠ b0 → Cx (Ep.ss (Mp.ep L n B cs key val i hb) W m) (Cl.nth L.xs (B + b)).toNat (cs b) := fun b hb' _ => (h.ch b hb').keep fun y _ k hk => ⟨(hs y k hk).1, by rw [(hs y k hk).2.1]⟩
    have hap := alls_self (n := n) (b0 := b0) (by omega) cs
    have hkq := h.kd b0 (by omega)
    have hbq := h.bk b0 (by omega)
    have hlq : ∀ key', bkt key' n = b0 → Pc.lk l key' = Pc.lk (prs (cs b0)) key' := fun key' e => by rw [h.lk, e]
    rcases hf with ⟨h0, hk, hfw⟩ | ⟨pre, x, p, t, z, k, hq, hp, hx, hk, hndx, hW, hc, hpv⟩
    · -- a new key
      have hk : key ∉ kys (cs b0) := by rw [hb0]; exact hk
      have hfol : fol W = (((Cl.nth L.xs (B + b0)).toNat : Nat) : Int) := by
        unfold fol
        rw [if_neg (by omega), hfw, hb0]
      have e : ({ putL (Mp.ep L n B cs key val i hb) W m with ws := putW (Mp.ep L n B cs key val i hb) W } : Lm) = { L with xs := L.xs.set (B + b0) ((Ep.new (Mp.ep L n B cs key val i hb) m : Nat) : Int), ss := Ep.ss (Mp.ep L n B cs key val i hb) W m, ws := L.ws } := by
        unfold putL putW
        rw [if_neg (by omega), if_neg (by omega), hb0]
      simp only [e]
      refine ⟨turn cs b0 ((Ep.new (Mp.ep L n B cs key val i hb) m, (key, val)) :: cs b0), fun l' hu => ?_⟩
      have hpa := alls_perm (n := n) (b0 := b0) (by omega) cs ((Ep.new (Mp.ep L n B cs key val i hb) m, (key, val)) :: cs b0)
      have hpb : (alls n (turn cs b0 ((Ep.new (Mp.ep L n B cs key val i hb) m, (key, val)) :: cs b0))).Perm (Ep.new (Mp.ep L n B cs key val i hb) m :: alls n cs) := hpa.trans (List.Perm.cons _ hap.symm)
      have hl0 : Pc.lk l key = none := by
        rw [hlq key hb0.symm]
        exact lk_none.2 (by simpa using hk)
      refine h.turned (by omega) (by simp) (fun j hj => ?_) hxb' hN ?_ hkeep ?_ ?_ ?_ hu.nd (hupd1 hu) (fun key' e' => ?_) ?_
      · rw [nth_set _ _ _ (by omega), if_neg hj]
      · rw [hxset, Int.toNat_natCast]
        refine .cons hnew (z := (Cl.nth L.xs (B + b0)).toNat) ?_ (hch.keep fun y _ k hk => ⟨(hs y k hk).1, by rw [(hs y k hk).2.1]⟩)
        rw [hnd, hfol]
        rfl
      · intro e he
        rcases List.mem_cons.1 he with rfl | he
        · rw [hb0]; exact hb2
        · exact hbq e he
      · exact List.nodup_cons.2 ⟨hk, hkq⟩
      · refine hwr.perm ?_
        refine (List.Perm.append_left L.ws hpb).trans ?_
        rw [List.append_assoc]
        exact List.Perm.refl _
      · rw [hu.lk]
        show _ = Pc.lk ((key, val) :: prs (cs b0)) key'
        simp only [Pc.lk]
        by_cases hkk : key' = key
        · rw [if_pos hkk, if_pos hkk.symm]
        · rw [if_neg hkk, if_neg (fun q => hkk q.symm)]
          exact hlq key' e'
      · rw [hu.len, hl0, hpb.length_eq, List.length_cons, h.len]
        rfl
    · -- in the place of another one
      have hq : cs b0 = pre ++ (x, p) :: t := by rw [hb0]; exact hq
      have hp : p.1 = key := hp
      have hx0 : W.found ≠ 0 := by rw [hx]; exact hk.pos
      have hfol : fol W = ((z : Nat) : Int) := by
        unfold fol
        rw [if_pos hx0, hW]
        rfl
      have hl0 : (Pc.lk l key).isSome = true := by rw [← hlk]; simpa using hx0
      have hkys : kys (pre ++ ((Ep.new (Mp.ep L n B cs key val i hb) m, (key, val)) : Mq.Hp) :: t) = kys (cs b0) := by rw [hq]; simp [hp]
      have hpa := alls_perm (n := n) (b0 := b0) (by omega) cs (pre ++ ((Ep.new (Mp.ep L n B cs key val i hb) m, (key, val)) : Mq.Hp) :: t)
      have hpb : (x :: alls n (turn cs b0 (pre ++ ((Ep.new (Mp.ep L n B cs key val i hb) m, (key, val)) : Mq.Hp) :: t))).Perm (Ep.new (Mp.ep L n B cs key val i hb) m :: alls n cs) := by
        refine (List.Perm.cons x hpa).trans ?_
        refine List.Perm.trans ?_ (List.Perm.cons _ hap.symm)
        rw [hq]
        simp only [hds, List.map_append, List.map_cons, List.append_assoc, List.cons_append]
        refine (List.Perm.cons x List.perm_middle).trans ?_
        refine (List.Perm.swap _ _ _).trans ?_
        exact List.Perm.cons _ List.perm_middle.symm
      have hacc : ∀ {ss' : List Sl}, Wr ss' (L.ws ++ [Ep.new (Mp.ep L n B cs key val i hb) m]) (alls n cs) (G + 1) → Wr ss' (L.ws ++ [W.found]) (alls n (turn cs b0 (pre ++ ((Ep.new (Mp.ep L n B cs key val i hb) m, (key, val)) : Mq.Hp) :: t))) (G + 1) := fun hw => by
        refine hw.perm ?_
        rw [hx, List.append_assoc, List.append_assoc]
        exact List.Perm.append_left _ hpb
      have hlen : ∀ {l' : List Pr}, Upd l l' key val → l'.length = (alls n (turn cs b0 (pre ++ ((Ep.new (Mp.ep L n B cs key val i hb) m, (key, val)) : Mq.Hp) :: t))).length := fun hu => by
        have := hpb.length_eq
        simp only [List.length_cons] at this
        rw [hu.len, if_pos hl0, h.len]
        omega
      have hlk2 : ∀ {l' : List Pr}, Upd l l' key val → ∀ key', bkt key' n = b0 → Pc.lk l' key' = Pc.lk (prs (pre ++ ((Ep.new (Mp.ep L n B cs key val i hb) m, (key, val)) : Mq.Hp) :: t)) key' := fun hu key' e' => by
        rw [hu.lk]
        by_cases hkk : key' = key
        · rw [if_pos hkk, hkk]
          refine (lk_mem (p := (key, val)) ?_ ?_).symm
          · rw [kys_prs, hkys]; exact hkq
          · simp
        · rw [if_neg hkk, hlq key' e', hq]
          simp only [prs, List.map_append, List.map_cons]
          exact lk_swap (by rw [hp]; exact fun q => hkk q.symm) (fun q => hkk q.symm)
      have hbk' : ∀ e ∈ pre ++ ((Ep.new (Mp.ep L n B cs key val i hb) m, (key, val)) : Mq.Hp) :: t, FM.bucket (sm e.2.1) n = (b0 : Nat) := by
        intro e he
        rcases List.mem_append.1 he with he | he
        · exact hbq e (by rw [hq]; exact List.mem_append_left _ he)
        · rcases List.mem_cons.1 he with rfl | he
          · rw [hb0]; exact hb2
          · exact hbq e (by rw [hq]; exact List.mem_append_right _ (List.mem_cons_of_mem _ he))
      have hct : Cx (Ep.ss (Mp.ep L n B cs key val i hb) W m) z t := hc.keep fun y _ k hk => ⟨(hs y k hk).1, by rw [(hs y k hk).2.1]⟩
      have hndz : (at' (Ep.ss (Mp.ep L n B cs key val i hb) W m) m).nd = ndp (key, val) z := by rw [hnd, hfol]; rfl
      by_cases hpre : pre = []
      · -- at the beginning of its chain
        subst hpre
        have hpv0 : W.prev = 0 := hpv
        have e : ({ putL (Mp.ep L n B cs key val i hb) W m with ws := putW (Mp.ep L n B cs key val i hb) W } : Lm) = { L with xs := L.xs.set (B + b0) ((Ep.new (Mp.ep L n B cs key val i hb) m : Nat) : Int), ss := Ep.ss (Mp.ep L n B cs key val i hb) W m, ws := L.ws ++ [W.found] } := by
          unfold putL putW
          rw [if_neg (by omega), if_pos hx0, hb0]
        simp only [e]
        refine ⟨turn cs b0 ([] ++ ((Ep.new (Mp.ep L n B cs key val i hb) m, (key, val)) : Mq.Hp) :: t), fun l' hu => ?_⟩
        refine h.turned (by omega) (by simp) (fun j hj => ?_) hxb' hN ?_ hkeep hbk' (by rw [hkys]; exact hkq) (hacc hwr) hu.nd (hupd1 hu) (hlk2 hu) (hlen hu)
        · rw [nth_set _ _ _ (by omega), if_neg hj]
        · rw [hxset, Int.toNat_natCast]
          exact .cons hnew hndz hct
      · -- behind another one
        have hpv0 : W.prev ≠ 0 := by
          rw [hpv]
          exact lastH_ne (ss := L.ss) (by have := hch; rw [hq] at this; exact this) hpre
        obtain ⟨p0, e0, rfl⟩ : ∃ p0 e, pre = p0 ++ [e] := ⟨pre.dropLast, pre.getLast hpre, (List.dropLast_concat_getLast hpre).symm⟩
        rw [lastH_snoc] at hpv
        rw [hq] at hch
        obtain ⟨j, zj, hj, hndj⟩ := hch.at e0 (by simp)
        have hjs := hs _ _ hj
        have hroom := h.small.2
        have hjp : (W.prev - 1) % 65536 = j := by rw [hpv]; exact (isAt_parts hroom hj).1
        have hjl : j < (Ep.ss (Mp.ep L n B cs key val i hb) W m).length := hjs.1.1
        have e : ({ putL (Mp.ep L n B cs key val i hb) W m with ws := putW (Mp.ep L n B cs key val i hb) W } : Lm) = { L with xs := L.xs, ss := lnk (Ep.ss (Mp.ep L n B cs key val i hb) W m) W.prev (Ep.new (Mp.ep L n B cs key val i hb) m), ws := L.ws ++ [W.found] } := by
          unfold putL putW
          rw [if_pos ⟨hx0, hpv0⟩, if_pos hx0]
        simp only [e]
        -- what the link turns
        have hat : ∀ kk, at' (lnk (Ep.ss (Mp.ep L n B cs key val i hb) W m) W.prev (Ep.new (Mp.ep L n B cs key val i hb) m)) kk = if kk = j then { at' (Ep.ss (Mp.ep L n B cs key val i hb) W m) j with nd := { (at' (Ep.ss (Mp.ep L n B cs key val i hb) W m) j).nd with next := ((Ep.new (Mp.ep L n B cs key val i hb) m : Nat) : Int) } } else at' (Ep.ss (Mp.ep L n B cs key val i hb) W m) kk := fun kk => by
          unfold lnk
          rw [hjp, at_set hjl]
        have hat2 : ∀ kk, (at' (lnk (Ep.ss (Mp.ep L n B cs key val i hb) W m) W.prev (Ep.new (Mp.ep L n B cs key val i hb) m)) kk).taken = (at' (Ep.ss (Mp.ep L n B cs key val i hb) W m) kk).taken ∧ (at' (lnk (Ep.ss (Mp.ep L n B cs key val i hb) W m) W.prev (Ep.new (Mp.ep L n B cs key val i hb) m)) kk).gen = (at' (Ep.ss (Mp.ep L n B cs key val i hb) W m) kk).gen := fun kk => by
          rw [hat]
          split
          · rename_i e; subst e; exact ⟨rfl, rfl⟩
          · exact ⟨rfl, rfl⟩
        have hll : (lnk (Ep.ss (Mp.ep L n B cs key val i hb) W m) W.prev (Ep.new (Mp.ep L n B cs key val i hb) m)).length = (Ep.ss (Mp.ep L n B cs key val i hb) W m).length := by unfold lnk; simp
        have hlive : ∀ {y kk : Nat}, IsAt (Ep.ss (Mp.ep L n B cs key val i hb) W m) y kk → IsAt (lnk (Ep.ss (Mp.ep L n B cs key val i hb) W m) W.prev (Ep.new (Mp.ep L n B cs key val i hb) m)) y kk := fun {y kk} q => ⟨by rw [hll]; exact q.1, by rw [(hat2 kk).1]; exact q.2.1, by rw [(hat2 kk).2]; exact q.2.2⟩
        have hadn := h.ad
        have hperm := hap
        rw [hq] at hperm
        have hnodup := hperm.nodup_iff.1 hadn
        have hne : ∀ y kk, IsAt L.ss y kk → y ≠ e0.1 → kk ≠ j := by
          rintro y kk q1 q2 rfl
          exact q2 (by rw [q1.2.2, hj.2.2])
        have hkp : ∀ y kk, IsAt L.ss y kk → y ≠ e0.1 → IsAt (lnk (Ep.ss (Mp.ep L n B cs key val i hb) W m) W.prev (Ep.new (Mp.ep L n B cs key val i hb) m)) y kk ∧ (at' (lnk (Ep.ss (Mp.ep L n B cs key val i hb) W m) W.prev (Ep.new (Mp.ep L n B cs key val i hb) m)) kk).nd = (at' L.ss kk).nd := fun y kk q1 q2 => by
          have h1 := hs y kk q1
          refine ⟨hlive h1.1, ?_⟩
          rw [hat, if_neg (hne y kk q1 q2), h1.2.1]
        have hN2 : Nexts (lnk (Ep.ss (Mp.ep L n B cs key val i hb) W m) W.prev (Ep.new (Mp.ep L n B cs key val i hb) m)) := nexts_lnk hN _ _ hnb
        refine ⟨turn cs b0 (p0 ++ [e0] ++ ((Ep.new (Mp.ep L n B cs key val i hb) m, (key, val)) : Mq.Hp) :: t), fun l' hu => ?_⟩
        -- e0 stands once
        have hn1 : (hds (p0 ++ [e0] ++ (x, p) :: t)).Nodup := (List.nodup_append.1 hnodup).1
        have hn2 : ∀ y ∈ hds p0, y ≠ e0.1 := by
          intro y hy q
          have : (hds p0 ++ (e0.1 :: hds ((x, p) :: t))).Nodup := by simpa using hn1
          exact (List.nodup_append.1 this).2.2 y hy e0.1 (by simp) q
        have hn3 : ∀ y ∈ hds t, y ≠ e0.1 := by
          intro y hy q
          have : (hds p0 ++ (e0.1 :: hds ((x, p) :: t))).Nodup := by simpa using hn1
          have := (List.nodup_cons.1 (List.nodup_append.1 this).2.1).1
          exact this (by rw [← q]; exact List.mem_cons_of_mem _ hy)
        refine h.turned (by omega) rfl (fun j hj => rfl) h.xb hN2 ?_ ?_ hbk' (by rw [hkys]; exact hkq) (hacc (hwr.nodes hll hat2)) hu.nd (hupd1 hu) (hlk2 hu) (hlen hu)
        · have hsw : Cx (lnk (Ep.ss (Mp.ep L n B cs key val i hb) W m) W.prev (Ep.new (Mp.ep L n B cs key val i hb) m)) (Cl.nth L.xs (B + b0)).toNat (p0 ++ e0 :: (Ep.new (Mp.ep L n B cs key val i hb) m, (key, val)) :: t) := by
            refine Cx.swap (ss := L.ss) (m := m) (kp := j) (z := z) (e := e0) (e' := (x, p)) (hlive hnew) ?_ ?_ p0 _ (by simpa using hch) hj (hlive hjs.1) ?_ (fun y hy kk q => hkp y kk q (hn2 y hy))
            · rw [hat, if_neg (by have := hjs.2.2; omega)]
              exact hndz
            · exact hc.keep fun y hy kk q => hkp y kk q (hn3 y hy)
            · rw [hat, if_pos rfl]
              have hndj' : (at' (Ep.ss (Mp.ep L n B cs key val i hb) W m) j).nd = ndp e0.2 zj := by rw [hjs.2.1]; exact hndj
              simp only [hndj']
              rfl
          simpa using hsw
        · intro b hb' hbb
          refine (h.ch b hb').keep fun y hy kk q => hkp y kk q ?_
          rintro rfl
          -- a handle of another bucket
          have hy2 : e0.1 ∈ ((List.range n).erase b0).flatMap fun b => hds (cs b) := List.mem_flatMap.2 ⟨b, (List.mem_erase_of_ne hbb).2 (by simpa using hb'), hy⟩
          exact (List.nodup_append.1 hnodup).2.2 e0.1 (by simp) e0.1 hy2 rfl
end
end Go.Proofs.YtpfpanfpjopcjaaGreat.Mq
/- The statements of layer 11: whether a memory holds just a map. -/
namespace Go.Proofs.YtpfpanfpjopcjaaGreat.LawEl
open Go Go.RowKit Hp K Fl Rw Hm Ar Mm Me LK Wk Pc LawTen Pn Mq LawFnv
set_option maxRecDepth 100000

theorem alls_succ (cs : Nat → List Mq.Hp) (b : Nat) : alls (b + 1) cs = alls b cs ++ hds (cs b) := by simp [alls, List.range_succ]
section
variable {w : World} {M : Mo} {n B : Nat} {cs : Nat → List Mq.Hp} {l : List Pr} {G : Nat}
/-- What a chain's node says. -/
structure Says (M : Mo) (n : Nat) (l : List Pr) (b : Nat) (x : Nat) (p : Pr) (k z : Nat) : Prop where
  big : x ≤ 18446744073709551615
  at_ : IsAt M.ss x k
  nd : (at' M.ss k).nd = ndp p z
  zb : z ≤ 18446744073709551615
  lk : lk l p.1 = some p.2
  bk : FM.bucket (sm p.1) n = (b : Nat)
  sz : p.1.size ≤ 140737488355328
theorem says_of (h : Mp (lm M) n B cs l G) (hG : G ≤ 1000000) {A : Option Addr} (hP : PairsAt w A l) {b j : Nat} (hb : b < n) (hj : j < (hds (cs b)).length) : ∃ p k z, Says M n l b (Hm.nth (hds (cs b)) j) p k z := by
  have hj' : j < (cs b).length := by simpa using hj
  have hmem : (cs b)[j] ∈ cs b := List.getElem_mem hj'
  have hx : Hm.nth (hds (cs b)) j = (cs b)[j].1 := by rw [nth_get hj]; simp
  obtain ⟨k, z, hk, hnd⟩ := (h.ch b hb).at _ hmem
  have hal : (cs b)[j].1 ∈ alls n cs := alls_mem hb cs (List.mem_map_of_mem hmem)
  have hbk := h.bk b hb _ hmem
  have hkn : bkt (cs b)[j].2.1 n = b := by
    unfold bkt
    rw [hbk, Int.toNat_natCast]
  have hlk : Pc.lk l (cs b)[j].2.1 = some (cs b)[j].2.2 := by
    rw [h.lk, hkn]
    refine lk_mem ?_ (List.mem_map_of_mem hmem)
    rw [kys_prs]
    exact h.kd b hb
  obtain ⟨i, hi, hpi⟩ := List.getElem_of_mem (lk_some_mem hlk)
  obtain ⟨_, _, _, _, _, _, s0, _⟩ := hP i hi
  have hpp : pat l i = ((cs b)[j].2.1, (cs b)[j].2.2) := by simp [pat, List.getD, hi, hpi]
  rw [hpp] at s0
  refine ⟨(cs b)[j].2, k, z, ?_, ?_, hnd, ?_, hlk, hbk, s0⟩
  · show Hm.nth _ _ ≤ _
    rw [hx]
    exact (h.wr.small hG (List.mem_append_right _ hal)).1
  · show IsAt _ (Hm.nth _ _) _
    rw [hx]; exact hk
  · have := (h.nexts k).2
    have hnd' : (at' (lm M).ss k).nd = ndp (cs b)[j].2 z := hnd
    rw [hnd'] at this
    unfold ndp at this
    simp only at this
    omega
/-- What the rounds of Holds keep. -/
def HInv (w wr : World) (db n B : Nat) : Prop := Below w.heap.size w wr ∧ Blk wr db 72 #[.int .i64 n, .int .i64 B]
set_option maxHeartbeats 4000000 in
theorem holds_any (hM : MemAt w M) (h : Mp (lm M) n B cs l G) (hG : G ≤ 1000000) (A : Option Addr) (cap : Nat) (hl : l.length ≤ 1000000) (hP : PairsAt w A l) :
    Calls Tryz.prog 19 #[ptr M.m, .slice A l.length cap] w fun e w' => e = .returned (.bool true) ∧ Below w.heap.size w w' := by
  have hsm := h.small
  have hsm1 : M.ws.length + (alls n cs).length ≤ 1024 := hsm.1
  have hsm2 : M.ss.length ≤ 1024 := hsm.2
  have hnb := h.n_bd
  have hxl : B + n ≤ M.xs.length := h.xl
  have hkB : 2 + M.k ≤ B := h.kB
  have hk8 : 1 ≤ M.k ∧ M.k ≤ 8 := h.k
  have hNw := now_any hM (by omega)
  have hnw : Me.now M.xs M.ds = (n, B) := h.now
  rw [hnw] at hNw
  unfold dv at hNw
  have hCh := Lib.hid (fun wr (hb : Below w.heap.size w wr) b (hbn : b < n) => chain_any (hM.below hb) h.tabs (by omega) h.nexts hsm2 (b : Int) (by omega) (by omega) _ (h.chain hbn))
  have hRc := Lib.hid (fun wr (hb : Below w.heap.size w wr) => reach_any (hM.below hb) h.tabs (by omega) h.nexts hsm2 _ h.reach)
  have hLv := Lib.hid (fun wr (hb : Below w.heap.size w wr) (x k : Nat) (hx : x ≤ 18446744073709551615) (hk : IsAt M.ss x k) => live_ok (hM.below hb).2.2.2.1 hx hk)
  have hRd := Lib.hid (fun wr (hb : Below w.heap.size w wr) (x k : Nat) (hx : x ≤ 18446744073709551615) (hk : IsAt M.ss x k) => read_ok (hM.below hb).2.2.2.1 hx hk)
  have m2 := Lib.hid (fun wr (hb : Below w.heap.size w wr) => (hM.below hb).hd.2.2.1)
  have hGt := Lib.hid (fun wr (hb : Below w.heap.size w wr) key => ref_any wr l A cap (by simp only [maxLen]; omega) (hP.below hb) key)
  have hSy := Lib.hid (fun b j (hb : b < n) (hj : j < (hds (cs b)).length) => says_of h hG hP hb hj)
  have hll : l.length = (alls n cs).length := h.len
  have hle : ∀ b, b ≤ n → (alls b cs).length ≤ (alls n cs).length := fun b hb => by
    obtain ⟨d, rfl⟩ := Nat.exists_eq_add_of_le hb
    unfold alls
    rw [List.range_add, List.flatMap_append, List.length_append]
    omega
  have hsc : ∀ b, (alls (b + 1) cs).length = (alls b cs).length + (hds (cs b)).length := fun b => by rw [alls_succ, List.length_append]
  have hlm := hM.1.lt
  have h00 : (alls 0 cs).length = 0 := rfl
  obtain ⟨cnt, hcnt⟩ : ∃ cnt : Nat → Nat, cnt = fun b => (alls b cs).length := ⟨_, rfl⟩
  have hcn : ∀ b, (alls b cs).length = cnt b := fun b => by rw [hcnt]
  simp only [hcn] at hll hle hsc hsm1 h00
  replace hcn := Lib.hid hcn
  replace hle := Lib.hid hle
  replace hsc := Lib.hid hsc
  generalize hln : l.length = len at *
  replace hll := Lib.hid hll
  replace hln := Lib.hid hln
  replace hNw := Lib.hid hNw
  replace h00 := Lib.hid h00
  clear hM h hP hnw hcnt hsm
  go_enter Tryz.func19, Tryz.ntmps19
  go_wp2_with fail
  refine hNw.out.mono ?_
  rintro e w1 ⟨rfl, hB1⟩
  obtain ⟨w2, hw2⟩ : ∃ w2, w2 = w1.alloc (.cells #[.int .i64 n, .int .i64 B] 72) := ⟨_, rfl⟩
  have hD2 : Blk w2 w1.heap.size 72 #[.int .i64 n, .int .i64 B] := by rw [hw2]; exact Blk.made w1 _ _
  have hB2 : Below w.heap.size w w2 := by rw [hw2]; exact hB1.alloc hB1.size _
  have hdb := hB1.size
  go_upto_region 3 with (fail)
  rw [← hw2]
  clear hw2 hNw hB1
  generalize w1.heap.size = db at *
  have d0 := hD2.cell 0
  simp at d0
  have H0 := Lib.hid (And.intro hB2 hD2)
  clear hB2 hD2
  replace hlm := Lib.hid hlm
  replace hsm1 := Lib.hid hsm1
  go_wp2_with fail
  go_loopw [5, 18] (fun c i wr => ∃ b : Nat, b ≤ n ∧ i = .int .i64 b ∧ c = .int .i64 (cnt b) ∧ HInv w wr db n B) (fun _ i _ => n - (intOf i).toNat)
  case atStart => exact ⟨0, Nat.zero_le _, rfl, by rw [h00.out]; rfl, H0.out⟩
  case round =>
    obtain ⟨b, hb, rfl, rfl, hB, hD⟩ := hrel
    clear H0 d0
    by_cases hlt : b < n
    · have hC := Lib.hid (hCh.out wr hB b hlt)
      have hlb := hle.out (b + 1) (by omega)
      have hs1 := hsc.out b
      have hlb0 := hle.out b hb
      have hsm := hsm1.out
      generalize hts : hds (cs b) = ts at *
      generalize htl : ts.length = tl at *
      have hcs : cnt b + tl ≤ 1024 := by omega
      replace hs1 := Lib.hid hs1
      replace htl := Lib.hid htl
      replace hts := Lib.hid hts
      replace hB := Lib.hid hB
      replace hD := Lib.hid hD
      generalize hcb : cnt b = c0 at *
      replace hcb := Lib.hid hcb
      clear hlb hlb0 hsm
      go_wp2_with fail
      refine hC.out.mono ?_
      rintro e w3 ⟨Ac, capc, rfl, hR, hBc, hin⟩
      rw [htl.out]
      have hB3 := hB.out.trans (hBc.mono hB.out.size)
      have hD3 := hD.out.only (Only.ofBelow hBc (fun _ => False)) (by simp)
      have H1 : Hid (HInv w w3 db n B ∧ Hnds w3 Ac capc ts) := Lib.hid ⟨⟨hB3, hD3⟩, hR⟩
      have hrl := row_len hR
      rw [htl.out] at hrl
      clear hC hR hBc hin hB3 hD3 hB hD
      go_wp2_with fail
      go_loopw [5, 25] (fun c i wr => ∃ j : Nat, j ≤ tl ∧ i = .int .i64 j ∧ c = .int .i64 (c0 + j : Nat) ∧ HInv w wr db n B ∧ Hnds wr Ac capc ts) (fun _ i _ => tl - (intOf i).toNat)
      case atStart => exact ⟨0, Nat.zero_le _, rfl, rfl, H1.out⟩
      case round =>
        obtain ⟨j, hj, rfl, rfl, ⟨hB, hD⟩, hR⟩ := hrel
        clear H1
        by_cases hlt2 : j < tl
        · obtain ⟨bl, rfl, hbl, hc9, _⟩ := hnds_at hR j (by rw [htl.out]; exact hlt2)
          have hS := hSy.out b j hlt (by rw [hts.out, htl.out]; exact hlt2)
          rw [hts.out] at hS
          obtain ⟨⟨pk, pv⟩, k, z, hS⟩ := hS
          generalize Hm.nth ts j = x at *
          have hL := Lib.hid (hLv.out wr hB x k hS.big hS.at_)
          have hRr := hRd.out wr hB x k hS.big hS.at_
          rw [hS.nd] at hRr
          unfold ndv ndp at hRr
          simp only at hRr
          replace hRr := Lib.hid hRr
          have hm2 := m2.out wr hB
          have hG := fun wr2 hb2 => hGt.out wr2 hb2 pk
          have hlk : Pc.lk l pk = some pv := hS.lk
          rw [hlk] at hG
          unfold lkv at hG
          simp only [Option.getD_some, Option.isSome_some] at hG
          have hSm := fun wr2 => refsum_any pk wr2 (by have : pk.size ≤ 140737488355328 := hS.sz; simp only [maxLen]; omega)
          have hsm : ((FM.sum pk.data.toList : Nat) : Int) = sm pk := rfl
          rw [hsm] at hSm
          have hsb := sm_bd pk
          have hBk := fun wr2 => refbucket_any (sm pk) n wr2 hsb.1 hsb.2 (by omega) (by omega)
          have hbk : FM.bucket (sm pk) n = (b : Nat) := hS.bk
          rw [hbk] at hBk
          have hzb := hS.zb
          generalize sm pk = s at *
          replace hG := Lib.hid hG
          replace hSm := Lib.hid hSm
          replace hBk := Lib.hid hBk
          have hbl2 : bl < wr.heap.size := hbl
          clear hS hlk hsm hbk
          have HH := Lib.hid (And.intro hB (And.intro hD hR))
          clear hB hD hR
          go_wp2_with fail
          refine hL.out.mono ?_
          rintro e w' ⟨rfl, rfl⟩
          clear hL
          go_wp2_with fail
          refine hRr.out.mono ?_
          rintro e w4 ⟨rfl, hB4⟩
          obtain ⟨w5, hw5⟩ : ∃ w5, w5 = w4.alloc (.cells #[.string pk, .string pv, .int .u32 s, .int .u64 z] 89) := ⟨_, rfl⟩
          have hQ5 : Blk w5 w4.heap.size 89 #[.string pk, .string pv, .int .u32 s, .int .u64 z] := by rw [hw5]; exact Blk.made w4 _ _
          have hB5 : Below wr.heap.size wr w5 := by rw [hw5]; exact hB4.alloc hB4.size _
          obtain ⟨hB0, hD0, hR0⟩ := HH.out
          have hB05 := hB0.trans (hB5.mono hB0.size)
          have hD5 := hD0.only (Only.ofBelow hB5 (fun _ => False)) (by simp)
          have hR5 := hR0.only (Only.ofBelow hB5 (fun _ => False)) (by simp)
          go_upto_region 12 with (fail)
          rw [← hw5]
          clear hw5 hRr hc9 hm2 HH hB0 hD0 hR0 hB4 hB5
          generalize w4.heap.size = q at *
          have k0 := hQ5.cell 0
          have k1 := hQ5.cell 1
          have k2 := hQ5.cell 2
          have kd := hD5.cell 0
          simp at k0 k1 k2 kd
          have lq := hQ5.lt
          have ld := hD5.lt
          have hG5 := Lib.hid (hG.out w5 hB05)
          have H5 := Lib.hid (fun nq => show HInv w (w5.drewN nq) db n B ∧ Hnds (w5.drewN nq) (some ⟨bl, 0, none⟩) capc ts from
            ⟨⟨hB05.trans ⟨rfl, rfl, rfl, Nat.le_refl _, fun _ _ => rfl⟩, hD5.only ((Only.refl (fun _ => False) _).drewN nq) (by simp)⟩, hR5.only ((Only.refl (fun _ => False) _).drewN nq) (by simp)⟩)
          clear hQ5 hB05 hD5 hR5 hG
          go_wp2_with fail
          refine hG5.out.mono ?_
          rintro e w' ⟨rfl, rfl⟩
          clear hG5
          go_wp2_with fail
          go_quiet (first | (go_at_call 44; exact Calls.quiet_of_same (hSm.out _)) | (go_at_call 45; exact Calls.quiet_of_same (hBk.out _)))
          clear k0 k1 k2 kd
          go_wp2_with fail
          go_roundw
          case rel => exact ⟨j + 1, by omega, by go_num, by simp only [Int.natCast_add]; go_num, (H5.out nq).1, (H5.out nq).2⟩
          case measure => simp [intOf]; omega
        · obtain rfl : j = tl := by omega
          have H2 := Lib.hid (And.intro hB hD)
          clear hB hD hR
          go_wp2_with fail
          go_roundw
          case rel => exact ⟨b + 1, by omega, by go_num, by rw [hs1.out], H2.out⟩
          case measure => simp [intOf]; omega
    · obtain rfl : b = n := by omega
      have hR := hRc.out wr hB
      unfold Lists at hR
      rw [hcn.out b] at hR
      have hll' := hll.out
      rw [hll'] at *
      have hsm := hsm1.out
      generalize cnt b = c0 at *
      replace hR := Lib.hid hR
      replace hB := Lib.hid hB
      clear hD hll' hll
      go_wp2_with fail
      refine hR.out.mono ?_
      rintro e w3 ⟨Ac, capc, rfl, hRw, hBc, hin⟩
      have hBx := Lib.hid (hB.out.trans (hBc.mono hB.out.size))
      clear hRw hBc hin hR
      go_wp2_with fail
      go_ret
      exact ⟨rfl, hBx.out⟩
end
end Go.Proofs.YtpfpanfpjopcjaaGreat.LawEl
/- Plain memories that hold a map: a key taken out, by what a walk found: the node is passed over, and waits. -/
namespace Go.Proofs.YtpfpanfpjopcjaaGreat.Mq
open Go Go.RowKit Hp K Fl Rw Hm Ar Mm Me Wk Ta Pn Pc Pu Re

/-- A list that has the key no more, and all else as ahead. -/
structure Del (l l' : List Pr) (key : ByteArray) : Prop where
  nd : (l'.map (·.1)).Nodup
  lk : ∀ k, Pc.lk l' k = if k = key then none else Pc.lk l k
  len : l'.length + (if (Pc.lk l key).isSome then 1 else 0) = l.length
theorem del_of {l l' : List Pr} {key : ByteArray} (hn : (l.map (·.1)).Nodup) (hp : l'.Perm (l.filter fun p => decide (p.1 ≠ key))) : Del l l' key := by
  have hf : ((l.filter fun p => decide (p.1 ≠ key)).map (·.1)).Nodup := (List.filter_sublist.map _).nodup hn
  have hn' : (l'.map (·.1)).Nodup := (hp.map _).nodup_iff.2 hf
  refine ⟨hn', fun k => ?_, ?_⟩
  · rw [lk_perm hn' hp, lk_filter]
  · rw [hp.length_eq]
    exact filter_len hn key
/-- A memory from which the node that was found is passed over, and waits. -/
def delL (L : Lm) (c : Nat) (W : Wa) : Lm :=
  if W.found = 0 then L else if W.prev ≠ 0 then { L with ss := lnk L.ss W.prev W.nd.next.toNat, ws := L.ws ++ [W.found] } else { L with xs := L.xs.set c W.nd.next, ws := L.ws ++ [W.found] }
section
variable {L : Lm} {n B : Nat} {cs : Nat → List Mq.Hp} {l : List Pr} {G : Nat} {key val : ByteArray} {i : Int} {hb : Nat}
theorem del_map (h : Mp L n B cs l G) {W : Wa} (hf : Fnd (Mp.ep L n B cs key val i hb) W) :
    (delL L (B + bkt key n) W).ws.length = L.ws.length + (if (Pc.lk l key).isSome then 1 else 0) ∧ (delL L (B + bkt key n) W).ss.length = L.ss.length ∧ (delL L (B + bkt key n) W).k = L.k ∧
      ∃ cs', ∀ l', Del l l' key → Mp (delL L (B + bkt key n) W) n B cs' l' G := by
  have hlk := fnd_lk h hf
  refine ⟨?_, ?_, ?_, ?_⟩
  · unfold delL
    rw [← hlk]
    by_cases h0 : W.found = 0
    · rw [if_pos h0, if_neg (by simp [h0])]; rfl
    · rw [if_neg h0, if_pos (show decide (W.found ≠ 0) = true by simp [h0])]
      split <;> simp
  · unfold delL lnk
    split
    · rfl
    · split <;> simp
  · unfold delL
    split
    · rfl
    · split <;> rfl
  obtain ⟨hb1, hb2⟩ := bkt_lt h.pw key
  obtain ⟨b0, hb0⟩ : ∃ b0, b0 = bkt key n := ⟨_, rfl⟩
  have hxl := h.xl
  have hupd1 : ∀ {l' : List Pr}, Del l l' key → ∀ key', bkt key' n ≠ b0 → Pc.lk l' key' = Pc.lk l key' := fun hu key' hne => by
    rw [hu.lk, if_neg (by rintro rfl; exact hne hb0.symm)]
  have hch := h.ch b0 (by rw [hb0]; exact hb1)
  have hap := alls_self (n := n) (b0 := b0) (by omega) cs
  have hkq := h.kd b0 (by omega)
  have hbq := h.bk b0 (by omega)
  have hlq : ∀ key', bkt key' n = b0 → Pc.lk l key' = Pc.lk (prs (cs b0)) key' := fun key' e => by rw [h.lk, e]
  rcases hf with ⟨h0, hk, hfw⟩ | ⟨pre, x, p, t, z, k, hq, hp, hx, hk, hndx, hW, hc, hpv⟩
  · -- nothing was found
    have hk : key ∉ kys (cs b0) := by rw [hb0]; exact hk
    have hl0 : Pc.lk l key = none := by
      rw [hlq key hb0.symm]
      exact lk_none.2 (by rw [kys_prs]; exact hk)
    have e : delL L (B + bkt key n) W = L := by unfold delL; rw [if_pos h0]
    rw [e]
    refine ⟨cs, fun l' hu => { h with ln := hu.nd, lk := fun key' => ?_, len := ?_ }⟩
    · rw [hu.lk, ← h.lk]
      split
      · rename_i e; rw [e, hl0]
      · rfl
    · have := hu.len
      rw [hl0] at this
      simp only [Option.isSome_none, Bool.false_eq_true, if_false, Nat.add_zero] at this
      rw [this, h.len]
  · have hq : cs b0 = pre ++ (x, p) :: t := by rw [hb0]; exact hq
    have hp : p.1 = key := hp
    have hx0 : W.found ≠ 0 := by rw [hx]; exact hk.pos
    have hnz : W.nd.next = ((z : Nat) : Int) := by rw [hW]; rfl
    have hl0 : (Pc.lk l key).isSome = true := by rw [← hlk]; simpa using hx0
    have hpa := alls_perm (n := n) (b0 := b0) (by omega) cs (pre ++ t)
    have hpb : (x :: alls n (turn cs b0 (pre ++ t))).Perm (alls n cs) := by
      refine (List.Perm.cons x hpa).trans ?_
      refine List.Perm.trans ?_ hap.symm
      rw [hq]
      simp only [hds, List.map_append, List.map_cons, List.append_assoc, List.cons_append]
      exact List.perm_middle.symm
    have hacc : ∀ {ss' : List Sl}, Wr ss' L.ws (alls n cs) G → Wr ss' (L.ws ++ [W.found]) (alls n (turn cs b0 (pre ++ t))) G := fun hw => by
      refine hw.perm ?_
      rw [hx, List.append_assoc]
      exact List.Perm.append_left _ hpb
    have hkn : (kys (pre ++ t)).Nodup := by
      have : (kys (pre ++ t)).Sublist (kys (cs b0)) := by
        rw [hq]
        exact (List.Sublist.append_left (List.sublist_cons_self _ _) _).map _
      exact this.nodup hkq
    have hkni : key ∉ kys (pre ++ t) := by
      have h1 : (kys (pre ++ (x, p) :: t)).Nodup := by rw [← hq]; exact hkq
      have h2 : (kys (pre ++ (x, p) :: t)).Perm (p.1 :: kys (pre ++ t)) := by
        simp only [kys, List.map_append, List.map_cons]
        exact List.perm_middle
      have := (List.nodup_cons.1 (h2.nodup_iff.1 h1)).1
      rw [hp] at this
      exact this
    have hlen : ∀ {l' : List Pr}, Del l l' key → l'.length = (alls n (turn cs b0 (pre ++ t))).length := fun hu => by
      have h1 := hpb.length_eq
      have h2 := hu.len
      rw [if_pos hl0, h.len] at h2
      simp only [List.length_cons] at h1
      omega
    have hlk2 : ∀ {l' : List Pr}, Del l l' key → ∀ key', bkt key' n = b0 → Pc.lk l' key' = Pc.lk (prs (pre ++ t)) key' := fun hu key' e' => by
      rw [hu.lk]
      by_cases hkk : key' = key
      · rw [if_pos hkk, hkk]
        exact (lk_none.2 (by rw [kys_prs]; exact hkni)).symm
      · rw [if_neg hkk, hlq key' e', hq]
        simp only [prs, List.map_append, List.map_cons]
        have hpk : ¬ p.1 = key' := by rw [hp]; exact fun q => hkk q.symm
        have : ∀ a : List Pr, lk (a ++ p :: t.map (·.2)) key' = lk (a ++ t.map (·.2)) key' := by
          intro a
          induction a with
          | nil => simp [lk, hpk]
          | cons e r ih => rw [List.cons_append, List.cons_append]; simp only [lk]; rw [ih]
        exact this _
    have hbk' : ∀ e ∈ pre ++ t, FM.bucket (sm e.2.1) n = (b0 : Nat) := by
      intro e he
      rcases List.mem_append.1 he with he | he
      · exact hbq e (by rw [hq]; exact List.mem_append_left _ he)
      · exact hbq e (by rw [hq]; exact List.mem_append_right _ (List.mem_cons_of_mem _ he))
    have hzb : z ≤ 18446744073709551615 := by
      have := (h.nexts k).2
      have e : (at' L.ss k).nd = ndp p z := hndx
      rw [e] at this
      unfold ndp at this
      simp only at this
      omega
    by_cases hpre : pre = []
    · -- at the beginning of its chain
      subst hpre
      have hpv0 : W.prev = 0 := hpv
      have e : delL L (B + bkt key n) W = { L with xs := L.xs.set (B + b0) ((z : Nat) : Int), ss := L.ss, ws := L.ws ++ [W.found] } := by
        unfold delL
        rw [if_neg hx0, if_neg (by omega), hb0, hnz]
      rw [e]
      refine ⟨turn cs b0 ([] ++ t), fun l' hu => ?_⟩
      have hxset : Cl.nth (L.xs.set (B + b0) ((z : Nat) : Int)) (B + b0) = ((z : Nat) : Int) := by
        rw [nth_set _ _ _ (by omega), if_pos rfl]
      refine h.turned (by omega) (by simp) (fun j hj => ?_) (fun x hx => ?_) h.nexts ?_ (fun b hb _ => h.ch b hb) hbk' hkn (hacc h.wr) hu.nd (hupd1 hu) (hlk2 hu) (hlen hu)
      · rw [nth_set _ _ _ (by omega), if_neg hj]
      · rcases List.mem_or_eq_of_mem_set hx with q | rfl
        · exact h.xb x q
        · omega
      · rw [hxset, Int.toNat_natCast]
        exact hc
    · -- behind another one
      have hpv0 : W.prev ≠ 0 := by
        rw [hpv]
        exact lastH_ne (ss := L.ss) (by have := hch; rw [hq] at this; exact this) hpre
      obtain ⟨p0, e0, rfl⟩ : ∃ p0 e, pre = p0 ++ [e] := ⟨pre.dropLast, pre.getLast hpre, (List.dropLast_concat_getLast hpre).symm⟩
      rw [lastH_snoc] at hpv
      rw [hq] at hch
      obtain ⟨j, zj, hj, hndj⟩ := hch.at e0 (by simp)
      have hroom := h.small.2
      have hjp : (W.prev - 1) % 65536 = j := by rw [hpv]; exact (isAt_parts hroom hj).1
      have e : delL L (B + bkt key n) W = { L with xs := L.xs, ss := lnk L.ss W.prev z, ws := L.ws ++ [W.found] } := by
        unfold delL
        rw [if_neg hx0, if_pos hpv0, hnz, Int.toNat_natCast]
      rw [e]
      have hat : ∀ kk, at' (lnk L.ss W.prev z) kk = if kk = j then { at' L.ss j with nd := { (at' L.ss j).nd with next := ((z : Nat) : Int) } } else at' L.ss kk := fun kk => by
        unfold lnk
        rw [hjp, at_set hj.1]
      have hat2 : ∀ kk, (at' (lnk L.ss W.prev z) kk).taken = (at' L.ss kk).taken ∧ (at' (lnk L.ss W.prev z) kk).gen = (at' L.ss kk).gen := fun kk => by
        rw [hat]
        split
        · rename_i e; subst e; exact ⟨rfl, rfl⟩
        · exact ⟨rfl, rfl⟩
      have hll : (lnk L.ss W.prev z).length = L.ss.length := by unfold lnk; simp
      have hlive : ∀ {y kk : Nat}, IsAt L.ss y kk → IsAt (lnk L.ss W.prev z) y kk := fun {y kk} q => ⟨by rw [hll]; exact q.1, by rw [(hat2 kk).1]; exact q.2.1, by rw [(hat2 kk).2]; exact q.2.2⟩
      have hadn := h.ad
      have hperm := hap
      rw [hq] at hperm
      have hnodup := hperm.nodup_iff.1 hadn
      have hne : ∀ y kk, IsAt L.ss y kk → y ≠ e0.1 → kk ≠ j := by
        rintro y kk q1 q2 rfl
        exact q2 (by rw [q1.2.2, hj.2.2])
      have hkp : ∀ y kk, IsAt L.ss y kk → y ≠ e0.1 → IsAt (lnk L.ss W.prev z) y kk ∧ (at' (lnk L.ss W.prev z) kk).nd = (at' L.ss kk).nd := fun y kk q1 q2 => by
        refine ⟨hlive q1, ?_⟩
        rw [hat, if_neg (hne y kk q1 q2)]
      refine ⟨turn cs b0 (p0 ++ [e0] ++ t), fun l' hu => ?_⟩
      have hn1 : (hds (p0 ++ [e0] ++ (x, p) :: t)).Nodup := (List.nodup_append.1 hnodup).1
      have hn1' : (hds p0 ++ (e0.1 :: hds ((x, p) :: t))).Nodup := by simpa using hn1
      have hn2 : ∀ y ∈ hds p0, y ≠ e0.1 := fun y hy q => (List.nodup_append.1 hn1').2.2 y hy e0.1 (by simp) q
      have hn3 : ∀ y ∈ hds t, y ≠ e0.1 := fun y hy q => (List.nodup_cons.1 (List.nodup_append.1 hn1').2.1).1 (by rw [← q]; exact List.mem_cons_of_mem _ hy)
      refine h.turned (by omega) rfl (fun j hj => rfl) h.xb (nexts_lnk h.nexts _ _ hzb) ?_ ?_ hbk' hkn (hacc (h.wr.nodes hll hat2)) hu.nd (hupd1 hu) (hlk2 hu) (hlen hu)
      · have hpass : ∀ (q : List Mq.Hp) (y : Nat), Cx L.ss y (q ++ e0 :: (x, p) :: t) → (∀ u ∈ hds q, u ≠ e0.1) → Cx (lnk L.ss W.prev z) y (q ++ e0 :: t) := by
          intro q
          induction q with
          | nil =>
            intro y hy _
            cases hy with
            | @cons _ kk zz pp _ a b c =>
              have hkj : kk = j := by
                have h1 := a.2.2
                have h2 := hj.2.2
                exact a.uniq hroom hj
              subst hkj
              refine .cons (hlive a) (z := z) ?_ (hc.keep fun y hy kk q => hkp y kk q (hn3 y hy))
              rw [hat, if_pos rfl]
              simp only [b]
              rfl
          | cons e1 r ih =>
            intro y hy hu
            cases hy with
            | @cons _ kk zz pp _ a b c =>
              have := hkp _ kk a (hu _ (by simp))
              exact .cons this.1 (this.2.trans b) (ih _ c fun u hu' => hu u (List.mem_cons_of_mem _ hu'))
        have := hpass p0 _ (by simpa using hch) hn2
        simpa using this
      · intro b hb' hbb
        refine (h.ch b hb').keep fun y hy kk q => hkp y kk q ?_
        rintro rfl
        have hy2 : e0.1 ∈ ((List.range n).erase b0).flatMap fun b => hds (cs b) := List.mem_flatMap.2 ⟨b, (List.mem_erase_of_ne hbb).2 (by simpa using hb'), hy⟩
        exact (List.nodup_append.1 hnodup).2.2 e0.1 (by simp) e0.1 hy2 rfl
end
end Go.Proofs.YtpfpanfpjopcjaaGreat.Mq
/- The statements of layer 12: a list of acts; the map that they come to; a key taken out of a row of pairs; the document's play. -/
namespace Go.Proofs.YtpfpanfpjopcjaaGreat.LawTw
open Go Go.RowKit Hp K Fl Rw Hm Ar Mm Me LK Wk Pc LawTen LawEl Mq
set_option maxRecDepth 100000

/-- An act: whether a key is taken out, the key, the value. -/
abbrev Ac := Bool × Pr
abbrev aat (l : List Ac) (i : Nat) : Ac := l.getD i (false, ⟨#[]⟩, ⟨#[]⟩)
def ActsAt (w : World) (A : Option Addr) (l : List Ac) : Prop := ∀ i, i < l.length → ∃ b o : Nat, A = some ⟨b, o, none⟩ ∧ b < w.heap.size ∧
  w.cell? ⟨b, o + i * 3, none⟩ = some (.bool (aat l i).1) ∧ w.cell? ⟨b, o + i * 3 + 1, none⟩ = some (.string (aat l i).2.1) ∧ w.cell? ⟨b, o + i * 3 + 2, none⟩ = some (.string (aat l i).2.2) ∧ (aat l i).2.1.size ≤ 140737488355328 ∧ (aat l i).2.2.size ≤ 140737488355328
theorem ActsAt.below {w w' : World} {A : Option Addr} {l : List Ac} (h : ActsAt w A l) (hb : Below w.heap.size w w') : ActsAt w' A l := fun i hi => by
  obtain ⟨b, o, h1, h2, h3, h4, h5, h6⟩ := h i hi
  exact ⟨b, o, h1, by have := hb.size; omega, (hb.cell (p := ⟨b, _, none⟩) h2).trans h3, (hb.cell (p := ⟨b, _, none⟩) h2).trans h4, (hb.cell (p := ⟨b, _, none⟩) h2).trans h5, h6⟩
theorem aat_take {l : List Ac} {n i : Nat} (hi : i < n) : aat (l.take n) i = aat l i := by
  unfold aat
  rw [List.getD_eq_getElem?_getD, List.getD_eq_getElem?_getD, List.getElem?_take_of_lt hi]
theorem ActsAt.take {w : World} {A : Option Addr} {l : List Ac} (h : ActsAt w A l) (n : Nat) : ActsAt w A (l.take n) := fun i hi => by
  rw [List.length_take] at hi
  rw [aat_take (by omega)]
  exact h i (by omega)
/-- What an act makes of a map; what acts come to. -/
def act (m : List Pr) (x : Ac) : List Pr := if x.1 = true then m.filter fun p => decide (p.1 ≠ x.2.1) else (x.2.1, x.2.2) :: m.filter fun p => decide (p.1 ≠ x.2.1)
def plays (l : List Ac) : List Pr := l.foldl act []
theorem plays_snoc {l : List Ac} {k : Nat} (hk : k < l.length) : plays (l.take (k + 1)) = act (plays (l.take k)) (aat l k) := by
  have e : l[k]? = some (aat l k) := by simp [aat, List.getD, hk]
  unfold plays
  rw [List.take_add_one, e, List.foldl_append]
  rfl
theorem act_len (m : List Pr) (x : Ac) : (act m x).length ≤ m.length + 1 := by
  have := List.length_filter_le (fun p : Pr => decide (p.1 ≠ x.2.1)) m
  unfold act
  split
  · omega
  · rw [List.length_cons]; omega
theorem plays_len (l : List Ac) : (plays l).length ≤ l.length := by
  have h : ∀ (l : List Ac) (m : List Pr), (l.foldl act m).length ≤ m.length + l.length := by
    intro l
    induction l with
    | nil => simp
    | cons x t ih =>
      intro m
      have := ih (act m x)
      have := act_len m x
      simp only [List.foldl_cons, List.length_cons]
      omega
  have := h l []
  unfold plays
  simpa using this
theorem act_nodup {m : List Pr} (h : (m.map (·.1)).Nodup) (x : Ac) : ((act m x).map (·.1)).Nodup := by
  have hf : ((m.filter fun p => decide (p.1 ≠ x.2.1)).map (·.1)).Nodup := (List.filter_sublist.map _).nodup h
  unfold act
  split
  · exact hf
  · rw [List.map_cons, List.nodup_cons]
    refine ⟨fun q => ?_, hf⟩
    obtain ⟨p, hp, he⟩ := List.mem_map.1 q
    have := (List.mem_filter.1 hp).2
    simp at this
    exact this he
theorem act_perm {m m' : List Pr} (h : m.Perm m') (x : Ac) : (act m x).Perm (act m' x) := by
  unfold act
  split
  · exact h.filter _
  · exact List.Perm.cons _ (h.filter _)
/-- Short strings. -/
def ShortA (l : List Ac) : Prop := ∀ x ∈ l, x.2.1.size ≤ 200 ∧ x.2.2.size ≤ 200
theorem act_short {m : List Pr} {x : Ac} (h : Short m) (hx : x.2.1.size ≤ 200 ∧ x.2.2.size ≤ 200) : Short (act m x) := by
  intro p hp
  unfold act at hp
  split at hp
  · exact h p (List.mem_filter.1 hp).1
  · rcases List.mem_cons.1 hp with rfl | q
    · exact hx
    · exact h p (List.mem_filter.1 q).1
theorem plays_short {l : List Ac} (h : ShortA l) : Short (plays l) := by
  have : ∀ (l : List Ac) (m : List Pr), ShortA l → Short m → Short (l.foldl act m) := by
    intro l
    induction l with
    | nil => intro m _ hm; exact hm
    | cons x t ih =>
      intro m ha hm
      exact ih (act m x) (fun y hy => ha y (List.mem_cons_of_mem _ hy)) (act_short hm (ha x (by simp)))
  exact this l [] h (by intro p hp; simp at hp)
theorem short_perm {m m' : List Pr} (h : Short m) (hp : m'.Perm m) : Short m' := fun p q => h p (hp.mem_iff.1 q)
/-- A row of pairs of the call's own. -/
def Out (W : World) (m : List Pr) (e : Ending) (w : World) : Prop :=
  ∃ (A : Option Addr) (cap : Nat) (o : List Pr), e = .returned (.slice A o.length cap) ∧ Prs w A cap o ∧ (∀ x, In A x → W.heap.size ≤ x) ∧ Below W.heap.size W w ∧ o.Perm m
def OInv (W w : World) (m : List Pr) (v : Value) : Prop :=
  ∃ (A : Option Addr) (cap : Nat) (o : List Pr), v = .slice A o.length cap ∧ Prs w A cap o ∧ (∀ x, In A x → W.heap.size ≤ x) ∧ Below W.heap.size W w ∧ o.Perm m
set_option maxHeartbeats 1000000 in
theorem without_any (W : World) (l : List Pr) (A : Option Addr) (cap : Nat) (hl : l.length ≤ 1000000) (hP : PairsAt W A l) (key : ByteArray) :
    Calls Tryz.prog 53 #[.slice A l.length cap, .string key] W (Out W (l.filter fun p => decide (p.1 ≠ key))) := by
  have hI := Lib.hid (show OInv W W ((l.take 0).filter fun p => decide (p.1 ≠ key)) (.slice none 0 0) from ⟨none, 0, [], rfl, Row.nil _ _ _ _, by simp [In], Below.refl _ _, by simp⟩)
  obtain ⟨i0, hi0, hz0, hz1, hz2⟩ := info_parts info_pair
  replace hP := Lib.hid hP
  generalize hln : l.length = len at *
  replace hln := Lib.hid hln
  go_enter Tryz.func53, Tryz.ntmps53
  go_wp2_with fail
  go_loopw [5, 6] (fun v i wr => ∃ k : Nat, k ≤ len ∧ i = .int .i64 k ∧ OInv W wr ((l.take k).filter fun p => decide (p.1 ≠ key)) v) (fun _ i _ => len - (intOf i).toNat)
  case atStart => exact ⟨0, Nat.zero_le _, rfl, hI.out⟩
  case round =>
    obtain ⟨k, hk, rfl, A1, cap1, o, rfl, hR, hA, hB, hp⟩ := hrel
    clear hI
    have hol : o.length ≤ len := by
      have h1 := hp.length_eq
      have h2 := List.length_filter_le (fun p : Pr => decide (p.1 ≠ key)) (l.take k)
      rw [List.length_take] at h2
      have := hln.out
      omega
    generalize hom : o.length = m at *
    replace hom := Lib.hid hom
    replace hR := Lib.hid hR
    replace hA := Lib.hid hA
    replace hp := Lib.hid hp
    by_cases hlt : k < len
    · obtain ⟨b, of, rfl, hb, c0, c1, s0, s1⟩ := hP.out k (by rw [hln.out]; exact hlt)
      rw [← hB.cell (p := ⟨b, _, none⟩) hb] at c0 c1
      have hbr : b < wr.heap.size := by have := hB.size; omega
      replace hB := Lib.hid hB
      have hty := fun q => take_yes (l := l) (k := k) (key := key) (by rw [hln.out]; exact hlt) q
      have htn := fun q => take_no (l := l) (k := k) (key := key) (by rw [hln.out]; exact hlt) q
      generalize hpp : pat l k = p at *
      obtain ⟨pk, pv⟩ := p
      simp only at c0 c1 s0 s1 hty htn
      replace hpp := Lib.hid hpp
      have hsz := hB.out.size
      by_cases hk2 : pk = key
      · have hn := Lib.hid (htn hk2)
        clear hty htn
        subst hk2
        go_wp2_with fail
        go_roundw
        case rel => exact ⟨k + 1, by omega, by go_num, A1, cap1, o, by rw [hom.out], hR.out, hA.out, hB.out, by rw [hn.out]; exact hp.out⟩
        case measure => simp [intOf]; omega
      · have hy := Lib.hid (hty hk2)
        clear hty htn
        have hb2 := bytes_ne hk2
        replace hk2 := Lib.hid hk2
        go_wp2_with
          (at_builtin
           refine wpList_append_one wr rfl (.tmp 20) (.tmp 25) 22 rfl 40 i0 (.agg #[.string ⟨#[]⟩, .string ⟨#[]⟩]) 2 32 Tryz.underlying22 hi0 hz0 hz1 hz2 rfl (by omega) prc (fun _ => rfl) (by intro x u hu; simp [prc] at hu; rcases hu with rfl | rfl <;> rfl)
             A1 cap1 m o hom.out (pk, pv) #[.string pk, .string pv] rfl rfl hR.out rfl (by simp only [maxLen]; omega) (by omega) ?_
           intro A2 cap2 w2 hR2 hO2 hA2
           have HP := Lib.hid (show OInv W w2 ((l.take (k + 1)).filter fun p => decide (p.1 ≠ key)) (.slice A2 (m + 1) cap2) from ⟨A2, cap2, o ++ [(pk, pv)], by rw [List.length_append, hom.out]; rfl, hR2, fun x hx => by
             rcases hA2 x hx with q | q
             · exact hA.out x q
             · omega, hB.out.trans (hO2.toBelow hsz (fun x hx q => by have := hA.out x q; omega)), by rw [hy.out]; exact List.Perm.append_right _ hp.out⟩)
           clear c0 c1 hR2 hO2 hA2)
        go_roundw
        case rel => exact ⟨k + 1, by omega, by go_num, HP.out⟩
        case measure => simp [intOf]; omega
    · obtain rfl : k = len := by omega
      have hpe := hp.out
      rw [show List.take k l = l by rw [← hln.out]; exact List.take_length] at hpe
      replace hpe := Lib.hid hpe
      replace hB := Lib.hid hB
      clear hp
      go_wp2_with fail
      go_ret
      exact ⟨A1, cap1, o, by rw [hom.out]; rfl, hR.out, hA.out, hB.out, hpe.out⟩
set_option maxHeartbeats 1000000 in
theorem play_any (W : World) (l : List Ac) (A : Option Addr) (cap : Nat) (hl : l.length ≤ 1000) (hP : ActsAt W A l) (hs : ShortA l) :
    Calls Tryz.prog 25 #[.slice A l.length cap] W (Out W (plays l)) := by
  have hI := Lib.hid (show OInv W W (plays (l.take 0)) (.slice none 0 0) from ⟨none, 0, [], rfl, Row.nil _ _ _ _, by simp [In], Below.refl _ _, by simp [plays]⟩)
  replace hP := Lib.hid hP
  replace hs := Lib.hid hs
  generalize hln : l.length = len at *
  replace hln := Lib.hid hln
  go_enter Tryz.func25, Tryz.ntmps25
  go_wp2_with fail
  go_loopw [3, 4] (fun v i wr => ∃ k : Nat, k ≤ len ∧ i = .int .i64 k ∧ OInv W wr (plays (l.take k)) v) (fun _ i _ => len - (intOf i).toNat)
  case atStart => exact ⟨0, Nat.zero_le _, rfl, hI.out⟩
  case round =>
    obtain ⟨k, hk, rfl, A1, cap1, o, rfl, hR, hA, hB, hp⟩ := hrel
    clear hI
    have hol : o.length ≤ 1000 := by
      have h1 := hp.length_eq
      have h2 := plays_len (l.take k)
      rw [List.length_take] at h2
      have := hln.out
      omega
    have hsh : Short o := short_perm (plays_short (l := l.take k) (fun x hx => hs.out x (List.mem_of_mem_take hx))) hp
    have hpr := prs_pairs hR hsh
    by_cases hlt : k < len
    · have hkl : k < l.length := by rw [hln.out]; exact hlt
      obtain ⟨b, of, rfl, hb, c0, c1, c2, s0, s1⟩ := hP.out k hkl
      rw [← hB.cell (p := ⟨b, _, none⟩) hb] at c0 c1 c2
      have hbr : b < wr.heap.size := by have := hB.size; omega
      have hsn := plays_snoc hkl
      generalize aat l k = x at *
      obtain ⟨xo, pk, pv⟩ := x
      simp only at c0 c1 c2 s0 s1
      have hW := without_any wr o A1 cap1 (by omega) hpr pk
      have hPt := fun w2 (hb : Below wr.heap.size wr w2) => refput_any w2 o A1 cap1 (by omega) (hpr.below hb) pk pv
      have hnext : ∀ w2 e, Out wr (act (plays (l.take k)) (xo, pk, pv)) e w2 → ∃ v, e = .returned v ∧ OInv W w2 (plays (l.take (k + 1))) v := by
        rintro w2 e ⟨A2, cap2, o2, rfl, hR2, hA2, hB2, hp2⟩
        exact ⟨_, rfl, A2, cap2, o2, rfl, hR2, fun x hx => Nat.le_trans hB.size (hA2 x hx), hB.trans (hB2.mono hB.size), by rw [hsn]; exact hp2⟩
      generalize hom : o.length = m at *
      cases xo with
      | true =>
        have hW2 := hW.mono fun e w' q => hnext w' e (by
          obtain ⟨A2, cap2, o2, q1, q2, q3, q4, q5⟩ := q
          exact ⟨A2, cap2, o2, q1, q2, q3, q4, q5.trans (act_perm hp (true, pk, pv))⟩)
        replace hW2 := Lib.hid hW2
        clear hW hPt hnext hom hR hA hB hp hsh hpr hsn hol hkl
        go_wp2_with (go_at_call 53
                     refine hW2.out.mono ?_
                     rintro e w2 ⟨v, rfl, hO⟩
                     replace hO := Lib.hid hO
                     clear hW2 c0 c1 c2)
        go_roundw
        case rel => exact ⟨k + 1, by omega, by go_num, hO.out⟩
        case measure => simp [intOf]; omega
      | false =>
        have hW2 := fun n => (hPt (wr.drewN n) ⟨rfl, rfl, rfl, Nat.le_refl _, fun _ _ => rfl⟩).mono fun e w' q => hnext w' e (by
          obtain ⟨A2, cap2, o2, q1, q2, q3, q4, q5⟩ := q
          exact ⟨A2, cap2, o2, q1, q2, q3, (show Below wr.heap.size wr (wr.drewN n) from ⟨rfl, rfl, rfl, Nat.le_refl _, fun _ _ => rfl⟩).trans q4, q5.trans (act_perm hp (false, pk, pv))⟩)
        have hbc := Lib.hid (fun w2 (h : ∃ v, OInv W w2 (plays (l.take (k + 1))) v) => show True from trivial)
        replace hW2 := Lib.hid hW2
        have hbW : b < W.heap.size := hb
        have d1 := Lib.hid (fun w2 v (h : OInv W w2 (plays (l.take (k + 1))) v) => show w2.cell? ⟨b, of + k * 3 + 1, none⟩ = some (.string pk) ∧ w2.cell? ⟨b, of + k * 3 + 2, none⟩ = some (.string pv) from by
          obtain ⟨_, _, _, _, _, _, hB2, _⟩ := h
          exact ⟨by rw [hB2.cell (p := ⟨b, _, none⟩) hb, ← c1, hB.cell (p := ⟨b, _, none⟩) hb], by rw [hB2.cell (p := ⟨b, _, none⟩) hb, ← c2, hB.cell (p := ⟨b, _, none⟩) hb]⟩)
        clear hW hPt hnext hom hR hA hB hp hsh hpr hsn hol hkl hbc
        go_upto_region 7 with (fail)
        go_region_held3 (fun w' => w'.cell? ⟨b, of + k * 3 + 1, none⟩ = some (.string pk) ∧ w'.cell? ⟨b, of + k * 3 + 2, none⟩ = some (.string pv)) (go_keep)
          (first
            | (go_at_call 18
               refine (hW2.out 1).mono ?_
               rintro e w2 ⟨v, rfl, hO⟩
               obtain ⟨e1, e2⟩ := d1.out w2 v hO
               replace hO := Lib.hid hO
               clear hW2))
        all_goals
          go_wp2_with fail
          go_roundw
          case rel => exact ⟨k + 1, by omega, by go_num, hO.out⟩
          case measure => simp [intOf]; omega
    · obtain rfl : k = len := by omega
      rw [show List.take k l = l by rw [← hln.out]; exact List.take_length] at hp
      generalize hom : o.length = m at *
      have hO := Lib.hid (show Out W (plays l) (.returned (.slice A1 m cap1)) wr from ⟨A1, cap1, o, by rw [hom], hR, hA, hB, hp⟩)
      clear hom hR hA hB hp hsh hpr hol
      go_wp2_with fail
      go_ret
      exact hO.out
end Go.Proofs.YtpfpanfpjopcjaaGreat.LawTw
/- Walks over layer 12 (del): a del; what its parts answer; its steps. -/
namespace Go.Proofs.YtpfpanfpjopcjaaGreat.Dl
open Go Go.RowKit Hp K Fl Rw Hm Ar Mm Me Wk Ta Pn Pc Pu
set_option maxRecDepth 100000

/-- A del: its seek, which step comes next (2: going to the key). -/
structure Dt extends Sk where
  nx : Nat
  mine : Nat
def dnv (nx f : Nat) : Value := if nx = 2 then wfm 54 (ptr f) else if nx = 4 then wfm 84 (ptr f)
  else if nx = 5 then wfm 113 (ptr f) else if nx = 6 then wfm 83 (ptr f) else wf0 111
def dlc (a : Qa) (D : Dt) : Array Value := #[ptr a.s, dnv D.nx a.f, .int .u64 D.mine]
def DeAt (w : World) (a : Qa) (D : Dt) : Prop := Blk w a.f 116 (dlc a D) ∧ SkAt w a.sa D.toSk
def dfoot (a : Qa) (D : Dt) (x : Nat) : Prop := x = a.f ∨ sfoot a.sa D.toSk x
abbrev delTypes : List TypeId := [116, 134, 151, 149]
abbrev dlL : Lay Qa Dt := ⟨Qa.f, DeAt, dfoot⟩
section
variable {w w' : World} {M : Mo} {a : Qa} {D : Dt}
theorem DeAt.ty (h : DeAt w a D) {x : Nat} (hx : dfoot a D x) : Ty w x delTypes := by
  obtain ⟨h1, h2⟩ := h
  rcases hx with rfl | hx
  · exact (blk_ty h1).mono (by simp)
  · exact (h2.ty hx).mono (fun t ht => List.mem_cons_of_mem _ ht)
theorem DeAt.far (h : DeAt w a D) (hM : MemAt w M) {x : Nat} (hx : dfoot a D x) : ¬ mfoot M x := fun hm => (hM.ty hm).apart (h.ty hx) (by decide)
theorem DeAt.only {S : Nat → Prop} (h : DeAt w a D) (ho : Only S w w') (hn : ∀ x, dfoot a D x → ¬ S x) : DeAt w' a D :=
  ⟨h.1.only ho (hn _ (.inl rfl)), h.2.only ho (fun x hx => hn _ (.inr hx))⟩
theorem DeAt.below (h : DeAt w a D) (hb : Below w.heap.size w w') : DeAt w' a D := h.only (Only.ofBelow hb (fun _ => False)) (by simp)
theorem DeAt.drewN (h : DeAt w a D) (n : Nat) : DeAt (w.drewN n) a D := h.only ((Only.refl (fun _ => False) w).drewN n) (by simp)
theorem DeAt.hd (h : DeAt w a D) : w.cell? ⟨a.f, 0, none⟩ = some (ptr a.s) ∧ w.cell? ⟨a.f, 1, none⟩ = some (dnv D.nx a.f) ∧ w.cell? ⟨a.f, 2, none⟩ = some (.int .u64 D.mine) :=
  ⟨h.1.cell 0, h.1.cell 1, h.1.cell 2⟩
theorem DeAt.frz (h : DeAt w a D) (i : Nat) : w.frozen? ⟨a.f, i, none⟩ = false := h.1.frozen i
theorem DeAt.self (h : DeAt w a D) {x : Nat} (hx : sfoot a.sa D.toSk x) : x ≠ a.f := by
  rintro rfl
  exact (h.2.ty hx).apart (blk_ty h.1) (by decide)
theorem DeAt.own (h : DeAt w a D) {D' : Dt} (hB : Blk w' a.f 116 (dlc a D')) (ho : Only (· = a.f) w w') (eS : D'.toSk = D.toSk) : DeAt w' a D' :=
  ⟨hB, by rw [eS]; exact h.2.only ho (fun x hx e => h.self hx e)⟩
/-- What comes next, written down. -/
theorem DeAt.next (h : DeAt w a D) (n : Nat) : DeAt (w.setCell ⟨a.f, 1, none⟩ (dnv n a.f)) a { D with nx := n } :=
  h.own (h.1.store 1 (dnv n a.f)) ((Only.refl (· = a.f) w).setCell (p := ⟨a.f, 1, none⟩) (.inl rfl) (dnv n a.f)) rfl
/-- The seek turned. -/
theorem DeAt.sought {S : Nat → Prop} {a' : Sa} {S' : Sk} (h : DeAt w a D) (hS : SkAt w' a' S') (ef : a'.f = a.s) (ho : Only S w w') (hn : ¬ S a.f) : DeAt w' { a with w := a'.w } { D with toSk := S' } := by
  obtain ⟨f', b'⟩ := a'
  subst ef
  refine ⟨?_, hS⟩
  have := h.1.only ho hn
  unfold dlc at this ⊢
  exact this
/-- The handle, and what comes next, written down. -/
theorem DeAt.went (h : DeAt w a D) (x n : Nat) : DeAt ((w.setCell ⟨a.f, 2, none⟩ (.int .u64 x)).setCell ⟨a.f, 1, none⟩ (dnv n a.f)) a { D with mine := x, nx := n } ∧
    Only (· = a.f) w ((w.setCell ⟨a.f, 2, none⟩ (.int .u64 x)).setCell ⟨a.f, 1, none⟩ (dnv n a.f)) := by
  have hP2 : DeAt (w.setCell ⟨a.f, 2, none⟩ (.int .u64 x)) a { D with mine := x } := h.own (by simpa [dlc] using h.1.store 2 (.int .u64 x)) ((Only.refl (· = a.f) w).setCell (p := ⟨a.f, 2, none⟩) (.inl rfl) (.int .u64 x)) rfl
  exact ⟨hP2.next n, ((Only.refl (· = a.f) w).setCell (p := ⟨a.f, 2, none⟩) (.inl rfl) (.int .u64 x)).setCell (p := ⟨a.f, 1, none⟩) (.inl rfl) (dnv n a.f)⟩
/-- What a step leaves. -/
abbrev DStp (w : World) (M : Mo) (a : Qa) (D : Dt) (L' : Lm) (D' : Dt) (w' : World) : Prop := dlL.Stp w M a D L' D' w'
/-- The same seek at the same place. -/
theorem dfoot_eq {a a' : Qa} {D D' : Dt} (ea : a' = a) (eS : D'.H.f = D.H.f) {n : Nat} (x : Nat) (q : dfoot a' D' x) : dfoot a D x ∨ n ≤ x := by
  subst ea
  rcases q with q | q | q | q
  · exact .inl (.inl q)
  · exact .inl (.inr (.inl q))
  · exact .inl (.inr (.inr (.inl (q.trans eS))))
  · exact .inl (.inr (.inr (.inr q)))
/-- The memory turned, then its own block. -/
theorem waits_stp {L' : Lm} {D' : Dt} {w1 w2 : World} (h : Waits w M L' w1) (hP : DeAt w a D) (hM : MemAt w M) (hP2 : DeAt w1 a D → DeAt w2 a D') (eS : D'.H.f = D.H.f) (ho : Only (· = a.f) w1 w2) : DStp w M a D L' D' w2 := by
  obtain ⟨M1, hM1, el, hK, hO⟩ := h
  have hP1 := hP.only hO (fun x hx q => hP.far hM hx q)
  exact ⟨M1, a, hM1.only ho (fun x hx q => hP1.far hM1 (.inl rfl) (q ▸ hx)), el, hK, hP2 hP1, rfl, dfoot_eq rfl eS, (hO.mono (fun x _ q => (.inl q : mfoot M x ∨ dfoot a D x))).trans' ho (fun x _ q => .inr (.inl q))⟩
/-- What a del's step comes to. -/
def dstep (L : Lm) (D : Dt) : Lm × Dt :=
  if D.nx = 2 then ((sstep L D.toSk).1, { D with toSk := (sstep L D.toSk).2, nx := if sdone L D.toSk = true then (if (sstep L D.toSk).2.W.found ≠ 0 then 4 else 6) else 2 })
  else if D.nx = 4 then (slead L D.toSk D.W.nd.next.toNat, { D with mine := D.W.found, nx := 5 })
  else if D.nx = 5 then ({ L with ws := L.ws ++ [D.mine] }, { D with mine := 0, nx := 6 })
  else ({ L with hs := L.hs.set D.H.lock (-1) }, { D with H := { D.H with holds := false }, nx := 7 })
def dready (L : Lm) (D : Dt) : Bool := sready L D.toSk
def ddone (_ : Lm) (D : Dt) : Bool := decide (6 ≤ D.nx)
/-- What a del's steps ask. -/
structure Okdl (L : Lm) (D : Dt) : Prop where
  nx : D.nx = 2 ∨ D.nx = 4 ∨ D.nx = 5 ∨ D.nx = 6
  ph : D.nx ≠ 2 → D.ph ≠ 1
  sk : D.nx = 2 → ∃ r, Oks r L D.toSk
  lead : D.nx = 4 → 0 ≤ D.W.nd.next ∧ Okd L D.toSk D.W.nd.next.toNat
  ret : D.nx = 5 → L.ws.length ≤ 1000000
  drop : D.nx = 6 → Okl L.xs L.ds (L.hs, D.H) ∧ D.H.holds = true
/-- What a step leaves, with its own block and its seek's where they lay. -/
def WentD (w : World) (M : Mo) (a : Qa) (D : Dt) (L' : Lm) (D' : Dt) (w' : World) : Prop :=
  ∃ M' b, MemAt w' M' ∧ lm M' = L' ∧ Kin w M M' ∧ DeAt w' { a with w := b } D' ∧ (∀ x, dfoot { a with w := b } D' x → dfoot a D x ∨ w.heap.size ≤ x) ∧ Only (fun x => mfoot M x ∨ dfoot a D x) w w'
theorem WentD.stp {L' : Lm} {D' : Dt} (h : WentD w M a D L' D' w') : DStp w M a D L' D' w' := by
  obtain ⟨M', b, h1, h2, h3, h4, h5, h6⟩ := h
  exact ⟨M', { a with w := b }, h1, h2, h3, h4, rfl, h5, h6⟩
theorem dsought_any (hM : MemAt w M) (h : DeAt w a D) {r : Nat} (ok : Oks r (lm M) D.toSk) (hr : sready (lm M) D.toSk = true) :
    Calls Tryz.prog 71 #[ptr a.s, ptr M.m] w fun e w' => e = .returned (.bool (sdone (lm M) D.toSk)) ∧ WentD w M a D (sstep (lm M) D.toSk).1 { D with toSk := (sstep (lm M) D.toSk).2 } w' := by
  refine (sk_step hM h.2 ok hr).mono fun e w' q => ⟨q.1, ?_⟩
  obtain ⟨M', a', h1, h2, h3, h4, h5, h6, h7⟩ := q.2
  have hp := h.sought h4 h5 h7 (by
    rintro (q | q)
    · exact h.far hM (.inl rfl) q
    · exact h.self q rfl)
  refine ⟨M', a'.w, h1, h2, h3, hp, ?_, h7.mono fun x _ q => q.imp id .inr⟩
  rintro x (q | q)
  · exact .inl (.inl q)
  · have e : a' = (⟨a.s, a'.w⟩ : Sa) := by
      obtain ⟨f', b'⟩ := a'
      have : f' = a.s := h5
      rw [this]
    exact (h6 x (by rw [e]; exact q)).imp .inr id
theorem mine_any (h : DeAt w a D) : Calls Tryz.prog 27 #[ptr a.f] w fun e w' => e = .returned (.int .u64 D.mine) ∧ w = w' := by
  have c := h.hd.2.2
  clear h
  go_enter Tryz.func27, Tryz.ntmps27
  go_wp2
  go_ret
  exact ⟨rfl, rfl⟩
theorem had_any (h : DeAt w a D) : Calls Tryz.prog 28 #[ptr a.f] w fun e w' => e = .returned (.tuple #[.string D.W.nd.val, .bool (decide (D.W.found ≠ 0))]) ∧ Below w.heap.size w w' := by
  have c := h.hd.1
  have hR := found_sk h.2
  unfold ndv at hR
  generalize decide (D.W.found ≠ 0) = b at *
  generalize D.W.found = x at *
  generalize D.W.nd = n at *
  obtain ⟨nk, nv, ns, nn⟩ := n
  simp only at hR ⊢
  replace hR := Lib.hid hR
  clear h
  go_enter Tryz.func28, Tryz.ntmps28
  go_wp2_with fail
  refine hR.out.mono ?_
  rintro e w1 ⟨rfl, hb⟩
  have hb2 := Lib.hid ((hb.alloc (o := .cells #[.string nk, .string nv, .int .u32 ns, .int .u64 nn] 89) hb.size))
  clear c hb
  go_wp2_with fail
  go_ret2
  exact ⟨rfl, hb2.out⟩
set_option maxHeartbeats 1000000 in
theorem goTo_any (hM : MemAt w M) (h : DeAt w a D) {r : Nat} (ok : Oks r (lm M) D.toSk) (hr : sready (lm M) D.toSk = true) (h2 : D.nx = 2) :
    Calls Tryz.prog 54 #[ptr a.f, ptr M.m] w fun e w' => e = .returned (.bool false) ∧ DStp w M a D (dstep (lm M) D).1 (dstep (lm M) D).2 w' := by
  have hS := dsought_any hM h ok hr
  have c3 := h.hd.1
  unfold dstep
  rw [if_pos h2]
  simp only
  cases hdn : sdone (lm M) D.toSk with
  | false =>
    rw [hdn] at hS
    rw [if_neg (by simp)]
    generalize sstep (lm M) D.toSk = z at *
    have hS' := hS.mono fun e w' q => And.intro q.1 q.2.stp
    have eP : ({ D with toSk := z.2, nx := 2 } : Dt) = { D with toSk := z.2 } := by rw [← h2]
    rw [eP]
    replace hS := Lib.hid hS'
    clear hdn h hM ok hr h2 eP hS'
    go_enter Tryz.func54, Tryz.ntmps54
    go_wp2_with fail
    refine hS.out.mono ?_
    rintro e w1 ⟨rfl, hW⟩
    replace hW := Lib.hid hW
    clear hS c3
    go_wp2_with fail
    go_ret
    exact ⟨rfl, hW.out⟩
  | true =>
    rw [hdn] at hS
    rw [if_pos rfl]
    generalize sstep (lm M) D.toSk = z at *
    obtain ⟨L', S'⟩ := z
    simp only at hS ⊢
    replace hS := Lib.hid hS
    clear hdn h hM ok hr h2
    obtain ⟨cb, hcb⟩ : ∃ cb, cb = decide (S'.W.found ≠ 0) := ⟨_, rfl⟩
    have e6 : (if S'.W.found ≠ 0 then 4 else 6 : Nat) = if cb = true then 4 else 6 := by rw [hcb]; simp
    rw [e6]
    clear e6
    replace hcb := Lib.hid hcb
    go_enter Tryz.func54, Tryz.ntmps54
    go_wp2_with fail
    refine hS.out.mono ?_
    rintro e w1 ⟨rfl, M1, b, hM1, el, hK, hP1, hf1, hO1⟩
    have k4 := hP1.hd.2.1
    have z4 := hP1.frz 1
    have hP6 := hP1.next 6
    have hO6 := (Only.refl (· = a.f) w1).setCell (p := ⟨a.f, 1, none⟩) (.inl rfl) (dnv 6 a.f)
    have far1 : ∀ x, mfoot M1 x → ¬ x = a.f := fun x hx q => hP1.far hM1 (.inl rfl) (q ▸ hx)
    have hM6 := hM1.only hO6 far1
    have hO06 := hO1.trans' hO6 (fun x _ q => .inr (.inl q))
    have hFd := found_sk hP6.2
    unfold ndv at hFd
    rw [← hcb.out] at hFd
    obtain ⟨x, hx⟩ : ∃ x, x = S'.W.found := ⟨_, rfl⟩
    obtain ⟨n, hn⟩ : ∃ n, n = S'.W.nd := ⟨_, rfl⟩
    rw [← hx, ← hn] at hFd
    obtain ⟨nk, nv, ns, nn⟩ := n
    simp only at hFd
    obtain ⟨w2, hw2⟩ : ∃ w2, w2 = w1.setCell ⟨a.f, 1, none⟩ (wfm 83 (ptr a.f)) := ⟨_, rfl⟩
    have hw2' : w1.setCell ⟨a.f, 1, none⟩ (dnv 6 a.f) = w2 := hw2.symm
    rw [hw2'] at hFd hM6 hP6 hO06
    have h6 := Lib.hid (fun w3 (hb : Below w2.heap.size w2 w3) => show DStp w M a D L' { D with toSk := S', nx := 6 } w3 from
      ⟨M1, { a with w := b }, hM6.below hb, el, hK, hP6.below hb, rfl, hf1, hO06.below hb⟩)
    have h4 := Lib.hid (fun w3 (hb : Below w2.heap.size w2 w3) => show DStp w M a D L' { D with toSk := S', nx := 4 } (w3.setCell ⟨a.f, 1, none⟩ (dnv 4 a.f)) from by
      have hM3 := hM6.below hb
      have hP3 := hP6.below hb
      have hO3 := hO06.below hb
      have hO4 := (Only.refl (· = a.f) w3).setCell (p := ⟨a.f, 1, none⟩) (.inl rfl) (dnv 4 a.f)
      exact ⟨M1, { a with w := b }, hM3.only hO4 (fun x hx q => hP3.far hM3 (.inl rfl) (q ▸ hx)), el, hK, hP3.next 4, rfl, hf1, hO3.trans' hO4 (fun x _ q => .inr (.inl q))⟩)
    have hq := Lib.hid (fun w3 (hb : Below w2.heap.size w2 w3) => show w3.cell? ⟨a.f, 1, none⟩ = some (dnv 6 a.f) ∧ w3.frozen? ⟨a.f, 1, none⟩ = false ∧ a.f < w3.heap.size from
      ⟨(hP6.below hb).hd.2.1, (hP6.below hb).frz 1, (hP6.below hb).1.lt⟩)
    have k0 := hP6.hd.1
    have l0 := hP6.1.lt
    replace hFd := Lib.hid hFd
    clear hO6 hM1 hP1 hO1 hS c3 far1 hx hn hM6 hP6 hO06 el hK hf1 hw2'
    go_upto_region 4 with (fail)
    rw [← hw2]
    clear hw2 k4 z4
    go_wp2_with fail
    refine hFd.out.mono ?_
    rintro e w3 ⟨rfl, hb3⟩
    have hb4 := hb3.alloc (o := .cells #[.string nk, .string nv, .int .u32 ns, .int .u64 nn] 89) hb3.size
    obtain ⟨w4, hw4⟩ : ∃ w4, w4 = w3.alloc (.cells #[.string nk, .string nv, .int .u32 ns, .int .u64 nn] 89) := ⟨_, rfl⟩
    rw [← hw4] at hb4
    obtain ⟨k4, z4, l4⟩ := hq.out w4 hb4
    have h6' := Lib.hid (h6.out w4 hb4)
    have h4' := Lib.hid (h4.out w4 hb4)
    clear hb3 hb4 hFd h6 h4 hq k0 l0
    go_upto_region 5 with (fail)
    rw [← hw4]
    clear hw4
    cases cb
    all_goals
      go_wp2_with fail
      go_ret
      first
        | exact ⟨rfl, h4'.out⟩
        | exact ⟨rfl, h6'.out⟩
set_option maxHeartbeats 1000000 in
theorem passOver_step (hM : MemAt w M) (h : DeAt w a D) (hz : 0 ≤ D.W.nd.next) (ok : Okd (lm M) D.toSk D.W.nd.next.toNat) (h4 : D.nx = 4) :
    Calls Tryz.prog 84 #[ptr a.f, ptr M.m] w fun e w' => e = .returned (.bool false) ∧ DStp w M a D (dstep (lm M) D).1 (dstep (lm M) D).2 w' := by
  have hFd := found_sk h.2
  have hR := fun w1 (hb : Below w.heap.size w w1) => (lead_any (hM.below hb) (h.2.below hb) ok).mono fun e w' q => show e = .returned (.tuple #[]) ∧ Waits w M (slead (lm M) D.toSk D.W.nd.next.toNat) w' ∧ Only (mfoot M) w1 w' from
    ⟨q.1, by obtain ⟨M', h1, h2, h3, _, h5⟩ := q.2; exact ⟨⟨M', h1, h2, (Kin.refl w M).trans h3 hb.size, (Only.ofBelow hb _).trans h5⟩, h5⟩⟩
  rw [show ((D.W.nd.next.toNat : Nat) : Int) = D.W.nd.next by omega] at hR
  have c0 := h.hd.1
  have HP := Lib.hid h
  have HM := Lib.hid hM
  have hlt := Lib.hid (fun x (q : mfoot M x) => hM.lt q)
  unfold dstep
  rw [if_neg (by omega), if_pos h4]
  generalize slead (lm M) D.toSk D.W.nd.next.toNat = L' at *
  obtain ⟨x, hx⟩ : ∃ x, x = D.W.found := ⟨_, rfl⟩
  obtain ⟨n, hn⟩ : ∃ n, n = D.W.nd := ⟨_, rfl⟩
  unfold ndv at hFd
  rw [← hx, ← hn] at hFd
  rw [← hn] at hR
  rw [← hx]
  obtain ⟨nk, nv, ns, nn⟩ := n
  generalize decide (x ≠ 0) = bx at *
  simp only at hFd hR
  have hEnd : Hid (∀ w1 w2 (D' : Dt), Waits w M L' w1 → (DeAt w1 a D → DeAt w2 a D') → D'.H.f = D.H.f → Only (· = a.f) w1 w2 → DStp w M a D L' D' w2) := Lib.hid (fun w1 w2 D' hW hq eS ho => waits_stp hW h hM hq eS ho)
  replace hFd := Lib.hid hFd
  replace hR := Lib.hid hR
  clear h hM h4 ok hx hn hz
  go_enter Tryz.func84, Tryz.ntmps84
  go_wp2_with fail
  refine hFd.out.mono ?_
  rintro e w1 ⟨rfl, hb1⟩
  have hb2 := hb1.alloc (o := .cells #[.string nk, .string nv, .int .u32 ns, .int .u64 nn] 89) hb1.size
  obtain ⟨w2, hw2⟩ : ∃ w2, w2 = w1.alloc (.cells #[.string nk, .string nv, .int .u32 ns, .int .u64 nn] 89) := ⟨_, rfl⟩
  rw [← hw2] at hb2
  have hN2 : Blk w2 w1.heap.size 89 #[.string nk, .string nv, .int .u32 ns, .int .u64 nn] := by rw [hw2]; exact Blk.made w1 _ _
  obtain ⟨nb, hnb⟩ : ∃ nb, nb = w1.heap.size := ⟨_, rfl⟩
  rw [← hnb] at hN2
  have hnbw : w.heap.size ≤ nb := by rw [hnb]; exact hb1.size
  have j0 := (HP.out.below hb2).hd.1
  have j3 := hN2.cell 3
  simp at j3
  have hR2 := Lib.hid (fun n => hR.out (w2.drewN n) (hb2.trans ⟨rfl, rfl, rfl, by simp, fun _ _ => rfl⟩))
  have hN2' := Lib.hid (fun n => show Blk (w2.drewN n) nb 89 #[.string nk, .string nv, .int .u32 ns, .int .u64 nn] from hN2.only ((Only.refl (fun _ => False) w2).drewN n) (by simp))
  clear hb1 hb2 hR hFd c0 hN2
  go_upto_region 2 with (fail)
  rw [← hw2, ← hnb]
  clear hw2 hnb
  go_region_held3 (fun w' => w'.cell? ⟨a.f, 0, none⟩ = some (ptr a.s) ∧ w'.cell? ⟨nb, 3, none⟩ = some (.int .u64 nn)) (go_keep)
    (first
      | (go_at_call 112
         refine (hR2.out 1).mono ?_
         rintro e w3 ⟨rfl, hW, hO⟩
         have hP3 : DeAt w3 a D := by
           obtain ⟨M1, _, _, _, hO⟩ := hW
           exact HP.out.only hO (fun x hx q => HP.out.far HM.out hx q)
         have k0 := hP3.hd.1
         have k1 := hP3.hd.2.1
         have k2 := hP3.hd.2.2
         have z1 := hP3.frz 1
         have z2 := hP3.frz 2
         have hN3 := (hN2'.out 1).only hO (fun q => by have := hlt.out _ q; omega)
         have k3 := hN3.cell 3
         simp at k3
         have hE := Lib.hid (hEnd.out _ _ _ hW (fun q => (q.went x 5).1) rfl (hP3.went x 5).2)
         clear hP3 hW hO hN3 hR2))
  all_goals
    go_wp2_with fail
    go_ret
    exact ⟨rfl, hE.out⟩
theorem dretire_step (hM : MemAt w M) (h : DeAt w a D) (hn : M.ws.length ≤ 1000000) (h5 : D.nx = 5) :
    Calls Tryz.prog 113 #[ptr a.f, ptr M.m] w fun e w' => e = .returned (.bool false) ∧ DStp w M a D (dstep (lm M) D).1 (dstep (lm M) D).2 w' := by
  have hR := Lib.hid (waits_any hM D.mine hn)
  have c6 := h.hd.2.2
  have HP := Lib.hid h
  have HM := Lib.hid hM
  unfold dstep
  rw [if_neg (by omega), if_neg (by omega), if_pos h5]
  clear h hM hn h5
  go_enter Tryz.func113, Tryz.ntmps113
  go_wp2_with fail
  refine hR.out.mono ?_
  rintro e w1 ⟨rfl, hW⟩
  have hP1 : DeAt w1 a D := by
    obtain ⟨M1, _, _, _, hO⟩ := hW
    exact HP.out.only hO (fun x hx q => HP.out.far HM.out hx q)
  have k6 := hP1.hd.2.2
  have k4 := hP1.hd.2.1
  have z6 := hP1.frz 2
  have z4 := hP1.frz 1
  have hE := Lib.hid (waits_stp hW HP.out HM.out (fun q => (q.went 0 6).1) rfl (hP1.went 0 6).2)
  clear hP1 hW hR c6
  go_wp2_with fail
  go_ret
  exact ⟨rfl, hE.out⟩
theorem ddrop_step (hM : MemAt w M) (h : DeAt w a D) (hl : Okl M.xs M.ds (M.hs, D.H)) (hh : D.H.holds = true) (h6 : D.nx = 6) :
    Calls Tryz.prog 83 #[ptr a.f, ptr M.m] w fun e w' => e = .returned (.bool true) ∧ DStp w M a D (dstep (lm M) D).1 (dstep (lm M) D).2 w' := by
  have hR := Lib.hid (drop_sk hM h.2 hl hh)
  have c3 := h.hd.1
  have HP := Lib.hid h
  have HM := Lib.hid hM
  unfold dstep
  rw [if_neg (by omega), if_neg (by omega), if_neg (by omega)]
  clear h hM hl hh h6
  go_enter Tryz.func83, Tryz.ntmps83
  go_wp2_with fail
  refine hR.out.mono ?_
  rintro e w1 ⟨rfl, hM1, hS1, hO1⟩
  have hP1 := HP.out.sought hS1 rfl hO1 (by
    rintro (q | q)
    · exact HP.out.far HM.out (.inl rfl) q
    · exact HP.out.self q rfl)
  have k4 := hP1.hd.2.1
  have z4 := hP1.frz 1
  have hP3 := Lib.hid (hP1.next 7)
  have hO3 := (Only.refl (· = a.f) w1).setCell (p := ⟨a.f, 1, none⟩) (.inl rfl) (dnv 7 a.f)
  have hM3 := Lib.hid (hM1.only hO3 (fun x hx q => hP1.far hM1 (.inl rfl) (q ▸ hx)))
  have hO03 : Hid (Only (fun x => mfoot M x ∨ dfoot a D x) w _) := Lib.hid ((hO1.mono (fun x _ q => q.imp id .inr)).trans' hO3 (fun x _ q => .inr (.inl q)))
  clear hP1 hO3 hM1 hO1 hR c3 hS1
  go_wp2_with fail
  go_ret
  exact ⟨rfl, _, a, hM3.out, rfl, ⟨rfl, rfl, rfl, rfl, fun _ q => .inl q⟩, hP3.out, rfl, dfoot_eq rfl rfl, hO03.out⟩
end
end Go.Proofs.YtpfpanfpjopcjaaGreat.Dl
