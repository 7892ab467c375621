/- TableHolds: the hold, the document's hold, the sizes, beside the memory. -/
import Derived.Test.YtfknleligabgcaaHoMath
import Derived.Test.YtfknleligabgcaaObjs
namespace Go.Proofs.Ytfknleligabgcaa.LawEight
open Go Go.RowKit Hp K Fl Rw Hm Ar Mm Me Ta Ob
set_option maxRecDepth 100000

structure SR (W0 w : World) (wb sb : Nat) (M : Mo) (H : Ho) (p q : Nat) (obj : Nat → Option Thing) : Prop where
  ob : Objs W0 w M obj
  o0 : obj 0 = some (H.f, box 60 (hoc H))
  o1 : obj 1 = some (wb, box 34 #[.int .i64 p, .int .i64 q])
  o2 : ∃ cs, obj 2 = some (sb, box 3 cs) ∧ ∀ i, i < 5 → cs[i]? = some (.int .i64 (szs.getD i 0 : Nat))
/-- The law's state. -/
def T8 (W0 w : World) (wb sb : Nat) (M : Mo) (H : Ho) (p q : Nat) : Prop := ∃ obj, SR W0 w wb sb M H p q obj
section
variable {W0 w w' : World} {wb sb : Nat} {M M' : Mo} {H H' : Ho} {p q : Nat}
theorem T8.down (h : T8 W0 w wb sb M H p q) (hb : Below w.heap.size w w') : T8 W0 w' wb sb M H p q := by
  obtain ⟨obj, h⟩ := h
  exact ⟨obj, { h with ob := h.ob.down hb }⟩
theorem T8.drewN (h : T8 W0 w wb sb M H p q) (n : Nat) : T8 W0 (w.drewN n) wb sb M H p q := h.down ⟨rfl, rfl, rfl, Nat.le_refl _, fun _ _ => rfl⟩
theorem T8.mem (h : T8 W0 w wb sb M H p q) : MemAt w M := by obtain ⟨obj, h⟩ := h; exact h.ob.mem
theorem T8.hold (h : T8 W0 w wb sb M H p q) : HoAt w H := by obtain ⟨obj, h⟩ := h; exact h.ob.blk h.o0
theorem T8.below (h : T8 W0 w wb sb M H p q) : Below W0.heap.size W0 w := by obtain ⟨obj, h⟩ := h; exact h.ob.below
theorem T8.lts (h : T8 W0 w wb sb M H p q) : wb < w.heap.size ∧ sb < w.heap.size ∧ M.m < w.heap.size ∧ H.f < w.heap.size := by
  obtain ⟨obj, h⟩ := h
  obtain ⟨cs, h2, _⟩ := h.o2
  exact ⟨h.ob.lt h.o1, h.ob.lt h2, h.ob.mem.1.lt, h.ob.lt h.o0⟩
theorem T8.rw (h : T8 W0 w wb sb M H p q) : w.cell? ⟨wb, 0, none⟩ = some (.int .i64 p) ∧ w.cell? ⟨wb, 1, none⟩ = some (.int .i64 q) ∧ w.frozen? ⟨wb, 0, none⟩ = false ∧ w.frozen? ⟨wb, 1, none⟩ = false := by
  obtain ⟨obj, h⟩ := h
  have hb := h.ob.blk h.o1
  exact ⟨hb.cell 0, hb.cell 1, hb.frozen 0, hb.frozen 1⟩
theorem T8.rs (h : T8 W0 w wb sb M H p q) {i : Nat} (hi : i < 5) : w.cell? ⟨sb, i, none⟩ = some (.int .i64 (szs.getD i 0 : Nat)) := by
  obtain ⟨obj, h⟩ := h
  obtain ⟨cs, h2, hc⟩ := h.o2
  have hb := h.ob.blk h2
  rw [hb.cell i]
  exact hc i hi
theorem T8.memory (h : T8 W0 w wb sb M H p q) (hM : MemAt w' M') (ho : Only (mfoot M) w w') (hf : mfoot M' = mfoot M) : T8 W0 w' wb sb M' H p q := by
  obtain ⟨obj, h⟩ := h
  exact ⟨obj, { h with ob := h.ob.memory hM ho (fun x q => .inl (by rwa [hf] at q)) }⟩
theorem T8.stepped (h : T8 W0 w wb sb M H p q) (hM : MemAt w' M') (hH : HoAt w' H') (ho : Only (fun x => mfoot M x ∨ x = H.f) w w') (e : H'.f = H.f) (hf : mfoot M' = mfoot M) : T8 W0 w' wb sb M' H' p q := by
  obtain ⟨obj, h⟩ := h
  obtain ⟨cs, h2, hc⟩ := h.o2
  refine ⟨_, { ob := h.ob.turn h.o0 hM ho (fun x q => .inl (by rwa [hf] at q)) (o' := box 60 (hoc H')) (by have := hH; unfold HoAt Blk at this; rw [e] at this; exact this), o0 := by rw [upd_same, e], o1 := by rw [upd_far (by simp)]; exact h.o1, o2 := ⟨cs, by rw [upd_far (by simp)]; exact h2, hc⟩ }⟩
theorem T8.refd (h : T8 W0 w wb sb M H p q) (p' q' : Nat) : T8 W0 ((w.setCell ⟨wb, 0, none⟩ (.int .i64 p')).setCell ⟨wb, 1, none⟩ (.int .i64 q')) wb sb M H p' q' := by
  obtain ⟨obj, h⟩ := h
  obtain ⟨cs, h2, hc⟩ := h.o2
  have s1 := h.ob.store h.o1 0 (.int .i64 p')
  have s2 := s1.store upd_same 1 (.int .i64 q')
  refine ⟨_, { ob := s2, o0 := by rw [upd_far (by simp), upd_far (by simp)]; exact h.o0, o1 := by rw [upd_same]; rfl, o2 := ⟨cs, by rw [upd_far (by simp), upd_far (by simp)]; exact h2, hc⟩ }⟩
/-- The locks turned. -/
theorem T8.locks (h : T8 W0 w wb sb M H p q) {hs' : List Int} (hL : Lo.LocksAt w' M.lg M.lb hs') (ho : Only (Lo.foot M.lg M.lb) w w') : T8 W0 w' wb sb { M with hs := hs' } H p q :=
  h.memory (h.mem.locks hL ho) (ho.mono (fun _ _ q => foot_locks _ q)) rfl
theorem T8.cells (h : T8 W0 w wb sb M H p q) {xs' : List Int} (hL : Cl.CellsAt w' M.g M.A M.cap xs') (ho : Only (Cl.foot M.g M.A) w w') : T8 W0 w' wb sb { M with xs := xs' } H p q :=
  h.memory (h.mem.cells hL ho) (ho.mono (fun _ _ q => foot_cells _ q)) rfl
/-- Worker 1 tries a lock, or frees it. -/
theorem try_one {s : Int} {cur : Nat} (h : T8 W0 w wb sb M H p q) (hl : LH M H s cur) (j : Nat) (hj : 1 ≤ j ∧ j ≤ 4) :
    Calls Try.prog 10 #[ptr M.lg, .int .i64 j, .int .i64 1] w fun e w' => ∃ (b : Bool) (n : Int) (hs' : List Int), e = .returned (.tuple #[.bool b, .int .i64 n]) ∧ T8 W0 w' wb sb { M with hs := hs' } H p q ∧ LH { M with hs := hs' } H s cur := by
  have hlen := hl.li.len
  have hbd := hl.li.bd j
  by_cases hh : 0 ≤ Lo.hol M.hs j
  · refine (Lo.try_held h.mem.2.2.1 j (by omega) 1 (by omega) hh).mono ?_
    rintro e w' ⟨rfl, rfl⟩
    exact ⟨_, _, M.hs, rfl, h, hl⟩
  · refine (Lo.try_free h.mem.2.2.1 j (by omega) 1 (by omega) (by omega) (by omega)).mono ?_
    rintro e w' ⟨rfl, hL, hO⟩
    refine ⟨_, _, _, rfl, h.locks hL hO, hl.more (hl.li.set (by omega) (.inr rfl) (fun q => ?_))⟩
    have := (hl.li.own j).2 q
    omega
theorem free_one {s : Int} {cur : Nat} (h : T8 W0 w wb sb M H p q) (hl : LH M H s cur) (j : Nat) (hj : 1 ≤ j ∧ j ≤ 4) :
    Calls Try.prog 11 #[ptr M.lg, .int .i64 j, .int .i64 1] w fun e w' => ∃ (n : Int) (hs' : List Int), e = .returned (.int .i64 n) ∧ T8 W0 w' wb sb { M with hs := hs' } H p q ∧ LH { M with hs := hs' } H s cur := by
  have hlen := hl.li.len
  by_cases hh : Lo.hol M.hs j = 1
  · refine (Lo.free_own h.mem.2.2.1 j (by omega) 1 (by omega) hh).mono ?_
    rintro e w' ⟨rfl, hL, hO⟩
    refine ⟨_, _, rfl, h.locks hL hO, hl.more (hl.li.set (by omega) (.inl rfl) (fun q => ?_))⟩
    have := (hl.li.own j).2 q
    omega
  · refine (Lo.free_other h.mem.2.2.1 j (by omega) 1 (by omega) hh).mono ?_
    rintro e w' ⟨rfl, hb⟩
    exact ⟨_, M.hs, rfl, h.down hb, hl⟩
end
/-! ### what is asked behind a step -/
section
variable {W0 w w' : World} {wb sb : Nat} {M M' : Mo} {H H' : Ho} {p q : Nat}
theorem held_none (h : T8 W0 w wb sb M H p q) (hl : LI M.hs none) : Calls Try.prog 16 #[ptr M.lg, .int .i64 0] w fun e w' => ∃ A cap, e = .returned (.slice A 0 cap) ∧ T8 W0 w' wb sb M H p q := by
  refine (Lo.held_any h.mem.2.2.1 0).mono ?_
  rw [hl.held (fun j q => by simp at q)]
  rintro e w' ⟨A, cap, rfl, _, _, hb⟩
  exact ⟨A, cap, rfl, h.down hb⟩
theorem held_one {j : Nat} (h : T8 W0 w wb sb M H p q) (hl : LI M.hs (some j)) (hj : j < 6) : Calls Try.prog 16 #[ptr M.lg, .int .i64 0] w fun e w' => ∃ b cap, e = .returned (.slice (some ⟨b, 0, none⟩) 1 cap) ∧ w'.cell? ⟨b, 0, none⟩ = some (.int .i64 j) ∧ T8 W0 w' wb sb M H p q := by
  refine (Lo.held_any h.mem.2.2.1 0).mono ?_
  rw [hl.held (fun i q => by injection q with q; omega)]
  rintro e w' ⟨A, cap, rfl, hr, _, hb⟩
  obtain ⟨b, rfl, _, hc⟩ := hr.cells (fun _ => rfl) 0 (by simp)
  have h0 := (hc 0 (by omega)).1
  exact ⟨b, cap, rfl, by simpa [Lo.int1] using h0, h.down hb⟩
theorem lock_none (h : T8 W0 w wb sb M H p q) (hh : H.holds = false) : Calls Try.prog 17 #[ptr H.f] w fun e w' => e = .returned (.int .i64 (-1)) ∧ w = w' := by
  have := lock_of h.hold
  rw [hh] at this
  exact this.mono fun e w' q => ⟨q.1, q.2.symm⟩
theorem desc_none (h : T8 W0 w wb sb M H p q) (hh : H.holds = false) : Calls Try.prog 18 #[ptr H.f] w fun e w' => e = .returned (.agg #[.int .i64 0, .int .i64 0]) ∧ T8 W0 w' wb sb M H p q := by
  have := desc_of h.hold
  rw [hh] at this
  exact this.mono fun e w' q => ⟨q.1, h.down q.2⟩
theorem drop_none (h : T8 W0 w wb sb M H p q) (hh : H.holds = false) (m : Value) : Calls Try.prog 20 #[ptr H.f, m] w fun e w' => e = .returned (.bool false) ∧ w = w' := (drop_no h.hold hh m).mono fun e w' q => ⟨q.1, q.2.symm⟩
end
/-! ### the document's step -/
def rst (p q : Nat) (fr : Bool) (cur : Nat) : Nat × Nat :=
  if p = 1 then (2, cur) else if p = 2 then (if fr = true then (3, q) else (2, q)) else if p = 3 then (if cur ≠ q then (4, q) else (5, q)) else if p = 4 then (1, q) else (p, q)
set_option maxHeartbeats 1000000 in
theorem ref_step (p q : Nat) (fr : Bool) (cur : Nat) (w : World) (hp : 1 ≤ p ∧ p ≤ 4) (hq : q < 5) (hc : cur < 5) :
    Calls Try.prog 15 #[.agg #[.int .i64 p, .int .i64 q], .bool fr, .int .i64 cur] w fun e w' => e = .returned (.agg #[.int .i64 (rst p q fr cur).1, .int .i64 (rst p q fr cur).2]) ∧ Below w.heap.size w w' := by
  rcases (by omega : p = 1 ∨ p = 2 ∨ p = 3 ∨ p = 4) with h | h | h | h
  · subst h
    rw [show rst 1 q fr cur = (2, cur) from rfl]
    clear hp
    go_enter Try.func15, Try.ntmps15
    go_wp2
    exact bodyPost_ret (v := .agg #[.int .i64 2, .int .i64 cur]) (by simp [results, Try.results15, go_sem]) rfl ⟨rfl, by first | exact ((Below.refl _ _).alloc (Nat.le_refl _) _).alloc (by simp) _ | exact (((Below.refl _ _).alloc (Nat.le_refl _) _).alloc (by simp) _).setCell (by simp) _ | exact ((((Below.refl _ _).alloc (Nat.le_refl _) _).alloc (by simp) _).setCell (by simp) _).setCell (by simp) _ | exact (((((Below.refl _ _).alloc (Nat.le_refl _) _).alloc (by simp) _).setCell (by simp) _).setCell (by simp) _).setCell (by simp) _⟩
  · subst h
    clear hp
    cases fr with
    | true =>
      rw [show rst 2 q true cur = (3, q) from rfl]
      go_enter Try.func15, Try.ntmps15
      go_wp2
      exact bodyPost_ret (v := .agg #[.int .i64 3, .int .i64 q]) (by simp [results, Try.results15, go_sem]) rfl ⟨rfl, by first | exact ((Below.refl _ _).alloc (Nat.le_refl _) _).alloc (by simp) _ | exact (((Below.refl _ _).alloc (Nat.le_refl _) _).alloc (by simp) _).setCell (by simp) _ | exact ((((Below.refl _ _).alloc (Nat.le_refl _) _).alloc (by simp) _).setCell (by simp) _).setCell (by simp) _ | exact (((((Below.refl _ _).alloc (Nat.le_refl _) _).alloc (by simp) _).setCell (by simp) _).setCell (by simp) _).setCell (by simp) _⟩
    | false =>
      rw [show rst 2 q false cur = (2, q) from rfl]
      go_enter Try.func15, Try.ntmps15
      go_wp2
      exact bodyPost_ret (v := .agg #[.int .i64 2, .int .i64 q]) (by simp [results, Try.results15, go_sem]) rfl ⟨rfl, by first | exact ((Below.refl _ _).alloc (Nat.le_refl _) _).alloc (by simp) _ | exact (((Below.refl _ _).alloc (Nat.le_refl _) _).alloc (by simp) _).setCell (by simp) _ | exact ((((Below.refl _ _).alloc (Nat.le_refl _) _).alloc (by simp) _).setCell (by simp) _).setCell (by simp) _ | exact (((((Below.refl _ _).alloc (Nat.le_refl _) _).alloc (by simp) _).setCell (by simp) _).setCell (by simp) _).setCell (by simp) _⟩
  · subst h
    clear hp
    by_cases he : cur = q
    · rw [show rst 3 q fr cur = (5, q) by simp [rst, he]]
      subst he
      go_enter Try.func15, Try.ntmps15
      go_wp2
      exact bodyPost_ret (v := .agg #[.int .i64 5, .int .i64 cur]) (by simp [results, Try.results15, go_sem]) rfl ⟨rfl, by first | exact ((Below.refl _ _).alloc (Nat.le_refl _) _).alloc (by simp) _ | exact (((Below.refl _ _).alloc (Nat.le_refl _) _).alloc (by simp) _).setCell (by simp) _ | exact ((((Below.refl _ _).alloc (Nat.le_refl _) _).alloc (by simp) _).setCell (by simp) _).setCell (by simp) _ | exact (((((Below.refl _ _).alloc (Nat.le_refl _) _).alloc (by simp) _).setCell (by simp) _).setCell (by simp) _).setCell (by simp) _⟩
    · rw [show rst 3 q fr cur = (4, q) by simp [rst, he]]
      have he2 : ((cur : Int) != (q : Int)) = true := by simp; omega
      go_enter Try.func15, Try.ntmps15
      go_wp2
      exact bodyPost_ret (v := .agg #[.int .i64 4, .int .i64 q]) (by simp [results, Try.results15, go_sem]) rfl ⟨rfl, by first | exact ((Below.refl _ _).alloc (Nat.le_refl _) _).alloc (by simp) _ | exact (((Below.refl _ _).alloc (Nat.le_refl _) _).alloc (by simp) _).setCell (by simp) _ | exact ((((Below.refl _ _).alloc (Nat.le_refl _) _).alloc (by simp) _).setCell (by simp) _).setCell (by simp) _ | exact (((((Below.refl _ _).alloc (Nat.le_refl _) _).alloc (by simp) _).setCell (by simp) _).setCell (by simp) _).setCell (by simp) _⟩
  · subst h
    rw [show rst 4 q fr cur = (1, q) from rfl]
    clear hp
    go_enter Try.func15, Try.ntmps15
    go_wp2
    exact bodyPost_ret (v := .agg #[.int .i64 1, .int .i64 q]) (by simp [results, Try.results15, go_sem]) rfl ⟨rfl, by first | exact ((Below.refl _ _).alloc (Nat.le_refl _) _).alloc (by simp) _ | exact (((Below.refl _ _).alloc (Nat.le_refl _) _).alloc (by simp) _).setCell (by simp) _ | exact ((((Below.refl _ _).alloc (Nat.le_refl _) _).alloc (by simp) _).setCell (by simp) _).setCell (by simp) _ | exact (((((Below.refl _ _).alloc (Nat.le_refl _) _).alloc (by simp) _).setCell (by simp) _).setCell (by simp) _).setCell (by simp) _⟩
end Go.Proofs.Ytfknleligabgcaa.LawEight
