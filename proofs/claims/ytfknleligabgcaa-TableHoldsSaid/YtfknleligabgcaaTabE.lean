/- Layer 8 (table): a hold behind mem.Finish; a hold's step in the document's words; the document's example. -/
import Derived.Test.YtfknleligabgcaaTabD
import Derived.Test.YtfknleligabgcaaFinish
import Derived.Test.YtfknleligabgcaaLawFiveA
import Derived.Test.YtfknleligabgcaaMade
namespace Go.Proofs.Ytfknleligabgcaa.Ta
open Go Go.RowKit Hp K Fl Rw Hm Ar Mm Me
set_option maxRecDepth 100000

theorem mrH (a : Addr) (w : World) (f : Nat) : (method (f + 1) 26 (.pointer (some a)) "Ready").run Try.prog w = .ok (13, .pointer (some a)) w := by kernel_rfl
theorem msH (a : Addr) (w : World) (f : Nat) : (method (f + 1) 26 (.pointer (some a)) "Step").run Try.prog w = .ok (14, .pointer (some a)) w := by kernel_rfl
theorem erH (args : Array Value) (w : World) : (callFunc 13 args).run Try.prog w = .ok (.enter 13 args) w := by kernel_rfl
theorem esH (args : Array Value) (w : World) : (callFunc 14 args).run Try.prog w = .ok (.enter 14 args) w := by kernel_rfl

/-- Lists alone: what a hold's steps do to the holders and to it. -/
def lready (ds : List (Nat × Nat)) (s : List Int × Ho) : Bool := if s.2.nx = 2 then decide (Lo.hol s.1 (lkn s.2.sum (tab ds s.2.num)) = -1) else true
def lstep (xs : List Int) (ds : List (Nat × Nat)) (s : List Int × Ho) : List Int × Ho :=
  if s.2.nx = 1 then (s.1, { s.2 with nx := 2, num := (Cl.nth xs 1).toNat })
  else if s.2.nx = 2 then (s.1.set (lkn s.2.sum (tab ds s.2.num)) s.2.worker, { s.2 with nx := 3, d := tab ds s.2.num, lock := lkn s.2.sum (tab ds s.2.num) })
  else if s.2.nx = 3 then (if Cl.nth xs 1 = s.2.num then (s.1, { s.2 with nx := 5, holds := true }) else (s.1, { s.2 with nx := 4 }))
  else if s.2.nx = 4 then (s.1.set s.2.lock (-1), { s.2 with nx := 1 })
  else s
def ldone (xs : List Int) (s : List Int × Ho) : Bool := decide (s.2.nx = 3 ∧ Cl.nth xs 1 = s.2.num ∨ 5 ≤ s.2.nx)
theorem hready_eq (M : Mo) (H : Ho) : hready M H = lready M.ds (M.hs, H) := rfl
theorem hdone_eq (M : Mo) (H : Ho) : hdone M H = ldone M.xs (M.hs, H) := rfl
theorem hstep_eq (M : Mo) (H : Ho) : hstep M H = ({ M with hs := (lstep M.xs M.ds (M.hs, H)).1 }, (lstep M.xs M.ds (M.hs, H)).2) := by
  unfold hstep lstep
  by_cases e1 : H.nx = 1
  · simp [e1]
  · by_cases e2 : H.nx = 2
    · simp [e2]
    · by_cases e3 : H.nx = 3
      · by_cases he : Cl.nth M.xs 1 = H.num <;> simp [e3, he]
      · by_cases e4 : H.nx = 4
        · simp [e4]
        · simp [e1, e2, e3, e4]
theorem hol_set {hs : List Int} {j : Nat} (hj : j < hs.length) (v : Int) (i : Nat) : Lo.hol (hs.set j v) i = if i = j then v else Lo.hol hs i := by
  unfold Lo.hol List.getD
  rw [List.getElem?_set]
  by_cases e : j = i
  · subst e; simp [hj]
  · rw [if_neg e, if_neg (fun q => e q.symm)]
/-- A hold's steps, of a lasting table: nothing else asked. -/
structure Okl (xs : List Int) (ds : List (Nat × Nat)) (s : List Int × Ho) : Prop where
  sum : 0 ≤ s.2.sum ∧ s.2.sum < 4294967296
  wk : 0 ≤ s.2.worker ∧ s.2.worker ≤ 9223372036854775807
  hl : 4 < s.1.length
  xl : 1 < xs.length
  num : s.2.num ≤ 18446744073709551615
  x1 : 0 ≤ Cl.nth xs 1 ∧ Cl.nth xs 1 ≤ 18446744073709551615
  dn : ∀ i, (tab ds i).1 ≤ 65536
  nx : 1 ≤ s.2.nx
  own : (s.2.nx = 3 ∨ s.2.nx = 4 ∨ s.2.holds = true) → s.2.lock < s.1.length ∧ Lo.hol s.1 s.2.lock = s.2.worker
  hol : s.2.holds = true → 5 ≤ s.2.nx
section
variable {w w' : World} {M : Mo} {H : Ho}
theorem Okl.step {xs : List Int} {ds : List (Nat × Nat)} {s : List Int × Ho} (h : Okl xs ds s) (hr : lready ds s = true) (hd : ldone xs s = false) : Okl xs ds (lstep xs ds s) := by
  obtain ⟨hs, H⟩ := s
  obtain ⟨h1, h2, h3, h4, h5, h6, h7, h8, h9, h10⟩ := h
  simp only at h1 h2 h3 h4 h5 h6 h7 h8 h9 h10
  unfold lstep
  unfold ldone at hd
  simp only at hd ⊢
  by_cases e1 : H.nx = 1
  · rw [if_pos e1]
    exact ⟨h1, h2, h3, h4, by simp only; omega, h6, h7, by simp, by
      rintro (q | q | q)
      · simp at q
      · simp at q
      · have := h10 q; omega, fun q => by have := h10 q; omega⟩
  · by_cases e2 : H.nx = 2
    · rw [if_neg e1, if_pos e2]
      have hk := lkn_bd (tab ds H.num) h1.1
      refine ⟨h1, h2, by simpa using h3, h4, h5, h6, h7, by simp, fun _ => ⟨by simp; omega, ?_⟩, fun q => by have := h10 q; omega⟩
      rw [hol_set (by omega), if_pos rfl]
    · by_cases e3 : H.nx = 3
      · by_cases he : Cl.nth xs 1 = H.num
        · simp [e3, he] at hd
        · rw [if_neg e1, if_neg e2, if_pos e3, if_neg he]
          refine ⟨h1, h2, h3, h4, h5, h6, h7, by simp, fun _ => h9 (.inl e3), fun q => by have := h10 q; omega⟩
      · by_cases e4 : H.nx = 4
        · rw [if_neg e1, if_neg e2, if_neg e3, if_pos e4]
          refine ⟨h1, h2, by simpa using h3, h4, h5, h6, h7, by simp, ?_, fun q => by have := h10 q; omega⟩
          rintro (q | q | q)
          · simp at q
          · simp at q
          · have := h10 q; omega
        · simp at hd; omega
theorem Okl.okh {s : List Int × Ho} (h : Okl M.xs M.ds s) : Okh { M with hs := s.1 } s.2 := ⟨h.sum, h.wk, h.hl, h.xl, h.num, h.dn _⟩
def InvT (w0 : World) (M : Mo) (s : List Int × Ho) (w : World) : Prop := MemAt w { M with hs := s.1 } ∧ HoAt w s.2 ∧ s.2.f = H.f ∧ Only (fun x => mfoot M x ∨ x = H.f) w0 w
theorem lstep_f {xs : List Int} {ds : List (Nat × Nat)} (s : List Int × Ho) : (lstep xs ds s).2.f = s.2.f := by
  unfold lstep
  split
  · rfl
  split
  · rfl
  split
  · split <;> rfl
  split <;> rfl
theorem finish_hold (hM : MemAt w M) (hH : HoAt w H) (ok : Okl M.xs M.ds (M.hs, H)) (K : Nat) (hK : K ≤ 1000000) :
    Calls Try.prog 25 #[ptr M.m, .iface 26 (ptr H.f), .int .i64 K] w fun e w' => e = .returned (.tuple #[.int .i64 (fin (lready M.ds) (lstep M.xs M.ds) (ldone M.xs) K (M.hs, H)).1, .bool (fin (lready M.ds) (lstep M.xs M.ds) (ldone M.xs) K (M.hs, H)).2.1]) ∧
      InvT (H := H) w M (fin (lready M.ds) (lstep M.xs M.ds) (ldone M.xs) K (M.hs, H)).2.2 w' := by
  refine finish_gen 26 13 14 H.f (ptr M.m) (InvT (H := H) w M) (fun s => Okl M.xs M.ds s) (lready M.ds) (lstep M.xs M.ds) (ldone M.xs) (mrH _) (msH _) erH esH ?_ ?_ ?_ K hK (M.hs, H) ok w ⟨hM, hH, rfl, Only.refl _ _⟩
  · rintro s w1 ⟨h1, h2, h3, h4⟩ ok
    rw [← h3]
    exact (hold_ready h1 h2 ok.okh).mono fun e w' h => ⟨h.1, h1.below h.2, h2.below h.2, h3, h4.below h.2⟩
  · rintro s w1 ⟨h1, h2, h3, h4⟩ ok hr
    rw [← h3]
    refine (hold_step h1 h2 ok.okh ok.own ok.nx hr).mono fun e w' h => ⟨h.1, ?_⟩
    obtain ⟨q1, q2, q3⟩ := h.2
    rw [hstep_eq] at q1 q2
    exact ⟨q1, q2, (lstep_f s).trans h3, h4.trans (h3 ▸ q3)⟩
  · intro s ok hr hd
    exact ok.step hr hd
end
end Go.Proofs.Ytfknleligabgcaa.Ta
