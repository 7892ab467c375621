/- TableHolds, cut into declarations: its rounds' body; what is known of the frame ahead of each piece and behind it. -/
import Derived.Test.YtfknleligabgcaaHoSt
import Derived.Test.YtfknleligabgcaaLawEightA
import Derived.Test.YtfknleligabgcaaBytes
import Derived.Test.YtfknleligabgcaaCut
import Derived.Deep.QuietTactic
import Derived.BigQuiet
import Derived.Deep.DeepCutAuto
import Derived.Deep.CutBlock
import Derived.StillTailTactics
import Derived.Deep.RegionHeld3
namespace Go.Proofs.Ytfknleligabgcaa.HoLaw
open Go Go.RowKit Hp K Fl Rw Hm Ar Mm Me LK Ta Ob Ct LawSix LawEight
set_option maxRecDepth 100000

noncomputable def body : Code := (((Try.f3.body.bind (findB 2)).bind firstLoop)).getD .skip
noncomputable def blk3 : Code := (findB 3 body).getD .skip
/-- The frame's places that stay. -/
structure Fix (a : Act) (s : Int) (f m wb sb caps cur : Nat) (A : Option Addr) (len cap k : Nat) : Prop where
  defers : a.defers = []
  size : a.tmps.size = 244
  s0 : a.tmps[0]? = some (.int .u32 s)
  s5 : a.tmps[5]? = some (ptr m)
  s6 : a.tmps[6]? = some (ptr f)
  s7 : a.tmps[7]? = some (.slice (some ⟨sb, 0, none⟩) 5 caps)
  s12 : a.tmps[12]? = some (ptr wb)
  s13 : a.tmps[13]? = some (.int .i64 cur)
  s65 : a.tmps[65]? = some (.slice A len cap)
  s66 : a.tmps[66]? = some (.int .i64 len)
  s67 : a.tmps[67]? = some (.int .i64 k)
/-- A frame of letters. -/
def FR (f : Nat → Value) : Act := ⟨#[f 0, f 1, f 2, f 3, f 4, f 5, f 6, f 7, f 8, f 9, f 10, f 11, f 12, f 13, f 14, f 15, f 16, f 17, f 18, f 19, f 20, f 21, f 22, f 23, f 24, f 25, f 26, f 27, f 28, f 29, f 30, f 31, f 32, f 33, f 34, f 35, f 36, f 37, f 38, f 39, f 40, f 41, f 42, f 43, f 44, f 45, f 46, f 47, f 48, f 49, f 50, f 51, f 52, f 53, f 54, f 55, f 56, f 57, f 58, f 59, f 60, f 61, f 62, f 63, f 64, f 65, f 66, f 67, f 68, f 69, f 70, f 71, f 72, f 73, f 74, f 75, f 76, f 77, f 78, f 79, f 80, f 81, f 82, f 83, f 84, f 85, f 86, f 87, f 88, f 89, f 90, f 91, f 92, f 93, f 94, f 95, f 96, f 97, f 98, f 99, f 100, f 101, f 102, f 103, f 104, f 105, f 106, f 107, f 108, f 109, f 110, f 111, f 112, f 113, f 114, f 115, f 116, f 117, f 118, f 119, f 120, f 121, f 122, f 123, f 124, f 125, f 126, f 127, f 128, f 129, f 130, f 131, f 132, f 133, f 134, f 135, f 136, f 137, f 138, f 139, f 140, f 141, f 142, f 143, f 144, f 145, f 146, f 147, f 148, f 149, f 150, f 151, f 152, f 153, f 154, f 155, f 156, f 157, f 158, f 159, f 160, f 161, f 162, f 163, f 164, f 165, f 166, f 167, f 168, f 169, f 170, f 171, f 172, f 173, f 174, f 175, f 176, f 177, f 178, f 179, f 180, f 181, f 182, f 183, f 184, f 185, f 186, f 187, f 188, f 189, f 190, f 191, f 192, f 193, f 194, f 195, f 196, f 197, f 198, f 199, f 200, f 201, f 202, f 203, f 204, f 205, f 206, f 207, f 208, f 209, f 210, f 211, f 212, f 213, f 214, f 215, f 216, f 217, f 218, f 219, f 220, f 221, f 222, f 223, f 224, f 225, f 226, f 227, f 228, f 229, f 230, f 231, f 232, f 233, f 234, f 235, f 236, f 237, f 238, f 239, f 240, f 241, f 242, f 243], []⟩
theorem open_act (a : Act) (hd : a.defers = []) (hs : a.tmps.size = 244) : ∃ f : Nat → Value, a = FR f ∧ ∀ i v, a.tmps[i]? = some v → f i = v := by
  refine ⟨fun i => a.tmps.getD i undef, ?_, fun i v h => by simp [Array.getD_eq_getD_getElem?, h]⟩
  obtain ⟨t, d⟩ := a
  simp only at hd hs
  subst hd
  have e : t.toList = (List.range 244).map (fun i => t.getD i undef) := by
    apply List.ext_getElem?
    intro i
    by_cases hi : i < 244
    · rw [List.getElem?_map, List.getElem?_range hi, Array.getElem?_toList, Array.getElem?_eq_getElem (by omega)]
      simp [Array.getD, hs, hi]
    · rw [List.getElem?_eq_none (by simp; omega), List.getElem?_eq_none (by simp; omega)]
  have e2 : t = ((List.range 244).map (fun i => t.getD i undef)).toArray := by rw [← e]
  generalize (fun i => t.getD i undef) = g at *
  subst e2
  rfl
/-- Behind a return: true. -/
def RtP (W0 : World) (a : Act) (w : World) : Prop := a.defers = [] ∧ a.tmps.size = 244 ∧ a.tmps[4]? = some (.bool true) ∧ Below W0.heap.size W0 w
/-- What a round keeps. -/
def Inv8 (W0 w : World) (s : Int) (f m wb sb cur : Nat) : Prop := ∃ (M : Mo) (H : Ho), M.m = m ∧ H.f = f ∧ T8 W0 w wb sb M H H.nx H.num ∧ LH M H s cur
/-- Behind a round, but for its number. -/
def RdP (W0 : World) (s : Int) (f m wb sb caps : Nat) (A : Option Addr) (len cap k : Nat) (a : Act) (w : World) : Prop := ∃ cur, Fix a s f m wb sb caps cur A len cap k ∧ Inv8 W0 w s f m wb sb cur
/-- Ahead of a round. -/
structure Pre (W0 w : World) (a : Act) (s : Int) (wb sb caps cur : Nat) (A : Option Addr) (len cap k b o x : Nat) (M : Mo) (H : Ho) : Prop where
  fix : Fix a s H.f M.m wb sb caps cur A len cap k
  st : T8 W0 w wb sb M H H.nx H.num
  lh : LH M H s cur
  hA : A = some ⟨b, o, none⟩
  cx : w.cell? ⟨b, o + k, none⟩ = some (.int .u8 (x : Int))
  hx : x ≤ 255
  hlt : k < len
  hl : len ≤ 80
theorem lock_lk {s : Int} {d : Nat × Nat} (hs : 0 ≤ s ∧ s < 4294967296) (hd : d.1 ≤ 65536) (w : World) : Calls Try.prog 8 #[.int .u32 s, .int .i64 d.1] w fun e w' => e = .returned (.int .i64 (lkn s d)) ∧ w = w' := by
  have h := LawFive.lock_any s d.1 w hs.1 hs.2 (by omega) (by omega)
  rw [lkn_eq d hs.1] at h
  exact h
end Go.Proofs.Ytfknleligabgcaa.HoLaw
