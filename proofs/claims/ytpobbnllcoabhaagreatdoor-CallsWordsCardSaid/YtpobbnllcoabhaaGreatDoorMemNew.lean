/- Walks over layer 5 (mem): New. -/
import Derived.Test.YtpobbnllcoabhaaGreatDoorMemWalk
set_option linter.unusedVariables false
set_option linter.unusedSimpArgs false
namespace Go.Proofs.YtpobbnllcoabhaaGreatDoor.Me
open Go Go.RowKit Hp K Fl Rw Hm Ar Mm
set_option maxRecDepth 100000
def Newed (w:World) (n k:Nat) (e:Ending) (w':World):Prop:=
 ∃ M:Mo,e=.returned (.tuple #[ptr M.m,.int .i64 0])∧MemAt w' M∧(∀ x,mfoot M x→w.heap.size≤x)∧Below w.heap.size w w'∧
   M.xs=1::List.replicate (k+2) 0∧M.ss=List.replicate n .zero∧M.F=false∧M.hs=List.replicate 6 (-1)∧M.k=k∧M.ds=[(1,k+2)]∧M.ws=[]
abbrev mo0 (m g:Nat) (A:Option Addr) (cap:Nat) (xs:List Int) (lg lb ar sb fb n k:Nat):Mo:=⟨m,g,A,cap,xs,lg,lb,List.replicate 6 (-1),ar,sb,fb,List.replicate n .zero,false,k,none,0,[],none,0,[]⟩
set_option maxHeartbeats 1000000 in
theorem mem_yes (n k:Nat) (w:World) (hn:1≤n∧n≤1024) (hk:1≤k∧k≤8):Calls Tryz.prog 11 #[.int .i64 n,.int .i64 k] w (Newed w n k):=by
 have hA:=Lib.hid (Ar.new_yes w n hn)
 have hC:Hid (∀ w,Calls Tryz.prog 18 #[.int .i64 (2+(k:Int))] w fun e w'=>e=.returned (.tuple #[.pointer (some ⟨w.heap.size,0,none⟩),.int .i64 0])∧Below w.heap.size w w'∧
  ∃ A cap,Cl.CellsAt w' w.heap.size A cap (List.replicate (2+k) 0)∧∀ b,A.map (·.block)=some b→w.heap.size<b):=Lib.hid fun w=>by
  have:=Cl.new_yes w (2+k) (by omega)
  rw [Int.natCast_add] at this
  exact this
 have hL:Hid (∀ w,Calls Tryz.prog 20 #[.int .i64 6] w fun e w'=>∃ g b,e=.returned (.tuple #[.pointer (some ⟨g,0,none⟩),.int .i64 0])∧Lo.LocksAt w' g b (List.replicate 6 (-1))∧w.heap.size≤g∧w.heap.size≤b∧Below w.heap.size w w'):=Lib.hid (fun w=>Lo.new_yes w 6 (by omega))
 have d1:decide ((k:Int)<1)=false:=by simp; omega
 have d2:decide (8<(k:Int))=false:=by simp; omega
 go_enter Tryz.func11,Tryz.ntmps11
 go_wp2_with fail
 refine hA.out.mono ?_
 rintro e w1 ⟨ar,sb,fb,rfl,hA1,hloA,hB1⟩
 replace hA1:=Lib.hid hA1
 replace hloA:=Lib.hid hloA
 replace hB1:=Lib.hid hB1
 clear hA
 go_wp2_with (go_at_call 19; refine (counter_any k _ (by omega) (by omega)).mono ?_; rintro e w' ⟨rfl,rfl⟩)
 refine (hC.out _).mono ?_
 rintro e w2 ⟨rfl,hB2,A,cap,hC2,hloC⟩
 clear d1 d2
 have hA2:=Lib.hid (hA1.out.only (Only.ofBelow hB2 (fun _=>False)) (by simp))
 have hg1:w.heap.size≤w1.heap.size:=hB1.out.size
 have hB2':=Lib.hid (hB1.out.trans (hB2.mono hg1))
 have hC2':=Lib.hid hC2
 replace hloC:=Lib.hid (fun b (hb:In A b)=>show w.heap.size≤b from by have:=hloC b hb; omega)
 clear hC hB1 hA1 hC2 hB2
 generalize w1.heap.size=g at*
 replace hg1:=Lib.hid hg1
 go_wp2_with fail
 refine (hL.out _).mono ?_
 rintro e w3 ⟨lg,lb,rfl,hL3,hlg,hlb,hB3⟩
 have hM0:=Lib.hid (show MemAt (w3.alloc (.cells #[ptr g,ptr lg,ptr ar,.int .i64 k,.slice none 0 0,.slice none 0 0] 48))
  (mo0 w3.heap.size g A cap (List.replicate (2+k) 0) lg lb ar sb fb n k) from by
  have ho:=((Only.ofBelow hB3 (fun _=>False)).alloc (.cells #[ptr g,ptr lg,ptr ar,.int .i64 k,.slice none 0 0,.slice none 0 0] 48))
  exact ⟨Blk.made w3 _ _,cells_only hC2'.out ho (by simp),hL3.only ((Only.refl (fun _=>False) _).alloc _) (by simp),hA2.out.only ho (by simp),Row.nil _ _ _ _,Row.nil _ _ _ _⟩)
 have hs2:=hB2'.out.size
 have hs3:=hB3.size
 have hB4:=Lib.hid ((hB2'.out.trans (hB3.mono hs2)).alloc (o:=.cells #[ptr g,ptr lg,ptr ar,.int .i64 k,.slice none 0 0,.slice none 0 0] 48) (by omega))
 have hlo4:=Lib.hid (show ∀ x,mfoot (mo0 w3.heap.size g A cap (List.replicate (2+k) 0) lg lb ar sb fb n k) x→w.heap.size≤x from by
  have hg:=hg1.out
  rintro x (h | (h | h) | (h | h) | h | h | h)
  · simp at h
    omega
  · simp at h
    omega
  · exact hloC.out x h
  · simp at h
    omega
  · simp at h
    omega
  · exact hloA.out x h
  · simp [In] at h
  · simp [In] at h)
 clear hL3 hlg hlb hB3 hB2' hA2 hC2' hL hs2 hs3
 have hSt:Hid (Calls Tryz.prog 21 #[ptr g,.int .i64 0,.int .u64 1] (w3.alloc (.cells #[ptr g,ptr lg,ptr ar,.int .i64 k,.slice none 0 0,.slice none 0 0] 48)) fun e w'=>e=.returned (.int .i64 0)∧Cl.CellsAt w' g A cap ((List.replicate (2+k) 0).set 0 1)∧Only (Cl.foot g A) (w3.alloc (.cells #[ptr g,ptr lg,ptr ar,.int .i64 k,.slice none 0 0,.slice none 0 0] 48)) w'):=
  Lib.hid (Cl.store_in hM0.out.2.1 0 (by show 0<(List.replicate (2+k) (0:Int)).length; simp; omega) 1 (by omega) (by omega))
 go_wp2_with fail
 refine hSt.out.mono ?_
 rintro e w5 ⟨rfl,hC5,hO5⟩
 have hM5:=Lib.hid (show MemAt w5 (mo0 w3.heap.size g A cap ((List.replicate (2+k) 0).set 0 1) lg lb ar sb fb n k) from hM0.out.cells hC5 hO5)
 have hB5:=Lib.hid (hB4.out.trans (hO5.toBelow hB4.out.size (fun x hx q=>by
  have:=hlo4.out x (.inr (.inl q))
  omega)))
 clear hC5 hO5 hSt hB4 hM0
 generalize w3.heap.size=m at*
 have hl5:((List.replicate (2+k) (0:Int)).set 0 1).length=2+k:=by simp
 have hTb:Hid (Calls Tryz.prog 22 #[ptr m,.int .i64 1] w5 fun e w'=>e=.returned (.tuple #[.int .i64 0,.int .i64 0])∧Tabled w5 (mo0 m g A cap ((List.replicate (2+k) 0).set 0 1) lg lb ar sb fb n k) 1 w'):=
  Lib.hid (table_ok hM5.out 1 (by decide) (by show ((List.replicate (2+k) (0:Int)).set 0 1).length+1≤1048576; omega) (by simp))
 replace hl5:=Lib.hid hl5
 go_wp2_with fail
 refine hTb.out.mono ?_
 rintro e w6 ⟨rfl,A6,cap6,T6,capT6,hM6,hO6,hA6,hT6⟩
 have hB6:=Lib.hid (hB5.out.trans (hO6.toBelow hB5.out.size (fun x hx q=>by
  have:=hlo4.out x q
  omega)))
 have hs5:=hB5.out.size
 replace hM6:=Lib.hid hM6
 replace hA6:=Lib.hid (fun x (hx:In A6 x)=>show w.heap.size≤x from by
  rcases hA6 x hx with q | q
  · exact hlo4.out x (.inr (.inl (.inr q)))
  · omega)
 replace hT6:=Lib.hid (fun x (hx:In T6 x)=>show w.heap.size≤x from by
  rcases hT6 x hx with q | q
  · simp [In] at q
  · omega)
 clear hO6 hTb hM5 hB5 hs5
 go_wp2_with fail
 go_ret2
 refine ⟨_,rfl,hM6.out,?_,hB6.out,?_,rfl,rfl,rfl,rfl,?_,rfl⟩
 · rintro x (h | (h | h) | (h | h) | h | h | h)
   · exact hlo4.out x (.inl h)
   · exact hlo4.out x (.inr (.inl (.inl h)))
   · exact hA6.out x h
   · exact hlo4.out x (.inr (.inr (.inl (.inl h))))
   · exact hlo4.out x (.inr (.inr (.inl (.inr h))))
   · exact hlo4.out x (.inr (.inr (.inr (.inl h))))
   · exact hT6.out x h
   · simp [In] at h
 · show (List.replicate (2+k) (0:Int)).set 0 1++List.replicate 1 0=1::List.replicate (k+2) 0
   rw [Nat.add_comm 2 k,List.replicate_succ,List.set_cons_zero,List.cons_append,List.replicate_append_replicate]
   rfl
 · show []++[(1,((List.replicate (2+k) (0:Int)).set 0 1).length)]=[(1,k+2)]
   rw [hl5.out,Nat.add_comm 2 k]
   rfl
end Go.Proofs.YtpobbnllcoabhaaGreatDoor.Me
