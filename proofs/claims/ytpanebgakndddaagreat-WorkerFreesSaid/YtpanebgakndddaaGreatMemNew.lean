/- A part. -/
import Derived.Test.YtpanebgakndddaaGreatMemWalk
set_option linter.unusedVariables false
set_option linter.unusedSimpArgs false
namespace Go.Proofs.YtpanebgakndddaaGreat.Me
open Go Go.RowKit Hp K Fl Rw Hm Ar Mm
set_option maxRecDepth 100000
def Q0 (w:World) (n k:Nat) (e:Ending) (w':World):Prop:=
 ∃ M:Mo,e=.returned (.tuple #[ptr M.m,.int .i64 0])/\ah w' M/\(∀ x,ao M x->w.heap.size<=x)/\Below w.heap.size w w'/\
   M.xs=1::List.replicate (k+2) 0/\M.ss=List.replicate n .zero/\M.F=false/\M.hs=List.replicate 6 (-1)/\M.k=k/\M.ds=[(1,k+2)]/\M.ws=[]
abbrev yI (m g:Nat) (A:Option Addr) (cap:Nat) (xs:List Int) (lg lb ar sb fb n k:Nat):Mo:=⟨m,g,A,cap,xs,lg,lb,List.replicate 6 (-1),ar,sb,fb,List.replicate n .zero,false,k,none,0,[],none,0,[]⟩
set_option maxHeartbeats 1000000 in
theorem Hg (n k:Nat) (w:World) (hn:1<=n/\n<=1024) (hk:1<=k/\k<=8):Calls Tryz.prog 27 #[.int .i64 n,.int .i64 k] w (Q0 w n k):=by
 have hA:=Lib.hid (Ar.qm w n hn)
 have hC:Hid (∀ w,Calls Tryz.prog 42 #[.int .i64 (2+(k:Int))] w fun e w'=>e=.returned (.tuple #[.pointer (some ⟨w.heap.size,0,none⟩),.int .i64 0])/\Below w.heap.size w w'/\
  ∃ A cap,Cl.fV w' w.heap.size A cap (List.replicate (2+k) 0)/\∀ b,A.map (·.block)=some b->w.heap.size<b):=Lib.hid fun w=>by
  have:=Cl.qm w (2+k) (by omega)
  rw [Int.natCast_add] at this
  exact this
 have hL:Hid (∀ w,Calls Tryz.prog 44 #[.int .i64 6] w fun e w'=>∃ g b,e=.returned (.tuple #[.pointer (some ⟨g,0,none⟩),.int .i64 0])/\Lo.gE w' g b (List.replicate 6 (-1))/\w.heap.size<=g/\w.heap.size<=b/\Below w.heap.size w w'):=Lib.hid (fun w=>Lo.qm w 6 (by omega))
 have d1:decide ((k:Int)<1)=false:=by simp; omega
 have d2:decide (8<(k:Int))=false:=by simp; omega
 go_enter Tryz.func27,Tryz.ntmps27
 go_wp2_with fail
 refine hA.out.mono ?_
 rintro e w1 ⟨ar,sb,fb,rfl,da,D4,aJ⟩
 replace da:=Lib.hid da
 replace D4:=Lib.hid D4
 replace aJ:=Lib.hid aJ
 clear hA
 go_wp2_with (go_at_call 43; refine (vT k _ (by omega) (by omega)).mono ?_; rintro e w' ⟨rfl,rfl⟩)
 refine (hC.out _).mono ?_
 rintro e w2 ⟨rfl,ag,A,cap,qS,D5⟩
 clear d1 d2
 have bH:=Lib.hid (da.out.only (ab.aD ag (fun _=>False)) (by simp))
 have sI:w.heap.size<=w1.heap.size:=aJ.out.size
 have D6:=Lib.hid (aJ.out.trans (ag.mono sI))
 have Ks:=Lib.hid qS
 replace D5:=Lib.hid (fun b (hb:In A b)=>show w.heap.size<=b from by have:=D5 b hb; omega)
 clear hC aJ da qS ag
 generalize w1.heap.size=g at*
 replace sI:=Lib.hid sI
 go_wp2_with fail
 refine (hL.out _).mono ?_
 rintro e w3 ⟨lg,lb,rfl,je,sS,fT,ay⟩
 have pY:=Lib.hid (show ah (w3.alloc (.cells #[ptr g,ptr lg,ptr ar,.int .i64 k,.slice none 0 0,.slice none 0 0] 63))
  (yI w3.heap.size g A cap (List.replicate (2+k) 0) lg lb ar sb fb n k) from by
  have ho:=((ab.aD ay (fun _=>False)).alloc (.cells #[ptr g,ptr lg,ptr ar,.int .i64 k,.slice none 0 0,.slice none 0 0] 63))
  exact ⟨Blk.made w3 _ _,tZ Ks.out ho (by simp),je.only ((ab.refl (fun _=>False) _).alloc _) (by simp),bH.out.only ho (by simp),Row.nil _ _ _ _,Row.nil _ _ _ _⟩)
 have fK:=D6.out.size
 have jN:=ay.size
 have az:=Lib.hid ((D6.out.trans (ay.mono fK)).alloc (o:=.cells #[ptr g,ptr lg,ptr ar,.int .i64 k,.slice none 0 0,.slice none 0 0] 63) (by omega))
 have rq:=Lib.hid (show ∀ x,ao (yI w3.heap.size g A cap (List.replicate (2+k) 0) lg lb ar sb fb n k) x->w.heap.size<=x from by
  have hg:=sI.out
  rintro x (h | (h | h) | (h | h) | h | h | h)
  ·simp at h
   omega
  ·simp at h
   omega
  ·exact D5.out x h
  ·simp at h
   omega
  ·simp at h
   omega
  ·exact D4.out x h
  ·simp [In] at h
  ·simp [In] at h)
 clear je sS fT ay D6 bH Ks hL fK jN
 have db:Hid (Calls Tryz.prog 45 #[ptr g,.int .i64 0,.int .u64 1] (w3.alloc (.cells #[ptr g,ptr lg,ptr ar,.int .i64 k,.slice none 0 0,.slice none 0 0] 63)) fun e w'=>e=.returned (.int .i64 0)/\Cl.fV w' g A cap ((List.replicate (2+k) 0).set 0 1)/\ab (Cl.aR g A) (w3.alloc (.cells #[ptr g,ptr lg,ptr ar,.int .i64 k,.slice none 0 0,.slice none 0 0] 63)) w'):=
  Lib.hid (Cl.vc pY.out.2.1 0 (by show 0<(List.replicate (2+k) (0:Int)).length; simp; omega) 1 (by omega) (by omega))
 go_wp2_with fail
 refine db.out.mono ?_
 rintro e w5 ⟨rfl,Kt,bJ⟩
 have gV:=Lib.hid (show ah w5 (yI w3.heap.size g A cap ((List.replicate (2+k) 0).set 0 1) lg lb ar sb fb n k) from pY.out.cells Kt bJ)
 have bI:=Lib.hid (az.out.trans (bJ.toBelow az.out.size (fun x hx q=>by
  have:=rq.out x (.inr (.inl q))
  omega)))
 clear Kt bJ db az pY
 generalize w3.heap.size=m at*
 have wJ:((List.replicate (2+k) (0:Int)).set 0 1).length=2+k:=by simp
 have Ku:Hid (Calls Tryz.prog 46 #[ptr m,.int .i64 1] w5 fun e w'=>e=.returned (.tuple #[.int .i64 0,.int .i64 0])/\HS w5 (yI m g A cap ((List.replicate (2+k) 0).set 0 1) lg lb ar sb fb n k) 1 w'):=
  Lib.hid (BH gV.out 1 (by decide) (by show ((List.replicate (2+k) (0:Int)).set 0 1).length+1<=1048576; omega) (by simp))
 replace wJ:=Lib.hid wJ
 go_wp2_with fail
 refine Ku.out.mono ?_
 rintro e w6 ⟨rfl,A6,cap6,T6,capT6,ja,fo,D7,D8⟩
 have gG:=Lib.hid (bI.out.trans (fo.toBelow bI.out.size (fun x hx q=>by
  have:=rq.out x q
  omega)))
 have VZ:=bI.out.size
 replace ja:=Lib.hid ja
 replace D7:=Lib.hid (fun x (hx:In A6 x)=>show w.heap.size<=x from by
  rcases D7 x hx with q | q
  ·exact rq.out x (.inr (.inl (.inr q)))
  ·omega)
 replace D8:=Lib.hid (fun x (hx:In T6 x)=>show w.heap.size<=x from by
  rcases D8 x hx with q | q
  ·simp [In] at q
  ·omega)
 clear fo Ku gV bI VZ
 go_wp2_with fail
 go_ret2
 refine ⟨_,rfl,ja.out,?_,gG.out,?_,rfl,rfl,rfl,rfl,?_,rfl⟩
 ·rintro x (h | (h | h) | (h | h) | h | h | h)
  ·exact rq.out x (.inl h)
  ·exact rq.out x (.inr (.inl (.inl h)))
  ·exact D7.out x h
  ·exact rq.out x (.inr (.inr (.inl (.inl h))))
  ·exact rq.out x (.inr (.inr (.inl (.inr h))))
  ·exact rq.out x (.inr (.inr (.inr (.inl h))))
  ·exact D8.out x h
  ·simp [In] at h
 ·show (List.replicate (2+k) (0:Int)).set 0 1++List.replicate 1 0=1::List.replicate (k+2) 0
  rw [Nat.add_comm 2 k,List.replicate_succ,List.set_cons_zero,List.cons_append,List.replicate_append_replicate]
  rfl
 ·show []++[(1,((List.replicate (2+k) (0:Int)).set 0 1).length)]=[(1,k+2)]
  rw [wJ.out,Nat.add_comm 2 k]
  rfl
end Go.Proofs.YtpanebgakndddaaGreat.Me
