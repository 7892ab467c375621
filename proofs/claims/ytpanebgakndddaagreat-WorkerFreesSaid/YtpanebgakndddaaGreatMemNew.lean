/- A part. -/
import Derived.Test.YtpanebgakndddaaGreatMemWalk
set_option linter.unusedVariables false
set_option linter.unusedSimpArgs false
namespace Go.Proofs.YtpanebgakndddaaGreat.Me
open Go Go.RowKit Hp K Fl Rw Hm Ar Mm
set_option maxRecDepth 100000
def Rk (w:World) (n k:Nat) (e:Ending) (w':World):Prop:=
 ∃ M:Mo,e=.returned (.tuple #[ptr M.m,.int .i64 0])/\ah w' M/\(∀ x,ao M x->w.heap.size<=x)/\Below w.heap.size w w'/\
   M.xs=1::List.replicate (k+2) 0/\M.ss=List.replicate n .zero/\M.F=false/\M.hs=List.replicate 6 (-1)/\M.k=k/\M.ds=[(1,k+2)]/\M.ws=[]
abbrev yQ (m g:Nat) (A:Option Addr) (cap:Nat) (xs:List Int) (lg lb ar sb fb n k:Nat):Mo:=⟨m,g,A,cap,xs,lg,lb,List.replicate 6 (-1),ar,sb,fb,List.replicate n .zero,false,k,none,0,[],none,0,[]⟩
set_option maxHeartbeats 1000000 in
theorem Ht (n k:Nat) (w:World) (hn:1<=n/\n<=1024) (hk:1<=k/\k<=8):Calls Tryz.prog 27 #[.int .i64 n,.int .i64 k] w (Rk w n k):=by
 have hA:=Lib.hid (Ar.qt w n hn)
 have hC:Hid (∀ w,Calls Tryz.prog 42 #[.int .i64 (2+(k:Int))] w fun e w'=>e=.returned (.tuple #[.pointer (some ⟨w.heap.size,0,none⟩),.int .i64 0])/\Below w.heap.size w w'/\
  ∃ A cap,Cl.fW w' w.heap.size A cap (List.replicate (2+k) 0)/\∀ b,A.map (·.block)=some b->w.heap.size<b):=Lib.hid fun w=>by
  have:=Cl.qt w (2+k) (by omega)
  rw [Int.natCast_add] at this
  exact this
 have hL:Hid (∀ w,Calls Tryz.prog 44 #[.int .i64 6] w fun e w'=>∃ g b,e=.returned (.tuple #[.pointer (some ⟨g,0,none⟩),.int .i64 0])/\Lo.gF w' g b (List.replicate 6 (-1))/\w.heap.size<=g/\w.heap.size<=b/\Below w.heap.size w w'):=Lib.hid (fun w=>Lo.qt w 6 (by omega))
 have d1:decide ((k:Int)<1)=false:=by simp; omega
 have d2:decide (8<(k:Int))=false:=by simp; omega
 go_enter Tryz.func27,Tryz.ntmps27
 go_wp2_with fail
 refine hA.out.mono ?_
 rintro e w1 ⟨ar,sb,fb,rfl,da,Ef,aJ⟩
 replace da:=Lib.hid da
 replace Ef:=Lib.hid Ef
 replace aJ:=Lib.hid aJ
 clear hA
 go_wp2_with (go_at_call 43; refine (wb k _ (by omega) (by omega)).mono ?_; rintro e w' ⟨rfl,rfl⟩)
 refine (hC.out _).mono ?_
 rintro e w2 ⟨rfl,ag,A,cap,qX,Eg⟩
 clear d1 d2
 have bH:=Lib.hid (da.out.only (ab.aD ag (fun _=>False)) (by simp))
 have sO:w.heap.size<=w1.heap.size:=aJ.out.size
 have Eh:=Lib.hid (aJ.out.trans (ag.mono sO))
 have KC:=Lib.hid qX
 replace Eg:=Lib.hid (fun b (hb:In A b)=>show w.heap.size<=b from by have:=Eg b hb; omega)
 clear hC aJ da qX ag
 generalize w1.heap.size=g at*
 replace sO:=Lib.hid sO
 go_wp2_with fail
 refine (hL.out _).mono ?_
 rintro e w3 ⟨lg,lb,rfl,jk,sY,fU,ay⟩
 have qf:=Lib.hid (show ah (w3.alloc (.cells #[ptr g,ptr lg,ptr ar,.int .i64 k,.slice none 0 0,.slice none 0 0] 63))
  (yQ w3.heap.size g A cap (List.replicate (2+k) 0) lg lb ar sb fb n k) from by
  have ho:=((ab.aD ay (fun _=>False)).alloc (.cells #[ptr g,ptr lg,ptr ar,.int .i64 k,.slice none 0 0,.slice none 0 0] 63))
  exact ⟨af.made w3 _ _,ue KC.out ho (by simp),jk.only ((ab.refl (fun _=>False) _).alloc _) (by simp),bH.out.only ho (by simp),Row.nil _ _ _ _,Row.nil _ _ _ _⟩)
 have fM:=Eh.out.size
 have jB:=ay.size
 have az:=Lib.hid ((Eh.out.trans (ay.mono fM)).alloc (o:=.cells #[ptr g,ptr lg,ptr ar,.int .i64 k,.slice none 0 0,.slice none 0 0] 63) (by omega))
 have rA:=Lib.hid (show ∀ x,ao (yQ w3.heap.size g A cap (List.replicate (2+k) 0) lg lb ar sb fb n k) x->w.heap.size<=x from by
  have hg:=sO.out
  rintro x (h | (h | h) | (h | h) | h | h | h)
  ·simp at h
   omega
  ·simp at h
   omega
  ·exact Eg.out x h
  ·simp at h
   omega
  ·simp at h
   omega
  ·exact Ef.out x h
  ·simp [In] at h
  ·simp [In] at h)
 clear jk sY fU ay Eh bH KC hL fM jB
 have db:Hid (Calls Tryz.prog 45 #[ptr g,.int .i64 0,.int .u64 1] (w3.alloc (.cells #[ptr g,ptr lg,ptr ar,.int .i64 k,.slice none 0 0,.slice none 0 0] 63)) fun e w'=>e=.returned (.int .i64 0)/\Cl.fW w' g A cap ((List.replicate (2+k) 0).set 0 1)/\ab (Cl.aS g A) (w3.alloc (.cells #[ptr g,ptr lg,ptr ar,.int .i64 k,.slice none 0 0,.slice none 0 0] 63)) w'):=
  Lib.hid (Cl.vj qf.out.2.1 0 (by show 0<(List.replicate (2+k) (0:Int)).length; simp; omega) 1 (by omega) (by omega))
 go_wp2_with fail
 refine db.out.mono ?_
 rintro e w5 ⟨rfl,KD,bJ⟩
 have ia:=Lib.hid (show ah w5 (yQ w3.heap.size g A cap ((List.replicate (2+k) 0).set 0 1) lg lb ar sb fb n k) from qf.out.cells KD bJ)
 have bI:=Lib.hid (az.out.trans (bJ.toBelow az.out.size (fun x hx q=>by
  have:=rA.out x (.inr (.inl q))
  omega)))
 clear KD bJ db az qf
 generalize w3.heap.size=m at*
 have wR:((List.replicate (2+k) (0:Int)).set 0 1).length=2+k:=by simp
 have KE:Hid (Calls Tryz.prog 46 #[ptr m,.int .i64 1] w5 fun e w'=>e=.returned (.tuple #[.int .i64 0,.int .i64 0])/\H5 w5 (yQ m g A cap ((List.replicate (2+k) 0).set 0 1) lg lb ar sb fb n k) 1 w'):=
  Lib.hid (BR ia.out 1 (by decide) (by show ((List.replicate (2+k) (0:Int)).set 0 1).length+1<=1048576; omega) (by simp))
 replace wR:=Lib.hid wR
 go_wp2_with fail
 refine KE.out.mono ?_
 rintro e w6 ⟨rfl,A6,cap6,T6,capT6,ji,ft,Ei,Ej⟩
 have gH:=Lib.hid (bI.out.trans (ft.toBelow bI.out.size (fun x hx q=>by
  have:=rA.out x q
  omega)))
 have Wg:=bI.out.size
 replace ji:=Lib.hid ji
 replace Ei:=Lib.hid (fun x (hx:In A6 x)=>show w.heap.size<=x from by
  rcases Ei x hx with q | q
  ·exact rA.out x (.inr (.inl (.inr q)))
  ·omega)
 replace Ej:=Lib.hid (fun x (hx:In T6 x)=>show w.heap.size<=x from by
  rcases Ej x hx with q | q
  ·simp [In] at q
  ·omega)
 clear ft KE ia bI Wg
 go_wp2_with fail
 go_ret2
 refine ⟨_,rfl,ji.out,?_,gH.out,?_,rfl,rfl,rfl,rfl,?_,rfl⟩
 ·rintro x (h | (h | h) | (h | h) | h | h | h)
  ·exact rA.out x (.inl h)
  ·exact rA.out x (.inr (.inl (.inl h)))
  ·exact Ei.out x h
  ·exact rA.out x (.inr (.inr (.inl (.inl h))))
  ·exact rA.out x (.inr (.inr (.inl (.inr h))))
  ·exact rA.out x (.inr (.inr (.inr (.inl h))))
  ·exact Ej.out x h
  ·simp [In] at h
 ·show (List.replicate (2+k) (0:Int)).set 0 1++List.replicate 1 0=1::List.replicate (k+2) 0
  rw [Nat.add_comm 2 k,List.replicate_succ,List.set_cons_zero,List.cons_append,List.replicate_append_replicate]
  rfl
 ·show []++[(1,((List.replicate (2+k) (0:Int)).set 0 1).length)]=[(1,k+2)]
  rw [wR.out,Nat.add_comm 2 k]
  rfl
end Go.Proofs.YtpanebgakndddaaGreat.Me
