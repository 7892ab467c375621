/- Walks and plain mathematics, put together in their order: ShrE, ShrF, ShrG, ZipA, WayA, WayC, ZipB, ZipD, JoinA, ZipE, ZipG, JoinB. -/
import Derived.Test.YtpanebgakndddaaGreatPart3
import Derived.Test.YtpanebgakndddaaGreatGetD
import Derived.Test.YtpanebgakndddaaGreatLm
import Derived.Test.YtpanebgakndddaaGreatQsbrD
import Derived.Test.YtpanebgakndddaaGreatFrm
set_option linter.unusedVariables false
set_option linter.unusedSimpArgs false
namespace Go.Proofs.YtpanebgakndddaaGreat.Sw
open Go Go.RowKit Hp K Fl Rw Hm Ar Mm Me Qs Wk Pn
set_option maxRecDepth 100000
section
variable {w w':World} {M:Mo} {a:Sc} {G:Sh}
def CH (w wx:World) (nd:Nd) (p e:Value):Prop:=
 ∃ b,p=ptr b/\e=.int .i64 0/\w.heap.size<=b/\af wx b 67 #[.string nd.key,.string nd.val,.int .u32 nd.sum,.int .u64 nd.next]/\Below w.heap.size w wx
theorem Uv {B:Nat} {ms:List Nat} (h:Me.Met w B ms) (hl:ms.length<=1000000) {y:Nat} (hy:y<=18446744073709551615):
 ∃ w',(Instr.mapUpdate 202 (.map (some B)) (.int .u64 y) (.bool true)).run Tryz.prog w=.ok () w'/\Me.Met w' B (y::ms)/\ab (·=B) w w':=by
 obtain ⟨n,D,hM,hn,cr⟩:=h
 obtain ⟨w',eX,kh,hg⟩:=hM.update keyed Tryz.underlying202 (by unfold maxLen; omega) (zL hy) (plainElem_bool Tryz.underlying4 true)
 exact ⟨w',eX,IN hy hM kh hn cr,(ab.refl (·=B) w).grown hg (fun z hz=>.inl (by injection hz with hz; exact hz.symm))⟩
set_option maxHeartbeats 4000000 in
theorem CJ (hM:ah w M) (h:cO w a G) (h5:G.nx=5) (live:bj M.ss G.at_ ((G.at_-1) % 65536)) (cr:G.at_<=18446744073709551615) (fC:0<=(aj M.ss ((G.at_-1) % 65536)).nd.next/\(aj M.ss ((G.at_-1) % 65536)).nd.next<=18446744073709551615)
 (pz:G.met.length<=100000) (yI:G.sec<=18446744073709551615) (hb:G.bucket<=1000000) (hn:G.nw.1<=1000000):
 Calls Tryz.prog 237 #[ptr a.f,ptr M.m] w fun e w'=>e=.returned (.bool false)/\gu.bh w M a G (lm M) (dm {G with la:=G.at_,met:=G.at_::G.met} (aj M.ss ((G.at_-1) % 65536)).nd.next.toNat) w':=by
 have hR:=Lib.hid (fun (w1:World) (av:Below w.heap.size w w1)=>(yO (hM.below av).2.2.2.1 cr live).mono fun e w2 q=>show e=.returned (.tuple #[eg (aj M.ss ((G.at_-1) % 65536)).nd,.int .i64 0])/\(Below w.heap.size w w2/\Below w1.heap.size w1 w2) from
  ⟨q.1,av.trans (q.2.mono av.size),q.2⟩)
 obtain ⟨lZ,Bl⟩:=h.c5 h5
 generalize bS:(aj M.ss ((G.at_-1) % 65536)).nd=nd at*
 have c12:=h.ao.cell 12
 simp only [dV,List.getElem?_toArray,List.getElem?_cons_succ,List.getElem?_cons_zero] at c12
 have d2:=hM.hd.2.2.1
 have lM:=hM.1.lt
 have lG:=h.ao.lt
 have HM:=Lib.hid hM
 have HG:=Lib.hid h
 have nm:=World.new_ne w ⟨M.m,2,none⟩ d2
 have nw:=World.new_ne w ⟨a.f,12,none⟩ c12
 unfold eg at hR
 replace live:=Lib.hid live
 replace fC:=Lib.hid fC
 replace pz:=Lib.hid pz
 replace yI:=Lib.hid yI
 replace hb:=Lib.hid hb
 replace hn:=Lib.hid hn
 replace cr:=Lib.hid cr
 replace h5:=Lib.hid h5
 replace Bl:=Lib.hid Bl
 replace lZ:=Lib.hid lZ
 replace bS:=Lib.hid bS
 clear hM h
 go_enter Tryz.func237,Tryz.ntmps237
 go_upto_region 1 with (fail)
 go_cut [5,6] (fun p e wx=>CH w wx nd p e)
 case first=>
  go_region_held3 (fun w'=>w'.cell? ⟨M.m,2,none⟩=some (ptr M.ar)/\w'.cell? ⟨a.f,12,none⟩=some (.int .u64 G.at_)) (go_keep)
   (first
     | (go_at_call 156
        refine (hR.out w.drew ⟨rfl,rfl,rfl,Nat.le_refl _,fun _ _=>rfl⟩).mono ?_
        rintro e w2 ⟨rfl,au,_⟩
        have d2':=(au.cell (p:=⟨M.m,2,none⟩) lM).trans d2
        have c12':=(au.cell (p:=⟨a.f,12,none⟩) lG).trans c12
        have fU:=au.size
        replace au:=Lib.hid au)
     | (go_at_call 156
        refine (hR.out (w.alloc (.cells #[.string ⟨#[]⟩,.string ⟨#[]⟩,.int .u32 0,.int .u64 0] 67)).drew (((Below.refl w.heap.size w).alloc (Nat.le_refl _) _).trans ⟨rfl,rfl,rfl,by simp,fun _ _=>rfl⟩)).mono ?_
        rintro e w2 ⟨rfl,au,aR⟩
        have ag:af w2 w.heap.size 67 #[.string ⟨#[]⟩,.string ⟨#[]⟩,.int .u32 0,.int .u64 0]:=af.only (w:=(w.alloc (.cells #[.string ⟨#[]⟩,.string ⟨#[]⟩,.int .u32 0,.int .u64 0] 67)).drew) (af.made w _ _) (ab.aA aR (fun _=>False)) (by simp)
        have d2':=(au.cell (p:=⟨M.m,2,none⟩) lM).trans d2
        have c12':=(au.cell (p:=⟨a.f,12,none⟩) lG).trans c12
        have fU:=au.size
        have k0:=ag.cell 0
        have k1:=ag.cell 1
        have k2:=ag.cell 2
        have k3:=ag.cell 3
        simp at k0 k1 k2 k3
        have y0:=ag.frozen 0
        have y1:=ag.frozen 1
        have y2:=ag.frozen 2
        have y3:=ag.frozen 3
        replace au:=Lib.hid au
        replace ag:=Lib.hid ag))
  all_goals
   go_wp2_with fail
   go_meet
   first
    | exact ⟨_,rfl,rfl,fU,af.made w2 _ _,au.out.alloc fU _⟩
    | exact ⟨_,rfl,rfl,Nat.le_refl _,(((ag.out.store 0 _).store 1 _).store 2 _).store 3 _,(((au.out.setCell (p:=⟨w.heap.size,0,none⟩) (Nat.le_refl _) _).setCell (p:=⟨w.heap.size,1,none⟩) (Nat.le_refl _) _).setCell (p:=⟨w.heap.size,2,none⟩) (Nat.le_refl _) _).setCell (p:=⟨w.heap.size,3,none⟩) (Nat.le_refl _) _⟩
 case rest=>
  obtain ⟨b,rfl,rfl,bW,hB,av⟩:=hcut
  clear hR c12 d2 nm nw
  have ak:Own wc a G:=HG.out.ao.only (ab.aA av (fun _=>False)) (by simp)
  have aw:Me.Met wc a.B G.met:=Bl.out.only (ab.aA av (fun _=>False)) (by simp)
  have c12:=ak.cell 12
  have c13:=ak.cell 13
  have z13:=ak.frozen 13
  simp only [dV,List.getElem?_toArray,List.getElem?_cons_succ,List.getElem?_cons_zero] at c12 c13
  obtain ⟨z,hz⟩:=Int.eq_ofNat_of_zero_le fC.out.1
  rw [hz] at hB
  have po:=Lib.hid (show z<=18446744073709551615 by have:=fC.out; omega)
  have vh:Hid (nd.next.toNat=z):=Lib.hid (by rw [hz]; rfl)
  have du:Own (wc.setCell ⟨a.f,13,none⟩ (.int .u64 G.at_)) a {G with la:=G.at_}:=ak.store 13 (.int .u64 G.at_)
  have ae:=sN (c:=a.f) wc 13 (.int .u64 G.at_)
  have Fi:=DG ak aw
  have aI:=aw.only ae Fi
  have Fj:b≠a.f:=fun e=>by have:=HG.out.ao.lt; omega
  have Xr:b≠a.B:=fun e=>by have:=Bl.out.lt; omega
  have mb:=hB.only ae Fj
  have bE:=(ab.aA av (dq a G)).trans' ae (fun x _ q=>.inl q)
  replace ak:=Lib.hid ak
  replace aw:=Lib.hid aw
  replace hB:=Lib.hid hB
  replace av:=Lib.hid av
  replace du:=Lib.hid du
  replace ae:=Lib.hid ae
  replace aI:=Lib.hid aI
  replace mb:=Lib.hid mb
  replace bE:=Lib.hid bE
  go_upto_region 6 with (fail)
  generalize wc.setCell ⟨a.f,13,none⟩ (.int .u64 (G.at_:Int))=w2 at*
  clear c12 c13 z13 ak aw hB av ae
  have c12:=du.out.cell 12
  have c14:=du.out.cell 14
  simp only [dV,List.getElem?_toArray,List.getElem?_cons_succ,List.getElem?_cons_zero,lZ.out] at c12 c14
  obtain ⟨w3,eX,bB,an⟩:=Uv (aI.out.only ((ab.refl (fun _=>False) w2).drew) (by simp)) (by have:=pz.out; omega) cr.out
  have de:Own w3 a {G with la:=G.at_,met:=G.at_::G.met}:=(du.out.only ((ab.refl (fun _=>False) w2).drew) (by simp)).only an Fi.symm
  have xL:=(mb.out.only ((ab.refl (fun _=>False) w2).drew) (by simp)).only an Xr
  have p12:=de.cell 12
  have p14:=de.cell 14
  have k3:=xL.cell 3
  simp only [dV,List.getElem?_toArray,List.getElem?_cons_succ,List.getElem?_cons_zero,lZ.out] at p12 p14 k3
  have hC:=Lib.hid (wI de lZ.out bB yI.out hb.out hn.out po.out)
  have Xs:=Lib.hid ((bE.out.drew).trans' an (fun x _ q=>.inr (.inl ⟨h5.out,q⟩)))
  replace bB:=Lib.hid bB
  clear an de xL
  go_region_held3 (fun w'=>w'.cell? ⟨a.f,12,none⟩=some (.int .u64 G.at_)/\w'.cell? ⟨a.f,14,none⟩=some (.map (some a.B))) (go_keep)
   (fail)
  clear eX c12 c14 p12 p14
  go_wp2_with fail
  refine hC.out.mono ?_
  rintro e w4 ⟨rfl,va,aN⟩
  have hS:Hid (gu.bh w M a G (lm M) (dm {G with la:=G.at_,met:=G.at_::G.met} z) w4):=Lib.hid (by
   have hA:=JM va lZ.out (bB.out.only aN Fi)
   refine oX HM.out (a':=a) hA rfl ?_ HG.out (Xs.out.trans' aN (fun x _ q=>.inl q)) (fun x q=>q)
   rintro x (q | ⟨_,q⟩ | ⟨q,_⟩)
   ·exact .inl (.inl q)
   ·exact .inl (.inr (.inl ⟨h5.out,q⟩))
   ·exfalso
    unfold dm at q
    split at q
    ·exact (zV _).2 q
    ·simp at q)
  clear hC va aN k3
  go_wp2_with fail
  go_ret
  exact ⟨rfl,by rw [vh.out]; exact hS.out⟩
end
end Go.Proofs.YtpanebgakndddaaGreat.Sw
namespace Go.Proofs.YtpanebgakndddaaGreat.Sw
open Go Go.RowKit Hp K Fl Rw Hm Ar Mm Me Qs Wk Pn
set_option maxRecDepth 100000
section
variable {w w':World} {M:Mo} {a:Sc} {G:Sh}
theorem CN {ss:List Sl} {x y k:Nat} (hl:ss.length<=1024) (hk:bj ss x k):Pu.aS ss x y=ss.set k {aj ss k with nd:={(aj ss k).nd with next:=(y:Int)}}:=by
 unfold Pu.aS
 rw [(nO hl hk).1]
def CO (w:World) (M:Mo) (a:Sc) (G:Sh) (x y:Nat) (w':World):Prop:=ah w' {M with ss:=Pu.aS M.ss x y}/\cO w' a G/\ab (aq M) w w'
theorem qV (hM:ah w M) (h:cO w a G) {x k:Nat} (hx:x<=18446744073709551615) (hk:bj M.ss x k) (y:Nat) (w1:World) (h0:ab (fun _=>False) w w1):
 Calls Tryz.prog 203 #[ptr M.ar,.int .u64 x,.int .u64 y] w1 fun e w'=>e=.returned (.int .i64 0)/\CO w M a G x y w':=by
 have qv:ah w1 M:=hM.only h0 (by simp)
 refine (By qv.2.2.2.1 hx hk (y:Int)).mono fun e w' q=>?_
 have ho:ab (aq M) w w':=(h0.mono (fun x _ q=>q.elim)).trans' q.2.2 (fun x _ q=>.inr (.inr (.inr (.inl q))))
 refine ⟨q.1,?_,h.only ho (fun x hx q=>h.aB hM hx q),ho⟩
 rw [CN hM.2.2.2.1.room.2 hk]
 exact qv.wM q.2.1 q.2.2
set_option maxHeartbeats 2000000 in
theorem Uw (hM:ah w M) (h:cO w a G) {k:Nat} (hx:G.la<=18446744073709551615) (hk:bj M.ss G.la k) (hb:G.bucket<=1000000) (hn:G.nw.1<=1000000):
 Calls Tryz.prog 242 #[ptr a.f,ptr M.m] w fun e w'=>e=.returned (.bool false)/\gu.bh w M a G {lm M with ss:=Pu.aS M.ss G.la G.sec} (bI G) w':=by
 have ie:=Lib.hid (qV hM h hx hk G.sec)
 have c11:=h.ao.cell 11
 have c13:=h.ao.cell 13
 simp only [dV,List.getElem?_toArray,List.getElem?_cons_succ,List.getElem?_cons_zero] at c11 c13
 have d2:=hM.hd.2.2.1
 have HM:=Lib.hid hM
 have HG:=Lib.hid h
 clear hM h
 go_enter Tryz.func242,Tryz.ntmps242
 go_wp2_with fail
 go_region_held3 (fun w'=>w'.cell? ⟨M.m,2,none⟩=some (ptr M.ar)/\w'.cell? ⟨a.f,11,none⟩=some (.int .u64 G.sec)/\w'.cell? ⟨a.f,13,none⟩=some (.int .u64 G.la)) (go_keep)
  (first
    | (go_at_call 203
       refine (ie.out (w.drewN 1) ((ab.refl (fun _=>False) w).drewN 1)).mono ?_
       rintro e w1 ⟨rfl,aw,ak,bE⟩
       have p11:=ak.ao.cell 11
       have p13:=ak.ao.cell 13
       have p2:=aw.hd.2.2.1
       simp only [dV,List.getElem?_toArray,List.getElem?_cons_succ,List.getElem?_cons_zero] at p11 p13
       have hT:=Lib.hid (oW ak.ao hb hn)
       replace aw:=Lib.hid aw
       replace ak:=Lib.hid ak
       replace bE:=Lib.hid bE
       clear ie))
 clear p11 p13 p2
 go_wp2_with fail
 refine hT.out.mono ?_
 rintro e w2 ⟨rfl,ag,ae⟩
 have hE:Hid (gu.bh w M a G {lm M with ss:=Pu.aS M.ss G.la G.sec} (bI G) w2):=Lib.hid
  ⟨_,a,aw.out.only ae (fun x hx e=>ak.out.aB aw.out (x:=a.f) (.inl rfl) (e▸hx)),rfl,⟨rfl,rfl,rfl,rfl,fun x q=>.inl q⟩,cO.plain ag (uI _),rfl,sO (uI _),
   (bE.out.mono (fun x _ q=>(.inl q:aq M x\/dq a G x))).trans' ae (fun x _ q=>.inr (.inl q))⟩
 clear ag ae hT
 go_wp2_with fail
 go_ret
 exact ⟨rfl,hE.out⟩
def CK (w:World) (M:Mo) (a:Sc) (G:Sh) (k x:Nat) (w':World):Prop:=ah w' {M with xs:=M.xs.set k (x:Int)}/\cO w' a G/\ab (aq M) w w'
theorem um (hM:ah w M) (h:cO w a G) (k:Nat) (hk:k<M.xs.length) (x:Nat) (hx:x<=18446744073709551615) (w1:World) (h0:ab (fun _=>False) w w1):
 Calls Tryz.prog 45 #[ptr M.g,.int .i64 k,.int .u64 x] w1 fun e w'=>e=.returned (.int .i64 0)/\CK w M a G k x w':=
 (Cl.vU (hM.only h0 (by simp)).2.1 k hk (x:Int) (by omega) (by omega)).mono fun e w' q=>by
   have ho:ab (aq M) w w':=(h0.mono (fun x _ q=>q.elim)).trans' q.2.2 (fun x _ q=>.inr (.inl q))
   exact ⟨q.1,(hM.only h0 (by simp)).cells q.2.1 q.2.2,h.only ho (fun x hx q=>h.aB hM hx q),ho⟩
set_option maxHeartbeats 2000000 in
theorem wL (hM:ah w M) (h:cO w a G) (hx:G.nw.2+G.bucket<M.xs.length) (hf:G.fi<=18446744073709551615) (hw:G.nw.2<=4000000) (hb:G.bucket<=1000000) (hn:G.nw.1<=1000000):
 Calls Tryz.prog 235 #[ptr a.f,ptr M.m] w fun e w'=>e=.returned (.bool false)/\gu.bh w M a G {lm M with xs:=M.xs.set (G.nw.2+G.bucket) ((G.fi:Nat):Int)} (fQ G) w':=by
 have cR:=um hM h (G.nw.2+G.bucket) hx G.fi hf
 have e1:((G.nw.2+G.bucket:Nat):Int)=(G.nw.2:Int)+(G.bucket:Int):=by omega
 rw [e1] at cR
 have ew:IntKind.i64.wrap ((G.nw.2:Int)+(G.bucket:Int))=(G.nw.2:Int)+(G.bucket:Int):=IntWalk.i64_in _ (by omega)
 have c7:=h.ao.cell 7
 have c9:=h.ao.cell 9
 have c10:=h.ao.cell 10
 simp only [dV,List.getElem?_toArray,List.getElem?_cons_succ,List.getElem?_cons_zero] at c7 c9 c10
 have d0:=hM.hd.1
 replace cR:=Lib.hid cR
 have HM:=Lib.hid hM
 have HG:=Lib.hid h
 clear hM h hx e1
 go_enter Tryz.func235,Tryz.ntmps235
 go_wp2_with fail
 go_region_held3 (fun w'=>w'.cell? ⟨M.m,0,none⟩=some (ptr M.g)/\w'.cell? ⟨a.f,7,none⟩=some (.int .i64 G.nw.2)/\w'.cell? ⟨a.f,9,none⟩=some (.int .i64 G.bucket)/\w'.cell? ⟨a.f,10,none⟩=some (.int .u64 G.fi)) (go_keep)
  (first
    | (go_at_call 45
       refine (cR.out (w.drewN 1) ((ab.refl (fun _=>False) w).drewN 1)).mono ?_
       rintro e w1 ⟨rfl,aw,ak,bE⟩
       have p7:=ak.ao.cell 7
       have p9:=ak.ao.cell 9
       have p10:=ak.ao.cell 10
       have p0:=aw.hd.1
       simp only [dV,List.getElem?_toArray,List.getElem?_cons_succ,List.getElem?_cons_zero] at p7 p9 p10
       have hT:=Lib.hid (JK ak.ao hb hn)
       replace aw:=Lib.hid aw
       replace ak:=Lib.hid ak
       replace bE:=Lib.hid bE
       clear cR))
 clear p7 p9 p10 p0
 go_wp2_with fail
 refine hT.out.mono ?_
 rintro e w2 ⟨rfl,ag,ae⟩
 have hE:Hid (gu.bh w M a G {lm M with xs:=M.xs.set (G.nw.2+G.bucket) ((G.fi:Nat):Int)} (fQ G) w2):=Lib.hid
  ⟨_,a,aw.out.only ae (fun x hx e=>ak.out.aB aw.out (x:=a.f) (.inl rfl) (e▸hx)),rfl,⟨rfl,rfl,rfl,rfl,fun x q=>.inl q⟩,cO.plain ag (DI _),rfl,sO (DI _),
   (bE.out.mono (fun x _ q=>(.inl q:aq M x\/dq a G x))).trans' ae (fun x _ q=>.inr (.inl q))⟩
 clear ag ae hT
 go_wp2_with fail
 go_ret
 exact ⟨rfl,hE.out⟩
set_option maxHeartbeats 2000000 in
theorem CL (hM:ah w M) (h:cO w a G) (hx:1<M.xs.length) (hn:0<=G.num/\G.num<=1000000):
 Calls Tryz.prog 241 #[ptr a.f,ptr M.m] w fun e w'=>e=.returned (.bool false)/\gu.bh w M a G {lm M with xs:=M.xs.set 1 G.num} {G with W:=⟨G.worker,0,0,0⟩,nx:=9} w':=by
 obtain ⟨z,hz⟩:=Int.eq_ofNat_of_zero_le hn.1
 have c8:=h.ao.cell 8
 simp only [dV,List.getElem?_toArray,List.getElem?_cons_succ,List.getElem?_cons_zero] at c8
 have cR:=um hM h 1 hx z (by omega)
 rw [hz] at c8
 have ez:IntKind.u64.wrap (z:Int)=z:=by rw [IntKind.wrap_u64]; omega
 have d0:=hM.hd.1
 replace cR:=Lib.hid cR
 have LB:=Lib.hid (CA G.worker)
 have HM:=Lib.hid hM
 have HG:=Lib.hid h
 replace hz:=Lib.hid hz
 clear h hM hn
 go_enter Tryz.func241,Tryz.ntmps241
 go_wp2_with fail
 go_region_held3 (fun w'=>w'.cell? ⟨M.m,0,none⟩=some (ptr M.g)/\w'.cell? ⟨a.f,8,none⟩=some (.int .i64 z)) (go_keep)
  (first
    | (go_at_call 45
       refine (cR.out (w.drewN 1) ((ab.refl (fun _=>False) w).drewN 1)).mono ?_
       rintro e w1 ⟨rfl,aw,ak,bE⟩
       have p0:=ak.ao.cell 0
       have p8:=ak.ao.cell 8
       have p00:=aw.hd.1
       simp only [dV,List.getElem?_toArray,List.getElem?_cons_succ,List.getElem?_cons_zero,hz.out] at p0 p8
       replace aw:=Lib.hid aw
       replace ak:=Lib.hid ak
       replace bE:=Lib.hid bE
       clear cR))
 clear p8 p00
 go_wp2_with fail
 refine (LB.out _).mono ?_
 rintro e w2 ⟨rfl,fk,au⟩
 obtain ⟨b,hb⟩:∃ b,b=w1.heap.size:=⟨_,rfl⟩
 rw [<-hb] at fk ⊢
 have du:Own w2 a G:=ak.out.ao.only (ab.aA au (fun _=>False)) (by simp)
 have d1:=du.cell 1
 have d2:=du.cell 2
 have y1:=du.frozen 1
 have y2:=du.frozen 2
 simp only [dV,List.getElem?_toArray,List.getElem?_cons_succ,List.getElem?_cons_zero] at d1 d2
 have hE:Own ((w2.setCell ⟨a.f,1,none⟩ (aU 56 (ptr b))).setCell ⟨a.f,2,none⟩ (aU 74 (ptr b))) {a with w:=b} {G with W:=⟨G.worker,0,0,0⟩,nx:=9}:=
  (du.store 1 (aU 56 (ptr b))).store 2 (aU 74 (ptr b))
 have ae:=kG (c:=a.f) w2 1 2 (aU 56 (ptr b)) (aU 74 (ptr b))
 have an:=(ab.aA au (·=a.f)).trans ae
 have aL:b≠a.f:=fun e=>by have:=ak.out.ao.lt; omega
 have dw:=fk.only ae aL
 have hS:Hid (gu.bh w M a G {lm M with xs:=M.xs.set 1 (z:Int)} {G with W:=⟨G.worker,0,0,0⟩,nx:=9} ((w2.setCell ⟨a.f,1,none⟩ (aU 56 (ptr b))).setCell ⟨a.f,2,none⟩ (aU 74 (ptr b)))):=Lib.hid (by
  refine ⟨_,{a with w:=b},aw.out.only an (fun x hx e=>ak.out.aB aw.out (x:=a.f) (.inl rfl) (e▸hx)),rfl,⟨rfl,rfl,rfl,rfl,fun x q=>.inl q⟩,⟨hE,fun q=>by simp at q,fun _=>dw⟩,rfl,fun x hx=>?_,(bE.out.mono (fun x _ q=>(.inl q:aq M x\/dq a G x))).trans' an (fun x _ q=>.inr (.inl q))⟩
  rcases hx with q | ⟨q,_⟩ | ⟨_,q⟩
  ·exact .inl (.inl q)
  ·simp at q
  ·have hs:=bE.out.size
   rw [q]
   exact .inr (by show w.heap.size<=b; omega))
 generalize ob a G.nx=u1 at*
 generalize mK a G.nx=u2 at*
 clear LB fk au du hE ae an aL dw p0 hb
 go_wp2_with fail
 go_ret
 exact ⟨rfl,by
  have q:=hS.out
  rw [<-hz.out] at q
  exact q⟩
theorem Ux {n:Nat} (hM:ah w M) (h:cO w a G) (h9:G.nx=9) (hn:M.k=n) (ok:eV n M.xs M.hs G.W) (hr:iI M.xs M.hs G.W=true):
 Calls Tryz.prog 74 #[ptr a.w,ptr M.m] w fun e w'=>e=.returned (.bool (decide (G.W.at_=3)))/\
  gu.bh w M a G {lm M with xs:=(aW n M.xs M.hs G.W).1,hs:=(aW n M.xs M.hs G.W).2.1} {G with W:=(aW n M.xs M.hs G.W).2.2} w':=by
 have hW:=h.wt h9
 refine (CM hM hW hn ok hr).mono fun e w1 q=>⟨q.1,_,a,q.2.1,rfl,⟨rfl,rfl,rfl,rfl,fun x q=>.inl q⟩,⟨h.ao.only q.2.2.2 ?_,fun q=>by simp only at q; omega,fun _=>q.2.2.1⟩,rfl,fun x q=>.inl q,q.2.2.2.mono (fun x _ y=>y.imp id (fun e=>.inr (.inr ⟨h9,e⟩)))⟩
 rintro (q | q)
 ·exact h.aB hM (.inl rfl) q
 ·exact h.ao.differ hW (by decide) q
end
end Go.Proofs.YtpanebgakndddaaGreat.Sw
namespace Go.Proofs.YtpanebgakndddaaGreat.Sw
open Go Go.RowKit Hp K Fl Rw Hm Ar Mm Me Qs Wk Pn
set_option maxRecDepth 100000
def il (k:Int):Sh:=⟨k,1,0,(0,0),(0,0),0,0,0,0,0,0,[],⟨0,0,0,0⟩⟩
theorem CP {w:World} {f F:Nat} {b:Array Value} {u1 u2:Value} (c1:w.cell? ⟨f,1,none⟩=some u1) (c2:w.cell? ⟨f,2,none⟩=some u2) (z1:w.frozen? ⟨f,1,none⟩=false) (z2:w.frozen? ⟨f,2,none⟩=false):
 Calls Tryz.prog 118 #[ptr f,.func (.func F) b #[]] w fun e w'=>e=.returned (.tuple #[])/\w'=(w.setCell ⟨f,1,none⟩ (dY 157)).setCell ⟨f,2,none⟩ (.func (.func F) b #[]):=by
 go_enter Tryz.func118,Tryz.ntmps118
 go_wp2
 go_end0
 exact ⟨rfl,rfl⟩
theorem Hq (k:Int) (w:World):Calls Tryz.prog 88 #[.int .i64 k] w fun e w'=>∃ a:Sc,e=.returned (ptr a.f)/\cO w' a (il k)/\(∀ x,dq a (il k) x->w.heap.size<=x)/\Below w.heap.size w w':=by
 obtain ⟨w2,aT⟩:∃ w2,w2=w.alloc (.cells #[.int .i64 k,.nilFunc,.nilFunc,.int .i64 0,.int .i64 0,.int .i64 0,.int .i64 0,.int .i64 0,.int .i64 0,.int .i64 0,.int .u64 0,.int .u64 0,.int .u64 0,.int .u64 0,.map none] 205):=⟨_,rfl⟩
 have aP:af w2 w.heap.size 205 #[.int .i64 k,.nilFunc,.nilFunc,.int .i64 0,.int .i64 0,.int .i64 0,.int .i64 0,.int .i64 0,.int .i64 0,.int .i64 0,.int .u64 0,.int .u64 0,.int .u64 0,.int .u64 0,.map none]:=by rw [aT]; exact af.made w _ _
 have ag:Below w.heap.size w w2:=by rw [aT]; exact (Below.refl _ _).alloc (Nat.le_refl _) _
 obtain ⟨f,hf⟩:∃ f,f=w.heap.size:=⟨_,rfl⟩
 rw [<-hf] at aP
 have gZ:w.heap.size<=f:=by omega
 have ku:=Lib.hid (CP (F:=119) (b:=#[ptr f]) (aP.cell 1) (aP.cell 2) (aP.frozen 1) (aP.frozen 2))
 have hE:Hid (cO ((w2.setCell ⟨f,1,none⟩ (dY 157)).setCell ⟨f,2,none⟩ (aU 119 (ptr f))) ⟨f,.map none,0,0⟩ (il k)):=Lib.hid
  ⟨(aP.store 1 (dY 157)).store 2 (aU 119 (ptr f)),fun q=>by simp [il] at q,fun q=>by simp [il] at q⟩
 have bp:Hid (∀ x,dq ⟨f,.map none,0,0⟩ (il k) x->w.heap.size<=x):=Lib.hid (by
  rintro x (rfl | ⟨q,_⟩ | ⟨q,_⟩)
  ·exact gZ
  ·simp [il] at q
  ·simp [il] at q)
 have hB:=Lib.hid ((ag.setCell (p:=⟨f,1,none⟩) gZ (dY 157)).setCell (p:=⟨f,2,none⟩) gZ (aU 119 (ptr f)))
 clear aP ag gZ
 go_enter Tryz.func88,Tryz.ntmps88
 go_upto_region 2 with (fail)
 rw [<-aT,<-hf]
 clear aT hf
 go_wp2_with fail
 refine ku.out.mono ?_
 rintro e w1 ⟨rfl,aJ⟩
 rw [<-aJ] at hE hB
 clear aJ ku
 go_wp2_with fail
 go_ret
 exact ⟨_,rfl,hE.out,bp.out,hB.out⟩
theorem qK {w:World} {a:Sc} {G:Sh} (h:cO w a G):Calls Tryz.prog 89 #[ptr a.f] w fun e w'=>e=.returned (.int .i64 G.err)/\w'=w:=by
 have c3:=h.ao.cell 3
 simp only [dV,List.getElem?_toArray,List.getElem?_cons_succ,List.getElem?_cons_zero] at c3
 clear h
 go_enter Tryz.func89,Tryz.ntmps89
 go_wp2_with fail
 go_ret
 exact ⟨rfl,rfl⟩
theorem mL {w:World} {F f:Nat} {cv m:Value} {c:Bool} {P:World->Prop} (c2:w.cell? ⟨f,2,none⟩=some (aU F cv)) (eF:∀ args w,(callFunc F args).run Tryz.prog w=.ok (.enter F args) w)
 (hF:Calls Tryz.prog F #[cv,m] w fun e w'=>e=.returned (.bool c)/\P w'):Calls Tryz.prog 279 #[ptr f,m] w fun e w'=>e=.returned (.bool c)/\P w':=by
 replace hF:=Lib.hid hF
 go_enter Tryz.func279,Tryz.ntmps279
 go_wp2_with fail
 refine hF.out.mono ?_
 rintro e w' ⟨rfl,bq⟩
 replace bq:=Lib.hid bq
 clear c2
 go_wp2_with fail
 go_ret
 exact ⟨rfl,bq.out⟩
theorem Uy {w:World} {f:Nat} {m:Value} (c1:w.cell? ⟨f,1,none⟩=some (dY 157)):Calls Tryz.prog 278 #[ptr f,m] w fun e w'=>e=.returned (.bool true)/\Below w.heap.size w w':=by
 have eF:∀ args w,(callFunc 157 args).run Tryz.prog w=.ok (.enter 157 args) w:=fun _ _=>by kernel_rfl
 have hA:=Lib.hid (sC m w)
 go_enter Tryz.func278,Tryz.ntmps278
 go_wp2_with fail
 refine hA.out.mono ?_
 rintro e w' ⟨rfl,hw⟩
 obtain rfl:w=w':=hw.symm
 clear hA c1
 go_wp2_with fail
 go_ret
 exact ⟨rfl,Below.refl _ _⟩
theorem zT {w:World} {F f:Nat} {cv m:Value} {c:Bool} (c1:w.cell? ⟨f,1,none⟩=some (aU F cv)) (eF:∀ args w,(callFunc F args).run Tryz.prog w=.ok (.enter F args) w)
 (hF:Calls Tryz.prog F #[cv,m] w fun e w'=>e=.returned (.bool c)/\∃ n,w'=w.drewN n):Calls Tryz.prog 278 #[ptr f,m] w fun e w'=>e=.returned (.bool c)/\Below w.heap.size w w':=by
 replace hF:=Lib.hid hF
 go_enter Tryz.func278,Tryz.ntmps278
 go_wp2_with fail
 refine hF.out.mono ?_
 rintro e w' ⟨rfl,n,rfl⟩
 clear c1
 go_wp2_with fail
 go_ret
 exact ⟨rfl,rfl,rfl,rfl,Nat.le_refl _,fun _ _=>rfl⟩
theorem Uz (args:Array Value) (w:World):(callFunc 119 args).run Tryz.prog w=.ok (.enter 119 args) w:=by kernel_rfl
theorem JN (args:Array Value) (w:World):(callFunc 158 args).run Tryz.prog w=.ok (.enter 158 args) w:=by kernel_rfl
theorem UA (args:Array Value) (w:World):(callFunc 191 args).run Tryz.prog w=.ok (.enter 191 args) w:=by kernel_rfl
theorem UB (args:Array Value) (w:World):(callFunc 210 args).run Tryz.prog w=.ok (.enter 210 args) w:=by kernel_rfl
theorem UC (args:Array Value) (w:World):(callFunc 237 args).run Tryz.prog w=.ok (.enter 237 args) w:=by kernel_rfl
theorem UD (args:Array Value) (w:World):(callFunc 242 args).run Tryz.prog w=.ok (.enter 242 args) w:=by kernel_rfl
theorem UE (args:Array Value) (w:World):(callFunc 235 args).run Tryz.prog w=.ok (.enter 235 args) w:=by kernel_rfl
theorem UF (args:Array Value) (w:World):(callFunc 241 args).run Tryz.prog w=.ok (.enter 241 args) w:=by kernel_rfl
theorem UG (args:Array Value) (w:World):(callFunc 74 args).run Tryz.prog w=.ok (.enter 74 args) w:=by kernel_rfl
theorem UH (args:Array Value) (w:World):(callFunc 56 args).run Tryz.prog w=.ok (.enter 56 args) w:=by kernel_rfl
section
variable {w w':World} {M:Mo} {a:Sc} {G:Sh}
theorem UI (hM:ah w M) (h:cO w a G) (ok:pK (lm M) G):Calls Tryz.prog 278 #[ptr a.f,ptr M.m] w fun e w'=>e=.returned (.bool (eK (lm M) G))/\Below w.heap.size w w':=by
 have c1:=(sA h.ao).2.1
 unfold ob at c1
 unfold eK
 by_cases h9:G.nx=9
 ·rw [if_pos h9] at c1 ⊢
  obtain ⟨o1,o2⟩:=ok.c9 h9
  have hp:=o2.bF
  have hx:M.k.toNat+2<=M.xs.length:=o2.xl
  have gW:G.W.at_<=2->G.W.bF<M.k.toNat:=hp.2
  exact zT c1 UH (Qs.pM hM (h.wt h9) o2.hl (fun q=>by have:=gW (by omega); exact ⟨by omega,by omega⟩) (by have:=o2.at_; omega))
 ·rw [if_neg h9] at c1 ⊢
  exact Uy c1
theorem UJ (hM:ah w M) (h:cO w a G) (ok:pK (lm M) G) (hr:eK (lm M) G=true):
 Calls Tryz.prog 279 #[ptr a.f,ptr M.m] w fun e w'=>e=.returned (.bool (b7 (lm M) G))/\gu.bh w M a G (aH (lm M) G).1 (aH (lm M) G).2 w':=by
 have c2:=(sA h.ao).2.2.1
 unfold mK at c2
 have fC:=ok.nx
 have kR:=ok.bk
 have bO:=ok.nw
 have Fk:=ok.hb
 by_cases e1:G.nx=1
 ·rw [if_pos e1] at c2
  rw [show b7 (lm M) G=false by unfold b7; rw [if_neg (by omega),if_neg (by omega)]; simp; omega]
  exact mL c2 Uz (wK hM h ok.x1 e1)
 rw [if_neg e1] at c2
 obtain ⟨el1,el2⟩:=ok.el e1
 by_cases e2:G.nx=2
 ·rw [if_pos e2] at c2
  have ed:b7 (lm M) G= !decide (FM.bl ((G.el.1 / 2:Nat):Int)=true/\M.xs.length+G.el.1 / 2<=1048576):=by unfold b7; rw [if_pos e2]
  by_cases hp:FM.bl ((G.el.1 / 2:Nat):Int)=true/\M.xs.length+G.el.1 / 2<=1048576
  ·have es:aH (lm M) G=({lm M with xs:=M.xs++List.replicate (G.el.1 / 2) 0,ds:=M.ds++[(G.el.1 / 2,M.xs.length)]},{G with num:=M.ds.length,err:=0,nw:=(G.el.1 / 2,M.xs.length),nx:=3}):=by
    unfold aH; rw [if_neg e1,if_pos e2,if_pos hp]
   rw [ed,es,show (!decide (FM.bl ((G.el.1 / 2:Nat):Int)=true/\M.xs.length+G.el.1 / 2<=1048576))=false by simp only [decide_eq_true hp]; rfl]
   exact mL c2 JN (CE hM h el1 ok.ds hp.1 hp.2)
  ·have es:aH (lm M) G=(lm M,{G with num:= -1,err:=if FM.bl ((G.el.1 / 2:Nat):Int)=true then 2 else 5,nx:=10}):=by
    unfold aH; rw [if_neg e1,if_pos e2,if_neg hp]
   rw [ed,es,show (!decide (FM.bl ((G.el.1 / 2:Nat):Int)=true/\M.xs.length+G.el.1 / 2<=1048576))=true by simp only [decide_eq_false hp]; rfl]
   exact mL c2 JN (CC hM h el1 hp)
 rw [if_neg e2] at c2
 by_cases e3:G.nx=3
 ·rw [if_pos e3] at c2
  rw [show b7 (lm M) G=false by unfold b7; rw [if_neg (by omega),if_neg (by omega)]; simp; omega]
  have es:aH (lm M) G=(lm M,{G with fi:=(Cl.nth M.xs (G.el.2+G.bucket)).toNat,nx:=4}):=by unfold aH; rw [if_neg e1,if_neg e2,if_pos e3]
  rw [es]
  exact mL c2 UA (Ut hM h (ok.c3 e3) el2 kR)
 rw [if_neg e3] at c2
 by_cases e4:G.nx=4
 ·rw [if_pos e4] at c2
  rw [show b7 (lm M) G=false by unfold b7; rw [if_neg (by omega),if_neg (by omega)]; simp; omega]
  have es:aH (lm M) G=(lm M,begun {G with sec:=(Cl.nth M.xs (G.el.2+(G.bucket+G.nw.1))).toNat}):=by unfold aH; rw [if_neg e1,if_neg e2,if_neg e3,if_pos e4]
  rw [es]
  exact mL c2 UB (Uu hM h (ok.c4 e4) el2 (by omega) (by omega) Fk.1)
 rw [if_neg e4] at c2
 by_cases e5:G.nx=5
 ·rw [if_pos e5] at c2
  rw [show b7 (lm M) G=false by unfold b7; rw [if_neg (by omega),if_neg (by omega)]; simp; omega]
  have es:aH (lm M) G=(lm M,dm {G with la:=G.at_,met:=G.at_::G.met} (aj M.ss ((G.at_-1) % 65536)).nd.next.toNat):=by unfold aH; rw [if_neg e1,if_neg e2,if_neg e3,if_neg e4,if_pos e5]
  rw [es]
  obtain ⟨o1,o2,o3,o4⟩:=ok.c5 e5
  exact mL c2 UC (CJ hM h e5 o1 o2 o3 o4 Fk.2 kR (by omega))
 rw [if_neg e5] at c2
 by_cases e6:G.nx=6
 ·rw [if_pos e6] at c2
  rw [show b7 (lm M) G=false by unfold b7; rw [if_neg (by omega),if_neg (by omega)]; simp; omega]
  have es:aH (lm M) G=({lm M with ss:=Pu.aS M.ss G.la G.sec},bI G):=by unfold aH; rw [if_neg e1,if_neg e2,if_neg e3,if_neg e4,if_neg e5,if_pos e6]
  rw [es]
  obtain ⟨o1,k,o2⟩:=ok.c6 e6
  exact mL c2 UD (Uw hM h o1 o2 kR (by omega))
 rw [if_neg e6] at c2
 by_cases e7:G.nx=7
 ·rw [if_pos e7] at c2
  rw [show b7 (lm M) G=false by unfold b7; rw [if_neg (by omega),if_neg (by omega)]; simp; omega]
  have es:aH (lm M) G=({lm M with xs:=M.xs.set (G.nw.2+G.bucket) ((G.fi:Nat):Int)},fQ G):=by unfold aH; rw [if_neg e1,if_neg e2,if_neg e3,if_neg e4,if_neg e5,if_neg e6,if_pos e7]
  rw [es]
  exact mL c2 UE (wL hM h (ok.c7 e7) Fk.1 bO.2 kR (by omega))
 rw [if_neg e7] at c2
 by_cases e8:G.nx=8
 ·rw [if_pos e8] at c2
  rw [show b7 (lm M) G=false by unfold b7; rw [if_neg (by omega),if_neg (by omega)]; simp; omega]
  have es:aH (lm M) G=({lm M with xs:=M.xs.set 1 G.num},{G with W:=⟨G.worker,0,0,0⟩,nx:=9}):=by unfold aH; rw [if_neg e1,if_neg e2,if_neg e3,if_neg e4,if_neg e5,if_neg e6,if_neg e7,if_pos e8]
  rw [es]
  exact mL c2 UF (CL hM h ok.x1 (ok.c8 e8))
 rw [if_neg e8] at c2
 have e9:G.nx=9:=by omega
 rw [if_pos e9] at c2
 have ed:b7 (lm M) G=decide (G.W.at_=3):=by unfold b7; rw [if_neg (by omega),if_pos e9]
 have es:aH (lm M) G=({lm M with xs:=(aW M.k.toNat M.xs M.hs G.W).1,hs:=(aW M.k.toNat M.xs M.hs G.W).2.1},{G with W:=(aW M.k.toNat M.xs M.hs G.W).2.2}):=by
  unfold aH; rw [if_neg e1,if_neg e2,if_neg e3,if_neg e4,if_neg e5,if_neg e6,if_neg e7,if_neg e8]
 rw [ed,es]
 obtain ⟨o1,o2⟩:=ok.c9 e9
 unfold eK at hr
 rw [if_pos e9] at hr
 exact mL c2 UG (Ux hM h e9 (n:=M.k.toNat) (by have:0<=M.k:=o1; omega) o2 hr)
end
theorem pL:oR gu 169 278 279 pK eK aH b7 where
 below h hb:=h.below hb
 mr b w f:=by kernel_rfl
 ms b w f:=by kernel_rfl
 er args w:=by kernel_rfl
 es args w:=by kernel_rfl
 ready hM h ok:=UI hM h ok
 step hM h ok hr:=UJ hM h ok hr
end Go.Proofs.YtpanebgakndddaaGreat.Sw
namespace Go.Proofs.YtpanebgakndddaaGreat.Zp
open Go Hm Ar Mm Wk Pc Me Mq Pu Pn
def aC (q:List Mq.Hp):Nat:=match q with
 | []=>0
 | e::_=>e.1
theorem Cx.hd {ss:List Sl} {x:Nat} {q:List Mq.Hp} (h:Cx ss x q):x=aC q:=by
 cases h with
 | nil=>rfl
 | cons a b c=>rfl
theorem Cx.back {ss:List Sl}:∀ (pre:List Mq.Hp) {q:List Mq.Hp} {x:Nat},Cx ss x (pre++q)->Cx ss (aC q) q:=by
 intro pre
 induction pre with
 | nil=>
   intro q x h
   have h':Cx ss x q:=h
   rw [<-Cx.hd h']
   exact h'
 | cons e t ih=>
   intro q x h
   cases h with
   | cons a b c=>exact ih c
theorem zF {ss:List Sl} {x y j:Nat} (hl:ss.length<=1024) (hj:bj ss x j) (k:Nat):aj (aS ss x y) k=if k=j then {aj ss j with nd:={(aj ss j).nd with next:=(y:Int)}} else aj ss k:=by
 have yt:(x-1) % 65536=j:=(nO hl hj).1
 unfold aS
 rw [yt,at_set hj.1]
theorem C8 (ss:List Sl) (x y:Nat):(aS ss x y).length=ss.length:=by unfold aS; simp
theorem C6 {ss:List Sl} {x y j:Nat} (hl:ss.length<=1024) (hj:bj ss x j) {u k:Nat} (hk:bj ss u k):bj (aS ss x y) u k:=by
 have h:=zF (y:=y) hl hj k
 refine ⟨by rw [C8]; exact hk.1,?_,?_⟩
 ·rw [h]; split
  ·rename_i e; subst e; exact hk.2.1
  ·exact hk.2.1
 ·rw [h]; split
  ·rename_i e; subst e; exact hk.2.2
  ·exact hk.2.2
theorem C7 {ss:List Sl} {x y j:Nat} (hl:ss.length<=1024) (hj:bj ss x j) {u k:Nat} (hk:bj ss u k) (hu:u≠x):bj (aS ss x y) u k/\(aj (aS ss x y) k).nd=(aj ss k).nd:=by
 refine ⟨C6 hl hj hk,?_⟩
 rw [zF hl hj,if_neg]
 rintro rfl
 exact hu (by rw [hk.2.2,hj.2.2])
theorem Cx.aside {ss:List Sl} {x y j p:Nat} {q:List Mq.Hp} (hl:ss.length<=1024) (hj:bj ss x j) (h:Cx ss p q) (hx:x∉aM q):Cx (aS ss x y) p q:=
 h.nA fun u hu k hk=>C7 hl hj hk (fun e=>hx (e▸hu))
theorem Cx.Km {ss:List Sl} {j:Nat} {e:Mq.Hp} {d t:List Mq.Hp} (hl:ss.length<=1024) (hj:bj ss e.1 j):∀ (pre:List Mq.Hp) (p:Nat),Cx ss p (pre++e::(d++t))->(aM (pre++e::(d++t))).Nodup->Cx (aS ss e.1 (aC t)) p (pre++e::t):=by
 intro pre
 induction pre with
 | nil=>
   intro p h hn
   have gM:e.1∉aM (d++t):=(List.nodup_cons.1 hn).1
   cases h with
   | @cons _ k z pp _ a b c=>
     have ET:k=j:=a.uniq hl hj
     subst ET
     have ht:Cx (aS ss p (aC t)) (aC t) t:=Cx.aside hl a (Cx.back d c) (fun q=>gM (by
      simp only [aM,List.map_append,List.mem_append]
      exact .inr q))
     refine .cons (C6 hl a a) (z:=aC t) ?_ ht
     rw [zF hl a,if_pos rfl]
     simp only [b]
     rfl
 | cons e0 r ih=>
   intro p h hn
   have gM:=List.nodup_cons.1 hn
   cases h with
   | @cons _ k z pp _ a b c=>
     have aL:p≠e.1:=by
      rintro rfl
      exact gM.1 (by simp [aM])
     have:=C7 (y:=aC t) hl hj a aL
     exact .cons this.1 (this.2.trans b) (ih _ c gM.2)
structure Zip (ss:List Sl) (σ:ByteArray->Bool) (aY:List Mq.Hp) (s:Bool) (x y:Nat) (u r v rest:List Mq.Hp):Prop where
 own:Cx ss x (u++r++rest)
 oth:Cx ss y (v++rest)
 su:∀ e∈u++r,σ e.2.1=s
 sv:∀ e∈v,σ e.2.1= !s
 hd:∀ e t,rest=e::t->σ e.2.1= !s
 ne:rest≠[]->r≠[]
 nd:(aM (u++r++v++rest)).Nodup
 fs:aY.filter (fun e=>σ e.2.1==s)=u++r++rest.filter (fun e=>σ e.2.1==s)
 fv:aY.filter (fun e=>σ e.2.1== !s)=v++rest.filter (fun e=>σ e.2.1== !s)
section
variable {ss:List Sl} {σ:ByteArray->Bool} {aY:List Mq.Hp} {s:Bool} {x y:Nat} {u r v rest:List Mq.Hp}
theorem filter_all {q:List Mq.Hp} {b:Bool} (h:∀ e∈q,σ e.2.1=b):q.filter (fun e=>σ e.2.1==b)=q:=List.filter_eq_self.2 fun e he=>by simp [h e he]
theorem filter_none {q:List Mq.Hp} {b:Bool} (h:∀ e∈q,σ e.2.1= !b):q.filter (fun e=>σ e.2.1==b)=[]:=List.filter_eq_nil_iff.2 fun e he=>by simp [h e he]
theorem MT (h:Cx ss x aY) (hn:(aM aY).Nodup):∃ s r rest,aY=r++rest/\Zip ss σ aY s x (aC rest) [] r [] rest:=by
 cases aY with
 | nil=>
   refine ⟨true,[],[],rfl,⟨h,.nil,by simp,by simp,by simp,by simp,by simp,by simp,by simp⟩⟩
 | cons e t=>
   have oz:(e::t)=(e::t).takeWhile (fun a=>σ a.2.1==σ e.2.1)++(e::t).dropWhile (fun a=>σ a.2.1==σ e.2.1):=(List.takeWhile_append_dropWhile).symm
   obtain ⟨r,hr⟩:∃ r,r=(e::t).takeWhile (fun a=>σ a.2.1==σ e.2.1):=⟨_,rfl⟩
   obtain ⟨rest,uR⟩:∃ q,q=(e::t).dropWhile (fun a=>σ a.2.1==σ e.2.1):=⟨_,rfl⟩
   rw [<-hr,<-uR] at oz
   have nD:∀ a∈r,σ a.2.1=σ e.2.1:=fun a ha=>by
    rw [hr] at ha
    have:∀ (l:List Mq.Hp),a∈l.takeWhile (fun a=>σ a.2.1==σ e.2.1)->σ a.2.1=σ e.2.1:=by
     intro l
     induction l with
     | nil=>intro q; simp at q
     | cons b l ih=>
       intro q
       rw [List.takeWhile_cons] at q
       split at q
       ·rename_i hb
        rcases List.mem_cons.1 q with rfl | q
        ·simpa using hb
        ·exact ih q
       ·simp at q
    exact this _ ha
   have qb:∀ a t',rest=a::t'->σ a.2.1= !(σ e.2.1):=fun a t' q=>by
    have:∀ (l:List Mq.Hp),l.dropWhile (fun a=>σ a.2.1==σ e.2.1)=a::t'->σ a.2.1= !(σ e.2.1):=by
     intro l
     induction l with
     | nil=>intro q; simp at q
     | cons b l ih=>
       intro q
       rw [List.dropWhile_cons] at q
       split at q
       ·exact ih q
       ·rename_i hb
        injection q with q1 _
        subst q1
        revert hb
        cases σ b.2.1<;>cases σ e.2.1<;>simp
    exact this _ (uR▸q)
   have uP:r≠[]:=by
    rw [hr,List.takeWhile_cons,if_pos (by simp)]
    simp
   refine ⟨σ e.2.1,r,rest,oz,⟨by rw [List.nil_append,<-oz]; exact h,?_,by simpa using nD,by simp,qb,fun _=>uP,by rw [List.nil_append,List.append_nil,<-oz]; exact hn,?_,?_⟩⟩
   ·rw [oz] at h
    exact Cx.back r h
   ·rw [oz,List.filter_append,filter_all nD,List.nil_append]
   ·rw [oz,List.filter_append]
    have:=filter_none (σ:=σ) (b:= !(σ e.2.1)) (q:=r) (by simpa using nD)
    rw [this]
theorem Kn {a:Nat} (h:Zip ss σ aY s x y u r v rest) (ha:a∈aM (u++r)):a∉aM (v++rest):=by
 have:=h.nd
 rw [show u++r++v++rest=(u++r)++(v++rest) by simp] at this
 simp only [aM,List.map_append] at this ha ⊢
 intro q
 rw [show List.map (fun x=>x.1) u++List.map (fun x=>x.1) r++(List.map (fun x=>x.1) v++List.map (fun x=>x.1) rest)=(List.map (fun x=>x.1) u++List.map (fun x=>x.1) r)++(List.map (fun x=>x.1) v++List.map (fun x=>x.1) rest) by simp] at this
 exact (List.nodup_append.1 this).2.2 a (by simpa using ha) a (by simpa using q) rfl
theorem Zip.link (h:Zip ss σ aY s x y u r v rest) (hl:ss.length<=1024) {r0 d t:List Mq.Hp} {e:Mq.Hp} (hr:r=r0++[e]) (hd:rest=d++t) (qu:d≠[]) (jy:∀ a∈d,σ a.2.1= !s) (ht:∀ a t',t=a::t'->σ a.2.1=s):
 Zip (aS ss e.1 (aC t)) σ aY (!s) y x v d (u++r) t:=by
 subst hr hd
 have eT:=h.own
 rw [show u++(r0++[e])++(d++t)=(u++r0)++e::(d++t) by simp] at eT
 obtain ⟨j,_,hj,_⟩:=eT.at e (by simp)
 have bS:=h.nd
 have fz:(aM ((u++r0)++e::(d++t))).Nodup:=by
  have:(aM ((u++r0)++e::(d++t))).Sublist (aM (u++(r0++[e])++v++(d++t))):=by
   apply List.Sublist.map
   rw [show u++r0++e::(d++t)=(u++(r0++[e]))++(d++t) by simp,show u++(r0++[e])++v++(d++t)=(u++(r0++[e]))++(v++(d++t)) by simp]
   exact List.Sublist.append_left (List.sublist_append_right _ _) _
  exact this.nodup bS
 refine ⟨?_,?_,?_,?_,?_,fun _=>qu,?_,?_,?_⟩
 ·have:=Cx.aside (y:=aC t) hl hj h.oth (Kn h (by simp [aM]))
  simpa using this
 ·have:=Cx.Km hl hj (u++r0) x eT fz
  simpa using this
 ·intro a ha
  rcases List.mem_append.1 ha with q | q
  ·exact h.sv a q
  ·exact jy a q
 ·intro a ha
  rw [Bool.not_not]
  exact h.su a ha
 ·intro a t' q
  rw [Bool.not_not]
  exact ht a t' q
 ·have hp:(aM (v++d++(u++(r0++[e]))++t)).Perm (aM (u++(r0++[e])++v++(d++t))):=by
   apply List.Perm.map
   rw [show u++(r0++[e])++v++(d++t)=(u++(r0++[e])++(v++d))++t by simp]
   exact List.Perm.append_right t List.perm_append_comm
  exact hp.nodup_iff.2 bS
 ·have kQ:=h.fv
  rw [kQ,List.filter_append,filter_all jy,List.append_assoc]
 ·have ld:=h.fs
  rw [Bool.not_not,ld,List.filter_append,filter_none jy,List.nil_append]
theorem Zip.oY (h:Zip ss σ aY s x y u r v []):Cx ss x (aY.filter fun e=>σ e.2.1==s)/\Cx ss y (aY.filter fun e=>σ e.2.1== !s):=by
 have h1:=h.own
 have h2:=h.oth
 have h3:=h.fs
 have h4:=h.fv
 simp only [List.filter_nil,List.append_nil] at h1 h2 h3 h4
 rw [h3,h4]
 exact ⟨h1,h2⟩
end
/-! ### readers-/
def Std (σ:ByteArray->Bool) (s:Bool) (u r v rest:List Mq.Hp) (old:Prop) (key:ByteArray) (q:List Mq.Hp):Prop:=
 (σ key=s/\q<:+u++r++rest)\/(σ key= !s/\q<:+v++rest)\/(old/\σ key= !s/\q<:+r++rest)
section
variable {ss:List Sl} {σ:ByteArray->Bool} {aY:List Mq.Hp} {s:Bool} {x y:Nat} {u r v rest q:List Mq.Hp} {old:Prop} {key:ByteArray}
theorem Std.next {e:Mq.Hp} (h:Std σ s u r v rest old key (e::q)):Std σ s u r v rest old key q:=by
 have hq:q<:+e::q:=List.suffix_cons _ _
 rcases h with ⟨a,b⟩ | ⟨a,b⟩ | ⟨o,a,b⟩
 ·exact .inl ⟨a,hq.trans b⟩
 ·exact .inr (.inl ⟨a,hq.trans b⟩)
 ·exact .inr (.inr ⟨o,a,hq.trans b⟩)
theorem Std.mono {old':Prop} (h:Std σ s u r v rest old key q) (ho:old->old'):Std σ s u r v rest old' key q:=by
 rcases h with h | h | ⟨o,h⟩
 ·exact .inl h
 ·exact .inr (.inl h)
 ·exact .inr (.inr ⟨ho o,h⟩)
theorem C5 {a d t:List Mq.Hp} {key:ByteArray} (hk:∀ e∈d,e.2.1≠key):lk (bs (a++(d++t))) key=lk (bs (a++t)) key:=by
 induction a with
 | cons e a ih=>
   simp only [List.cons_append,bs,List.map_cons,lk]
   simp only [bs] at ih
   rw [ih]
 | nil=>
   simp only [List.nil_append]
   induction d with
   | nil=>rfl
   | cons e d ih=>
     simp only [List.cons_append,bs,List.map_cons,lk]
     rw [if_neg (hk e (by simp))]
     exact ih fun e he=>hk e (List.mem_cons_of_mem _ he)
theorem Ko {a b q:List Mq.Hp} (h:q<:+a++b):q<:+b\/∃ a',a'≠[]/\a'<:+a/\q=a'++b:=by
 obtain ⟨p,hp⟩:=h
 rcases List.append_eq_append_iff.1 hp with ⟨c,h1,h2⟩ | ⟨c,h1,h2⟩
 ·by_cases hc:c=[]
  ·subst hc
   exact .inl ⟨[],by simpa using h2⟩
  ·exact .inr ⟨c,hc,⟨p,h1.symm⟩,h2⟩
 ·exact .inl ⟨c,h2.symm⟩
theorem Iu {a:List Mq.Hp} {c:List Mq.Hp} {e:Mq.Hp} (h:c<:+a++[e]) (hc:c≠[]):∃ c0,c=c0++[e]:=by
 obtain ⟨p,hp⟩:=h
 have h1:c=c.dropLast++[c.getLast hc]:=(List.dropLast_concat_getLast hc).symm
 rw [h1,<-List.append_assoc] at hp
 have:=List.append_inj' hp rfl
 have h2:c.getLast hc=e:=by simpa using this.2
 exact ⟨c.dropLast,by rw [<-h2]; exact h1⟩
theorem Std.link (h:Zip ss σ aY s x y u r v rest) (hl:ss.length<=1024) {r0 d t:List Mq.Hp} {e:Mq.Hp} (hr:r=r0++[e]) (hd:rest=d++t) (jy:∀ a∈d,σ a.2.1= !s) {p:Nat} (hq:Cx ss p q) (bR:Std σ s u r v rest False key q):
 ∃ q',Cx (aS ss e.1 (aC t)) p q'/\lk (bs q') key=lk (bs q) key/\q'.length<=q.length/\Std σ (!s) v d (u++r) t True key q':=by
 subst hr hd
 have eT:=h.own
 obtain ⟨j,_,hj,_⟩:=eT.at e (by simp)
 have vC:∀ {q:List Mq.Hp},q<:+v++(d++t)->e.1∉aM q:=fun hs hm=>Kn h (a:=e.1) (by simp [aM]) ((hs.map (·.1)).subset hm)
 rcases bR with ⟨hk,hs⟩ | ⟨hk,hs⟩ | ⟨hf,_⟩
 ·have EN:∀ a∈d,a.2.1≠key:=fun a ha q=>by
   have:=jy a ha
   rw [q,hk] at this
   revert this
   cases s<;>simp
  rcases Ko hs with lI | ⟨c,hc,bo,rfl⟩
  ·
   refine ⟨q,Cx.aside hl hj hq (vC (lI.trans (List.suffix_append _ _))),rfl,Nat.le_refl _,?_⟩
   rcases Ko lI with fU | ⟨c,hc,bo,rfl⟩
   ·exact .inr (.inl ⟨by rw [Bool.not_not]; exact hk,fU.trans (List.suffix_append _ _)⟩)
   ·exact .inr (.inr ⟨trivial,by rw [Bool.not_not]; exact hk,by
     obtain ⟨a,ha⟩:=bo
     exact ⟨a,by rw [<-List.append_assoc,ha]⟩⟩)
  ·
   rw [<-List.append_assoc] at bo
   obtain ⟨c0,rfl⟩:=Iu bo hc
   have fz:(aM (c0++e::(d++t))).Nodup:=by
    have h1:(c0++[e]++(d++t)).Sublist (u++(r0++[e])++v++(d++t)):=by
     rw [show u++(r0++[e])++v++(d++t)=(u++r0++[e])++(v++(d++t)) by simp]
     exact List.Sublist.append bo.sublist (List.sublist_append_right _ _)
    rw [show c0++e::(d++t)=c0++[e]++(d++t) by simp]
    exact (h1.map _).nodup h.nd
   rw [show c0++[e]++(d++t)=c0++e::(d++t) by simp] at hq
   refine ⟨c0++e::t,Cx.Km hl hj c0 p hq fz,?_,by simp,?_⟩
   ·rw [show c0++e::t=(c0++[e])++t by simp,C5 EN]
   ·refine .inr (.inl ⟨by rw [Bool.not_not]; exact hk,?_⟩)
    obtain ⟨a,ha⟩:=bo
    exact ⟨a,by rw [show u++(r0++[e])++t=(u++r0++[e])++t by simp,<-ha]; simp⟩
 ·refine ⟨q,Cx.aside hl hj hq (vC hs),rfl,Nat.le_refl _,.inl ⟨hk,?_⟩⟩
  rw [List.append_assoc]
  exact hs
 ·exact absurd hf id
end
end Go.Proofs.YtpanebgakndddaaGreat.Zp
namespace Go.Proofs.YtpanebgakndddaaGreat.Zp
open Go Hm Ar Mm Wk Pc Me Mq Pn Gt Qs
structure Wy where
 Pos:(Nat->Prop)->ByteArray->List Mq.Hp->Prop
 jK:(Nat->Prop)->ByteArray->Nat->Prop
 few:Nat
 cap:Nat
 bt:Bool
structure Wy.Ok (Y:Wy) (L:Lm) (l:List Pr):Prop where
 k:1<=L.k/\L.k<=8
 wl:∀ w:Nat,(w:Int)<L.k->2+w<L.xs.length
 xb:∀ x∈L.xs,0<=x/\x<=18446744073709551615
 db:ff L.ss
 len:L.ss.length<=1024
 F:L.F=false
 p1:1<=Cl.nth L.xs 0
 tb:∀ i,(aO L.ds i).1<=65536/\(aO L.ds i).2<=4000000
 few:Y.few<=900/\Y.few<=Y.cap/\Y.cap<=1000000
 next:∀ {o:Nat->Prop} {key:ByteArray} {e:Mq.Hp} {q:List Mq.Hp},Y.Pos o key (e::q)->Y.Pos o key q
 mono:∀ {o o':Nat->Prop} {key:ByteArray} {q:List Mq.Hp},(∀ e,o e->o' e)->Y.Pos o key q->Y.Pos o' key q
 xr:∀ {o o':Nat->Prop} {key:ByteArray} {c:Nat},(∀ e,o e->o' e)->Y.jK o key c->Y.jK o' key c
 XV:∀ {o:Nat->Prop} {key:ByteArray} {c:Nat},Y.jK o key c->c<=5000000/\∃ q,Cx L.ss (word L.xs c) q/\Y.Pos o key q/\Pc.lk (bs q) key=Pc.lk l key/\q.length<=Y.few
 now:∀ (o:Nat->Prop) (key:ByteArray),(Y.bt=false->∀ e,o e)->∃ c:Nat,Gt.cellOf (sm key) (Me.now L.xs L.ds)=(c:Int)/\Y.jK o key c
section
variable {Y Y':Wy} {L L':Lm} {l:List Pr} {old old':Int->Nat->Prop} {w k:Nat} {key:ByteArray} {G:Gt.Ge}
inductive pU (Y:Wy) (L:Lm) (l:List Pr) (old:Int->Nat->Prop) (key:ByteArray) (G:Gt.Ge):Nat->Prop
 | ng:G.nx=1->G.C.at_=0->pU Y L l old key G (Y.few+5)
 | put:G.nx=1->G.C.at_=1->pU Y L l old key G (Y.few+4)
 | load:G.nx=2->pU Y L l old key G (Y.few+3)
 | first (c:Nat):G.nx=3->G.W=new 0 (c:Int) (sm key) key->c<=5000000->Y.jK (old G.C.period) key c->pU Y L l old key G (Y.few+2)
 | look (q:List Mq.Hp):G.nx=3->G.W.nx=2->G.W.key=key->G.W.sum=sm key->G.W.found=0->G.W.nd.val=⟨#[]⟩->q≠[]->Cx L.ss G.W.at_ q->Y.Pos (old G.C.period) key q->
    Pc.lk (bs q) key=Pc.lk l key->G.W.read+q.length<=Y.cap->G.W.at_<=18446744073709551615-> -9223372036854775808<=G.W.cell/\G.W.cell<=9223372036854775807->pU Y L l old key G (q.length+1)
 | leave:G.nx=4->Gt.Fits (Pc.lk l key) G.W->pU Y L l old key G 1
structure fD (Y:Wy) (L:Lm) (l:List Pr) (old:Int->Nat->Prop) (w:Nat) (key:ByteArray) (G:Gt.Ge) (k:Nat):Prop where
 ky:G.key=key
 sum:G.sum=sm key
 wk:G.C.worker=w
 iY:G.iY=0
 pd:0<=G.C.period/\G.C.period<=18446744073709551615
 nQ:Cl.nth L.xs (2+w)=if 2<=G.nx then G.C.period else 0
 pr:(G.nx=1/\G.C.at_=0)\/(1<=G.C.period/\G.C.period<=Cl.nth L.xs 0)
 ph:pU Y L l old key G k
theorem fD.to (h:fD Y L l old w key G k) (hc:Cl.nth L'.xs (2+w)=Cl.nth L.xs (2+w)) (h0:Cl.nth L.xs 0<=Cl.nth L'.xs 0) (hs:L'.ss=L.ss) (hf:Y'.few=Y.few) (Bm:Y.cap<=Y'.cap)
 (hC:∀ c,2<=G.nx->Y.jK (old G.C.period) key c->Y'.jK (old' G.C.period) key c) (hP:∀ q,2<=G.nx->Y.Pos (old G.C.period) key q->Y'.Pos (old' G.C.period) key q):fD Y' L' l old' w key G k:=by
 refine ⟨h.ky,h.sum,h.wk,h.iY,h.pd,by rw [hc]; exact h.nQ,h.pr.imp id (fun q=>⟨q.1,Int.le_trans q.2 h0⟩),?_⟩
 cases h.ph with
 | ng a b=>rw [<-hf]; exact .ng a b
 | put a b=>rw [<-hf]; exact .put a b
 | load a=>rw [<-hf]; exact .load a
 | first c a b kf q=>rw [<-hf]; exact .first c a b kf (hC c (by omega) q)
 | look q a1 a2 a3 a4 a5 a6 a7 a8 a9 a10 a11 a12 a13=>exact .look q a1 a2 a3 a4 a5 a6 a7 (by rw [hs]; exact a8) (hP q (by omega) a9) a10 (by omega) a12 a13
 | leave a b=>exact .leave a b
theorem fD.iW (h:fD Y L l old w key G k) (hc:Cl.nth L'.xs (2+w)=Cl.nth L.xs (2+w)) (h0:Cl.nth L.xs 0<=Cl.nth L'.xs 0) (hs:L'.ss=L.ss):fD Y L' l old w key G k:=
 h.to hc h0 hs rfl (Nat.le_refl _) (fun _ _ q=>q) (fun _ _ q=>q)
theorem fD.mono (hY:Y.Ok L l) (h:fD Y L l old w key G k) (ho:2<=G.nx->∀ e,old G.C.period e->old' G.C.period e):fD Y L l old' w key G k:=
 h.to rfl (Int.le_refl _) rfl rfl (Nat.le_refl _) (fun _ hx=>hY.xr (ho hx)) (fun _ hx=>hY.mono (ho hx))
end
end Go.Proofs.YtpanebgakndddaaGreat.Zp
namespace Go.Proofs.YtpanebgakndddaaGreat.Zp
open Go Hm Ar Mm Wk Pc Me Mq Pn Gt Qs
def gy (W:Wt) (w:Nat) (p:Int) (_:Nat):Prop:=W.at_<=1\/(W.at_=2/\W.bF<=w/\p<W.period)
theorem CY {W:Wt} (h:3<=W.at_) (w:Nat) (p:Int) (e:Nat):¬gy W w p e:=by
 rintro (q | q)<;>omega
section
variable {Y:Wy} {L:Lm} {l:List Pr} {w k n:Nat} {key:ByteArray} {G:Gt.Ge} {W:Wt}
theorem zE {x:Int} (h0:0<=x) (h1:x<=4611686018427387904):Cl.fE x 1=x+1:=by
 unfold Cl.fE
 omega
theorem fD.waits (hY:Y.Ok L l) (hb:Cl.nth L.xs 0<=4611686018427387904) (hr:iI L.xs L.hs W=true) (ou:W.at_<=1->W.bF=0) (h3:W.at_<=3) (hw:w<n) (hn:(n:Int)<=L.k) (h:fD Y L l (gy W w) w key G k):
 fD Y {L with xs:=(aW n L.xs L.hs W).1,hs:=(aW n L.xs L.hs W).2.1} l (gy (aW n L.xs L.hs W).2.2 w) w key G k:=by
 have hk:=hY.k
 have bz:=hY.wl 0 (by omega)
 have h0:=Cl.eU hY.xb 0
 have hs:=zE h0.1 hb
 unfold aW
 split
 ·have ho:2<=G.nx->∀ e,gy W w G.C.period e->gy {W with at_:=1} w G.C.period e:=fun _ _ _=>.inl (by simp)
  exact h.to (L':={L with hs:=L.hs.set 0 W.worker}) rfl (Int.le_refl _) rfl rfl (Nat.le_refl _) (fun _ hx=>hY.xr (ho hx)) (fun _ hx=>hY.mono (ho hx))
 split
 ·rename_i h1
  have hn:∀ i,i≠0->Cl.nth (L.xs.set 0 (Cl.fE (Cl.nth L.xs 0) 1)) i=Cl.nth L.xs i:=fun i hi=>by
   rw [fG _ _ _ (by omega),if_neg hi]
  have ho:2<=G.nx->∀ e,gy W w G.C.period e->gy {W with period:=Cl.fE (Cl.nth L.xs 0) 1,at_:=2} w G.C.period e:=fun hx _ _=>by
   refine .inr ⟨rfl,?_,?_⟩
   ·show W.bF<=w
    rw [ou (by omega)]
    exact Nat.zero_le _
   ·show G.C.period<Cl.fE (Cl.nth L.xs 0) 1
    rw [hs]
    have:=h.pr.resolve_left (fun q=>by omega)
    omega
  refine h.to (L':={L with xs:=L.xs.set 0 (Cl.fE (Cl.nth L.xs 0) 1)}) (hn _ (by omega)) ?_ rfl rfl (Nat.le_refl _) (fun _ hx=>hY.xr (ho hx)) (fun _ hx=>hY.mono (ho hx))
  show _<=Cl.nth (L.xs.set 0 (Cl.fE (Cl.nth L.xs 0) 1)) 0
  rw [fG _ _ _ (by omega),if_pos rfl,hs]
  omega
 split
 ·rename_i h2
  refine h.mono hY fun hx _ ho=>?_
  have hc:=h.nQ
  rw [if_pos hx] at hc
  have hp:=h.pr.resolve_left (fun q=>by omega)
  rcases ho with q | ⟨_,q1,q2⟩
  ·omega
  unfold iI pT at hr
  rw [if_neg (by omega),if_pos h2] at hr
  have hr:=of_decide_eq_true hr
  have aL:W.bF≠w:=by
   intro e
   rw [e,hc] at hr
   omega
  refine .inr ⟨?_,?_,q2⟩
  ·show (if n<=W.bF+1 then 3 else 2)=2
   rw [if_neg (by omega)]
  ·show W.bF+1<=w
   omega
 ·have ho:2<=G.nx->∀ e,gy W w G.C.period e->gy {W with at_:=4} w G.C.period e:=fun _ _ ho=>by
   rcases ho with q | q<;>omega
  exact h.to (L':={L with hs:=L.hs.set 0 (-1)}) rfl (Int.le_refl _) rfl rfl (Nat.le_refl _) (fun _ hx=>hY.xr (ho hx)) (fun _ hx=>hY.mono (ho hx))
end
structure Rn where
 w:Nat
 keys:List ByteArray
 g:Option Gt.Ge
 n:Nat
def Rn.key (R:Rn):ByteArray:=R.keys.getD (R.n % R.keys.length) ⟨#[]⟩
def bZ (Y:Wy) (L:Lm) (l:List Pr) (old:Nat->Int->Nat->Prop) (R:Rn) (k:Nat):Prop:=
 match R.g with
 | none=>Cl.nth L.xs (2+R.w)=0/\k=0
 | some G=>fD Y L l (old R.w) R.w R.key G k
section
variable {Y Y':Wy} {L L':Lm} {l:List Pr} {old old':Nat->Int->Nat->Prop} {R O:Rn} {k k':Nat}
theorem bZ.iW (h:bZ Y L l old R k) (hc:Cl.nth L'.xs (2+R.w)=Cl.nth L.xs (2+R.w)) (h0:Cl.nth L.xs 0<=Cl.nth L'.xs 0) (hs:L'.ss=L.ss):bZ Y L' l old R k:=by
 unfold bZ at h ⊢
 split
 ·rename_i q
  rw [q] at h
  exact ⟨hc.trans h.1,h.2⟩
 ·rename_i G q
  rw [q] at h
  exact h.iW hc h0 hs
theorem bZ.to {L':Lm} (h:bZ Y L l old R k) (hc:Cl.nth L'.xs (2+R.w)=Cl.nth L.xs (2+R.w)) (h0:Cl.nth L.xs 0<=Cl.nth L'.xs 0) (hs:L'.ss=L.ss) (hf:Y'.few=Y.few) (Bm:Y.cap<=Y'.cap)
 (hC:∀ key c p,Y.jK (old R.w p) key c->Y'.jK (old' R.w p) key c) (hP:∀ key q p,Y.Pos (old R.w p) key q->Y'.Pos (old' R.w p) key q):bZ Y' L' l old' R k:=by
 unfold bZ at h ⊢
 split
 ·rename_i q
  rw [q] at h
  exact ⟨hc.trans h.1,h.2⟩
 ·rename_i G q
  rw [q] at h
  exact h.to hc h0 hs hf Bm (fun _ _=>hC _ _ _) (fun _ _=>hP _ _ _)
theorem bZ.waits {n:Nat} {W:Wt} (hY:Y.Ok L l) (hb:Cl.nth L.xs 0<=4611686018427387904) (hr:iI L.xs L.hs W=true) (ou:W.at_<=1->W.bF=0) (h3:W.at_<=3) (hw:R.w<n) (hn:(n:Int)<=L.k) (h:bZ Y L l (gy W) R k):
 bZ Y {L with xs:=(aW n L.xs L.hs W).1,hs:=(aW n L.xs L.hs W).2.1} l (gy (aW n L.xs L.hs W).2.2) R k:=by
 unfold bZ at h ⊢
 split
 ·rename_i q
  rw [q] at h
  refine ⟨?_,h.2⟩
  show Cl.nth (aW n L.xs L.hs W).1 _=_
  unfold aW
  split
  ·exact h.1
  split
  ·have bz:=hY.wl R.w (by omega)
   show Cl.nth (L.xs.set 0 _) _=_
   rw [fG _ _ _ (by omega),if_neg (by omega)]
   exact h.1
  split<;>exact h.1
 ·rename_i G q
  rw [q] at h
  exact fD.waits hY hb hr ou h3 hw hn h
end
end Go.Proofs.YtpanebgakndddaaGreat.Zp
namespace Go.Proofs.YtpanebgakndddaaGreat.Zp
open Go Hm Ar Mm Wk Pc Me Mq Pu Pn Gt
def sd (n:Nat) (key:ByteArray):Bool:=decide (n<=ai key (2*n))
theorem Kq {n:Nat} (hp:FM.bl n=true) (key:ByteArray):ai key n=(sm key).toNat % n:=by
 have h:=oT key
 have hn:=FM.eG hp
 unfold ai FM.bucket
 rw [if_pos hp]
 obtain ⟨a,ha⟩:=Int.eq_ofNat_of_zero_le h.1
 rw [ha]
 simp only [Int.toNat_natCast]
 rw [<-Int.natCast_emod,Int.toNat_natCast]
theorem sh {n:Nat} (hp:FM.bl n=true) (gW:FM.bl ((2*n:Nat):Int)=true) (key:ByteArray):ai key (2*n) % n=ai key n/\ai key (2*n)<2*n/\ai key (2*n)=ai key n+(if sd n key=true then n else 0):=by
 have h1:=Kq hp key
 have h2:=Kq gW key
 have hn:=FM.eG hp
 have h3:ai key (2*n) % n=ai key n:=by
  rw [h1,h2,Nat.mod_mul_left_mod]
 have h4:ai key (2*n)<2*n:=by rw [h2]; exact Nat.mod_lt _ (by omega)
 refine ⟨h3,h4,?_⟩
 have h5:ai key n<n:=by rw [h1]; exact Nat.mod_lt _ (by omega)
 unfold sd
 by_cases q:n<=ai key (2*n)
 ·rw [if_pos (by simp [q])]
  have:ai key (2*n) % n=ai key (2*n)-n:=by
   rw [Nat.mod_eq_sub_mod q,Nat.mod_eq_of_lt (by omega)]
  omega
 ·rw [if_neg (by simp [q])]
  rw [Nat.mod_eq_of_lt (by omega)] at h3
  omega
structure Zs where
 n:Nat
 B:Nat
 B2:Nat
 few:Nat
 cap:Nat
 bt:Bool
 aY:Nat->List Mq.Hp
 s:Nat->Bool
 X:Nat->Nat
 Y:Nat->Nat
 u:Nat->List Mq.Hp
 r:Nat->List Mq.Hp
 v:Nat->List Mq.Hp
 rest:Nat->List Mq.Hp
def Zs.head (Z:Zs) (b:Nat):Nat:=if decide (Z.n<=b)=Z.s (b % Z.n) then Z.X (b % Z.n) else Z.Y (b % Z.n)
def Zs.fresh (Z:Zs) (e:Nat):Prop:=Z.u e=[]/\Z.v e=[]/\Z.aY e=Z.r e++Z.rest e
structure Zs.Ok (Z:Zs) (L:Lm) (l:List Pr):Prop where
 pw:FM.bl Z.n=true
 jT:FM.bl ((2*Z.n:Nat):Int)=true
 now:Me.now L.xs L.ds=if Z.bt=true then (2*Z.n,Z.B2) else (Z.n,Z.B)
 tb:∀ i,(aO L.ds i).1<=65536/\(aO L.ds i).2<=4000000
 k:1<=L.k/\L.k<=8
 kB:2+L.k<=Z.B
 xl:Z.B+Z.n<=L.xs.length/\Z.B+Z.n<=Z.B2/\(Z.bt=true->Z.B2+2*Z.n<=L.xs.length)
 bb:Z.B2<=4000000
 xb:∀ x∈L.xs,0<=x/\x<=18446744073709551615
 db:ff L.ss
 len:L.ss.length<=1024
 elder:∀ e,e<Z.n->Cl.nth L.xs (Z.B+e)=((aC (Z.aY e):Nat):Int)
 newer:Z.bt=true->∀ b,b<2*Z.n->Cl.nth L.xs (Z.B2+b)=((Z.head b:Nat):Int)
 zip:∀ e,e<Z.n->Zip L.ss (sd Z.n) (Z.aY e) (Z.s e) (Z.X e) (Z.Y e) (Z.u e) (Z.r e) (Z.v e) (Z.rest e)
 lk:∀ key,Pc.lk l key=Pc.lk (bs (Z.aY (ai key Z.n))) key
 F:L.F=false
 p1:1<=Cl.nth L.xs 0
 few:(∀ e,e<Z.n->(Z.aY e).length<=Z.few)/\Z.few<=900/\Z.few<=Z.cap/\Z.cap<=1000000
 fr:Z.bt=false->∀ e,e<Z.n->Z.fresh e
 dj:∀ e e',e<Z.n->e'<Z.n->e≠e'->∀ a∈aM (Z.aY e),a∉aM (Z.aY e')
theorem Zip.length {ss:List Sl} {σ:ByteArray->Bool} {aY:List Mq.Hp} {s:Bool} {x y:Nat} {u r v rest:List Mq.Hp} (h:Zip ss σ aY s x y u r v rest):u.length+r.length+v.length+rest.length=aY.length:=by
 have hf:∀ (q:List Mq.Hp),(q.filter fun e=>σ e.2.1==s).length+(q.filter fun e=>σ e.2.1== !s).length=q.length:=by
  intro q
  induction q with
  | nil=>rfl
  | cons e t ih=>
    rw [List.filter_cons,List.filter_cons]
    cases σ e.2.1<;>cases s<;>simp at ih ⊢<;>omega
 have h1:=hf aY
 have h2:=hf rest
 rw [h.fs,h.fv] at h1
 simp only [List.length_append] at h1
 omega
section
variable {Z:Zs} {L:Lm} {l:List Pr} {w:Nat}
theorem Zs.Ok.cD (hZ:Z.Ok L l) (key:ByteArray):∃ q,Cx L.ss (Z.head (ai key (2*Z.n))) q/\Std (sd Z.n) (Z.s (ai key Z.n)) (Z.u (ai key Z.n)) (Z.r (ai key Z.n)) (Z.v (ai key Z.n)) (Z.rest (ai key Z.n)) False key q/\Pc.lk (bs q) key=Pc.lk l key/\q.length<=(Z.aY (ai key Z.n)).length:=by
 obtain ⟨h1,h2,h3⟩:=sh hZ.pw hZ.jT key
 have he:ai key Z.n<Z.n:=(dJ hZ.pw key).1
 have hz:=hZ.zip _ he
 have E6:decide (Z.n<=ai key (2*Z.n))=sd Z.n key:=rfl
 have b9:∀ (q:List Mq.Hp) (b:Bool),b=sd Z.n key->Pc.lk (bs (q.filter fun e=>sd Z.n e.2.1==b)) key=Pc.lk (bs q) key:=by
  intro q b hb
  induction q with
  | nil=>rfl
  | cons e t ih=>
    rw [List.filter_cons]
    by_cases hk:e.2.1=key
    ·rw [if_pos (by rw [hk,hb]; simp)]
     simp only [bs,List.map_cons,Pc.lk,if_pos hk]
    ·split
     ·simp only [bs,List.map_cons,Pc.lk,if_neg hk] at ih ⊢
      exact ih
     ·simp only [bs,List.map_cons,Pc.lk,if_neg hk] at ih ⊢
      exact ih
 have gz:=hZ.lk key
 unfold Zs.head
 rw [h1,E6]
 by_cases hs:sd Z.n key=Z.s (ai key Z.n)
 ·rw [if_pos hs]
  refine ⟨_,hz.own,.inl ⟨hs,List.suffix_refl _⟩,?_,by have:=Zip.length hz; simp only [List.length_append]; omega⟩
  rw [gz,<-b9 (Z.aY (ai key Z.n)) (Z.s (ai key Z.n)) hs.symm,hz.fs,<-b9 (Z.u (ai key Z.n)++Z.r (ai key Z.n)++Z.rest (ai key Z.n)) (Z.s (ai key Z.n)) hs.symm,List.filter_append,filter_all hz.su]
 ·rw [if_neg hs]
  have hs':sd Z.n key= !(Z.s (ai key Z.n)):=by
   revert hs
   cases sd Z.n key<;>cases Z.s (ai key Z.n)<;>simp
  refine ⟨_,hz.oth,.inr (.inl ⟨hs',List.suffix_refl _⟩),?_,by have:=Zip.length hz; simp only [List.length_append]; omega⟩
  rw [gz,<-b9 (Z.aY (ai key Z.n)) (!(Z.s (ai key Z.n))) hs'.symm,hz.fv,<-b9 (Z.v (ai key Z.n)++Z.rest (ai key Z.n)) (!(Z.s (ai key Z.n))) hs'.symm,List.filter_append,filter_all hz.sv]
theorem Zs.Ok.VK (hZ:Z.Ok L l) (key:ByteArray) (hf:Z.fresh (ai key Z.n)) {o:Prop} (ho:o):Cx L.ss (aC (Z.aY (ai key Z.n))) (Z.aY (ai key Z.n))/\Std (sd Z.n) (Z.s (ai key Z.n)) (Z.u (ai key Z.n)) (Z.r (ai key Z.n)) (Z.v (ai key Z.n)) (Z.rest (ai key Z.n)) o key (Z.aY (ai key Z.n)):=by
 have he:ai key Z.n<Z.n:=(dJ hZ.pw key).1
 have hz:=hZ.zip _ he
 obtain ⟨f1,f2,f3⟩:=hf
 have hc:Cx L.ss (Z.X (ai key Z.n)) (Z.aY (ai key Z.n)):=by
  have:=hz.own
  rw [f1,List.nil_append,<-f3] at this
  exact this
 refine ⟨by rw [<-Cx.hd hc]; exact hc,?_⟩
 by_cases hs:sd Z.n key=Z.s (ai key Z.n)
 ·exact .inl ⟨hs,by rw [f1,List.nil_append,<-f3]; exact List.suffix_refl _⟩
 ·refine .inr (.inr ⟨ho,?_,by rw [<-f3]; exact List.suffix_refl _⟩)
  revert hs
  cases sd Z.n key<;>cases Z.s (ai key Z.n)<;>simp
def Zs.wy (Z:Zs):Wy:=⟨fun o key q=>Std (sd Z.n) (Z.s (ai key Z.n)) (Z.u (ai key Z.n)) (Z.r (ai key Z.n)) (Z.v (ai key Z.n)) (Z.rest (ai key Z.n)) (o (ai key Z.n)) key q,
 fun o key c=>(c=Z.B2+ai key (2*Z.n)/\Z.bt=true)\/(c=Z.B+ai key Z.n/\o (ai key Z.n)/\Z.fresh (ai key Z.n)),Z.few,Z.cap,Z.bt⟩
theorem Zs.Ok.wl (hZ:Z.Ok L l) (w:Nat) (hw:(w:Int)<L.k):2+w<L.xs.length:=by
 have eu:=hZ.kB
 have bz:=hZ.xl.1
 have hn:=FM.eG hZ.pw
 omega
theorem Zs.Ok.ways (hZ:Z.Ok L l):Z.wy.Ok L l:=by
 have gH:=hZ.bb
 have bz:=hZ.xl
 have fz:=FM.eG hZ.pw
 refine ⟨hZ.k,hZ.wl,hZ.xb,hZ.db,hZ.len,hZ.F,hZ.p1,hZ.tb,hZ.few.2,fun h=>Std.next h,fun ho h=>Std.mono h (ho _),fun ho h=>h.imp id (fun q=>⟨q.1,ho _ q.2.1,q.2.2⟩),fun {o key c} hc=>?_,fun o key ho=>?_⟩
 ·obtain ⟨t1,t2,t3⟩:=sh hZ.pw hZ.jT key
  have he:ai key Z.n<Z.n:=(dJ hZ.pw key).1
  rcases hc with ⟨rfl,hp⟩ | ⟨rfl,ho,hf⟩
  ·obtain ⟨q,q1,q2,q3,q4⟩:=hZ.cD key
   have aJ:word L.xs ((Z.B2+ai key (2*Z.n):Nat):Int)=Z.head (ai key (2*Z.n)):=by
    unfold word
    rw [if_pos (by have:=bz.2.2 hp; omega),Int.toNat_natCast,hZ.newer hp _ t2,Int.toNat_natCast]
   rw [aJ]
   exact ⟨by omega,q,q1,q2.mono (fun f=>absurd f id),q3,Nat.le_trans q4 (hZ.few.1 _ he)⟩
  ·obtain ⟨q1,q2⟩:=hZ.VK key hf ho
   have aJ:word L.xs ((Z.B+ai key Z.n:Nat):Int)=aC (Z.aY (ai key Z.n)):=by
    unfold word
    rw [if_pos (by omega),Int.toNat_natCast,hZ.elder _ he,Int.toNat_natCast]
   rw [aJ]
   exact ⟨by omega,_,q1,q2,(hZ.lk key).symm,hZ.few.1 _ he⟩
 ·have he:ai key Z.n<Z.n:=(dJ hZ.pw key).1
  have bV:=hZ.now
  cases hp:Z.bt with
  | true=>
    rw [hp,if_pos rfl] at bV
    refine ⟨Z.B2+ai key (2*Z.n),?_,.inl ⟨rfl,hp⟩⟩
    rw [bV]
    unfold Gt.cellOf
    simp only
    rw [if_neg (by omega),(dJ hZ.jT key).2]
    simp
  | false=>
    rw [hp,if_neg (by simp)] at bV
    refine ⟨Z.B+ai key Z.n,?_,.inr ⟨rfl,ho hp _,hZ.fr hp _ he⟩⟩
    rw [bV]
    unfold Gt.cellOf
    simp only
    rw [if_neg (by omega),(dJ hZ.pw key).2]
    simp
end
end Go.Proofs.YtpanebgakndddaaGreat.Zp
namespace Go.Proofs.YtpanebgakndddaaGreat.Zp
open Go Hm Ar Mm Wk Pc Me Mq Pu Pn Gt Qs
theorem Zip.sub {ss:List Sl} {σ:ByteArray->Bool} {aY:List Mq.Hp} {s:Bool} {x y:Nat} {u r v rest:List Mq.Hp} (h:Zip ss σ aY s x y u r v rest):∀ a∈u++r++v++rest,a∈aY:=by
 intro a ha
 have h1:∀ b,a∈aY.filter (fun e=>σ e.2.1==b)->a∈aY:=fun b q=>(List.mem_filter.1 q).1
 have ha:a∈u++r\/a∈v\/a∈rest:=by
  simp only [List.mem_append] at ha ⊢
  rcases ha with ((q | q) | q) | q
  ·exact .inl (.inl q)
  ·exact .inl (.inr q)
  ·exact .inr (.inl q)
  ·exact .inr (.inr q)
 rcases ha with q | q | q
 ·exact h1 s (by rw [h.fs]; exact List.mem_append_left _ q)
 ·exact h1 (!s) (by rw [h.fv]; exact List.mem_append_left _ q)
 ·by_cases hs:σ a.2.1=s
  ·exact h1 s (by rw [h.fs]; exact List.mem_append_right _ (List.mem_filter.2 ⟨q,by simp [hs]⟩))
  ·exact h1 (!s) (by rw [h.fv]; exact List.mem_append_right _ (List.mem_filter.2 ⟨q,by revert hs; cases σ a.2.1<;>cases s<;>simp⟩))
theorem Zip.aside {ss:List Sl} {σ:ByteArray->Bool} {aY:List Mq.Hp} {s:Bool} {x y:Nat} {u r v rest:List Mq.Hp} (h:Zip ss σ aY s x y u r v rest) (hl:ss.length<=1024) {a z j:Nat} (hj:bj ss a j) (ha:a∉aM aY):Zip (aS ss a z) σ aY s x y u r v rest:=by
 have LW:∀ q:List Mq.Hp,(∀ b∈q,b∈u++r++v++rest)->a∉aM q:=fun q hq hm=>by
  obtain ⟨b,hb,rfl⟩:=List.mem_map.1 hm
  exact ha (List.mem_map.2 ⟨b,h.sub b (hq b hb),rfl⟩)
 exact {h with own:=Cx.aside hl hj h.own (LW _ fun b hb=>by simp only [List.mem_append] at hb ⊢; rcases hb with (q | q) | q<;>simp [q]),oth:=Cx.aside hl hj h.oth (LW _ fun b hb=>by simp only [List.mem_append] at hb ⊢; rcases hb with q | q<;>simp [q])}
def cP {α:Type} (f:Nat->α) (e:Nat) (a:α) (i:Nat):α:=if i=e then a else f i
theorem ny {α:Type} (f:Nat->α) (e:Nat) (a:α):cP f e a e=a:=by simp [cP]
theorem lu {α:Type} (f:Nat->α) {e i:Nat} (a:α) (h:i≠e):cP f e a i=f i:=by simp [cP,h]
def Zs.linked (Z:Zs) (e:Nat) (d t:List Mq.Hp):Zs:=
 {Z with s:=cP Z.s e (!Z.s e),X:=cP Z.X e (Z.Y e),Y:=cP Z.Y e (Z.X e),u:=cP Z.u e (Z.v e),r:=cP Z.r e d,v:=cP Z.v e (Z.u e++Z.r e),rest:=cP Z.rest e t}
section
variable {Z:Zs} {L:Lm} {l:List Pr} {old old':Int->Nat->Prop} {oldn oldn':Nat->Int->Nat->Prop} {w k e:Nat} {key:ByteArray} {G:Gt.Ge} {r0 d t:List Mq.Hp} {a:Mq.Hp}
theorem Zs.VL (Z:Zs) (e:Nat) (d t:List Mq.Hp) (b:Nat):(Z.linked e d t).head b=Z.head b:=by
 unfold Zs.head Zs.linked
 simp only
 by_cases h:b % Z.n=e
 ·rw [h,ny,ny,ny]
  cases decide (Z.n<=b)<;>cases Z.s e<;>simp
 ·rw [lu _ _ h,lu _ _ h,lu _ _ h]
theorem Zs.Ok.linked (hZ:Z.Ok L l) (vm:Z.bt=true) (he:e<Z.n) (hr:Z.r e=r0++[a]) (hd:Z.rest e=d++t) (qu:d≠[]) (jy:∀ b∈d,sd Z.n b.2.1= !Z.s e) (ht:∀ b t',t=b::t'->sd Z.n b.2.1=Z.s e) (LX:aC t<=18446744073709551615):
 (Z.linked e d t).Ok {L with ss:=aS L.ss a.1 (aC t)} l:=by
 have hz:=hZ.zip e he
 have yN:=hz.own
 rw [hr] at yN
 obtain ⟨j,_,hj,_⟩:=yN.at a (by simp)
 have ha:a.1∈aM (Z.aY e):=List.mem_map.2 ⟨a,hz.sub a (by rw [hr]; simp),rfl⟩
 have XP:=Zip.link hz hZ.len hr hd qu jy ht
 refine {hZ with db:=?_,len:=?_,newer:=?_,zip:=?_,fr:=fun q=>by have q:Z.bt=false:=q; rw [vm] at q; simp at q}
 ·show ff (aS L.ss a.1 (aC t))
  unfold aS
  by_cases hk:(a.1-1) % 65536<L.ss.length
  ·exact hZ.db.set hk _ ⟨by simp only; omega,by simp only; omega⟩
  ·rw [List.set_eq_of_length_le (by omega)]
   exact hZ.db
 ·show (aS L.ss a.1 (aC t)).length<=_
  rw [C8]
  exact hZ.len
 ·intro hp b hb
  rw [Zs.VL]
  exact hZ.newer hp b hb
 ·intro i hi
  show Zip (aS L.ss a.1 (aC t)) (sd Z.n) (Z.aY i) (cP Z.s e (!Z.s e) i) (cP Z.X e (Z.Y e) i) (cP Z.Y e (Z.X e) i) (cP Z.u e (Z.v e) i) (cP Z.r e d i) (cP Z.v e (Z.u e++Z.r e) i) (cP Z.rest e t i)
  by_cases gh:i=e
  ·subst gh
   simp only [ny]
   exact XP
  ·simp only [lu _ _ gh]
   exact Zip.aside (hZ.zip i hi) hZ.len hj (hZ.dj e i he hi (fun q=>gh q.symm) _ ha)
theorem fD.linked (hZ:Z.Ok L l) (he:e<Z.n) (hr:Z.r e=r0++[a]) (hd:Z.rest e=d++t) (jy:∀ b∈d,sd Z.n b.2.1= !Z.s e) (hold:∀ p,¬old p e) (vL:∀ p,old' p e) (Br:∀ p i,i≠e->old p i->old' p i) (h:fD Z.wy L l old w key G k):
 ∃ k',k'<=k/\fD (Z.linked e d t).wy {L with ss:=aS L.ss a.1 (aC t)} l old' w key G k':=by
 have hz:=hZ.zip e he
 have yN:=hz.own
 rw [hr] at yN
 obtain ⟨j,_,hj,_⟩:=yN.at a (by simp)
 have ha:a.1∈aM (Z.aY e):=List.mem_map.2 ⟨a,hz.sub a (by rw [hr]; simp),rfl⟩
 have mk:∀ k',k'<=k->pU (Z.linked e d t).wy {L with ss:=aS L.ss a.1 (aC t)} l old' key G k'->∃ k',k'<=k/\fD (Z.linked e d t).wy {L with ss:=aS L.ss a.1 (aC t)} l old' w key G k':=fun k' mo hp=>⟨k',mo,⟨h.ky,h.sum,h.wk,h.iY,h.pd,h.nQ,h.pr,hp⟩⟩
 cases h.ph with
 | ng a b=>exact mk _ (Nat.le_refl _) (.ng a b)
 | put a b=>exact mk _ (Nat.le_refl _) (.put a b)
 | load a=>exact mk _ (Nat.le_refl _) (.load a)
 | first c a1 b kf hc=>
   rcases hc with hc | ⟨hc,ho,cC⟩
   ·exact mk _ (Nat.le_refl _) (.first c a1 b kf (.inl hc))
   ·by_cases gh:ai key Z.n=e
    ·exact absurd (gh▸ho) (hold _)
    ·refine mk _ (Nat.le_refl _) (.first c a1 b kf (.inr ⟨hc,Br _ _ gh ho,?_⟩))
     obtain ⟨f1,f2,f3⟩:=cC
     refine ⟨?_,?_,?_⟩
     ·show cP Z.u e (Z.v e) (ai key Z.n)=[]
      rw [lu _ _ gh]; exact f1
     ·show cP Z.v e (Z.u e++Z.r e) (ai key Z.n)=[]
      rw [lu _ _ gh]; exact f2
     ·show Z.aY (ai key Z.n)=cP Z.r e d (ai key Z.n)++cP Z.rest e t (ai key Z.n)
      rw [lu _ _ gh,lu _ _ gh]; exact f3
 | look q a1 a2 a3 a4 a5 a6 a7 a8 a9 a10 a11 a12 a13=>
   have px:G.W.at_≠0:=fun q=>a7 (a8.pos.1 q)
   by_cases gh:ai key Z.n=e
   ·have a9':Std (sd Z.n) (Z.s e) (Z.u e) (Z.r e) (Z.v e) (Z.rest e) False key q:=by
     have a9:=Std.mono a9 (fun o=>hold _ (gh▸o))
     rw [gh] at a9
     exact a9
    obtain ⟨q',p1,p2,p3,p4⟩:=Std.link hz hZ.len hr hd jy a8 a9'
    refine mk (q'.length+1) (by omega) (.look q' a1 a2 a3 a4 a5 a6 (fun e=>px (p1.pos.2 e)) p1 ?_ (p2.trans a10) (Nat.le_trans (Nat.add_le_add_left p3 _) a11) a12 a13)
    show Std (sd Z.n) (cP Z.s e (!Z.s e) (ai key Z.n)) (cP Z.u e (Z.v e) (ai key Z.n)) (cP Z.r e d (ai key Z.n)) (cP Z.v e (Z.u e++Z.r e) (ai key Z.n)) (cP Z.rest e t (ai key Z.n)) _ key q'
    rw [gh]
    simp only [ny]
    exact p4.mono fun _=>by
     have:old' G.C.period (ai key Z.n):=by rw [gh]; exact vL _
     exact this
   ·have hb:ai key Z.n<Z.n:=(dJ hZ.pw key).1
    have po:=hZ.zip _ hb
    have EI:a.1∉aM (Z.aY (ai key Z.n)):=hZ.dj e _ he hb (fun q=>gh q.symm) _ ha
    have XQ:a.1∉aM q:=fun hm=>by
     obtain ⟨b,m6,ey⟩:=List.mem_map.1 hm
     refine EI (List.mem_map.2 ⟨b,po.sub b ?_,ey⟩)
     rcases a9 with ⟨_,s⟩ | ⟨_,s⟩ | ⟨_,_,s⟩
     ·have:=s.subset m6
      simp only [List.mem_append] at this ⊢
      rcases this with (q | q) | q<;>simp [q]
     ·have:=s.subset m6
      simp only [List.mem_append] at this ⊢
      rcases this with q | q<;>simp [q]
     ·have:=s.subset m6
      simp only [List.mem_append] at this ⊢
      rcases this with q | q<;>simp [q]
    refine mk (q.length+1) (Nat.le_refl _) (.look q a1 a2 a3 a4 a5 a6 a7 (Cx.aside hZ.len hj a8 XQ) ?_ a10 a11 a12 a13)
    show Std (sd Z.n) (cP Z.s e (!Z.s e) (ai key Z.n)) (cP Z.u e (Z.v e) (ai key Z.n)) (cP Z.r e d (ai key Z.n)) (cP Z.v e (Z.u e++Z.r e) (ai key Z.n)) (cP Z.rest e t (ai key Z.n)) _ key q
    simp only [lu _ _ gh]
    exact Std.mono a9 (Br _ _ gh)
 | leave a b=>exact mk _ (Nat.le_refl _) (.leave a b)
theorem Zs.Ok.cells (hZ:Z.Ok L l) {xs' hs':List Int} {ds':List (Nat×Nat)} {ws':List Nat} (h1:∀ i,Z.B<=i->i<Z.B+Z.n->Cl.nth xs' i=Cl.nth L.xs i) (h2:Z.bt=true->∀ b,b<2*Z.n->Cl.nth xs' (Z.B2+b)=Cl.nth L.xs (Z.B2+b)) (hl:L.xs.length<=xs'.length)
 (jx:∀ x∈xs',0<=x/\x<=18446744073709551615) (bV:Me.now xs' ds'=Me.now L.xs L.ds) (nG:∀ i,(aO ds' i).1<=65536/\(aO ds' i).2<=4000000) (od:1<=Cl.nth xs' 0):Z.Ok {L with xs:=xs',ds:=ds',hs:=hs',ws:=ws'} l:=
 {hZ with now:=by show Me.now xs' ds'=_; rw [bV]; exact hZ.now,tb:=nG,xl:=by have:=hZ.xl; exact ⟨Nat.le_trans this.1 hl,this.2.1,fun p=>Nat.le_trans (this.2.2 p) hl⟩,xb:=jx,elder:=fun i hi=>by show Cl.nth xs' _=_; rw [h1 _ (by omega) (by omega)]; exact hZ.elder i hi,newer:=fun p b hb=>by show Cl.nth xs' _=_; rw [h2 p b hb]; exact hZ.newer p b hb,p1:=od}
theorem Zs.Ok.wS (hZ:Z.Ok L l) (_hp:Z.bt=false) {xs':List Int} (h1:∀ i,i≠1->Cl.nth xs' i=Cl.nth L.xs i) (hl:xs'.length=L.xs.length) (jx:∀ x∈xs',0<=x/\x<=18446744073709551615) (bV:Me.now xs' L.ds=(2*Z.n,Z.B2)) (h2:Z.B2+2*Z.n<=L.xs.length) (iM:∀ b,b<2*Z.n->Cl.nth L.xs (Z.B2+b)=((Z.head b:Nat):Int)):Zs.Ok {Z with bt:=true} {L with xs:=xs'} l:=by
 have eu:=hZ.kB
 have hk:=hZ.k
 have bz:=hZ.xl
 exact {hZ with now:=bV,xl:=⟨by show _<=xs'.length; rw [hl]; exact bz.1,bz.2.1,fun _=>by show _<=xs'.length; rw [hl]; exact h2⟩,xb:=jx,elder:=fun i hi=>by show Cl.nth xs' (Z.B+i)=_; rw [h1 _ (by omega)]; exact hZ.elder i hi,newer:=fun _ b hb=>by show Cl.nth xs' (Z.B2+b)=_; rw [h1 _ (by omega)]; exact iM b hb,fr:=fun q=>by simp at q,p1:=by show 1<=Cl.nth xs' 0; rw [h1 _ (by omega)]; exact hZ.p1}
theorem bZ.wS {R:Rn} (h:bZ Z.wy L l oldn R k):bZ {Z with bt:=true}.wy L l oldn R k:=
 h.to rfl (Int.le_refl _) rfl rfl (Nat.le_refl _) (fun _ _ _ q=>q.imp (fun q=>⟨q.1,rfl⟩) id) (fun _ _ _ q=>q)
theorem bZ.mono {R:Rn} (hY:Z.wy.Ok L l) (h:bZ Z.wy L l oldn R k) (ho:∀ p e,oldn R.w p e->oldn' R.w p e):bZ Z.wy L l oldn' R k:=
 h.to rfl (Int.le_refl _) rfl rfl (Nat.le_refl _) (fun _ _ _=>hY.xr (ho _)) (fun _ _ _=>hY.mono (ho _))
theorem Zs.Ok.oY (hZ:Z.Ok L l) (hp:∀ e,e<Z.n->Z.rest e=[]) {b:Nat} (hb:b<2*Z.n):Cx L.ss (Z.head b) ((Z.aY (b % Z.n)).filter fun a=>sd Z.n a.2.1==decide (Z.n<=b)):=by
 have hn:=FM.eG hZ.pw
 have he:b % Z.n<Z.n:=Nat.mod_lt _ (by omega)
 have hz:=hZ.zip _ he
 rw [hp _ he] at hz
 obtain ⟨h1,h2⟩:=hz.oY
 unfold Zs.head
 by_cases hs:decide (Z.n<=b)=Z.s (b % Z.n)
 ·rw [if_pos hs,hs]
  exact h1
 ·rw [if_neg hs]
  have:decide (Z.n<=b)= !(Z.s (b % Z.n)):=by
   revert hs
   cases decide (Z.n<=b)<;>cases Z.s (b % Z.n)<;>simp
  rw [this]
  exact h2
theorem bZ.linked {R:Rn} (hZ:Z.Ok L l) (he:e<Z.n) (hr:Z.r e=r0++[a]) (hd:Z.rest e=d++t) (jy:∀ b∈d,sd Z.n b.2.1= !Z.s e) (hold:∀ p,¬oldn R.w p e) (vL:∀ p,oldn' R.w p e) (Br:∀ p i,i≠e->oldn R.w p i->oldn' R.w p i) (h:bZ Z.wy L l oldn R k):
 ∃ k',k'<=k/\bZ (Z.linked e d t).wy {L with ss:=aS L.ss a.1 (aC t)} l oldn' R k':=by
 unfold bZ at h ⊢
 split
 ·rename_i q
  rw [q] at h
  exact ⟨k,Nat.le_refl _,h⟩
 ·rename_i G q
  rw [q] at h
  exact fD.linked hZ he hr hd jy hold vL Br h
end
end Go.Proofs.YtpanebgakndddaaGreat.Zp
namespace Go.Proofs.YtpanebgakndddaaGreat.Zp
open Go Hm Ar Mm Wk Pc Me Mq Pu Pn Gt Qs
structure Js where
 n:Nat
 B:Nat
 B2:Nat
 few:Nat
 cap:Nat
 bt:Bool
 C:Nat->List Mq.Hp
 jn:Nat->Bool
def Js.two (J:Js) (e:Nat):List Mq.Hp:=J.C e++J.C (e+J.n)
def Js.cD (J:Js) (b:Nat):List Mq.Hp:=if b<J.n/\J.jn b=true/\J.C b≠[] then J.two b else J.C b
structure Js.Ok (J:Js) (L:Lm) (l:List Pr):Prop where
 pw:FM.bl J.n=true
 jT:FM.bl ((2*J.n:Nat):Int)=true
 now:Me.now L.xs L.ds=if J.bt=true then (J.n,J.B2) else (2*J.n,J.B)
 tb:∀ i,(aO L.ds i).1<=65536/\(aO L.ds i).2<=4000000
 k:1<=L.k/\L.k<=8
 kB:2+L.k<=J.B
 xl:J.B+2*J.n<=L.xs.length/\J.B+2*J.n<=J.B2/\(J.bt=true->J.B2+J.n<=L.xs.length)
 bb:J.B2<=4000000
 xb:∀ x∈L.xs,0<=x/\x<=18446744073709551615
 db:ff L.ss
 len:L.ss.length<=1024
 elder:∀ b,b<2*J.n->Cl.nth L.xs (J.B+b)=((aC (J.C b):Nat):Int)
 newer:J.bt=true->∀ e,e<J.n->Cl.nth L.xs (J.B2+e)=((aC (J.two e):Nat):Int)
 all:J.bt=true->∀ e,e<J.n->J.jn e=true
 chain:∀ b,b<2*J.n->Cx L.ss (aC (J.C b)) (J.cD b)
 lk:∀ key,Pc.lk l key=Pc.lk (bs (J.C (ai key (2*J.n)))) key
 own:∀ b,b<2*J.n->∀ a∈J.C b,ai a.2.1 (2*J.n)=b
 F:L.F=false
 p1:1<=Cl.nth L.xs 0
 few:(∀ e,e<J.n->(J.two e).length<=J.few)/\J.few<=900/\J.few<=J.cap/\J.cap<=1000000
 nd:∀ b,b<2*J.n->(aM (J.C b)).Nodup
 dj:∀ b b',b<2*J.n->b'<2*J.n->b≠b'->∀ a∈aM (J.C b),a∉aM (J.C b')
def Js.wy (J:Js):Wy:=⟨fun _ key q=>q<:+J.cD (ai key (2*J.n))\/(J.bt=true/\q<:+J.two (ai key J.n)),
 fun o key c=>(c=J.B+ai key (2*J.n)/\(J.bt=false\/o 0))\/(c=J.B2+ai key J.n/\J.bt=true),J.few,J.cap,true⟩
section
variable {J:Js} {L:Lm} {l:List Pr} {old old':Int->Nat->Prop} {w k e:Nat} {key:ByteArray} {G:Gt.Ge}
theorem Js.Ok.bk (hJ:J.Ok L l) (key:ByteArray):ai key J.n<J.n/\ai key (2*J.n)<2*J.n/\(ai key (2*J.n)=ai key J.n\/ai key (2*J.n)=ai key J.n+J.n):=by
 obtain ⟨h1,h2,h3⟩:=sh hJ.pw hJ.jT key
 refine ⟨(dJ hJ.pw key).1,h2,?_⟩
 split at h3<;>omega
theorem Js.Ok.ne (hJ:J.Ok L l) {b:Nat} (hb:b<2*J.n) (hk:b≠ai key (2*J.n)):∀ a∈J.C b,a.2.1≠key:=fun a ha q=>by
 have:=hJ.own b hb a ha
 rw [q] at this
 exact hk this.symm
theorem C4 {a d:List Mq.Hp} {key:ByteArray} (hk:∀ e∈d,e.2.1≠key):Pc.lk (bs (a++d)) key=Pc.lk (bs a) key:=by
 have:=C5 (a:=a) (d:=d) (t:=[]) hk
 simpa using this
theorem Rx {a d:List Mq.Hp} {key:ByteArray} (hk:∀ e∈a,e.2.1≠key):Pc.lk (bs (a++d)) key=Pc.lk (bs d) key:=by
 have:=C5 (a:=[]) (d:=a) (t:=d) hk
 simpa using this
theorem Js.Ok.Ry (hJ:J.Ok L l) (key:ByteArray):Pc.lk (bs (J.cD (ai key (2*J.n)))) key=Pc.lk l key:=by
 obtain ⟨h1,h2,h3⟩:=hJ.bk key
 rw [hJ.lk key]
 unfold Js.cD
 split
 ·rename_i q
  exact C4 (hJ.ne (by omega) (by omega))
 ·rfl
theorem Js.Ok.Ir (hJ:J.Ok L l) (key:ByteArray):Pc.lk (bs (J.two (ai key J.n))) key=Pc.lk l key:=by
 obtain ⟨h1,h2,h3⟩:=hJ.bk key
 rw [hJ.lk key]
 unfold Js.two
 have hn:=FM.eG hJ.pw
 rcases h3 with q | q
 ·rw [C4 (hJ.ne (by omega) (by omega)),q]
 ·rw [Rx (hJ.ne (by omega) (by omega)),q]
theorem Js.Ok.RA (hJ:J.Ok L l) {b:Nat} (hb:b<2*J.n):(J.cD b).length<=J.few:=by
 have h:=hJ.few.1
 unfold Js.cD
 split
 ·rename_i q
  exact h b q.1
 ·by_cases q:b<J.n
  ·have:=h b q
   unfold Js.two at this
   rw [List.length_append] at this
   omega
  ·have:=h (b-J.n) (by omega)
   unfold Js.two at this
   rw [List.length_append,show b-J.n+J.n=b by omega] at this
   omega
theorem Js.Ok.both (hJ:J.Ok L l) (hp:J.bt=true) (he:e<J.n):Cx L.ss (aC (J.two e)) (J.two e):=by
 have h1:=hJ.chain e (by omega)
 by_cases hc:J.C e=[]
 ·have h2:=hJ.chain (e+J.n) (by omega)
  unfold Js.cD at h2
  rw [if_neg (by omega)] at h2
  unfold Js.two
  rw [hc,List.nil_append]
  exact h2
 ·unfold Js.cD at h1
  rw [if_pos ⟨he,hJ.all hp e he,hc⟩] at h1
  have:aC (J.two e)=aC (J.C e):=by
   unfold Js.two aC
   cases hq:J.C e with
   | nil=>exact absurd hq hc
   | cons a t=>rfl
  rw [this]
  exact h1
theorem Js.Ok.ways (hJ:J.Ok L l):J.wy.Ok L l:=by
 have gH:=hJ.bb
 have bz:=hJ.xl
 have eu:=hJ.kB
 have fz:=FM.eG hJ.pw
 refine ⟨hJ.k,fun w hw=>by omega,hJ.xb,hJ.db,hJ.len,hJ.F,hJ.p1,hJ.tb,hJ.few.2,fun {o key e q} h=>h.imp (fun h=>(List.suffix_cons _ _).trans h) (fun h=>⟨h.1,(List.suffix_cons _ _).trans h.2⟩),fun _ h=>h,fun ho h=>h.imp (fun q=>⟨q.1,q.2.imp id (ho 0)⟩) id,fun {o key c} hc=>?_,fun o key _=>?_⟩
 ·obtain ⟨h1,h2,h3⟩:=hJ.bk key
  rcases hc with ⟨rfl,_⟩ | ⟨rfl,hp⟩
  ·have aJ:word L.xs ((J.B+ai key (2*J.n):Nat):Int)=aC (J.C (ai key (2*J.n))):=by
    unfold word
    rw [if_pos (by omega),Int.toNat_natCast,hJ.elder _ h2,Int.toNat_natCast]
   rw [aJ]
   exact ⟨by omega,_,hJ.chain _ h2,.inl (List.suffix_refl _),hJ.Ry key,hJ.RA h2⟩
  ·have aJ:word L.xs ((J.B2+ai key J.n:Nat):Int)=aC (J.two (ai key J.n)):=by
    unfold word
    rw [if_pos (by have:=bz.2.2 hp; omega),Int.toNat_natCast,hJ.newer hp _ h1,Int.toNat_natCast]
   rw [aJ]
   exact ⟨by omega,_,hJ.both hp h1,.inr ⟨hp,List.suffix_refl _⟩,hJ.Ir key,hJ.few.1 _ h1⟩
 ·obtain ⟨h1,h2,h3⟩:=hJ.bk key
  have bV:=hJ.now
  cases hp:J.bt with
  | true=>
    rw [hp,if_pos rfl] at bV
    refine ⟨J.B2+ai key J.n,?_,.inr ⟨rfl,hp⟩⟩
    rw [bV]
    unfold Gt.cellOf
    simp only
    rw [if_neg (by omega),(dJ hJ.pw key).2]
    simp
  | false=>
    rw [hp,if_neg (by simp)] at bV
    refine ⟨J.B+ai key (2*J.n),?_,.inl ⟨rfl,.inl hp⟩⟩
    rw [bV]
    unfold Gt.cellOf
    simp only
    rw [if_neg (by omega),(dJ hJ.jT key).2]
    simp
def Js.linked (J:Js) (e:Nat):Js:={J with jn:=cP J.jn e true,cap:=J.cap+(J.C (e+J.n)).length}
theorem Js.Is (J:Js) (e b:Nat) (h:b≠e):(J.linked e).cD b=J.cD b:=by
 unfold Js.cD Js.linked Js.two
 simp only [lu _ _ h]
theorem Cx.It {ss:List Sl} {j:Nat} {a:Mq.Hp} {t:List Mq.Hp} (hl:ss.length<=1024) (hj:bj ss a.1 j) (ht:Cx ss (aC t) t) (ha:a.1∉aM t):∀ (pre:List Mq.Hp) (p:Nat),Cx ss p (pre++[a])->(aM (pre++[a])).Nodup->Cx (aS ss a.1 (aC t)) p (pre++a::t):=by
 intro pre
 induction pre with
 | nil=>
   intro p h _
   cases h with
   | @cons _ k z pp _ b c d=>
     refine .cons (C6 hl b b) (z:=aC t) ?_ (Cx.aside hl b ht ha)
     rw [zF hl b,if_pos rfl]
     simp only [c]
     rfl
 | cons e0 r ih=>
   intro p h hn
   have gM:=List.nodup_cons.1 hn
   cases h with
   | @cons _ k z pp _ b c d=>
     have aL:p≠a.1:=by
      rintro rfl
      exact gM.1 (by simp [aM])
     have:=C7 (y:=aC t) hl hj b aL
     exact .cons this.1 (this.2.trans c) (ih _ d gM.2)
theorem Js.Ok.linked (hJ:J.Ok L l) (hp:J.bt=false) (he:e<J.n) (yk:J.jn e=false) {c0:List Mq.Hp} {a:Mq.Hp} (hc:J.C e=c0++[a]) (jc:J.cap+(J.C (e+J.n)).length<=1000000):
 (J.linked e).Ok {L with ss:=aS L.ss a.1 (aC (J.C (e+J.n)))} l:=by
 have dE:=hJ.chain e (by omega)
 have AN:J.cD e=J.C e:=by unfold Js.cD; rw [if_neg (by simp [yk])]
 rw [AN,hc] at dE
 obtain ⟨j,_,hj,_⟩:=dE.at a (by simp)
 have qy:a.1∈aM (J.C e):=by rw [hc]; simp
 have WK:∀ b,b<2*J.n->b≠e->a.1∉aM (J.cD b):=by
  intro b hb aL
  unfold Js.cD
  split
  ·rename_i q
   unfold Js.two
   simp only [aM,List.map_append,List.mem_append]
   rintro (q1 | q1)
   ·exact hJ.dj e b (by omega) hb (fun q=>aL q.symm) _ qy q1
   ·exact hJ.dj e (b+J.n) (by omega) (by omega) (by omega) _ qy q1
  ·exact hJ.dj e b (by omega) hb (fun q=>aL q.symm) _ qy
 have au:=hJ.chain (e+J.n) (by omega)
 have aT:J.cD (e+J.n)=J.C (e+J.n):=by unfold Js.cD; rw [if_neg (by omega)]
 rw [aT] at au
 have po:aC (J.C (e+J.n))<=18446744073709551615:=by
  have:=hJ.elder (e+J.n) (by omega)
  have:=Cl.eU hJ.xb (J.B+(e+J.n))
  omega
 refine {hJ with db:=?_,len:=?_,chain:=?_,newer:=fun q=>?_,all:=fun q=>?_,few:=⟨hJ.few.1,hJ.few.2.1,by have:=hJ.few.2.2.1; show J.few<=J.cap+_; omega,jc⟩}
 ·show ff (aS L.ss a.1 (aC (J.C (e+J.n))))
  unfold aS
  by_cases hk:(a.1-1) % 65536<L.ss.length
  ·exact hJ.db.set hk _ ⟨by simp only; omega,by simp only; omega⟩
  ·rw [List.set_eq_of_length_le (by omega)]
   exact hJ.db
 ·show (aS L.ss a.1 _).length<=_
  rw [C8]
  exact hJ.len
 ·have q:J.bt=true:=q
  rw [hp] at q; simp at q
 ·have q:J.bt=true:=q
  rw [hp] at q; simp at q
 ·intro b hb
  have hb:b<2*J.n:=hb
  show Cx (aS L.ss a.1 (aC (J.C (e+J.n)))) (aC (J.C b)) ((J.linked e).cD b)
  by_cases ey:b=e
  ·subst ey
   have:(J.linked b).cD b=c0++a::J.C (b+J.n):=by
    unfold Js.cD Js.linked Js.two
    simp only [ny]
    rw [if_pos ⟨he,by simp,by rw [hc]; simp⟩,hc]
    simp
   rw [this]
   exact Cx.It hJ.len hj au (hJ.dj b (b+J.n) (by omega) (by omega) (by omega) _ qy) c0 _ (by rw [hc]; exact dE) (by rw [<-hc]; exact hJ.nd b hb)
  ·rw [Js.Is J e b ey]
   exact Cx.aside hJ.len hj (hJ.chain b hb) (WK b hb ey)
theorem fD.C9 (hJ:J.Ok L l) (hp:J.bt=false) (he:e<J.n) (yk:J.jn e=false) {c0:List Mq.Hp} {a:Mq.Hp} (hc:J.C e=c0++[a]) (h:fD J.wy L l old w key G k):
 ∃ k',k'<=k+(J.C (e+J.n)).length/\fD (J.linked e).wy {L with ss:=aS L.ss a.1 (aC (J.C (e+J.n)))} l old w key G k':=by
 have dE:=hJ.chain e (by omega)
 have AN:J.cD e=J.C e:=by unfold Js.cD; rw [if_neg (by simp [yk])]
 rw [AN,hc] at dE
 obtain ⟨j,_,hj,_⟩:=dE.at a (by simp)
 have qy:a.1∈aM (J.C e):=by rw [hc]; simp
 obtain ⟨b1,b2,b3⟩:=hJ.bk key
 have mk:∀ k',k'<=k+(J.C (e+J.n)).length->pU (J.linked e).wy {L with ss:=aS L.ss a.1 (aC (J.C (e+J.n)))} l old key G k'->∃ k',k'<=k+(J.C (e+J.n)).length/\fD (J.linked e).wy {L with ss:=aS L.ss a.1 (aC (J.C (e+J.n)))} l old w key G k':=fun k' mo hp=>⟨k',mo,⟨h.ky,h.sum,h.wk,h.iY,h.pd,h.nQ,h.pr,hp⟩⟩
 cases h.ph with
 | ng a b=>exact mk _ (Nat.le_add_right (J.few+5) _) (.ng a b)
 | put a b=>exact mk _ (Nat.le_add_right (J.few+4) _) (.put a b)
 | load a=>exact mk _ (Nat.le_add_right (J.few+3) _) (.load a)
 | first c a1 b kf q=>exact mk _ (Nat.le_add_right (J.few+2) _) (.first c a1 b kf q)
 | look q a1 a2 a3 a4 a5 a6 a7 a8 a9 a10 a11 a12 a13=>
   have a11:G.W.read+q.length<=J.cap:=a11
   have hq:q<:+J.cD (ai key (2*J.n)):=by
    rcases a9 with q | ⟨q,_⟩
    ·exact q
    ·rw [hp] at q; simp at q
   by_cases ey:ai key (2*J.n)=e
   ·rw [ey,AN,hc] at hq
    obtain ⟨q0,rfl⟩:=Iu hq a7
    obtain ⟨p0,ou⟩:=hq
    have bS:(aM (q0++[a])).Nodup:=by
     have:=hJ.nd e (by omega)
     rw [hc,<-ou] at this
     simp only [aM,List.map_append] at this ⊢
     exact (List.nodup_append.1 this).2.1
    have au:=hJ.chain (e+J.n) (by omega)
    have aT:J.cD (e+J.n)=J.C (e+J.n):=by unfold Js.cD; rw [if_neg (by omega)]
    rw [aT] at au
    have hx:=Cx.It hJ.len hj au (hJ.dj e (e+J.n) (by omega) (by omega) (by omega) _ qy) q0 _ a8 bS
    rw [show q0++a::J.C (e+J.n)=(q0++[a])++J.C (e+J.n) by simp] at hx
    refine mk ((q0++[a]++J.C (e+J.n)).length+1) (by simp only [List.length_append]; omega) (.look (q0++[a]++J.C (e+J.n)) a1 a2 a3 a4 a5 a6 (by simp) hx (.inl ?_) ?_ ?_ a12 a13)
    ·have:(J.linked e).cD (ai key (2*(J.linked e).n))=J.C e++J.C (e+J.n):=by
      show (J.linked e).cD (ai key (2*J.n))=_
      rw [ey]
      unfold Js.cD Js.linked Js.two
      simp only [ny]
      rw [if_pos ⟨he,by simp,by rw [hc]; simp⟩]
     rw [this,hc,<-ou]
     exact ⟨p0,by simp⟩
    ·rw [C4 (hJ.ne (by omega) (by omega))]
     exact a10
    ·show G.W.read+_<=J.cap+(J.C (e+J.n)).length
     simp only [List.length_append] at a11 ⊢
     omega
   ·have EI:a.1∉aM q:=fun hm=>by
     have hm:=(hq.map (·.1)).subset hm
     unfold Js.cD at hm
     split at hm
     ·unfold Js.two at hm
      simp only [aM,List.map_append,List.mem_append] at hm
      rcases hm with hm | hm
      ·exact hJ.dj e _ (by omega) b2 (fun q=>ey q.symm) _ qy hm
      ·exact hJ.dj e (ai key (2*J.n)+J.n) (by omega) (by omega) (by omega) _ qy hm
     ·exact hJ.dj e _ (by omega) b2 (fun q=>ey q.symm) _ qy hm
    refine mk (q.length+1) (by omega) (.look q a1 a2 a3 a4 a5 a6 a7 (Cx.aside hJ.len hj a8 EI) (.inl ?_) a10 (by show _<=J.cap+_; omega) a12 a13)
    show q<:+(J.linked e).cD (ai key (2*J.n))
    rw [Js.Is J e _ ey]
    exact hq
 | leave a b=>exact mk _ (by omega) (.leave a b)
end
end Go.Proofs.YtpanebgakndddaaGreat.Zp
namespace Go.Proofs.YtpanebgakndddaaGreat.Zp
open Go Hm Ar Mm Wk Pc Me Mq Pu Pn Gt Qs
section
variable {Z:Zs} {L:Lm} {l:List Pr} {n:Nat} {W:Wt}
theorem Zs.Ok.waits (hZ:Z.Ok L l) (hb:Cl.nth L.xs 0<=4611686018427387904):Z.Ok {L with xs:=(aW n L.xs L.hs W).1,hs:=(aW n L.xs L.hs W).2.1} l:=by
 have eu:=hZ.kB
 have hk:=hZ.k
 have bz:=hZ.xl
 have h0:=Cl.eU hZ.xb 0
 have hs:=zE h0.1 hb
 unfold aW
 split
 ·exact hZ.cells (fun _ _ _=>rfl) (fun _ _ _=>rfl) (Nat.le_refl _) hZ.xb rfl hZ.tb hZ.p1
 split
 ·have hn:∀ i,i≠0->Cl.nth (L.xs.set 0 (Cl.fE (Cl.nth L.xs 0) 1)) i=Cl.nth L.xs i:=fun i hi=>by
   rw [fG _ _ _ (by omega),if_neg hi]
  refine hZ.cells (fun i h1 _=>hn i (by omega)) (fun _ b _=>hn _ (by omega)) (by simp) (fun x hx=>?_) ?_ hZ.tb ?_
  ·rcases List.mem_or_eq_of_mem_set hx with q | rfl
   ·exact hZ.xb x q
   ·rw [hs]; omega
  ·unfold Me.now
   rw [hn 1 (by omega)]
  ·rw [fG _ _ _ (by omega),if_pos rfl,hs]
   have:=hZ.p1
   omega
 split
 ·exact hZ.cells (fun _ _ _=>rfl) (fun _ _ _=>rfl) (Nat.le_refl _) hZ.xb rfl hZ.tb hZ.p1
 ·exact hZ.cells (fun _ _ _=>rfl) (fun _ _ _=>rfl) (Nat.le_refl _) hZ.xb rfl hZ.tb hZ.p1
end
end Go.Proofs.YtpanebgakndddaaGreat.Zp
namespace Go.Proofs.YtpanebgakndddaaGreat.Mx
end Go.Proofs.YtpanebgakndddaaGreat.Mx
namespace Go.Proofs.YtpanebgakndddaaGreat.Zp
open Go Hm Ar Mm Wk Pc Me Mq Pu Pn Gt Qs Mx
def ZD (l:List Pr) (Z:Zs) (L:Lm):Prop:=Z.Ok L l/\Z.few<=35
def im (l:List Pr) (Z:Zs) (L:Lm) (old:Nat->Int->Nat->Prop) (Z':Zs) (L':Lm) (old':Nat->Int->Nat->Prop):Prop:=
 ∀ (R:Rn) (k:Nat),(R.w:Int)<L.k->bZ Z.wy L l old R k->∃ k',k'<=k+0/\bZ Z'.wy L' l old' R k'
section
variable {l:List Pr} {Z:Zs} {L:Lm} {old old':Nat->Int->Nat->Prop}
theorem ZD.ways (h:ZD l Z L):Z.wy.Ok L l:=h.1.ways
theorem im.Ib (h:ZD l Z L) (ho:∀ w p e,old w p e->old' w p e):im l Z L old Z L old':=fun R k _ hR=>
 ⟨k,Nat.le_refl _,hR.mono h.ways (fun p e=>ho _ p e)⟩
theorem im.trans {Z' Z'':Zs} {L' L'':Lm} {old'':Nat->Int->Nat->Prop} (hk:L'.k=L.k) (h:im l Z L old Z' L' old') (h':im l Z' L' old' Z'' L'' old''):im l Z L old Z'' L'' old'':=fun R k hw hR=>by
 obtain ⟨k',h1,h2⟩:=h R k hw hR
 obtain ⟨k'',h3,h4⟩:=h' R k' (by rw [hk]; exact hw) h2
 exact ⟨k'',by omega,h4⟩
theorem H8 (h:ZD l Z L) {xs' hs':List Int} {ds':List (Nat×Nat)} {ws':List Nat} (h1:∀ i,2<=i->i<Z.B+Z.n->Cl.nth xs' i=Cl.nth L.xs i) (h2:Z.bt=true->∀ b,b<2*Z.n->Cl.nth xs' (Z.B2+b)=Cl.nth L.xs (Z.B2+b)) (hl:L.xs.length<=xs'.length)
 (jx:∀ x∈xs',0<=x/\x<=18446744073709551615) (bV:Me.now xs' ds'=Me.now L.xs L.ds) (nG:∀ i,(aO ds' i).1<=65536/\(aO ds' i).2<=4000000) (h0:Cl.nth L.xs 0<=Cl.nth xs' 0):
 ZD l Z {L with xs:=xs',ds:=ds',hs:=hs',ws:=ws'}/\im l Z L old Z {L with xs:=xs',ds:=ds',hs:=hs',ws:=ws'} old:=by
 have eu:=h.1.kB
 have hk:=h.1.k
 have od:=h.1.p1
 refine ⟨⟨h.1.cells (fun i q1 q2=>h1 i (by omega) q2) h2 hl jx bV nG (by omega),h.2⟩,fun R k hw hR=>⟨k,Nat.le_refl _,hR.iW ?_ h0 rfl⟩⟩
 show Cl.nth xs' (2+R.w)=_
 exact h1 _ (by omega) (by omega)
theorem QO (h:ZD l Z L) (hp:Z.bt=false) {t:Nat} (ht:t<=1000000) (bV:Me.now (L.xs.set 1 (t:Int)) L.ds=(2*Z.n,Z.B2)) (h2:Z.B2+2*Z.n<=L.xs.length) (iM:∀ b,b<2*Z.n->Cl.nth L.xs (Z.B2+b)=((Z.head b:Nat):Int)):
 ZD l {Z with bt:=true} {L with xs:=L.xs.set 1 (t:Int)}/\im l Z L old {Z with bt:=true} {L with xs:=L.xs.set 1 (t:Int)} old:=by
 have eu:=h.1.kB
 have hk:=h.1.k
 have bz:=h.1.xl
 have hn:∀ i,i≠1->Cl.nth (L.xs.set 1 (t:Int)) i=Cl.nth L.xs i:=fun i hi=>by rw [fG _ _ _ (by omega),if_neg hi]
 refine ⟨⟨h.1.wS hp hn (by simp) (fun x hx=>?_) bV h2 iM,h.2⟩,fun R k hw hR=>⟨k,Nat.le_refl _,?_⟩⟩
 ·rcases List.mem_or_eq_of_mem_set hx with q | rfl
  ·exact h.1.xb x q
  ·omega
 ·exact hR.wS.iW (hn _ (by omega)) (by show _<=Cl.nth (L.xs.set 1 (t:Int)) 0; rw [hn 0 (by omega)]; exact Int.le_refl _) rfl
theorem QP {n:Nat} {W:Wt} (h:ZD l Z L) (hb:Cl.nth L.xs 0<=4611686018427387904) (hr:iI L.xs L.hs W=true) (ou:W.at_<=1->W.bF=0) (h3:W.at_<=3) (hn:(n:Int)=L.k):
 ZD l Z {L with xs:=(aW n L.xs L.hs W).1,hs:=(aW n L.xs L.hs W).2.1}/\im l Z L (gy W) Z {L with xs:=(aW n L.xs L.hs W).1,hs:=(aW n L.xs L.hs W).2.1} (gy (aW n L.xs L.hs W).2.2):=
 ⟨⟨h.1.waits hb,h.2⟩,fun R k yc hR=>⟨k,Nat.le_refl _,hR.waits h.ways hb hr ou h3 (by omega) (by omega)⟩⟩
theorem QQ {e:Nat} {r0 d t:List Mq.Hp} {a:Mq.Hp} (h:ZD l Z L) (hp:Z.bt=true) (he:e<Z.n) (hr:Z.r e=r0++[a]) (hd:Z.rest e=d++t) (qu:d≠[]) (jy:∀ b∈d,sd Z.n b.2.1= !Z.s e) (ht:∀ b t',t=b::t'->sd Z.n b.2.1=Z.s e)
 (hold:∀ w p,¬old w p e) (vL:∀ w p i,old' w p i↔i=e\/old w p i):
 ZD l (Z.linked e d t) {L with ss:=aS L.ss a.1 (aC t)}/\im l Z L old (Z.linked e d t) {L with ss:=aS L.ss a.1 (aC t)} old':=by
 have hz:=h.1.zip e he
 have LX:aC t<=18446744073709551615:=by
  cases t with
  | nil=>simp [aC]
  | cons b t'=>
    have h1:=hz.oth
    rw [hd] at h1
    obtain ⟨j,_,hj,_⟩:=h1.at b (by simp)
    have hx:=hz.own
    obtain ⟨d1,g,lT⟩:∃ d1 g,d=d1++[g]:=⟨d.dropLast,d.getLast qu,(List.dropLast_concat_getLast qu).symm⟩
    obtain ⟨gx,gp⟩:=g
    have h2:Cx L.ss gx ((gx,gp)::b::t'):=by
     have h3:Z.v e++(d++b::t')=(Z.v e++d1)++((gx,gp)::b::t'):=by rw [lT]; simp
     rw [h3] at h1
     exact Cx.back _ h1
    obtain ⟨k,z,q1,q2,q3⟩:=h2.tail
    have cz:=(h.1.db k).2
    rw [q2] at cz
    unfold dR at cz
    simp only at cz
    have:=Cx.hd q3
    omega
 refine ⟨⟨h.1.linked hp he hr hd qu jy ht LX,h.2⟩,fun R k _ hR=>?_⟩
 obtain ⟨k',h1,h2⟩:=bZ.linked h.1 he hr hd jy (fun p=>hold _ p) (fun p=>(vL _ p e).2 (.inl rfl)) (fun p i _ q=>(vL _ p i).2 (.inr q)) hR
 exact ⟨k',h1,h2⟩
end
end Go.Proofs.YtpanebgakndddaaGreat.Zp
namespace Go.Proofs.YtpanebgakndddaaGreat.Zp
open Go Hm Ar Mm Wk Pc Me Mq Pu Pn Gt Qs Mx
section
variable {J:Js} {L L':Lm} {l:List Pr} {old old':Nat->Int->Nat->Prop} {w k e n:Nat} {W:Wt} {R:Rn}
theorem Js.Ok.cells (hJ:J.Ok L l) {xs' hs':List Int} {ds':List (Nat×Nat)} {ws':List Nat} (h1:∀ i,J.B<=i->i<J.B+2*J.n->Cl.nth xs' i=Cl.nth L.xs i) (h2:J.bt=true->∀ b,b<J.n->Cl.nth xs' (J.B2+b)=Cl.nth L.xs (J.B2+b)) (hl:L.xs.length<=xs'.length)
 (jx:∀ x∈xs',0<=x/\x<=18446744073709551615) (bV:Me.now xs' ds'=Me.now L.xs L.ds) (nG:∀ i,(aO ds' i).1<=65536/\(aO ds' i).2<=4000000) (od:1<=Cl.nth xs' 0):J.Ok {L with xs:=xs',ds:=ds',hs:=hs',ws:=ws'} l:=
 {hJ with now:=by show Me.now xs' ds'=_; rw [bV]; exact hJ.now,tb:=nG,xl:=by have:=hJ.xl; exact ⟨Nat.le_trans this.1 hl,this.2.1,fun p=>Nat.le_trans (this.2.2 p) hl⟩,xb:=jx,elder:=fun i hi=>by show Cl.nth xs' _=_; rw [h1 _ (by omega) (by omega)]; exact hJ.elder i hi,newer:=fun p b hb=>by show Cl.nth xs' _=_; rw [h2 p b hb]; exact hJ.newer p b hb,p1:=od}
theorem Js.Ok.wS (hJ:J.Ok L l) (_hp:J.bt=false) (gz:∀ e,e<J.n->J.jn e=true) {xs':List Int} (h1:∀ i,i≠1->Cl.nth xs' i=Cl.nth L.xs i) (hl:xs'.length=L.xs.length) (jx:∀ x∈xs',0<=x/\x<=18446744073709551615) (bV:Me.now xs' L.ds=(J.n,J.B2)) (h2:J.B2+J.n<=L.xs.length) (iM:∀ e,e<J.n->Cl.nth L.xs (J.B2+e)=((aC (J.two e):Nat):Int)):Js.Ok {J with bt:=true} {L with xs:=xs'} l:=by
 have eu:=hJ.kB
 have hk:=hJ.k
 have bz:=hJ.xl
 have jr:=FM.eG hJ.pw
 exact {hJ with now:=bV,xl:=⟨by show _<=xs'.length; rw [hl]; exact bz.1,bz.2.1,fun _=>by show _<=xs'.length; rw [hl]; exact h2⟩,xb:=jx,elder:=fun i hi=>by show Cl.nth xs' (J.B+i)=_; rw [h1 _ (by omega)]; exact hJ.elder i hi,newer:=fun _ b hb=>by show Cl.nth xs' (J.B2+b)=_; rw [h1 _ (by omega)]; exact iM b hb,all:=fun _=>gz,p1:=by show 1<=Cl.nth xs' 0; rw [h1 _ (by omega)]; exact hJ.p1}
theorem Js.Ok.waits (hJ:J.Ok L l) (hb:Cl.nth L.xs 0<=4611686018427387904):J.Ok {L with xs:=(aW n L.xs L.hs W).1,hs:=(aW n L.xs L.hs W).2.1} l:=by
 have eu:=hJ.kB
 have hk:=hJ.k
 have bz:=hJ.xl
 have jr:=FM.eG hJ.pw
 have h0:=Cl.eU hJ.xb 0
 have hs:=zE h0.1 hb
 unfold aW
 split
 ·exact hJ.cells (fun _ _ _=>rfl) (fun _ _ _=>rfl) (Nat.le_refl _) hJ.xb rfl hJ.tb hJ.p1
 split
 ·have hn:∀ i,i≠0->Cl.nth (L.xs.set 0 (Cl.fE (Cl.nth L.xs 0) 1)) i=Cl.nth L.xs i:=fun i hi=>by
   rw [fG _ _ _ (by omega),if_neg hi]
  refine hJ.cells (fun i h1 _=>hn i (by omega)) (fun _ b _=>hn _ (by omega)) (by simp) (fun x hx=>?_) ?_ hJ.tb ?_
  ·rcases List.mem_or_eq_of_mem_set hx with q | rfl
   ·exact hJ.xb x q
   ·rw [hs]; omega
  ·unfold Me.now
   rw [hn 1 (by omega)]
  ·rw [fG _ _ _ (by omega),if_pos rfl,hs]
   have:=hJ.p1
   omega
 split
 ·exact hJ.cells (fun _ _ _=>rfl) (fun _ _ _=>rfl) (Nat.le_refl _) hJ.xb rfl hJ.tb hJ.p1
 ·exact hJ.cells (fun _ _ _=>rfl) (fun _ _ _=>rfl) (Nat.le_refl _) hJ.xb rfl hJ.tb hJ.p1
theorem bZ.C9 (hJ:J.Ok L l) (hp:J.bt=false) (he:e<J.n) (yk:J.jn e=false) {c0:List Mq.Hp} {a:Mq.Hp} (hc:J.C e=c0++[a]) (h:bZ J.wy L l old R k):
 ∃ k',k'<=k+(J.C (e+J.n)).length/\bZ (J.linked e).wy {L with ss:=aS L.ss a.1 (aC (J.C (e+J.n)))} l old R k':=by
 unfold bZ at h ⊢
 split
 ·rename_i q
  rw [q] at h
  exact ⟨k,Nat.le_add_right _ _,h⟩
 ·rename_i G q
  rw [q] at h
  exact fD.C9 hJ hp he yk hc h
theorem bZ.RB (hp:J.bt=false) (ho:∀ p,old' R.w p 0) (h:bZ J.wy L l old R k):bZ (Js.wy {J with bt:=true}) L l old' R k:=
 h.to rfl (Int.le_refl _) rfl rfl (Nat.le_refl _) (fun key c p hq=>by
  rcases hq with ⟨hq,_⟩ | ⟨_,hq⟩
  ·exact .inl ⟨hq,.inr (ho p)⟩
  ·rw [hp] at hq; simp at hq) (fun key q p hq=>by
  rcases hq with hq | ⟨hq,_⟩
  ·exact .inl hq
  ·rw [hp] at hq; simp at hq)
end
end Go.Proofs.YtpanebgakndddaaGreat.Zp
