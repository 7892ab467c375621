/- Walks and plain mathematics, put together in their order: ShrD, ShrE, ShrF, ShrG, ZipA, WayA, WayC, ZipB, ZipD, JoinA, ZipE, ZipG. -/
import Derived.Test.YtpanebgakndddaaGreatPart4
import Derived.Test.YtpanebgakndddaaGreatQsbrD
set_option linter.unusedVariables false
set_option linter.unusedSimpArgs false
namespace Go.Proofs.YtpanebgakndddaaGreat.Sw
open Go Go.RowKit Hp K Fl Rw Hm Ar Mm Me Qs Wk Pn
set_option maxRecDepth 100000
section
variable {w w':World} {M:Mo} {a:Sc} {G:Sh}
theorem C6 (G:Sh):(fR G).nx≠5/\(fR G).nx≠9:=by
 unfold fR
 simp only
 split<;>omega
theorem uk (G:Sh):(bD G).nx≠5/\(bD G).nx≠9:=by
 unfold bD
 split
 ·split
  ·exact C6 G
  ·simp
 ·simp
theorem zb (G:Sh):(kZ G).nx≠5/\(kZ G).nx≠9:=by
 unfold kZ
 split
 ·exact uk _
 ·split
  ·exact uk _
  ·simp
theorem IV {w2:World} {x:Nat} (hO:Own w2 a (dg G x)) (hm:a.mv=.map (some a.B)) (hM:Me.Met w2 a.B G.met):cI w2 a (dg G x):=by
 refine ⟨hO,fun _=>⟨hm,?_⟩,fun q=>?_⟩
 ·unfold dg at*
  split
  ·rename_i hq
   rename_i q
   rw [if_pos hq] at q
   exact absurd q (zb G).1
  ·exact hM
 ·unfold dg at q
  split at q
  ·exact absurd q (zb G).2
  ·simp at q
set_option maxHeartbeats 4000000 in
theorem TV (hM:ah w M) (h:cI w a G) (hx:G.el.2+(G.bucket+G.nw.1)<M.xs.length) (he:G.el.2<=4000000) (hb:G.bucket<=1000000) (hn:G.nw.1<=100000) (hf:G.fi<=18446744073709551615):
 Calls Tryz.prog 210 #[ptr a.f,ptr M.m] w fun e w'=>e=.returned (.bool false)/\gr.bf w M a G (lm M) (begun {G with sec:=(Cl.nth M.xs (G.el.2+(G.bucket+G.nw.1))).toNat}) w':=by
 have kb:(Cl.nth M.xs (G.el.2+(G.bucket+G.nw.1))).toNat<=18446744073709551615:=by
  have:=Cl.eX hM.2.1.2.2.1 (G.el.2+(G.bucket+G.nw.1))
  omega
 have rH:=fun n=>za (hM.drewN n) (h.drewN n).an (G.bucket+G.nw.1) (by omega) hx he
 have e2:((G.bucket+G.nw.1:Nat):Int)=(G.bucket:Int)+(G.nw.1:Int):=by omega
 rw [e2] at rH
 have ew:IntKind.i64.wrap ((G.bucket:Int)+(G.nw.1:Int))=(G.bucket:Int)+(G.nw.1:Int):=IntWalk.i64_in _ (by omega)
 generalize (Cl.nth M.xs (G.el.2+(G.bucket+G.nw.1))).toNat=z at*
 have c6:=h.an.cell 6
 have c9:=h.an.cell 9
 simp only [dS,List.getElem?_toArray,List.getElem?_cons_succ,List.getElem?_cons_zero] at c6 c9
 have HM:=Lib.hid hM
 have HG:=Lib.hid h
 replace rH:=Lib.hid rH
 replace kb:=Lib.hid kb
 clear hM h hx e2
 go_enter Tryz.func210,Tryz.ntmps210
 go_wp2_with fail
 go_region_held3 (fun w'=>w'.cell? ⟨a.f,6,none⟩=some (.int .i64 G.nw.1)/\w'.cell? ⟨a.f,9,none⟩=some (.int .i64 G.bucket)) ((go_split_ands; (refine ⟨?_,?_⟩<;>simp [World.cell?_setCell_other, *])))
  (first
    | (go_at_call 209
       refine (rH.out 1).mono ?_
       rintro e w1 ⟨rfl,n,hw⟩
       have ak:Own w1 a G:=by rw [hw]; exact af.only (af.only HG.out.an ((ab.refl (fun _=>False) w).drewN 1) (by simp)) ((ab.refl (fun _=>False) _).drewN n) (by simp)
       have aw:ab (·=a.f) w w1:=by rw [hw]; exact ((ab.refl _ w).drewN 1).drewN n
       have p6:=ak.cell 6
       have p9:=ak.cell 9
       have p11:=ak.cell 11
       have y11:=ak.frozen 11
       simp only [dS,List.getElem?_toArray,List.getElem?_cons_succ,List.getElem?_cons_zero] at p6 p9 p11
       replace ak:=Lib.hid ak
       replace aw:=Lib.hid aw
       clear hw rH c6 c9))
 have ag:Own (w1.setCell ⟨a.f,11,none⟩ (.int .u64 z)) a {G with sec:=z}:=ak.out.store 11 (.int .u64 z)
 have ae:=aw.out.trans (sE (c:=a.f) w1 11 (.int .u64 z))
 generalize w1.setCell ⟨a.f,11,none⟩ (.int .u64 (z:Int))=w2 at*
 clear p6 p9 p11 y11 ak aw
 have c10:=ag.cell 10
 have c11:=ag.cell 11
 have c13:=ag.cell 13
 have c14:=ag.cell 14
 have z13:=ag.frozen 13
 have z14:=ag.frozen 14
 simp only [dS,List.getElem?_toArray,List.getElem?_cons_succ,List.getElem?_cons_zero] at c10 c11 c13 c14
 have iP:Hid (∀ w3,Own w3 a (bD {G with sec:=z})->ab (·=a.f) w2 w3->gr.bf w M a G (lm M) (bD {G with sec:=z}) w3):=Lib.hid fun w3 h3 h4=>
  oI HM.out (a':=a) (cI.plain h3 (uk _)) rfl (sF (uk _)) HG.out (ae.trans h4) (fun x q=>.inl q)
 by_cases h0:G.fi=0
 ·have e:Hid (begun {G with sec:=z}=bD {G with sec:=z}):=Lib.hid (by unfold begun; rw [if_pos (.inl h0)])
  rw [h0] at c10
  have hN:=Lib.hid (oH ag (by show G.bucket<=_; omega) (by show G.nw.1<=_; omega))
  clear ag ae h0
  go_wp2_with fail
  refine hN.out.mono ?_
  rintro e w3 ⟨rfl,aq,kL⟩
  have hS:=Lib.hid (iP.out w3 aq kL)
  clear hN aq kL iP c10 c11 c13 c14 z13 z14
  go_wp2_with fail
  go_ret
  exact ⟨rfl,by rw [e.out]; exact hS.out⟩
 have q0:((G.fi:Int)==0)=false:=by simp; omega
 by_cases h1:z=0
 ·have e:Hid (begun {G with sec:=z}=bD {G with sec:=z}):=Lib.hid (by unfold begun; rw [if_pos (.inr h1)])
  have hN:=Lib.hid (oH ag (by show G.bucket<=_; omega) (by show G.nw.1<=_; omega))
  rw [h1] at c11
  clear ag ae h0 h1
  go_wp2_with fail
  refine hN.out.mono ?_
  rintro e w3 ⟨rfl,aq,kL⟩
  have hS:=Lib.hid (iP.out w3 aq kL)
  clear hN aq kL iP c10 c11 c13 c14 z13 z14
  go_wp2_with fail
  go_ret
  exact ⟨rfl,by rw [e.out]; exact hS.out⟩
 have q1:((z:Int)==0)=false:=by simp; omega
 have e:Hid (begun {G with sec:=z}=dg {G with sec:=z,la:=0,met:=[]} G.fi):=Lib.hid (by unfold begun; rw [if_neg (by simp [h0,h1])])
 clear h0 h1 iP
 obtain ⟨B,hB⟩:∃ B,B=w2.heap.size:=⟨_,rfl⟩
 have uE:=@run_makeMap Tryz.prog
 have ay:Own (w2.alloc (.map #[] 0)) a {G with sec:=z}:=af.only ag ((ab.refl (fun _=>False) w2).alloc _) (by simp)
 have br:Me.Met (w2.alloc (.map #[] 0)) B []:=by rw [hB]; exact Me.Met.made w2
 have az:Own (((w2.alloc (.map #[] 0)).setCell ⟨a.f,13,none⟩ (.int .u64 0)).setCell ⟨a.f,14,none⟩ (.map (some B))) {a with mv:=.map (some B),B:=B} {G with sec:=z,la:=0,met:=[]}:=(ay.store 13 (.int .u64 0)).store 14 (.map (some B))
 have aM:=kz (c:=a.f) (w2.alloc (.map #[] 0)) 13 14 (.int .u64 0) (.map (some B))
 have dM:=br.only aM (C5 ay br)
 have bJ:=Lib.hid ((ae.alloc (.map #[] 0)).trans aM)
 have g10:=az.cell 10
 simp only [dS,List.getElem?_toArray,List.getElem?_cons_succ,List.getElem?_cons_zero] at g10
 have hC:=Lib.hid (vL az rfl dM (by show z<=_; exact kb.out) (by show G.bucket<=_; omega) (by show G.nw.1<=_; omega) hf)
 have bn:Hid (w.heap.size<=B):=Lib.hid (by rw [hB]; exact ae.size)
 have aH:=Lib.hid (C5 az dM)
 replace dM:=Lib.hid dM
 have k13:=ay.cell 13
 have k14:=ay.cell 14
 have y13:=ay.frozen 13
 have y14:=ay.frozen 14
 simp only [dS,List.getElem?_toArray,List.getElem?_cons_succ,List.getElem?_cons_zero] at k13 k14
 clear ag ae ay br az aM
 rw [hB] at g10
 go_wp2_with fail
 rw [<-hB]
 clear uE hB c10 c11 c13 c14 z13 z14 k13 k14 y13 y14
 refine hC.out.mono ?_
 rintro e w3 ⟨rfl,aq,kL⟩
 have hS:Hid (gr.bf w M a G (lm M) (dg {G with sec:=z,la:=0,met:=[]} G.fi) w3):=Lib.hid (by
  have hA:=IV aq rfl (dM.out.only kL aH.out)
  refine oI HM.out (a':={a with mv:=.map (some B),B:=B}) hA rfl ?_ HG.out (bJ.out.trans kL) (fun x q=>.inl q)
  rintro x (q | ⟨_,q⟩ | ⟨q,_⟩)
  ·exact .inl (.inl q)
  ·rw [q]; exact .inr bn.out
  ·exfalso
   unfold dg at q
   split at q
   ·exact (zb _).2 q
   ·simp at q)
 clear hC aq kL g10
 go_wp2_with fail
 go_ret
 exact ⟨rfl,by rw [e.out]; exact hS.out⟩
end
end Go.Proofs.YtpanebgakndddaaGreat.Sw
namespace Go.Proofs.YtpanebgakndddaaGreat.Sw
open Go Go.RowKit Hp K Fl Rw Hm Ar Mm Me Qs Wk Pn
set_option maxRecDepth 100000
section
variable {w w':World} {M:Mo} {a:Sc} {G:Sh}
def BT (w wx:World) (nd:Nd) (p e:Value):Prop:=
 ∃ b,p=ptr b/\e=.int .i64 0/\w.heap.size<=b/\af wx b 67 #[.string nd.key,.string nd.val,.int .u32 nd.sum,.int .u64 nd.next]/\Below w.heap.size w wx
theorem TW {B:Nat} {ms:List Nat} (h:Me.Met w B ms) (hl:ms.length<=1000000) {y:Nat} (hy:y<=18446744073709551615):
 ∃ w',(Instr.mapUpdate 202 (.map (some B)) (.int .u64 y) (.bool true)).run Tryz.prog w=.ok () w'/\Me.Met w' B (y::ms)/\ab (·=B) w w':=by
 obtain ⟨n,D,hM,hn,bO⟩:=h
 obtain ⟨w',fK,ke,hg⟩:=hM.update keyed Tryz.underlying202 (by unfold maxLen; omega) (yP hy) (plainElem_bool Tryz.underlying4 true)
 exact ⟨w',fK,HT hy hM ke hn bO,(ab.refl (·=B) w).grown hg (fun z hz=>.inl (by injection hz with hz; exact hz.symm))⟩
set_option maxHeartbeats 4000000 in
theorem BV (hM:ah w M) (h:cI w a G) (h5:G.nx=5) (live:aY M.ss G.at_ ((G.at_-1) % 65536)) (bO:G.at_<=18446744073709551615) (fF:0<=(ai M.ss ((G.at_-1) % 65536)).nd.next/\(ai M.ss ((G.at_-1) % 65536)).nd.next<=18446744073709551615)
 (ry:G.met.length<=100000) (xS:G.sec<=18446744073709551615) (hb:G.bucket<=1000000) (hn:G.nw.1<=1000000):
 Calls Tryz.prog 237 #[ptr a.f,ptr M.m] w fun e w'=>e=.returned (.bool false)/\gr.bf w M a G (lm M) (dg {G with la:=G.at_,met:=G.at_::G.met} (ai M.ss ((G.at_-1) % 65536)).nd.next.toNat) w':=by
 have hR:=Lib.hid (fun (w1:World) (ax:Below w.heap.size w w1)=>(xW (hM.below ax).2.2.2.1 bO live).mono fun e w2 q=>show e=.returned (.tuple #[dV (ai M.ss ((G.at_-1) % 65536)).nd,.int .i64 0])/\(Below w.heap.size w w2/\Below w1.heap.size w1 w2) from
  ⟨q.1,ax.trans (q.2.mono ax.size),q.2⟩)
 obtain ⟨mZ,AE⟩:=h.c5 h5
 generalize bB:(ai M.ss ((G.at_-1) % 65536)).nd=nd at*
 have c12:=h.an.cell 12
 simp only [dS,List.getElem?_toArray,List.getElem?_cons_succ,List.getElem?_cons_zero] at c12
 have d2:=hM.hd.2.2.1
 have lM:=hM.1.lt
 have lG:=h.an.lt
 have HM:=Lib.hid hM
 have HG:=Lib.hid h
 have nm:=World.new_ne w ⟨M.m,2,none⟩ d2
 have nw:=World.new_ne w ⟨a.f,12,none⟩ c12
 unfold dV at hR
 replace live:=Lib.hid live
 replace fF:=Lib.hid fF
 replace ry:=Lib.hid ry
 replace xS:=Lib.hid xS
 replace hb:=Lib.hid hb
 replace hn:=Lib.hid hn
 replace bO:=Lib.hid bO
 replace h5:=Lib.hid h5
 replace AE:=Lib.hid AE
 replace mZ:=Lib.hid mZ
 replace bB:=Lib.hid bB
 clear hM h
 go_enter Tryz.func237,Tryz.ntmps237
 go_upto_region 1 with (fail)
 go_cut [5,6] (fun p e wx=>BT w wx nd p e)
 case first=>
  go_region_held3 (fun w'=>w'.cell? ⟨M.m,2,none⟩=some (ptr M.ar)/\w'.cell? ⟨a.f,12,none⟩=some (.int .u64 G.at_)) (go_keep)
   (first
     | (go_at_call 156
        refine (hR.out w.drew ⟨rfl,rfl,rfl,Nat.le_refl _,fun _ _=>rfl⟩).mono ?_
        rintro e w2 ⟨rfl,au,_⟩
        have d2':=(au.cell (p:=⟨M.m,2,none⟩) lM).trans d2
        have c12':=(au.cell (p:=⟨a.f,12,none⟩) lG).trans c12
        have fM:=au.size
        replace au:=Lib.hid au)
     | (go_at_call 156
        refine (hR.out (w.alloc (.cells #[.string ⟨#[]⟩,.string ⟨#[]⟩,.int .u32 0,.int .u64 0] 67)).drew (((Below.refl w.heap.size w).alloc (Nat.le_refl _) _).trans ⟨rfl,rfl,rfl,by simp,fun _ _=>rfl⟩)).mono ?_
        rintro e w2 ⟨rfl,au,ba⟩
        have ag:af w2 w.heap.size 67 #[.string ⟨#[]⟩,.string ⟨#[]⟩,.int .u32 0,.int .u64 0]:=af.only (w:=(w.alloc (.cells #[.string ⟨#[]⟩,.string ⟨#[]⟩,.int .u32 0,.int .u64 0] 67)).drew) (af.made w _ _) (ab.aD ba (fun _=>False)) (by simp)
        have d2':=(au.cell (p:=⟨M.m,2,none⟩) lM).trans d2
        have c12':=(au.cell (p:=⟨a.f,12,none⟩) lG).trans c12
        have fM:=au.size
        have k0:=ag.cell 0
        have k1:=ag.cell 1
        have k2:=ag.cell 2
        have k3:=ag.cell 3
        simp at k0 k1 k2 k3
        have y0:=ag.frozen 0
        have y1:=ag.frozen 1
        have y2:=ag.frozen 2
        have y3:=ag.frozen 3
        replace au:=Lib.hid au
        replace ag:=Lib.hid ag))
  all_goals
   go_wp2_with fail
   go_meet
   first
    | exact ⟨_,rfl,rfl,fM,af.made w2 _ _,au.out.alloc fM _⟩
    | exact ⟨_,rfl,rfl,Nat.le_refl _,(((ag.out.store 0 _).store 1 _).store 2 _).store 3 _,(((au.out.setCell (p:=⟨w.heap.size,0,none⟩) (Nat.le_refl _) _).setCell (p:=⟨w.heap.size,1,none⟩) (Nat.le_refl _) _).setCell (p:=⟨w.heap.size,2,none⟩) (Nat.le_refl _) _).setCell (p:=⟨w.heap.size,3,none⟩) (Nat.le_refl _) _⟩
 case rest=>
  obtain ⟨b,rfl,rfl,bV,hB,ax⟩:=hcut
  clear hR c12 d2 nm nw
  have ak:Own wc a G:=HG.out.an.only (ab.aD ax (fun _=>False)) (by simp)
  have av:Me.Met wc a.B G.met:=AE.out.only (ab.aD ax (fun _=>False)) (by simp)
  have c12:=ak.cell 12
  have c13:=ak.cell 13
  have z13:=ak.frozen 13
  simp only [dS,List.getElem?_toArray,List.getElem?_cons_succ,List.getElem?_cons_zero] at c12 c13
  obtain ⟨z,hz⟩:=Int.eq_ofNat_of_zero_le fF.out.1
  rw [hz] at hB
  have oY:=Lib.hid (show z<=18446744073709551615 by have:=fF.out; omega)
  have uK:Hid (nd.next.toNat=z):=Lib.hid (by rw [hz]; rfl)
  have dm:Own (wc.setCell ⟨a.f,13,none⟩ (.int .u64 G.at_)) a {G with la:=G.at_}:=ak.store 13 (.int .u64 G.at_)
  have ae:=sE (c:=a.f) wc 13 (.int .u64 G.at_)
  have EK:=C5 ak av
  have aB:=av.only ae EK
  have qo:b≠a.f:=fun e=>by have:=HG.out.an.lt; omega
  have WR:b≠a.B:=fun e=>by have:=AE.out.lt; omega
  have lI:=hB.only ae qo
  have bA:=(ab.aD ax (cg a G)).trans' ae (fun x _ q=>.inl q)
  replace ak:=Lib.hid ak
  replace av:=Lib.hid av
  replace hB:=Lib.hid hB
  replace ax:=Lib.hid ax
  replace dm:=Lib.hid dm
  replace ae:=Lib.hid ae
  replace aB:=Lib.hid aB
  replace lI:=Lib.hid lI
  replace bA:=Lib.hid bA
  go_upto_region 6 with (fail)
  generalize wc.setCell ⟨a.f,13,none⟩ (.int .u64 (G.at_:Int))=w2 at*
  clear c12 c13 z13 ak av hB ax ae
  have c12:=dm.out.cell 12
  have c14:=dm.out.cell 14
  simp only [dS,List.getElem?_toArray,List.getElem?_cons_succ,List.getElem?_cons_zero,mZ.out] at c12 c14
  obtain ⟨w3,fK,br,aq⟩:=TW (aB.out.only ((ab.refl (fun _=>False) w2).drew) (by simp)) (by have:=ry.out; omega) bO.out
  have fc:Own w3 a {G with la:=G.at_,met:=G.at_::G.met}:=(dm.out.only ((ab.refl (fun _=>False) w2).drew) (by simp)).only aq EK.symm
  have wP:=(lI.out.only ((ab.refl (fun _=>False) w2).drew) (by simp)).only aq WR
  have p12:=fc.cell 12
  have p14:=fc.cell 14
  have k3:=wP.cell 3
  simp only [dS,List.getElem?_toArray,List.getElem?_cons_succ,List.getElem?_cons_zero,mZ.out] at p12 p14 k3
  have hC:=Lib.hid (vL fc mZ.out br xS.out hb.out hn.out oY.out)
  have WS:=Lib.hid ((bA.out.drew).trans' aq (fun x _ q=>.inr (.inl ⟨h5.out,q⟩)))
  replace br:=Lib.hid br
  clear aq fc wP
  go_region_held3 (fun w'=>w'.cell? ⟨a.f,12,none⟩=some (.int .u64 G.at_)/\w'.cell? ⟨a.f,14,none⟩=some (.map (some a.B))) (go_keep)
   (fail)
  clear fK c12 c14 p12 p14
  go_wp2_with fail
  refine hC.out.mono ?_
  rintro e w4 ⟨rfl,uB,aM⟩
  have hS:Hid (gr.bf w M a G (lm M) (dg {G with la:=G.at_,met:=G.at_::G.met} z) w4):=Lib.hid (by
   have hA:=IV uB mZ.out (br.out.only aM EK)
   refine oI HM.out (a':=a) hA rfl ?_ HG.out (WS.out.trans' aM (fun x _ q=>.inl q)) (fun x q=>q)
   rintro x (q | ⟨_,q⟩ | ⟨q,_⟩)
   ·exact .inl (.inl q)
   ·exact .inl (.inr (.inl ⟨h5.out,q⟩))
   ·exfalso
    unfold dg at q
    split at q
    ·exact (zb _).2 q
    ·simp at q)
  clear hC uB aM k3
  go_wp2_with fail
  go_ret
  exact ⟨rfl,by rw [uK.out]; exact hS.out⟩
end
end Go.Proofs.YtpanebgakndddaaGreat.Sw
namespace Go.Proofs.YtpanebgakndddaaGreat.Sw
open Go Go.RowKit Hp K Fl Rw Hm Ar Mm Me Qs Wk Pn
set_option maxRecDepth 100000
section
variable {w w':World} {M:Mo} {a:Sc} {G:Sh}
theorem BY {ss:List Sl} {x y k:Nat} (hl:ss.length<=1024) (hk:aY ss x k):Pu.aR ss x y=ss.set k {ai ss k with nd:={(ai ss k).nd with next:=(y:Int)}}:=by
 unfold Pu.aR
 rw [(mI hl hk).1]
def BZ (w:World) (M:Mo) (a:Sc) (G:Sh) (x y:Nat) (w':World):Prop:=ah w' {M with ss:=Pu.aR M.ss x y}/\cI w' a G/\ab (ao M) w w'
theorem qH (hM:ah w M) (h:cI w a G) {x k:Nat} (hx:x<=18446744073709551615) (hk:aY M.ss x k) (y:Nat) (w1:World) (h0:ab (fun _=>False) w w1):
 Calls Tryz.prog 203 #[ptr M.ar,.int .u64 x,.int .u64 y] w1 fun e w'=>e=.returned (.int .i64 0)/\BZ w M a G x y w':=by
 have qf:ah w1 M:=hM.only h0 (by simp)
 refine (AK qf.2.2.2.1 hx hk (y:Int)).mono fun e w' q=>?_
 have ho:ab (ao M) w w':=(h0.mono (fun x _ q=>q.elim)).trans' q.2.2 (fun x _ q=>.inr (.inr (.inr (.inl q))))
 refine ⟨q.1,?_,h.only ho (fun x hx q=>h.aA hM hx q),ho⟩
 rw [BY hM.2.2.2.1.room.2 hk]
 exact qf.qI q.2.1 q.2.2
set_option maxHeartbeats 2000000 in
theorem TX (hM:ah w M) (h:cI w a G) {k:Nat} (hx:G.la<=18446744073709551615) (hk:aY M.ss G.la k) (hb:G.bucket<=1000000) (hn:G.nw.1<=1000000):
 Calls Tryz.prog 242 #[ptr a.f,ptr M.m] w fun e w'=>e=.returned (.bool false)/\gr.bf w M a G {lm M with ss:=Pu.aR M.ss G.la G.sec} (bD G) w':=by
 have ic:=Lib.hid (qH hM h hx hk G.sec)
 have c11:=h.an.cell 11
 have c13:=h.an.cell 13
 simp only [dS,List.getElem?_toArray,List.getElem?_cons_succ,List.getElem?_cons_zero] at c11 c13
 have d2:=hM.hd.2.2.1
 have HM:=Lib.hid hM
 have HG:=Lib.hid h
 clear hM h
 go_enter Tryz.func242,Tryz.ntmps242
 go_wp2_with fail
 go_region_held3 (fun w'=>w'.cell? ⟨M.m,2,none⟩=some (ptr M.ar)/\w'.cell? ⟨a.f,11,none⟩=some (.int .u64 G.sec)/\w'.cell? ⟨a.f,13,none⟩=some (.int .u64 G.la)) (go_keep)
  (first
    | (go_at_call 203
       refine (ic.out (w.drewN 1) ((ab.refl (fun _=>False) w).drewN 1)).mono ?_
       rintro e w1 ⟨rfl,av,ak,bA⟩
       have p11:=ak.an.cell 11
       have p13:=ak.an.cell 13
       have p2:=av.hd.2.2.1
       simp only [dS,List.getElem?_toArray,List.getElem?_cons_succ,List.getElem?_cons_zero] at p11 p13
       have hT:=Lib.hid (oH ak.an hb hn)
       replace av:=Lib.hid av
       replace ak:=Lib.hid ak
       replace bA:=Lib.hid bA
       clear ic))
 clear p11 p13 p2
 go_wp2_with fail
 refine hT.out.mono ?_
 rintro e w2 ⟨rfl,ag,ae⟩
 have hE:Hid (gr.bf w M a G {lm M with ss:=Pu.aR M.ss G.la G.sec} (bD G) w2):=Lib.hid
  ⟨_,a,av.out.only ae (fun x hx e=>ak.out.aA av.out (x:=a.f) (.inl rfl) (e▸hx)),rfl,⟨rfl,rfl,rfl,rfl,fun x q=>.inl q⟩,cI.plain ag (uk _),rfl,sF (uk _),
   (bA.out.mono (fun x _ q=>(.inl q:ao M x\/cg a G x))).trans' ae (fun x _ q=>.inr (.inl q))⟩
 clear ag ae hT
 go_wp2_with fail
 go_ret
 exact ⟨rfl,hE.out⟩
def BW (w:World) (M:Mo) (a:Sc) (G:Sh) (k x:Nat) (w':World):Prop:=ah w' {M with xs:=M.xs.set k (x:Int)}/\cI w' a G/\ab (ao M) w w'
theorem tU (hM:ah w M) (h:cI w a G) (k:Nat) (hk:k<M.xs.length) (x:Nat) (hx:x<=18446744073709551615) (w1:World) (h0:ab (fun _=>False) w w1):
 Calls Tryz.prog 45 #[ptr M.g,.int .i64 k,.int .u64 x] w1 fun e w'=>e=.returned (.int .i64 0)/\BW w M a G k x w':=
 (Cl.vj (hM.only h0 (by simp)).2.1 k hk (x:Int) (by omega) (by omega)).mono fun e w' q=>by
   have ho:ab (ao M) w w':=(h0.mono (fun x _ q=>q.elim)).trans' q.2.2 (fun x _ q=>.inr (.inl q))
   exact ⟨q.1,(hM.only h0 (by simp)).cells q.2.1 q.2.2,h.only ho (fun x hx q=>h.aA hM hx q),ho⟩
set_option maxHeartbeats 2000000 in
theorem vO (hM:ah w M) (h:cI w a G) (hx:G.nw.2+G.bucket<M.xs.length) (hf:G.fi<=18446744073709551615) (hw:G.nw.2<=4000000) (hb:G.bucket<=1000000) (hn:G.nw.1<=1000000):
 Calls Tryz.prog 235 #[ptr a.f,ptr M.m] w fun e w'=>e=.returned (.bool false)/\gr.bf w M a G {lm M with xs:=M.xs.set (G.nw.2+G.bucket) ((G.fi:Nat):Int)} (fR G) w':=by
 have db:=tU hM h (G.nw.2+G.bucket) hx G.fi hf
 have e1:((G.nw.2+G.bucket:Nat):Int)=(G.nw.2:Int)+(G.bucket:Int):=by omega
 rw [e1] at db
 have ew:IntKind.i64.wrap ((G.nw.2:Int)+(G.bucket:Int))=(G.nw.2:Int)+(G.bucket:Int):=IntWalk.i64_in _ (by omega)
 have c7:=h.an.cell 7
 have c9:=h.an.cell 9
 have c10:=h.an.cell 10
 simp only [dS,List.getElem?_toArray,List.getElem?_cons_succ,List.getElem?_cons_zero] at c7 c9 c10
 have d0:=hM.hd.1
 replace db:=Lib.hid db
 have HM:=Lib.hid hM
 have HG:=Lib.hid h
 clear hM h hx e1
 go_enter Tryz.func235,Tryz.ntmps235
 go_wp2_with fail
 go_region_held3 (fun w'=>w'.cell? ⟨M.m,0,none⟩=some (ptr M.g)/\w'.cell? ⟨a.f,7,none⟩=some (.int .i64 G.nw.2)/\w'.cell? ⟨a.f,9,none⟩=some (.int .i64 G.bucket)/\w'.cell? ⟨a.f,10,none⟩=some (.int .u64 G.fi)) (go_keep)
  (first
    | (go_at_call 45
       refine (db.out (w.drewN 1) ((ab.refl (fun _=>False) w).drewN 1)).mono ?_
       rintro e w1 ⟨rfl,av,ak,bA⟩
       have p7:=ak.an.cell 7
       have p9:=ak.an.cell 9
       have p10:=ak.an.cell 10
       have p0:=av.hd.1
       simp only [dS,List.getElem?_toArray,List.getElem?_cons_succ,List.getElem?_cons_zero] at p7 p9 p10
       have hT:=Lib.hid (IT ak.an hb hn)
       replace av:=Lib.hid av
       replace ak:=Lib.hid ak
       replace bA:=Lib.hid bA
       clear db))
 clear p7 p9 p10 p0
 go_wp2_with fail
 refine hT.out.mono ?_
 rintro e w2 ⟨rfl,ag,ae⟩
 have hE:Hid (gr.bf w M a G {lm M with xs:=M.xs.set (G.nw.2+G.bucket) ((G.fi:Nat):Int)} (fR G) w2):=Lib.hid
  ⟨_,a,av.out.only ae (fun x hx e=>ak.out.aA av.out (x:=a.f) (.inl rfl) (e▸hx)),rfl,⟨rfl,rfl,rfl,rfl,fun x q=>.inl q⟩,cI.plain ag (C6 _),rfl,sF (C6 _),
   (bA.out.mono (fun x _ q=>(.inl q:ao M x\/cg a G x))).trans' ae (fun x _ q=>.inr (.inl q))⟩
 clear ag ae hT
 go_wp2_with fail
 go_ret
 exact ⟨rfl,hE.out⟩
set_option maxHeartbeats 2000000 in
theorem BX (hM:ah w M) (h:cI w a G) (hx:1<M.xs.length) (hn:0<=G.num/\G.num<=1000000):
 Calls Tryz.prog 241 #[ptr a.f,ptr M.m] w fun e w'=>e=.returned (.bool false)/\gr.bf w M a G {lm M with xs:=M.xs.set 1 G.num} {G with W:=⟨G.worker,0,0,0⟩,nx:=9} w':=by
 obtain ⟨z,hz⟩:=Int.eq_ofNat_of_zero_le hn.1
 have c8:=h.an.cell 8
 simp only [dS,List.getElem?_toArray,List.getElem?_cons_succ,List.getElem?_cons_zero] at c8
 have db:=tU hM h 1 hx z (by omega)
 rw [hz] at c8
 have ez:IntKind.u64.wrap (z:Int)=z:=by rw [IntKind.wrap_u64]; omega
 have d0:=hM.hd.1
 replace db:=Lib.hid db
 have KX:=Lib.hid (yD G.worker)
 have HM:=Lib.hid hM
 have HG:=Lib.hid h
 replace hz:=Lib.hid hz
 clear h hM hn
 go_enter Tryz.func241,Tryz.ntmps241
 go_wp2_with fail
 go_region_held3 (fun w'=>w'.cell? ⟨M.m,0,none⟩=some (ptr M.g)/\w'.cell? ⟨a.f,8,none⟩=some (.int .i64 z)) (go_keep)
  (first
    | (go_at_call 45
       refine (db.out (w.drewN 1) ((ab.refl (fun _=>False) w).drewN 1)).mono ?_
       rintro e w1 ⟨rfl,av,ak,bA⟩
       have p0:=ak.an.cell 0
       have p8:=ak.an.cell 8
       have p00:=av.hd.1
       simp only [dS,List.getElem?_toArray,List.getElem?_cons_succ,List.getElem?_cons_zero,hz.out] at p0 p8
       replace av:=Lib.hid av
       replace ak:=Lib.hid ak
       replace bA:=Lib.hid bA
       clear db))
 clear p8 p00
 go_wp2_with fail
 refine (KX.out _).mono ?_
 rintro e w2 ⟨rfl,eU,au⟩
 obtain ⟨b,hb⟩:∃ b,b=w1.heap.size:=⟨_,rfl⟩
 rw [<-hb] at eU ⊢
 have dm:Own w2 a G:=ak.out.an.only (ab.aD au (fun _=>False)) (by simp)
 have d1:=dm.cell 1
 have d2:=dm.cell 2
 have y1:=dm.frozen 1
 have y2:=dm.frozen 2
 simp only [dS,List.getElem?_toArray,List.getElem?_cons_succ,List.getElem?_cons_zero] at d1 d2
 have hE:Own ((w2.setCell ⟨a.f,1,none⟩ (aT 56 (ptr b))).setCell ⟨a.f,2,none⟩ (aT 74 (ptr b))) {a with w:=b} {G with W:=⟨G.worker,0,0,0⟩,nx:=9}:=
  (dm.store 1 (aT 56 (ptr b))).store 2 (aT 74 (ptr b))
 have ae:=kz (c:=a.f) w2 1 2 (aT 56 (ptr b)) (aT 74 (ptr b))
 have aq:=(ab.aD au (·=a.f)).trans ae
 have aH:b≠a.f:=fun e=>by have:=ak.out.an.lt; omega
 have dq:=eU.only ae aH
 have hS:Hid (gr.bf w M a G {lm M with xs:=M.xs.set 1 (z:Int)} {G with W:=⟨G.worker,0,0,0⟩,nx:=9} ((w2.setCell ⟨a.f,1,none⟩ (aT 56 (ptr b))).setCell ⟨a.f,2,none⟩ (aT 74 (ptr b)))):=Lib.hid (by
  refine ⟨_,{a with w:=b},av.out.only aq (fun x hx e=>ak.out.aA av.out (x:=a.f) (.inl rfl) (e▸hx)),rfl,⟨rfl,rfl,rfl,rfl,fun x q=>.inl q⟩,⟨hE,fun q=>by simp at q,fun _=>dq⟩,rfl,fun x hx=>?_,(bA.out.mono (fun x _ q=>(.inl q:ao M x\/cg a G x))).trans' aq (fun x _ q=>.inr (.inl q))⟩
  rcases hx with q | ⟨q,_⟩ | ⟨_,q⟩
  ·exact .inl (.inl q)
  ·simp at q
  ·have hs:=bA.out.size
   rw [q]
   exact .inr (by show w.heap.size<=b; omega))
 generalize nJ a G.nx=u1 at*
 generalize mh a G.nx=u2 at*
 clear KX eU au dm hE ae aq aH dq p0 hb
 go_wp2_with fail
 go_ret
 exact ⟨rfl,by
  have q:=hS.out
  rw [<-hz.out] at q
  exact q⟩
theorem TY {n:Nat} (hM:ah w M) (h:cI w a G) (h9:G.nx=9) (hn:M.k=n) (ok:eB n M.xs M.hs G.W) (hr:fQ M.xs M.hs G.W=true):
 Calls Tryz.prog 74 #[ptr a.w,ptr M.m] w fun e w'=>e=.returned (.bool (decide (G.W.at_=3)))/\
  gr.bf w M a G {lm M with xs:=(aI n M.xs M.hs G.W).1,hs:=(aI n M.xs M.hs G.W).2.1} {G with W:=(aI n M.xs M.hs G.W).2.2} w':=by
 have hW:=h.wt h9
 refine (yE hM hW hn ok hr).mono fun e w1 q=>⟨q.1,_,a,q.2.1,rfl,⟨rfl,rfl,rfl,rfl,fun x q=>.inl q⟩,⟨h.an.only q.2.2.2 ?_,fun q=>by simp only at q; omega,fun _=>q.2.2.1⟩,rfl,fun x q=>.inl q,q.2.2.2.mono (fun x _ y=>y.imp id (fun e=>.inr (.inr ⟨h9,e⟩)))⟩
 rintro (q | q)
 ·exact h.aA hM (.inl rfl) q
 ·exact h.an.differ hW (by decide) q
end
end Go.Proofs.YtpanebgakndddaaGreat.Sw
namespace Go.Proofs.YtpanebgakndddaaGreat.Sw
open Go Go.RowKit Hp K Fl Rw Hm Ar Mm Me Qs Wk Pn
set_option maxRecDepth 100000
def ij (k:Int):Sh:=⟨k,1,0,(0,0),(0,0),0,0,0,0,0,0,[],⟨0,0,0,0⟩⟩
theorem B0 {w:World} {f F:Nat} {b:Array Value} {u1 u2:Value} (c1:w.cell? ⟨f,1,none⟩=some u1) (c2:w.cell? ⟨f,2,none⟩=some u2) (z1:w.frozen? ⟨f,1,none⟩=false) (z2:w.frozen? ⟨f,2,none⟩=false):
 Calls Tryz.prog 118 #[ptr f,.func (.func F) b #[]] w fun e w'=>e=.returned (.tuple #[])/\w'=(w.setCell ⟨f,1,none⟩ (dW 157)).setCell ⟨f,2,none⟩ (.func (.func F) b #[]):=by
 go_enter Tryz.func118,Tryz.ntmps118
 go_wp2
 go_end0
 exact ⟨rfl,rfl⟩
theorem Gd (k:Int) (w:World):Calls Tryz.prog 88 #[.int .i64 k] w fun e w'=>∃ a:Sc,e=.returned (ptr a.f)/\cI w' a (ij k)/\(∀ x,cg a (ij k) x->w.heap.size<=x)/\Below w.heap.size w w':=by
 obtain ⟨w2,bl⟩:∃ w2,w2=w.alloc (.cells #[.int .i64 k,.nilFunc,.nilFunc,.int .i64 0,.int .i64 0,.int .i64 0,.int .i64 0,.int .i64 0,.int .i64 0,.int .i64 0,.int .u64 0,.int .u64 0,.int .u64 0,.int .u64 0,.map none] 205):=⟨_,rfl⟩
 have aQ:af w2 w.heap.size 205 #[.int .i64 k,.nilFunc,.nilFunc,.int .i64 0,.int .i64 0,.int .i64 0,.int .i64 0,.int .i64 0,.int .i64 0,.int .i64 0,.int .u64 0,.int .u64 0,.int .u64 0,.int .u64 0,.map none]:=by rw [bl]; exact af.made w _ _
 have ag:Below w.heap.size w w2:=by rw [bl]; exact (Below.refl _ _).alloc (Nat.le_refl _) _
 obtain ⟨f,hf⟩:∃ f,f=w.heap.size:=⟨_,rfl⟩
 rw [<-hf] at aQ
 have gZ:w.heap.size<=f:=by omega
 have km:=Lib.hid (B0 (F:=119) (b:=#[ptr f]) (aQ.cell 1) (aQ.cell 2) (aQ.frozen 1) (aQ.frozen 2))
 have hE:Hid (cI ((w2.setCell ⟨f,1,none⟩ (dW 157)).setCell ⟨f,2,none⟩ (aT 119 (ptr f))) ⟨f,.map none,0,0⟩ (ij k)):=Lib.hid
  ⟨(aQ.store 1 (dW 157)).store 2 (aT 119 (ptr f)),fun q=>by simp [ij] at q,fun q=>by simp [ij] at q⟩
 have aW:Hid (∀ x,cg ⟨f,.map none,0,0⟩ (ij k) x->w.heap.size<=x):=Lib.hid (by
  rintro x (rfl | ⟨q,_⟩ | ⟨q,_⟩)
  ·exact gZ
  ·simp [ij] at q
  ·simp [ij] at q)
 have hB:=Lib.hid ((ag.setCell (p:=⟨f,1,none⟩) gZ (dW 157)).setCell (p:=⟨f,2,none⟩) gZ (aT 119 (ptr f)))
 clear aQ ag gZ
 go_enter Tryz.func88,Tryz.ntmps88
 go_upto_region 2 with (fail)
 rw [<-bl,<-hf]
 clear bl hf
 go_wp2_with fail
 refine km.out.mono ?_
 rintro e w1 ⟨rfl,aP⟩
 rw [<-aP] at hE hB
 clear aP km
 go_wp2_with fail
 go_ret
 exact ⟨_,rfl,hE.out,aW.out,hB.out⟩
theorem qx {w:World} {a:Sc} {G:Sh} (h:cI w a G):Calls Tryz.prog 89 #[ptr a.f] w fun e w'=>e=.returned (.int .i64 G.err)/\w'=w:=by
 have c3:=h.an.cell 3
 simp only [dS,List.getElem?_toArray,List.getElem?_cons_succ,List.getElem?_cons_zero] at c3
 clear h
 go_enter Tryz.func89,Tryz.ntmps89
 go_wp2_with fail
 go_ret
 exact ⟨rfl,rfl⟩
theorem mj {w:World} {F f:Nat} {cv m:Value} {c:Bool} {P:World->Prop} (c2:w.cell? ⟨f,2,none⟩=some (aT F cv)) (eF:∀ args w,(callFunc F args).run Tryz.prog w=.ok (.enter F args) w)
 (hF:Calls Tryz.prog F #[cv,m] w fun e w'=>e=.returned (.bool c)/\P w'):Calls Tryz.prog 279 #[ptr f,m] w fun e w'=>e=.returned (.bool c)/\P w':=by
 replace hF:=Lib.hid hF
 go_enter Tryz.func279,Tryz.ntmps279
 go_wp2_with fail
 refine hF.out.mono ?_
 rintro e w' ⟨rfl,bj⟩
 replace bj:=Lib.hid bj
 clear c2
 go_wp2_with fail
 go_ret
 exact ⟨rfl,bj.out⟩
theorem TZ {w:World} {f:Nat} {m:Value} (c1:w.cell? ⟨f,1,none⟩=some (dW 157)):Calls Tryz.prog 278 #[ptr f,m] w fun e w'=>e=.returned (.bool true)/\Below w.heap.size w w':=by
 have eF:∀ args w,(callFunc 157 args).run Tryz.prog w=.ok (.enter 157 args) w:=fun _ _=>by kernel_rfl
 have hA:=Lib.hid (sf m w)
 go_enter Tryz.func278,Tryz.ntmps278
 go_wp2_with fail
 refine hA.out.mono ?_
 rintro e w' ⟨rfl,hw⟩
 obtain rfl:w=w':=hw.symm
 clear hA c1
 go_wp2_with fail
 go_ret
 exact ⟨rfl,Below.refl _ _⟩
theorem yZ {w:World} {F f:Nat} {cv m:Value} {c:Bool} (c1:w.cell? ⟨f,1,none⟩=some (aT F cv)) (eF:∀ args w,(callFunc F args).run Tryz.prog w=.ok (.enter F args) w)
 (hF:Calls Tryz.prog F #[cv,m] w fun e w'=>e=.returned (.bool c)/\∃ n,w'=w.drewN n):Calls Tryz.prog 278 #[ptr f,m] w fun e w'=>e=.returned (.bool c)/\Below w.heap.size w w':=by
 replace hF:=Lib.hid hF
 go_enter Tryz.func278,Tryz.ntmps278
 go_wp2_with fail
 refine hF.out.mono ?_
 rintro e w' ⟨rfl,n,rfl⟩
 clear c1
 go_wp2_with fail
 go_ret
 exact ⟨rfl,rfl,rfl,rfl,Nat.le_refl _,fun _ _=>rfl⟩
theorem T0 (args:Array Value) (w:World):(callFunc 119 args).run Tryz.prog w=.ok (.enter 119 args) w:=by kernel_rfl
theorem IW (args:Array Value) (w:World):(callFunc 158 args).run Tryz.prog w=.ok (.enter 158 args) w:=by kernel_rfl
theorem T1 (args:Array Value) (w:World):(callFunc 191 args).run Tryz.prog w=.ok (.enter 191 args) w:=by kernel_rfl
theorem T3 (args:Array Value) (w:World):(callFunc 210 args).run Tryz.prog w=.ok (.enter 210 args) w:=by kernel_rfl
theorem T4 (args:Array Value) (w:World):(callFunc 237 args).run Tryz.prog w=.ok (.enter 237 args) w:=by kernel_rfl
theorem T5 (args:Array Value) (w:World):(callFunc 242 args).run Tryz.prog w=.ok (.enter 242 args) w:=by kernel_rfl
theorem T7 (args:Array Value) (w:World):(callFunc 235 args).run Tryz.prog w=.ok (.enter 235 args) w:=by kernel_rfl
theorem T8 (args:Array Value) (w:World):(callFunc 241 args).run Tryz.prog w=.ok (.enter 241 args) w:=by kernel_rfl
theorem T9 (args:Array Value) (w:World):(callFunc 74 args).run Tryz.prog w=.ok (.enter 74 args) w:=by kernel_rfl
theorem Ua (args:Array Value) (w:World):(callFunc 56 args).run Tryz.prog w=.ok (.enter 56 args) w:=by kernel_rfl
section
variable {w w':World} {M:Mo} {a:Sc} {G:Sh}
theorem Ub (hM:ah w M) (h:cI w a G) (ok:pz (lm M) G):Calls Tryz.prog 278 #[ptr a.f,ptr M.m] w fun e w'=>e=.returned (.bool (eL (lm M) G))/\Below w.heap.size w w':=by
 have c1:=(rY h.an).2.1
 unfold nJ at c1
 unfold eL
 by_cases h9:G.nx=9
 ·rw [if_pos h9] at c1 ⊢
  obtain ⟨o1,o2⟩:=ok.c9 h9
  have hp:=o2.bm
  have hx:M.k.toNat+2<=M.xs.length:=o2.xl
  have gU:G.W.at_<=2->G.W.bm<M.k.toNat:=hp.2
  exact yZ c1 Ua (Qs.oC hM (h.wt h9) o2.hl (fun q=>by have:=gU (by omega); exact ⟨by omega,by omega⟩) (by have:=o2.at_; omega))
 ·rw [if_neg h9] at c1 ⊢
  exact TZ c1
theorem Uc (hM:ah w M) (h:cI w a G) (ok:pz (lm M) G) (hr:eL (lm M) G=true):
 Calls Tryz.prog 279 #[ptr a.f,ptr M.m] w fun e w'=>e=.returned (.bool (bY (lm M) G))/\gr.bf w M a G (aG (lm M) G).1 (aG (lm M) G).2 w':=by
 have c2:=(rY h.an).2.2.1
 unfold mh at c2
 have fF:=ok.nx
 have iW:=ok.bk
 have bK:=ok.nw
 have EL:=ok.hb
 by_cases e1:G.nx=1
 ·rw [if_pos e1] at c2
  rw [show bY (lm M) G=false by unfold bY; rw [if_neg (by omega),if_neg (by omega)]; simp; omega]
  exact mj c2 T0 (vN hM h ok.x1 e1)
 rw [if_neg e1] at c2
 obtain ⟨el1,el2⟩:=ok.el e1
 by_cases e2:G.nx=2
 ·rw [if_pos e2] at c2
  have ed:bY (lm M) G= !decide (FM.bo ((G.el.1 / 2:Nat):Int)=true/\M.xs.length+G.el.1 / 2<=1048576):=by unfold bY; rw [if_pos e2]
  by_cases hp:FM.bo ((G.el.1 / 2:Nat):Int)=true/\M.xs.length+G.el.1 / 2<=1048576
  ·have es:aG (lm M) G=({lm M with xs:=M.xs++List.replicate (G.el.1 / 2) 0,ds:=M.ds++[(G.el.1 / 2,M.xs.length)]},{G with num:=M.ds.length,err:=0,nw:=(G.el.1 / 2,M.xs.length),nx:=3}):=by
    unfold aG; rw [if_neg e1,if_pos e2,if_pos hp]
   rw [ed,es,show (!decide (FM.bo ((G.el.1 / 2:Nat):Int)=true/\M.xs.length+G.el.1 / 2<=1048576))=false by simp only [decide_eq_true hp]; rfl]
   exact mj c2 IW (BQ hM h el1 ok.ds hp.1 hp.2)
  ·have es:aG (lm M) G=(lm M,{G with num:= -1,err:=if FM.bo ((G.el.1 / 2:Nat):Int)=true then 2 else 5,nx:=10}):=by
    unfold aG; rw [if_neg e1,if_pos e2,if_neg hp]
   rw [ed,es,show (!decide (FM.bo ((G.el.1 / 2:Nat):Int)=true/\M.xs.length+G.el.1 / 2<=1048576))=true by simp only [decide_eq_false hp]; rfl]
   exact mj c2 IW (BO hM h el1 hp)
 rw [if_neg e2] at c2
 by_cases e3:G.nx=3
 ·rw [if_pos e3] at c2
  rw [show bY (lm M) G=false by unfold bY; rw [if_neg (by omega),if_neg (by omega)]; simp; omega]
  have es:aG (lm M) G=(lm M,{G with fi:=(Cl.nth M.xs (G.el.2+G.bucket)).toNat,nx:=4}):=by unfold aG; rw [if_neg e1,if_neg e2,if_pos e3]
  rw [es]
  exact mj c2 T1 (TU hM h (ok.c3 e3) el2 iW)
 rw [if_neg e3] at c2
 by_cases e4:G.nx=4
 ·rw [if_pos e4] at c2
  rw [show bY (lm M) G=false by unfold bY; rw [if_neg (by omega),if_neg (by omega)]; simp; omega]
  have es:aG (lm M) G=(lm M,begun {G with sec:=(Cl.nth M.xs (G.el.2+(G.bucket+G.nw.1))).toNat}):=by unfold aG; rw [if_neg e1,if_neg e2,if_neg e3,if_pos e4]
  rw [es]
  exact mj c2 T3 (TV hM h (ok.c4 e4) el2 (by omega) (by omega) EL.1)
 rw [if_neg e4] at c2
 by_cases e5:G.nx=5
 ·rw [if_pos e5] at c2
  rw [show bY (lm M) G=false by unfold bY; rw [if_neg (by omega),if_neg (by omega)]; simp; omega]
  have es:aG (lm M) G=(lm M,dg {G with la:=G.at_,met:=G.at_::G.met} (ai M.ss ((G.at_-1) % 65536)).nd.next.toNat):=by unfold aG; rw [if_neg e1,if_neg e2,if_neg e3,if_neg e4,if_pos e5]
  rw [es]
  obtain ⟨o1,o2,o3,o4⟩:=ok.c5 e5
  exact mj c2 T4 (BV hM h e5 o1 o2 o3 o4 EL.2 iW (by omega))
 rw [if_neg e5] at c2
 by_cases e6:G.nx=6
 ·rw [if_pos e6] at c2
  rw [show bY (lm M) G=false by unfold bY; rw [if_neg (by omega),if_neg (by omega)]; simp; omega]
  have es:aG (lm M) G=({lm M with ss:=Pu.aR M.ss G.la G.sec},bD G):=by unfold aG; rw [if_neg e1,if_neg e2,if_neg e3,if_neg e4,if_neg e5,if_pos e6]
  rw [es]
  obtain ⟨o1,k,o2⟩:=ok.c6 e6
  exact mj c2 T5 (TX hM h o1 o2 iW (by omega))
 rw [if_neg e6] at c2
 by_cases e7:G.nx=7
 ·rw [if_pos e7] at c2
  rw [show bY (lm M) G=false by unfold bY; rw [if_neg (by omega),if_neg (by omega)]; simp; omega]
  have es:aG (lm M) G=({lm M with xs:=M.xs.set (G.nw.2+G.bucket) ((G.fi:Nat):Int)},fR G):=by unfold aG; rw [if_neg e1,if_neg e2,if_neg e3,if_neg e4,if_neg e5,if_neg e6,if_pos e7]
  rw [es]
  exact mj c2 T7 (vO hM h (ok.c7 e7) EL.1 bK.2 iW (by omega))
 rw [if_neg e7] at c2
 by_cases e8:G.nx=8
 ·rw [if_pos e8] at c2
  rw [show bY (lm M) G=false by unfold bY; rw [if_neg (by omega),if_neg (by omega)]; simp; omega]
  have es:aG (lm M) G=({lm M with xs:=M.xs.set 1 G.num},{G with W:=⟨G.worker,0,0,0⟩,nx:=9}):=by unfold aG; rw [if_neg e1,if_neg e2,if_neg e3,if_neg e4,if_neg e5,if_neg e6,if_neg e7,if_pos e8]
  rw [es]
  exact mj c2 T8 (BX hM h ok.x1 (ok.c8 e8))
 rw [if_neg e8] at c2
 have e9:G.nx=9:=by omega
 rw [if_pos e9] at c2
 have ed:bY (lm M) G=decide (G.W.at_=3):=by unfold bY; rw [if_neg (by omega),if_pos e9]
 have es:aG (lm M) G=({lm M with xs:=(aI M.k.toNat M.xs M.hs G.W).1,hs:=(aI M.k.toNat M.xs M.hs G.W).2.1},{G with W:=(aI M.k.toNat M.xs M.hs G.W).2.2}):=by
  unfold aG; rw [if_neg e1,if_neg e2,if_neg e3,if_neg e4,if_neg e5,if_neg e6,if_neg e7,if_neg e8]
 rw [ed,es]
 obtain ⟨o1,o2⟩:=ok.c9 e9
 unfold eL at hr
 rw [if_pos e9] at hr
 exact mj c2 T9 (TY hM h e9 (n:=M.k.toNat) (by have:0<=M.k:=o1; omega) o2 hr)
end
theorem pA:oA gr 169 278 279 pz eL aG bY where
 below h hb:=h.below hb
 mr b w f:=by kernel_rfl
 ms b w f:=by kernel_rfl
 er args w:=by kernel_rfl
 es args w:=by kernel_rfl
 ready hM h ok:=Ub hM h ok
 step hM h ok hr:=Uc hM h ok hr
end Go.Proofs.YtpanebgakndddaaGreat.Sw
namespace Go.Proofs.YtpanebgakndddaaGreat.Zp
open Go Hm Ar Mm Wk Pc Me Mq Pu Pn
def aC (q:List Mq.Hp):Nat:=match q with
 | []=>0
 | e::_=>e.1
theorem Cx.hd {ss:List Sl} {x:Nat} {q:List Mq.Hp} (h:Cx ss x q):x=aC q:=by
 cases h with
 | nil=>rfl
 | cons a b c=>rfl
theorem Cx.back {ss:List Sl}:∀ (pre:List Mq.Hp) {q:List Mq.Hp} {x:Nat},Cx ss x (pre++q)->Cx ss (aC q) q:=by
 intro pre
 induction pre with
 | nil=>
   intro q x h
   have h':Cx ss x q:=h
   rw [<-Cx.hd h']
   exact h'
 | cons e t ih=>
   intro q x h
   cases h with
   | cons a b c=>exact ih c
theorem yJ {ss:List Sl} {x y j:Nat} (hl:ss.length<=1024) (hj:aY ss x j) (k:Nat):ai (aR ss x y) k=if k=j then {ai ss j with nd:={(ai ss j).nd with next:=(y:Int)}} else ai ss k:=by
 have xF:(x-1) % 65536=j:=(mI hl hj).1
 unfold aR
 rw [xF,at_set hj.1]
theorem Cu (ss:List Sl) (x y:Nat):(aR ss x y).length=ss.length:=by unfold aR; simp
theorem Cr {ss:List Sl} {x y j:Nat} (hl:ss.length<=1024) (hj:aY ss x j) {u k:Nat} (hk:aY ss u k):aY (aR ss x y) u k:=by
 have h:=yJ (y:=y) hl hj k
 refine ⟨by rw [Cu]; exact hk.1,?_,?_⟩
 ·rw [h]; split
  ·rename_i e; subst e; exact hk.2.1
  ·exact hk.2.1
 ·rw [h]; split
  ·rename_i e; subst e; exact hk.2.2
  ·exact hk.2.2
theorem Cs {ss:List Sl} {x y j:Nat} (hl:ss.length<=1024) (hj:aY ss x j) {u k:Nat} (hk:aY ss u k) (hu:u≠x):aY (aR ss x y) u k/\(ai (aR ss x y) k).nd=(ai ss k).nd:=by
 refine ⟨Cr hl hj hk,?_⟩
 rw [yJ hl hj,if_neg]
 rintro rfl
 exact hu (by rw [hk.2.2,hj.2.2])
theorem Cx.aside {ss:List Sl} {x y j p:Nat} {q:List Mq.Hp} (hl:ss.length<=1024) (hj:aY ss x j) (h:Cx ss p q) (hx:x∉aL q):Cx (aR ss x y) p q:=
 h.kD fun u hu k hk=>Cs hl hj hk (fun e=>hx (e▸hu))
theorem Cx.Jt {ss:List Sl} {j:Nat} {e:Mq.Hp} {d t:List Mq.Hp} (hl:ss.length<=1024) (hj:aY ss e.1 j):∀ (pre:List Mq.Hp) (p:Nat),Cx ss p (pre++e::(d++t))->(aL (pre++e::(d++t))).Nodup->Cx (aR ss e.1 (aC t)) p (pre++e::t):=by
 intro pre
 induction pre with
 | nil=>
   intro p h hn
   have gK:e.1∉aL (d++t):=(List.nodup_cons.1 hn).1
   cases h with
   | @cons _ k z pp _ a b c=>
     have Ee:k=j:=a.uniq hl hj
     subst Ee
     have ht:Cx (aR ss p (aC t)) (aC t) t:=Cx.aside hl a (Cx.back d c) (fun q=>gK (by
      simp only [aL,List.map_append,List.mem_append]
      exact .inr q))
     refine .cons (Cr hl a a) (z:=aC t) ?_ ht
     rw [yJ hl a,if_pos rfl]
     simp only [b]
     rfl
 | cons e0 r ih=>
   intro p h hn
   have gK:=List.nodup_cons.1 hn
   cases h with
   | @cons _ k z pp _ a b c=>
     have aH:p≠e.1:=by
      rintro rfl
      exact gK.1 (by simp [aL])
     have:=Cs (y:=aC t) hl hj a aH
     exact .cons this.1 (this.2.trans b) (ih _ c gK.2)
structure Zip (ss:List Sl) (σ:ByteArray->Bool) (aU:List Mq.Hp) (s:Bool) (x y:Nat) (u r v rest:List Mq.Hp):Prop where
 own:Cx ss x (u++r++rest)
 oth:Cx ss y (v++rest)
 su:∀ e∈u++r,σ e.2.1=s
 sv:∀ e∈v,σ e.2.1= !s
 hd:∀ e t,rest=e::t->σ e.2.1= !s
 ne:rest≠[]->r≠[]
 nd:(aL (u++r++v++rest)).Nodup
 fs:aU.filter (fun e=>σ e.2.1==s)=u++r++rest.filter (fun e=>σ e.2.1==s)
 fv:aU.filter (fun e=>σ e.2.1== !s)=v++rest.filter (fun e=>σ e.2.1== !s)
section
variable {ss:List Sl} {σ:ByteArray->Bool} {aU:List Mq.Hp} {s:Bool} {x y:Nat} {u r v rest:List Mq.Hp}
theorem filter_all {q:List Mq.Hp} {b:Bool} (h:∀ e∈q,σ e.2.1=b):q.filter (fun e=>σ e.2.1==b)=q:=List.filter_eq_self.2 fun e he=>by simp [h e he]
theorem filter_none {q:List Mq.Hp} {b:Bool} (h:∀ e∈q,σ e.2.1= !b):q.filter (fun e=>σ e.2.1==b)=[]:=List.filter_eq_nil_iff.2 fun e he=>by simp [h e he]
theorem LP (h:Cx ss x aU) (hn:(aL aU).Nodup):∃ s r rest,aU=r++rest/\Zip ss σ aU s x (aC rest) [] r [] rest:=by
 cases aU with
 | nil=>
   refine ⟨true,[],[],rfl,⟨h,.nil,by simp,by simp,by simp,by simp,by simp,by simp,by simp⟩⟩
 | cons e t=>
   have lK:(e::t)=(e::t).takeWhile (fun a=>σ a.2.1==σ e.2.1)++(e::t).dropWhile (fun a=>σ a.2.1==σ e.2.1):=(List.takeWhile_append_dropWhile).symm
   obtain ⟨r,hr⟩:∃ r,r=(e::t).takeWhile (fun a=>σ a.2.1==σ e.2.1):=⟨_,rfl⟩
   obtain ⟨rest,uw⟩:∃ q,q=(e::t).dropWhile (fun a=>σ a.2.1==σ e.2.1):=⟨_,rfl⟩
   rw [<-hr,<-uw] at lK
   have mY:∀ a∈r,σ a.2.1=σ e.2.1:=fun a ha=>by
    rw [hr] at ha
    have:∀ (l:List Mq.Hp),a∈l.takeWhile (fun a=>σ a.2.1==σ e.2.1)->σ a.2.1=σ e.2.1:=by
     intro l
     induction l with
     | nil=>intro q; simp at q
     | cons b l ih=>
       intro q
       rw [List.takeWhile_cons] at q
       split at q
       ·rename_i hb
        rcases List.mem_cons.1 q with rfl | q
        ·simpa using hb
        ·exact ih q
       ·simp at q
    exact this _ ha
   have uD:∀ a t',rest=a::t'->σ a.2.1= !(σ e.2.1):=fun a t' q=>by
    have:∀ (l:List Mq.Hp),l.dropWhile (fun a=>σ a.2.1==σ e.2.1)=a::t'->σ a.2.1= !(σ e.2.1):=by
     intro l
     induction l with
     | nil=>intro q; simp at q
     | cons b l ih=>
       intro q
       rw [List.dropWhile_cons] at q
       split at q
       ·exact ih q
       ·rename_i hb
        injection q with q1 _
        subst q1
        revert hb
        cases σ b.2.1<;>cases σ e.2.1<;>simp
    exact this _ (uw▸q)
   have zF:r≠[]:=by
    rw [hr,List.takeWhile_cons,if_pos (by simp)]
    simp
   refine ⟨σ e.2.1,r,rest,lK,⟨by rw [List.nil_append,<-lK]; exact h,?_,by simpa using mY,by simp,uD,fun _=>zF,by rw [List.nil_append,List.append_nil,<-lK]; exact hn,?_,?_⟩⟩
   ·rw [lK] at h
    exact Cx.back r h
   ·rw [lK,List.filter_append,filter_all mY,List.nil_append]
   ·rw [lK,List.filter_append]
    have:=filter_none (σ:=σ) (b:= !(σ e.2.1)) (q:=r) (by simpa using mY)
    rw [this]
theorem Ju {a:Nat} (h:Zip ss σ aU s x y u r v rest) (ha:a∈aL (u++r)):a∉aL (v++rest):=by
 have:=h.nd
 rw [show u++r++v++rest=(u++r)++(v++rest) by simp] at this
 simp only [aL,List.map_append] at this ha ⊢
 intro q
 rw [show List.map (fun x=>x.1) u++List.map (fun x=>x.1) r++(List.map (fun x=>x.1) v++List.map (fun x=>x.1) rest)=(List.map (fun x=>x.1) u++List.map (fun x=>x.1) r)++(List.map (fun x=>x.1) v++List.map (fun x=>x.1) rest) by simp] at this
 exact (List.nodup_append.1 this).2.2 a (by simpa using ha) a (by simpa using q) rfl
theorem Zip.link (h:Zip ss σ aU s x y u r v rest) (hl:ss.length<=1024) {r0 d t:List Mq.Hp} {e:Mq.Hp} (hr:r=r0++[e]) (hd:rest=d++t) (qe:d≠[]) (jC:∀ a∈d,σ a.2.1= !s) (ht:∀ a t',t=a::t'->σ a.2.1=s):
 Zip (aR ss e.1 (aC t)) σ aU (!s) y x v d (u++r) t:=by
 subst hr hd
 have dZ:=h.own
 rw [show u++(r0++[e])++(d++t)=(u++r0)++e::(d++t) by simp] at dZ
 obtain ⟨j,_,hj,_⟩:=dZ.at e (by simp)
 have bB:=h.nd
 have jm:(aL ((u++r0)++e::(d++t))).Nodup:=by
  have:(aL ((u++r0)++e::(d++t))).Sublist (aL (u++(r0++[e])++v++(d++t))):=by
   apply List.Sublist.map
   rw [show u++r0++e::(d++t)=(u++(r0++[e]))++(d++t) by simp,show u++(r0++[e])++v++(d++t)=(u++(r0++[e]))++(v++(d++t)) by simp]
   exact List.Sublist.append_left (List.sublist_append_right _ _) _
  exact this.nodup bB
 refine ⟨?_,?_,?_,?_,?_,fun _=>qe,?_,?_,?_⟩
 ·have:=Cx.aside (y:=aC t) hl hj h.oth (Ju h (by simp [aL]))
  simpa using this
 ·have:=Cx.Jt hl hj (u++r0) x dZ jm
  simpa using this
 ·intro a ha
  rcases List.mem_append.1 ha with q | q
  ·exact h.sv a q
  ·exact jC a q
 ·intro a ha
  rw [Bool.not_not]
  exact h.su a ha
 ·intro a t' q
  rw [Bool.not_not]
  exact ht a t' q
 ·have hp:(aL (v++d++(u++(r0++[e]))++t)).Perm (aL (u++(r0++[e])++v++(d++t))):=by
   apply List.Perm.map
   rw [show u++(r0++[e])++v++(d++t)=(u++(r0++[e])++(v++d))++t by simp]
   exact List.Perm.append_right t List.perm_append_comm
  exact hp.nodup_iff.2 bB
 ·have kM:=h.fv
  rw [kM,List.filter_append,filter_all jC,List.append_assoc]
 ·have kV:=h.fs
  rw [Bool.not_not,kV,List.filter_append,filter_none jC,List.nil_append]
theorem Zip.oJ (h:Zip ss σ aU s x y u r v []):Cx ss x (aU.filter fun e=>σ e.2.1==s)/\Cx ss y (aU.filter fun e=>σ e.2.1== !s):=by
 have h1:=h.own
 have h2:=h.oth
 have h3:=h.fs
 have h4:=h.fv
 simp only [List.filter_nil,List.append_nil] at h1 h2 h3 h4
 rw [h3,h4]
 exact ⟨h1,h2⟩
end
/-! ### readers-/
def Std (σ:ByteArray->Bool) (s:Bool) (u r v rest:List Mq.Hp) (old:Prop) (key:ByteArray) (q:List Mq.Hp):Prop:=
 (σ key=s/\q<:+u++r++rest)\/(σ key= !s/\q<:+v++rest)\/(old/\σ key= !s/\q<:+r++rest)
section
variable {ss:List Sl} {σ:ByteArray->Bool} {aU:List Mq.Hp} {s:Bool} {x y:Nat} {u r v rest q:List Mq.Hp} {old:Prop} {key:ByteArray}
theorem Std.next {e:Mq.Hp} (h:Std σ s u r v rest old key (e::q)):Std σ s u r v rest old key q:=by
 have hq:q<:+e::q:=List.suffix_cons _ _
 rcases h with ⟨a,b⟩ | ⟨a,b⟩ | ⟨o,a,b⟩
 ·exact .inl ⟨a,hq.trans b⟩
 ·exact .inr (.inl ⟨a,hq.trans b⟩)
 ·exact .inr (.inr ⟨o,a,hq.trans b⟩)
theorem Std.mono {old':Prop} (h:Std σ s u r v rest old key q) (ho:old->old'):Std σ s u r v rest old' key q:=by
 rcases h with h | h | ⟨o,h⟩
 ·exact .inl h
 ·exact .inr (.inl h)
 ·exact .inr (.inr ⟨ho o,h⟩)
theorem Cq {a d t:List Mq.Hp} {key:ByteArray} (hk:∀ e∈d,e.2.1≠key):lk (bp (a++(d++t))) key=lk (bp (a++t)) key:=by
 induction a with
 | cons e a ih=>
   simp only [List.cons_append,bp,List.map_cons,lk]
   simp only [bp] at ih
   rw [ih]
 | nil=>
   simp only [List.nil_append]
   induction d with
   | nil=>rfl
   | cons e d ih=>
     simp only [List.cons_append,bp,List.map_cons,lk]
     rw [if_neg (hk e (by simp))]
     exact ih fun e he=>hk e (List.mem_cons_of_mem _ he)
theorem Jv {a b q:List Mq.Hp} (h:q<:+a++b):q<:+b\/∃ a',a'≠[]/\a'<:+a/\q=a'++b:=by
 obtain ⟨p,hp⟩:=h
 rcases List.append_eq_append_iff.1 hp with ⟨c,h1,h2⟩ | ⟨c,h1,h2⟩
 ·by_cases hc:c=[]
  ·subst hc
   exact .inl ⟨[],by simpa using h2⟩
  ·exact .inr ⟨c,hc,⟨p,h1.symm⟩,h2⟩
 ·exact .inl ⟨c,h2.symm⟩
theorem Hn {a:List Mq.Hp} {c:List Mq.Hp} {e:Mq.Hp} (h:c<:+a++[e]) (hc:c≠[]):∃ c0,c=c0++[e]:=by
 obtain ⟨p,hp⟩:=h
 have h1:c=c.dropLast++[c.getLast hc]:=(List.dropLast_concat_getLast hc).symm
 rw [h1,<-List.append_assoc] at hp
 have:=List.append_inj' hp rfl
 have h2:c.getLast hc=e:=by simpa using this.2
 exact ⟨c.dropLast,by rw [<-h2]; exact h1⟩
theorem Std.link (h:Zip ss σ aU s x y u r v rest) (hl:ss.length<=1024) {r0 d t:List Mq.Hp} {e:Mq.Hp} (hr:r=r0++[e]) (hd:rest=d++t) (jC:∀ a∈d,σ a.2.1= !s) {p:Nat} (hq:Cx ss p q) (bt:Std σ s u r v rest False key q):
 ∃ q',Cx (aR ss e.1 (aC t)) p q'/\lk (bp q') key=lk (bp q) key/\q'.length<=q.length/\Std σ (!s) v d (u++r) t True key q':=by
 subst hr hd
 have dZ:=h.own
 obtain ⟨j,_,hj,_⟩:=dZ.at e (by simp)
 have nr:∀ {q:List Mq.Hp},q<:+v++(d++t)->e.1∉aL q:=fun hs hm=>Ju h (a:=e.1) (by simp [aL]) ((hs.map (·.1)).subset hm)
 rcases bt with ⟨hk,hs⟩ | ⟨hk,hs⟩ | ⟨hf,_⟩
 ·have D9:∀ a∈d,a.2.1≠key:=fun a ha q=>by
   have:=jC a ha
   rw [q,hk] at this
   revert this
   cases s<;>simp
  rcases Jv hs with oV | ⟨c,hc,bg,rfl⟩
  ·
   refine ⟨q,Cx.aside hl hj hq (nr (oV.trans (List.suffix_append _ _))),rfl,Nat.le_refl _,?_⟩
   rcases Jv oV with fM | ⟨c,hc,bg,rfl⟩
   ·exact .inr (.inl ⟨by rw [Bool.not_not]; exact hk,fM.trans (List.suffix_append _ _)⟩)
   ·exact .inr (.inr ⟨trivial,by rw [Bool.not_not]; exact hk,by
     obtain ⟨a,ha⟩:=bg
     exact ⟨a,by rw [<-List.append_assoc,ha]⟩⟩)
  ·
   rw [<-List.append_assoc] at bg
   obtain ⟨c0,rfl⟩:=Hn bg hc
   have jm:(aL (c0++e::(d++t))).Nodup:=by
    have h1:(c0++[e]++(d++t)).Sublist (u++(r0++[e])++v++(d++t)):=by
     rw [show u++(r0++[e])++v++(d++t)=(u++r0++[e])++(v++(d++t)) by simp]
     exact List.Sublist.append bg.sublist (List.sublist_append_right _ _)
    rw [show c0++e::(d++t)=c0++[e]++(d++t) by simp]
    exact (h1.map _).nodup h.nd
   rw [show c0++[e]++(d++t)=c0++e::(d++t) by simp] at hq
   refine ⟨c0++e::t,Cx.Jt hl hj c0 p hq jm,?_,by simp,?_⟩
   ·rw [show c0++e::t=(c0++[e])++t by simp,Cq D9]
   ·refine .inr (.inl ⟨by rw [Bool.not_not]; exact hk,?_⟩)
    obtain ⟨a,ha⟩:=bg
    exact ⟨a,by rw [show u++(r0++[e])++t=(u++r0++[e])++t by simp,<-ha]; simp⟩
 ·refine ⟨q,Cx.aside hl hj hq (nr hs),rfl,Nat.le_refl _,.inl ⟨hk,?_⟩⟩
  rw [List.append_assoc]
  exact hs
 ·exact absurd hf id
end
end Go.Proofs.YtpanebgakndddaaGreat.Zp
namespace Go.Proofs.YtpanebgakndddaaGreat.Zp
open Go Hm Ar Mm Wk Pc Me Mq Pn Gt Qs
structure Wy where
 Pos:(Nat->Prop)->ByteArray->List Mq.Hp->Prop
 jO:(Nat->Prop)->ByteArray->Nat->Prop
 few:Nat
 cap:Nat
 bq:Bool
structure Wy.Ok (Y:Wy) (L:Lm) (l:List Pr):Prop where
 k:1<=L.k/\L.k<=8
 wl:∀ w:Nat,(w:Int)<L.k->2+w<L.xs.length
 xb:∀ x∈L.xs,0<=x/\x<=18446744073709551615
 cU:fo L.ss
 len:L.ss.length<=1024
 F:L.F=false
 p1:1<=Cl.nth L.xs 0
 tb:∀ i,(aN L.ds i).1<=65536/\(aN L.ds i).2<=4000000
 few:Y.few<=900/\Y.few<=Y.cap/\Y.cap<=1000000
 next:∀ {o:Nat->Prop} {key:ByteArray} {e:Mq.Hp} {q:List Mq.Hp},Y.Pos o key (e::q)->Y.Pos o key q
 mono:∀ {o o':Nat->Prop} {key:ByteArray} {q:List Mq.Hp},(∀ e,o e->o' e)->Y.Pos o key q->Y.Pos o' key q
 wB:∀ {o o':Nat->Prop} {key:ByteArray} {c:Nat},(∀ e,o e->o' e)->Y.jO o key c->Y.jO o' key c
 Xb:∀ {o:Nat->Prop} {key:ByteArray} {c:Nat},Y.jO o key c->c<=5000000/\∃ q,Cx L.ss (word L.xs c) q/\Y.Pos o key q/\Pc.lk (bp q) key=Pc.lk l key/\q.length<=Y.few
 now:∀ (o:Nat->Prop) (key:ByteArray),(Y.bq=false->∀ e,o e)->∃ c:Nat,Gt.cellOf (sm key) (Me.now L.xs L.ds)=(c:Int)/\Y.jO o key c
section
variable {Y Y':Wy} {L L':Lm} {l:List Pr} {old old':Int->Nat->Prop} {w k:Nat} {key:ByteArray} {G:Gt.Ge}
inductive pI (Y:Wy) (L:Lm) (l:List Pr) (old:Int->Nat->Prop) (key:ByteArray) (G:Gt.Ge):Nat->Prop
 | mL:G.nx=1->G.C.at_=0->pI Y L l old key G (Y.few+5)
 | put:G.nx=1->G.C.at_=1->pI Y L l old key G (Y.few+4)
 | load:G.nx=2->pI Y L l old key G (Y.few+3)
 | first (c:Nat):G.nx=3->G.W=new 0 (c:Int) (sm key) key->c<=5000000->Y.jO (old G.C.period) key c->pI Y L l old key G (Y.few+2)
 | look (q:List Mq.Hp):G.nx=3->G.W.nx=2->G.W.key=key->G.W.sum=sm key->G.W.found=0->G.W.nd.val=⟨#[]⟩->q≠[]->Cx L.ss G.W.at_ q->Y.Pos (old G.C.period) key q->
    Pc.lk (bp q) key=Pc.lk l key->G.W.read+q.length<=Y.cap->G.W.at_<=18446744073709551615-> -9223372036854775808<=G.W.cell/\G.W.cell<=9223372036854775807->pI Y L l old key G (q.length+1)
 | leave:G.nx=4->Gt.Fits (Pc.lk l key) G.W->pI Y L l old key G 1
structure fH (Y:Wy) (L:Lm) (l:List Pr) (old:Int->Nat->Prop) (w:Nat) (key:ByteArray) (G:Gt.Ge) (k:Nat):Prop where
 ky:G.key=key
 sum:G.sum=sm key
 wk:G.C.worker=w
 iZ:G.iZ=0
 pd:0<=G.C.period/\G.C.period<=18446744073709551615
 iF:Cl.nth L.xs (2+w)=if 2<=G.nx then G.C.period else 0
 pr:(G.nx=1/\G.C.at_=0)\/(1<=G.C.period/\G.C.period<=Cl.nth L.xs 0)
 ph:pI Y L l old key G k
theorem fH.to (h:fH Y L l old w key G k) (hc:Cl.nth L'.xs (2+w)=Cl.nth L.xs (2+w)) (h0:Cl.nth L.xs 0<=Cl.nth L'.xs 0) (hs:L'.ss=L.ss) (hf:Y'.few=Y.few) (AF:Y.cap<=Y'.cap)
 (hC:∀ c,2<=G.nx->Y.jO (old G.C.period) key c->Y'.jO (old' G.C.period) key c) (hP:∀ q,2<=G.nx->Y.Pos (old G.C.period) key q->Y'.Pos (old' G.C.period) key q):fH Y' L' l old' w key G k:=by
 refine ⟨h.ky,h.sum,h.wk,h.iZ,h.pd,by rw [hc]; exact h.iF,h.pr.imp id (fun q=>⟨q.1,Int.le_trans q.2 h0⟩),?_⟩
 cases h.ph with
 | mL a b=>rw [<-hf]; exact .mL a b
 | put a b=>rw [<-hf]; exact .put a b
 | load a=>rw [<-hf]; exact .load a
 | first c a b gX q=>rw [<-hf]; exact .first c a b gX (hC c (by omega) q)
 | look q a1 a2 a3 a4 a5 a6 a7 a8 a9 a10 a11 a12 a13=>exact .look q a1 a2 a3 a4 a5 a6 a7 (by rw [hs]; exact a8) (hP q (by omega) a9) a10 (by omega) a12 a13
 | leave a b=>exact .leave a b
theorem fH.jt (h:fH Y L l old w key G k) (hc:Cl.nth L'.xs (2+w)=Cl.nth L.xs (2+w)) (h0:Cl.nth L.xs 0<=Cl.nth L'.xs 0) (hs:L'.ss=L.ss):fH Y L' l old w key G k:=
 h.to hc h0 hs rfl (Nat.le_refl _) (fun _ _ q=>q) (fun _ _ q=>q)
theorem fH.mono (hY:Y.Ok L l) (h:fH Y L l old w key G k) (ho:2<=G.nx->∀ e,old G.C.period e->old' G.C.period e):fH Y L l old' w key G k:=
 h.to rfl (Int.le_refl _) rfl rfl (Nat.le_refl _) (fun _ hx=>hY.wB (ho hx)) (fun _ hx=>hY.mono (ho hx))
end
end Go.Proofs.YtpanebgakndddaaGreat.Zp
namespace Go.Proofs.YtpanebgakndddaaGreat.Zp
open Go Hm Ar Mm Wk Pc Me Mq Pn Gt Qs
def gw (W:Wt) (w:Nat) (p:Int) (_:Nat):Prop:=W.at_<=1\/(W.at_=2/\W.bm<=w/\p<W.period)
theorem Ce {W:Wt} (h:3<=W.at_) (w:Nat) (p:Int) (e:Nat):¬gw W w p e:=by
 rintro (q | q)<;>omega
section
variable {Y:Wy} {L:Lm} {l:List Pr} {w k n:Nat} {key:ByteArray} {G:Gt.Ge} {W:Wt}
theorem yI {x:Int} (h0:0<=x) (h1:x<=4611686018427387904):Cl.fp x 1=x+1:=by
 unfold Cl.fp
 omega
theorem fH.waits (hY:Y.Ok L l) (hb:Cl.nth L.xs 0<=4611686018427387904) (hr:fQ L.xs L.hs W=true) (nY:W.at_<=1->W.bm=0) (h3:W.at_<=3) (hw:w<n) (hn:(n:Int)<=L.k) (h:fH Y L l (gw W w) w key G k):
 fH Y {L with xs:=(aI n L.xs L.hs W).1,hs:=(aI n L.xs L.hs W).2.1} l (gw (aI n L.xs L.hs W).2.2 w) w key G k:=by
 have hk:=hY.k
 have bz:=hY.wl 0 (by omega)
 have h0:=Cl.eX hY.xb 0
 have hs:=yI h0.1 hb
 unfold aI
 split
 ·have ho:2<=G.nx->∀ e,gw W w G.C.period e->gw {W with at_:=1} w G.C.period e:=fun _ _ _=>.inl (by simp)
  exact h.to (L':={L with hs:=L.hs.set 0 W.worker}) rfl (Int.le_refl _) rfl rfl (Nat.le_refl _) (fun _ hx=>hY.wB (ho hx)) (fun _ hx=>hY.mono (ho hx))
 split
 ·rename_i h1
  have hn:∀ i,i≠0->Cl.nth (L.xs.set 0 (Cl.fp (Cl.nth L.xs 0) 1)) i=Cl.nth L.xs i:=fun i hi=>by
   rw [fJ _ _ _ (by omega),if_neg hi]
  have ho:2<=G.nx->∀ e,gw W w G.C.period e->gw {W with period:=Cl.fp (Cl.nth L.xs 0) 1,at_:=2} w G.C.period e:=fun hx _ _=>by
   refine .inr ⟨rfl,?_,?_⟩
   ·show W.bm<=w
    rw [nY (by omega)]
    exact Nat.zero_le _
   ·show G.C.period<Cl.fp (Cl.nth L.xs 0) 1
    rw [hs]
    have:=h.pr.resolve_left (fun q=>by omega)
    omega
  refine h.to (L':={L with xs:=L.xs.set 0 (Cl.fp (Cl.nth L.xs 0) 1)}) (hn _ (by omega)) ?_ rfl rfl (Nat.le_refl _) (fun _ hx=>hY.wB (ho hx)) (fun _ hx=>hY.mono (ho hx))
  show _<=Cl.nth (L.xs.set 0 (Cl.fp (Cl.nth L.xs 0) 1)) 0
  rw [fJ _ _ _ (by omega),if_pos rfl,hs]
  omega
 split
 ·rename_i h2
  refine h.mono hY fun hx _ ho=>?_
  have hc:=h.iF
  rw [if_pos hx] at hc
  have hp:=h.pr.resolve_left (fun q=>by omega)
  rcases ho with q | ⟨_,q1,q2⟩
  ·omega
  unfold fQ oK at hr
  rw [if_neg (by omega),if_pos h2] at hr
  have hr:=of_decide_eq_true hr
  have aH:W.bm≠w:=by
   intro e
   rw [e,hc] at hr
   omega
  refine .inr ⟨?_,?_,q2⟩
  ·show (if n<=W.bm+1 then 3 else 2)=2
   rw [if_neg (by omega)]
  ·show W.bm+1<=w
   omega
 ·have ho:2<=G.nx->∀ e,gw W w G.C.period e->gw {W with at_:=4} w G.C.period e:=fun _ _ ho=>by
   rcases ho with q | q<;>omega
  exact h.to (L':={L with hs:=L.hs.set 0 (-1)}) rfl (Int.le_refl _) rfl rfl (Nat.le_refl _) (fun _ hx=>hY.wB (ho hx)) (fun _ hx=>hY.mono (ho hx))
end
structure Rn where
 w:Nat
 keys:List ByteArray
 g:Option Gt.Ge
 n:Nat
def Rn.key (R:Rn):ByteArray:=R.keys.getD (R.n % R.keys.length) ⟨#[]⟩
def bW (Y:Wy) (L:Lm) (l:List Pr) (old:Nat->Int->Nat->Prop) (R:Rn) (k:Nat):Prop:=
 match R.g with
 | none=>Cl.nth L.xs (2+R.w)=0/\k=0
 | some G=>fH Y L l (old R.w) R.w R.key G k
section
variable {Y Y':Wy} {L L':Lm} {l:List Pr} {old old':Nat->Int->Nat->Prop} {R O:Rn} {k k':Nat}
theorem bW.jt (h:bW Y L l old R k) (hc:Cl.nth L'.xs (2+R.w)=Cl.nth L.xs (2+R.w)) (h0:Cl.nth L.xs 0<=Cl.nth L'.xs 0) (hs:L'.ss=L.ss):bW Y L' l old R k:=by
 unfold bW at h ⊢
 split
 ·rename_i q
  rw [q] at h
  exact ⟨hc.trans h.1,h.2⟩
 ·rename_i G q
  rw [q] at h
  exact h.jt hc h0 hs
theorem bW.to {L':Lm} (h:bW Y L l old R k) (hc:Cl.nth L'.xs (2+R.w)=Cl.nth L.xs (2+R.w)) (h0:Cl.nth L.xs 0<=Cl.nth L'.xs 0) (hs:L'.ss=L.ss) (hf:Y'.few=Y.few) (AF:Y.cap<=Y'.cap)
 (hC:∀ key c p,Y.jO (old R.w p) key c->Y'.jO (old' R.w p) key c) (hP:∀ key q p,Y.Pos (old R.w p) key q->Y'.Pos (old' R.w p) key q):bW Y' L' l old' R k:=by
 unfold bW at h ⊢
 split
 ·rename_i q
  rw [q] at h
  exact ⟨hc.trans h.1,h.2⟩
 ·rename_i G q
  rw [q] at h
  exact h.to hc h0 hs hf AF (fun _ _=>hC _ _ _) (fun _ _=>hP _ _ _)
theorem bW.waits {n:Nat} {W:Wt} (hY:Y.Ok L l) (hb:Cl.nth L.xs 0<=4611686018427387904) (hr:fQ L.xs L.hs W=true) (nY:W.at_<=1->W.bm=0) (h3:W.at_<=3) (hw:R.w<n) (hn:(n:Int)<=L.k) (h:bW Y L l (gw W) R k):
 bW Y {L with xs:=(aI n L.xs L.hs W).1,hs:=(aI n L.xs L.hs W).2.1} l (gw (aI n L.xs L.hs W).2.2) R k:=by
 unfold bW at h ⊢
 split
 ·rename_i q
  rw [q] at h
  refine ⟨?_,h.2⟩
  show Cl.nth (aI n L.xs L.hs W).1 _=_
  unfold aI
  split
  ·exact h.1
  split
  ·have bz:=hY.wl R.w (by omega)
   show Cl.nth (L.xs.set 0 _) _=_
   rw [fJ _ _ _ (by omega),if_neg (by omega)]
   exact h.1
  split<;>exact h.1
 ·rename_i G q
  rw [q] at h
  exact fH.waits hY hb hr nY h3 hw hn h
end
end Go.Proofs.YtpanebgakndddaaGreat.Zp
namespace Go.Proofs.YtpanebgakndddaaGreat.Zp
open Go Hm Ar Mm Wk Pc Me Mq Pu Pn Gt
def sd (n:Nat) (key:ByteArray):Bool:=decide (n<=aj key (2*n))
theorem Jw {n:Nat} (hp:FM.bo n=true) (key:ByteArray):aj key n=(sm key).toNat % n:=by
 have h:=oD key
 have hn:=FM.eW hp
 unfold aj FM.bucket
 rw [if_pos hp]
 obtain ⟨a,ha⟩:=Int.eq_ofNat_of_zero_le h.1
 rw [ha]
 simp only [Int.toNat_natCast]
 rw [<-Int.natCast_emod,Int.toNat_natCast]
theorem rN {n:Nat} (hp:FM.bo n=true) (gU:FM.bo ((2*n:Nat):Int)=true) (key:ByteArray):aj key (2*n) % n=aj key n/\aj key (2*n)<2*n/\aj key (2*n)=aj key n+(if sd n key=true then n else 0):=by
 have h1:=Jw hp key
 have h2:=Jw gU key
 have hn:=FM.eW hp
 have h3:aj key (2*n) % n=aj key n:=by
  rw [h1,h2,Nat.mod_mul_left_mod]
 have h4:aj key (2*n)<2*n:=by rw [h2]; exact Nat.mod_lt _ (by omega)
 refine ⟨h3,h4,?_⟩
 have h5:aj key n<n:=by rw [h1]; exact Nat.mod_lt _ (by omega)
 unfold sd
 by_cases q:n<=aj key (2*n)
 ·rw [if_pos (by simp [q])]
  have:aj key (2*n) % n=aj key (2*n)-n:=by
   rw [Nat.mod_eq_sub_mod q,Nat.mod_eq_of_lt (by omega)]
  omega
 ·rw [if_neg (by simp [q])]
  rw [Nat.mod_eq_of_lt (by omega)] at h3
  omega
structure Zs where
 n:Nat
 B:Nat
 B2:Nat
 few:Nat
 cap:Nat
 bq:Bool
 aU:Nat->List Mq.Hp
 s:Nat->Bool
 X:Nat->Nat
 Y:Nat->Nat
 u:Nat->List Mq.Hp
 r:Nat->List Mq.Hp
 v:Nat->List Mq.Hp
 rest:Nat->List Mq.Hp
def Zs.head (Z:Zs) (b:Nat):Nat:=if decide (Z.n<=b)=Z.s (b % Z.n) then Z.X (b % Z.n) else Z.Y (b % Z.n)
def Zs.fresh (Z:Zs) (e:Nat):Prop:=Z.u e=[]/\Z.v e=[]/\Z.aU e=Z.r e++Z.rest e
structure Zs.Ok (Z:Zs) (L:Lm) (l:List Pr):Prop where
 pw:FM.bo Z.n=true
 jR:FM.bo ((2*Z.n:Nat):Int)=true
 now:Me.now L.xs L.ds=if Z.bq=true then (2*Z.n,Z.B2) else (Z.n,Z.B)
 tb:∀ i,(aN L.ds i).1<=65536/\(aN L.ds i).2<=4000000
 k:1<=L.k/\L.k<=8
 kB:2+L.k<=Z.B
 xl:Z.B+Z.n<=L.xs.length/\Z.B+Z.n<=Z.B2/\(Z.bq=true->Z.B2+2*Z.n<=L.xs.length)
 bb:Z.B2<=4000000
 xb:∀ x∈L.xs,0<=x/\x<=18446744073709551615
 cU:fo L.ss
 len:L.ss.length<=1024
 elder:∀ e,e<Z.n->Cl.nth L.xs (Z.B+e)=((aC (Z.aU e):Nat):Int)
 newer:Z.bq=true->∀ b,b<2*Z.n->Cl.nth L.xs (Z.B2+b)=((Z.head b:Nat):Int)
 zip:∀ e,e<Z.n->Zip L.ss (sd Z.n) (Z.aU e) (Z.s e) (Z.X e) (Z.Y e) (Z.u e) (Z.r e) (Z.v e) (Z.rest e)
 lk:∀ key,Pc.lk l key=Pc.lk (bp (Z.aU (aj key Z.n))) key
 F:L.F=false
 p1:1<=Cl.nth L.xs 0
 few:(∀ e,e<Z.n->(Z.aU e).length<=Z.few)/\Z.few<=900/\Z.few<=Z.cap/\Z.cap<=1000000
 fr:Z.bq=false->∀ e,e<Z.n->Z.fresh e
 dj:∀ e e',e<Z.n->e'<Z.n->e≠e'->∀ a∈aL (Z.aU e),a∉aL (Z.aU e')
theorem Zip.length {ss:List Sl} {σ:ByteArray->Bool} {aU:List Mq.Hp} {s:Bool} {x y:Nat} {u r v rest:List Mq.Hp} (h:Zip ss σ aU s x y u r v rest):u.length+r.length+v.length+rest.length=aU.length:=by
 have hf:∀ (q:List Mq.Hp),(q.filter fun e=>σ e.2.1==s).length+(q.filter fun e=>σ e.2.1== !s).length=q.length:=by
  intro q
  induction q with
  | nil=>rfl
  | cons e t ih=>
    rw [List.filter_cons,List.filter_cons]
    cases σ e.2.1<;>cases s<;>simp at ih ⊢<;>omega
 have h1:=hf aU
 have h2:=hf rest
 rw [h.fs,h.fv] at h1
 simp only [List.length_append] at h1
 omega
section
variable {Z:Zs} {L:Lm} {l:List Pr} {w:Nat}
theorem Zs.Ok.cz (hZ:Z.Ok L l) (key:ByteArray):∃ q,Cx L.ss (Z.head (aj key (2*Z.n))) q/\Std (sd Z.n) (Z.s (aj key Z.n)) (Z.u (aj key Z.n)) (Z.r (aj key Z.n)) (Z.v (aj key Z.n)) (Z.rest (aj key Z.n)) False key q/\Pc.lk (bp q) key=Pc.lk l key/\q.length<=(Z.aU (aj key Z.n)).length:=by
 obtain ⟨h1,h2,h3⟩:=rN hZ.pw hZ.jR key
 have he:aj key Z.n<Z.n:=(dI hZ.pw key).1
 have hz:=hZ.zip _ he
 have Ex:decide (Z.n<=aj key (2*Z.n))=sd Z.n key:=rfl
 have cw:∀ (q:List Mq.Hp) (b:Bool),b=sd Z.n key->Pc.lk (bp (q.filter fun e=>sd Z.n e.2.1==b)) key=Pc.lk (bp q) key:=by
  intro q b hb
  induction q with
  | nil=>rfl
  | cons e t ih=>
    rw [List.filter_cons]
    by_cases hk:e.2.1=key
    ·rw [if_pos (by rw [hk,hb]; simp)]
     simp only [bp,List.map_cons,Pc.lk,if_pos hk]
    ·split
     ·simp only [bp,List.map_cons,Pc.lk,if_neg hk] at ih ⊢
      exact ih
     ·simp only [bp,List.map_cons,Pc.lk,if_neg hk] at ih ⊢
      exact ih
 have fZ:=hZ.lk key
 unfold Zs.head
 rw [h1,Ex]
 by_cases hs:sd Z.n key=Z.s (aj key Z.n)
 ·rw [if_pos hs]
  refine ⟨_,hz.own,.inl ⟨hs,List.suffix_refl _⟩,?_,by have:=Zip.length hz; simp only [List.length_append]; omega⟩
  rw [fZ,<-cw (Z.aU (aj key Z.n)) (Z.s (aj key Z.n)) hs.symm,hz.fs,<-cw (Z.u (aj key Z.n)++Z.r (aj key Z.n)++Z.rest (aj key Z.n)) (Z.s (aj key Z.n)) hs.symm,List.filter_append,filter_all hz.su]
 ·rw [if_neg hs]
  have hs':sd Z.n key= !(Z.s (aj key Z.n)):=by
   revert hs
   cases sd Z.n key<;>cases Z.s (aj key Z.n)<;>simp
  refine ⟨_,hz.oth,.inr (.inl ⟨hs',List.suffix_refl _⟩),?_,by have:=Zip.length hz; simp only [List.length_append]; omega⟩
  rw [fZ,<-cw (Z.aU (aj key Z.n)) (!(Z.s (aj key Z.n))) hs'.symm,hz.fv,<-cw (Z.v (aj key Z.n)++Z.rest (aj key Z.n)) (!(Z.s (aj key Z.n))) hs'.symm,List.filter_append,filter_all hz.sv]
theorem Zs.Ok.U4 (hZ:Z.Ok L l) (key:ByteArray) (hf:Z.fresh (aj key Z.n)) {o:Prop} (ho:o):Cx L.ss (aC (Z.aU (aj key Z.n))) (Z.aU (aj key Z.n))/\Std (sd Z.n) (Z.s (aj key Z.n)) (Z.u (aj key Z.n)) (Z.r (aj key Z.n)) (Z.v (aj key Z.n)) (Z.rest (aj key Z.n)) o key (Z.aU (aj key Z.n)):=by
 have he:aj key Z.n<Z.n:=(dI hZ.pw key).1
 have hz:=hZ.zip _ he
 obtain ⟨f1,f2,f3⟩:=hf
 have hc:Cx L.ss (Z.X (aj key Z.n)) (Z.aU (aj key Z.n)):=by
  have:=hz.own
  rw [f1,List.nil_append,<-f3] at this
  exact this
 refine ⟨by rw [<-Cx.hd hc]; exact hc,?_⟩
 by_cases hs:sd Z.n key=Z.s (aj key Z.n)
 ·exact .inl ⟨hs,by rw [f1,List.nil_append,<-f3]; exact List.suffix_refl _⟩
 ·refine .inr (.inr ⟨ho,?_,by rw [<-f3]; exact List.suffix_refl _⟩)
  revert hs
  cases sd Z.n key<;>cases Z.s (aj key Z.n)<;>simp
def Zs.wy (Z:Zs):Wy:=⟨fun o key q=>Std (sd Z.n) (Z.s (aj key Z.n)) (Z.u (aj key Z.n)) (Z.r (aj key Z.n)) (Z.v (aj key Z.n)) (Z.rest (aj key Z.n)) (o (aj key Z.n)) key q,
 fun o key c=>(c=Z.B2+aj key (2*Z.n)/\Z.bq=true)\/(c=Z.B+aj key Z.n/\o (aj key Z.n)/\Z.fresh (aj key Z.n)),Z.few,Z.cap,Z.bq⟩
theorem Zs.Ok.wl (hZ:Z.Ok L l) (w:Nat) (hw:(w:Int)<L.k):2+w<L.xs.length:=by
 have eo:=hZ.kB
 have bz:=hZ.xl.1
 have hn:=FM.eW hZ.pw
 omega
theorem Zs.Ok.ways (hZ:Z.Ok L l):Z.wy.Ok L l:=by
 have iy:=hZ.bb
 have bz:=hZ.xl
 have jm:=FM.eW hZ.pw
 refine ⟨hZ.k,hZ.wl,hZ.xb,hZ.cU,hZ.len,hZ.F,hZ.p1,hZ.tb,hZ.few.2,fun h=>Std.next h,fun ho h=>Std.mono h (ho _),fun ho h=>h.imp id (fun q=>⟨q.1,ho _ q.2.1,q.2.2⟩),fun {o key c} hc=>?_,fun o key ho=>?_⟩
 ·obtain ⟨t1,t2,t3⟩:=rN hZ.pw hZ.jR key
  have he:aj key Z.n<Z.n:=(dI hZ.pw key).1
  rcases hc with ⟨rfl,hp⟩ | ⟨rfl,ho,hf⟩
  ·obtain ⟨q,q1,q2,q3,q4⟩:=hZ.cz key
   have aP:word L.xs ((Z.B2+aj key (2*Z.n):Nat):Int)=Z.head (aj key (2*Z.n)):=by
    unfold word
    rw [if_pos (by have:=bz.2.2 hp; omega),Int.toNat_natCast,hZ.newer hp _ t2,Int.toNat_natCast]
   rw [aP]
   exact ⟨by omega,q,q1,q2.mono (fun f=>absurd f id),q3,Nat.le_trans q4 (hZ.few.1 _ he)⟩
  ·obtain ⟨q1,q2⟩:=hZ.U4 key hf ho
   have aP:word L.xs ((Z.B+aj key Z.n:Nat):Int)=aC (Z.aU (aj key Z.n)):=by
    unfold word
    rw [if_pos (by omega),Int.toNat_natCast,hZ.elder _ he,Int.toNat_natCast]
   rw [aP]
   exact ⟨by omega,_,q1,q2,(hZ.lk key).symm,hZ.few.1 _ he⟩
 ·have he:aj key Z.n<Z.n:=(dI hZ.pw key).1
  have bU:=hZ.now
  cases hp:Z.bq with
  | true=>
    rw [hp,if_pos rfl] at bU
    refine ⟨Z.B2+aj key (2*Z.n),?_,.inl ⟨rfl,hp⟩⟩
    rw [bU]
    unfold Gt.cellOf
    simp only
    rw [if_neg (by omega),(dI hZ.jR key).2]
    simp
  | false=>
    rw [hp,if_neg (by simp)] at bU
    refine ⟨Z.B+aj key Z.n,?_,.inr ⟨rfl,ho hp _,hZ.fr hp _ he⟩⟩
    rw [bU]
    unfold Gt.cellOf
    simp only
    rw [if_neg (by omega),(dI hZ.pw key).2]
    simp
end
end Go.Proofs.YtpanebgakndddaaGreat.Zp
namespace Go.Proofs.YtpanebgakndddaaGreat.Zp
open Go Hm Ar Mm Wk Pc Me Mq Pu Pn Gt Qs
theorem Zip.sub {ss:List Sl} {σ:ByteArray->Bool} {aU:List Mq.Hp} {s:Bool} {x y:Nat} {u r v rest:List Mq.Hp} (h:Zip ss σ aU s x y u r v rest):∀ a∈u++r++v++rest,a∈aU:=by
 intro a ha
 have h1:∀ b,a∈aU.filter (fun e=>σ e.2.1==b)->a∈aU:=fun b q=>(List.mem_filter.1 q).1
 have ha:a∈u++r\/a∈v\/a∈rest:=by
  simp only [List.mem_append] at ha ⊢
  rcases ha with ((q | q) | q) | q
  ·exact .inl (.inl q)
  ·exact .inl (.inr q)
  ·exact .inr (.inl q)
  ·exact .inr (.inr q)
 rcases ha with q | q | q
 ·exact h1 s (by rw [h.fs]; exact List.mem_append_left _ q)
 ·exact h1 (!s) (by rw [h.fv]; exact List.mem_append_left _ q)
 ·by_cases hs:σ a.2.1=s
  ·exact h1 s (by rw [h.fs]; exact List.mem_append_right _ (List.mem_filter.2 ⟨q,by simp [hs]⟩))
  ·exact h1 (!s) (by rw [h.fv]; exact List.mem_append_right _ (List.mem_filter.2 ⟨q,by revert hs; cases σ a.2.1<;>cases s<;>simp⟩))
theorem Zip.aside {ss:List Sl} {σ:ByteArray->Bool} {aU:List Mq.Hp} {s:Bool} {x y:Nat} {u r v rest:List Mq.Hp} (h:Zip ss σ aU s x y u r v rest) (hl:ss.length<=1024) {a z j:Nat} (hj:aY ss a j) (ha:a∉aL aU):Zip (aR ss a z) σ aU s x y u r v rest:=by
 have K6:∀ q:List Mq.Hp,(∀ b∈q,b∈u++r++v++rest)->a∉aL q:=fun q hq hm=>by
  obtain ⟨b,hb,rfl⟩:=List.mem_map.1 hm
  exact ha (List.mem_map.2 ⟨b,h.sub b (hq b hb),rfl⟩)
 exact {h with own:=Cx.aside hl hj h.own (K6 _ fun b hb=>by simp only [List.mem_append] at hb ⊢; rcases hb with (q | q) | q<;>simp [q]),oth:=Cx.aside hl hj h.oth (K6 _ fun b hb=>by simp only [List.mem_append] at hb ⊢; rcases hb with q | q<;>simp [q])}
def cJ {α:Type} (f:Nat->α) (e:Nat) (a:α) (i:Nat):α:=if i=e then a else f i
theorem mU {α:Type} (f:Nat->α) (e:Nat) (a:α):cJ f e a e=a:=by simp [cJ]
theorem kX {α:Type} (f:Nat->α) {e i:Nat} (a:α) (h:i≠e):cJ f e a i=f i:=by simp [cJ,h]
def Zs.linked (Z:Zs) (e:Nat) (d t:List Mq.Hp):Zs:=
 {Z with s:=cJ Z.s e (!Z.s e),X:=cJ Z.X e (Z.Y e),Y:=cJ Z.Y e (Z.X e),u:=cJ Z.u e (Z.v e),r:=cJ Z.r e d,v:=cJ Z.v e (Z.u e++Z.r e),rest:=cJ Z.rest e t}
section
variable {Z:Zs} {L:Lm} {l:List Pr} {old old':Int->Nat->Prop} {oldn oldn':Nat->Int->Nat->Prop} {w k e:Nat} {key:ByteArray} {G:Gt.Ge} {r0 d t:List Mq.Hp} {a:Mq.Hp}
theorem Zs.U5 (Z:Zs) (e:Nat) (d t:List Mq.Hp) (b:Nat):(Z.linked e d t).head b=Z.head b:=by
 unfold Zs.head Zs.linked
 simp only
 by_cases h:b % Z.n=e
 ·rw [h,mU,mU,mU]
  cases decide (Z.n<=b)<;>cases Z.s e<;>simp
 ·rw [kX _ _ h,kX _ _ h,kX _ _ h]
theorem Zs.Ok.linked (hZ:Z.Ok L l) (uN:Z.bq=true) (he:e<Z.n) (hr:Z.r e=r0++[a]) (hd:Z.rest e=d++t) (qe:d≠[]) (jC:∀ b∈d,sd Z.n b.2.1= !Z.s e) (ht:∀ b t',t=b::t'->sd Z.n b.2.1=Z.s e) (K7:aC t<=18446744073709551615):
 (Z.linked e d t).Ok {L with ss:=aR L.ss a.1 (aC t)} l:=by
 have hz:=hZ.zip e he
 have xV:=hz.own
 rw [hr] at xV
 obtain ⟨j,_,hj,_⟩:=xV.at a (by simp)
 have ha:a.1∈aL (Z.aU e):=List.mem_map.2 ⟨a,hz.sub a (by rw [hr]; simp),rfl⟩
 have W6:=Zip.link hz hZ.len hr hd qe jC ht
 refine {hZ with cU:=?_,len:=?_,newer:=?_,zip:=?_,fr:=fun q=>by have q:Z.bq=false:=q; rw [uN] at q; simp at q}
 ·show fo (aR L.ss a.1 (aC t))
  unfold aR
  by_cases hk:(a.1-1) % 65536<L.ss.length
  ·exact hZ.cU.set hk _ ⟨by simp only; omega,by simp only; omega⟩
  ·rw [List.set_eq_of_length_le (by omega)]
   exact hZ.cU
 ·show (aR L.ss a.1 (aC t)).length<=_
  rw [Cu]
  exact hZ.len
 ·intro hp b hb
  rw [Zs.U5]
  exact hZ.newer hp b hb
 ·intro i hi
  show Zip (aR L.ss a.1 (aC t)) (sd Z.n) (Z.aU i) (cJ Z.s e (!Z.s e) i) (cJ Z.X e (Z.Y e) i) (cJ Z.Y e (Z.X e) i) (cJ Z.u e (Z.v e) i) (cJ Z.r e d i) (cJ Z.v e (Z.u e++Z.r e) i) (cJ Z.rest e t i)
  by_cases gh:i=e
  ·subst gh
   simp only [mU]
   exact W6
  ·simp only [kX _ _ gh]
   exact Zip.aside (hZ.zip i hi) hZ.len hj (hZ.dj e i he hi (fun q=>gh q.symm) _ ha)
theorem fH.linked (hZ:Z.Ok L l) (he:e<Z.n) (hr:Z.r e=r0++[a]) (hd:Z.rest e=d++t) (jC:∀ b∈d,sd Z.n b.2.1= !Z.s e) (hold:∀ p,¬old p e) (vc:∀ p,old' p e) (AI:∀ p i,i≠e->old p i->old' p i) (h:fH Z.wy L l old w key G k):
 ∃ k',k'<=k/\fH (Z.linked e d t).wy {L with ss:=aR L.ss a.1 (aC t)} l old' w key G k':=by
 have hz:=hZ.zip e he
 have xV:=hz.own
 rw [hr] at xV
 obtain ⟨j,_,hj,_⟩:=xV.at a (by simp)
 have ha:a.1∈aL (Z.aU e):=List.mem_map.2 ⟨a,hz.sub a (by rw [hr]; simp),rfl⟩
 have mk:∀ k',k'<=k->pI (Z.linked e d t).wy {L with ss:=aR L.ss a.1 (aC t)} l old' key G k'->∃ k',k'<=k/\fH (Z.linked e d t).wy {L with ss:=aR L.ss a.1 (aC t)} l old' w key G k':=fun k' lR hp=>⟨k',lR,⟨h.ky,h.sum,h.wk,h.iZ,h.pd,h.iF,h.pr,hp⟩⟩
 cases h.ph with
 | mL a b=>exact mk _ (Nat.le_refl _) (.mL a b)
 | put a b=>exact mk _ (Nat.le_refl _) (.put a b)
 | load a=>exact mk _ (Nat.le_refl _) (.load a)
 | first c a1 b gX hc=>
   rcases hc with hc | ⟨hc,ho,bX⟩
   ·exact mk _ (Nat.le_refl _) (.first c a1 b gX (.inl hc))
   ·by_cases gh:aj key Z.n=e
    ·exact absurd (gh▸ho) (hold _)
    ·refine mk _ (Nat.le_refl _) (.first c a1 b gX (.inr ⟨hc,AI _ _ gh ho,?_⟩))
     obtain ⟨f1,f2,f3⟩:=bX
     refine ⟨?_,?_,?_⟩
     ·show cJ Z.u e (Z.v e) (aj key Z.n)=[]
      rw [kX _ _ gh]; exact f1
     ·show cJ Z.v e (Z.u e++Z.r e) (aj key Z.n)=[]
      rw [kX _ _ gh]; exact f2
     ·show Z.aU (aj key Z.n)=cJ Z.r e d (aj key Z.n)++cJ Z.rest e t (aj key Z.n)
      rw [kX _ _ gh,kX _ _ gh]; exact f3
 | look q a1 a2 a3 a4 a5 a6 a7 a8 a9 a10 a11 a12 a13=>
   have o7:G.W.at_≠0:=fun q=>a7 (a8.pos.1 q)
   by_cases gh:aj key Z.n=e
   ·have a9':Std (sd Z.n) (Z.s e) (Z.u e) (Z.r e) (Z.v e) (Z.rest e) False key q:=by
     have a9:=Std.mono a9 (fun o=>hold _ (gh▸o))
     rw [gh] at a9
     exact a9
    obtain ⟨q',p1,p2,p3,p4⟩:=Std.link hz hZ.len hr hd jC a8 a9'
    refine mk (q'.length+1) (by omega) (.look q' a1 a2 a3 a4 a5 a6 (fun e=>o7 (p1.pos.2 e)) p1 ?_ (p2.trans a10) (Nat.le_trans (Nat.add_le_add_left p3 _) a11) a12 a13)
    show Std (sd Z.n) (cJ Z.s e (!Z.s e) (aj key Z.n)) (cJ Z.u e (Z.v e) (aj key Z.n)) (cJ Z.r e d (aj key Z.n)) (cJ Z.v e (Z.u e++Z.r e) (aj key Z.n)) (cJ Z.rest e t (aj key Z.n)) _ key q'
    rw [gh]
    simp only [mU]
    exact p4.mono fun _=>by
     have:old' G.C.period (aj key Z.n):=by rw [gh]; exact vc _
     exact this
   ·have hb:aj key Z.n<Z.n:=(dI hZ.pw key).1
    have oY:=hZ.zip _ hb
    have D3:a.1∉aL (Z.aU (aj key Z.n)):=hZ.dj e _ he hb (fun q=>gh q.symm) _ ha
    have W7:a.1∉aL q:=fun hm=>by
     obtain ⟨b,o9,eu⟩:=List.mem_map.1 hm
     refine D3 (List.mem_map.2 ⟨b,oY.sub b ?_,eu⟩)
     rcases a9 with ⟨_,s⟩ | ⟨_,s⟩ | ⟨_,_,s⟩
     ·have:=s.subset o9
      simp only [List.mem_append] at this ⊢
      rcases this with (q | q) | q<;>simp [q]
     ·have:=s.subset o9
      simp only [List.mem_append] at this ⊢
      rcases this with q | q<;>simp [q]
     ·have:=s.subset o9
      simp only [List.mem_append] at this ⊢
      rcases this with q | q<;>simp [q]
    refine mk (q.length+1) (Nat.le_refl _) (.look q a1 a2 a3 a4 a5 a6 a7 (Cx.aside hZ.len hj a8 W7) ?_ a10 a11 a12 a13)
    show Std (sd Z.n) (cJ Z.s e (!Z.s e) (aj key Z.n)) (cJ Z.u e (Z.v e) (aj key Z.n)) (cJ Z.r e d (aj key Z.n)) (cJ Z.v e (Z.u e++Z.r e) (aj key Z.n)) (cJ Z.rest e t (aj key Z.n)) _ key q
    simp only [kX _ _ gh]
    exact Std.mono a9 (AI _ _ gh)
 | leave a b=>exact mk _ (Nat.le_refl _) (.leave a b)
theorem Zs.Ok.cells (hZ:Z.Ok L l) {xs' hs':List Int} {ds':List (Nat×Nat)} {ws':List Nat} (h1:∀ i,Z.B<=i->i<Z.B+Z.n->Cl.nth xs' i=Cl.nth L.xs i) (h2:Z.bq=true->∀ b,b<2*Z.n->Cl.nth xs' (Z.B2+b)=Cl.nth L.xs (Z.B2+b)) (hl:L.xs.length<=xs'.length)
 (lh:∀ x∈xs',0<=x/\x<=18446744073709551615) (bU:Me.now xs' ds'=Me.now L.xs L.ds) (m8:∀ i,(aN ds' i).1<=65536/\(aN ds' i).2<=4000000) (nL:1<=Cl.nth xs' 0):Z.Ok {L with xs:=xs',ds:=ds',hs:=hs',ws:=ws'} l:=
 {hZ with now:=by show Me.now xs' ds'=_; rw [bU]; exact hZ.now,tb:=m8,xl:=by have:=hZ.xl; exact ⟨Nat.le_trans this.1 hl,this.2.1,fun p=>Nat.le_trans (this.2.2 p) hl⟩,xb:=lh,elder:=fun i hi=>by show Cl.nth xs' _=_; rw [h1 _ (by omega) (by omega)]; exact hZ.elder i hi,newer:=fun p b hb=>by show Cl.nth xs' _=_; rw [h2 p b hb]; exact hZ.newer p b hb,p1:=nL}
theorem Zs.Ok.vU (hZ:Z.Ok L l) (_hp:Z.bq=false) {xs':List Int} (h1:∀ i,i≠1->Cl.nth xs' i=Cl.nth L.xs i) (hl:xs'.length=L.xs.length) (lh:∀ x∈xs',0<=x/\x<=18446744073709551615) (bU:Me.now xs' L.ds=(2*Z.n,Z.B2)) (h2:Z.B2+2*Z.n<=L.xs.length) (iM:∀ b,b<2*Z.n->Cl.nth L.xs (Z.B2+b)=((Z.head b:Nat):Int)):Zs.Ok {Z with bq:=true} {L with xs:=xs'} l:=by
 have eo:=hZ.kB
 have hk:=hZ.k
 have bz:=hZ.xl
 exact {hZ with now:=bU,xl:=⟨by show _<=xs'.length; rw [hl]; exact bz.1,bz.2.1,fun _=>by show _<=xs'.length; rw [hl]; exact h2⟩,xb:=lh,elder:=fun i hi=>by show Cl.nth xs' (Z.B+i)=_; rw [h1 _ (by omega)]; exact hZ.elder i hi,newer:=fun _ b hb=>by show Cl.nth xs' (Z.B2+b)=_; rw [h1 _ (by omega)]; exact iM b hb,fr:=fun q=>by simp at q,p1:=by show 1<=Cl.nth xs' 0; rw [h1 _ (by omega)]; exact hZ.p1}
theorem bW.vU {R:Rn} (h:bW Z.wy L l oldn R k):bW {Z with bq:=true}.wy L l oldn R k:=
 h.to rfl (Int.le_refl _) rfl rfl (Nat.le_refl _) (fun _ _ _ q=>q.imp (fun q=>⟨q.1,rfl⟩) id) (fun _ _ _ q=>q)
theorem bW.mono {R:Rn} (hY:Z.wy.Ok L l) (h:bW Z.wy L l oldn R k) (ho:∀ p e,oldn R.w p e->oldn' R.w p e):bW Z.wy L l oldn' R k:=
 h.to rfl (Int.le_refl _) rfl rfl (Nat.le_refl _) (fun _ _ _=>hY.wB (ho _)) (fun _ _ _=>hY.mono (ho _))
theorem Zs.Ok.oJ (hZ:Z.Ok L l) (hp:∀ e,e<Z.n->Z.rest e=[]) {b:Nat} (hb:b<2*Z.n):Cx L.ss (Z.head b) ((Z.aU (b % Z.n)).filter fun a=>sd Z.n a.2.1==decide (Z.n<=b)):=by
 have hn:=FM.eW hZ.pw
 have he:b % Z.n<Z.n:=Nat.mod_lt _ (by omega)
 have hz:=hZ.zip _ he
 rw [hp _ he] at hz
 obtain ⟨h1,h2⟩:=hz.oJ
 unfold Zs.head
 by_cases hs:decide (Z.n<=b)=Z.s (b % Z.n)
 ·rw [if_pos hs,hs]
  exact h1
 ·rw [if_neg hs]
  have:decide (Z.n<=b)= !(Z.s (b % Z.n)):=by
   revert hs
   cases decide (Z.n<=b)<;>cases Z.s (b % Z.n)<;>simp
  rw [this]
  exact h2
theorem bW.linked {R:Rn} (hZ:Z.Ok L l) (he:e<Z.n) (hr:Z.r e=r0++[a]) (hd:Z.rest e=d++t) (jC:∀ b∈d,sd Z.n b.2.1= !Z.s e) (hold:∀ p,¬oldn R.w p e) (vc:∀ p,oldn' R.w p e) (AI:∀ p i,i≠e->oldn R.w p i->oldn' R.w p i) (h:bW Z.wy L l oldn R k):
 ∃ k',k'<=k/\bW (Z.linked e d t).wy {L with ss:=aR L.ss a.1 (aC t)} l oldn' R k':=by
 unfold bW at h ⊢
 split
 ·rename_i q
  rw [q] at h
  exact ⟨k,Nat.le_refl _,h⟩
 ·rename_i G q
  rw [q] at h
  exact fH.linked hZ he hr hd jC hold vc AI h
end
end Go.Proofs.YtpanebgakndddaaGreat.Zp
namespace Go.Proofs.YtpanebgakndddaaGreat.Zp
open Go Hm Ar Mm Wk Pc Me Mq Pu Pn Gt Qs
structure Js where
 n:Nat
 B:Nat
 B2:Nat
 few:Nat
 cap:Nat
 bq:Bool
 C:Nat->List Mq.Hp
 jn:Nat->Bool
def Js.two (J:Js) (e:Nat):List Mq.Hp:=J.C e++J.C (e+J.n)
def Js.cz (J:Js) (b:Nat):List Mq.Hp:=if b<J.n/\J.jn b=true/\J.C b≠[] then J.two b else J.C b
structure Js.Ok (J:Js) (L:Lm) (l:List Pr):Prop where
 pw:FM.bo J.n=true
 jR:FM.bo ((2*J.n:Nat):Int)=true
 now:Me.now L.xs L.ds=if J.bq=true then (J.n,J.B2) else (2*J.n,J.B)
 tb:∀ i,(aN L.ds i).1<=65536/\(aN L.ds i).2<=4000000
 k:1<=L.k/\L.k<=8
 kB:2+L.k<=J.B
 xl:J.B+2*J.n<=L.xs.length/\J.B+2*J.n<=J.B2/\(J.bq=true->J.B2+J.n<=L.xs.length)
 bb:J.B2<=4000000
 xb:∀ x∈L.xs,0<=x/\x<=18446744073709551615
 cU:fo L.ss
 len:L.ss.length<=1024
 elder:∀ b,b<2*J.n->Cl.nth L.xs (J.B+b)=((aC (J.C b):Nat):Int)
 newer:J.bq=true->∀ e,e<J.n->Cl.nth L.xs (J.B2+e)=((aC (J.two e):Nat):Int)
 all:J.bq=true->∀ e,e<J.n->J.jn e=true
 chain:∀ b,b<2*J.n->Cx L.ss (aC (J.C b)) (J.cz b)
 lk:∀ key,Pc.lk l key=Pc.lk (bp (J.C (aj key (2*J.n)))) key
 own:∀ b,b<2*J.n->∀ a∈J.C b,aj a.2.1 (2*J.n)=b
 F:L.F=false
 p1:1<=Cl.nth L.xs 0
 few:(∀ e,e<J.n->(J.two e).length<=J.few)/\J.few<=900/\J.few<=J.cap/\J.cap<=1000000
 nd:∀ b,b<2*J.n->(aL (J.C b)).Nodup
 dj:∀ b b',b<2*J.n->b'<2*J.n->b≠b'->∀ a∈aL (J.C b),a∉aL (J.C b')
def Js.wy (J:Js):Wy:=⟨fun _ key q=>q<:+J.cz (aj key (2*J.n))\/(J.bq=true/\q<:+J.two (aj key J.n)),
 fun o key c=>(c=J.B+aj key (2*J.n)/\(J.bq=false\/o 0))\/(c=J.B2+aj key J.n/\J.bq=true),J.few,J.cap,true⟩
section
variable {J:Js} {L:Lm} {l:List Pr} {old old':Int->Nat->Prop} {w k e:Nat} {key:ByteArray} {G:Gt.Ge}
theorem Js.Ok.bk (hJ:J.Ok L l) (key:ByteArray):aj key J.n<J.n/\aj key (2*J.n)<2*J.n/\(aj key (2*J.n)=aj key J.n\/aj key (2*J.n)=aj key J.n+J.n):=by
 obtain ⟨h1,h2,h3⟩:=rN hJ.pw hJ.jR key
 refine ⟨(dI hJ.pw key).1,h2,?_⟩
 split at h3<;>omega
theorem Js.Ok.ne (hJ:J.Ok L l) {b:Nat} (hb:b<2*J.n) (hk:b≠aj key (2*J.n)):∀ a∈J.C b,a.2.1≠key:=fun a ha q=>by
 have:=hJ.own b hb a ha
 rw [q] at this
 exact hk this.symm
theorem Co {a d:List Mq.Hp} {key:ByteArray} (hk:∀ e∈d,e.2.1≠key):Pc.lk (bp (a++d)) key=Pc.lk (bp a) key:=by
 have:=Cq (a:=a) (d:=d) (t:=[]) hk
 simpa using this
theorem Qv {a d:List Mq.Hp} {key:ByteArray} (hk:∀ e∈a,e.2.1≠key):Pc.lk (bp (a++d)) key=Pc.lk (bp d) key:=by
 have:=Cq (a:=[]) (d:=a) (t:=d) hk
 simpa using this
theorem Js.Ok.Qw (hJ:J.Ok L l) (key:ByteArray):Pc.lk (bp (J.cz (aj key (2*J.n)))) key=Pc.lk l key:=by
 obtain ⟨h1,h2,h3⟩:=hJ.bk key
 rw [hJ.lk key]
 unfold Js.cz
 split
 ·rename_i q
  exact Co (hJ.ne (by omega) (by omega))
 ·rfl
theorem Js.Ok.Hj (hJ:J.Ok L l) (key:ByteArray):Pc.lk (bp (J.two (aj key J.n))) key=Pc.lk l key:=by
 obtain ⟨h1,h2,h3⟩:=hJ.bk key
 rw [hJ.lk key]
 unfold Js.two
 have hn:=FM.eW hJ.pw
 rcases h3 with q | q
 ·rw [Co (hJ.ne (by omega) (by omega)),q]
 ·rw [Qv (hJ.ne (by omega) (by omega)),q]
theorem Js.Ok.Qx (hJ:J.Ok L l) {b:Nat} (hb:b<2*J.n):(J.cz b).length<=J.few:=by
 have h:=hJ.few.1
 unfold Js.cz
 split
 ·rename_i q
  exact h b q.1
 ·by_cases q:b<J.n
  ·have:=h b q
   unfold Js.two at this
   rw [List.length_append] at this
   omega
  ·have:=h (b-J.n) (by omega)
   unfold Js.two at this
   rw [List.length_append,show b-J.n+J.n=b by omega] at this
   omega
theorem Js.Ok.both (hJ:J.Ok L l) (hp:J.bq=true) (he:e<J.n):Cx L.ss (aC (J.two e)) (J.two e):=by
 have h1:=hJ.chain e (by omega)
 by_cases hc:J.C e=[]
 ·have h2:=hJ.chain (e+J.n) (by omega)
  unfold Js.cz at h2
  rw [if_neg (by omega)] at h2
  unfold Js.two
  rw [hc,List.nil_append]
  exact h2
 ·unfold Js.cz at h1
  rw [if_pos ⟨he,hJ.all hp e he,hc⟩] at h1
  have:aC (J.two e)=aC (J.C e):=by
   unfold Js.two aC
   cases hq:J.C e with
   | nil=>exact absurd hq hc
   | cons a t=>rfl
  rw [this]
  exact h1
theorem Js.Ok.ways (hJ:J.Ok L l):J.wy.Ok L l:=by
 have iy:=hJ.bb
 have bz:=hJ.xl
 have eo:=hJ.kB
 have jm:=FM.eW hJ.pw
 refine ⟨hJ.k,fun w hw=>by omega,hJ.xb,hJ.cU,hJ.len,hJ.F,hJ.p1,hJ.tb,hJ.few.2,fun {o key e q} h=>h.imp (fun h=>(List.suffix_cons _ _).trans h) (fun h=>⟨h.1,(List.suffix_cons _ _).trans h.2⟩),fun _ h=>h,fun ho h=>h.imp (fun q=>⟨q.1,q.2.imp id (ho 0)⟩) id,fun {o key c} hc=>?_,fun o key _=>?_⟩
 ·obtain ⟨h1,h2,h3⟩:=hJ.bk key
  rcases hc with ⟨rfl,_⟩ | ⟨rfl,hp⟩
  ·have aP:word L.xs ((J.B+aj key (2*J.n):Nat):Int)=aC (J.C (aj key (2*J.n))):=by
    unfold word
    rw [if_pos (by omega),Int.toNat_natCast,hJ.elder _ h2,Int.toNat_natCast]
   rw [aP]
   exact ⟨by omega,_,hJ.chain _ h2,.inl (List.suffix_refl _),hJ.Qw key,hJ.Qx h2⟩
  ·have aP:word L.xs ((J.B2+aj key J.n:Nat):Int)=aC (J.two (aj key J.n)):=by
    unfold word
    rw [if_pos (by have:=bz.2.2 hp; omega),Int.toNat_natCast,hJ.newer hp _ h1,Int.toNat_natCast]
   rw [aP]
   exact ⟨by omega,_,hJ.both hp h1,.inr ⟨hp,List.suffix_refl _⟩,hJ.Hj key,hJ.few.1 _ h1⟩
 ·obtain ⟨h1,h2,h3⟩:=hJ.bk key
  have bU:=hJ.now
  cases hp:J.bq with
  | true=>
    rw [hp,if_pos rfl] at bU
    refine ⟨J.B2+aj key J.n,?_,.inr ⟨rfl,hp⟩⟩
    rw [bU]
    unfold Gt.cellOf
    simp only
    rw [if_neg (by omega),(dI hJ.pw key).2]
    simp
  | false=>
    rw [hp,if_neg (by simp)] at bU
    refine ⟨J.B+aj key (2*J.n),?_,.inl ⟨rfl,.inl hp⟩⟩
    rw [bU]
    unfold Gt.cellOf
    simp only
    rw [if_neg (by omega),(dI hJ.jR key).2]
    simp
def Js.linked (J:Js) (e:Nat):Js:={J with jn:=cJ J.jn e true,cap:=J.cap+(J.C (e+J.n)).length}
theorem Js.Hk (J:Js) (e b:Nat) (h:b≠e):(J.linked e).cz b=J.cz b:=by
 unfold Js.cz Js.linked Js.two
 simp only [kX _ _ h]
theorem Cx.Hl {ss:List Sl} {j:Nat} {a:Mq.Hp} {t:List Mq.Hp} (hl:ss.length<=1024) (hj:aY ss a.1 j) (ht:Cx ss (aC t) t) (ha:a.1∉aL t):∀ (pre:List Mq.Hp) (p:Nat),Cx ss p (pre++[a])->(aL (pre++[a])).Nodup->Cx (aR ss a.1 (aC t)) p (pre++a::t):=by
 intro pre
 induction pre with
 | nil=>
   intro p h _
   cases h with
   | @cons _ k z pp _ b c d=>
     refine .cons (Cr hl b b) (z:=aC t) ?_ (Cx.aside hl b ht ha)
     rw [yJ hl b,if_pos rfl]
     simp only [c]
     rfl
 | cons e0 r ih=>
   intro p h hn
   have gK:=List.nodup_cons.1 hn
   cases h with
   | @cons _ k z pp _ b c d=>
     have aH:p≠a.1:=by
      rintro rfl
      exact gK.1 (by simp [aL])
     have:=Cs (y:=aC t) hl hj b aH
     exact .cons this.1 (this.2.trans c) (ih _ d gK.2)
theorem Js.Ok.linked (hJ:J.Ok L l) (hp:J.bq=false) (he:e<J.n) (xy:J.jn e=false) {c0:List Mq.Hp} {a:Mq.Hp} (hc:J.C e=c0++[a]) (fD:J.cap+(J.C (e+J.n)).length<=1000000):
 (J.linked e).Ok {L with ss:=aR L.ss a.1 (aC (J.C (e+J.n)))} l:=by
 have dC:=hJ.chain e (by omega)
 have zV:J.cz e=J.C e:=by unfold Js.cz; rw [if_neg (by simp [xy])]
 rw [zV,hc] at dC
 obtain ⟨j,_,hj,_⟩:=dC.at a (by simp)
 have qi:a.1∈aL (J.C e):=by rw [hc]; simp
 have VX:∀ b,b<2*J.n->b≠e->a.1∉aL (J.cz b):=by
  intro b hb aH
  unfold Js.cz
  split
  ·rename_i q
   unfold Js.two
   simp only [aL,List.map_append,List.mem_append]
   rintro (q1 | q1)
   ·exact hJ.dj e b (by omega) hb (fun q=>aH q.symm) _ qi q1
   ·exact hJ.dj e (b+J.n) (by omega) (by omega) (by omega) _ qi q1
  ·exact hJ.dj e b (by omega) hb (fun q=>aH q.symm) _ qi
 have au:=hJ.chain (e+J.n) (by omega)
 have bl:J.cz (e+J.n)=J.C (e+J.n):=by unfold Js.cz; rw [if_neg (by omega)]
 rw [bl] at au
 have oY:aC (J.C (e+J.n))<=18446744073709551615:=by
  have:=hJ.elder (e+J.n) (by omega)
  have:=Cl.eX hJ.xb (J.B+(e+J.n))
  omega
 refine {hJ with cU:=?_,len:=?_,chain:=?_,newer:=fun q=>?_,all:=fun q=>?_,few:=⟨hJ.few.1,hJ.few.2.1,by have:=hJ.few.2.2.1; show J.few<=J.cap+_; omega,fD⟩}
 ·show fo (aR L.ss a.1 (aC (J.C (e+J.n))))
  unfold aR
  by_cases hk:(a.1-1) % 65536<L.ss.length
  ·exact hJ.cU.set hk _ ⟨by simp only; omega,by simp only; omega⟩
  ·rw [List.set_eq_of_length_le (by omega)]
   exact hJ.cU
 ·show (aR L.ss a.1 _).length<=_
  rw [Cu]
  exact hJ.len
 ·have q:J.bq=true:=q
  rw [hp] at q; simp at q
 ·have q:J.bq=true:=q
  rw [hp] at q; simp at q
 ·intro b hb
  have hb:b<2*J.n:=hb
  show Cx (aR L.ss a.1 (aC (J.C (e+J.n)))) (aC (J.C b)) ((J.linked e).cz b)
  by_cases eu:b=e
  ·subst eu
   have:(J.linked b).cz b=c0++a::J.C (b+J.n):=by
    unfold Js.cz Js.linked Js.two
    simp only [mU]
    rw [if_pos ⟨he,by simp,by rw [hc]; simp⟩,hc]
    simp
   rw [this]
   exact Cx.Hl hJ.len hj au (hJ.dj b (b+J.n) (by omega) (by omega) (by omega) _ qi) c0 _ (by rw [hc]; exact dC) (by rw [<-hc]; exact hJ.nd b hb)
  ·rw [Js.Hk J e b eu]
   exact Cx.aside hJ.len hj (hJ.chain b hb) (VX b hb eu)
theorem fH.Cv (hJ:J.Ok L l) (hp:J.bq=false) (he:e<J.n) (xy:J.jn e=false) {c0:List Mq.Hp} {a:Mq.Hp} (hc:J.C e=c0++[a]) (h:fH J.wy L l old w key G k):
 ∃ k',k'<=k+(J.C (e+J.n)).length/\fH (J.linked e).wy {L with ss:=aR L.ss a.1 (aC (J.C (e+J.n)))} l old w key G k':=by
 have dC:=hJ.chain e (by omega)
 have zV:J.cz e=J.C e:=by unfold Js.cz; rw [if_neg (by simp [xy])]
 rw [zV,hc] at dC
 obtain ⟨j,_,hj,_⟩:=dC.at a (by simp)
 have qi:a.1∈aL (J.C e):=by rw [hc]; simp
 obtain ⟨b1,b2,b3⟩:=hJ.bk key
 have mk:∀ k',k'<=k+(J.C (e+J.n)).length->pI (J.linked e).wy {L with ss:=aR L.ss a.1 (aC (J.C (e+J.n)))} l old key G k'->∃ k',k'<=k+(J.C (e+J.n)).length/\fH (J.linked e).wy {L with ss:=aR L.ss a.1 (aC (J.C (e+J.n)))} l old w key G k':=fun k' lR hp=>⟨k',lR,⟨h.ky,h.sum,h.wk,h.iZ,h.pd,h.iF,h.pr,hp⟩⟩
 cases h.ph with
 | mL a b=>exact mk _ (Nat.le_add_right (J.few+5) _) (.mL a b)
 | put a b=>exact mk _ (Nat.le_add_right (J.few+4) _) (.put a b)
 | load a=>exact mk _ (Nat.le_add_right (J.few+3) _) (.load a)
 | first c a1 b gX q=>exact mk _ (Nat.le_add_right (J.few+2) _) (.first c a1 b gX q)
 | look q a1 a2 a3 a4 a5 a6 a7 a8 a9 a10 a11 a12 a13=>
   have a11:G.W.read+q.length<=J.cap:=a11
   have hq:q<:+J.cz (aj key (2*J.n)):=by
    rcases a9 with q | ⟨q,_⟩
    ·exact q
    ·rw [hp] at q; simp at q
   by_cases eu:aj key (2*J.n)=e
   ·rw [eu,zV,hc] at hq
    obtain ⟨q0,rfl⟩:=Hn hq a7
    obtain ⟨p0,nY⟩:=hq
    have bB:(aL (q0++[a])).Nodup:=by
     have:=hJ.nd e (by omega)
     rw [hc,<-nY] at this
     simp only [aL,List.map_append] at this ⊢
     exact (List.nodup_append.1 this).2.1
    have au:=hJ.chain (e+J.n) (by omega)
    have bl:J.cz (e+J.n)=J.C (e+J.n):=by unfold Js.cz; rw [if_neg (by omega)]
    rw [bl] at au
    have hx:=Cx.Hl hJ.len hj au (hJ.dj e (e+J.n) (by omega) (by omega) (by omega) _ qi) q0 _ a8 bB
    rw [show q0++a::J.C (e+J.n)=(q0++[a])++J.C (e+J.n) by simp] at hx
    refine mk ((q0++[a]++J.C (e+J.n)).length+1) (by simp only [List.length_append]; omega) (.look (q0++[a]++J.C (e+J.n)) a1 a2 a3 a4 a5 a6 (by simp) hx (.inl ?_) ?_ ?_ a12 a13)
    ·have:(J.linked e).cz (aj key (2*(J.linked e).n))=J.C e++J.C (e+J.n):=by
      show (J.linked e).cz (aj key (2*J.n))=_
      rw [eu]
      unfold Js.cz Js.linked Js.two
      simp only [mU]
      rw [if_pos ⟨he,by simp,by rw [hc]; simp⟩]
     rw [this,hc,<-nY]
     exact ⟨p0,by simp⟩
    ·rw [Co (hJ.ne (by omega) (by omega))]
     exact a10
    ·show G.W.read+_<=J.cap+(J.C (e+J.n)).length
     simp only [List.length_append] at a11 ⊢
     omega
   ·have D3:a.1∉aL q:=fun hm=>by
     have hm:=(hq.map (·.1)).subset hm
     unfold Js.cz at hm
     split at hm
     ·unfold Js.two at hm
      simp only [aL,List.map_append,List.mem_append] at hm
      rcases hm with hm | hm
      ·exact hJ.dj e _ (by omega) b2 (fun q=>eu q.symm) _ qi hm
      ·exact hJ.dj e (aj key (2*J.n)+J.n) (by omega) (by omega) (by omega) _ qi hm
     ·exact hJ.dj e _ (by omega) b2 (fun q=>eu q.symm) _ qi hm
    refine mk (q.length+1) (by omega) (.look q a1 a2 a3 a4 a5 a6 a7 (Cx.aside hJ.len hj a8 D3) (.inl ?_) a10 (by show _<=J.cap+_; omega) a12 a13)
    show q<:+(J.linked e).cz (aj key (2*J.n))
    rw [Js.Hk J e _ eu]
    exact hq
 | leave a b=>exact mk _ (by omega) (.leave a b)
end
end Go.Proofs.YtpanebgakndddaaGreat.Zp
namespace Go.Proofs.YtpanebgakndddaaGreat.Zp
open Go Hm Ar Mm Wk Pc Me Mq Pu Pn Gt Qs
section
variable {Z:Zs} {L:Lm} {l:List Pr} {n:Nat} {W:Wt}
theorem Zs.Ok.waits (hZ:Z.Ok L l) (hb:Cl.nth L.xs 0<=4611686018427387904):Z.Ok {L with xs:=(aI n L.xs L.hs W).1,hs:=(aI n L.xs L.hs W).2.1} l:=by
 have eo:=hZ.kB
 have hk:=hZ.k
 have bz:=hZ.xl
 have h0:=Cl.eX hZ.xb 0
 have hs:=yI h0.1 hb
 unfold aI
 split
 ·exact hZ.cells (fun _ _ _=>rfl) (fun _ _ _=>rfl) (Nat.le_refl _) hZ.xb rfl hZ.tb hZ.p1
 split
 ·have hn:∀ i,i≠0->Cl.nth (L.xs.set 0 (Cl.fp (Cl.nth L.xs 0) 1)) i=Cl.nth L.xs i:=fun i hi=>by
   rw [fJ _ _ _ (by omega),if_neg hi]
  refine hZ.cells (fun i h1 _=>hn i (by omega)) (fun _ b _=>hn _ (by omega)) (by simp) (fun x hx=>?_) ?_ hZ.tb ?_
  ·rcases List.mem_or_eq_of_mem_set hx with q | rfl
   ·exact hZ.xb x q
   ·rw [hs]; omega
  ·unfold Me.now
   rw [hn 1 (by omega)]
  ·rw [fJ _ _ _ (by omega),if_pos rfl,hs]
   have:=hZ.p1
   omega
 split
 ·exact hZ.cells (fun _ _ _=>rfl) (fun _ _ _=>rfl) (Nat.le_refl _) hZ.xb rfl hZ.tb hZ.p1
 ·exact hZ.cells (fun _ _ _=>rfl) (fun _ _ _=>rfl) (Nat.le_refl _) hZ.xb rfl hZ.tb hZ.p1
end
end Go.Proofs.YtpanebgakndddaaGreat.Zp
namespace Go.Proofs.YtpanebgakndddaaGreat.Mx
end Go.Proofs.YtpanebgakndddaaGreat.Mx
namespace Go.Proofs.YtpanebgakndddaaGreat.Zp
open Go Hm Ar Mm Wk Pc Me Mq Pu Pn Gt Qs Mx
def ZD (l:List Pr) (Z:Zs) (L:Lm):Prop:=Z.Ok L l/\Z.few<=35
def il (l:List Pr) (Z:Zs) (L:Lm) (old:Nat->Int->Nat->Prop) (Z':Zs) (L':Lm) (old':Nat->Int->Nat->Prop):Prop:=
 ∀ (R:Rn) (k:Nat),(R.w:Int)<L.k->bW Z.wy L l old R k->∃ k',k'<=k+0/\bW Z'.wy L' l old' R k'
section
variable {l:List Pr} {Z:Zs} {L:Lm} {old old':Nat->Int->Nat->Prop}
theorem ZD.ways (h:ZD l Z L):Z.wy.Ok L l:=h.1.ways
theorem il.G7 (h:ZD l Z L) (ho:∀ w p e,old w p e->old' w p e):il l Z L old Z L old':=fun R k _ hR=>
 ⟨k,Nat.le_refl _,hR.mono h.ways (fun p e=>ho _ p e)⟩
theorem il.trans {Z' Z'':Zs} {L' L'':Lm} {old'':Nat->Int->Nat->Prop} (hk:L'.k=L.k) (h:il l Z L old Z' L' old') (h':il l Z' L' old' Z'' L'' old''):il l Z L old Z'' L'' old'':=fun R k hw hR=>by
 obtain ⟨k',h1,h2⟩:=h R k hw hR
 obtain ⟨k'',h3,h4⟩:=h' R k' (by rw [hk]; exact hw) h2
 exact ⟨k'',by omega,h4⟩
theorem G4 (h:ZD l Z L) {xs' hs':List Int} {ds':List (Nat×Nat)} {ws':List Nat} (h1:∀ i,2<=i->i<Z.B+Z.n->Cl.nth xs' i=Cl.nth L.xs i) (h2:Z.bq=true->∀ b,b<2*Z.n->Cl.nth xs' (Z.B2+b)=Cl.nth L.xs (Z.B2+b)) (hl:L.xs.length<=xs'.length)
 (lh:∀ x∈xs',0<=x/\x<=18446744073709551615) (bU:Me.now xs' ds'=Me.now L.xs L.ds) (m8:∀ i,(aN ds' i).1<=65536/\(aN ds' i).2<=4000000) (h0:Cl.nth L.xs 0<=Cl.nth xs' 0):
 ZD l Z {L with xs:=xs',ds:=ds',hs:=hs',ws:=ws'}/\il l Z L old Z {L with xs:=xs',ds:=ds',hs:=hs',ws:=ws'} old:=by
 have eo:=h.1.kB
 have hk:=h.1.k
 have nL:=h.1.p1
 refine ⟨⟨h.1.cells (fun i q1 q2=>h1 i (by omega) q2) h2 hl lh bU m8 (by omega),h.2⟩,fun R k hw hR=>⟨k,Nat.le_refl _,hR.jt ?_ h0 rfl⟩⟩
 show Cl.nth xs' (2+R.w)=_
 exact h1 _ (by omega) (by omega)
theorem PR (h:ZD l Z L) (hp:Z.bq=false) {t:Nat} (ht:t<=1000000) (bU:Me.now (L.xs.set 1 (t:Int)) L.ds=(2*Z.n,Z.B2)) (h2:Z.B2+2*Z.n<=L.xs.length) (iM:∀ b,b<2*Z.n->Cl.nth L.xs (Z.B2+b)=((Z.head b:Nat):Int)):
 ZD l {Z with bq:=true} {L with xs:=L.xs.set 1 (t:Int)}/\il l Z L old {Z with bq:=true} {L with xs:=L.xs.set 1 (t:Int)} old:=by
 have eo:=h.1.kB
 have hk:=h.1.k
 have bz:=h.1.xl
 have hn:∀ i,i≠1->Cl.nth (L.xs.set 1 (t:Int)) i=Cl.nth L.xs i:=fun i hi=>by rw [fJ _ _ _ (by omega),if_neg hi]
 refine ⟨⟨h.1.vU hp hn (by simp) (fun x hx=>?_) bU h2 iM,h.2⟩,fun R k hw hR=>⟨k,Nat.le_refl _,?_⟩⟩
 ·rcases List.mem_or_eq_of_mem_set hx with q | rfl
  ·exact h.1.xb x q
  ·omega
 ·exact hR.vU.jt (hn _ (by omega)) (by show _<=Cl.nth (L.xs.set 1 (t:Int)) 0; rw [hn 0 (by omega)]; exact Int.le_refl _) rfl
theorem PS {n:Nat} {W:Wt} (h:ZD l Z L) (hb:Cl.nth L.xs 0<=4611686018427387904) (hr:fQ L.xs L.hs W=true) (nY:W.at_<=1->W.bm=0) (h3:W.at_<=3) (hn:(n:Int)=L.k):
 ZD l Z {L with xs:=(aI n L.xs L.hs W).1,hs:=(aI n L.xs L.hs W).2.1}/\il l Z L (gw W) Z {L with xs:=(aI n L.xs L.hs W).1,hs:=(aI n L.xs L.hs W).2.1} (gw (aI n L.xs L.hs W).2.2):=
 ⟨⟨h.1.waits hb,h.2⟩,fun R k DY hR=>⟨k,Nat.le_refl _,hR.waits h.ways hb hr nY h3 (by omega) (by omega)⟩⟩
theorem PT {e:Nat} {r0 d t:List Mq.Hp} {a:Mq.Hp} (h:ZD l Z L) (hp:Z.bq=true) (he:e<Z.n) (hr:Z.r e=r0++[a]) (hd:Z.rest e=d++t) (qe:d≠[]) (jC:∀ b∈d,sd Z.n b.2.1= !Z.s e) (ht:∀ b t',t=b::t'->sd Z.n b.2.1=Z.s e)
 (hold:∀ w p,¬old w p e) (vc:∀ w p i,old' w p i↔i=e\/old w p i):
 ZD l (Z.linked e d t) {L with ss:=aR L.ss a.1 (aC t)}/\il l Z L old (Z.linked e d t) {L with ss:=aR L.ss a.1 (aC t)} old':=by
 have hz:=h.1.zip e he
 have K7:aC t<=18446744073709551615:=by
  cases t with
  | nil=>simp [aC]
  | cons b t'=>
    have h1:=hz.oth
    rw [hd] at h1
    obtain ⟨j,_,hj,_⟩:=h1.at b (by simp)
    have hx:=hz.own
    obtain ⟨d1,g,lB⟩:∃ d1 g,d=d1++[g]:=⟨d.dropLast,d.getLast qe,(List.dropLast_concat_getLast qe).symm⟩
    obtain ⟨gx,gp⟩:=g
    have h2:Cx L.ss gx ((gx,gp)::b::t'):=by
     have h3:Z.v e++(d++b::t')=(Z.v e++d1)++((gx,gp)::b::t'):=by rw [lB]; simp
     rw [h3] at h1
     exact Cx.back _ h1
    obtain ⟨k,z,q1,q2,q3⟩:=h2.tail
    have dh:=(h.1.cU k).2
    rw [q2] at dh
    unfold dP at dh
    simp only at dh
    have:=Cx.hd q3
    omega
 refine ⟨⟨h.1.linked hp he hr hd qe jC ht K7,h.2⟩,fun R k _ hR=>?_⟩
 obtain ⟨k',h1,h2⟩:=bW.linked h.1 he hr hd jC (fun p=>hold _ p) (fun p=>(vc _ p e).2 (.inl rfl)) (fun p i _ q=>(vc _ p i).2 (.inr q)) hR
 exact ⟨k',h1,h2⟩
end
end Go.Proofs.YtpanebgakndddaaGreat.Zp
