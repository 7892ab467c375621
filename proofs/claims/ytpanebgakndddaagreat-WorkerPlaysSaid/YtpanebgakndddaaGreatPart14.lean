/- Walks and plain mathematics, put together in their order: WpA, Sized, CallsOf. -/
import Derived.Test.YtpanebgakndddaaGreatPart13
import Derived.Deep.CutBlock
import Derived.Deep.RegionHeld3
import Derived.SizedLaws
import Derived.ProofKit
import Derived.OpenShut
import Derived.Laws.Cover1
set_option linter.unusedVariables false
set_option linter.unusedSimpArgs false
namespace Go.Proofs.YtpanebgakndddaaGreat.Wo
open Go Go.RowKit Hp K Fl Rw Hm Ar Mm Me LK Qs Wk Re fp Pc Pn Mq Pu Zp Mx cJ Bs Dl Zr gj gm iT kC Ca Rn
set_option maxRecDepth 100000
theorem VJ {W0 w1 w2 w:World} {M:Mo} {a:Wp} {l:List Ct} {ls:Nat->List Pr} {Bw:Option Addr} {capW d:Nat} (h:oK W0 30 2 M w1) (au:Below w1.heap.size w1 w2) (hA:bA.At w2 a ⟨1,0,0,l,none⟩) (hl:∀ x,bA.aQ a ⟨1,0,0,l,none⟩ x->w1.heap.size<=x) (hb:Below w2.heap.size w2 w) (hM:Maps l ls l.length) (hR:eE w Bw capW (answers l ls l.length)) (rM:∀ x,In Bw x->W0.heap.size<=x):
 WS W0 w M.m a.f l ls Bw capW d 0 0 (-1) 0:=by
 have hS:=vO h
 have hm:=tQ h (by omega) (by omega)
 have eW:=yS h (by omega)
 obtain ⟨_,_,_,g1,g2,g3,g4,g5,g6,g7⟩:=h
 refine ⟨M,a,_,rfl,(hS.down au).down hb,sf hA (ab.aA hb (fun _=>False)) (by simp),rfl,fun x hx=>Nat.le_trans hS.below.size (hl x hx),⟨rfl,rfl,Nat.zero_le _,by simp,by omega,by simp,Nat.zero_le _,1,0,_,_,by rw [hM.1]; exact hm,Nat.le_refl _,eW,by omega,?_,by show M.ss.length=30; rw [g2]; simp,by show M.k=2; exact_mod_cast g5⟩,hR,rM⟩
 rw [hM.1]
 show 0+M.ws.length<=0
 rw [g7]
 exact Nat.le_refl _
def D2 (w2 wr:World) (l:List Ct) (v:Value) (k:Nat):Prop:=∃ (B:Option Addr) (capB:Nat),v=.slice B k capB/\Bt wr B capB (l.take k)/\(∀ x,In B x->w2.heap.size<=x)/\Below w2.heap.size w2 wr/\∀ j,j<k->(cat l j).key.size+(cat l j).val.size<=100/\((cat l j).size<=64\/65536<(cat l j).size)
set_option maxHeartbeats 8000000 in
theorem RM (l:List Ct) (A:Option Addr) (cap:Nat) (skip:Int) (Kr:0<=skip/\skip<=255) (W0:World) (hl:l.length<=maxLen) (hP:vT W0 A l):
 Calls Tryz.prog 3 #[.slice A l.length cap,.int .u8 skip] W0 fun e w'=>e=.returned (.bool true)/\Below W0.heap.size W0 w':=by
 have Fu:=Lib.hid (fun w=>MO w)
 unfold maxLen at hl
 by_cases XJ:20<l.length
 ·generalize l.length=len at*
  skip
  as_aux_lemma=>
   clear hP
   go_enter Tryz.func3,Tryz.ntmps3
   go_wp2_with fail
   refine (Fu.out _).mono ?_
   rintro e w1 ⟨rfl,aD⟩
   replace aD:=Lib.hid aD
   go_wp2_with fail
   go_ret
   exact ⟨rfl,aD.out⟩
 have Fv:l.length<=20:=by omega
 obtain ⟨d,hd⟩:∃ d:Nat,1+skip % 4=(d:Int):=⟨(1+skip % 4).toNat,by omega⟩
 have qB:1<=d/\d<=4:=by omega
 have fh:=Lib.hid (na 30 2 W0 (by omega) (by omega))
 have eM:=Lib.hid (fun w1 (hb:Below W0.heap.size W0 w1)=>Gf 1 l A cap w1 Fv (fun i hi=>by
  obtain ⟨b,o,e,bW,c0,c1,c2,c3,s⟩:=hP i hi
  have cA:=hb.size
  exact ⟨b,o,e,by omega,by rw [hb.cell (p:=⟨b,_,none⟩) bW]; exact c0,by rw [hb.cell (p:=⟨b,_,none⟩) bW]; exact c1,by rw [hb.cell (p:=⟨b,_,none⟩) bW]; exact c2,by rw [hb.cell (p:=⟨b,_,none⟩) bW]; exact c3,s⟩))
 replace hP:=Lib.hid hP
 generalize bu:l.length=len at*
 replace bu:=Lib.hid bu
 replace hd:=Lib.hid hd
 clear XJ
 go_enter Tryz.func3,Tryz.ntmps3
 go_wp2_with fail
 refine fh.out.mono ?_
 rintro e w1 ⟨M,rfl,tL⟩
 have ki:=Lib.hid (eM.out w1 tL.2.2.1)
 replace tL:=Lib.hid tL
 clear fh eM
 go_wp2_with fail
 refine ki.out.mono ?_
 rintro e w2 ⟨a,rfl,bw,fK,au⟩
 have Fw:=Lib.hid (fun wx ls Bw capW (hb:Below w2.heap.size w2 wx) (hM:Maps l ls l.length) (hR:eE wx Bw capW (answers l ls l.length)) (rM:∀ x,In Bw x->W0.heap.size<=x)=>VJ (d:=d) tL.out au bw fK hb hM hR rM)
 have rV:=tL.out.2.2.1.trans (au.mono tL.out.2.2.1.size)
 have hI:Hid (D2 w2 w2 l (.slice none 0 0) 0):=Lib.hid ⟨none,0,rfl,by simpa using Row.nil w2 34 4 pE,by simp [In],Below.refl _ _,fun j hj=>by omega⟩
 replace rV:=Lib.hid rV
 generalize M.m=m at*
 generalize a.f=f at*
 clear ki tL bw fK au
 obtain ⟨i0,cq,cy,cL,cz⟩:=info_parts L7
 go_upto_region 8 with (fail)
 go_wp2_with fail
 go_loopw [7,34] (fun v i wr=>∃ k:Nat,k<=len/\i=.int .i64 k/\D2 w2 wr l v k) (fun _ i _=>len-(intOf i).toNat)
 case atStart=>exact ⟨0,Nat.zero_le _,rfl,hI.out⟩
 case round=>
  obtain ⟨k,hk,rfl,B,capB,rfl,hC,hB,hb,l9⟩:=hrel
  clear hI
  rename_i wr
  by_cases aV:k<len
  case pos=>
   skip
   as_aux_lemma=>
    obtain ⟨b,of,rfl,bW,c0,c1,c2,c3,⟨s0,s1⟩,s2⟩:=hP.out k (by rw [bu.out]; exact aV)
    have Fx:=rV.out.trans (hb.mono rV.out.size)
    rw [<-Fx.cell (p:=⟨b,_,none⟩) bW] at c0 c1 c2 c3
    have uY:b<wr.heap.size:=by have:=Fx.size; omega
    have vE:l.take (k+1)=l.take k++[cat l k]:=by
     have e:l[k]?=some (cat l k):=by simp [cat,List.getD,show k<l.length by rw [bu.out]; exact aV]
     rw [List.take_add_one,e]; rfl
    have Fy:=Lib.hid (fun (q:(cat l k).key.size+(cat l k).val.size<=100/\((cat l k).size<=64\/65536<(cat l k).size)) j (hj:j<k+1)=>show (cat l j).key.size+(cat l j).val.size<=100/\((cat l j).size<=64\/65536<(cat l j).size) from by
     by_cases e:j=k
     ·subst e; exact q
     ·exact l9 j (by omega))
    generalize fJ:cat l k=c at*
    obtain ⟨ck,key,val,z⟩:=c
    simp only at c0 c1 c2 c3 s0 s1 s2
    obtain ⟨w3,cX⟩:∃ w3,w3=wr.alloc (.cells #[.int .i64 ck,.string key,.string val,.int .i64 z] 31):=⟨_,rfl⟩
    have pD:af w3 wr.heap.size 31 #[.int .i64 ck,.string key,.string val,.int .i64 z]:=by rw [cX]; exact af.made wr _ _
    have aR:Below wr.heap.size wr w3:=by rw [cX]; exact below_1 _ _
    obtain ⟨xb,jx⟩:∃ xb,xb=wr.heap.size:=⟨_,rfl⟩
    rw [<-jx] at pD
    have x0:=pD.cell 0
    have x1:=pD.cell 1
    have x2:=pD.cell 2
    have x3:=pD.cell 3
    simp at x0 x1 x2 x3
    have bz:=pD.lt
    have kv:=OA ⟨ck,key,val,z⟩ w3 s0 s1
    have sS:=Lib.hid (hb.trans (aR.mono hb.size))
    have Fz:=Lib.hid pD
    have pb:=Lib.hid aR
    have FA:=Lib.hid hb
    replace hC:=Lib.hid hC
    replace hB:=Lib.hid hB
    replace vE:=Lib.hid vE
    clear pD hb aR l9 Fx
    go_upto_region 11 with (fail)
    rw [<-cX,<-jx]
    clear cX jx c0 c1 c2 c3 uY
    by_cases tM:¬(key.size+val.size<=100/\(z<=64\/65536<z))
    ·have hf:=decide_eq_false tM
     simp only [hf] at kv
     replace kv:=Lib.hid kv
     have jo:=Lib.hid (rV.out.trans (sS.out.mono rV.out.size))
     clear hf hC hB sS Fz Fy vE Fw rV hP tM
     go_wp2_with fail
     refine kv.out.mono ?_
     rintro e w4 ⟨rfl,az⟩
     have FB:=Lib.hid (jo.out.trans (az.mono jo.out.size))
     clear az jo kv
     go_wp2_with fail
     refine (Fu.out _).mono ?_
     rintro e w5 ⟨rfl,bM⟩
     have FC:=Lib.hid (FB.out.trans (bM.mono FB.out.size))
     clear FB bM
     go_wp2_with fail
     go_ret
     exact ⟨rfl,FC.out⟩
    replace tM:key.size+val.size<=100/\(z<=64\/65536<z):=Decidable.not_not.1 tM
    have vG:=decide_eq_true tM
    simp only [vG] at kv
    replace kv:=Lib.hid kv
    have lY:=Lib.hid (Fy.out tM)
    clear vG tM Fy
    go_wp2_with fail
    refine kv.out.mono ?_
    rintro e w4 ⟨rfl,az⟩
    have vJ:=Fz.out.only (ab.aA az (fun _=>False)) (by simp)
    have x0:=vJ.cell 0
    have x1:=vJ.cell 1
    have x2:=vJ.cell 2
    have x3:=vJ.cell 3
    simp at x0 x1 x2 x3
    have bz:=vJ.lt
    have FD:=Lib.hid (pb.out.trans (az.mono pb.out.size))
    have yy:=Lib.hid (show Calls Tryz.prog 9 #[.agg #[.int .i64 ck,.string key,.string val,.int .i64 z]] w4 (fun e w'=>e=.returned (.agg #[.int .i64 ck,.string key,.string val,.int .i64 z])/\Below w4.heap.size w4 w') from OB ⟨ck,key,val,z⟩ w4)
    clear kv az Fz vJ sS pb
    have b9:Hid ((l.take k).length=k):=Lib.hid (by rw [List.length_take,bu.out]; omega)
    go_wp2_with (first
     | (go_at_call 9
        refine yy.out.mono ?_
        rintro e w5 ⟨rfl,bM⟩
        have FE:=FD.out.trans (bM.mono FD.out.size)
        have A5:=Lib.hid (hC.out.only (ab.aA FE (fun _=>False)) (by simp))
        have jj:=Lib.hid (FA.out.trans (FE.mono FA.out.size))
        clear yy FD bM FE hC FA x0 x1 x2 x3 bz)
     | (at_builtin
        refine kx w5 rfl (.tmp 42) (.tmp 45) 28 rfl 34 i0 (.agg #[.int .i64 0,.string ⟨#[]⟩,.string ⟨#[]⟩,.int .i64 0]) 4 48 Tryz.underlying28 cq cy cL cz rfl (by omega) pE (fun _=>rfl) (by intro x u hu; simp [pE] at hu; rcases hu with rfl | rfl | rfl | rfl<;>rfl)
         B capB k (l.take k) b9.out ⟨ck,key,val,z⟩ #[.int .i64 ck,.string key,.string val,.int .i64 z] rfl rfl A5.out rfl (by simp only [maxLen]; omega) (by omega) ?_
        intro A6 cap6 w6 LQ eB vB
        have HP:=Lib.hid (show D2 w2 w6 l (.slice A6 (k+1) cap6) (k+1) from ⟨A6,cap6,rfl,by rw [vE.out]; exact LQ,fun x hx=>(vB x hx).elim (fun q=>hB.out x q) (fun q=>Nat.le_trans jj.out.size q),jj.out.trans (eB.toBelow jj.out.size (fun x hx q=>by have:=hB.out x q; omega)),lY.out⟩)
        clear LQ eB vB))
    go_roundw
    case rel=>exact ⟨k+1,by omega,by go_num,HP.out⟩
    case measure=>simp [intOf]; omega
  case neg=>
  obtain rfl:k=len:=by omega
  have LR:Bt wr B capB l:=by rw [List.take_of_length_le (by rw [bu.out]; exact Nat.le_refl _)] at hC; exact hC
  have LS:FN l:=fun c hc=>by
   obtain ⟨i,hi,rfl⟩:=List.getElem_of_mem hc
   have e:l[i]=cat l i:=by simp [cat,List.getD,hi]
   obtain ⟨_,_,_,_,_,_,_,_,_,s2⟩:=hP.out i hi
   have:=l9 i (by rw [<-bu.out]; exact hi)
   rw [e]
   exact ⟨by omega,s2⟩
  have kv:Kl l:=fun i hi=>by
   have:=l9 i (by rw [<-bu.out]; exact hi)
   omega
  have FF:=Mb wr l B capB (by rw [bu.out]; omega) LR LS
  have LU:Hid (Calls Tryz.prog 10 #[.slice none 0 0,.slice B k capB] wr (fun e w'=>∃ (B':Option Addr) (capB':Nat) (ls:Nat->List Pr),e=.returned (.slice B' k capB')/\Maps l ls l.length/\eE w' B' capB' (answers l ls l.length)/\(∀ x,In B' x->wr.heap.size<=x)/\Below wr.heap.size wr w')):=Lib.hid (by
   rw [bu.out] at FF
   refine FF.mono fun e w' q=>?_
   unfold Bu at q
   rw [bu.out] at q ⊢
   exact q)
  replace hb:=Lib.hid hb
  replace kv:=Lib.hid kv
  clear hC LR hB l9 LS FF
  go_wp2_with fail
  refine LU.out.mono ?_
  rintro e w4 ⟨Bw,capW,ls,rfl,tN,hR,rM,jM⟩
  have aZ:=Lib.hid (Fw.out w4 ls Bw capW (hb.out.trans (jM.mono hb.out.size)) tN hR (fun x hx=>Nat.le_trans rV.out.size (Nat.le_trans hb.out.size (rM x hx))))
  replace tN:=Lib.hid tN
  clear LU hR rM jM hb Fw
  go_wp2_with fail
  go_loopw [11,12,13] (fun nv iv lv wx=>∃ (st n:Nat) (last now:Int),nv=.int .i64 now/\iv=.int .i64 n/\lv=.int .i64 last/\WS W0 wx m f l ls Bw capW d st n last now) (fun nv _ _ _=>(100001-intOf nv).toNat)
  case atStart=>exact ⟨0,0, -1,0,rfl,rfl,rfl,aZ.out⟩
  case round=>
   obtain ⟨st,n,last,now,rfl,rfl,rfl,hS⟩:=hrel
   clear aZ
   rename_i wx
   obtain ⟨n0,n1,n2,n3⟩:=hS.VH (by rw [bu.out]; exact Fv) qB.2
   have fA:=hS.left
   rw [bu.out] at fA n3
   have Yq:wrap64 (now+(d:Int))=now+(d:Int):=by unfold wrap64; omega
   by_cases aV:n<k
   case neg=>
    skip
    as_aux_lemma=>
     obtain rfl:n=k:=by omega
     rw [decide_eq_false aV] at fA
     replace fA:=Lib.hid fA
     have gJ:¬n<l.length:=by rw [bu.out]; exact aV
     replace hS:=Lib.hid hS
     clear tN kv hP
     go_wp2_with fail
     refine fA.out.mono ?_
     rintro e w5 ⟨rfl,jj⟩
     have fY:=hS.out.down jj
     have cR:=Lib.hid (fY.cK gJ (ptr m) now)
     replace fY:=Lib.hid fY
     clear fA jj hS
     go_wp2_with fail
     refine cR.out.mono ?_
     rintro e w6 ⟨rfl,lC⟩
     have kM:=fY.out.down lC
     have qf:=kM.down (below_1 w6 (.cells #[.int .i64 0,.int .i64 0,.int .i64 0,.string ⟨#[]⟩,.string ⟨#[]⟩,.int .i64 0,.int .i64 0,.int .i64 0,.int .i64 0,.bool false,.string ⟨#[]⟩] 46))
     obtain ⟨w7,Bp⟩:∃ w7,w7=w6.alloc (.cells #[.int .i64 0,.int .i64 0,.int .i64 0,.string ⟨#[]⟩,.string ⟨#[]⟩,.int .i64 0,.int .i64 0,.int .i64 0,.int .i64 0,.bool false,.string ⟨#[]⟩] 46):=⟨_,rfl⟩
     have yL:af w7 w6.heap.size 46 #[.int .i64 0,.int .i64 0,.int .i64 0,.string ⟨#[]⟩,.string ⟨#[]⟩,.int .i64 0,.int .i64 0,.int .i64 0,.int .i64 0,.bool false,.string ⟨#[]⟩]:=by rw [Bp]; exact af.made w6 _ _
     rw [<-Bp] at qf
     obtain ⟨eb,jL⟩:∃ eb,eb=w6.heap.size:=⟨_,rfl⟩
     rw [<-jL] at yL
     replace qf:=Lib.hid qf
     replace yL:=Lib.hid yL
     clear fY kM cR lC
     go_upto_region 32 with (fail)
     rw [<-Bp,<-jL]
     clear Bp jL
     go_wp2_with (first
      | (go_at_call 5
         refine (Fu.out _).mono ?_
         rintro e w8 ⟨rfl,l7⟩
         have oG:=qf.out.down l7
         have lK:=yL.out.only (ab.aA l7 (fun _=>False)) (by simp)
         have g0:=lK.cell 0
         have g1:=lK.cell 1
         have g2:=lK.cell 2
         have g3:=lK.cell 3
         have g4:=lK.cell 4
         have g5:=lK.cell 5
         have g6:=lK.cell 6
         have g7:=lK.cell 7
         have g8:=lK.cell 8
         have g9:=lK.cell 9
         have g10:=lK.cell 10
         simp at g0 g1 g2 g3 g4 g5 g6 g7 g8 g9 g10
         have gl:=lK.lt
         have fB:=oG.ready
         rw [decide_eq_false gJ] at fB
         replace fB:=Lib.hid fB
         have jo:=Lib.hid oG.below
         clear l7 oG lK qf yL)
      | (go_at_call 12
         refine fB.out.mono ?_
         rintro e w9 ⟨rfl,mf⟩
         have FC:=Lib.hid (jo.out.trans (mf.mono jo.out.size))
         clear mf fB jo))
     go_ret
     exact ⟨rfl,FC.out⟩
   skip
   as_aux_lemma=>
    have qx:n<l.length:=by rw [bu.out]; exact aV
    rw [decide_eq_true aV] at fA
    replace fA:=Lib.hid fA
    replace hS:=Lib.hid hS
    go_wp2_with fail
    refine fA.out.mono ?_
    rintro e w5 ⟨rfl,jj⟩
    have fY:=hS.out.down jj
    have fB:=fY.ready
    rw [decide_eq_true qx] at fB
    replace fB:=Lib.hid fB
    replace fY:=Lib.hid fY
    clear fA hS jj
    go_wp2_with fail
    refine fB.out.mono ?_
    rintro e w6 ⟨rfl,lC⟩
    have kM:=fY.out.down lC
    obtain ⟨x,qD⟩:=kM.bU
    obtain ⟨bg,EH⟩:∃ bg:Bool,(x==0)=bg:=⟨_,rfl⟩
    replace qD:=Lib.hid qD
    replace kM:=Lib.hid kM
    clear fB fY lC
    go_wp2_with fail
    refine qD.out.mono ?_
    rintro e w7 ⟨rfl,lD⟩
    have cR:=Lib.hid ((kM.out.down lD).step qx tN.out (by rw [bu.out]; exact Fv) qB.1 kv.out)
    clear qD kM lD
    go_wp2_with fail
    clear EH
    refine cR.out.mono ?_
    rintro e w8 hq
    clear cR
    have yB:=hd.out
    rcases hq with ⟨br,b1,b2,_,rfl,oG,yl⟩ | ⟨rfl,oG⟩
    ·skip
     skip
     as_aux_lemma=>
      obtain ⟨b,of,rfl,bW,c0,c1,c2,c3,⟨s0,s1⟩,s2⟩:=hP.out n qx
      have Bq:=fun wx (hx:Below w8.heap.size w8 wx)=>(oG.down hx).want qx
      obtain ⟨⟨ye,yh,yv⟩,hy⟩:∃ y,y=dg (ls n) (cat l n):=⟨_,rfl⟩
      rw [<-hy] at Bq ⊢
      have FG:=oG.below
      generalize cat l n=c at*
      obtain ⟨ck,key,val,z⟩:=c
      simp only at c0 c1 c2 c3 Bq
      have mQ:=Lib.hid (fun wx (hx:Below w8.heap.size w8 wx)=>show (wx.cell? ⟨b,of+n*4,none⟩=some (.int .i64 ck)/\wx.cell? ⟨b,of+n*4+1,none⟩=some (.string key)/\wx.cell? ⟨b,of+n*4+2,none⟩=some (.string val)/\wx.cell? ⟨b,of+n*4+3,none⟩=some (.int .i64 z))/\b<wx.heap.size from by
       have m8:=FG.trans (hx.mono FG.size)
       have:=m8.size
       exact ⟨⟨by rw [m8.cell (p:=⟨b,_,none⟩) bW]; exact c0,by rw [m8.cell (p:=⟨b,_,none⟩) bW]; exact c1,by rw [m8.cell (p:=⟨b,_,none⟩) bW]; exact c2,by rw [m8.cell (p:=⟨b,_,none⟩) bW]; exact c3⟩,by omega⟩)
      obtain ⟨w9,qE⟩:∃ w9,w9=w8.alloc (.cells #[.int .i64 1,.int .i64 n,.int .i64 ck,.string key,.string val,.int .i64 z,.int .i64 br,.int .i64 now,.int .i64 ye,.bool yh,.string yv] 46):=⟨_,rfl⟩
      have jR:af w9 w8.heap.size 46 #[.int .i64 1,.int .i64 n,.int .i64 ck,.string key,.string val,.int .i64 z,.int .i64 br,.int .i64 now,.int .i64 ye,.bool yh,.string yv]:=by rw [qE]; exact af.made w8 _ _
      have mf:Below w8.heap.size w8 w9:=by rw [qE]; exact below_1 _ _
      obtain ⟨eb,jL⟩:∃ eb,eb=w8.heap.size:=⟨_,rfl⟩
      rw [<-jL] at jR
      have FH:=Lib.hid (fun wx (hx:Below w9.heap.size w9 wx)=>show ((wx.cell? ⟨eb,0,none⟩=some (.int .i64 1)/\wx.cell? ⟨eb,1,none⟩=some (.int .i64 n)/\wx.cell? ⟨eb,2,none⟩=some (.int .i64 ck)/\wx.cell? ⟨eb,3,none⟩=some (.string key)/\wx.cell? ⟨eb,4,none⟩=some (.string val)/\wx.cell? ⟨eb,5,none⟩=some (.int .i64 z)/\wx.cell? ⟨eb,6,none⟩=some (.int .i64 br)/\wx.cell? ⟨eb,7,none⟩=some (.int .i64 now)/\wx.cell? ⟨eb,8,none⟩=some (.int .i64 ye)/\wx.cell? ⟨eb,9,none⟩=some (.bool yh)/\wx.cell? ⟨eb,10,none⟩=some (.string yv))/\eb<wx.heap.size)/\
       ((wx.cell? ⟨b,of+n*4,none⟩=some (.int .i64 ck)/\wx.cell? ⟨b,of+n*4+1,none⟩=some (.string key)/\wx.cell? ⟨b,of+n*4+2,none⟩=some (.string val)/\wx.cell? ⟨b,of+n*4+3,none⟩=some (.int .i64 z))/\b<wx.heap.size) from by
       have XK:=mf.trans (hx.mono mf.size)
       have nN:=jR.only (ab.aA hx (fun _=>False)) (by simp)
       exact ⟨⟨⟨nN.cell 0,nN.cell 1,nN.cell 2,nN.cell 3,nN.cell 4,nN.cell 5,nN.cell 6,nN.cell 7,nN.cell 8,nN.cell 9,nN.cell 10⟩,nN.lt⟩,mQ.out wx XK⟩)
      have XL:=Bq w9 mf
      obtain ⟨rb,Aw,vp,r0,r1,r2⟩:=XL
      subst Aw
      have FI:=Lib.hid (fun wx (hx:Below w9.heap.size w9 wx)=>show (wx.cell? ⟨rb,n*3,none⟩=some (.int .i64 ye)/\wx.cell? ⟨rb,n*3+1,none⟩=some (.bool yh)/\wx.cell? ⟨rb,n*3+2,none⟩=some (.string yv))/\rb<wx.heap.size from by
       have:=hx.size
       exact ⟨⟨by rw [hx.cell (p:=⟨rb,_,none⟩) vp]; exact r0,by rw [hx.cell (p:=⟨rb,_,none⟩) vp]; exact r1,by rw [hx.cell (p:=⟨rb,_,none⟩) vp]; exact r2⟩,by omega⟩)
      have qD:=Lib.hid (fun wx (hx:Below w9.heap.size w9 wx)=>yl wx (mf.trans (hx.mono mf.size)))
      have FJ:=Lib.hid (fun wx (hx:Below w9.heap.size w9 wx)=>oG.down (mf.trans (hx.mono mf.size)))
      have FK:=Lib.hid (fun wx=>show Calls Tryz.prog 15 #[.agg #[.int .i64 ye,.bool yh,.string yv]] wx (fun e w'=>e=.returned (.agg #[.int .i64 ye,.bool yh,.string yv])/\Below wx.heap.size wx w') from OC (ye,yh,yv) wx)
      clear jR mf mQ Bq yl oG FG c0 c1 c2 c3 r0 r1 r2 vp tN kv hP hy
      unfold mz
      go_upto_region 23 with (fail)
      rw [<-qE,<-jL]
      clear qE jL
      go_upto_region 24 with (fail)
      go_cut [137] (fun v wx=>v=.bool false/\Below w9.heap.size w9 wx)
      case first=>
       skip
       as_aux_lemma=>
        have dH:¬((k:Int)<=(n:Int)):=by omega
        have Yr:(n:Int)<(k:Int):=by omega
        have sU:¬(br<=last):=by omega
        have ma:¬(now<br):=by omega
        clear FJ yB
        have yM:Hid (Below w9.heap.size w9 w9.drew):=Lib.hid ⟨rfl,rfl,rfl,Nat.le_refl _,fun _ _=>rfl⟩
        have vK:=Lib.hid (fun wx (hx:Below w9.heap.size w9 wx)=>show (fun w'=>w'.cell? ⟨eb,0,none⟩=some (.int .i64 1)/\w'.cell? ⟨eb,1,none⟩=some (.int .i64 n)/\w'.cell? ⟨eb,2,none⟩=some (.int .i64 ck)/\w'.cell? ⟨eb,3,none⟩=some (.string key)/\w'.cell? ⟨eb,4,none⟩=some (.string val)/\w'.cell? ⟨eb,5,none⟩=some (.int .i64 z)/\w'.cell? ⟨eb,6,none⟩=some (.int .i64 br)/\w'.cell? ⟨eb,7,none⟩=some (.int .i64 now)/\w'.cell? ⟨eb,8,none⟩=some (.int .i64 ye)/\w'.cell? ⟨eb,9,none⟩=some (.bool yh)/\w'.cell? ⟨eb,10,none⟩=some (.string yv)/\w'.cell? ⟨b,of+n*4,none⟩=some (.int .i64 ck)/\w'.cell? ⟨b,of+n*4+1,none⟩=some (.string key)/\w'.cell? ⟨b,of+n*4+2,none⟩=some (.string val)/\w'.cell? ⟨b,of+n*4+3,none⟩=some (.int .i64 z)/\w'.cell? ⟨rb,n*3,none⟩=some (.int .i64 ye)/\w'.cell? ⟨rb,n*3+1,none⟩=some (.bool yh)/\w'.cell? ⟨rb,n*3+2,none⟩=some (.string yv)) wx from by
         obtain ⟨⟨⟨g0,g1,g2,g3,g4,g5,g6,g7,g8,g9,g10⟩,gl⟩,⟨l0,l1,l2,l3⟩,ll⟩:=FH.out wx hx
         obtain ⟨⟨r0,r1,r2⟩,rl⟩:=FI.out wx hx
         exact ⟨g0,g1,g2,g3,g4,g5,g6,g7,g8,g9,g10,l0,l1,l2,l3,r0,r1,r2⟩)
        have LV:=Lib.hid (vK.out _ yM.out)
        clear FH FI
        simp only [List.append_eq,List.cons_append,List.nil_append]
        cases bg
        case true=>
         skip
         as_aux_lemma=>
          refine wp_region_noPanic ?_
          refine sB (fun w'=>w'.cell? ⟨eb,0,none⟩=some (.int .i64 1)/\w'.cell? ⟨eb,1,none⟩=some (.int .i64 n)/\w'.cell? ⟨eb,2,none⟩=some (.int .i64 ck)/\w'.cell? ⟨eb,3,none⟩=some (.string key)/\w'.cell? ⟨eb,4,none⟩=some (.string val)/\w'.cell? ⟨eb,5,none⟩=some (.int .i64 z)/\w'.cell? ⟨eb,6,none⟩=some (.int .i64 br)/\w'.cell? ⟨eb,7,none⟩=some (.int .i64 now)/\w'.cell? ⟨eb,8,none⟩=some (.int .i64 ye)/\w'.cell? ⟨eb,9,none⟩=some (.bool yh)/\w'.cell? ⟨eb,10,none⟩=some (.string yv)/\w'.cell? ⟨b,of+n*4,none⟩=some (.int .i64 ck)/\w'.cell? ⟨b,of+n*4+1,none⟩=some (.string key)/\w'.cell? ⟨b,of+n*4+2,none⟩=some (.string val)/\w'.cell? ⟨b,of+n*4+3,none⟩=some (.int .i64 z)/\w'.cell? ⟨rb,n*3,none⟩=some (.int .i64 ye)/\w'.cell? ⟨rb,n*3+1,none⟩=some (.bool yh)/\w'.cell? ⟨rb,n*3+2,none⟩=some (.string yv)) (fun _=>false) (by kernel_rfl) ?_
          have aZ:=LV.out
          refine aG (i:=0) (oi:=⟨some 71,_,_,_,_,_⟩) (v:=.int .i64 n) (by rfl) (by kernel_rfl) (by kernel_rfl) (by kernel_rfl) rfl (fun _ _ _ h=>h.elim) (Or.inl ⟨by rfl,by intro w' _; go_simp⟩) aZ ?_
          try simp only [Act.put,List.setIfInBounds_toArray,List.set_cons_zero,List.set_cons_succ]
          refine aG (i:=1) (oi:=⟨some 72,_,_,_,_,_⟩) (v:=.slice (some ⟨b,of,none⟩) k cap) (by rfl) (by kernel_rfl) (by kernel_rfl) (by kernel_rfl) rfl (fun _ _ _ h=>h.elim) (Or.inl ⟨by rfl,by intro w' _; go_simp⟩) aZ ?_
          try simp only [Act.put,List.setIfInBounds_toArray,List.set_cons_zero,List.set_cons_succ]
          refine aG (i:=2) (oi:=⟨some 73,_,_,_,_,_⟩) (v:=.int .i64 k) (by rfl) (by kernel_rfl) (by kernel_rfl) (by kernel_rfl) rfl (fun _ _ _ h=>h.elim) (Or.inl ⟨by rfl,by intro w' _; go_simp⟩) aZ ?_
          try simp only [Act.put,List.setIfInBounds_toArray,List.set_cons_zero,List.set_cons_succ]
          refine aG (i:=3) (oi:=⟨some 74,_,_,_,_,_⟩) (v:=.bool false) (by rfl) (by kernel_rfl) (by kernel_rfl) (by kernel_rfl) rfl (fun _ _ _ h=>h.elim) (Or.inl ⟨by rfl,by intro w' _; go_simp⟩) aZ ?_
          try simp only [Act.put,List.setIfInBounds_toArray,List.set_cons_zero,List.set_cons_succ]
          refine aG (i:=4) (oi:=⟨some 75,_,_,_,_,_⟩) (v:=.bool false) (by rfl) (by kernel_rfl) (by kernel_rfl) (by kernel_rfl) rfl (fun _ _ _ h=>h.elim) (Or.inl ⟨by rfl,by intro w' _; go_simp⟩) aZ ?_
          try simp only [Act.put,List.setIfInBounds_toArray,List.set_cons_zero,List.set_cons_succ]
          refine aG (i:=5) (oi:=⟨some 76,_,_,_,_,_⟩) (v:=.pointer (some ⟨eb,0,none⟩)) (by rfl) (by kernel_rfl) (by kernel_rfl) (by kernel_rfl) rfl (fun _ _ _ h=>h.elim) (Or.inl ⟨by rfl,by intro w' _; go_simp⟩) aZ ?_
          try simp only [Act.put,List.setIfInBounds_toArray,List.set_cons_zero,List.set_cons_succ]
          refine fP (i:=6) (oi:=⟨some 77,_,_,_,_,_⟩) (v:=.int .i64 1) (by rfl) (by kernel_rfl) (by kernel_rfl) (by kernel_rfl) rfl (by intro j hj; simp at hj) (fun _ _ _ h=>h.elim) (Or.inl ⟨by rfl,by intro w' cZ; obtain ⟨g0,g1,g2,g3,g4,g5,g6,g7,g8,g9,g10,l0,l1,l2,l3,r0,r1,r2⟩:=cZ; go_simp⟩) aZ ?_
          try simp only [Act.put,List.setIfInBounds_toArray,List.set_cons_zero,List.set_cons_succ]
          refine aG (i:=7) (oi:=⟨some 78,_,_,_,_,_⟩) (v:=.bool false) (by rfl) (by kernel_rfl) (by kernel_rfl) (by kernel_rfl) rfl (fun _ _ _ h=>h.elim) (Or.inl ⟨by rfl,by intro w' _; go_simp⟩) aZ ?_
          try simp only [Act.put,List.setIfInBounds_toArray,List.set_cons_zero,List.set_cons_succ]
          refine aG (i:=8) (oi:=⟨some 79,_,_,_,_,_⟩) (v:=.bool false) (by rfl) (by kernel_rfl) (by kernel_rfl) (by kernel_rfl) rfl (fun _ _ _ h=>h.elim) (Or.inl ⟨by rfl,by intro w' _; go_simp⟩) aZ ?_
          try simp only [Act.put,List.setIfInBounds_toArray,List.set_cons_zero,List.set_cons_succ]
          refine aG (i:=9) (oi:=⟨some 80,_,_,_,_,_⟩) (v:=.bool false) (by rfl) (by kernel_rfl) (by kernel_rfl) (by kernel_rfl) rfl (fun _ _ _ h=>h.elim) (Or.inl ⟨by rfl,by intro w' _; go_simp⟩) aZ ?_
          try simp only [Act.put,List.setIfInBounds_toArray,List.set_cons_zero,List.set_cons_succ]
          refine aG (i:=10) (oi:=⟨some 81,_,_,_,_,_⟩) (v:=.pointer (some ⟨eb,1,none⟩)) (by rfl) (by kernel_rfl) (by kernel_rfl) (by kernel_rfl) rfl (fun _ _ _ h=>h.elim) (Or.inl ⟨by rfl,by intro w' _; go_simp⟩) aZ ?_
          try simp only [Act.put,List.setIfInBounds_toArray,List.set_cons_zero,List.set_cons_succ]
          refine fP (i:=11) (oi:=⟨some 82,_,_,_,_,_⟩) (v:=.int .i64 n) (by rfl) (by kernel_rfl) (by kernel_rfl) (by kernel_rfl) rfl (by intro j hj; simp at hj) (fun _ _ _ h=>h.elim) (Or.inl ⟨by rfl,by intro w' cZ; obtain ⟨g0,g1,g2,g3,g4,g5,g6,g7,g8,g9,g10,l0,l1,l2,l3,r0,r1,r2⟩:=cZ; go_simp⟩) aZ ?_
          try simp only [Act.put,List.setIfInBounds_toArray,List.set_cons_zero,List.set_cons_succ]
          refine aG (i:=12) (oi:=⟨some 83,_,_,_,_,_⟩) (v:=.int .i64 n) (by rfl) (by kernel_rfl) (by kernel_rfl) (by kernel_rfl) rfl (fun _ _ _ h=>h.elim) (Or.inl ⟨by rfl,by intro w' _; go_simp⟩) aZ ?_
          try simp only [Act.put,List.setIfInBounds_toArray,List.set_cons_zero,List.set_cons_succ]
          refine aG (i:=13) (oi:=⟨some 84,_,_,_,_,_⟩) (v:=.bool false) (by rfl) (by kernel_rfl) (by kernel_rfl) (by kernel_rfl) rfl (fun _ _ _ h=>h.elim) (Or.inl ⟨by rfl,by intro w' _; go_simp⟩) aZ ?_
          try simp only [Act.put,List.setIfInBounds_toArray,List.set_cons_zero,List.set_cons_succ]
          refine aG (i:=14) (oi:=⟨some 85,_,_,_,_,_⟩) (v:=.bool false) (by rfl) (by kernel_rfl) (by kernel_rfl) (by kernel_rfl) rfl (fun _ _ _ h=>h.elim) (Or.inl ⟨by rfl,by intro w' _; go_simp⟩) aZ ?_
          try simp only [Act.put,List.setIfInBounds_toArray,List.set_cons_zero,List.set_cons_succ]
          refine aG (i:=15) (oi:=⟨some 86,_,_,_,_,_⟩) (v:=.bool false) (by rfl) (by kernel_rfl) (by kernel_rfl) (by kernel_rfl) rfl (fun _ _ _ h=>h.elim) (Or.inl ⟨by rfl,by intro w' _; go_simp⟩) aZ ?_
          try simp only [Act.put,List.setIfInBounds_toArray,List.set_cons_zero,List.set_cons_succ]
          refine aG (i:=16) (oi:=⟨some 87,_,_,_,_,_⟩) (v:=.pointer (some ⟨eb,2,none⟩)) (by rfl) (by kernel_rfl) (by kernel_rfl) (by kernel_rfl) rfl (fun _ _ _ h=>h.elim) (Or.inl ⟨by rfl,by intro w' _; go_simp⟩) aZ ?_
          try simp only [Act.put,List.setIfInBounds_toArray,List.set_cons_zero,List.set_cons_succ]
          refine fP (i:=17) (oi:=⟨some 88,_,_,_,_,_⟩) (v:=.agg #[.int .i64 ck,.string key,.string val,.int .i64 z]) (by rfl) (by kernel_rfl) (by kernel_rfl) (by kernel_rfl) rfl (by intro j hj; simp at hj) (fun _ _ _ h=>h.elim) (Or.inl ⟨by rfl,by intro w' cZ; obtain ⟨g0,g1,g2,g3,g4,g5,g6,g7,g8,g9,g10,l0,l1,l2,l3,r0,r1,r2⟩:=cZ; go_simp⟩) aZ ?_
          try simp only [Act.put,List.setIfInBounds_toArray,List.set_cons_zero,List.set_cons_succ]
          refine aG (i:=18) (oi:=⟨some 89,_,_,_,_,_⟩) (v:=.slice (some ⟨b,of,none⟩) k cap) (by rfl) (by kernel_rfl) (by kernel_rfl) (by kernel_rfl) rfl (fun _ _ _ h=>h.elim) (Or.inl ⟨by rfl,by intro w' _; go_simp⟩) aZ ?_
          try simp only [Act.put,List.setIfInBounds_toArray,List.set_cons_zero,List.set_cons_succ]
          refine aG (i:=19) (oi:=⟨some 90,_,_,_,_,_⟩) (v:=.int .i64 n) (by rfl) (by kernel_rfl) (by kernel_rfl) (by kernel_rfl) rfl (fun _ _ _ h=>h.elim) (Or.inl ⟨by rfl,by intro w' _; go_simp⟩) aZ ?_
          try simp only [Act.put,List.setIfInBounds_toArray,List.set_cons_zero,List.set_cons_succ]
          refine aG (i:=20) (oi:=⟨some 91,_,_,_,_,_⟩) (v:=.pointer (some ⟨b,of+n*4,none⟩)) (by rfl) (by kernel_rfl) (by kernel_rfl) (by kernel_rfl) rfl (fun _ _ _ h=>h.elim) (Or.inl ⟨by rfl,by intro w' _; go_simp⟩) aZ ?_
          try simp only [Act.put,List.setIfInBounds_toArray,List.set_cons_zero,List.set_cons_succ]
          refine fP (i:=21) (oi:=⟨some 92,_,_,_,_,_⟩) (v:=.agg #[.int .i64 ck,.string key,.string val,.int .i64 z]) (by rfl) (by kernel_rfl) (by kernel_rfl) (by kernel_rfl) rfl (by intro j hj; simp at hj) (fun _ _ _ h=>h.elim) (Or.inl ⟨by rfl,by intro w' cZ; obtain ⟨g0,g1,g2,g3,g4,g5,g6,g7,g8,g9,g10,l0,l1,l2,l3,r0,r1,r2⟩:=cZ; go_simp⟩) aZ ?_
          try simp only [Act.put,List.setIfInBounds_toArray,List.set_cons_zero,List.set_cons_succ]
          refine aG (i:=22) (oi:=⟨some 93,_,_,_,_,_⟩) (v:=.bool false) (by rfl) (by kernel_rfl) (by kernel_rfl) (by kernel_rfl) rfl (fun _ _ _ h=>h.elim) (Or.inl ⟨by rfl,by intro w' _; go_simp⟩) aZ ?_
          try simp only [Act.put,List.setIfInBounds_toArray,List.set_cons_zero,List.set_cons_succ]
          refine aG (i:=23) (oi:=⟨some 94,_,_,_,_,_⟩) (v:=.bool false) (by rfl) (by kernel_rfl) (by kernel_rfl) (by kernel_rfl) rfl (fun _ _ _ h=>h.elim) (Or.inl ⟨by rfl,by intro w' _; go_simp⟩) aZ ?_
          try simp only [Act.put,List.setIfInBounds_toArray,List.set_cons_zero,List.set_cons_succ]
          refine aG (i:=24) (oi:=⟨some 95,_,_,_,_,_⟩) (v:=.bool false) (by rfl) (by kernel_rfl) (by kernel_rfl) (by kernel_rfl) rfl (fun _ _ _ h=>h.elim) (Or.inl ⟨by rfl,by intro w' _; go_simp⟩) aZ ?_
          try simp only [Act.put,List.setIfInBounds_toArray,List.set_cons_zero,List.set_cons_succ]
          refine aG (i:=25) (oi:=⟨some 96,_,_,_,_,_⟩) (v:=.pointer (some ⟨eb,6,none⟩)) (by rfl) (by kernel_rfl) (by kernel_rfl) (by kernel_rfl) rfl (fun _ _ _ h=>h.elim) (Or.inl ⟨by rfl,by intro w' _; go_simp⟩) aZ ?_
          try simp only [Act.put,List.setIfInBounds_toArray,List.set_cons_zero,List.set_cons_succ]
          refine fP (i:=26) (oi:=⟨some 97,_,_,_,_,_⟩) (v:=.int .i64 br) (by rfl) (by kernel_rfl) (by kernel_rfl) (by kernel_rfl) rfl (by intro j hj; simp at hj) (fun _ _ _ h=>h.elim) (Or.inl ⟨by rfl,by intro w' cZ; obtain ⟨g0,g1,g2,g3,g4,g5,g6,g7,g8,g9,g10,l0,l1,l2,l3,r0,r1,r2⟩:=cZ; go_simp⟩) aZ ?_
          try simp only [Act.put,List.setIfInBounds_toArray,List.set_cons_zero,List.set_cons_succ]
          refine aG (i:=27) (oi:=⟨some 98,_,_,_,_,_⟩) (v:=.int .i64 last) (by rfl) (by kernel_rfl) (by kernel_rfl) (by kernel_rfl) rfl (fun _ _ _ h=>h.elim) (Or.inl ⟨by rfl,by intro w' _; go_simp⟩) aZ ?_
          try simp only [Act.put,List.setIfInBounds_toArray,List.set_cons_zero,List.set_cons_succ]
          refine aG (i:=28) (oi:=⟨some 99,_,_,_,_,_⟩) (v:=.bool false) (by rfl) (by kernel_rfl) (by kernel_rfl) (by kernel_rfl) rfl (fun _ _ _ h=>h.elim) (Or.inl ⟨by rfl,by intro w' _; go_simp⟩) aZ ?_
          try simp only [Act.put,List.setIfInBounds_toArray,List.set_cons_zero,List.set_cons_succ]
          refine aG (i:=29) (oi:=⟨some 100,_,_,_,_,_⟩) (v:=.bool false) (by rfl) (by kernel_rfl) (by kernel_rfl) (by kernel_rfl) rfl (fun _ _ _ h=>h.elim) (Or.inl ⟨by rfl,by intro w' _; go_simp⟩) aZ ?_
          try simp only [Act.put,List.setIfInBounds_toArray,List.set_cons_zero,List.set_cons_succ]
          refine aG (i:=30) (oi:=⟨some 101,_,_,_,_,_⟩) (v:=.bool false) (by rfl) (by kernel_rfl) (by kernel_rfl) (by kernel_rfl) rfl (fun _ _ _ h=>h.elim) (Or.inl ⟨by rfl,by intro w' _; go_simp⟩) aZ ?_
          try simp only [Act.put,List.setIfInBounds_toArray,List.set_cons_zero,List.set_cons_succ]
          refine aG (i:=31) (oi:=⟨some 102,_,_,_,_,_⟩) (v:=.pointer (some ⟨eb,7,none⟩)) (by rfl) (by kernel_rfl) (by kernel_rfl) (by kernel_rfl) rfl (fun _ _ _ h=>h.elim) (Or.inl ⟨by rfl,by intro w' _; go_simp⟩) aZ ?_
          try simp only [Act.put,List.setIfInBounds_toArray,List.set_cons_zero,List.set_cons_succ]
          refine fP (i:=32) (oi:=⟨some 103,_,_,_,_,_⟩) (v:=.int .i64 now) (by rfl) (by kernel_rfl) (by kernel_rfl) (by kernel_rfl) rfl (by intro j hj; simp at hj) (fun _ _ _ h=>h.elim) (Or.inl ⟨by rfl,by intro w' cZ; obtain ⟨g0,g1,g2,g3,g4,g5,g6,g7,g8,g9,g10,l0,l1,l2,l3,r0,r1,r2⟩:=cZ; go_simp⟩) aZ ?_
          try simp only [Act.put,List.setIfInBounds_toArray,List.set_cons_zero,List.set_cons_succ]
          refine aG (i:=33) (oi:=⟨some 104,_,_,_,_,_⟩) (v:=.int .i64 now) (by rfl) (by kernel_rfl) (by kernel_rfl) (by kernel_rfl) rfl (fun _ _ _ h=>h.elim) (Or.inl ⟨by rfl,by intro w' _; go_simp⟩) aZ ?_
          try simp only [Act.put,List.setIfInBounds_toArray,List.set_cons_zero,List.set_cons_succ]
          refine aG (i:=34) (oi:=⟨some 105,_,_,_,_,_⟩) (v:=.bool false) (by rfl) (by kernel_rfl) (by kernel_rfl) (by kernel_rfl) rfl (fun _ _ _ h=>h.elim) (Or.inl ⟨by rfl,by intro w' _; go_simp⟩) aZ ?_
          try simp only [Act.put,List.setIfInBounds_toArray,List.set_cons_zero,List.set_cons_succ]
          refine aG (i:=35) (oi:=⟨some 106,_,_,_,_,_⟩) (v:=.bool false) (by rfl) (by kernel_rfl) (by kernel_rfl) (by kernel_rfl) rfl (fun _ _ _ h=>h.elim) (Or.inl ⟨by rfl,by intro w' _; go_simp⟩) aZ ?_
          try simp only [Act.put,List.setIfInBounds_toArray,List.set_cons_zero,List.set_cons_succ]
          refine aG (i:=36) (oi:=⟨some 107,_,_,_,_,_⟩) (v:=.bool false) (by rfl) (by kernel_rfl) (by kernel_rfl) (by kernel_rfl) rfl (fun _ _ _ h=>h.elim) (Or.inl ⟨by rfl,by intro w' _; go_simp⟩) aZ ?_
          try simp only [Act.put,List.setIfInBounds_toArray,List.set_cons_zero,List.set_cons_succ]
          refine aG (i:=37) (oi:=⟨some 108,_,_,_,_,_⟩) (v:=.pointer (some ⟨eb,7,none⟩)) (by rfl) (by kernel_rfl) (by kernel_rfl) (by kernel_rfl) rfl (fun _ _ _ h=>h.elim) (Or.inl ⟨by rfl,by intro w' _; go_simp⟩) aZ ?_
          try simp only [Act.put,List.setIfInBounds_toArray,List.set_cons_zero,List.set_cons_succ]
          refine fP (i:=38) (oi:=⟨some 109,_,_,_,_,_⟩) (v:=.int .i64 now) (by rfl) (by kernel_rfl) (by kernel_rfl) (by kernel_rfl) rfl (by intro j hj; simp at hj) (fun _ _ _ h=>h.elim) (Or.inl ⟨by rfl,by intro w' cZ; obtain ⟨g0,g1,g2,g3,g4,g5,g6,g7,g8,g9,g10,l0,l1,l2,l3,r0,r1,r2⟩:=cZ; go_simp⟩) aZ ?_
          try simp only [Act.put,List.setIfInBounds_toArray,List.set_cons_zero,List.set_cons_succ]
          refine aG (i:=39) (oi:=⟨some 110,_,_,_,_,_⟩) (v:=.pointer (some ⟨eb,6,none⟩)) (by rfl) (by kernel_rfl) (by kernel_rfl) (by kernel_rfl) rfl (fun _ _ _ h=>h.elim) (Or.inl ⟨by rfl,by intro w' _; go_simp⟩) aZ ?_
          try simp only [Act.put,List.setIfInBounds_toArray,List.set_cons_zero,List.set_cons_succ]
          refine fP (i:=40) (oi:=⟨some 111,_,_,_,_,_⟩) (v:=.int .i64 br) (by rfl) (by kernel_rfl) (by kernel_rfl) (by kernel_rfl) rfl (by intro j hj; simp at hj) (fun _ _ _ h=>h.elim) (Or.inl ⟨by rfl,by intro w' cZ; obtain ⟨g0,g1,g2,g3,g4,g5,g6,g7,g8,g9,g10,l0,l1,l2,l3,r0,r1,r2⟩:=cZ; go_simp⟩) aZ ?_
          try simp only [Act.put,List.setIfInBounds_toArray,List.set_cons_zero,List.set_cons_succ]
          refine aG (i:=41) (oi:=⟨some 112,_,_,_,_,_⟩) (v:=.bool false) (by rfl) (by kernel_rfl) (by kernel_rfl) (by kernel_rfl) rfl (fun _ _ _ h=>h.elim) (Or.inl ⟨by rfl,by intro w' _; go_simp⟩) aZ ?_
          try simp only [Act.put,List.setIfInBounds_toArray,List.set_cons_zero,List.set_cons_succ]
          refine aG (i:=42) (oi:=⟨some 113,_,_,_,_,_⟩) (v:=.bool false) (by rfl) (by kernel_rfl) (by kernel_rfl) (by kernel_rfl) rfl (fun _ _ _ h=>h.elim) (Or.inl ⟨by rfl,by intro w' _; go_simp⟩) aZ ?_
          try simp only [Act.put,List.setIfInBounds_toArray,List.set_cons_zero,List.set_cons_succ]
          refine aG (i:=43) (oi:=⟨some 114,_,_,_,_,_⟩) (v:=.bool false) (by rfl) (by kernel_rfl) (by kernel_rfl) (by kernel_rfl) rfl (fun _ _ _ h=>h.elim) (Or.inl ⟨by rfl,by intro w' _; go_simp⟩) aZ ?_
          try simp only [Act.put,List.setIfInBounds_toArray,List.set_cons_zero,List.set_cons_succ]
          refine aG (i:=44) (oi:=⟨some 115,_,_,_,_,_⟩) (v:=.pointer (some ⟨eb,8,none⟩)) (by rfl) (by kernel_rfl) (by kernel_rfl) (by kernel_rfl) rfl (fun _ _ _ h=>h.elim) (Or.inl ⟨by rfl,by intro w' _; go_simp⟩) aZ ?_
          try simp only [Act.put,List.setIfInBounds_toArray,List.set_cons_zero,List.set_cons_succ]
          refine fP (i:=45) (oi:=⟨some 116,_,_,_,_,_⟩) (v:=.agg #[.int .i64 ye,.bool yh,.string yv]) (by rfl) (by kernel_rfl) (by kernel_rfl) (by kernel_rfl) rfl (by intro j hj; simp at hj) (fun _ _ _ h=>h.elim) (Or.inl ⟨by rfl,by intro w' cZ; obtain ⟨g0,g1,g2,g3,g4,g5,g6,g7,g8,g9,g10,l0,l1,l2,l3,r0,r1,r2⟩:=cZ; go_simp⟩) aZ ?_
          try simp only [Act.put,List.setIfInBounds_toArray,List.set_cons_zero,List.set_cons_succ]
          refine aG (i:=47) (oi:=⟨some 118,_,_,_,_,_⟩) (v:=.slice (some ⟨rb,0,none⟩) k capW) (by rfl) (by kernel_rfl) (by kernel_rfl) (by kernel_rfl) rfl (fun _ _ _ h=>h.elim) (Or.inl ⟨by rfl,by intro w' _; go_simp⟩) aZ ?_
          try simp only [Act.put,List.setIfInBounds_toArray,List.set_cons_zero,List.set_cons_succ]
          refine aG (i:=48) (oi:=⟨some 119,_,_,_,_,_⟩) (v:=.int .i64 n) (by rfl) (by kernel_rfl) (by kernel_rfl) (by kernel_rfl) rfl (fun _ _ _ h=>h.elim) (Or.inl ⟨by rfl,by intro w' _; go_simp⟩) aZ ?_
          try simp only [Act.put,List.setIfInBounds_toArray,List.set_cons_zero,List.set_cons_succ]
          refine aG (i:=49) (oi:=⟨some 120,_,_,_,_,_⟩) (v:=.pointer (some ⟨rb,n*3,none⟩)) (by rfl) (by kernel_rfl) (by kernel_rfl) (by kernel_rfl) rfl (fun _ _ _ h=>h.elim) (Or.inl ⟨by rfl,by intro w' _; go_simp⟩) aZ ?_
          try simp only [Act.put,List.setIfInBounds_toArray,List.set_cons_zero,List.set_cons_succ]
          refine fP (i:=50) (oi:=⟨some 121,_,_,_,_,_⟩) (v:=.agg #[.int .i64 ye,.bool yh,.string yv]) (by rfl) (by kernel_rfl) (by kernel_rfl) (by kernel_rfl) rfl (by intro j hj; simp at hj) (fun _ _ _ h=>h.elim) (Or.inl ⟨by rfl,by intro w' cZ; obtain ⟨g0,g1,g2,g3,g4,g5,g6,g7,g8,g9,g10,l0,l1,l2,l3,r0,r1,r2⟩:=cZ; go_simp⟩) aZ ?_
          try simp only [Act.put,List.setIfInBounds_toArray,List.set_cons_zero,List.set_cons_succ]
          refine lj (i:=46) (o:=⟨some 117,_,_,_,_,_⟩) (by kernel_rfl) (by rfl) rfl ?_
          intro K hK
          go_simp
          refine (FK.out _).mono ?_
          rintro e wa ⟨rfl,FL⟩
          have av:=yM.out.trans (FL.mono yM.out.size)
          have iP:=vK.out wa av
          refine hK _ _ iP ?_
          clear hK
          try simp only [Act.put,List.setIfInBounds_toArray,List.set_cons_zero,List.set_cons_succ]
          refine aG (i:=51) (oi:=⟨some 122,_,_,_,_,_⟩) (v:=.bool false) (by rfl) (by kernel_rfl) (by kernel_rfl) (by kernel_rfl) rfl (fun _ _ _ h=>h.elim) (Or.inl ⟨by rfl,by intro w' _; go_simp⟩) iP ?_
          try simp only [Act.put,List.setIfInBounds_toArray,List.set_cons_zero,List.set_cons_succ]
          refine aG (i:=52) (oi:=⟨some 123,_,_,_,_,_⟩) (v:=.bool false) (by rfl) (by kernel_rfl) (by kernel_rfl) (by kernel_rfl) rfl (fun _ _ _ h=>h.elim) (Or.inl ⟨by rfl,by intro w' _; go_simp⟩) iP ?_
          try simp only [Act.put,List.setIfInBounds_toArray,List.set_cons_zero,List.set_cons_succ]
          refine aG (i:=53) (oi:=⟨some 124,_,_,_,_,_⟩) (v:=.bool false) (by rfl) (by kernel_rfl) (by kernel_rfl) (by kernel_rfl) rfl (fun _ _ _ h=>h.elim) (Or.inl ⟨by rfl,by intro w' _; go_simp⟩) iP ?_
          try simp only [Act.put,List.setIfInBounds_toArray,List.set_cons_zero,List.set_cons_succ]
          refine aG (i:=54) (oi:=⟨some 125,_,_,_,_,_⟩) (v:=ptr f) (by rfl) (by kernel_rfl) (by kernel_rfl) (by kernel_rfl) rfl (fun _ _ _ h=>h.elim) (Or.inl ⟨by rfl,by intro w' _; go_simp⟩) iP ?_
          try simp only [Act.put,List.setIfInBounds_toArray,List.set_cons_zero,List.set_cons_succ]
          refine lj (i:=55) (o:=⟨some 126,_,_,_,_,_⟩) (by kernel_rfl) (by rfl) rfl ?_
          intro K hK
          go_simp
          refine (qD.out _ av).mono ?_
          rintro e wb ⟨rfl,ml⟩
          have au:=av.trans (ml.mono av.size)
          have dO:=vK.out wb au
          refine hK _ _ dO ?_
          clear hK
          try simp only [Act.put,List.setIfInBounds_toArray,List.set_cons_zero,List.set_cons_succ]
          refine aG (i:=56) (oi:=⟨some 127,_,_,_,_,_⟩) (v:=.bool false) (by rfl) (by kernel_rfl) (by kernel_rfl) (by kernel_rfl) rfl (fun _ _ _ h=>h.elim) (Or.inl ⟨by rfl,by intro w' _; go_simp⟩) dO ?_
          try simp only [Act.put,List.setIfInBounds_toArray,List.set_cons_zero,List.set_cons_succ]
          refine aG (i:=57) (oi:=⟨some 128,_,_,_,_,_⟩) (v:=.bool false) (by rfl) (by kernel_rfl) (by kernel_rfl) (by kernel_rfl) rfl (fun _ _ _ h=>h.elim) (Or.inl ⟨by rfl,by intro w' _; go_simp⟩) dO ?_
          try simp only [Act.put,List.setIfInBounds_toArray,List.set_cons_zero,List.set_cons_succ]
          refine aG (i:=58) (oi:=⟨some 129,_,_,_,_,_⟩) (v:=.bool false) (by rfl) (by kernel_rfl) (by kernel_rfl) (by kernel_rfl) rfl (fun _ _ _ h=>h.elim) (Or.inl ⟨by rfl,by intro w' _; go_simp⟩) dO ?_
          try simp only [Act.put,List.setIfInBounds_toArray,List.set_cons_zero,List.set_cons_succ]
          refine aG (i:=59) (oi:=⟨some 130,_,_,_,_,_⟩) (v:=.bool true) (by rfl) (by kernel_rfl) (by kernel_rfl) (by kernel_rfl) rfl (fun _ _ _ h=>h.elim) (Or.inl ⟨by rfl,by intro w' _; go_simp⟩) dO ?_
          try simp only [Act.put,List.setIfInBounds_toArray,List.set_cons_zero,List.set_cons_succ]
          refine aG (i:=60) (oi:=⟨some 131,_,_,_,_,_⟩) (v:=.bool false) (by rfl) (by kernel_rfl) (by kernel_rfl) (by kernel_rfl) rfl (fun _ _ _ h=>h.elim) (Or.inl ⟨by rfl,by intro w' _; go_simp⟩) dO ?_
          try simp only [Act.put,List.setIfInBounds_toArray,List.set_cons_zero,List.set_cons_succ]
          refine aG (i:=61) (oi:=⟨some 132,_,_,_,_,_⟩) (v:=.bool false) (by rfl) (by kernel_rfl) (by kernel_rfl) (by kernel_rfl) rfl (fun _ _ _ h=>h.elim) (Or.inl ⟨by rfl,by intro w' _; go_simp⟩) dO ?_
          try simp only [Act.put,List.setIfInBounds_toArray,List.set_cons_zero,List.set_cons_succ]
          refine aG (i:=62) (oi:=⟨some 133,_,_,_,_,_⟩) (v:=undef) (by rfl) (by kernel_rfl) (by kernel_rfl) (by kernel_rfl) rfl (fun _ _ _ h=>h.elim) (Or.inr ⟨by rfl,by rfl⟩) dO ?_
          try simp only [Act.put,List.setIfInBounds_toArray,List.set_cons_zero,List.set_cons_succ]
          refine aG (i:=63) (oi:=⟨some 134,_,_,_,_,_⟩) (v:=undef) (by rfl) (by kernel_rfl) (by kernel_rfl) (by kernel_rfl) rfl (fun _ _ _ h=>h.elim) (Or.inr ⟨by rfl,by rfl⟩) dO ?_
          try simp only [Act.put,List.setIfInBounds_toArray,List.set_cons_zero,List.set_cons_succ]
          refine aG (i:=64) (oi:=⟨some 135,_,_,_,_,_⟩) (v:=undef) (by rfl) (by kernel_rfl) (by kernel_rfl) (by kernel_rfl) rfl (fun _ _ _ h=>h.elim) (Or.inr ⟨by rfl,by rfl⟩) dO ?_
          try simp only [Act.put,List.setIfInBounds_toArray,List.set_cons_zero,List.set_cons_succ]
          refine aG (i:=65) (oi:=⟨some 136,_,_,_,_,_⟩) (v:=.bool false) (by rfl) (by kernel_rfl) (by kernel_rfl) (by kernel_rfl) rfl (fun _ _ _ h=>h.elim) (Or.inl ⟨by rfl,by intro w' _; go_simp⟩) dO ?_
          try simp only [Act.put,List.setIfInBounds_toArray,List.set_cons_zero,List.set_cons_succ]
          refine aG (i:=66) (oi:=⟨some 137,_,_,_,_,_⟩) (v:=.bool false) (by rfl) (by kernel_rfl) (by kernel_rfl) (by kernel_rfl) rfl (fun _ _ _ h=>h.elim) (Or.inl ⟨by rfl,by intro w' _; go_simp⟩) dO ?_
          try simp only [Act.put,List.setIfInBounds_toArray,List.set_cons_zero,List.set_cons_succ]
          refine ⟨by kernel_rfl,?_⟩
          refine NoPanic.normal ?_
          go_wp2_with fail
          go_meet
          exact ⟨by simp,au⟩
        case false=>
         skip
         as_aux_lemma=>
          refine wp_region_noPanic ?_
          refine sB (fun w'=>w'.cell? ⟨eb,0,none⟩=some (.int .i64 1)/\w'.cell? ⟨eb,1,none⟩=some (.int .i64 n)/\w'.cell? ⟨eb,2,none⟩=some (.int .i64 ck)/\w'.cell? ⟨eb,3,none⟩=some (.string key)/\w'.cell? ⟨eb,4,none⟩=some (.string val)/\w'.cell? ⟨eb,5,none⟩=some (.int .i64 z)/\w'.cell? ⟨eb,6,none⟩=some (.int .i64 br)/\w'.cell? ⟨eb,7,none⟩=some (.int .i64 now)/\w'.cell? ⟨eb,8,none⟩=some (.int .i64 ye)/\w'.cell? ⟨eb,9,none⟩=some (.bool yh)/\w'.cell? ⟨eb,10,none⟩=some (.string yv)/\w'.cell? ⟨b,of+n*4,none⟩=some (.int .i64 ck)/\w'.cell? ⟨b,of+n*4+1,none⟩=some (.string key)/\w'.cell? ⟨b,of+n*4+2,none⟩=some (.string val)/\w'.cell? ⟨b,of+n*4+3,none⟩=some (.int .i64 z)/\w'.cell? ⟨rb,n*3,none⟩=some (.int .i64 ye)/\w'.cell? ⟨rb,n*3+1,none⟩=some (.bool yh)/\w'.cell? ⟨rb,n*3+2,none⟩=some (.string yv)) (fun _=>false) (by kernel_rfl) ?_
          have aZ:=LV.out
          refine aG (i:=0) (oi:=⟨some 71,_,_,_,_,_⟩) (v:=.int .i64 n) (by rfl) (by kernel_rfl) (by kernel_rfl) (by kernel_rfl) rfl (fun _ _ _ h=>h.elim) (Or.inl ⟨by rfl,by intro w' _; go_simp⟩) aZ ?_
          try simp only [Act.put,List.setIfInBounds_toArray,List.set_cons_zero,List.set_cons_succ]
          refine aG (i:=1) (oi:=⟨some 72,_,_,_,_,_⟩) (v:=.slice (some ⟨b,of,none⟩) k cap) (by rfl) (by kernel_rfl) (by kernel_rfl) (by kernel_rfl) rfl (fun _ _ _ h=>h.elim) (Or.inl ⟨by rfl,by intro w' _; go_simp⟩) aZ ?_
          try simp only [Act.put,List.setIfInBounds_toArray,List.set_cons_zero,List.set_cons_succ]
          refine aG (i:=2) (oi:=⟨some 73,_,_,_,_,_⟩) (v:=.int .i64 k) (by rfl) (by kernel_rfl) (by kernel_rfl) (by kernel_rfl) rfl (fun _ _ _ h=>h.elim) (Or.inl ⟨by rfl,by intro w' _; go_simp⟩) aZ ?_
          try simp only [Act.put,List.setIfInBounds_toArray,List.set_cons_zero,List.set_cons_succ]
          refine aG (i:=3) (oi:=⟨some 74,_,_,_,_,_⟩) (v:=.bool false) (by rfl) (by kernel_rfl) (by kernel_rfl) (by kernel_rfl) rfl (fun _ _ _ h=>h.elim) (Or.inl ⟨by rfl,by intro w' _; go_simp⟩) aZ ?_
          try simp only [Act.put,List.setIfInBounds_toArray,List.set_cons_zero,List.set_cons_succ]
          refine aG (i:=4) (oi:=⟨some 75,_,_,_,_,_⟩) (v:=.bool false) (by rfl) (by kernel_rfl) (by kernel_rfl) (by kernel_rfl) rfl (fun _ _ _ h=>h.elim) (Or.inl ⟨by rfl,by intro w' _; go_simp⟩) aZ ?_
          try simp only [Act.put,List.setIfInBounds_toArray,List.set_cons_zero,List.set_cons_succ]
          refine aG (i:=5) (oi:=⟨some 76,_,_,_,_,_⟩) (v:=.pointer (some ⟨eb,0,none⟩)) (by rfl) (by kernel_rfl) (by kernel_rfl) (by kernel_rfl) rfl (fun _ _ _ h=>h.elim) (Or.inl ⟨by rfl,by intro w' _; go_simp⟩) aZ ?_
          try simp only [Act.put,List.setIfInBounds_toArray,List.set_cons_zero,List.set_cons_succ]
          refine fP (i:=6) (oi:=⟨some 77,_,_,_,_,_⟩) (v:=.int .i64 1) (by rfl) (by kernel_rfl) (by kernel_rfl) (by kernel_rfl) rfl (by intro j hj; simp at hj) (fun _ _ _ h=>h.elim) (Or.inl ⟨by rfl,by intro w' cZ; obtain ⟨g0,g1,g2,g3,g4,g5,g6,g7,g8,g9,g10,l0,l1,l2,l3,r0,r1,r2⟩:=cZ; go_simp⟩) aZ ?_
          try simp only [Act.put,List.setIfInBounds_toArray,List.set_cons_zero,List.set_cons_succ]
          refine aG (i:=7) (oi:=⟨some 78,_,_,_,_,_⟩) (v:=.bool false) (by rfl) (by kernel_rfl) (by kernel_rfl) (by kernel_rfl) rfl (fun _ _ _ h=>h.elim) (Or.inl ⟨by rfl,by intro w' _; go_simp⟩) aZ ?_
          try simp only [Act.put,List.setIfInBounds_toArray,List.set_cons_zero,List.set_cons_succ]
          refine aG (i:=8) (oi:=⟨some 79,_,_,_,_,_⟩) (v:=.bool false) (by rfl) (by kernel_rfl) (by kernel_rfl) (by kernel_rfl) rfl (fun _ _ _ h=>h.elim) (Or.inl ⟨by rfl,by intro w' _; go_simp⟩) aZ ?_
          try simp only [Act.put,List.setIfInBounds_toArray,List.set_cons_zero,List.set_cons_succ]
          refine aG (i:=9) (oi:=⟨some 80,_,_,_,_,_⟩) (v:=.bool false) (by rfl) (by kernel_rfl) (by kernel_rfl) (by kernel_rfl) rfl (fun _ _ _ h=>h.elim) (Or.inl ⟨by rfl,by intro w' _; go_simp⟩) aZ ?_
          try simp only [Act.put,List.setIfInBounds_toArray,List.set_cons_zero,List.set_cons_succ]
          refine aG (i:=10) (oi:=⟨some 81,_,_,_,_,_⟩) (v:=.pointer (some ⟨eb,1,none⟩)) (by rfl) (by kernel_rfl) (by kernel_rfl) (by kernel_rfl) rfl (fun _ _ _ h=>h.elim) (Or.inl ⟨by rfl,by intro w' _; go_simp⟩) aZ ?_
          try simp only [Act.put,List.setIfInBounds_toArray,List.set_cons_zero,List.set_cons_succ]
          refine fP (i:=11) (oi:=⟨some 82,_,_,_,_,_⟩) (v:=.int .i64 n) (by rfl) (by kernel_rfl) (by kernel_rfl) (by kernel_rfl) rfl (by intro j hj; simp at hj) (fun _ _ _ h=>h.elim) (Or.inl ⟨by rfl,by intro w' cZ; obtain ⟨g0,g1,g2,g3,g4,g5,g6,g7,g8,g9,g10,l0,l1,l2,l3,r0,r1,r2⟩:=cZ; go_simp⟩) aZ ?_
          try simp only [Act.put,List.setIfInBounds_toArray,List.set_cons_zero,List.set_cons_succ]
          refine aG (i:=12) (oi:=⟨some 83,_,_,_,_,_⟩) (v:=.int .i64 n) (by rfl) (by kernel_rfl) (by kernel_rfl) (by kernel_rfl) rfl (fun _ _ _ h=>h.elim) (Or.inl ⟨by rfl,by intro w' _; go_simp⟩) aZ ?_
          try simp only [Act.put,List.setIfInBounds_toArray,List.set_cons_zero,List.set_cons_succ]
          refine aG (i:=13) (oi:=⟨some 84,_,_,_,_,_⟩) (v:=.bool false) (by rfl) (by kernel_rfl) (by kernel_rfl) (by kernel_rfl) rfl (fun _ _ _ h=>h.elim) (Or.inl ⟨by rfl,by intro w' _; go_simp⟩) aZ ?_
          try simp only [Act.put,List.setIfInBounds_toArray,List.set_cons_zero,List.set_cons_succ]
          refine aG (i:=14) (oi:=⟨some 85,_,_,_,_,_⟩) (v:=.bool false) (by rfl) (by kernel_rfl) (by kernel_rfl) (by kernel_rfl) rfl (fun _ _ _ h=>h.elim) (Or.inl ⟨by rfl,by intro w' _; go_simp⟩) aZ ?_
          try simp only [Act.put,List.setIfInBounds_toArray,List.set_cons_zero,List.set_cons_succ]
          refine aG (i:=15) (oi:=⟨some 86,_,_,_,_,_⟩) (v:=.bool false) (by rfl) (by kernel_rfl) (by kernel_rfl) (by kernel_rfl) rfl (fun _ _ _ h=>h.elim) (Or.inl ⟨by rfl,by intro w' _; go_simp⟩) aZ ?_
          try simp only [Act.put,List.setIfInBounds_toArray,List.set_cons_zero,List.set_cons_succ]
          refine aG (i:=16) (oi:=⟨some 87,_,_,_,_,_⟩) (v:=.pointer (some ⟨eb,2,none⟩)) (by rfl) (by kernel_rfl) (by kernel_rfl) (by kernel_rfl) rfl (fun _ _ _ h=>h.elim) (Or.inl ⟨by rfl,by intro w' _; go_simp⟩) aZ ?_
          try simp only [Act.put,List.setIfInBounds_toArray,List.set_cons_zero,List.set_cons_succ]
          refine fP (i:=17) (oi:=⟨some 88,_,_,_,_,_⟩) (v:=.agg #[.int .i64 ck,.string key,.string val,.int .i64 z]) (by rfl) (by kernel_rfl) (by kernel_rfl) (by kernel_rfl) rfl (by intro j hj; simp at hj) (fun _ _ _ h=>h.elim) (Or.inl ⟨by rfl,by intro w' cZ; obtain ⟨g0,g1,g2,g3,g4,g5,g6,g7,g8,g9,g10,l0,l1,l2,l3,r0,r1,r2⟩:=cZ; go_simp⟩) aZ ?_
          try simp only [Act.put,List.setIfInBounds_toArray,List.set_cons_zero,List.set_cons_succ]
          refine aG (i:=18) (oi:=⟨some 89,_,_,_,_,_⟩) (v:=.slice (some ⟨b,of,none⟩) k cap) (by rfl) (by kernel_rfl) (by kernel_rfl) (by kernel_rfl) rfl (fun _ _ _ h=>h.elim) (Or.inl ⟨by rfl,by intro w' _; go_simp⟩) aZ ?_
          try simp only [Act.put,List.setIfInBounds_toArray,List.set_cons_zero,List.set_cons_succ]
          refine aG (i:=19) (oi:=⟨some 90,_,_,_,_,_⟩) (v:=.int .i64 n) (by rfl) (by kernel_rfl) (by kernel_rfl) (by kernel_rfl) rfl (fun _ _ _ h=>h.elim) (Or.inl ⟨by rfl,by intro w' _; go_simp⟩) aZ ?_
          try simp only [Act.put,List.setIfInBounds_toArray,List.set_cons_zero,List.set_cons_succ]
          refine aG (i:=20) (oi:=⟨some 91,_,_,_,_,_⟩) (v:=.pointer (some ⟨b,of+n*4,none⟩)) (by rfl) (by kernel_rfl) (by kernel_rfl) (by kernel_rfl) rfl (fun _ _ _ h=>h.elim) (Or.inl ⟨by rfl,by intro w' _; go_simp⟩) aZ ?_
          try simp only [Act.put,List.setIfInBounds_toArray,List.set_cons_zero,List.set_cons_succ]
          refine fP (i:=21) (oi:=⟨some 92,_,_,_,_,_⟩) (v:=.agg #[.int .i64 ck,.string key,.string val,.int .i64 z]) (by rfl) (by kernel_rfl) (by kernel_rfl) (by kernel_rfl) rfl (by intro j hj; simp at hj) (fun _ _ _ h=>h.elim) (Or.inl ⟨by rfl,by intro w' cZ; obtain ⟨g0,g1,g2,g3,g4,g5,g6,g7,g8,g9,g10,l0,l1,l2,l3,r0,r1,r2⟩:=cZ; go_simp⟩) aZ ?_
          try simp only [Act.put,List.setIfInBounds_toArray,List.set_cons_zero,List.set_cons_succ]
          refine aG (i:=22) (oi:=⟨some 93,_,_,_,_,_⟩) (v:=.bool false) (by rfl) (by kernel_rfl) (by kernel_rfl) (by kernel_rfl) rfl (fun _ _ _ h=>h.elim) (Or.inl ⟨by rfl,by intro w' _; go_simp⟩) aZ ?_
          try simp only [Act.put,List.setIfInBounds_toArray,List.set_cons_zero,List.set_cons_succ]
          refine aG (i:=23) (oi:=⟨some 94,_,_,_,_,_⟩) (v:=.bool false) (by rfl) (by kernel_rfl) (by kernel_rfl) (by kernel_rfl) rfl (fun _ _ _ h=>h.elim) (Or.inl ⟨by rfl,by intro w' _; go_simp⟩) aZ ?_
          try simp only [Act.put,List.setIfInBounds_toArray,List.set_cons_zero,List.set_cons_succ]
          refine aG (i:=24) (oi:=⟨some 95,_,_,_,_,_⟩) (v:=.bool false) (by rfl) (by kernel_rfl) (by kernel_rfl) (by kernel_rfl) rfl (fun _ _ _ h=>h.elim) (Or.inl ⟨by rfl,by intro w' _; go_simp⟩) aZ ?_
          try simp only [Act.put,List.setIfInBounds_toArray,List.set_cons_zero,List.set_cons_succ]
          refine aG (i:=25) (oi:=⟨some 96,_,_,_,_,_⟩) (v:=.pointer (some ⟨eb,6,none⟩)) (by rfl) (by kernel_rfl) (by kernel_rfl) (by kernel_rfl) rfl (fun _ _ _ h=>h.elim) (Or.inl ⟨by rfl,by intro w' _; go_simp⟩) aZ ?_
          try simp only [Act.put,List.setIfInBounds_toArray,List.set_cons_zero,List.set_cons_succ]
          refine fP (i:=26) (oi:=⟨some 97,_,_,_,_,_⟩) (v:=.int .i64 br) (by rfl) (by kernel_rfl) (by kernel_rfl) (by kernel_rfl) rfl (by intro j hj; simp at hj) (fun _ _ _ h=>h.elim) (Or.inl ⟨by rfl,by intro w' cZ; obtain ⟨g0,g1,g2,g3,g4,g5,g6,g7,g8,g9,g10,l0,l1,l2,l3,r0,r1,r2⟩:=cZ; go_simp⟩) aZ ?_
          try simp only [Act.put,List.setIfInBounds_toArray,List.set_cons_zero,List.set_cons_succ]
          refine aG (i:=27) (oi:=⟨some 98,_,_,_,_,_⟩) (v:=.int .i64 last) (by rfl) (by kernel_rfl) (by kernel_rfl) (by kernel_rfl) rfl (fun _ _ _ h=>h.elim) (Or.inl ⟨by rfl,by intro w' _; go_simp⟩) aZ ?_
          try simp only [Act.put,List.setIfInBounds_toArray,List.set_cons_zero,List.set_cons_succ]
          refine aG (i:=28) (oi:=⟨some 99,_,_,_,_,_⟩) (v:=.bool false) (by rfl) (by kernel_rfl) (by kernel_rfl) (by kernel_rfl) rfl (fun _ _ _ h=>h.elim) (Or.inl ⟨by rfl,by intro w' _; go_simp⟩) aZ ?_
          try simp only [Act.put,List.setIfInBounds_toArray,List.set_cons_zero,List.set_cons_succ]
          refine aG (i:=29) (oi:=⟨some 100,_,_,_,_,_⟩) (v:=.bool false) (by rfl) (by kernel_rfl) (by kernel_rfl) (by kernel_rfl) rfl (fun _ _ _ h=>h.elim) (Or.inl ⟨by rfl,by intro w' _; go_simp⟩) aZ ?_
          try simp only [Act.put,List.setIfInBounds_toArray,List.set_cons_zero,List.set_cons_succ]
          refine aG (i:=30) (oi:=⟨some 101,_,_,_,_,_⟩) (v:=.bool false) (by rfl) (by kernel_rfl) (by kernel_rfl) (by kernel_rfl) rfl (fun _ _ _ h=>h.elim) (Or.inl ⟨by rfl,by intro w' _; go_simp⟩) aZ ?_
          try simp only [Act.put,List.setIfInBounds_toArray,List.set_cons_zero,List.set_cons_succ]
          refine aG (i:=31) (oi:=⟨some 102,_,_,_,_,_⟩) (v:=.pointer (some ⟨eb,7,none⟩)) (by rfl) (by kernel_rfl) (by kernel_rfl) (by kernel_rfl) rfl (fun _ _ _ h=>h.elim) (Or.inl ⟨by rfl,by intro w' _; go_simp⟩) aZ ?_
          try simp only [Act.put,List.setIfInBounds_toArray,List.set_cons_zero,List.set_cons_succ]
          refine fP (i:=32) (oi:=⟨some 103,_,_,_,_,_⟩) (v:=.int .i64 now) (by rfl) (by kernel_rfl) (by kernel_rfl) (by kernel_rfl) rfl (by intro j hj; simp at hj) (fun _ _ _ h=>h.elim) (Or.inl ⟨by rfl,by intro w' cZ; obtain ⟨g0,g1,g2,g3,g4,g5,g6,g7,g8,g9,g10,l0,l1,l2,l3,r0,r1,r2⟩:=cZ; go_simp⟩) aZ ?_
          try simp only [Act.put,List.setIfInBounds_toArray,List.set_cons_zero,List.set_cons_succ]
          refine aG (i:=33) (oi:=⟨some 104,_,_,_,_,_⟩) (v:=.int .i64 now) (by rfl) (by kernel_rfl) (by kernel_rfl) (by kernel_rfl) rfl (fun _ _ _ h=>h.elim) (Or.inl ⟨by rfl,by intro w' _; go_simp⟩) aZ ?_
          try simp only [Act.put,List.setIfInBounds_toArray,List.set_cons_zero,List.set_cons_succ]
          refine aG (i:=34) (oi:=⟨some 105,_,_,_,_,_⟩) (v:=.bool false) (by rfl) (by kernel_rfl) (by kernel_rfl) (by kernel_rfl) rfl (fun _ _ _ h=>h.elim) (Or.inl ⟨by rfl,by intro w' _; go_simp⟩) aZ ?_
          try simp only [Act.put,List.setIfInBounds_toArray,List.set_cons_zero,List.set_cons_succ]
          refine aG (i:=35) (oi:=⟨some 106,_,_,_,_,_⟩) (v:=.bool false) (by rfl) (by kernel_rfl) (by kernel_rfl) (by kernel_rfl) rfl (fun _ _ _ h=>h.elim) (Or.inl ⟨by rfl,by intro w' _; go_simp⟩) aZ ?_
          try simp only [Act.put,List.setIfInBounds_toArray,List.set_cons_zero,List.set_cons_succ]
          refine aG (i:=36) (oi:=⟨some 107,_,_,_,_,_⟩) (v:=.bool false) (by rfl) (by kernel_rfl) (by kernel_rfl) (by kernel_rfl) rfl (fun _ _ _ h=>h.elim) (Or.inl ⟨by rfl,by intro w' _; go_simp⟩) aZ ?_
          try simp only [Act.put,List.setIfInBounds_toArray,List.set_cons_zero,List.set_cons_succ]
          refine aG (i:=37) (oi:=⟨some 108,_,_,_,_,_⟩) (v:=.pointer (some ⟨eb,7,none⟩)) (by rfl) (by kernel_rfl) (by kernel_rfl) (by kernel_rfl) rfl (fun _ _ _ h=>h.elim) (Or.inl ⟨by rfl,by intro w' _; go_simp⟩) aZ ?_
          try simp only [Act.put,List.setIfInBounds_toArray,List.set_cons_zero,List.set_cons_succ]
          refine fP (i:=38) (oi:=⟨some 109,_,_,_,_,_⟩) (v:=.int .i64 now) (by rfl) (by kernel_rfl) (by kernel_rfl) (by kernel_rfl) rfl (by intro j hj; simp at hj) (fun _ _ _ h=>h.elim) (Or.inl ⟨by rfl,by intro w' cZ; obtain ⟨g0,g1,g2,g3,g4,g5,g6,g7,g8,g9,g10,l0,l1,l2,l3,r0,r1,r2⟩:=cZ; go_simp⟩) aZ ?_
          try simp only [Act.put,List.setIfInBounds_toArray,List.set_cons_zero,List.set_cons_succ]
          refine aG (i:=39) (oi:=⟨some 110,_,_,_,_,_⟩) (v:=.pointer (some ⟨eb,6,none⟩)) (by rfl) (by kernel_rfl) (by kernel_rfl) (by kernel_rfl) rfl (fun _ _ _ h=>h.elim) (Or.inl ⟨by rfl,by intro w' _; go_simp⟩) aZ ?_
          try simp only [Act.put,List.setIfInBounds_toArray,List.set_cons_zero,List.set_cons_succ]
          refine fP (i:=40) (oi:=⟨some 111,_,_,_,_,_⟩) (v:=.int .i64 br) (by rfl) (by kernel_rfl) (by kernel_rfl) (by kernel_rfl) rfl (by intro j hj; simp at hj) (fun _ _ _ h=>h.elim) (Or.inl ⟨by rfl,by intro w' cZ; obtain ⟨g0,g1,g2,g3,g4,g5,g6,g7,g8,g9,g10,l0,l1,l2,l3,r0,r1,r2⟩:=cZ; go_simp⟩) aZ ?_
          try simp only [Act.put,List.setIfInBounds_toArray,List.set_cons_zero,List.set_cons_succ]
          refine aG (i:=41) (oi:=⟨some 112,_,_,_,_,_⟩) (v:=.bool false) (by rfl) (by kernel_rfl) (by kernel_rfl) (by kernel_rfl) rfl (fun _ _ _ h=>h.elim) (Or.inl ⟨by rfl,by intro w' _; go_simp⟩) aZ ?_
          try simp only [Act.put,List.setIfInBounds_toArray,List.set_cons_zero,List.set_cons_succ]
          refine aG (i:=42) (oi:=⟨some 113,_,_,_,_,_⟩) (v:=.bool false) (by rfl) (by kernel_rfl) (by kernel_rfl) (by kernel_rfl) rfl (fun _ _ _ h=>h.elim) (Or.inl ⟨by rfl,by intro w' _; go_simp⟩) aZ ?_
          try simp only [Act.put,List.setIfInBounds_toArray,List.set_cons_zero,List.set_cons_succ]
          refine aG (i:=43) (oi:=⟨some 114,_,_,_,_,_⟩) (v:=.bool false) (by rfl) (by kernel_rfl) (by kernel_rfl) (by kernel_rfl) rfl (fun _ _ _ h=>h.elim) (Or.inl ⟨by rfl,by intro w' _; go_simp⟩) aZ ?_
          try simp only [Act.put,List.setIfInBounds_toArray,List.set_cons_zero,List.set_cons_succ]
          refine aG (i:=44) (oi:=⟨some 115,_,_,_,_,_⟩) (v:=.pointer (some ⟨eb,8,none⟩)) (by rfl) (by kernel_rfl) (by kernel_rfl) (by kernel_rfl) rfl (fun _ _ _ h=>h.elim) (Or.inl ⟨by rfl,by intro w' _; go_simp⟩) aZ ?_
          try simp only [Act.put,List.setIfInBounds_toArray,List.set_cons_zero,List.set_cons_succ]
          refine fP (i:=45) (oi:=⟨some 116,_,_,_,_,_⟩) (v:=.agg #[.int .i64 ye,.bool yh,.string yv]) (by rfl) (by kernel_rfl) (by kernel_rfl) (by kernel_rfl) rfl (by intro j hj; simp at hj) (fun _ _ _ h=>h.elim) (Or.inl ⟨by rfl,by intro w' cZ; obtain ⟨g0,g1,g2,g3,g4,g5,g6,g7,g8,g9,g10,l0,l1,l2,l3,r0,r1,r2⟩:=cZ; go_simp⟩) aZ ?_
          try simp only [Act.put,List.setIfInBounds_toArray,List.set_cons_zero,List.set_cons_succ]
          refine aG (i:=47) (oi:=⟨some 118,_,_,_,_,_⟩) (v:=.slice (some ⟨rb,0,none⟩) k capW) (by rfl) (by kernel_rfl) (by kernel_rfl) (by kernel_rfl) rfl (fun _ _ _ h=>h.elim) (Or.inl ⟨by rfl,by intro w' _; go_simp⟩) aZ ?_
          try simp only [Act.put,List.setIfInBounds_toArray,List.set_cons_zero,List.set_cons_succ]
          refine aG (i:=48) (oi:=⟨some 119,_,_,_,_,_⟩) (v:=.int .i64 n) (by rfl) (by kernel_rfl) (by kernel_rfl) (by kernel_rfl) rfl (fun _ _ _ h=>h.elim) (Or.inl ⟨by rfl,by intro w' _; go_simp⟩) aZ ?_
          try simp only [Act.put,List.setIfInBounds_toArray,List.set_cons_zero,List.set_cons_succ]
          refine aG (i:=49) (oi:=⟨some 120,_,_,_,_,_⟩) (v:=.pointer (some ⟨rb,n*3,none⟩)) (by rfl) (by kernel_rfl) (by kernel_rfl) (by kernel_rfl) rfl (fun _ _ _ h=>h.elim) (Or.inl ⟨by rfl,by intro w' _; go_simp⟩) aZ ?_
          try simp only [Act.put,List.setIfInBounds_toArray,List.set_cons_zero,List.set_cons_succ]
          refine fP (i:=50) (oi:=⟨some 121,_,_,_,_,_⟩) (v:=.agg #[.int .i64 ye,.bool yh,.string yv]) (by rfl) (by kernel_rfl) (by kernel_rfl) (by kernel_rfl) rfl (by intro j hj; simp at hj) (fun _ _ _ h=>h.elim) (Or.inl ⟨by rfl,by intro w' cZ; obtain ⟨g0,g1,g2,g3,g4,g5,g6,g7,g8,g9,g10,l0,l1,l2,l3,r0,r1,r2⟩:=cZ; go_simp⟩) aZ ?_
          try simp only [Act.put,List.setIfInBounds_toArray,List.set_cons_zero,List.set_cons_succ]
          refine lj (i:=46) (o:=⟨some 117,_,_,_,_,_⟩) (by kernel_rfl) (by rfl) rfl ?_
          intro K hK
          go_simp
          refine (FK.out _).mono ?_
          rintro e wa ⟨rfl,FL⟩
          have av:=yM.out.trans (FL.mono yM.out.size)
          have iP:=vK.out wa av
          refine hK _ _ iP ?_
          clear hK
          try simp only [Act.put,List.setIfInBounds_toArray,List.set_cons_zero,List.set_cons_succ]
          refine aG (i:=51) (oi:=⟨some 122,_,_,_,_,_⟩) (v:=.bool false) (by rfl) (by kernel_rfl) (by kernel_rfl) (by kernel_rfl) rfl (fun _ _ _ h=>h.elim) (Or.inl ⟨by rfl,by intro w' _; go_simp⟩) iP ?_
          try simp only [Act.put,List.setIfInBounds_toArray,List.set_cons_zero,List.set_cons_succ]
          refine aG (i:=52) (oi:=⟨some 123,_,_,_,_,_⟩) (v:=.bool false) (by rfl) (by kernel_rfl) (by kernel_rfl) (by kernel_rfl) rfl (fun _ _ _ h=>h.elim) (Or.inl ⟨by rfl,by intro w' _; go_simp⟩) iP ?_
          try simp only [Act.put,List.setIfInBounds_toArray,List.set_cons_zero,List.set_cons_succ]
          refine aG (i:=53) (oi:=⟨some 124,_,_,_,_,_⟩) (v:=.bool false) (by rfl) (by kernel_rfl) (by kernel_rfl) (by kernel_rfl) rfl (fun _ _ _ h=>h.elim) (Or.inl ⟨by rfl,by intro w' _; go_simp⟩) iP ?_
          try simp only [Act.put,List.setIfInBounds_toArray,List.set_cons_zero,List.set_cons_succ]
          refine aG (i:=54) (oi:=⟨some 125,_,_,_,_,_⟩) (v:=ptr f) (by rfl) (by kernel_rfl) (by kernel_rfl) (by kernel_rfl) rfl (fun _ _ _ h=>h.elim) (Or.inl ⟨by rfl,by intro w' _; go_simp⟩) iP ?_
          try simp only [Act.put,List.setIfInBounds_toArray,List.set_cons_zero,List.set_cons_succ]
          refine lj (i:=55) (o:=⟨some 126,_,_,_,_,_⟩) (by kernel_rfl) (by rfl) rfl ?_
          intro K hK
          go_simp
          refine (qD.out _ av).mono ?_
          rintro e wb ⟨rfl,ml⟩
          have au:=av.trans (ml.mono av.size)
          have dO:=vK.out wb au
          refine hK _ _ dO ?_
          clear hK
          try simp only [Act.put,List.setIfInBounds_toArray,List.set_cons_zero,List.set_cons_succ]
          refine aG (i:=56) (oi:=⟨some 127,_,_,_,_,_⟩) (v:=.bool false) (by rfl) (by kernel_rfl) (by kernel_rfl) (by kernel_rfl) rfl (fun _ _ _ h=>h.elim) (Or.inl ⟨by rfl,by intro w' _; go_simp⟩) dO ?_
          try simp only [Act.put,List.setIfInBounds_toArray,List.set_cons_zero,List.set_cons_succ]
          refine aG (i:=57) (oi:=⟨some 128,_,_,_,_,_⟩) (v:=.bool false) (by rfl) (by kernel_rfl) (by kernel_rfl) (by kernel_rfl) rfl (fun _ _ _ h=>h.elim) (Or.inl ⟨by rfl,by intro w' _; go_simp⟩) dO ?_
          try simp only [Act.put,List.setIfInBounds_toArray,List.set_cons_zero,List.set_cons_succ]
          refine aG (i:=58) (oi:=⟨some 129,_,_,_,_,_⟩) (v:=.bool false) (by rfl) (by kernel_rfl) (by kernel_rfl) (by kernel_rfl) rfl (fun _ _ _ h=>h.elim) (Or.inl ⟨by rfl,by intro w' _; go_simp⟩) dO ?_
          try simp only [Act.put,List.setIfInBounds_toArray,List.set_cons_zero,List.set_cons_succ]
          refine aG (i:=59) (oi:=⟨some 130,_,_,_,_,_⟩) (v:=.bool false) (by rfl) (by kernel_rfl) (by kernel_rfl) (by kernel_rfl) rfl (fun _ _ _ h=>h.elim) (Or.inl ⟨by rfl,by intro w' _; go_simp⟩) dO ?_
          try simp only [Act.put,List.setIfInBounds_toArray,List.set_cons_zero,List.set_cons_succ]
          refine aG (i:=60) (oi:=⟨some 131,_,_,_,_,_⟩) (v:=.bool true) (by rfl) (by kernel_rfl) (by kernel_rfl) (by kernel_rfl) rfl (fun _ _ _ h=>h.elim) (Or.inl ⟨by rfl,by intro w' _; go_simp⟩) dO ?_
          try simp only [Act.put,List.setIfInBounds_toArray,List.set_cons_zero,List.set_cons_succ]
          refine aG (i:=61) (oi:=⟨some 132,_,_,_,_,_⟩) (v:=.bool true) (by rfl) (by kernel_rfl) (by kernel_rfl) (by kernel_rfl) rfl (fun _ _ _ h=>h.elim) (Or.inl ⟨by rfl,by intro w' _; go_simp⟩) dO ?_
          try simp only [Act.put,List.setIfInBounds_toArray,List.set_cons_zero,List.set_cons_succ]
          refine aG (i:=62) (oi:=⟨some 133,_,_,_,_,_⟩) (v:=ptr f) (by rfl) (by kernel_rfl) (by kernel_rfl) (by kernel_rfl) rfl (fun _ _ _ h=>h.elim) (Or.inl ⟨by rfl,by intro w' _; go_simp⟩) dO ?_
          try simp only [Act.put,List.setIfInBounds_toArray,List.set_cons_zero,List.set_cons_succ]
          refine lj (i:=63) (o:=⟨some 134,_,_,_,_,_⟩) (by kernel_rfl) (by rfl) rfl ?_
          intro K hK
          go_simp
          refine (qD.out _ au).mono ?_
          rintro e wd ⟨rfl,gH⟩
          have aR:=au.trans (gH.mono au.size)
          have eN:=vK.out wd aR
          refine hK _ _ eN ?_
          clear hK
          try simp only [Act.put,List.setIfInBounds_toArray,List.set_cons_zero,List.set_cons_succ]
          refine aG (i:=64) (oi:=⟨some 135,_,_,_,_,_⟩) (v:=.bool false) (by rfl) (by kernel_rfl) (by kernel_rfl) (by kernel_rfl) rfl (fun _ _ _ h=>h.elim) (Or.inl ⟨by rfl,by intro w' _; go_simp⟩) eN ?_
          try simp only [Act.put,List.setIfInBounds_toArray,List.set_cons_zero,List.set_cons_succ]
          refine aG (i:=65) (oi:=⟨some 136,_,_,_,_,_⟩) (v:=.bool false) (by rfl) (by kernel_rfl) (by kernel_rfl) (by kernel_rfl) rfl (fun _ _ _ h=>h.elim) (Or.inl ⟨by rfl,by intro w' _; go_simp⟩) eN ?_
          try simp only [Act.put,List.setIfInBounds_toArray,List.set_cons_zero,List.set_cons_succ]
          refine aG (i:=66) (oi:=⟨some 137,_,_,_,_,_⟩) (v:=.bool false) (by rfl) (by kernel_rfl) (by kernel_rfl) (by kernel_rfl) rfl (fun _ _ _ h=>h.elim) (Or.inl ⟨by rfl,by intro w' _; go_simp⟩) eN ?_
          try simp only [Act.put,List.setIfInBounds_toArray,List.set_cons_zero,List.set_cons_succ]
          refine ⟨by kernel_rfl,?_⟩
          refine NoPanic.normal ?_
          go_wp2_with fail
          go_meet
          exact ⟨by simp,aR⟩
      case rest=>
       obtain ⟨rfl,m6⟩:=hcut
       obtain ⟨wq,XM⟩:∃ wq,wq=wc:=⟨_,rfl⟩
       subst XM
       have XN:=Lib.hid (FJ.out wq m6)
       clear FJ FH FI qD FK m6
       go_wp2_with fail
       go_roundw
       case rel=>exact ⟨st+1,n+1,now,now+d,by go_num,by go_num,rfl,XN.out⟩
       case measure=>simp [intOf]; omega
    ·skip
     skip
     as_aux_lemma=>
      obtain ⟨w9,qE⟩:∃ w9,w9=w8.alloc (.cells #[.int .i64 0,.int .i64 0,.int .i64 0,.string ⟨#[]⟩,.string ⟨#[]⟩,.int .i64 0,.int .i64 0,.int .i64 0,.int .i64 0,.bool false,.string ⟨#[]⟩] 46):=⟨_,rfl⟩
      have jR:af w9 w8.heap.size 46 #[.int .i64 0,.int .i64 0,.int .i64 0,.string ⟨#[]⟩,.string ⟨#[]⟩,.int .i64 0,.int .i64 0,.int .i64 0,.int .i64 0,.bool false,.string ⟨#[]⟩]:=by rw [qE]; exact af.made w8 _ _
      have XO:=Lib.hid (oG.down (w':=w9) (by rw [qE]; exact below_1 _ _))
      obtain ⟨eb,jL⟩:∃ eb,eb=w8.heap.size:=⟨_,rfl⟩
      rw [<-jL] at jR
      have g0:=jR.cell 0
      have g1:=jR.cell 1
      have g2:=jR.cell 2
      have g3:=jR.cell 3
      have g4:=jR.cell 4
      have g5:=jR.cell 5
      have g6:=jR.cell 6
      have g7:=jR.cell 7
      have g8:=jR.cell 8
      have g9:=jR.cell 9
      have g10:=jR.cell 10
      simp at g0 g1 g2 g3 g4 g5 g6 g7 g8 g9 g10
      have gl:=jR.lt
      clear jR oG tN kv hP
      unfold sg mz
      go_upto_region 23 with (fail)
      rw [<-qE,<-jL]
      clear qE jL
      go_wp2_with fail
      go_roundw
      case rel=>exact ⟨st+1,n,last,now+d,by go_num,rfl,rfl,XO.out⟩
      case measure=>simp [intOf]; omega
end Go.Proofs.YtpanebgakndddaaGreat.Wo
namespace Go.Proofs.YtpanebgakndddaaGreat.LK
open Go.RowKit Go.WideShapes Go.ChangeShapes
theorem Gk:reachBytes<=140737488355328:=by decide
theorem UR {H:Type} {P:Program} {e:TypeId} {l:List (DataW H)} {d:DataW H} (h:d∈l) (n:Nat) (hn:n∈d.weights P e):n∈DataW.weightsAll P e l:=by
 induction l with
 | nil=>cases h
 | cons x r ih=>
   simp only [DataW.weightsAll,List.mem_append]
   rcases List.mem_cons.1 h with rfl | h
   ·exact .inl hn
   ·exact .inr (ih h)
theorem M7 {H:Type} {enc:TypeId×Value->H} {P:Program} {w:World} {base:Nat} {spare:Nat->Bool} {held:Bool} {r:Reach} {b0:Nat} {t e:TypeId} {fs:Array Field} {v:Value} {d:DataW H} {p:List MemPlace}
 (ht:P.underlying t=some (.slice e)) (he:P.underlying e=some (.struct fs)) (lH:Go.Deep.oneCellFields P fs=true) (hC:P.cellsOf e=fs.size) (h0:0<fs.size)
 (hv:Value.okWide P w r b0 t v) (h:DataW.Trod enc P w base spare held t v d p):
 ∃ (A:Option Addr) (len cap:Nat),v=.slice A len cap/\len<=maxLen/\∀ i,i<len->∃ b o:Nat,A=some ⟨b,o,none⟩/\b<w.heap.size/\
   ∀ (j:Nat) (f:Field),fs[j]?=some f->∃ (u:Value) (n:Nat) (y:DataW H×List MemPlace),w.cell? ⟨b,o+(i*fs.size+j),none⟩=some u/\DataW.trod enc P w base spare held n f.type [u]=some y/\∀ k∈y.1.weights P f.type,k∈d.weights P t:=by
 obtain ⟨A,len,cap,rfl⟩:=okWide_slice ht hv
 obtain ⟨fuel,hf⟩:=h
 have bo:(Value.slice A len cap).cells.toList=[.slice A len cap]:=rfl
 rw [bo] at hf
 rcases Go.Deep.open_slice ht hf with ⟨h0,_⟩ | ⟨a,len',cap',m,n,D,Pl,Xy,_,hl,hm,vc,hx,hi⟩
 ·injection h0 with h0 _
  injection h0 with h1 h2 h3
  subst h1; subst h2; subst h3
  exact ⟨_,_,_,rfl,by simp [maxLen],fun i hi=>by omega⟩
 ·injection Xy with h0 _
  injection h0 with h1 h2 h3
  subst h1; subst h2; subst h3
  injection hx with hd _
  have Xz:len<=m:=by rw [vc]; split<;>omega
  have fld:∀ i,i<len->∀ (j:Nat) (f:Field),fs[j]?=some f->∃ (u:Value) (n:Nat) (y:DataW H×List MemPlace),w.cell? (a.add (i*fs.size+j))=some u/\DataW.trod enc P w base spare held n f.type [u]=some y/\∀ k∈y.1.weights P f.type,k∈d.weights P t:=by
   intro i aV j f hj
   obtain ⟨cs',hc,Fo⟩:=hi i (by omega)
   rw [hC] at hc
   obtain ⟨ys,n',_,Fp,hlen,Yn,fS⟩:=DataW.trod_struct he Fo
   obtain ⟨_,mQ,cr⟩:=World.cells?_some hc
   obtain ⟨ho,hk⟩:=Go.Deep.hone_of lH j f hj
   have mn:j<fs.size:=(Array.getElem?_eq_some_iff.1 hj).1
   have vw:=cr j mn
   have hv:cs'[j]?=some (cs'[j]'(by omega)):=List.getElem?_eq_getElem (by omega)
   have h1:=fS j f hj
   rw [ho,hk] at h1
   have XA:(cs'.drop j).take 1=[cs'[j]'(by omega)]:=by
    rw [List.drop_eq_getElem_cons (by omega)]
    rfl
   rw [XA] at h1
   have LG:ys[j]?=some (ys[j]'(by omega)):=List.getElem?_eq_getElem (by omega)
   refine ⟨_,_,_,?_,h1.trans LG,fun k kg=>?_⟩
   ·rw [<-Go.Deep.add_add,vw,hv]
   ·injection Fp with Fp _
    rw [hd]
    simp only [DataW.weights,ht,List.mem_cons,List.mem_append]
    refine .inr (.inl (UR (d:=D i) (List.mem_map.2 ⟨i,List.mem_range.2 aV,rfl⟩) k ?_))
    rw [Fp]
    simp only [DataW.weights,he]
    exact DataW.weights_mem_each (j:=j) (by simp [hj]) (by simp [LG]) k kg
  refine ⟨_,_,_,rfl,Nat.le_trans hl hm,fun i aV=>?_⟩
  obtain ⟨u,_,_,hc,_⟩:=fld 0 (by omega) 0 _ (Array.getElem?_eq_getElem h0)
  rw [show a.add (0*fs.size+0)=a from by simp [Addr.add]] at hc
  obtain ⟨b,o,rfl,hb⟩:=RF hc
  refine ⟨b,o,rfl,hb,fun j f hj=>?_⟩
  obtain ⟨u',n',y',qp,Fo,yc⟩:=fld i aV j f hj
  exact ⟨u',n',y',by rw [<-Addr.add_lit]; exact qp,Fo,yc⟩
theorem M8 {α:Type} [Inhabited α] {p:Nat->α->Prop} {n:Nat} (h:∀ i,i<n->∃ x,p i x):∃ l:List α,l.length=n/\∀ i,i<n->p i (l.getD i default):=by
 induction n with
 | zero=>exact ⟨[],rfl,fun i hi=>by omega⟩
 | succ n ih=>
   obtain ⟨l,hl,hp⟩:=ih (fun i hi=>h i (by omega))
   obtain ⟨x,hx⟩:=h n (by omega)
   refine ⟨l++[x],by simp [hl],fun i hi=>?_⟩
   by_cases e:i<n
   ·rw [show (l++[x]).getD i default=l.getD i default by simp [List.getElem?_append_left (by omega:i<l.length)]]
    exact hp i e
   ·obtain rfl:i=n:=by omega
    rw [show (l++[x]).getD i default=x by simp [hl]]
    exact hx
end Go.Proofs.YtpanebgakndddaaGreat.LK
namespace Go.Proofs.YtpanebgakndddaaGreat.Ca
open Go Go.RowKit Go.WideShapes Go.ChangeShapes Hp K Fl Rw Hm Ar Mm Me LK Wk Pc fp iT
set_option maxRecDepth 100000
instance:Inhabited Ct:=⟨⟨0,⟨#[]⟩,⟨#[]⟩,0⟩⟩
theorem M6 {H:Type} {enc:TypeId×Value->H} {w:World} {base:Nat} {spare:Nat->Bool} {held:Bool} {r:Reach} {b0:Nat} {v:Value} {d:DataW H} {p:List MemPlace}
 (hv:Value.okWide Tryz.prog w r b0 22 v) (h:DataW.Trod enc Tryz.prog w base spare held 22 v d p) (cA:∀ k∈d.weights Tryz.prog 22,k<=reachBytes):
 ∃ (A:Option Addr) (l:List Ct) (cap:Nat),v=.slice A l.length cap/\l.length<=maxLen/\vT w A l:=by
 obtain ⟨A,len,cap,rfl,hl,VR⟩:=M7 Tryz.underlying22 Tryz.underlying31 (by kernel_rfl) (by kernel_rfl) (by decide) hv h
 have gz:∀ i,i<len->∃ c:Ct,∃ b o:Nat,A=some ⟨b,o,none⟩/\b<w.heap.size/\w.cell? ⟨b,o+i*4,none⟩=some (.int .i64 c.kind)/\w.cell? ⟨b,o+i*4+1,none⟩=some (.string c.key)/\w.cell? ⟨b,o+i*4+2,none⟩=some (.string c.val)/\w.cell? ⟨b,o+i*4+3,none⟩=some (.int .i64 c.size)/\(c.key.size<=140737488355328/\c.val.size<=140737488355328)/\(-9223372036854775808<=c.size/\c.size<=9223372036854775807):=by
  intro i hi
  obtain ⟨b,o,rfl,hb,hf⟩:=VR i hi
  obtain ⟨u0,n0,y0,c0,t0,z0⟩:=hf 0 _ rfl
  obtain ⟨u1,n1,y1,c1,t1,z1⟩:=hf 1 _ rfl
  obtain ⟨u2,n2,y2,c2,t2,z2⟩:=hf 2 _ rfl
  obtain ⟨u3,n3,y3,c3,t3,z3⟩:=hf 3 _ rfl
  obtain ⟨x,e0,d0,_⟩:=DataW.trod_int Tryz.underlying29 t0
  obtain ⟨k,e1,d1,_⟩:=DataW.trod_string Tryz.underlying9 t1
  obtain ⟨m,e2,d2,_⟩:=DataW.trod_string Tryz.underlying9 t2
  obtain ⟨s,e3,d3,cX⟩:=DataW.trod_int Tryz.underlying3 t3
  injection e0 with e0; injection e1 with e1; injection e2 with e2; injection e3 with e3
  subst e0; subst e1; subst e2; subst e3
  refine ⟨⟨x,k,m,s⟩,b,o,rfl,hb,by simpa using c0,by simpa [Nat.add_assoc] using c1,by simpa [Nat.add_assoc] using c2,by simpa [Nat.add_assoc] using c3,⟨?_,?_⟩,K.wf_i64 cX⟩
  ·have:=cA _ (z1 k.data.toList.length (by rw [d1]; simp [DataW.weights]))
   have h3:k.size=k.data.toList.length:=(Array.length_toList).symm
   show k.size<=_
   rw [h3]
   exact Nat.le_trans this Gk
  ·have:=cA _ (z2 m.data.toList.length (by rw [d2]; simp [DataW.weights]))
   have h3:m.size=m.data.toList.length:=(Array.length_toList).symm
   show m.size<=_
   rw [h3]
   exact Nat.le_trans this Gk
 obtain ⟨l,bQ,hp⟩:=M8 gz
 subst bQ
 exact ⟨A,l,cap,rfl,hl,fun i hi=>hp i hi⟩
end Go.Proofs.YtpanebgakndddaaGreat.Ca
