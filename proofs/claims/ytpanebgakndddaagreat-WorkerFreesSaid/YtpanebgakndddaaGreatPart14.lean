/- Walks and plain mathematics, put together in their order: FrL. -/
import Derived.Test.YtpanebgakndddaaGreatPart13
import Derived.Deep.CutBlock
import Derived.Deep.DeepCutAuto
set_option linter.unusedVariables false
set_option linter.unusedSimpArgs false
namespace Go.Proofs.YtpanebgakndddaaGreat.Wf
open Go Go.RowKit Hp K Fl Rw Hm Ar Mm Me LK Qs ff Re vr
set_option maxRecDepth 100000
def FS (W0 w:World) (m f B:Nat):Prop:=∃ M D,M.m=m/\DS W0 w M f D/\Fr M D B
theorem FS.below {W0 w:World} {m f B:Nat} (h:FS W0 w m f B):Below W0.heap.size W0 w:=by
 obtain ⟨M,D,_,h1,_⟩:=h
 exact h1.below
structure Ask (W0 w:World) (M:Mo) (f:Nat) (D:Dr):Prop where
 c2:w.cell? ⟨M.m,2,none⟩=some (ptr M.ar)
 lm:M.m<w.heap.size
 fault:Calls Tryz.prog 24 #[ptr M.ar] w fun e w'=>e=.returned (.bool false)/\w=w'
 spare:Calls Tryz.prog 25 #[ptr M.ar] w fun e w'=>e=.returned (.int .i64 (dC M.ss M.ss.length).length)/\w=w'
 waits:Calls Tryz.prog 22 #[ptr M.m] w fun e w'=>e=.returned (.int .i64 M.ws.length)/\w=w'
 left:Calls Tryz.prog 21 #[ptr f] w fun e w'=>∃ A cap,e=.returned (.slice A D.left.length cap)/\Below w.heap.size w w'
 idle:Calls Tryz.prog 20 #[ptr f] w fun e w'=>e=.returned (.bool (decide (D.at_=0)))/\Below w.heap.size w w'
theorem DS.ask {W0 w:World} {M:Mo} {f B:Nat} {D:Dr} (h:DS W0 w M f D) (hF:Fr M D B):Ask W0 w M f D:=by
 have hc:=hF.iB
 have hf:=ES h.s.mem.2.2.2.1
 rw [hF.F] at hf
 exact ⟨h.s.mem.hd.2.2.1,h.s.mem.1.lt,hf,Le h.s.mem.2.2.2.1,Bp h.s.mem,F3 h (by omega),F4 h hF⟩
set_option maxHeartbeats 8000000 in
theorem N5 (A:Option Addr) (len cap:Nat) (W0:World) (Ds:len<=maxLen) (pU:E5 W0 A len):
 Calls Tryz.prog 4 #[.slice A len cap] W0 fun e w'=>e=.returned (.bool true)/\Below W0.heap.size W0 w':=by
 unfold maxLen at Ds
 have sU:=Lib.hid (fun w=>Wo.Lw w)
 have hN:=Lib.hid (mI 30 2 W0 (by omega) (by omega))
 by_cases Vh:200<len
 ·skip
  skip
  as_aux_lemma=>
   clear pU
   go_enter Tryz.func4,Tryz.ntmps4
   go_wp2_with fail
   refine hN.out.mono ?_
   rintro e w1 ⟨M,rfl,hM⟩
   have hD:=Lib.hid (F5 hM.1 hM.2.2.1 hM.2.1)
   clear hM hN
   go_wp2_with fail
   refine hD.out.mono ?_
   rintro e w2 ⟨f,fd,fw,rfl,hS⟩
   replace hS:=Lib.hid hS.below
   clear hD
   go_wp2_with fail
   refine (sU.out _).mono ?_
   rintro e w3 ⟨rfl,hb⟩
   replace hb:=Lib.hid (hS.out.trans (hb.mono hS.out.size))
   clear hS sU
   go_wp2_with fail
   go_ret
   exact ⟨rfl,hb.out⟩
 have Xa:len<=200:=by omega
 clear Vh
 replace pU:=Lib.hid pU
 go_enter Tryz.func4,Tryz.ntmps4
 go_wp2_with fail
 refine hN.out.mono ?_
 rintro e w1 ⟨M,rfl,hM⟩
 have hD:=Lib.hid (F5 hM.1 hM.2.2.1 hM.2.1)
 have bZ:=Lib.hid (fun fd fw=>N6 hM fd fw)
 clear hM hN
 go_wp2_with fail
 refine hD.out.mono ?_
 rintro e w2 ⟨f,fd,fw,rfl,hS⟩
 have hI:Hid (FS W0 w2 M.m f 0):=Lib.hid ⟨M,_,rfl,hS,bZ.out fd fw⟩
 generalize M.m=m at*
 clear hD hS bZ
 go_upto_region 6 with (fail)
 go_wp2_with fail
 go_loopw [5,34] (fun lv iv wr=>∃ (i:Nat) (y:Int),i<=len/\iv=.int .i64 i/\lv=.int .i64 y/\0<=y/\y<=i/\FS W0 wr m f i) (fun _ iv _=>len-(intOf iv).toNat)
 case atStart=>exact ⟨0,0,Nat.zero_le _,rfl,rfl,Int.le_refl _,Int.le_refl _,hI.out⟩
 case round=>
  obtain ⟨i,y,hi,rfl,rfl,oM,sC,hS⟩:=lD
  clear hI
  rename_i wr
  by_cases bn:i<len
  case pos=>
   skip
   as_aux_lemma=>
    obtain ⟨b,o,x,rfl,cr,cx,hx⟩:=pU.out i bn
    have iu:=hS.below
    rw [<-iu.cell (p:=⟨b,_,none⟩) cr] at cx
    have Vi:b<wr.heap.size:=by have:=iu.size; omega
    clear iu cr
    go_upto_region 9 with (fail)
    clear cx Vi
    go_upto_if 40 with (fail)
    go_cut [5,8,9] (fun lv hv ev wx=>∃ y:Int,lv=.int .i64 y/\0<=y/\y<=i+1/\FS W0 wx m f (i+1))
    case first=>
     skip
     as_aux_lemma=>
      generalize ((x:Int) % 3==0)=z at*
      clear pU sU
      obtain ⟨M,D,rfl,hS,hF⟩:=hS
      have hA:=hS.ask hF
      have c2:=hA.c2
      have lm:=hA.lm
      cases z
      case true=>
       rcases N7 M.ss with JH | ⟨k,hk⟩
       ·have qQ:=Lib.hid (EJ hS.s.mem.2.2.2.1 Nd.zero JH)
        have hn:=Lib.hid (fun wx (hb:Below wr.heap.size wr wx)=>show FS W0 wx M.m f (i+1) from ⟨M,D,rfl,hS.down hb,hF.up⟩)
        clear hA hS hF JH
        go_wp2_with fail
        refine qQ.out.mono ?_
        rintro e w3 ⟨rfl,hb⟩
        have hE:=Lib.hid (hn.out w3 hb)
        clear hn hb qQ c2 lm
        go_wp2_with fail
        go_meet
        exact ⟨y,rfl,oM,by omega,hE.out⟩
       ·have Vj:=hF.pd.wr.mP k
        have qQ:=Lib.hid (hS.alloc hk (by omega) Nd.zero)
        have jb:=hF.iB
        have hn:=Lib.hid (fun w3 w4 (cM:DS W0 w3 {M with ss:=M.ss.set k ⟨true,(ai M.ss k).gen,Nd.zero⟩} f D) (hp:cR w3 {M with ss:=M.ss.set k ⟨true,(ai M.ss k).gen,Nd.zero⟩} ((ai M.ss k).gen*65536+k+1) w4)=>show FS W0 w4 M.m f (i+1) from by
         obtain ⟨V',c',jJ⟩:=cM.put hp
         exact ⟨{M with ss:=M.ss.set k ⟨true,(ai M.ss k).gen,Nd.zero⟩,V:=V',capV:=c',ws:=M.ws++[(ai M.ss k).gen*65536+k+1]},D,rfl,jJ,hF.put hk Nd.zero V' c'⟩)
        have JI:=Lib.hid (fun w3 (cM:DS W0 w3 {M with ss:=M.ss.set k ⟨true,(ai M.ss k).gen,Nd.zero⟩} f D)=>F6 cM.s.mem ((ai M.ss k).gen*65536+k+1) (by show M.ws.length<=1000000; omega))
        clear hA hS hF Vj hk jb
        go_wp2_with fail
        refine qQ.out.mono ?_
        rintro e w3 ⟨rfl,cM⟩
        have sV:=Lib.hid (fun w4=>hn.out w3 w4 cM)
        have zv:=Lib.hid (JI.out w3 cM)
        clear hn JI cM qQ c2 lm
        go_wp2_with fail
        refine zv.out.mono ?_
        rintro e w4 ⟨rfl,hp⟩
        have hE:=Lib.hid (sV.out w4 hp)
        clear sV hp zv
        go_wp2_with fail
        go_meet
        exact ⟨y+1,by go_num,by omega,by omega,hE.out⟩
      case false=>
       have hR:=Bq hS hF
       by_cases hr:D.at_≠0\/M.ws≠[]
       ·rw [decide_eq_true hr] at hR
        replace hR:=Lib.hid hR
        have hn:=Lib.hid (fun wx (hb:Below wr.heap.size wr wx)=>show (DS W0 wx M f D)/\Ask W0 wx M f D from ⟨hS.down hb,(hS.down hb).ask hF⟩)
        have bs:=Lib.hid (fun wx (h:DS W0 wx M f D)=>F7 h hF (by omega) hr)
        have j7:=Lib.hid (fun wy D' (h:DS W0 wy (aN 2 M D).1 f D') (Vk:Fr (aN 2 M D).1 D' i)=>show FS W0 wy M.m f (i+1) from ⟨_,_,yk.1,h,Vk.up⟩)
        have eM:=hF
        have Du:D.at_=0->D.left.length=0/\0<M.ws.length:=fun q=>⟨by rw [(hF.pd.zero q).1]; rfl,List.length_pos_iff.2 (hr.resolve_left (fun q'=>q' q))⟩
        clear hA hS hF c2 lm hr
        go_wp2_with fail
        refine hR.out.mono ?_
        rintro e w3 ⟨rfl,aZ⟩
        obtain ⟨hS3,iZ⟩:=hn.out w3 aZ
        go_upto_region 15 with (fail)
        clear hR aZ
        by_cases h0:D.at_=0
        ·obtain ⟨k1,k2⟩:=Du h0
         have hid:=iZ.idle
         rw [decide_eq_true h0] at hid
         replace hid:=Lib.hid hid
         have eN:=Lib.hid (fun wx (hb:Below w3.heap.size w3 wx)=>show DS W0 wx M f D/\Ask W0 wx M f D from ⟨hS3.down hb,(cM.down hb).ask eM⟩)
         clear hn Du cM iZ
         go_wp2_with fail
         refine hid.out.mono ?_
         rintro e w4 ⟨rfl,fC⟩
         obtain ⟨hS4,fY⟩:=eN.out w4 fC
         have hle:=fY.left
         rw [k1] at hle
         replace hle:=Lib.hid hle
         have sV:=Lib.hid (fun wx (hb:Below w4.heap.size w4 wx)=>eN.out wx (fC.trans (hb.mono fC.size)))
         clear hid eN jJ fY fC
         go_wp2_with fail
         refine hle.out.mono ?_
         rintro e w5 ⟨A5,cap5,rfl,gb⟩
         obtain ⟨hS5,nK⟩:=sV.out w5 gb
         have nN:=nK.waits
         have JJ:=Lib.hid (bs.out w5 iI)
         generalize M.ws.length=q at*
         have hq:((q:Int)==0)=false:=by simp; omega
         have Xb:¬((q:Int)=0):=by omega
         replace nN:=Lib.hid nN
         clear hle sV nK iI gb bs eM
         go_wp2_with fail
         refine nN.out.mono ?_
         rintro e w6 ⟨rfl,rfl⟩
         clear nN
         go_wp2_with fail
         refine JJ.out.mono ?_
         rintro e w7 ⟨rfl,D',pO,wN,_⟩
         have hE:=Lib.hid (j7.out w7 D' pO wN)
         clear JJ pO wN j7
         go_wp2_with fail
         go_meet
         exact ⟨y,rfl,oM,by omega,hE.out⟩
        ·have hid:=iZ.idle
         rw [decide_eq_false h0] at hid
         replace hid:=Lib.hid hid
         have eN:=Lib.hid (fun wx (hb:Below w3.heap.size w3 wx)=>bs.out wx (cM.down hb))
         clear hn Du cM iZ bs eM
         go_wp2_with fail
         refine hid.out.mono ?_
         rintro e w4 ⟨rfl,fC⟩
         have JK:=Lib.hid (eN.out w4 fC)
         clear hid eN fC
         go_wp2_with fail
         refine JK.out.mono ?_
         rintro e w7 ⟨rfl,D',pO,wN,_⟩
         have hE:=Lib.hid (j7.out w7 D' pO wN)
         clear JK pO wN j7
         go_wp2_with fail
         go_meet
         exact ⟨y,rfl,oM,by omega,hE.out⟩
       ·rw [decide_eq_false hr] at hR
        replace hR:=Lib.hid hR
        have hn:=Lib.hid (fun wx (hb:Below wr.heap.size wr wx)=>show FS W0 wx M.m f (i+1) from ⟨M,D,rfl,hS.down hb,hF.up⟩)
        clear hA hS hF c2 lm hr
        go_wp2_with fail
        refine hR.out.mono ?_
        rintro e w3 ⟨rfl,aZ⟩
        have hE:=Lib.hid (hn.out w3 aZ)
        clear hn aZ hR
        go_wp2_with fail
        go_meet
        exact ⟨y,rfl,oM,by omega,hE.out⟩
    case rest=>
     skip
     as_aux_lemma=>
      obtain ⟨y',rfl,JL,Xc,M,D,rfl,hS,hF⟩:=zx
      obtain ⟨wq,Vl⟩:∃ wq,wq=wc:=⟨_,rfl⟩
      subst Vl
      have hA:=hS.ask hF
      clear sU oM sC pU
      have c2:=hA.c2
      have lm:=hA.lm
      have JM:=Lib.hid hA.fault
      have lJ:=Lib.hid hA.spare
      have nN:=Lib.hid hA.waits
      have hle:=Lib.hid hA.left
      have zy:=hF.iB
      have cP:D.at_=0->D.left.length=0:=fun q=>by rw [(hF.pd.zero q).1]; rfl
      have hn:=Lib.hid (fun wx (hb:Below wq.heap.size wq wx)=>show DS W0 wx M f D/\Ask W0 wx M f D from ⟨hS.down hb,(hS.down hb).ask hF⟩)
      have eL:=Lib.hid (fun wx (hb:Below wq.heap.size wq wx)=>show FS W0 wx M.m f (i+1) from ⟨M,D,rfl,hS.down hb,hF⟩)
      clear hA hS hF
      generalize (dC M.ss M.ss.length).length=s at*
      generalize M.ws.length=q at*
      have oR:wrap64 ((s:Int)+(q:Int))=(s:Int)+(q:Int):=by unfold wrap64; omega
      have fK:wrap64 ((s:Int)+(q:Int)+(D.left.length:Int))=30:=by unfold wrap64; omega
      go_upto_region 18 with (fail)
      go_wp2_with fail
      refine JM.out.mono ?_
      rintro e w3 ⟨rfl,rfl⟩
      clear JM
      go_wp2_with fail
      refine lJ.out.mono ?_
      rintro e w3 ⟨rfl,rfl⟩
      clear lJ
      go_wp2_with fail
      refine nN.out.mono ?_
      rintro e w3 ⟨rfl,rfl⟩
      clear nN
      go_wp2_with fail
      refine hle.out.mono ?_
      rintro e w4 ⟨A4,cap4,rfl,fC⟩
      obtain ⟨hS4,fY⟩:=hn.out w4 fC
      have hid:=fY.idle
      by_cases h0:D.at_=0
      ·rw [decide_eq_true h0] at hid
       replace hid:=Lib.hid hid
       have k1:=cP h0
       replace fC:=Lib.hid fC
       clear hle cP jJ fY c2 lm
       go_wp2_with fail
       refine hid.out.mono ?_
       rintro e w5 ⟨rfl,gb⟩
       replace gb:=Lib.hid (fC.out.trans (gb.mono fC.out.size))
       obtain ⟨hS5,nK⟩:=hn.out w5 gb.out
       have hle:=nK.left
       rw [k1] at hle
       replace hle:=Lib.hid hle
       clear hid fC iI nK hn
       go_wp2_with fail
       refine hle.out.mono ?_
       rintro e w6 ⟨A6,cap6,rfl,kX⟩
       have hE:=Lib.hid (eL.out w6 (gb.out.trans (kX.mono gb.out.size)))
       clear hle kX gb eL
       go_wp2_with fail
       go_roundw
       case rel=>exact ⟨i+1,y',by omega,by go_num,rfl,JL,by omega,hE.out⟩
       case measure=>simp [intOf]; omega
      ·rw [decide_eq_false h0] at hid
       replace hid:=Lib.hid hid
       replace fC:=Lib.hid fC
       clear hle cP jJ fY c2 lm hn
       go_wp2_with fail
       refine hid.out.mono ?_
       rintro e w5 ⟨rfl,gb⟩
       have hE:=Lib.hid (eL.out w5 (fC.out.trans (gb.mono fC.out.size)))
       clear hid fC gb eL
       go_wp2_with fail
       go_roundw
       case rel=>exact ⟨i+1,y',by omega,by go_num,rfl,JL,by omega,hE.out⟩
       case measure=>simp [intOf]; omega
  case neg=>
   skip
   as_aux_lemma=>
    obtain rfl:i=len:=by omega
    obtain ⟨M,D,rfl,hS,hF⟩:=hS
    have nR:Hid (∃ M' D',M'.m=M.m/\DS W0 wr M' f D'/\Fr M' D' i/\jS M' D'<=400-0):=Lib.hid ⟨M,D,rfl,hS,hF,by have:=hF.N8; omega⟩
    generalize M.m=m at*
    clear pU hS hF
    go_upto_region 21 with (fail)
    go_wp2_with fail
    go_loopw [107] (fun jv wx=>∃ j:Nat,j<=400/\jv=.int .i64 j/\∃ M' D',M'.m=m/\DS W0 wx M' f D'/\Fr M' D' i/\jS M' D'<=400-j) (fun jv _=>400-(intOf jv).toNat)
    case atStart=>exact ⟨0,Nat.zero_le _,rfl,nR.out⟩
    case round=>
     obtain ⟨j,hj,rfl,M,D,rfl,hS,hF,hp⟩:=lD
     clear nR
     by_cases Dv:j<400
     case pos=>
      have hR:=Bq hS hF
      clear sU
      by_cases hr:D.at_≠0\/M.ws≠[]
      ·rw [decide_eq_true hr] at hR
       replace hR:=Lib.hid hR
       have bs:=Lib.hid (fun w3 (hb:Below wr.heap.size wr w3)=>F7 (hS.down hb) hF (by omega) hr)
       have j7:=Lib.hid (fun w4 (h:yl W0 w4 M f D i (.returned (.tuple #[])))=>show ∃ M' D',M'.m=M.m/\DS W0 w4 M' f D'/\Fr M' D' i/\jS M' D'<=400-(j+1) from by
        obtain ⟨_,D',g1,g2,g3⟩:=h
        exact ⟨_,D',yk.1,g1,g2,by omega⟩)
       clear hS hF hr hp
       go_wp2_with fail
       refine hR.out.mono ?_
       rintro e w3 ⟨rfl,aZ⟩
       have jN:=Lib.hid (bs.out w3 aZ)
       clear hR aZ bs
       go_wp2_with fail
       refine jN.out.mono ?_
       rintro e w4 ⟨rfl,q⟩
       have hE:=Lib.hid (j7.out w4 ⟨rfl,q⟩)
       clear jN j7 q
       go_wp2_with fail
       go_roundw
       case rel=>exact ⟨j+1,by omega,by go_num,hE.out⟩
       case measure=>simp [intOf]; omega
      ·rw [decide_eq_false hr] at hR
       replace hR:=Lib.hid hR
       have j7:=Lib.hid (fun w3 (hb:Below wr.heap.size wr w3)=>show ∃ M' D',M'.m=M.m/\DS W0 w3 M' f D'/\Fr M' D' i/\jS M' D'<=400-(j+1) from
        ⟨M,D,rfl,hS.down hb,hF,by
         have h0:D.at_=0:=by omega
         have hw:M.ws=[]:=Decidable.not_not.1 (fun q=>hr (.inr q))
         unfold jS
         rw [if_pos h0,if_pos hw]
         omega⟩)
       clear hS hF hr hp
       go_wp2_with fail
       refine hR.out.mono ?_
       rintro e w3 ⟨rfl,aZ⟩
       have hE:=Lib.hid (j7.out w3 aZ)
       clear hR aZ j7
       go_wp2_with fail
       go_roundw
       case rel=>exact ⟨j+1,by omega,by go_num,hE.out⟩
       case measure=>simp [intOf]; omega
     case neg=>
      obtain ⟨h0,hw⟩:=hF.N9 (by omega)
      have zy:=hF.iB
      rw [hw,(hF.pd.zero h0).1] at zy
      have JN:(dC M.ss M.ss.length).length=30:=by simpa using zy
      have fZ:=Lib.hid (fun w3 (hb:Below wr.heap.size wr w3)=>show DS W0 w3 M f D from hS.down hb)
      have eK:=Lib.hid (fun w3 (h:DS W0 w3 M f D)=>show Calls Tryz.prog 19 #[ptr f,ptr M.m] w3 (fun e w'=>e=.returned (.bool false)/\Below w3.heap.size w3 w') from by
       have:=Bq h hF
       rw [decide_eq_false (fun q=>by rcases q with q | q; exact q h0; exact q hw)] at this
       exact this)
      have JO:=Lib.hid (fun w3 (h:DS W0 w3 M f D)=>show (Calls Tryz.prog 25 #[ptr M.ar] w3 fun e w'=>e=.returned (.int .i64 30)/\w3=w')/\w3.cell? ⟨M.m,2,none⟩=some (ptr M.ar)/\M.m<w3.heap.size from by
       have hA:=h.ask hF
       have hs:=hA.spare
       rw [JN] at hs
       exact ⟨hs,hA.c2,hA.lm⟩)
      have zA:=Lib.hid (fun w3 (h:DS W0 w3 M f D)=>show Calls Tryz.prog 20 #[ptr f] w3 (fun e w'=>e=.returned (.bool true)/\Below w3.heap.size w3 w') from by
       have:=F4 h hF
       rw [decide_eq_true h0] at this
       exact this)
      clear hS hF hp zy JN h0 hw
      go_wp2_with fail
      refine (sU.out _).mono ?_
      rintro e w3 ⟨rfl,aZ⟩
      have cM:=fZ.out w3 aZ
      obtain ⟨hs3,c2,lm⟩:=JO.out w3 cM
      replace jN:=Lib.hid jN
      have JP:=Lib.hid (zA.out w3 cM)
      replace cM:=Lib.hid cM
      clear sU aZ fZ JO zA
      go_wp2_with fail
      refine jN.out.mono ?_
      rintro e w4 ⟨rfl,rfl⟩
      clear jN
      go_wp2_with fail
      refine JP.out.mono ?_
      rintro e w5 ⟨rfl,gb⟩
      have iI:=cM.out.down gb
      have JQ:=Lib.hid (eK.out w5 iI)
      have bI:=iI.below
      replace bI:=Lib.hid bI
      clear JP gb iI cM eK c2 lm
      go_wp2_with fail
      refine JQ.out.mono ?_
      rintro e w6 ⟨rfl,kX⟩
      have hE:=Lib.hid (bI.out.trans (kX.mono bI.out.size))
      have pM:¬(y<0):=by omega
      clear JQ bI kX
      go_wp2_with fail
      go_ret
      exact ⟨rfl,hE.out⟩
end Go.Proofs.YtpanebgakndddaaGreat.Wf
