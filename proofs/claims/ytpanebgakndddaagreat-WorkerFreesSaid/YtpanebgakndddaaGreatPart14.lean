/- Walks and plain mathematics, put together in their order: FrL. -/
import Derived.Test.YtpanebgakndddaaGreatPart13
import Derived.Deep.CutBlock
import Derived.Deep.DeepCutAuto
set_option linter.unusedVariables false
set_option linter.unusedSimpArgs false
namespace Go.Proofs.YtpanebgakndddaaGreat.Wf
open Go Go.RowKit Hp K Fl Rw Hm Ar Mm Me LK Qs fk Re vA
set_option maxRecDepth 100000
def FS (W0 w:World) (m f B:Nat):Prop:=∃ M D,M.m=m/\DS W0 w M f D/\Fr M D B
theorem FS.below {W0 w:World} {m f B:Nat} (h:FS W0 w m f B):Below W0.heap.size W0 w:=by
 obtain ⟨M,D,_,h1,_⟩:=h
 exact h1.below
structure Ask (W0 w:World) (M:Mo) (f:Nat) (D:Dr):Prop where
 c2:w.cell? ⟨M.m,2,none⟩=some (ptr M.ar)
 lm:M.m<w.heap.size
 fault:Calls Tryz.prog 24 #[ptr M.ar] w fun e w'=>e=.returned (.bool false)/\w=w'
 spare:Calls Tryz.prog 25 #[ptr M.ar] w fun e w'=>e=.returned (.int .i64 (du M.ss M.ss.length).length)/\w=w'
 waits:Calls Tryz.prog 22 #[ptr M.m] w fun e w'=>e=.returned (.int .i64 M.ws.length)/\w=w'
 left:Calls Tryz.prog 21 #[ptr f] w fun e w'=>∃ A cap,e=.returned (.slice A D.left.length cap)/\Below w.heap.size w w'
 idle:Calls Tryz.prog 20 #[ptr f] w fun e w'=>e=.returned (.bool (decide (D.at_=0)))/\Below w.heap.size w w'
theorem DS.ask {W0 w:World} {M:Mo} {f B:Nat} {D:Dr} (h:DS W0 w M f D) (hF:Fr M D B):Ask W0 w M f D:=by
 have hc:=hF.iF
 have hf:=E2 h.s.mem.2.2.2.1
 rw [hF.F] at hf
 exact ⟨h.s.mem.hd.2.2.1,h.s.mem.1.lt,hf,Lq h.s.mem.2.2.2.1,BA h.s.mem,Gf h (by omega),Gg h hF⟩
set_option maxHeartbeats 8000000 in
theorem Og (A:Option Addr) (len cap:Nat) (W0:World) (DG:len<=maxLen) (pZ:Fg W0 A len):
 Calls Tryz.prog 4 #[.slice A len cap] W0 fun e w'=>e=.returned (.bool true)/\Below W0.heap.size W0 w':=by
 unfold maxLen at DG
 have sZ:=Lib.hid (fun w=>Wo.LI w)
 have hN:=Lib.hid (mJ 30 2 W0 (by omega) (by omega))
 by_cases Vv:200<len
 ·skip
  skip
  as_aux_lemma=>
   clear pZ
   go_enter Tryz.func4,Tryz.ntmps4
   go_wp2_with fail
   refine hN.out.mono ?_
   rintro e w1 ⟨M,rfl,hM⟩
   have hD:=Lib.hid (Gh hM.1 hM.2.2.1 hM.2.1)
   clear hM hN
   go_wp2_with fail
   refine hD.out.mono ?_
   rintro e w2 ⟨f,fd,fw,rfl,hS⟩
   replace hS:=Lib.hid hS.below
   clear hD
   go_wp2_with fail
   refine (sZ.out _).mono ?_
   rintro e w3 ⟨rfl,hb⟩
   replace hb:=Lib.hid (hS.out.trans (hb.mono hS.out.size))
   clear hS sZ
   go_wp2_with fail
   go_ret
   exact ⟨rfl,hb.out⟩
 have Xg:len<=200:=by omega
 clear Vv
 replace pZ:=Lib.hid pZ
 go_enter Tryz.func4,Tryz.ntmps4
 go_wp2_with fail
 refine hN.out.mono ?_
 rintro e w1 ⟨M,rfl,hM⟩
 have hD:=Lib.hid (Gh hM.1 hM.2.2.1 hM.2.1)
 have bX:=Lib.hid (fun fd fw=>Oh hM fd fw)
 clear hM hN
 go_wp2_with fail
 refine hD.out.mono ?_
 rintro e w2 ⟨f,fd,fw,rfl,hS⟩
 have hI:Hid (FS W0 w2 M.m f 0):=Lib.hid ⟨M,_,rfl,hS,bX.out fd fw⟩
 generalize M.m=m at*
 clear hD hS bX
 go_upto_region 6 with (fail)
 go_wp2_with fail
 go_loopw [5,34] (fun lv iv wr=>∃ (i:Nat) (y:Int),i<=len/\iv=.int .i64 i/\lv=.int .i64 y/\0<=y/\y<=i/\FS W0 wr m f i) (fun _ iv _=>len-(intOf iv).toNat)
 case atStart=>exact ⟨0,0,Nat.zero_le _,rfl,rfl,Int.le_refl _,Int.le_refl _,hI.out⟩
 case round=>
  obtain ⟨i,y,hi,rfl,rfl,oQ,sI,hS⟩:=hrel
  clear hI
  rename_i wr
  by_cases bn:i<len
  case pos=>
   skip
   as_aux_lemma=>
    obtain ⟨b,o,x,rfl,bV,cx,hx⟩:=pZ.out i bn
    have iA:=hS.below
    rw [<-iA.cell (p:=⟨b,_,none⟩) bV] at cx
    have Vw:b<wr.heap.size:=by have:=iA.size; omega
    clear iA bV
    go_upto_region 9 with (fail)
    clear cx Vw
    go_upto_if 40 with (fail)
    go_cut [5,8,9] (fun lv hv ev wx=>∃ y:Int,lv=.int .i64 y/\0<=y/\y<=i+1/\FS W0 wx m f (i+1))
    case first=>
     skip
     as_aux_lemma=>
      generalize ((x:Int) % 3==0)=z at*
      clear pZ sZ
      obtain ⟨M,D,rfl,hS,hF⟩:=hS
      have hA:=hS.ask hF
      have c2:=hA.c2
      have lm:=hA.lm
      cases z
      case true=>
       rcases Oi M.ss with JS | ⟨k,hk⟩
       ·have qV:=Lib.hid (EU hS.s.mem.2.2.2.1 Nd.zero JS)
        have hn:=Lib.hid (fun wx (hb:Below wr.heap.size wr wx)=>show FS W0 wx M.m f (i+1) from ⟨M,D,rfl,hS.down hb,hF.up⟩)
        clear hA hS hF JS
        go_wp2_with fail
        refine qV.out.mono ?_
        rintro e w3 ⟨rfl,hb⟩
        have hE:=Lib.hid (hn.out w3 hb)
        clear hn hb qV c2 lm
        go_wp2_with fail
        go_meet
        exact ⟨y,rfl,oQ,by omega,hE.out⟩
       ·have Vx:=hF.pd.wr.mQ k
        have qV:=Lib.hid (hS.alloc hk (by omega) Nd.zero)
        have iR:=hF.iF
        have hn:=Lib.hid (fun w3 w4 (cK:DS W0 w3 {M with ss:=M.ss.set k ⟨true,(ai M.ss k).gen,Nd.zero⟩} f D) (hp:cR w3 {M with ss:=M.ss.set k ⟨true,(ai M.ss k).gen,Nd.zero⟩} ((ai M.ss k).gen*65536+k+1) w4)=>show FS W0 w4 M.m f (i+1) from by
         obtain ⟨V',c',jh⟩:=cK.put hp
         exact ⟨{M with ss:=M.ss.set k ⟨true,(ai M.ss k).gen,Nd.zero⟩,V:=V',capV:=c',ws:=M.ws++[(ai M.ss k).gen*65536+k+1]},D,rfl,jh,hF.put hk Nd.zero V' c'⟩)
        have JT:=Lib.hid (fun w3 (cK:DS W0 w3 {M with ss:=M.ss.set k ⟨true,(ai M.ss k).gen,Nd.zero⟩} f D)=>Gi cK.s.mem ((ai M.ss k).gen*65536+k+1) (by show M.ws.length<=1000000; omega))
        clear hA hS hF Vx hk iR
        go_wp2_with fail
        refine qV.out.mono ?_
        rintro e w3 ⟨rfl,cK⟩
        have ta:=Lib.hid (fun w4=>hn.out w3 w4 cK)
        have zF:=Lib.hid (JT.out w3 cK)
        clear hn JT cK qV c2 lm
        go_wp2_with fail
        refine zF.out.mono ?_
        rintro e w4 ⟨rfl,hp⟩
        have hE:=Lib.hid (ta.out w4 hp)
        clear ta hp zF
        go_wp2_with fail
        go_meet
        exact ⟨y+1,by go_num,by omega,by omega,hE.out⟩
      case false=>
       have hR:=BB hS hF
       by_cases hr:D.at_≠0\/M.ws≠[]
       ·rw [decide_eq_true hr] at hR
        replace hR:=Lib.hid hR
        have hn:=Lib.hid (fun wx (hb:Below wr.heap.size wr wx)=>show (DS W0 wx M f D)/\Ask W0 wx M f D from ⟨hS.down hb,(hS.down hb).ask hF⟩)
        have bt:=Lib.hid (fun wx (h:DS W0 wx M f D)=>Gj h hF (by omega) hr)
        have kc:=Lib.hid (fun wy D' (h:DS W0 wy (aO 2 M D).1 f D') (Vy:Fr (aO 2 M D).1 D' i)=>show FS W0 wy M.m f (i+1) from ⟨_,_,yu.1,h,Vy.up⟩)
        have eO:=hF
        have DI:D.at_=0->D.left.length=0/\0<M.ws.length:=fun q=>⟨by rw [(hF.pd.zero q).1]; rfl,List.length_pos_iff.2 (hr.resolve_left (fun q'=>q' q))⟩
        clear hA hS hF c2 lm hr
        go_wp2_with fail
        refine hR.out.mono ?_
        rintro e w3 ⟨rfl,ba⟩
        obtain ⟨cK,jg⟩:=hn.out w3 ba
        go_upto_region 15 with (fail)
        clear hR ba
        by_cases h0:D.at_=0
        ·obtain ⟨k1,k2⟩:=DI h0
         have hid:=jg.idle
         rw [decide_eq_true h0] at hid
         replace hid:=Lib.hid hid
         have eQ:=Lib.hid (fun wx (hb:Below w3.heap.size w3 wx)=>show DS W0 wx M f D/\Ask W0 wx M f D from ⟨cK.down hb,(cK.down hb).ask eO⟩)
         clear hn DI cK jg
         go_wp2_with fail
         refine hid.out.mono ?_
         rintro e w4 ⟨rfl,fE⟩
         obtain ⟨jh,fY⟩:=eQ.out w4 fE
         have hle:=fY.left
         rw [k1] at hle
         replace hle:=Lib.hid hle
         have ta:=Lib.hid (fun wx (hb:Below w4.heap.size w4 wx)=>eQ.out wx (fE.trans (hb.mono fE.size)))
         clear hid eQ jh fY fE
         go_wp2_with fail
         refine hle.out.mono ?_
         rintro e w5 ⟨A5,cap5,rfl,gb⟩
         obtain ⟨gV,nP⟩:=ta.out w5 gb
         have nR:=nP.waits
         have JU:=Lib.hid (bt.out w5 gV)
         generalize M.ws.length=q at*
         have hq:((q:Int)==0)=false:=by simp; omega
         have Xh:¬((q:Int)=0):=by omega
         replace nR:=Lib.hid nR
         clear hle ta nP gV gb bt eO
         go_wp2_with fail
         refine nR.out.mono ?_
         rintro e w6 ⟨rfl,rfl⟩
         clear nR
         go_wp2_with fail
         refine JU.out.mono ?_
         rintro e w7 ⟨rfl,D',pS,wV,_⟩
         have hE:=Lib.hid (kc.out w7 D' pS wV)
         clear JU pS wV kc
         go_wp2_with fail
         go_meet
         exact ⟨y,rfl,oQ,by omega,hE.out⟩
        ·have hid:=jg.idle
         rw [decide_eq_false h0] at hid
         replace hid:=Lib.hid hid
         have eQ:=Lib.hid (fun wx (hb:Below w3.heap.size w3 wx)=>bt.out wx (cK.down hb))
         clear hn DI cK jg bt eO
         go_wp2_with fail
         refine hid.out.mono ?_
         rintro e w4 ⟨rfl,fE⟩
         have JV:=Lib.hid (eQ.out w4 fE)
         clear hid eQ fE
         go_wp2_with fail
         refine JV.out.mono ?_
         rintro e w7 ⟨rfl,D',pS,wV,_⟩
         have hE:=Lib.hid (kc.out w7 D' pS wV)
         clear JV pS wV kc
         go_wp2_with fail
         go_meet
         exact ⟨y,rfl,oQ,by omega,hE.out⟩
       ·rw [decide_eq_false hr] at hR
        replace hR:=Lib.hid hR
        have hn:=Lib.hid (fun wx (hb:Below wr.heap.size wr wx)=>show FS W0 wx M.m f (i+1) from ⟨M,D,rfl,hS.down hb,hF.up⟩)
        clear hA hS hF c2 lm hr
        go_wp2_with fail
        refine hR.out.mono ?_
        rintro e w3 ⟨rfl,ba⟩
        have hE:=Lib.hid (hn.out w3 ba)
        clear hn ba hR
        go_wp2_with fail
        go_meet
        exact ⟨y,rfl,oQ,by omega,hE.out⟩
    case rest=>
     skip
     as_aux_lemma=>
      obtain ⟨y',rfl,JW,Xi,M,D,rfl,hS,hF⟩:=hcut
      obtain ⟨wq,Vz⟩:∃ wq,wq=wc:=⟨_,rfl⟩
      subst Vz
      have hA:=hS.ask hF
      clear sZ oQ sI pZ
      have c2:=hA.c2
      have lm:=hA.lm
      have JX:=Lib.hid hA.fault
      have lK:=Lib.hid hA.spare
      have nR:=Lib.hid hA.waits
      have hle:=Lib.hid hA.left
      have zG:=hF.iF
      have cQ:D.at_=0->D.left.length=0:=fun q=>by rw [(hF.pd.zero q).1]; rfl
      have hn:=Lib.hid (fun wx (hb:Below wq.heap.size wq wx)=>show DS W0 wx M f D/\Ask W0 wx M f D from ⟨hS.down hb,(hS.down hb).ask hF⟩)
      have eN:=Lib.hid (fun wx (hb:Below wq.heap.size wq wx)=>show FS W0 wx M.m f (i+1) from ⟨M,D,rfl,hS.down hb,hF⟩)
      clear hA hS hF
      generalize (du M.ss M.ss.length).length=s at*
      generalize M.ws.length=q at*
      have oV:wrap64 ((s:Int)+(q:Int))=(s:Int)+(q:Int):=by unfold wrap64; omega
      have fM:wrap64 ((s:Int)+(q:Int)+(D.left.length:Int))=30:=by unfold wrap64; omega
      go_upto_region 18 with (fail)
      go_wp2_with fail
      refine JX.out.mono ?_
      rintro e w3 ⟨rfl,rfl⟩
      clear JX
      go_wp2_with fail
      refine lK.out.mono ?_
      rintro e w3 ⟨rfl,rfl⟩
      clear lK
      go_wp2_with fail
      refine nR.out.mono ?_
      rintro e w3 ⟨rfl,rfl⟩
      clear nR
      go_wp2_with fail
      refine hle.out.mono ?_
      rintro e w4 ⟨A4,cap4,rfl,fE⟩
      obtain ⟨jh,fY⟩:=hn.out w4 fE
      have hid:=fY.idle
      by_cases h0:D.at_=0
      ·rw [decide_eq_true h0] at hid
       replace hid:=Lib.hid hid
       have k1:=cQ h0
       replace fE:=Lib.hid fE
       clear hle cQ jh fY c2 lm
       go_wp2_with fail
       refine hid.out.mono ?_
       rintro e w5 ⟨rfl,gb⟩
       replace gb:=Lib.hid (fE.out.trans (gb.mono fE.out.size))
       obtain ⟨gV,nP⟩:=hn.out w5 gb.out
       have hle:=nP.left
       rw [k1] at hle
       replace hle:=Lib.hid hle
       clear hid fE gV nP hn
       go_wp2_with fail
       refine hle.out.mono ?_
       rintro e w6 ⟨A6,cap6,rfl,ld⟩
       have hE:=Lib.hid (eN.out w6 (gb.out.trans (ld.mono gb.out.size)))
       clear hle ld gb eN
       go_wp2_with fail
       go_roundw
       case rel=>exact ⟨i+1,y',by omega,by go_num,rfl,JW,by omega,hE.out⟩
       case measure=>simp [intOf]; omega
      ·rw [decide_eq_false h0] at hid
       replace hid:=Lib.hid hid
       replace fE:=Lib.hid fE
       clear hle cQ jh fY c2 lm hn
       go_wp2_with fail
       refine hid.out.mono ?_
       rintro e w5 ⟨rfl,gb⟩
       have hE:=Lib.hid (eN.out w5 (fE.out.trans (gb.mono fE.out.size)))
       clear hid fE gb eN
       go_wp2_with fail
       go_roundw
       case rel=>exact ⟨i+1,y',by omega,by go_num,rfl,JW,by omega,hE.out⟩
       case measure=>simp [intOf]; omega
  case neg=>
   skip
   as_aux_lemma=>
    obtain rfl:i=len:=by omega
    obtain ⟨M,D,rfl,hS,hF⟩:=hS
    have nV:Hid (∃ M' D',M'.m=M.m/\DS W0 wr M' f D'/\Fr M' D' i/\jU M' D'<=400-0):=Lib.hid ⟨M,D,rfl,hS,hF,by have:=hF.Oj; omega⟩
    generalize M.m=m at*
    clear pZ hS hF
    go_upto_region 21 with (fail)
    go_wp2_with fail
    go_loopw [107] (fun jv wx=>∃ j:Nat,j<=400/\jv=.int .i64 j/\∃ M' D',M'.m=m/\DS W0 wx M' f D'/\Fr M' D' i/\jU M' D'<=400-j) (fun jv _=>400-(intOf jv).toNat)
    case atStart=>exact ⟨0,Nat.zero_le _,rfl,nV.out⟩
    case round=>
     obtain ⟨j,hj,rfl,M,D,rfl,hS,hF,hp⟩:=hrel
     clear nV
     by_cases DJ:j<400
     case pos=>
      have hR:=BB hS hF
      clear sZ
      by_cases hr:D.at_≠0\/M.ws≠[]
      ·rw [decide_eq_true hr] at hR
       replace hR:=Lib.hid hR
       have bt:=Lib.hid (fun w3 (hb:Below wr.heap.size wr w3)=>Gj (hS.down hb) hF (by omega) hr)
       have kc:=Lib.hid (fun w4 (h:yv W0 w4 M f D i (.returned (.tuple #[])))=>show ∃ M' D',M'.m=M.m/\DS W0 w4 M' f D'/\Fr M' D' i/\jU M' D'<=400-(j+1) from by
        obtain ⟨_,D',g1,g2,g3⟩:=h
        exact ⟨_,D',yu.1,g1,g2,by omega⟩)
       clear hS hF hr hp
       go_wp2_with fail
       refine hR.out.mono ?_
       rintro e w3 ⟨rfl,ba⟩
       have jB:=Lib.hid (bt.out w3 ba)
       clear hR ba bt
       go_wp2_with fail
       refine jB.out.mono ?_
       rintro e w4 ⟨rfl,q⟩
       have hE:=Lib.hid (kc.out w4 ⟨rfl,q⟩)
       clear jB kc q
       go_wp2_with fail
       go_roundw
       case rel=>exact ⟨j+1,by omega,by go_num,hE.out⟩
       case measure=>simp [intOf]; omega
      ·rw [decide_eq_false hr] at hR
       replace hR:=Lib.hid hR
       have kc:=Lib.hid (fun w3 (hb:Below wr.heap.size wr w3)=>show ∃ M' D',M'.m=M.m/\DS W0 w3 M' f D'/\Fr M' D' i/\jU M' D'<=400-(j+1) from
        ⟨M,D,rfl,hS.down hb,hF,by
         have h0:D.at_=0:=by omega
         have hw:M.ws=[]:=Decidable.not_not.1 (fun q=>hr (.inr q))
         unfold jU
         rw [if_pos h0,if_pos hw]
         omega⟩)
       clear hS hF hr hp
       go_wp2_with fail
       refine hR.out.mono ?_
       rintro e w3 ⟨rfl,ba⟩
       have hE:=Lib.hid (kc.out w3 ba)
       clear hR ba kc
       go_wp2_with fail
       go_roundw
       case rel=>exact ⟨j+1,by omega,by go_num,hE.out⟩
       case measure=>simp [intOf]; omega
     case neg=>
      obtain ⟨h0,hw⟩:=hF.Ol (by omega)
      have zG:=hF.iF
      rw [hw,(hF.pd.zero h0).1] at zG
      have JY:(du M.ss M.ss.length).length=30:=by simpa using zG
      have fZ:=Lib.hid (fun w3 (hb:Below wr.heap.size wr w3)=>show DS W0 w3 M f D from hS.down hb)
      have eD:=Lib.hid (fun w3 (h:DS W0 w3 M f D)=>show Calls Tryz.prog 19 #[ptr f,ptr M.m] w3 (fun e w'=>e=.returned (.bool false)/\Below w3.heap.size w3 w') from by
       have:=BB h hF
       rw [decide_eq_false (fun q=>by rcases q with q | q; exact q h0; exact q hw)] at this
       exact this)
      have JZ:=Lib.hid (fun w3 (h:DS W0 w3 M f D)=>show (Calls Tryz.prog 25 #[ptr M.ar] w3 fun e w'=>e=.returned (.int .i64 30)/\w3=w')/\w3.cell? ⟨M.m,2,none⟩=some (ptr M.ar)/\M.m<w3.heap.size from by
       have hA:=h.ask hF
       have hs:=hA.spare
       rw [JY] at hs
       exact ⟨hs,hA.c2,hA.lm⟩)
      have zH:=Lib.hid (fun w3 (h:DS W0 w3 M f D)=>show Calls Tryz.prog 20 #[ptr f] w3 (fun e w'=>e=.returned (.bool true)/\Below w3.heap.size w3 w') from by
       have:=Gg h hF
       rw [decide_eq_true h0] at this
       exact this)
      clear hS hF hp zG JY h0 hw
      go_wp2_with fail
      refine (sZ.out _).mono ?_
      rintro e w3 ⟨rfl,ba⟩
      have cK:=fZ.out w3 ba
      obtain ⟨jB,c2,lm⟩:=JZ.out w3 cK
      replace jB:=Lib.hid jB
      have J0:=Lib.hid (zH.out w3 cK)
      replace cK:=Lib.hid cK
      clear sZ ba fZ JZ zH
      go_wp2_with fail
      refine jB.out.mono ?_
      rintro e w4 ⟨rfl,rfl⟩
      clear jB
      go_wp2_with fail
      refine J0.out.mono ?_
      rintro e w5 ⟨rfl,gb⟩
      have gV:=cK.out.down gb
      have J1:=Lib.hid (eD.out w5 gV)
      have bI:=gV.below
      replace bI:=Lib.hid bI
      clear J0 gb gV cK eD c2 lm
      go_wp2_with fail
      refine J1.out.mono ?_
      rintro e w6 ⟨rfl,ld⟩
      have hE:=Lib.hid (bI.out.trans (ld.mono bI.out.size))
      have pR:¬(y<0):=by omega
      clear J1 bI ld
      go_wp2_with fail
      go_ret
      exact ⟨rfl,hE.out⟩
end Go.Proofs.YtpanebgakndddaaGreat.Wf
