/- Walks and plain mathematics, put together in their order: TwB, RzG, ClQ, ClR, DoA, DoB, ClU, ClV, ClX, ClZ, ClM. -/
import Derived.Test.YtpanebgakndddaaGreatPart10
import Derived.Test.YtpanebgakndddaaGreatMemNew
import Derived.Test.YtpanebgakndddaaGreatGetB
import Derived.Test.YtpanebgakndddaaGreatWalkC
import Derived.Stop.Asserts
set_option linter.unusedVariables false
set_option linter.unusedSimpArgs false
namespace Go.Proofs.YtpanebgakndddaaGreat.iT
open Go Go.RowKit Hp K Fl Rw Hm Ar Mm Me LK Qs Wk Re fp Pn Pc Mq Pu gj gm Dl
set_option maxRecDepth 100000
section
variable {L:Lm} {n B:Nat} {cs:Nat->List Mq.Hp} {l l':List Pr} {G:Nat} {key val:ByteArray} {i:Int} {hb:Nat}
theorem yY (h:Mp L n B cs l G) {W:Wa} (hf:fF (Mp.ep L n B cs key val i hb) W) (hz:W.found=0->W.nd=.zero):W.nd.val=(Pc.lk l key).getD ⟨#[]⟩:=by
 have hq:=hf
 rw [h.lk]
 rcases hf with ⟨h0,hk,_⟩ | ⟨pre,x,p,t,z,k,hq,hp,hx,hk,bS,hW,hc,ju⟩
 ·have:Pc.lk (bs (cs (ai key n))) key=none:=nT.2 (by simpa using hk)
  rw [this,hz h0]
  rfl
 ·have hm:p∈bs (cs (ai key n)):=by
   have hq:cs (ai key n)=_:=hq
   rw [hq]
   simp
  have hp:p.1=key:=hp
  have hn:((bs (cs (ai key n))).map (·.1)).Nodup:=by
   rw [tU]
   exact h.kd _ (dJ h.pw key).1
  have:=vZ hn hm
  rw [hp] at this
  rw [this,hW]
  rfl
end
def J5 (W0 w w':World) (M:Mo) (A:Option Addr) (cap:Nat) (lr l:List Pr) (n B G:Nat) (key:ByteArray) (a:Qa):Prop:=
 ∃ (M':Mo) (a':Qa) (D':Dt),eh W0 w' M' A cap lr/\M'.m=M.m/\cF w' a' D'/\a'.f=a.f/\D'.bU=0/\decide (D'.W.found≠0)=(Pc.lk l key).isSome/\D'.W.nd.val=(Pc.lk l key).getD ⟨#[]⟩/\M'.ss.length=M.ss.length/\M'.k=M.k/\Still (zl++GX) w w'/\
   M'.ws.length=M.ws.length+(if (Pc.lk l key).isSome then 1 else 0)/\∃ cs',∀ l',ux l l' key->Mp (lm M') n B cs' l' G
theorem Vc {W0 w:World} {M:Mo} {A:Option Addr} {cap:Nat} {l lr:List Pr} {n B:Nat} {cs:Nat->List Mq.Hp} {G:Nat} (h:eh W0 w M A cap lr) (hm:Mp (lm M) n B cs l G) (hG:G<=1000000) {a:Qa} {hh:Nat} {i:Int} {key:ByteArray} (hi:0<=i/\i<=1000) (hP:cF w a (kD hh i key)) (fR:∀ x,kW a (kD hh i key) x->W0.heap.size<=x) (K:Nat) (hc:∀ b,b<n->(cs b).length+8<=K) (hK:K<=1000000):
 Calls Tryz.prog 58 #[ptr M.m,.iface 164 (ptr a.f),.int .i64 K] w fun e w'=>(∃ (k:Nat) (s:Lm×Dt),e=.returned (.tuple #[.int .i64 k,.bool true])/\fin (fun s:Lm×Dt=>nR s.1 s.2) (fun s=>dK s.1 s.2) (fun s=>ja s.1 s.2) K (lm M,kD hh i key)=(k,true,s))/\J5 W0 w w' M A cap lr l n B G key a:=by
 have hE:=hm.si (key:=key) (val:=⟨#[]⟩) (i:=i) (hb:=hh) hG hi
 have mQ:=hc (ai key n) (dJ hm.pw key).1
 refine (Oy h.mem hP hE K ⟨by omega,hK⟩).mono fun e w' q=>?_
 obtain ⟨k,s,q1,⟨_,q2⟩,⟨W,hf,hz,rfl⟩,M',a',r1,r2,r3,r4,r5,r7,r8⟩:=q
 obtain ⟨m1,m2,m3,cs',m4⟩:=BS hm hf
 have hd:lm M'=gQ (lm M) (B+ai key n) W:=r2
 refine ⟨⟨k,_,q1,q2⟩,M',a',_,h.iW r1 r3.aQ r8 (fun x q=>?_) (fun x hx q=>?_),r3.m,r4,r5,rfl,tW hm hf,yY hm hf hz,?_,?_,He r8 (fun x q=>?_),?_,cs',?_⟩
 ·rcases q with q | q
  ·exact h.pF x q
  ·exact fR x q
 ·rcases q with q | q
  ·exact h.BT hx q
  ·exact h.apart hx (by decide) (hP.ty q)
 ·have e:M'.ss=(lm M').ss:=rfl
  rw [e,hd,m2]
 ·have e:M'.k=(lm M').k:=rfl
  rw [e,hd,m3]
 ·rcases q with q | q
  ·exact (h.mem.ty q).mono (fun t ht=>List.mem_append_left _ ht)
  ·exact (hP.ty q).mono (fun t ht=>List.mem_append_right _ ht)
 ·have e:M'.ws=(lm M').ws:=rfl
  rw [e,hd,m1]
 ·rw [hd]
  exact m4
def L0:Lm:=⟨[1,0,0,0],List.replicate 6 (-1),[.zero],false,1,[(1,3)],[]⟩
theorem Vd (h k:Nat) (s:Lm×Dt) (e:fin (fun s:Lm×Dt=>nR s.1 s.2) (fun s=>dK s.1 s.2) (fun s=>ja s.1 s.2) 50 (L0,kD h 0 kA)=(k,true,s)):k=5:=by
 have:(fin (fun s:Lm×Dt=>nR s.1 s.2) (fun s=>dK s.1 s.2) (fun s=>ja s.1 s.2) 50 (L0,kD h 0 kA)).1=5:=by kernel_rfl
 rw [e] at this
 exact this
set_option maxHeartbeats 2000000 in
theorem eA (w:World):Calls Tryz.prog 60 #[] w fun e w'=>e=.returned (.bool true)/\Below w.heap.size w w':=by
 have hN:=Lib.hid (na 1 1 w (by omega) (by omega))
 have hA:=Lib.hid (fun w=>gm.eA w)
 have lA:kA.size<=maxLen:=by simp only [maxLen]; decide
 have LJ:=Lib.hid (fun w=>Dl.nj 0 kA lA w)
 clear lA
 go_enter Tryz.func60,Tryz.ntmps60
 go_wp2_with fail
 refine hN.out.mono ?_
 rintro e w1 ⟨M,rfl,fh⟩
 have lz:=tQ fh (by omega) (by omega)
 obtain ⟨hM,bp,hB,h1,h2,h3,h4,h5,h6,h7⟩:=fh
 have hL:lm M=L0:=by
  unfold lm L0
  rw [h1,h2,h3,h4,h5,h6,h7]
  rfl
 have hS:eh w w1 M none 0 []:=⟨hM,Row.nil _ _ _ _,hB,bp,by simp [In]⟩
 have tl:M.ws.length=0:=by rw [h7]; rfl
 replace lz:=Lib.hid lz
 replace hL:=Lib.hid hL
 replace hS:=Lib.hid hS
 replace tl:=Lib.hid tl
 clear hN hM bp hB h1 h2 h3 h4 h5 h6 h7
 go_wp2_with fail
 refine (LJ.out _).mono ?_
 rintro e w2 ⟨a,hh,rfl,pA,fK,ag⟩
 have mT:=Vc (hS.out.down ag) lz.out (by omega) (i:=0) (by omega) pA (fun x hx=>Nat.le_trans hS.out.below.size (fK x hx)) 50 (fun b hb=>by simp) (by omega)
 have aP:=mT.mono fun e w' q=>show e=.returned (.tuple #[.int .i64 5,.bool true])/\J5 w w2 w' M none 0 [] [] 1 3 0 kA a from by
  obtain ⟨⟨k,s,q1,q2⟩,q3⟩:=q
  rw [hL.out] at q2
  have:=Vd _ _ _ q2
  subst this
  exact ⟨q1,q3⟩
 replace aP:=Lib.hid aP
 clear mT LJ pA fK ag hL lz hS
 go_wp2_with fail
 refine aP.out.mono ?_
 rintro e w3 ⟨rfl,M',a',D',eN,em,LL,ea,E9,uZ,LM,nZ,hk,bR,pe,_⟩
 have hH:=Dl.vV LL
 rw [uZ,LM,ea] at hH
 simp only [Pc.lk] at hH pe
 have LN:M'.ws.length=0:=by rw [pe,tl.out]; rfl
 replace hH:=Lib.hid hH
 have hW:=fun w4 (hb:Below w3.heap.size w3 w4)=>Sq (eN.mem.below hb)
 rw [LN,em] at hW
 replace hW:=Lib.hid hW
 have ay:=Lib.hid eN.below
 clear aP eN LL em ea E9 uZ LM nZ hk bR pe LN tl
 go_wp2_with fail
 refine hH.out.mono ?_
 rintro e w4 ⟨rfl,az⟩
 clear hH
 go_wp2_with fail
 refine (hA.out _).mono ?_
 rintro e w5 ⟨rfl,bM⟩
 have rU:=az.trans (bM.mono az.size)
 have mq:=Lib.hid (hW.out w5 rU)
 have oA:=Lib.hid (ay.out.trans (rU.mono ay.out.size))
 clear hA az bM rU ay hW
 go_wp2_with fail
 refine mq.out.mono ?_
 rintro e w6 ⟨rfl,rfl⟩
 clear mq
 go_wp2_with fail
 go_ret
 exact ⟨rfl,oA.out⟩
end Go.Proofs.YtpanebgakndddaaGreat.iT
namespace Go.Proofs.YtpanebgakndddaaGreat.kC
open Go Go.RowKit Hp K Fl Rw Hm Ar Mm Me LK Qs Wk Re fp Pn Pc Mq Pu gj gm iT Dl
set_option maxRecDepth 100000
def Cz (L L':Lm):Prop:=L'.ds=L.ds/\L'.xs.length=L.xs.length/\Cl.nth L'.xs 0=Cl.nth L.xs 0
theorem Jj {xs:List Int} {i:Nat} (v:Int) (hi:i≠0):Cl.nth (xs.set i v) 0=Cl.nth xs 0:=by
 by_cases hl:i<xs.length
 ·rw [fG _ _ _ hl,if_neg (by omega)]
 ·rw [List.set_eq_of_length_le (by omega)]
section
variable {W0 w w':World} {M:Mo} {A:Option Addr} {cap:Nat} {l:List Pr} {n B:Nat} {cs:Nat->List Mq.Hp} {G:Nat}
theorem GK {E:Ep} {s:Lm×Pt} (hc:E.c≠0) (h:Qp E s):Cz E.L s.1:=by
 cases h with
 | full W _ _=>exact ⟨rfl,rfl,rfl⟩
 | done W m _ _=>
   refine ⟨(sJ E W m).2.1,I6 E W m,?_⟩
   show Cl.nth (dM E W m).xs 0=_
   unfold dM
   split
   ·rfl
   ·exact Jj _ hc
theorem GM {L:Lm} {c:Nat} {W:Wa} (hc:c≠0):Cz L (gQ L c W):=by
 unfold gQ
 split
 ·exact ⟨rfl,rfl,rfl⟩
 split
 ·exact ⟨rfl,rfl,rfl⟩
 ·exact ⟨rfl,by simp,Jj _ hc⟩
end
end Go.Proofs.YtpanebgakndddaaGreat.kC
namespace Go.Proofs.YtpanebgakndddaaGreat.Ca
open Go Go.RowKit Hp K Fl Rw Hm Ar Mm Me LK Qs Wk Pc Pn Mq Pu Zp Mx cJ Bs Zr gm kC
theorem GD {L:Lm} {n B:Nat} {cs:Nat->List Mq.Hp} {l:List Pr} {G t s c x tt ca:Nat} {i:Int} (hm:Mp L n B cs l G) (hG:G<=1000000) (hl:l.length<=30) (eW:jS L t) (ht:t<=200) (hs:FM.bl (s:Int)=true) (hw:nS l.length s n c x tt ca) (hc:c<=19900) (hx:x<=512) (xF:tt<=8) (tc:ca<=30*256) (hi:0<=i/\i<=1000):
 Lone L (bK n cs) ⟨10+512*(t+1),1+8*(t+1),1+20000*((t:Int)+1)⟩ s l (c+10) (L,bX i s):=by
 obtain ⟨u1,u2,u3,u4⟩:=eW
 have uR:=GF hm hG u3 (by omega) (by omega) (cap:=1000) ⟨by omega,by omega⟩
 have xG:=Zr.Mp.mx hm
 have D8:nS (pG n B 1000 cs).few s (pG n B 1000 cs).n c x tt ca:=by
  show nS (flat n cs).length s n c x tt ca
  rw [xG]
  exact hw
 have bO:bX i s=⟨i,s,1,0,.none⟩:=by unfold bX; rw [if_pos hs]
 refine ⟨.rest (pG n B 1000 cs),fun _ _ _=>True,c+10,ca,Nat.le_refl _,uR,⟨⟨by rw [bO]; exact hi,by rw [bO],by rw [bO],Zr.Kp.refl _,by show L.hs.length=6; rw [hm.hs]; simp,fun j a b=>?_,?_,⟨by simp only; omega,by simp only; omega,by simp only; omega⟩,List.Perm.refl _⟩,.take (pG n B 1000 cs) c x tt ca (by rw [bO]; exact ⟨Nat.le_refl _,by simp⟩) D8 (by rw [bO]; simp only; omega) (Nat.le_refl _) (by show 1000+ca<=_; omega) (by simp only; omega) (by simp only; omega)⟩,hm.zero⟩
 ·show Lo.aF L.hs j=dA (bX i s).nx (bX i s).worker j
  rw [bO,hm.hs]
  unfold dA Lo.aF
  simp only [List.getD_eq_getElem?_getD,List.getElem?_replicate]
  rw [if_pos (by omega)]
  by_cases q:j=5
  ·rw [if_pos q]; rfl
  ·rw [if_neg q,if_neg (by omega)]; rfl
 ·show Cl.nth L.xs 0+_<=1+20000*((t:Int)+1)
  omega
theorem GG {L L':Lm} {n B:Nat} {cs:Nat->List Mq.Hp} {l:List Pr} {G t s:Nat} {R:Rz} (hm:Mp L n B cs l G) (h:Qr L (bK n cs) ⟨10+512*(t+1),1+8*(t+1),1+20000*((t:Int)+1)⟩ s l L' R) (hz:∀ i:Nat,(i:Int)<L'.k->Cl.nth L'.xs (2+i)=0):
 R.err=0/\(∃ B' cs',Mp L' s B' cs' l G)/\L'.ss.length=L.ss.length/\L'.k=L.k/\L'.ws=L.ws/\jS L' (t+1):=by
 obtain ⟨Y,r1,r2,r3,r4,r5,r6,r7,r8,r9,r10⟩:=h
 have:=Zr.GH hm r1 r7 r6 hz r5 r4
 rw [r2] at this
 refine ⟨r3,⟨_,_,this⟩,r6.ss,r6.k,r6.ws,r9,r10,r1.base.p1,?_⟩
 have e:((t+1:Nat):Int)=(t:Int)+1:=by omega
 rw [e]
 exact r8
theorem GI {L:Lm} {n B:Nat} {cs:Nat->List Mq.Hp} {l:List Pr} {G:Nat} {i z:Int} (hm:Mp L n B cs l G) (hz:FM.bl z=false) (k:Nat) (s:Lm×Rz) (hs:k=1/\s=(L,bX i z)):
 oO s.1 s.2/\gD s.1 s.2=true/\1<=k/\(eJ s.1 s.2=true->bH s.1 s.2=(L,{bX i z with err:=5,nx:=12}))/\(eJ s.1 s.2=false->k-1=1/\bH s.1 s.2=(L,bX i z)):=by
 obtain ⟨rfl,rfl⟩:=hs
 have bO:bX i z=⟨i,z,0,0,.none⟩:=by unfold bX; rw [if_neg (by rw [hz]; simp)]
 have eu:=hm.kB
 have hk:=hm.k
 have bz:=hm.xl
 have td:=hm.hs
 have eL:oO L (bX i z):=⟨by rw [bO]; simp,by omega,by rw [td]; simp,fun q=>absurd (by rw [bO]) q,fun j=>(hm.tb j).1,fun q=>by rw [bO] at q; simp at q,fun q=>by rw [bO] at q; simp at q,fun q=>by rw [bO] at q; simp at q⟩
 have bR:bH L (bX i z)=(L,{bX i z with err:=5,nx:=12}):=by unfold bH; rw [if_pos (by rw [bO])]
 have jt:gD L (bX i z)=true:=by unfold gD; rw [bO]; simp
 have cB:eJ L (bX i z)=true:=by unfold eJ; rw [bO]; simp
 exact ⟨eL,jt,Nat.le_refl _,fun _=>bR,fun q=>by rw [cB] at q; simp at q⟩
theorem yY {L:Lm} {n B:Nat} {cs:Nat->List Mq.Hp} {l:List Pr} {G:Nat} {key val:ByteArray} {i:Int} {hb:Nat} (h:Mp L n B cs l G) {W:Wa} (hf:fF (Mp.ep L n B cs key val i hb) W) (hz:W.found=0->W.nd=.zero):W.nd.val=(Pc.lk l key).getD ⟨#[]⟩:=by
 rw [h.lk]
 rcases hf with ⟨h0,hk,_⟩ | ⟨pre,x,p,t,z,k,hq,hp,hx,hk,bS,hW,hc,ju⟩
 ·have:Pc.lk (bs (cs (ai key n))) key=none:=nT.2 (by simpa using hk)
  rw [this,hz h0]
  rfl
 ·have hm:p∈bs (cs (ai key n)):=by
   have hq:cs (ai key n)=_:=hq
   rw [hq]
   simp
  have hp:p.1=key:=hp
  have hn:((bs (cs (ai key n))).map (·.1)).Nodup:=by
   rw [tU]
   exact h.kd _ (dJ h.pw key).1
  have:=vZ hn hm
  rw [hp] at this
  rw [this,hW]
  rfl
theorem yZ {L L':Lm} {t:Nat} (h:jS L t) (hc:Cz L L'):jS L' (t+1):=by
 obtain ⟨u1,u2,u3,u4⟩:=h
 obtain ⟨c1,c2,c3⟩:=hc
 exact ⟨by rw [c2]; omega,by rw [c1]; omega,by rw [c3]; exact u3,by rw [c3]; omega⟩
end Go.Proofs.YtpanebgakndddaaGreat.Ca
namespace Go.Proofs.YtpanebgakndddaaGreat.Ca
open Go Go.RowKit Hp K Fl Rw Hm Ar Mm Me LK Qs Wk Re fp Pc Pn Mq Pu Zp Mx cJ Bs Dl Zr gj gm kC
theorem Nz (few n s:Nat) (hf:few<=30) (hn:FM.bl (n:Int)=true) (hs:FM.bl (s:Int)=true) (jw:n<=64) (lF:s<=64):∃ c x t a,nS few s n c x t a/\c<=342+198*few/\x<=512/\t<=8/\a<=30*256:=by
 obtain ⟨b,hb,rfl⟩:=za hn
 obtain ⟨k,hk,rfl⟩:=za hs
 have l7:b<=6:=BP (b:=6) jw
 have D9:k<=6:=BP (b:=6) lF
 have av:1<=2 ^ b:=Nat.one_le_two_pow
 have KA:1<=2 ^ k:=Nat.one_le_two_pow
 by_cases h:b<=k
 ·obtain ⟨c,x,hu⟩:=BQ few k hk (k-b) b (by omega)
  obtain ⟨e1,e2,e3⟩:=hu.eqs
  have m1:(k-b)*(15+12*few)<=6*(15+12*few):=Nat.mul_le_mul_right _ (by omega)
  have m2:(2*few+4)*2 ^ k<=(2*few+4)*64:=Nat.mul_le_mul_left _ lF
  have m3:(2*few+4)*1<=(2*few+4)*2 ^ b:=Nat.mul_le_mul_left _ av
  exact ⟨c,x,k-b,0,.inl hu,by omega,by omega,by omega,by omega⟩
 ·obtain ⟨c,x,a,hu⟩:=GJ few k (b-k) b (by omega) hb
  obtain ⟨e1,e2,e3,e4⟩:=hu.eqs
  have m1:(b-k)*14<=6*14:=Nat.mul_le_mul_right _ (by omega)
  have m2:(few+4)*2 ^ b<=(few+4)*64:=Nat.mul_le_mul_left _ jw
  have m3:few*2 ^ b<=30*64:=Nat.mul_le_mul hf jw
  have m4:x<=2 ^ b:=Nat.le.intro e2
  exact ⟨c,x,b-k,a,.inr hu,by omega,by omega,by omega,by omega⟩
theorem v5 {l:List Pr} {key:ByteArray} (hn:(l.map (·.1)).Nodup):(l.filter fun p=>decide (p.1≠key)).length+(if (Pc.lk l key).isSome then 1 else 0)=l.length:=by
 by_cases hk:key∈l.map (·.1)
 ·have h1:(Pc.lk l key).isSome=true:=by
   cases e:Pc.lk l key with
   | some v=>rfl
   | none=>exact absurd hk (nT.1 e)
  rw [if_pos h1]
  clear h1
  induction l with
  | nil=>simp at hk
  | cons a l ih=>
    simp only [List.map_cons,List.nodup_cons] at hn
    by_cases e:a.1=key
    ·have hf:l.filter (fun p=>decide (p.1≠key))=l:=List.filter_eq_self.2 (fun p hp=>by
      simp only [decide_eq_true_eq]
      intro q
      exact hn.1 (by rw [e,<-q]; exact List.mem_map_of_mem hp))
     rw [List.filter_cons_of_neg (by simp [e]),hf]
     rfl
    ·rw [List.filter_cons_of_pos (by simp [e])]
     simp only [List.map_cons,List.mem_cons] at hk
     have:=ih hn.2 (hk.resolve_left (fun q=>e q.symm))
     simp only [List.length_cons]
     omega
 ·have h1:Pc.lk l key=none:=nT.2 hk
  rw [h1]
  rw [List.filter_eq_self.2 (fun p hp=>by
   simp only [decide_eq_true_eq]
   intro q
   exact hk (by rw [<-q]; exact List.mem_map_of_mem hp))]
  simp
def nU (L0:Lm) (l:List Pr) (n G t:Nat) (c:Ct) (s:Lm×Cl):Prop:=
 s.2.done=true/\bU s.2=0/\s.1.ss.length=L0.ss.length/\s.1.k=L0.k/\jS s.1 (t+1)/\∃ (n' B' G':Nat) (cs':Nat->List Mq.Hp),(n'=n\/(n':Int)=c.size)/\G'<=G+1/\
  ((cU c=0/\c.kind=1/\fW L0.ss=none/\da s.2=(4,false,⟨#[]⟩)/\Mp s.1 n' B' cs' l G')\/(¬(cU c=0/\c.kind=1/\fW L0.ss=none)/\da s.2=dg l c/\∀ l',dz l l' c->Mp s.1 n' B' cs' l' G'/\l'.length+s.1.ws.length<=l.length+L0.ws.length+1))
def mE (R:Nat->Lm×Cl->Prop) (Q:Lm×Cl->Prop):Prop:=∀ k s,R k s->jC s.1 s.2/\ij s.1 s.2=true/\1<=k/\(dI s.1 s.2=true->Q (bJ s.1 s.2))/\(dI s.1 s.2=false->R (k-1) (bJ s.1 s.2))
theorem mE.mono {R:Nat->Lm×Cl->Prop} {Q Q':Lm×Cl->Prop} (h:mE R Q) (hq:∀ s,Q s->Q' s):mE R Q':=fun k s hr=>by
 obtain ⟨h1,h2,h3,h4,h5⟩:=h k s hr
 exact ⟨h1,h2,h3,fun hd=>hq _ (h4 hd),h5⟩
def qN (L:Lm) (l:List Pr) (c:Ct):Nat:=if c.kind=1 then 8+L.ss.length else 352+198*l.length
section
variable {L:Lm} {l:List Pr} {n B G t:Nat} {cs:Nat->List Mq.Hp} {c:Ct} {i:Nat} {C:Cl}
theorem NA (hm:Mp L n B cs l G) (key:ByteArray) {j:Nat} (hj:(j:Int)<L.k):Gt.Ev.Ok ⟨L.ds,L.ss,L.xs,L.F,key,j,bs (cs (ai key n)),(cs (ai key n)).length⟩/\lk (bs (cs (ai key n))) key=lk l key:=by
 have l9:=hm.small
 obtain ⟨av,au⟩:=dJ hm.pw key
 have Au:=hm.ql av
 have ma:=hm.gE
 have eu:2+L.k<=B:=hm.kB
 have hk:1<=L.k/\L.k<=8:=hm.k
 have bz:B+n<=L.xs.length:=hm.xl
 have hc:Gt.cellOf (sm key) (Me.now L.xs L.ds)=((B+ai key n:Nat):Int):=by
  have bV:Me.now L.xs L.ds=(n,B):=hm.now
  unfold Gt.cellOf
  rw [bV]
  simp only
  rw [if_neg (by omega),au]
  omega
 refine ⟨⟨l9.2,hm.db,hm.tb,⟨by simp only; omega,by simp only; omega⟩,hm.xb,hm.zero j hj,?_,?_,by simp only [bs,List.length_map]; omega,by simp only; omega⟩,(hm.lk key).symm⟩
 ·unfold Gt.Ev.cell
  simp only
  rw [hc]
  omega
 ·unfold Gt.Ev.cell
  simp only
  rw [hc]
  have e:word L.xs ((B+ai key n:Nat):Int)=(Cl.nth L.xs (B+ai key n)).toNat:=by
   unfold word
   rw [if_pos (by omega),Int.toNat_natCast]
  rw [e]
  exact (hm.ch _ av).cn
theorem F9 (hm:Mp L n B cs l G) (hG:G<=900000) (hl:l.length<=30) (eW:jS L t) (ht:t<=200) (jw:n<=64) (lF:c.size<=64\/65536<c.size) (hi:(i:Int)<L.k) (hC:iV i c C) (XY:L.ss.length<=300):
 ∃ (R:Nat->Lm×Cl->Prop) (k:Nat),k<=qN L l c/\R k (L,C)/\mE R (nU L l n G t c):=by
 have D9:1<=L.k/\L.k<=8:=hm.k
 have mN:0<=(i:Int)/\(i:Int)<=1000:=by omega
 have qg:jS L (t+1):=by obtain ⟨u1,u2,u3,u4⟩:=eW; exact ⟨by omega,by omega,u3,by omega⟩
 have eu:2+L.k<=B:=hm.kB
 have kN:∀ b,b<n->(cs b).length<=L.ss.length:=fun b hb=>by have:=(Mp.vP hm).1 b hb; omega
 obtain ⟨c1,c2,c3,c4⟩:=hC
 by_cases h0:cU c=0
 case neg=>
  have cC:=c3 h0
  have eC:C=⟨.ref,cU c,false⟩:=by cases C; simp only at c1 c2 cC; rw [c1,c2,cC]
  subst eC
  refine ⟨fun k s=>k=1/\s=(L,(⟨.ref,cU c,false⟩:Cl)),1,by unfold qN; split<;>omega,⟨rfl,rfl⟩,fun k s hs=>?_⟩
  obtain ⟨rfl,rfl⟩:=hs
  refine ⟨trivial,rfl,Nat.le_refl _,fun _=>?_,fun q=>by simp [dI] at q⟩
  refine ⟨rfl,rfl,rfl,rfl,qg,n,B,G,cs,.inl rfl,by omega,.inr ⟨fun q=>h0 q.1,?_,fun l' cS=>?_⟩⟩
  ·unfold dg; rw [if_pos h0]; rfl
  ·unfold dz at cS
   rw [if_neg (fun q=>h0 q.1),if_neg (fun q=>h0 q.1)] at cS
   rw [cS]; exact ⟨hm,by show l.length+L.ws.length<=_; omega⟩
 obtain ⟨k0,k1,k2,k3⟩:=c4 h0
 have sV:c.kind=0\/c.kind=1\/c.kind=2\/c.kind=3:=by
  unfold cU at h0
  split at h0
  ·omega
  ·omega
 rcases sV with hk | hk | hk | hk
 ·
  have cC:=k0 hk
  have eC:C=⟨.get (Gt.nc i c.key),0,false⟩:=by cases C; simp only at c1 c2 cC; rw [c1,c2,cC,h0]
  subst eC
  obtain ⟨hE,b9⟩:=NA hm c.key hi
  have hq:=kN (ai c.key n) (dJ hm.pw c.key).1
  refine ⟨fun k s=>∃ P d,s.2=(⟨.get P,0,d⟩:Cl)/\Gt.Rg ⟨L.ds,L.ss,L.xs,L.F,c.key,i,bs (cs (ai c.key n)),(cs (ai c.key n)).length⟩ L k (s.1,P),5+(cs (ai c.key n)).length,by unfold qN; rw [if_neg (by omega)]; omega,⟨_,_,rfl,0,Gt.Gv.begin hE,by simp only; omega,rfl,rfl,rfl,rfl,rfl⟩,?_⟩
  refine mE.mono (Q:=fun s=>∃ P,s.2=(⟨.get P,0,true⟩:Cl)/\Gt.Qg ⟨L.ds,L.ss,L.xs,L.F,c.key,i,bs (cs (ai c.key n)),(cs (ai c.key n)).length⟩ L (s.1,P)) (GC (fun k s hs=>Gt.Rg.step hE ⟨rfl,rfl,rfl,rfl⟩ hs) 0) (fun s q=>?_)
  obtain ⟨P,q4,q5,q6⟩:=q
  have q5:s.1=L:=q5
  have q6:Gt.Fits (Pc.lk (bs (cs (ai c.key n))) c.key) P.W:=q6
  rw [b9] at q6
  unfold nU
  rw [q4,q5]
  refine ⟨rfl,rfl,rfl,rfl,qg,n,B,G,cs,.inl rfl,by omega,.inr ⟨fun q=>by omega,?_,fun l' cS=>?_⟩⟩
  ·unfold dg
   rw [if_neg (by omega),if_pos hk]
   show ((0:Int),decide (P.W.found≠0),P.W.nd.val)=_
   rw [q6.1,q6.2]
  ·unfold dz at cS
   rw [if_neg (fun q=>by omega),if_neg (fun q=>by omega)] at cS
   rw [cS]; exact ⟨hm,by show l.length+L.ws.length<=_; omega⟩
 ·
  obtain ⟨hh,cC⟩:=k1 hk
  have eC:C=⟨.put (Pu.jU hh i c.key c.val),0,false⟩:=by cases C; simp only at c1 c2 cC; rw [c1,c2,cC,h0]
  subst eC
  have hE:=hm.si (key:=c.key) (val:=c.val) (i:=i) (hb:=hh) (by omega) mN
  have hq:=kN (ai c.key n) (dJ hm.pw c.key).1
  refine ⟨fun k s=>∃ P d,s.2=(⟨.put P,0,d⟩:Cl)/\Rq (Mp.ep L n B cs c.key c.val i hh) k (s.1,P),8+(cs (ai c.key n)).length,by unfold qN; rw [if_pos hk]; omega,⟨_,_,rfl,(Rp.s (E:=Mp.ep L n B cs c.key c.val i hh) (4+(cs (ai c.key n)).length) _ _ .a1).q (by omega)⟩,?_⟩
  refine mE.mono (Q:=fun s=>∃ P,s.2=(⟨.put P,0,true⟩:Cl)/\Qp (Mp.ep L n B cs c.key c.val i hh) (s.1,P)) (GA (R:=Rq (Mp.ep L n B cs c.key c.val i hh)) (Q:=Qp (Mp.ep L n B cs c.key c.val i hh)) (fun k s hs=>by
   obtain ⟨j,hj,hr⟩:=hs
   obtain ⟨h1,h2,h3,h4⟩:=hr.step hE
   refine ⟨hr.ok hE,h1,by omega,h3,fun hd=>?_⟩
   obtain ⟨j',te,oh⟩:=h4 hd
   exact ⟨j',by omega,oh⟩) 0) (fun s q=>?_)
  obtain ⟨P,q4,q5⟩:=q
  obtain ⟨m1,m2,m3⟩:=BR hm (by omega) mN q5
  have rk:=GK (by show B+ai c.key n≠0; omega) q5
  have rk:Cz L s.1:=rk
  simp only at m1 m2 m3
  unfold nU
  rw [q4]
  rcases m3 with ⟨p1,p2,p3⟩ | ⟨p1,p2,p3,p4,p5,cs',p6⟩
  ·have g3:s.1=L:=p2
   rw [g3]
   refine ⟨rfl,m2,rfl,rfl,qg,n,B,G,cs,.inl rfl,by omega,.inl ⟨h0,hk,p1,?_,hm⟩⟩
   show (if P.err=0 then ((0:Int),decide (P.W.found≠0),(⟨#[]⟩:ByteArray)) else (P.err,false,⟨#[]⟩))=_
   rw [p3,if_neg (by omega)]
  ·refine ⟨rfl,m2,p4,p5,yZ eW rk,n,B,G+1,cs',.inl rfl,by omega,.inr ⟨fun q=>?_,?_,fun l' cS=>?_⟩⟩
   ·have q3:fW L.ss=none:=q.2.2
    rw [q3] at p1
    simp at p1
   ·unfold dg
    rw [if_neg (by omega),if_neg (by omega),if_pos hk]
    show (if P.err=0 then ((0:Int),decide (P.W.found≠0),(⟨#[]⟩:ByteArray)) else (P.err,false,⟨#[]⟩))=_
    rw [if_pos p2,m1]
   ·unfold dz at cS
    rw [if_pos ⟨h0,hk⟩] at cS
    refine ⟨p6 l' (GL hm.ln cS),?_⟩
    have e1:=cS.length_eq
    have e2:=v5 (key:=c.key) hm.ln
    simp only [List.length_cons] at e1
    show l'.length+s.1.ws.length<=_
    omega
 ·
  obtain ⟨hh,cC⟩:=k2 hk
  have eC:C=⟨.del (Dl.kD hh i c.key),0,false⟩:=by cases C; simp only at c1 c2 cC; rw [c1,c2,cC,h0]
  subst eC
  have hE:=hm.si (key:=c.key) (val:=⟨#[]⟩) (i:=i) (hb:=hh) (by omega) mN
  have hq:=kN (ai c.key n) (dJ hm.pw c.key).1
  refine ⟨fun k s=>∃ P d,s.2=(⟨.del P,0,d⟩:Cl)/\Dl.tV (Mp.ep L n B cs c.key ⟨#[]⟩ i hh) k (s.1,P),7+(cs (ai c.key n)).length,by unfold qN; rw [if_neg (by omega)]; omega,⟨_,_,rfl,(Dl.Rd.s (E:=Mp.ep L n B cs c.key ⟨#[]⟩ i hh) (4+(cs (ai c.key n)).length) _ _ .a1).q (by omega)⟩,?_⟩
  refine mE.mono (Q:=fun s=>∃ P,s.2=(⟨.del P,0,true⟩:Cl)/\Dl.Qd (Mp.ep L n B cs c.key ⟨#[]⟩ i hh) (s.1,P)) (GB (R:=Dl.tV (Mp.ep L n B cs c.key ⟨#[]⟩ i hh)) (Q:=Dl.Qd (Mp.ep L n B cs c.key ⟨#[]⟩ i hh)) (fun k s hs=>by
   obtain ⟨j,hj,hr⟩:=hs
   obtain ⟨h1,h2,h3,h4⟩:=Dl.Rd.step hE hr
   refine ⟨Dl.Rd.ok hE hr,h1,by omega,h3,fun hd=>?_⟩
   obtain ⟨j',te,oh⟩:=h4 hd
   exact ⟨j',by omega,oh⟩) 0) (fun s q=>?_)
  obtain ⟨P,q4,W,hf,hz,q5⟩:=q
  obtain ⟨m1,m2,m3,cs',m4⟩:=BS hm hf
  injection q5 with q5 q6
  have hd:s.1=gQ L (B+ai c.key n) W:=q5
  have b9:=tW hm hf
  have tg:=yY hm hf hz
  have q6:P=Dl.Ep.t (Mp.ep L n B cs c.key ⟨#[]⟩ i hh) 7 {Ep.H (Mp.ep L n B cs c.key ⟨#[]⟩ i hh) with holds:=false} W 0:=q6
  unfold nU
  rw [q4,hd]
  refine ⟨rfl,by rw [q6]; rfl,m2,m3,yZ eW (GM (by omega)),n,B,G,cs',.inl rfl,by omega,.inr ⟨fun q=>by omega,?_,fun l' cS=>?_⟩⟩
  ·unfold dg
   rw [if_neg (by omega),if_neg (by omega),if_neg (by omega),if_pos hk]
   show ((0:Int),decide (P.W.found≠0),P.W.nd.val)=_
   rw [q6]
   show ((0:Int),decide (W.found≠0),W.nd.val)=_
   rw [b9,tg]
  ·unfold dz at cS
   rw [if_neg (fun q=>by omega),if_pos ⟨h0,hk⟩] at cS
   refine ⟨m4 l' (GN hm.ln cS),?_⟩
   have e1:=cS.length_eq
   have e2:=v5 (key:=c.key) hm.ln
   show l'.length+(gQ L (B+ai c.key n) W).ws.length<=_
   omega
 ·
  have cC:=k3 hk
  have eC:C=⟨.rz (Zr.bX i c.size),0,false⟩:=by cases C; simp only at c1 c2 cC; rw [c1,c2,cC,h0]
  subst eC
  cases hp:FM.bl c.size with
  | false=>
    refine ⟨fun k s=>∃ P d,s.2=(⟨.rz P,0,d⟩:Cl)/\k=1/\(s.1,P)=(L,Zr.bX i c.size),1,by unfold qN; rw [if_neg (by omega)]; omega,⟨_,_,rfl,rfl,rfl⟩,?_⟩
    refine mE.mono (Q:=fun s=>∃ P,s.2=(⟨.rz P,0,true⟩:Cl)/\(s.1,P)=(L,{Zr.bX i c.size with err:=5,nx:=12})) (yX (R:=fun k s=>k=1/\s=(L,Zr.bX i c.size)) (Q:=fun s=>s=(L,{Zr.bX i c.size with err:=5,nx:=12})) (fun k s hs=>GI hm hp k s hs) 0) (fun s q=>?_)
    obtain ⟨P,q4,q5⟩:=q
    injection q5 with q5 q6
    unfold nU
    rw [q4,q5]
    refine ⟨rfl,rfl,rfl,rfl,qg,n,B,G,cs,.inl rfl,by omega,.inr ⟨fun q=>by omega,?_,fun l' cS=>?_⟩⟩
    ·unfold dg
     rw [if_neg (by omega),if_neg (by omega),if_neg (by omega),if_neg (by omega),if_neg (by rw [hp]; simp)]
     show (P.err,false,(⟨#[]⟩:ByteArray))=_
     rw [q6]
    ·unfold dz at cS
     rw [if_neg (fun q=>by omega),if_neg (fun q=>by omega)] at cS
     rw [cS]; exact ⟨hm,by show l.length+L.ws.length<=_; omega⟩
  | true=>
    have cA:=FM.eG hp
    obtain ⟨z,hz⟩:=Int.eq_ofNat_of_zero_le (show 0<=c.size by omega)
    have Av:z<=64:=by omega
    rw [hz] at hp
    obtain ⟨cc,x,tt,ca,hw,hc,hx,xF,tc⟩:=Nz l.length n z hl hm.pw hp jw Av
    have lH:=GD hm (by omega) hl eW ht hp hw (by omega) hx xF tc mN
    refine ⟨fun k s=>∃ P d,s.2=(⟨.rz P,0,d⟩:Cl)/\Lone L (bK n cs) ⟨10+512*(t+1),1+8*(t+1),1+20000*((t:Int)+1)⟩ z l k (s.1,P),cc+10,by unfold qN; rw [if_neg (by omega)]; omega,⟨_,_,by rw [hz],lH⟩,?_⟩
    refine mE.mono (Q:=fun s=>∃ P,s.2=(⟨.rz P,0,true⟩:Cl)/\Qr L (bK n cs) ⟨10+512*(t+1),1+8*(t+1),1+20000*((t:Int)+1)⟩ z l s.1 P/\∀ i:Nat,(i:Int)<s.1.k->Cl.nth s.1.xs (2+i)=0) (yX (R:=Lone L (bK n cs) ⟨10+512*(t+1),1+8*(t+1),1+20000*((t:Int)+1)⟩ z l) (Q:=fun s=>Qr L (bK n cs) ⟨10+512*(t+1),1+8*(t+1),1+20000*((t:Int)+1)⟩ z l s.1 s.2/\∀ i:Nat,(i:Int)<s.1.k->Cl.nth s.1.xs (2+i)=0) (fun k s hs=>hs.step) 0) (fun s q=>?_)
    obtain ⟨P,q4,q5,q6⟩:=q
    obtain ⟨p1,⟨B',cs',p2⟩,p3,p4,p5,p6⟩:=GG hm q5 q6
    unfold nU
    rw [q4]
    refine ⟨rfl,rfl,p3,p4,p6,z,B',G,cs',.inr hz.symm,by omega,.inr ⟨fun q=>by omega,?_,fun l' cS=>?_⟩⟩
    ·unfold dg
     rw [if_neg (by omega),if_neg (by omega),if_neg (by omega),if_neg (by omega),hz,if_pos hp]
     show (P.err,false,(⟨#[]⟩:ByteArray))=_
     rw [p1]
    ·unfold dz at cS
     rw [if_neg (fun q=>by omega),if_neg (fun q=>by omega)] at cS
     rw [cS]; exact ⟨p2,by show l.length+s.1.ws.length<=_; rw [p5]; omega⟩
end
end Go.Proofs.YtpanebgakndddaaGreat.Ca
namespace Go.Proofs.YtpanebgakndddaaGreat.Ca
open Go Go.RowKit Hp K Fl Rw Hm Ar Mm Me Wk Pc
set_option maxRecDepth 100000
def iU (c:Ct):Value:=.agg #[.int .i64 c.kind,.string c.key,.string c.val,.int .i64 c.size]
def qH (x:Int×Bool×ByteArray):Value:=.agg #[.int .i64 x.1,.bool x.2.1,.string x.2.2]
theorem below_1 (w:World) (o:Obj):Below w.heap.size w (w.alloc o):=(Below.refl _ _).alloc (Nat.le_refl _) _
set_option maxHeartbeats 1000000 in
theorem Oz (c:Ct) (w:World):Calls Tryz.prog 47 #[iU c] w fun e w'=>e=.returned (.int .i64 (cU c))/\Below w.heap.size w w':=by
 obtain ⟨k,key,val,z⟩:=c
 unfold iU cU
 simp only
 generalize mP:key.size=ks at*
 generalize xN:val.size=vs at*
 have Ea:(key.size:Int)=(ks:Int):=by rw [mP]
 have VW:(val.size:Int)=(vs:Int):=by rw [xN]
 have hB:=Lib.hid (below_1 w (.cells #[.int .i64 k,.string key,.string val,.int .i64 z] 34))
 clear mP xN
 by_cases h1:k<0
 ·rw [if_pos (.inl h1)]
  go_enter Tryz.func47,Tryz.ntmps47
  go_wp2_with fail
  go_ret
  exact ⟨rfl,hB.out⟩
 by_cases h2:3<k
 ·rw [if_pos (.inr h2)]
  go_enter Tryz.func47,Tryz.ntmps47
  go_wp2_with fail
  go_ret
  exact ⟨rfl,hB.out⟩
 rw [if_neg (by omega)]
 by_cases h3:k<3
 ·by_cases h4:(ks:Int)<1
  ·rw [if_pos ⟨h3,.inl (by omega)⟩]
   go_enter Tryz.func47,Tryz.ntmps47
   go_wp2_with fail
   go_ret
   exact ⟨rfl,hB.out⟩
  by_cases h5:(32:Int)<(ks:Int)
  ·rw [if_pos ⟨h3,.inr (.inl (by omega))⟩]
   go_enter Tryz.func47,Tryz.ntmps47
   go_wp2_with fail
   go_ret
   exact ⟨rfl,hB.out⟩
  by_cases h6:k=1
  ·subst h6
   by_cases h7:(32:Int)<(vs:Int)
   ·rw [if_pos ⟨h3,.inr (.inr ⟨rfl,by omega⟩)⟩]
    go_enter Tryz.func47,Tryz.ntmps47
    go_wp2_with fail
    go_ret
    exact ⟨rfl,hB.out⟩
   ·rw [if_neg (by omega)]
    go_enter Tryz.func47,Tryz.ntmps47
    go_wp2_with fail
    go_ret
    exact ⟨rfl,hB.out⟩
  ·rw [if_neg (by omega)]
   go_enter Tryz.func47,Tryz.ntmps47
   go_wp2_with fail
   go_ret
   exact ⟨rfl,hB.out⟩
 ·rw [if_neg (by omega)]
  go_enter Tryz.func47,Tryz.ntmps47
  go_wp2_with fail
  go_ret
  exact ⟨rfl,hB.out⟩
set_option maxHeartbeats 1000000 in
theorem OA (c:Ct) (w:World) (hk:c.key.size<=140737488355328) (hv:c.val.size<=140737488355328):Calls Tryz.prog 8 #[iU c] w fun e w'=>e=.returned (.bool (decide (c.key.size+c.val.size<=100/\(c.size<=64\/65536<c.size))))/\Below w.heap.size w w':=by
 obtain ⟨k,key,val,z⟩:=c
 unfold iU
 simp only at hk hv ⊢
 generalize mP:key.size=ks at*
 generalize xN:val.size=vs at*
 have Ea:(key.size:Int)=(ks:Int):=by rw [mP]
 have VW:(val.size:Int)=(vs:Int):=by rw [xN]
 have hB:=Lib.hid (below_1 w (.cells #[.int .i64 k,.string key,.string val,.int .i64 z] 31))
 clear mP xN
 by_cases h1:(ks:Int)+(vs:Int)<=100
 ·by_cases h2:z<=64
  ·rw [decide_eq_true ⟨by omega,.inl h2⟩]
   go_enter Tryz.func8,Tryz.ntmps8
   go_wp2_with fail
   go_ret
   exact ⟨rfl,hB.out⟩
  ·by_cases h3:65536<z
   ·rw [decide_eq_true ⟨by omega,.inr h3⟩]
    go_enter Tryz.func8,Tryz.ntmps8
    go_wp2_with fail
    go_ret
    exact ⟨rfl,hB.out⟩
   ·rw [decide_eq_false (by omega)]
    go_enter Tryz.func8,Tryz.ntmps8
    go_wp2_with fail
    go_ret
    exact ⟨rfl,hB.out⟩
 ·rw [decide_eq_false (by omega)]
  go_enter Tryz.func8,Tryz.ntmps8
  go_wp2_with fail
  go_ret
  exact ⟨rfl,hB.out⟩
set_option maxHeartbeats 1000000 in
theorem OB (c:Ct) (w:World):Calls Tryz.prog 9 #[iU c] w fun e w'=>e=.returned (iU c)/\Below w.heap.size w w':=by
 obtain ⟨k,key,val,z⟩:=c
 unfold iU
 obtain ⟨w1,aJ⟩:∃ w1,w1=w.alloc (.cells #[.int .i64 k,.string key,.string val,.int .i64 z] 31):=⟨_,rfl⟩
 obtain ⟨w2,aT⟩:∃ w2,w2=w1.alloc (.cells #[.int .i64 0,.string ⟨#[]⟩,.string ⟨#[]⟩,.int .i64 0] 34):=⟨_,rfl⟩
 have b1:af w1 w.heap.size 31 #[.int .i64 k,.string key,.string val,.int .i64 z]:=by rw [aJ]; exact af.made w _ _
 have d1:Below w.heap.size w w1:=by rw [aJ]; exact below_1 _ _
 have b2:af w2 w1.heap.size 34 #[.int .i64 0,.string ⟨#[]⟩,.string ⟨#[]⟩,.int .i64 0]:=by rw [aT]; exact af.made w1 _ _
 have d2:Below w1.heap.size w1 w2:=by rw [aT]; exact below_1 _ _
 have b12:=b1.only (ab.aA d2 (fun _=>False)) (by simp)
 have hz:w1.heap.size >= w.heap.size:=d1.size
 have aL:w1.heap.size≠w.heap.size:=fun e=>by have:=b1.lt; omega
 have hd:=Lib.hid (d1.trans (d2.mono d1.size))
 obtain ⟨p,hp⟩:∃ p,p=w.heap.size:=⟨_,rfl⟩
 have lI:w1.heap.size=w.heap.size+1:=by rw [aJ]; exact Array.size_push _
 obtain ⟨q,lE⟩:∃ q,q=w1.heap.size:=⟨_,rfl⟩
 have hq:q=p+1:=by omega
 rw [<-hp] at b12 aL
 rw [<-lE] at b2 aL
 have dN:w.heap.size<=q:=by omega
 have f0:=b12.cell 0
 have f1:=b12.cell 1
 have f2:=b12.cell 2
 have f3:=b12.cell 3
 have g0:=b2.cell 0
 have g1:=b2.cell 1
 have g2:=b2.cell 2
 have g3:=b2.cell 3
 have z0:=b2.frozen 0
 have z1:=b2.frozen 1
 have z2:=b2.frozen 2
 have z3:=b2.frozen 3
 simp at f0 f1 f2 f3 g0 g1 g2 g3
 have lp:=b12.lt
 have lq:=b2.lt
 have az:=Lib.hid ((((hd.out.setCell (p:=⟨q,0,none⟩) dN (.int .i64 k)).setCell (p:=⟨q,1,none⟩) dN (.string key)).setCell (p:=⟨q,2,none⟩) dN (.string val)).setCell (p:=⟨q,3,none⟩) dN (.int .i64 z))
 clear b1 d1 d2 b12 b2 hz dN
 go_enter Tryz.func9,Tryz.ntmps9
 go_upto_region 1 with (fail)
 rw [<-aJ,<-aT,<-hp,<-hq]
 clear aJ aT hp hq lE lI
 go_wp2_with fail
 exact bodyPost_ret (v:=.agg #[.int .i64 k,.string key,.string val,.int .i64 z]) (by simp [results,Tryz.results9,go_sem,g0,g1,g2,g3]) rfl ⟨rfl,az.out⟩
set_option maxHeartbeats 1000000 in
theorem OC (x:Int×Bool×ByteArray) (w:World):Calls Tryz.prog 15 #[qH x] w fun e w'=>e=.returned (qH x)/\Below w.heap.size w w':=by
 obtain ⟨k,h,val⟩:=x
 unfold qH
 simp only
 obtain ⟨w1,aJ⟩:∃ w1,w1=w.alloc (.cells #[.int .i64 k,.bool h,.string val] 44):=⟨_,rfl⟩
 obtain ⟨w2,aT⟩:∃ w2,w2=w1.alloc (.cells #[.int .i64 0,.bool false,.string ⟨#[]⟩] 50):=⟨_,rfl⟩
 have b1:af w1 w.heap.size 44 #[.int .i64 k,.bool h,.string val]:=by rw [aJ]; exact af.made w _ _
 have d1:Below w.heap.size w w1:=by rw [aJ]; exact below_1 _ _
 have b2:af w2 w1.heap.size 50 #[.int .i64 0,.bool false,.string ⟨#[]⟩]:=by rw [aT]; exact af.made w1 _ _
 have d2:Below w1.heap.size w1 w2:=by rw [aT]; exact below_1 _ _
 have b12:=b1.only (ab.aA d2 (fun _=>False)) (by simp)
 have hz:w1.heap.size >= w.heap.size:=d1.size
 have aL:w1.heap.size≠w.heap.size:=fun e=>by have:=b1.lt; omega
 have hd:=Lib.hid (d1.trans (d2.mono d1.size))
 obtain ⟨p,hp⟩:∃ p,p=w.heap.size:=⟨_,rfl⟩
 have lI:w1.heap.size=w.heap.size+1:=by rw [aJ]; exact Array.size_push _
 obtain ⟨q,lE⟩:∃ q,q=w1.heap.size:=⟨_,rfl⟩
 have hq:q=p+1:=by omega
 rw [<-hp] at b12 aL
 rw [<-lE] at b2 aL
 have dN:w.heap.size<=q:=by omega
 have f0:=b12.cell 0
 have f1:=b12.cell 1
 have f2:=b12.cell 2
 have g0:=b2.cell 0
 have g1:=b2.cell 1
 have g2:=b2.cell 2
 have z0:=b2.frozen 0
 have z1:=b2.frozen 1
 have z2:=b2.frozen 2
 simp at f0 f1 f2 g0 g1 g2
 have lp:=b12.lt
 have lq:=b2.lt
 have az:=Lib.hid (((hd.out.setCell (p:=⟨q,0,none⟩) dN (.int .i64 k)).setCell (p:=⟨q,1,none⟩) dN (.bool h)).setCell (p:=⟨q,2,none⟩) dN (.string val))
 clear b1 d1 d2 b12 b2 hz dN
 go_enter Tryz.func15,Tryz.ntmps15
 go_upto_region 1 with (fail)
 rw [<-aJ,<-aT,<-hp,<-hq]
 clear aJ aT hp hq lE lI
 go_wp2_with fail
 exact bodyPost_ret (v:=.agg #[.int .i64 k,.bool h,.string val]) (by simp [results,Tryz.results15,go_sem,g0,g1,g2]) rfl ⟨rfl,az.out⟩
end Go.Proofs.YtpanebgakndddaaGreat.Ca
namespace Go.Proofs.YtpanebgakndddaaGreat.Ca
open Go Go.RowKit Hp K Fl Rw Hm Ar Mm Me Wk Pc Mq LK gj gm iT Ha
set_option maxRecDepth 100000
def Bv (W:World) (A:Option Addr) (l:List Pr) (c:Ct) (e:Ending) (w':World):Prop:=
 ∃ (A':Option Addr) (cap':Nat) (l':List Pr),e=.returned (.tuple #[.slice A' l'.length cap',qH (dg l c)])/\dz l l' c/\lL w' A' cap' l'/\(∀ x,In A' x->In A x\/W.heap.size<=x)/\Below W.heap.size W w'
set_option maxHeartbeats 4000000 in
theorem Mc (W:World) (A:Option Addr) (cap:Nat) (l:List Pr) (hR:lL W A cap l) (hs:vM l) (hl:l.length<=1000) (c:Ct) (hz: -9223372036854775808<=c.size/\c.size<=9223372036854775807):Calls Tryz.prog 28 #[.slice A l.length cap,iU c] W (Bv W A l c):=by
 obtain ⟨w1,aJ⟩:∃ w1,w1=W.alloc (.cells #[.int .i64 c.kind,.string c.key,.string c.val,.int .i64 c.size] 34):=⟨_,rfl⟩
 obtain ⟨w2,aT⟩:∃ w2,w2=w1.alloc (.cells #[.int .i64 0,.bool false,.string ⟨#[]⟩] 50):=⟨_,rfl⟩
 have b1:af w1 W.heap.size 34 #[.int .i64 c.kind,.string c.key,.string c.val,.int .i64 c.size]:=by rw [aJ]; exact af.made W _ _
 have d1:Below W.heap.size W w1:=by rw [aJ]; exact below_1 _ _
 have b2:af w2 w1.heap.size 50 #[.int .i64 0,.bool false,.string ⟨#[]⟩]:=by rw [aT]; exact af.made w1 _ _
 have d2:Below w1.heap.size w1 w2:=by rw [aT]; exact below_1 _ _
 have b12:=b1.only (ab.aA d2 (fun _=>False)) (by simp)
 have uV:W.heap.size<=w1.heap.size:=d1.size
 have aL:w1.heap.size≠W.heap.size:=fun e=>by have:=b1.lt; omega
 have hd:=d1.trans (d2.mono d1.size)
 obtain ⟨p,hp⟩:∃ p,p=W.heap.size:=⟨_,rfl⟩
 have lI:w1.heap.size=W.heap.size+1:=by rw [aJ]; exact Array.size_push _
 obtain ⟨q,lE⟩:∃ q,q=w1.heap.size:=⟨_,rfl⟩
 have hq:q=p+1:=by omega
 rw [<-hp] at b12 aL
 rw [<-lE] at b2 aL
 have dN:W.heap.size<=q:=by omega
 have hC:Hid (∀ wx,Below w2.heap.size w2 wx->(wx.cell? ⟨p,0,none⟩=some (.int .i64 c.kind)/\wx.cell? ⟨p,1,none⟩=some (.string c.key)/\wx.cell? ⟨p,2,none⟩=some (.string c.val)/\wx.cell? ⟨p,3,none⟩=some (.int .i64 c.size))/\p<wx.heap.size):=Lib.hid fun wx hb=>by
  have h:=b12.only (ab.aA hb (fun _=>False)) (by simp)
  exact ⟨⟨h.cell 0,h.cell 1,h.cell 2,h.cell 3⟩,h.lt⟩
 have hQ:Hid (∀ wx,Below w2.heap.size w2 wx->(wx.cell? ⟨q,0,none⟩=some (.int .i64 0)/\wx.cell? ⟨q,1,none⟩=some (.bool false)/\wx.cell? ⟨q,2,none⟩=some (.string ⟨#[]⟩))/\(wx.frozen? ⟨q,0,none⟩=false/\wx.frozen? ⟨q,1,none⟩=false/\wx.frozen? ⟨q,2,none⟩=false)/\q<wx.heap.size):=Lib.hid fun wx hb=>by
  have h:=b2.only (ab.aA hb (fun _=>False)) (by simp)
  exact ⟨⟨h.cell 0,h.cell 1,h.cell 2⟩,⟨h.frozen 0,h.frozen 1,h.frozen 2⟩,h.lt⟩
 have bn:∀ wx,Below w2.heap.size w2 wx->lL wx A cap l:=fun wx hb=>hR.only (ab.aA (hd.trans (hb.mono hd.size)) (fun _=>False)) (by simp)
 have hE:Hid (∀ wx x y z (A':Option Addr) (cap':Nat) (l':List Pr),Below w2.heap.size w2 wx->dg l c=(x,y,z)->dz l l' c->lL wx A' cap' l'->(∀ b,In A' b->In A b\/w2.heap.size<=b)->
  Bv W A l c (.returned (.tuple #[.slice A' l'.length cap',.agg #[.int .i64 x,.bool y,.string z]])) (((wx.setCell ⟨q,0,none⟩ (.int .i64 x)).setCell ⟨q,1,none⟩ (.bool y)).setCell ⟨q,2,none⟩ (.string z))):=Lib.hid fun wx x y z A' cap' l' hb h1 h2 h3 h4=>by
  have pa:q<w2.heap.size:=b2.lt
  have VX:∀ b,In A' b->b≠q:=fun b jm e=>by
   subst e
   exact (cw h3 jm).apart (bm (b2.only (ab.aA hb (fun _=>False)) (by simp))) (by decide)
  have hO:=(((ab.refl (·=q) wx).setCell (p:=⟨q,0,none⟩) (.inl rfl) (.int .i64 x)).setCell (p:=⟨q,1,none⟩) (.inl rfl) (.bool y)).setCell (p:=⟨q,2,none⟩) (.inl rfl) (.string z)
  refine ⟨A',cap',l',by rw [h1]; rfl,h2,h3.only hO VX,fun b cY=>(h4 b cY).imp id (fun g=>Nat.le_trans hd.size g),?_⟩
  have Ed:=hd.trans (hb.mono hd.size)
  exact ((Ed.setCell (p:=⟨q,0,none⟩) dN _).setCell (p:=⟨q,1,none⟩) dN _).setCell (p:=⟨q,2,none⟩) dN _
 have Ee:=Lib.hid (fun w=>Oz c w)
 have uW:=Lib.hid (fun wx (hb:Below w2.heap.size w2 wx)=>OD wx l A cap (by unfold maxLen; omega) (B6 (bn wx hb) hs) c.key)
 have iQ:=Lib.hid (fun wx (hb:Below w2.heap.size w2 wx)=>OE wx l A cap (by omega) (B6 (bn wx hb) hs) c.key c.val)
 have uX:=Lib.hid (fun wx (hb:Below w2.heap.size w2 wx)=>OF wx l A cap (by omega) (B6 (bn wx hb) hs) c.key)
 have bq:=Lib.hid (fun w=>OG c.size w hz.1 hz.2)
 replace bn:=Lib.hid bn
 have ag:Below w2.heap.size w2 w2:=Below.refl _ _
 clear b1 d1 d2 b12 b2 uV dN hR hd
 obtain ⟨⟨p0,p1,p2,p3⟩,lp⟩:=hC.out w2 ag
 unfold iU
 unfold iU at Ee
 go_enter Tryz.func28,Tryz.ntmps28
 go_upto_region 1 with (fail)
 rw [<-aJ,<-aT,<-hp,<-hq]
 clear aJ aT hp hq lE lI
 go_wp2_with fail
 refine (Ee.out _).mono ?_
 rintro e w3 ⟨rfl,aR⟩
 obtain ⟨⟨p0',p1',p2',p3'⟩,lp'⟩:=hC.out w3 aR
 obtain ⟨⟨q0,q1,q2⟩,⟨z0,z1,z2⟩,lq⟩:=hQ.out w3 aR
 have pb:=Lib.hid aR
 clear p0 p1 p2 p3 lp Ee
 by_cases h0:cU c=0
 case neg=>
  have hx:=hE.out w3 (cU c) false ⟨#[]⟩ A cap l aR (by unfold dg; rw [if_pos h0]) (by unfold dz; rw [if_neg (fun q=>h0 q.1),if_neg (fun q=>h0 q.1)]) (bn.out w3 aR) (fun b g=>.inl g)
  replace hx:=Lib.hid hx
  clear hE hC hQ bn uW iQ uX bq aR ag
  generalize cU c=x at*
  go_wp2_with fail
  exact bodyPost_ret (v:=.tuple #[.slice A l.length cap,.agg #[.int .i64 x,.bool false,.string ⟨#[]⟩]]) (by simp [results,Tryz.results28,go_sem,q0,q1,q2]) rfl hx.out
 have de:=Lib.hid (uW.out w3 aR)
 unfold jW at de
 rw [h0]
 have sV:c.kind=0\/c.kind=1\/c.kind=2\/c.kind=3:=by
  unfold cU at h0
  split at h0<;>omega
 rcases sV with hk | hk | hk | hk
 ·have hx:=hE.out w3 0 (Pc.lk l c.key).isSome ((Pc.lk l c.key).getD ⟨#[]⟩) A cap l aR (by unfold dg; rw [if_neg (by omega),if_pos hk]) (by unfold dz; rw [if_neg (fun q=>by omega),if_neg (fun q=>by omega)]) (bn.out w3 aR) (fun b g=>.inl g)
  replace hx:=Lib.hid hx
  clear hE hC hQ bn uW iQ uX bq aR ag h0
  rw [hk] at p0'
  generalize Pc.lk l c.key=o at*
  go_wp2_with fail
  refine de.out.mono ?_
  rintro e w' ⟨rfl,rfl⟩
  clear de
  go_wp2_with fail
  exact bodyPost_ret (v:=.tuple #[.slice A l.length cap,.agg #[.int .i64 0,.bool o.isSome,.string (o.getD ⟨#[]⟩)]]) (by simp [results,Tryz.results28,go_sem,q0,q1,q2]) rfl hx.out
 ·have ba:=Lib.hid (iQ.out w3 aR)
  clear iQ uX bq aR ag
  rw [hk] at p0'
  obtain ⟨o,ho⟩:∃ o,o=Pc.lk l c.key:=⟨_,rfl⟩
  rw [<-ho] at de
  replace ho:=Lib.hid ho
  go_wp2_with fail
  refine de.out.mono ?_
  rintro e w' ⟨rfl,rfl⟩
  clear de
  go_wp2_with fail
  refine ba.out.mono ?_
  rintro e w4 ⟨A',cap',l',rfl,ti,jm,jM,xO⟩
  have tj:=pb.out.trans (jM.mono pb.out.size)
  obtain ⟨⟨r0,r1,r2⟩,⟨y0,y1,y2⟩,lq4⟩:=hQ.out w4 tj
  have hx:=hE.out w4 0 o.isSome ⟨#[]⟩ A' cap' l' tj (by unfold dg; rw [if_neg (by omega),if_neg (by omega),if_pos hk,ho.out]) (by unfold dz; rw [if_pos ⟨h0,hk⟩]; exact xO) ti (fun b g=>.inr (Nat.le_trans pb.out.size (jm b g)))
  replace hx:=Lib.hid hx
  clear hE hC hQ bn uW ba jM tj jm xO ti h0 q0 q1 q2 z0 z1 z2 lq
  go_wp2_with fail
  exact bodyPost_ret (v:=.tuple #[.slice A' l'.length cap',.agg #[.int .i64 0,.bool o.isSome,.string ⟨#[]⟩]]) (by simp [results,Tryz.results28,go_sem,r0,r1,r2]) rfl hx.out
 ·have ba:=Lib.hid (uX.out w3 aR)
  clear iQ uX bq aR ag
  rw [hk] at p0'
  obtain ⟨o,ho⟩:∃ o,o=Pc.lk l c.key:=⟨_,rfl⟩
  rw [<-ho] at de
  replace ho:=Lib.hid ho
  go_wp2_with fail
  refine de.out.mono ?_
  rintro e w' ⟨rfl,rfl⟩
  clear de
  go_wp2_with fail
  refine ba.out.mono ?_
  rintro e w4 ⟨A',cap',l',rfl,ti,jm,jM,xO⟩
  have tj:=pb.out.trans (jM.mono pb.out.size)
  obtain ⟨⟨r0,r1,r2⟩,⟨y0,y1,y2⟩,lq4⟩:=hQ.out w4 tj
  have hx:=hE.out w4 0 o.isSome (o.getD ⟨#[]⟩) A' cap' l' tj (by unfold dg; rw [if_neg (by omega),if_neg (by omega),if_neg (by omega),if_pos hk,ho.out]) (by unfold dz; rw [if_neg (fun q=>by omega),if_pos ⟨h0,hk⟩]; exact xO) ti (fun b g=>.inr (Nat.le_trans pb.out.size (jm b g)))
  replace hx:=Lib.hid hx
  clear hE hC hQ bn uW ba jM tj jm xO ti h0 q0 q1 q2 z0 z1 z2 lq
  go_wp2_with fail
  exact bodyPost_ret (v:=.tuple #[.slice A' l'.length cap',.agg #[.int .i64 0,.bool o.isSome,.string (o.getD ⟨#[]⟩)]]) (by simp [results,Tryz.results28,go_sem,r0,r1,r2]) rfl hx.out
 ·have Ef:=fun (e5:FM.bl c.size=false)=>hE.out w3 5 false ⟨#[]⟩ A cap l aR (by unfold dg; rw [if_neg (by omega),if_neg (by omega),if_neg (by omega),if_neg (by omega),if_neg (by rw [e5]; simp)]) (by unfold dz; rw [if_neg (fun q=>by omega),if_neg (fun q=>by omega)]) (bn.out w3 aR) (fun b g=>.inl g)
  have kO:=fun (e5:FM.bl c.size=true)=>hE.out w3 0 false ⟨#[]⟩ A cap l aR (by unfold dg; rw [if_neg (by omega),if_neg (by omega),if_neg (by omega),if_neg (by omega),if_pos e5]) (by unfold dz; rw [if_neg (fun q=>by omega),if_neg (fun q=>by omega)]) (bn.out w3 aR) (fun b g=>.inl g)
  clear hE hC hQ bn uW iQ uX aR ag h0
  rw [hk] at p0'
  generalize FM.bl c.size=bb at*
  generalize Pc.lk l c.key=o at*
  cases bb with
  | false=>
    have hx:=Lib.hid (Ef rfl)
    clear Ef kO
    go_wp2_with fail
    refine de.out.mono ?_
    rintro e w' ⟨rfl,rfl⟩
    clear de
    go_wp2_with fail
    refine (bq.out _).mono ?_
    rintro e w' ⟨rfl,hw⟩
    obtain rfl:w'=_:=hw
    go_wp2_with fail
    exact bodyPost_ret (v:=.tuple #[.slice A l.length cap,.agg #[.int .i64 5,.bool false,.string ⟨#[]⟩]]) (by simp [results,Tryz.results28,go_sem,q0,q1,q2]) rfl hx.out
  | true=>
    have hx:=Lib.hid (kO rfl)
    clear Ef kO
    go_wp2_with fail
    refine de.out.mono ?_
    rintro e w' ⟨rfl,rfl⟩
    clear de
    go_wp2_with fail
    refine (bq.out _).mono ?_
    rintro e w' ⟨rfl,hw⟩
    obtain rfl:w'=_:=hw
    go_wp2_with fail
    exact bodyPost_ret (v:=.tuple #[.slice A l.length cap,.agg #[.int .i64 0,.bool false,.string ⟨#[]⟩]]) (by simp [results,Tryz.results28,go_sem,q0,q1,q2]) rfl hx.out
end Go.Proofs.YtpanebgakndddaaGreat.Ca
namespace Go.Proofs.YtpanebgakndddaaGreat.Ca
open Go Go.RowKit Hp K Fl Rw Hm Ar Mm Me LK Qs Wk Pc Pn Mq Pu Zp Mx cJ Bs Zr
set_option maxRecDepth 100000
structure Cp where
 f:Nat
 tv:Value
 ga:Gt.Ga
 qa:Pu.Qa
 ra:Zr.Ra
def lP (tv:Value) (d:Bool):Array Value:=#[tv,.bool d]
abbrev iZ (e:Int):Value:=.agg #[.int .i64 e]
def mF (w:World) (a:Cp) (e:Int):Fr->Prop
 | .ref=>a.tv=.iface 176 (iZ e)
 | .get G=>a.tv=.iface 177 (ptr a.ga.f)/\Gt.dh w a.ga G
 | .put P=>a.tv=.iface 179 (ptr a.qa.f)/\Pu.bL w a.qa P
 | .del D=>a.tv=.iface 164 (ptr a.qa.f)/\Dl.cF w a.qa D
 | .rz R=>a.tv=.iface 137 (ptr a.ra.f)/\Zr.ft w a.ra R
def oP (a:Cp) (F:Fr) (x:Nat):Prop:=match F with
 | .ref=>False
 | .get _=>Gt.bC a.ga x
 | .put P=>Pu.iF a.qa P x
 | .del D=>Dl.kW a.qa D x
 | .rz R=>Zr.fu a.ra R x
structure GO (w:World) (a:Cp) (C:Cl):Prop where
 ao:af w a.f 118 (lP a.tv C.done)
 inn:mF w a C.err C.fr
 NH:C.fr≠.ref->C.err=0
def kE (a:Cp) (C:Cl) (x:Nat):Prop:=x=a.f\/oP a C.fr x
abbrev cE:iG Cp Cl:=⟨Cp.f,GO,kE⟩
abbrev v7:List TypeId:=[213,233,235,237,216,226,243,193,
 162,200,262,270,260,157,205]
section
variable {w w':World} {M:Mo} {a:Cp} {C:Cl} {F:Fr} {tv:Value} {e:Int} {d:Bool} {f:Nat}
theorem NI {a:Zr.Ra} {R:Rz} (h:ft w a R) {x:Nat} (hx:Zr.fu a R x):Ty w x v7\/(∃ ms,Gw.iH w x ms)\/∃ ms,Me.Met w x ms:=by
 rcases hx with rfl | ⟨G,q1,q2,q3⟩ | ⟨G,q1,q2,q3⟩
 ·exact .inl ((bm h.ao).mono (by decide))
 ·rcases (h.cm G q1 q2).2.ty q3 with q | q
  ·exact .inl (q.mono (by decide))
  ·exact .inr (.inl q)
 ·rcases (h.shr G q1 q2).2.ty q3 with q | q
  ·exact .inl (q.mono (by decide))
  ·exact .inr (.inr q)
theorem NJ (h:mF w a e F) {x:Nat} (hx:oP a F x):Ty w x v7\/(∃ ms,Gw.iH w x ms)\/∃ ms,Me.Met w x ms:=by
 cases F with
 | ref=>exact absurd hx (fun q=>q)
 | get G=>exact .inl ((h.2.ty hx).mono (by decide))
 | put P=>exact .inl ((h.2.ty hx).mono (by decide))
 | del D=>exact .inl ((h.2.ty hx).mono (by decide))
 | rz R=>exact NI h.2 hx
theorem zb (h:mF w a e F) {x:Nat} (hx:oP a F x) {ts:List TypeId} (ht:Ty w x ts) (hd:∀ t∈ts,t∉v7):False:=by
 rcases NJ h hx with q | ⟨_,q⟩ | ⟨_,q⟩
 ·exact ht.apart q hd
 ·exact q.no ht
 ·exact q.no ht
theorem BU {S:Nat->Prop} (h:mF w a e F) (ho:ab S w w') (hn:∀ x,oP a F x->¬S x):mF w' a e F:=by
 cases F with
 | ref=>exact h
 | get G=>exact ⟨h.1,h.2.only ho hn⟩
 | put P=>exact ⟨h.1,h.2.only ho hn⟩
 | del D=>exact ⟨h.1,h.2.only ho hn⟩
 | rz R=>exact ⟨h.1,we h.2 ho hn⟩
theorem GP (hb:af w f 118 (lP tv d)) (h:mF w a e F) {x:Nat} (hx:oP a F x):x≠f:=by
 rintro rfl
 exact zb h hx (bm hb) (by decide)
theorem BV {S:Nat->Prop} (h:cE.At w a C) (ho:ab S w w') (hn:∀ x,cE.aQ a C x->¬S x):cE.At w' a C:=
 ⟨h.ao.only ho (hn _ (.inl rfl)),BU h.inn ho (fun x hx=>hn x (.inr hx)),h.NH⟩
theorem GQ (h:cE.At w a C) (hb:Below w.heap.size w w'):cE.At w' a C:=BV h (ab.aA hb (fun _=>False)) (by simp)
theorem BW {x:Nat} (h:cE.At w a C) (hM:ah w M) (hx:cE.aQ a C x):¬aq M x:=fun hm=>by
 rcases hx with rfl | hx
 ·exact (hM.ty hm).apart (bm h.ao) (by decide)
 ·exact zb h.inn hx (hM.ty hm) (by decide)
theorem NB {x:Nat} (h:cE.At w a C) (hx:cE.aQ a C x):¬Ty w x [153]:=fun q=>by
 rcases hx with rfl | hx
 ·exact q.apart (bm h.ao) (by decide)
 ·exact zb h.inn hx q (by decide)
theorem qJ (hb:af w f 118 (lP tv d)):w.cell? ⟨f,0,none⟩=some tv/\w.cell? ⟨f,1,none⟩=some (.bool d):=⟨hb.cell 0,hb.cell 1⟩
theorem wg {T:TypeId} {fr:Nat} {v m:Value} {c:Bool} (hb:af w f 118 (lP (.iface T v) d)) (mr:∀ (w:World) (f:Nat),(method (f+1) T v "Ready").run Tryz.prog w=.ok (fr,v) w)
 (er:∀ args w,(callFunc fr args).run Tryz.prog w=.ok (.enter fr args) w) (hF:Calls Tryz.prog fr #[v,m] w fun e w'=>e=.returned (.bool c)/\Below w.heap.size w w'):Calls Tryz.prog 29 #[ptr f,m] w fun e w'=>e=.returned (.bool c)/\Below w.heap.size w w':=by
 have c0:=(qJ hb).1
 replace hF:=Lib.hid hF
 clear hb
 go_enter Tryz.func29,Tryz.ntmps29
 go_wp2_with fail
 refine hF.out.mono ?_
 rintro e w' ⟨rfl,hb⟩
 replace hb:=Lib.hid hb
 clear c0
 go_wp2_with fail
 go_ret
 exact ⟨rfl,hb.out⟩
theorem wh {T:TypeId} {fs:Nat} {v m:Value} {c:Bool} {P:World->Prop} (hb:af w f 118 (lP (.iface T v) d)) (ms:∀ (w:World) (f:Nat),(method (f+1) T v "Step").run Tryz.prog w=.ok (fs,v) w)
 (es:∀ args w,(callFunc fs args).run Tryz.prog w=.ok (.enter fs args) w) (hF:Calls Tryz.prog fs #[v,m] w fun e' w'=>e'=.returned (.bool c)/\af w' f 118 (lP (.iface T v) d)/\P w'):
 Calls Tryz.prog 32 #[ptr f,m] w fun e' w'=>e'=.returned (.bool c)/\∃ w1,P w1/\w'=w1.setCell ⟨f,1,none⟩ (.bool c)/\af w1 f 118 (lP (.iface T v) d):=by
 have c0:=(qJ hb).1
 replace hF:=Lib.hid hF
 clear hb
 go_enter Tryz.func32,Tryz.ntmps32
 go_wp2_with fail
 refine hF.out.mono ?_
 rintro e w1 ⟨rfl,hb,hP⟩
 have c2:=(qJ hb).2
 have z2:=hb.frozen 1
 have hE:Hid (∃ w0,P w0/\w1.setCell ⟨f,1,none⟩ (.bool c)=w0.setCell ⟨f,1,none⟩ (.bool c)/\af w0 f 118 (lP (.iface T v) _)):=Lib.hid ⟨w1,hP,rfl,hb⟩
 clear c0 hF hb hP
 go_wp2_with fail
 go_ret
 exact ⟨rfl,hE.out⟩
theorem NK (e:Int) (w:World) (f:Nat):(method (f+1) 176 (iZ e) "Ready").run Tryz.prog w=.ok (280,iZ e) w:=by kernel_rfl
theorem NL (e:Int) (w:World) (f:Nat):(method (f+1) 176 (iZ e) "Step").run Tryz.prog w=.ok (281,iZ e) w:=by kernel_rfl
theorem NM (args:Array Value) (w:World):(callFunc 280 args).run Tryz.prog w=.ok (.enter 280 args) w:=by kernel_rfl
theorem NN (args:Array Value) (w:World):(callFunc 281 args).run Tryz.prog w=.ok (.enter 281 args) w:=by kernel_rfl
theorem NO (e:Int) (m:Value) (w:World):Calls Tryz.prog 280 #[iZ e,m] w fun e w'=>e=.returned (.bool true)/\Below w.heap.size w w':=by
 have hB:=Lib.hid (below_1 w (.cells #[.int .i64 e] 176))
 go_enter Tryz.func280,Tryz.ntmps280
 go_wp2_with fail
 go_ret
 exact ⟨rfl,hB.out⟩
theorem NP (e:Int) (m:Value) (w:World):Calls Tryz.prog 281 #[iZ e,m] w fun e w'=>e=.returned (.bool true)/\Below w.heap.size w w':=by
 have hB:=Lib.hid (below_1 w (.cells #[.int .i64 e] 176))
 go_enter Tryz.func281,Tryz.ntmps281
 go_wp2_with fail
 go_ret
 exact ⟨rfl,hB.out⟩
end
end Go.Proofs.YtpanebgakndddaaGreat.Ca
namespace Go.Proofs.YtpanebgakndddaaGreat.Ca
open Go Go.RowKit Hp K Fl Rw Hm Ar Mm Me LK Qs Wk Pc Pn Mq Pu Zp Mx cJ Bs Zr
set_option maxRecDepth 100000
section
variable {w w':World} {M:Mo} {a:Cp} {C:Cl}
theorem GR (hM:ah w M) (h:cE.At w a C) (ok:jC (lm M) C):Calls Tryz.prog 29 #[ptr a.f,ptr M.m] w fun e w'=>e=.returned (.bool (ij (lm M) C))/\Below w.heap.size w w':=by
 obtain ⟨hb,hI,xH⟩:=h
 obtain ⟨F,er,d⟩:=C
 cases F with
 | ref=>
   rw [show a.tv=.iface 176 (iZ er) from hI] at hb
   exact wg hb (NK er) NM (NO er _ w)
 | get G=>
   rw [show a.tv=.iface 177 (ptr a.ga.f) from hI.1] at hb
   exact wg hb (Gt.tY.mr _) Gt.tY.er (Gt.tY.ready hM hI.2 ok)
 | put P=>
   rw [show a.tv=.iface 179 (ptr a.qa.f) from hI.1] at hb
   exact wg hb (Pu.sj.mr _) Pu.sj.er (Pu.sj.ready hM hI.2 ok)
 | del D=>
   rw [show a.tv=.iface 164 (ptr a.qa.f) from hI.1] at hb
   exact wg hb (Dl.sn.mr _) Dl.sn.er (Dl.sn.ready hM hI.2 ok)
 | rz R=>
   rw [show a.tv=.iface 137 (ptr a.ra.f) from hI.1] at hb
   exact wg hb (Zr.oQ.mr _) Zr.oQ.er (Zr.oQ.ready hM hI.2 ok)
theorem zc {A P:Type} {X:iG A P} {b:A} {p p':P} {L':Lm} {F:Fr} {tv:Value} {f:Nat} {er:Int} {d c:Bool} {w1:World} (hs:X.bh w M b p L' p' w1)
 (xI:∀ b',X.f b'=X.f b->X.At w1 b' p'->∃ a':Cp,a'.f=f/\a'.tv=tv/\mF w1 a' er F/\∀ x,oP a' F x->X.aQ b' p' x) (h1:af w1 f 118 (lP tv d)) (hp:∀ x,X.aQ b p x->kE a C x) (ea:a.f=f) (VS:F≠.ref->er=0):
 cE.bh w M a C L' ⟨F,er,c⟩ (w1.setCell ⟨f,1,none⟩ (.bool c)):=by
 obtain ⟨M',b',r1,r2,r3,r4,r5,r6,r7⟩:=hs
 obtain ⟨a',s1,s2,s3,s4⟩:=xI b' r5 r4
 have hO:=(ab.refl (·=f) w1).setCell (p:=⟨f,1,none⟩) (.inl rfl) (.bool c)
 have rm:¬aq M' f:=fun hm=>(r1.ty hm).apart (bm h1) (by decide)
 refine ⟨M',a',r1.only hO (fun x hx q=>rm (q▸hx)),r2,r3,⟨?_,?_,VS⟩,s1.trans ea.symm,?_,?_⟩
 ·have:=h1.store 1 (.bool c)
  rw [<-s1] at this ⊢
  rw [s2]
  exact this
 ·exact BU s3 hO (fun x hx q=>GP h1 s3 hx q)
 ·intro x hx
  rcases hx with q | q
  ·exact .inl (.inl (q.trans (s1.trans ea.symm)))
  ·exact (r6 x (s4 x q)).imp (hp x) id
 ·exact (r7.mono (fun x _ q=>q.imp id (hp x))).trans (hO.mono (fun x _ q=>.inr (.inl (q.trans ea.symm))))
theorem zd {A P:Type} {X:iG A P} {b:A} {p p':P} {L':Lm} {w1:World} (hM:ah w M) (h:GO w a C) (hs:X.bh w M b p L' p' w1) (hp:∀ x,X.aQ b p x->oP a C.fr x):af w1 a.f 118 (lP a.tv C.done):=by
 obtain ⟨M',b',r1,r2,r3,r4,r5,r6,r7⟩:=hs
 refine h.ao.only r7 (fun q=>?_)
 rcases q with q | q
 ·exact BW h hM (.inl rfl) q
 ·exact GP h.ao h.inn (hp _ q) rfl
theorem GS (hM:ah w M) (h:cE.At w a C) (ok:jC (lm M) C) (hr:ij (lm M) C=true):Calls Tryz.prog 32 #[ptr a.f,ptr M.m] w fun e w'=>e=.returned (.bool (dI (lm M) C))/\cE.bh w M a C (bJ (lm M) C).1 (bJ (lm M) C).2 w':=by
 have h0:=h
 obtain ⟨hb,hI,xH⟩:=h
 obtain ⟨F,er,d⟩:=C
 cases F with
 | ref=>
   have av:=hb
   rw [show a.tv=.iface 176 (iZ er) from hI] at av
   refine (wh (P:=fun w1=>Below w.heap.size w w1) av (NL er) NN ((NP er _ w).mono fun e w1 q=>⟨q.1,av.only (ab.aA q.2 (fun _=>False)) (by simp),q.2⟩)).mono fun e w' q=>⟨q.1,?_⟩
   obtain ⟨w1,q1,q2,q3⟩:=q.2
   rw [q2]
   have hO:=(ab.aA q1 (·=a.f)).setCell (p:=⟨a.f,1,none⟩) (.inl rfl) (.bool true)
   refine ⟨M,a,hM.only hO (fun x hx q=>BW h0 hM (.inl rfl) (q▸hx)),rfl,gq.refl _ _,⟨?_,hI,fun q=>absurd rfl q⟩,rfl,fun x q=>.inl q,hO.mono (fun x _ q=>.inr (.inl q))⟩
   have:=q3.store 1 (.bool true)
   rw [show a.tv=.iface 176 (iZ er) from hI]
   exact this
 | get G=>
   have ht:a.tv=.iface 177 (ptr a.ga.f):=hI.1
   have hs:=Gt.tY.step hM hI.2 ok hr
   have cY:=hb
   rw [ht] at cY
   refine (wh cY (Gt.tY.ms _) Gt.tY.es (hs.mono fun e w1 q=>⟨q.1,by have:=zd hM h0 q.2 (fun x hx=>hx); rw [ht] at this; exact this,q.2⟩)).mono fun e w' q=>⟨q.1,?_⟩
   obtain ⟨w1,q1,q2,q3⟩:=q.2
   rw [q2]
   refine zc (tv:=a.tv) (er:=er) (d:=d) q1 (fun b' r1 r2=>⟨{a with ga:=b'},rfl,rfl,⟨by show a.tv=.iface _ (ptr b'.f); rw [ht,show b'.f=a.ga.f from r1],r2⟩,fun x hx=>hx⟩) (by rw [ht]; exact q3) (fun x hx=>.inr hx) rfl (fun _=>xH (by simp))
 | put P=>
   have ht:a.tv=.iface 179 (ptr a.qa.f):=hI.1
   have hs:=Pu.sj.step hM hI.2 ok hr
   have cY:=hb
   rw [ht] at cY
   refine (wh cY (Pu.sj.ms _) Pu.sj.es (hs.mono fun e w1 q=>⟨q.1,by have:=zd hM h0 q.2 (fun x hx=>hx); rw [ht] at this; exact this,q.2⟩)).mono fun e w' q=>⟨q.1,?_⟩
   obtain ⟨w1,q1,q2,q3⟩:=q.2
   rw [q2]
   refine zc (tv:=a.tv) (er:=er) (d:=d) q1 (fun b' r1 r2=>⟨{a with qa:=b'},rfl,rfl,⟨by show a.tv=.iface _ (ptr b'.f); rw [ht,show b'.f=a.qa.f from r1],r2⟩,fun x hx=>hx⟩) (by rw [ht]; exact q3) (fun x hx=>.inr hx) rfl (fun _=>xH (by simp))
 | del D=>
   have ht:a.tv=.iface 164 (ptr a.qa.f):=hI.1
   have hs:=Dl.sn.step hM hI.2 ok hr
   have cY:=hb
   rw [ht] at cY
   refine (wh cY (Dl.sn.ms _) Dl.sn.es (hs.mono fun e w1 q=>⟨q.1,by have:=zd hM h0 q.2 (fun x hx=>hx); rw [ht] at this; exact this,q.2⟩)).mono fun e w' q=>⟨q.1,?_⟩
   obtain ⟨w1,q1,q2,q3⟩:=q.2
   rw [q2]
   refine zc (tv:=a.tv) (er:=er) (d:=d) q1 (fun b' r1 r2=>⟨{a with qa:=b'},rfl,rfl,⟨by show a.tv=.iface _ (ptr b'.f); rw [ht,show b'.f=a.qa.f from r1],r2⟩,fun x hx=>hx⟩) (by rw [ht]; exact q3) (fun x hx=>.inr hx) rfl (fun _=>xH (by simp))
 | rz R=>
   have ht:a.tv=.iface 137 (ptr a.ra.f):=hI.1
   have hs:=Zr.oQ.step hM hI.2 ok hr
   have cY:=hb
   rw [ht] at cY
   refine (wh cY (Zr.oQ.ms _) Zr.oQ.es (hs.mono fun e w1 q=>⟨q.1,by have:=zd hM h0 q.2 (fun x hx=>hx); rw [ht] at this; exact this,q.2⟩)).mono fun e w' q=>⟨q.1,?_⟩
   obtain ⟨w1,q1,q2,q3⟩:=q.2
   rw [q2]
   refine zc (tv:=a.tv) (er:=er) (d:=d) q1 (fun b' r1 r2=>⟨{a with ra:=b'},rfl,rfl,⟨by show a.tv=.iface _ (ptr b'.f); rw [ht,show b'.f=a.ra.f from r1],r2⟩,fun x hx=>hx⟩) (by rw [ht]; exact q3) (fun x hx=>.inr hx) rfl (fun _=>xH (by simp))
end
theorem qO:oR cE 75 29 32 jC ij bJ dI where
 below h hb:=GQ h hb
 mr b w f:=by kernel_rfl
 ms b w f:=by kernel_rfl
 er args w:=by kernel_rfl
 es args w:=by kernel_rfl
 ready hM h ok:=GR hM h ok
 step hM h ok hr:=GS hM h ok hr
end Go.Proofs.YtpanebgakndddaaGreat.Ca
namespace Go.Proofs.YtpanebgakndddaaGreat.Ca
open Go Go.RowKit Hp K Fl Rw Hm Ar Mm Me LK Qs Wk Pc Pn Mq Pu Zp Mx cJ Bs Zr
set_option maxRecDepth 100000
theorem NQ (k:Int) (w:World):Calls Tryz.prog 120 #[.int .i64 k] w fun e w'=>e=.returned (.bool (decide (0<=k/\k<=3)))/\w'=w:=by
 by_cases h1:0<=k
 ·by_cases h2:k<4
  ·rw [decide_eq_true ⟨h1,by omega⟩]
   go_enter Tryz.func120,Tryz.ntmps120
   go_wp2_with fail
   go_ret
   exact ⟨rfl,rfl⟩
  ·rw [decide_eq_false (fun q=>h2 (by omega))]
   go_enter Tryz.func120,Tryz.ntmps120
   go_wp2_with fail
   go_ret
   exact ⟨rfl,rfl⟩
 ·rw [decide_eq_false (fun q=>h1 q.1)]
  go_enter Tryz.func120,Tryz.ntmps120
  go_wp2_with fail
  go_ret
  exact ⟨rfl,rfl⟩
theorem NR (key:ByteArray) (w:World):Calls Tryz.prog 121 #[.string key] w fun e w'=>e=.returned (.bool (decide (1<=key.size/\key.size<=32)))/\w'=w:=by
 by_cases h1:key=⟨#[]⟩
 ·subst h1
  rw [decide_eq_false (by decide)]
  go_enter Tryz.func121,Tryz.ntmps121
  go_wp2_with fail
  go_ret
  exact ⟨rfl,rfl⟩
 ·have bW:=wi h1
  have hb:key.toList.isEmpty=false:=by
   cases hq:key.toList with
   | nil=>rw [hq] at bW; simp [ByteArray.toList_eq] at bW
   | cons x r=>rfl
  clear bW
  have hs:1<=key.size:=by
   rcases Nat.eq_zero_or_pos key.size with q | q
   ·exact absurd (ByteArray.ext (Array.eq_empty_of_size_eq_zero q)) h1
   ·exact q
  generalize mP:key.size=ks at*
  have Ea:(key.size:Int)=(ks:Int):=by rw [mP]
  clear h1
  by_cases h2:(ks:Int)<=32
  ·rw [decide_eq_true ⟨hs,by omega⟩]
   clear mP hs
   go_enter Tryz.func121,Tryz.ntmps121
   go_wp2_with fail
   go_ret
   exact ⟨rfl,rfl⟩
  ·rw [decide_eq_false (fun q=>h2 (by omega))]
   clear mP hs
   go_enter Tryz.func121,Tryz.ntmps121
   go_wp2_with fail
   go_ret
   exact ⟨rfl,rfl⟩
theorem NS (val:ByteArray) (w:World):Calls Tryz.prog 122 #[.string val] w fun e w'=>e=.returned (.bool (decide (val.size<=32)))/\w'=w:=by
 generalize mP:val.size=ks at*
 have Ea:(val.size:Int)=(ks:Int):=by rw [mP]
 by_cases h2:(ks:Int)<=32
 ·rw [decide_eq_true (by omega)]
  clear mP
  go_enter Tryz.func122,Tryz.ntmps122
  go_wp2_with fail
  go_ret
  exact ⟨rfl,rfl⟩
 ·rw [decide_eq_false (by omega)]
  clear mP
  go_enter Tryz.func122,Tryz.ntmps122
  go_wp2_with fail
  go_ret
  exact ⟨rfl,rfl⟩
set_option maxHeartbeats 1000000 in
theorem NT (c:Ct) (w:World):Calls Tryz.prog 92 #[iU c] w fun e w'=>e=.returned (.int .i64 (cU c))/\Below w.heap.size w w':=by
 obtain ⟨k,key,val,z⟩:=c
 unfold iU cU
 simp only
 have hB:=Lib.hid (below_1 w (.cells #[.int .i64 k,.string key,.string val,.int .i64 z] 31))
 have hK:=fun w=>NQ k w
 have hI:=fun w=>NR key w
 have hV:=fun w=>NS val w
 generalize key.size=ks at*
 generalize val.size=vs at*
 by_cases h1:0<=k/\k<=3
 case neg=>
  rw [if_pos (by omega)]
  simp only [decide_eq_false h1] at hK
  replace hK:=Lib.hid hK
  replace hI:=Lib.hid hI
  replace hV:=Lib.hid hV
  go_enter Tryz.func92,Tryz.ntmps92
  go_wp2_with (first | (go_at_call 120; refine (hK.out _).mono ?_; rintro e w' ⟨rfl,rfl⟩) | (go_at_call 121; refine (hI.out _).mono ?_; rintro e w' ⟨rfl,rfl⟩) | (go_at_call 122; refine (hV.out _).mono ?_; rintro e w' ⟨rfl,rfl⟩))
  go_ret
  exact ⟨rfl,hB.out⟩
 simp only [decide_eq_true h1] at hK
 replace hK:=Lib.hid hK
 rw [if_neg (by omega)]
 by_cases h3:k=3
 ·rw [if_neg (by omega)]
  subst h3
  replace hI:=Lib.hid hI
  replace hV:=Lib.hid hV
  clear h1
  go_enter Tryz.func92,Tryz.ntmps92
  go_wp2_with (first | (go_at_call 120; refine (hK.out _).mono ?_; rintro e w' ⟨rfl,rfl⟩) | (go_at_call 121; refine (hI.out _).mono ?_; rintro e w' ⟨rfl,rfl⟩) | (go_at_call 122; refine (hV.out _).mono ?_; rintro e w' ⟨rfl,rfl⟩))
  go_ret
  exact ⟨rfl,hB.out⟩
 have qh:k<3:=by omega
 clear h1
 by_cases h4:1<=ks/\ks<=32
 case neg=>
  rw [if_pos ⟨qh,by omega⟩]
  simp only [decide_eq_false h4] at hI
  replace hI:=Lib.hid hI
  replace hV:=Lib.hid hV
  clear qh h4
  go_enter Tryz.func92,Tryz.ntmps92
  go_wp2_with (first | (go_at_call 120; refine (hK.out _).mono ?_; rintro e w' ⟨rfl,rfl⟩) | (go_at_call 121; refine (hI.out _).mono ?_; rintro e w' ⟨rfl,rfl⟩) | (go_at_call 122; refine (hV.out _).mono ?_; rintro e w' ⟨rfl,rfl⟩))
  go_ret
  exact ⟨rfl,hB.out⟩
 simp only [decide_eq_true h4] at hI
 replace hI:=Lib.hid hI
 by_cases h6:k=1
 ·subst h6
  by_cases h7:vs<=32
  ·rw [if_neg (by omega)]
   simp only [decide_eq_true h7] at hV
   replace hV:=Lib.hid hV
   clear qh h3 h4 h7
   go_enter Tryz.func92,Tryz.ntmps92
   go_wp2_with (first | (go_at_call 120; refine (hK.out _).mono ?_; rintro e w' ⟨rfl,rfl⟩) | (go_at_call 121; refine (hI.out _).mono ?_; rintro e w' ⟨rfl,rfl⟩) | (go_at_call 122; refine (hV.out _).mono ?_; rintro e w' ⟨rfl,rfl⟩))
   go_ret
   exact ⟨rfl,hB.out⟩
  ·rw [if_pos ⟨qh,.inr (.inr ⟨rfl,by omega⟩)⟩]
   simp only [decide_eq_false h7] at hV
   replace hV:=Lib.hid hV
   clear qh h3 h4 h7
   go_enter Tryz.func92,Tryz.ntmps92
   go_wp2_with (first | (go_at_call 120; refine (hK.out _).mono ?_; rintro e w' ⟨rfl,rfl⟩) | (go_at_call 121; refine (hI.out _).mono ?_; rintro e w' ⟨rfl,rfl⟩) | (go_at_call 122; refine (hV.out _).mono ?_; rintro e w' ⟨rfl,rfl⟩))
   go_ret
   exact ⟨rfl,hB.out⟩
 ·rw [if_neg (by omega)]
  replace hV:=Lib.hid hV
  clear qh h4
  go_enter Tryz.func92,Tryz.ntmps92
  go_wp2_with (first | (go_at_call 120; refine (hK.out _).mono ?_; rintro e w' ⟨rfl,rfl⟩) | (go_at_call 121; refine (hI.out _).mono ?_; rintro e w' ⟨rfl,rfl⟩) | (go_at_call 122; refine (hV.out _).mono ?_; rintro e w' ⟨rfl,rfl⟩))
  go_ret
  exact ⟨rfl,hB.out⟩
section
variable {w w' w3 w4:World} {a:Cp} {C:Cl} {F:Fr} {f:Nat} {e:Int}
abbrev wj:Gt.Ga:=⟨0,0,0,0⟩
abbrev ze:Pu.Qa:=⟨0,0,0⟩
abbrev wm:Zr.Ra:=⟨0,.nilIface,⟨0,.nilIface,.nilIface,0,0,none,0,0,none,0,[],none,0,[]⟩,⟨0,.nilIface,0,0⟩⟩
theorem NU {c:Ct} (h:cU c=0):0<=c.kind/\c.kind<=3:=by
 unfold cU at h
 by_cases q:c.kind<0\/3<c.kind
 ·rw [if_pos q] at h; simp at h
 ·omega
theorem NV {f:Nat} (h:mF w a e F):mF w {a with f:=f} e F:=by cases F<;>exact h
theorem NW {f x:Nat} (h:oP {a with f:=f} F x):oP a F x:=by cases F<;>exact h
theorem NX (h:mF w a e F):∃ T v,a.tv=.iface T v:=by
 cases F with
 | ref=>exact ⟨_,_,h⟩
 | get G=>exact ⟨_,_,h.1⟩
 | put P=>exact ⟨_,_,h.1⟩
 | del D=>exact ⟨_,_,h.1⟩
 | rz R=>exact ⟨_,_,h.1⟩
def NY (i:Nat) (c:Ct) (F:Fr):Prop:=(cU c≠0->F=.ref)/\
 (cU c=0->F≠.ref/\(c.kind=0->F=.get (Gt.nc i c.key))/\(c.kind=1->∃ h,F=.put (Pu.jU h i c.key c.val))/\(c.kind=2->∃ h,F=.del (Dl.kD h i c.key))/\(c.kind=3->F=.rz (Zr.bX i c.size)))
def tZ (w:World) (i:Nat) (c:Ct) (e:Ending) (w':World):Prop:=∃ (a:Cp) (F:Fr),e=.returned a.tv/\NY i c F/\mF w' a (cU c) F/\(∀ x,oP a F x->w.heap.size<=x)/\Below w.heap.size w w'
end
set_option maxHeartbeats 2000000 in
theorem NZ (i:Nat) (c:Ct) (hk:c.key.size<=maxLen) (w:World):Calls Tryz.prog 69 #[.int .i64 i,.agg #[.int .i64 c.kind,.string c.key,.string c.val,.int .i64 c.size]] w (tZ w i c):=by
 have hC:=Lib.hid (fun w=>show Calls Tryz.prog 92 #[.agg #[.int .i64 c.kind,.string c.key,.string c.val,.int .i64 c.size]] w (fun e w'=>e=.returned (.int .i64 (cU c))/\Below w.heap.size w w') from NT c w)
 have uS:=Lib.hid (fun h=>NU (c:=c) h)
 obtain ⟨w1,aJ⟩:∃ w1,w1=w.alloc (.cells #[.int .i64 c.kind,.string c.key,.string c.val,.int .i64 c.size] 31):=⟨_,rfl⟩
 have b1:af w1 w.heap.size 31 #[.int .i64 c.kind,.string c.key,.string c.val,.int .i64 c.size]:=by rw [aJ]; exact af.made w _ _
 have d1:Below w.heap.size w w1:=by rw [aJ]; exact below_1 _ _
 obtain ⟨p,hp⟩:∃ p,p=w.heap.size:=⟨_,rfl⟩
 rw [<-hp] at b1
 have p0:=b1.cell 0
 have p1:=b1.cell 1
 have p2:=b1.cell 2
 have p3:=b1.cell 3
 simp at p0 p1 p2 p3
 have lp:=b1.lt
 go_enter Tryz.func69,Tryz.ntmps69
 go_upto_region 1 with (fail)
 rw [<-aJ,<-hp]
 clear aJ hp
 go_upto_region 2 with (go_at_call 92; refine (hC.out _).mono ?_; rintro e w2 ⟨rfl,au⟩)
 have d2:=Lib.hid (d1.trans (au.mono d1.size))
 have b4:=b1.only (ab.aA au (fun _=>False)) (by simp)
 have p0:=b4.cell 0
 have p1:=b4.cell 1
 have p2:=b4.cell 2
 have p3:=b4.cell 3
 simp at p0 p1 p2 p3
 have lp:=b4.lt
 clear b1 d1 hC au b4
 by_cases h0:cU c=0
 case neg=>
  have hE:Hid (tZ w i c (.returned (.iface 176 (.agg #[.int .i64 (cU c)]))) w2):=Lib.hid ⟨⟨0,.iface 176 (iZ (cU c)),wj,ze,wm⟩,.ref,rfl,⟨fun _=>rfl,fun q=>absurd q h0⟩,rfl,fun x hx=>absurd hx (fun q=>q),d2.out⟩
  clear uS d2
  go_wp2_with fail
  go_ret
  exact hE.out
 obtain ⟨k1,k2⟩:=uS.out h0
 have dE:=Lib.hid h0
 clear uS
 have cf:c.kind=0\/c.kind=1\/c.kind=2\/c.kind=3:=by omega
 clear k1 k2
 rcases cf with cf | cf | cf | cf
 ·have hN:=Lib.hid (Gt.nj i c.key hk w2)
  have om:=Lib.hid cf
  rw [cf] at p0
  clear cf
  go_wp2_with fail
  refine hN.out.mono ?_
  rintro e w4 ⟨a,rfl,hG,hl,hb⟩
  have hE:Hid (tZ w i c (.returned (.iface 177 (ptr a.f))) w4):=Lib.hid (by
   have cf:=om.out
   have h0:=dE.out
   refine ⟨⟨0,.iface 177 (ptr a.f),a,ze,wm⟩,.get (Gt.nc i c.key),rfl,⟨fun q=>absurd h0 q,fun _=>⟨by simp,fun _=>rfl,fun q=>by omega,fun q=>by omega,fun q=>by omega⟩⟩,⟨rfl,hG⟩,fun x hx=>Nat.le_trans d2.out.size (hl x hx),d2.out.trans (hb.mono d2.out.size)⟩)
  clear hN hG hl hb d2 hk p0 p1 p2 p3 lp om h0 dE
  go_wp2_with fail
  go_ret
  exact hE.out
 ·have hN:=Lib.hid (Pu.nj i c.key c.val hk w2)
  have om:=Lib.hid cf
  rw [cf] at p0
  clear cf
  go_wp2_with fail
  refine hN.out.mono ?_
  rintro e w4 ⟨a,h,rfl,hG,hl,hb⟩
  have hE:Hid (tZ w i c (.returned (.iface 179 (ptr a.f))) w4):=Lib.hid (by
   have cf:=om.out
   have h0:=dE.out
   refine ⟨⟨0,.iface 179 (ptr a.f),wj,a,wm⟩,.put (Pu.jU h i c.key c.val),rfl,⟨fun q=>absurd h0 q,fun _=>⟨by simp,fun q=>by omega,fun _=>⟨h,rfl⟩,fun q=>by omega,fun q=>by omega⟩⟩,⟨rfl,hG⟩,fun x hx=>Nat.le_trans d2.out.size (hl x hx),d2.out.trans (hb.mono d2.out.size)⟩)
  clear hN hG hl hb d2 hk p0 p1 p2 p3 lp om h0 dE
  go_wp2_with fail
  go_ret
  exact hE.out
 ·have hN:=Lib.hid (Dl.nj i c.key hk w2)
  have om:=Lib.hid cf
  rw [cf] at p0
  clear cf
  go_wp2_with fail
  refine hN.out.mono ?_
  rintro e w4 ⟨a,h,rfl,hG,hl,hb⟩
  have hE:Hid (tZ w i c (.returned (.iface 164 (ptr a.f))) w4):=Lib.hid (by
   have cf:=om.out
   have h0:=dE.out
   refine ⟨⟨0,.iface 164 (ptr a.f),wj,a,wm⟩,.del (Dl.kD h i c.key),rfl,⟨fun q=>absurd h0 q,fun _=>⟨by simp,fun q=>by omega,fun q=>by omega,fun _=>⟨h,rfl⟩,fun q=>by omega⟩⟩,⟨rfl,hG⟩,fun x hx=>Nat.le_trans d2.out.size (hl x hx),d2.out.trans (hb.mono d2.out.size)⟩)
  clear hN hG hl hb d2 hk p0 p1 p2 p3 lp om h0 dE
  go_wp2_with fail
  go_ret
  exact hE.out
 ·have hN:=Lib.hid (GU i c.size w2)
  have om:=Lib.hid cf
  rw [cf] at p0
  clear cf
  go_wp2_with fail
  refine hN.out.mono ?_
  rintro e w4 ⟨a,rfl,hG,hl,hb⟩
  have hE:Hid (tZ w i c (.returned (.iface 137 (ptr (dp.f a)))) w4):=Lib.hid (by
   have cf:=om.out
   have h0:=dE.out
   refine ⟨⟨0,.iface 137 (ptr (dp.f a)),wj,ze,a⟩,.rz (Zr.bX i c.size),rfl,⟨fun q=>absurd h0 q,fun _=>⟨by simp,fun q=>by omega,fun q=>by omega,fun q=>by omega,fun _=>rfl⟩⟩,⟨rfl,hG⟩,fun x hx=>Nat.le_trans d2.out.size (hl x hx),d2.out.trans (hb.mono d2.out.size)⟩)
  clear hN hG hl hb d2 hk p0 p1 p2 p3 lp om h0 dE
  go_wp2_with fail
  go_ret
  exact hE.out
def BX (w:World) (i:Nat) (c:Ct) (e:Ending) (w':World):Prop:=∃ (a:Cp) (C:Cl),e=.returned (ptr (cE.f a))/\iV i c C/\cE.At w' a C/\(∀ x,cE.aQ a C x->w.heap.size<=x)/\Below w.heap.size w w'
set_option maxHeartbeats 2000000 in
theorem GV (i:Nat) (c:Ct) (hk:c.key.size<=maxLen) (w:World):Calls Tryz.prog 52 #[.int .i64 i,iU c] w fun e w'=>∃ (a:Cp) (C:Cl),e=.returned (ptr (cE.f a))/\iV i c C/\cE.At w' a C/\(∀ x,cE.aQ a C x->w.heap.size<=x)/\Below w.heap.size w w':=by
 have hF:=Lib.hid (fun w=>NZ i c hk w)
 show Calls Tryz.prog 52 #[.int .i64 i,.agg #[.int .i64 c.kind,.string c.key,.string c.val,.int .i64 c.size]] w (BX w i c)
 obtain ⟨w1,aJ⟩:∃ w1,w1=w.alloc (.cells #[.int .i64 c.kind,.string c.key,.string c.val,.int .i64 c.size] 31):=⟨_,rfl⟩
 have b1:af w1 w.heap.size 31 #[.int .i64 c.kind,.string c.key,.string c.val,.int .i64 c.size]:=by rw [aJ]; exact af.made w _ _
 have d1:Below w.heap.size w w1:=by rw [aJ]; exact below_1 _ _
 obtain ⟨p,hp⟩:∃ p,p=w.heap.size:=⟨_,rfl⟩
 rw [<-hp] at b1
 have p0:=b1.cell 0
 have p1:=b1.cell 1
 have p2:=b1.cell 2
 have p3:=b1.cell 3
 simp at p0 p1 p2 p3
 have lp:=b1.lt
 go_enter Tryz.func52,Tryz.ntmps52
 go_upto_region 1 with (fail)
 rw [<-aJ,<-hp]
 clear aJ hp
 go_wp2_with (go_at_call 69; refine (hF.out _).mono ?_; rintro e w2 ⟨a,F,rfl,hI,hIn,hl,hb⟩; obtain ⟨T,v,Eb⟩:=NX hIn; rw [Eb])
 have hE:Hid (BX w i c (.returned (ptr w2.heap.size)) (w2.alloc (.cells #[.iface T v,.bool false] 118))):=Lib.hid (by
  have d2:=d1.trans (hb.mono d1.size)
  rw [<-Eb]
  have h3:=below_1 w2 (.cells #[a.tv,.bool false] 118)
  refine ⟨{a with f:=w2.heap.size},⟨F,cU c,false⟩,rfl,⟨rfl,rfl,hI.1,fun q=>(hI.2 q).2⟩,⟨af.made w2 _ _,?_,fun q=>?_⟩,fun x hx=>?_,d2.trans (h3.mono d2.size)⟩
  ·exact BU (NV hIn) (ab.aA h3 (fun _=>False)) (by simp)
  ·by_cases h0:cU c=0
   ·exact h0
   ·exact absurd (hI.1 h0) q
  ·rcases hx with rfl | hx
   ·exact d2.size
   ·exact Nat.le_trans d1.size (hl x (NW hx)))
 clear hF b1 d1 hI hIn hl hb p0 p1 p2 p3 lp Eb
 go_wp2_with fail
 go_ret
 exact hE.out
end Go.Proofs.YtpanebgakndddaaGreat.Ca
namespace Go.Proofs.YtpanebgakndddaaGreat.Ca
open Go Go.RowKit Hp K Fl Rw Hm Ar Mm Me LK Qs Wk Pc Pn Mq Pu Zp Mx cJ Bs Zr
set_option maxRecDepth 100000
theorem N0 (b:Nat) (w:World):(Instr.typeAssert (.iface 177 (ptr b)) 116 177 true).run Tryz.prog w=.ok (.tuple #[ptr b,.bool true]) w:=by kernel_rfl
theorem N1 (b:Nat) (w:World):(Instr.typeAssert (.iface 179 (ptr b)) 116 177 true).run Tryz.prog w=.ok (.tuple #[.pointer none,.bool false]) w:=by kernel_rfl
theorem N2 (b:Nat) (w:World):(Instr.typeAssert (.iface 179 (ptr b)) 116 179 true).run Tryz.prog w=.ok (.tuple #[ptr b,.bool true]) w:=by kernel_rfl
theorem N3 (b:Nat) (w:World):(Instr.typeAssert (.iface 164 (ptr b)) 116 177 true).run Tryz.prog w=.ok (.tuple #[.pointer none,.bool false]) w:=by kernel_rfl
theorem N4 (b:Nat) (w:World):(Instr.typeAssert (.iface 164 (ptr b)) 116 179 true).run Tryz.prog w=.ok (.tuple #[.pointer none,.bool false]) w:=by kernel_rfl
theorem N5 (b:Nat) (w:World):(Instr.typeAssert (.iface 164 (ptr b)) 116 164 true).run Tryz.prog w=.ok (.tuple #[ptr b,.bool true]) w:=by kernel_rfl
theorem N6 (b:Nat) (w:World):(Instr.typeAssert (.iface 137 (ptr b)) 116 177 true).run Tryz.prog w=.ok (.tuple #[.pointer none,.bool false]) w:=by kernel_rfl
theorem N7 (b:Nat) (w:World):(Instr.typeAssert (.iface 137 (ptr b)) 116 179 true).run Tryz.prog w=.ok (.tuple #[.pointer none,.bool false]) w:=by kernel_rfl
theorem N8 (b:Nat) (w:World):(Instr.typeAssert (.iface 137 (ptr b)) 116 164 true).run Tryz.prog w=.ok (.tuple #[.pointer none,.bool false]) w:=by kernel_rfl
theorem N9 (b:Nat) (w:World):(Instr.typeAssert (.iface 137 (ptr b)) 116 137 true).run Tryz.prog w=.ok (.tuple #[ptr b,.bool true]) w:=by kernel_rfl
theorem Oa (e:Int) (w:World):(Instr.typeAssert (.iface 176 (iZ e)) 116 177 true).run Tryz.prog w=.ok (.tuple #[.pointer none,.bool false]) w:=by kernel_rfl
theorem Ob (e:Int) (w:World):(Instr.typeAssert (.iface 176 (iZ e)) 116 179 true).run Tryz.prog w=.ok (.tuple #[.pointer none,.bool false]) w:=by kernel_rfl
theorem Oc (e:Int) (w:World):(Instr.typeAssert (.iface 176 (iZ e)) 116 164 true).run Tryz.prog w=.ok (.tuple #[.pointer none,.bool false]) w:=by kernel_rfl
theorem Od (e:Int) (w:World):(Instr.typeAssert (.iface 176 (iZ e)) 116 137 true).run Tryz.prog w=.ok (.tuple #[.pointer none,.bool false]) w:=by kernel_rfl
theorem Oe (e:Int) (w:World):(Instr.typeAssert (.iface 176 (iZ e)) 116 176 true).run Tryz.prog w=.ok (.tuple #[iZ e,.bool true]) w:=by kernel_rfl
section
variable {w w':World} {a:Cp} {C:Cl} {f b:Nat} {tv:Value} {e:Int}
theorem Nr (hb:af w f 118 (lP tv false)):Calls Tryz.prog 53 #[ptr f] w fun e w'=>e=.returned (.tuple #[.agg #[.int .i64 0,.bool false,.string ⟨#[]⟩],.bool false])/\Below w.heap.size w w':=by
 obtain ⟨w1,aJ⟩:∃ w1,w1=w.alloc (.cells #[.int .i64 0,.bool false,.string ⟨#[]⟩] 44):=⟨_,rfl⟩
 have b1:af w1 w.heap.size 44 #[.int .i64 0,.bool false,.string ⟨#[]⟩]:=by rw [aJ]; exact af.made w _ _
 have d1:Below w.heap.size w w1:=by rw [aJ]; exact below_1 _ _
 have av:=hb.only (ab.aA d1 (fun _=>False)) (by simp)
 have c2:=(qJ av).2
 have lf:=av.lt
 have aL:f≠w.heap.size:=fun q=>by have:=hb.lt; omega
 obtain ⟨q,hq⟩:∃ q,q=w.heap.size:=⟨_,rfl⟩
 have dN:w.heap.size<=q:=by omega
 rw [<-hq] at b1 aL
 have g0:=b1.cell 0
 have g1:=b1.cell 1
 have g2:=b1.cell 2
 have z0:=b1.frozen 0
 have z1:=b1.frozen 1
 have z2:=b1.frozen 2
 simp at g0 g1 g2
 have lq:=b1.lt
 have hB:=Lib.hid (((d1.setCell (p:=⟨q,0,none⟩) dN (.int .i64 0)).setCell (p:=⟨q,1,none⟩) dN (.bool false)).setCell (p:=⟨q,2,none⟩) dN (.string ⟨#[]⟩))
 clear hb av b1 d1 dN
 go_enter Tryz.func53,Tryz.ntmps53
 go_upto_region 1 with (fail)
 rw [<-aJ,<-hq]
 clear aJ hq
 go_wp2_with fail
 exact bodyPost_ret (v:=.tuple #[.agg #[.int .i64 0,.bool false,.string ⟨#[]⟩],.bool false]) (by simp [results,Tryz.results53,go_sem,g0,g1,g2]) rfl ⟨rfl,hB.out⟩
theorem Ns {e1:Int} {h:Bool} {v:ByteArray} (hb:af w f 118 (lP tv true)) (hA:∀ wx,Below w.heap.size w wx->Calls Tryz.prog 70 #[tv] wx fun e' w'=>e'=.returned (.agg #[.int .i64 e1,.bool h,.string v])/\Below wx.heap.size wx w'):
 Calls Tryz.prog 53 #[ptr f] w fun e' w'=>e'=.returned (.tuple #[.agg #[.int .i64 e1,.bool h,.string v],.bool true])/\Below w.heap.size w w':=by
 obtain ⟨w1,aJ⟩:∃ w1,w1=w.alloc (.cells #[.int .i64 0,.bool false,.string ⟨#[]⟩] 44):=⟨_,rfl⟩
 have b1:af w1 w.heap.size 44 #[.int .i64 0,.bool false,.string ⟨#[]⟩]:=by rw [aJ]; exact af.made w _ _
 have d1:Below w.heap.size w w1:=by rw [aJ]; exact below_1 _ _
 have bw:=Lib.hid (hA w1 d1)
 have av:=hb.only (ab.aA d1 (fun _=>False)) (by simp)
 have c0:=(qJ av).1
 have c2:=(qJ av).2
 have lf:=av.lt
 obtain ⟨q,hq⟩:∃ q,q=w.heap.size:=⟨_,rfl⟩
 have dN:w.heap.size<=q:=by omega
 rw [<-hq] at b1
 clear hb av hA
 go_enter Tryz.func53,Tryz.ntmps53
 go_upto_region 1 with (fail)
 rw [<-aJ,<-hq]
 clear aJ hq
 go_wp2_with fail
 refine bw.out.mono ?_
 rintro e w3 ⟨rfl,aR⟩
 have b3:=b1.only (ab.aA aR (fun _=>False)) (by simp)
 have hB:=Lib.hid (d1.trans (aR.mono d1.size))
 clear bw aR b1 d1
 clear c0 c2 lf
 have g0:=b3.cell 0
 have g1:=b3.cell 1
 have g2:=b3.cell 2
 have z0:=b3.frozen 0
 have z1:=b3.frozen 1
 have z2:=b3.frozen 2
 simp at g0 g1 g2
 have lq:=b3.lt
 clear b3
 go_wp2_with fail
 refine bodyPost_ret (v:=.tuple #[.agg #[.int .i64 e1,.bool h,.string v],.bool true]) (by simp [results,Tryz.results53,go_sem,g0,g1,g2]) rfl ⟨rfl,?_⟩
 repeat' first | exact hB.out | (refine Below.setCell ?_ ?_ _) | exact dN
set_option maxHeartbeats 1000000 in
theorem Nu {v:ByteArray} {h:Bool} (hF:∀ wx,Below w.heap.size w wx->Calls Tryz.prog 95 #[ptr b] wx fun e' w'=>e'=.returned (.tuple #[.string v,.bool h])/\Below wx.heap.size wx w'):
 Calls Tryz.prog 70 #[.iface 177 (ptr b)] w fun e' w'=>e'=.returned (.agg #[.int .i64 0,.bool h,.string v])/\Below w.heap.size w w':=by
 obtain ⟨w1,aJ⟩:∃ w1,w1=w.alloc (.cells #[.int .i64 0,.bool false,.string ⟨#[]⟩] 44):=⟨_,rfl⟩
 have b1:af w1 w.heap.size 44 #[.int .i64 0,.bool false,.string ⟨#[]⟩]:=by rw [aJ]; exact af.made w _ _
 have d1:Below w.heap.size w w1:=by rw [aJ]; exact below_1 _ _
 have aP:=Lib.hid (hF w1 d1)
 obtain ⟨q,hq⟩:∃ q,q=w.heap.size:=⟨_,rfl⟩
 have dN:w.heap.size<=q:=by omega
 rw [<-hq] at b1
 have ta0:=N0 b
 clear hF
 go_enter Tryz.func70,Tryz.ntmps70
 go_upto_region 1 with (fail)
 rw [<-aJ,<-hq]
 clear aJ hq
 go_wp2_with fail
 refine aP.out.mono ?_
 rintro e w3 ⟨rfl,aR⟩
 have b3:=b1.only (ab.aA aR (fun _=>False)) (by simp)
 have hB:=Lib.hid (d1.trans (aR.mono d1.size))
 clear aP aR b1 d1
 have g0:=b3.cell 0
 have g1:=b3.cell 1
 have g2:=b3.cell 2
 have z0:=b3.frozen 0
 have z1:=b3.frozen 1
 have z2:=b3.frozen 2
 simp at g0 g1 g2
 have lq:=b3.lt
 clear b3
 go_wp2_with fail
 refine bodyPost_ret (v:=.agg #[.int .i64 0,.bool h,.string v]) (by simp [results,Tryz.results70,go_sem,g0,g1,g2]) rfl ⟨rfl,?_⟩
 repeat' first | exact hB.out | (refine Below.setCell ?_ ?_ _) | exact dN
set_option maxHeartbeats 1000000 in
theorem Gz {h:Bool} (hF:∀ wx,Below w.heap.size w wx->Calls Tryz.prog 96 #[ptr b] wx fun e' w'=>e'=.returned (.agg #[.int .i64 e,.bool h,.string ⟨#[]⟩])/\Below wx.heap.size wx w'):
 Calls Tryz.prog 70 #[.iface 179 (ptr b)] w fun e' w'=>e'=.returned (.agg #[.int .i64 e,.bool h,.string ⟨#[]⟩])/\Below w.heap.size w w':=by
 obtain ⟨w1,aJ⟩:∃ w1,w1=w.alloc (.cells #[.int .i64 0,.bool false,.string ⟨#[]⟩] 44):=⟨_,rfl⟩
 have b1:af w1 w.heap.size 44 #[.int .i64 0,.bool false,.string ⟨#[]⟩]:=by rw [aJ]; exact af.made w _ _
 have d1:Below w.heap.size w w1:=by rw [aJ]; exact below_1 _ _
 have aP:=Lib.hid (hF w1 d1)
 obtain ⟨q,hq⟩:∃ q,q=w.heap.size:=⟨_,rfl⟩
 have dN:w.heap.size<=q:=by omega
 rw [<-hq] at b1
 have ta0:=N1 b
 have ta1:=N2 b
 clear hF
 go_enter Tryz.func70,Tryz.ntmps70
 go_upto_region 1 with (fail)
 rw [<-aJ,<-hq]
 clear aJ hq
 go_wp2_with fail
 refine aP.out.mono ?_
 rintro e w3 ⟨rfl,aR⟩
 have b3:=b1.only (ab.aA aR (fun _=>False)) (by simp)
 have hB:=Lib.hid (d1.trans (aR.mono d1.size))
 clear aP aR b1 d1
 have g0:=b3.cell 0
 have g1:=b3.cell 1
 have g2:=b3.cell 2
 have z0:=b3.frozen 0
 have z1:=b3.frozen 1
 have z2:=b3.frozen 2
 simp at g0 g1 g2
 have lq:=b3.lt
 clear b3
 go_wp2_with fail
 refine bodyPost_ret (v:=.agg #[.int .i64 e,.bool h,.string ⟨#[]⟩]) (by simp [results,Tryz.results70,go_sem,g0,g1,g2]) rfl ⟨rfl,?_⟩
 repeat' first | exact hB.out | (refine Below.setCell ?_ ?_ _) | exact dN
set_option maxHeartbeats 1000000 in
theorem Nv {v:ByteArray} {h:Bool} (hF:∀ wx,Below w.heap.size w wx->Calls Tryz.prog 82 #[ptr b] wx fun e' w'=>e'=.returned (.tuple #[.string v,.bool h])/\Below wx.heap.size wx w'):
 Calls Tryz.prog 70 #[.iface 164 (ptr b)] w fun e' w'=>e'=.returned (.agg #[.int .i64 0,.bool h,.string v])/\Below w.heap.size w w':=by
 obtain ⟨w1,aJ⟩:∃ w1,w1=w.alloc (.cells #[.int .i64 0,.bool false,.string ⟨#[]⟩] 44):=⟨_,rfl⟩
 have b1:af w1 w.heap.size 44 #[.int .i64 0,.bool false,.string ⟨#[]⟩]:=by rw [aJ]; exact af.made w _ _
 have d1:Below w.heap.size w w1:=by rw [aJ]; exact below_1 _ _
 have aP:=Lib.hid (hF w1 d1)
 obtain ⟨q,hq⟩:∃ q,q=w.heap.size:=⟨_,rfl⟩
 have dN:w.heap.size<=q:=by omega
 rw [<-hq] at b1
 have ta0:=N3 b
 have ta1:=N4 b
 have ta2:=N5 b
 clear hF
 go_enter Tryz.func70,Tryz.ntmps70
 go_upto_region 1 with (fail)
 rw [<-aJ,<-hq]
 clear aJ hq
 go_wp2_with fail
 refine aP.out.mono ?_
 rintro e w3 ⟨rfl,aR⟩
 have b3:=b1.only (ab.aA aR (fun _=>False)) (by simp)
 have hB:=Lib.hid (d1.trans (aR.mono d1.size))
 clear aP aR b1 d1
 have g0:=b3.cell 0
 have g1:=b3.cell 1
 have g2:=b3.cell 2
 have z0:=b3.frozen 0
 have z1:=b3.frozen 1
 have z2:=b3.frozen 2
 simp at g0 g1 g2
 have lq:=b3.lt
 clear b3
 go_wp2_with fail
 refine bodyPost_ret (v:=.agg #[.int .i64 0,.bool h,.string v]) (by simp [results,Tryz.results70,go_sem,g0,g1,g2]) rfl ⟨rfl,?_⟩
 repeat' first | exact hB.out | (refine Below.setCell ?_ ?_ _) | exact dN
set_option maxHeartbeats 1000000 in
theorem Nw (hF:∀ wx,Below w.heap.size w wx->Calls Tryz.prog 63 #[ptr b] wx fun e' w'=>e'=.returned (.int .i64 e)/\Below wx.heap.size wx w'):
 Calls Tryz.prog 70 #[.iface 137 (ptr b)] w fun e' w'=>e'=.returned (.agg #[.int .i64 e,.bool false,.string ⟨#[]⟩])/\Below w.heap.size w w':=by
 obtain ⟨w1,aJ⟩:∃ w1,w1=w.alloc (.cells #[.int .i64 0,.bool false,.string ⟨#[]⟩] 44):=⟨_,rfl⟩
 have b1:af w1 w.heap.size 44 #[.int .i64 0,.bool false,.string ⟨#[]⟩]:=by rw [aJ]; exact af.made w _ _
 have d1:Below w.heap.size w w1:=by rw [aJ]; exact below_1 _ _
 have aP:=Lib.hid (hF w1 d1)
 obtain ⟨q,hq⟩:∃ q,q=w.heap.size:=⟨_,rfl⟩
 have dN:w.heap.size<=q:=by omega
 rw [<-hq] at b1
 have ta0:=N6 b
 have ta1:=N7 b
 have ta2:=N8 b
 have ta3:=N9 b
 clear hF
 go_enter Tryz.func70,Tryz.ntmps70
 go_upto_region 1 with (fail)
 rw [<-aJ,<-hq]
 clear aJ hq
 go_wp2_with fail
 refine aP.out.mono ?_
 rintro e w3 ⟨rfl,aR⟩
 have b3:=b1.only (ab.aA aR (fun _=>False)) (by simp)
 have hB:=Lib.hid (d1.trans (aR.mono d1.size))
 clear aP aR b1 d1
 have g0:=b3.cell 0
 have g1:=b3.cell 1
 have g2:=b3.cell 2
 have z0:=b3.frozen 0
 have z1:=b3.frozen 1
 have z2:=b3.frozen 2
 simp at g0 g1 g2
 have lq:=b3.lt
 clear b3
 go_wp2_with fail
 refine bodyPost_ret (v:=.agg #[.int .i64 e,.bool false,.string ⟨#[]⟩]) (by simp [results,Tryz.results70,go_sem,g0,g1,g2]) rfl ⟨rfl,?_⟩
 repeat' first | exact hB.out | (refine Below.setCell ?_ ?_ _) | exact dN
set_option maxHeartbeats 1000000 in
theorem Nt:
 Calls Tryz.prog 70 #[.iface 176 (iZ e)] w fun e' w'=>e'=.returned (.agg #[.int .i64 e,.bool false,.string ⟨#[]⟩])/\Below w.heap.size w w':=by
 obtain ⟨w1,aJ⟩:∃ w1,w1=w.alloc (.cells #[.int .i64 0,.bool false,.string ⟨#[]⟩] 44):=⟨_,rfl⟩
 have b1:af w1 w.heap.size 44 #[.int .i64 0,.bool false,.string ⟨#[]⟩]:=by rw [aJ]; exact af.made w _ _
 have d1:Below w.heap.size w w1:=by rw [aJ]; exact below_1 _ _
 obtain ⟨q,hq⟩:∃ q,q=w.heap.size:=⟨_,rfl⟩
 have dN:w.heap.size<=q:=by omega
 rw [<-hq] at b1
 have ta0:=Oa e
 have ta1:=Ob e
 have ta2:=Oc e
 have ta3:=Od e
 have ta4:=Oe e
 obtain ⟨w2,aT⟩:∃ w2,w2=w1.alloc (.cells #[.int .i64 e] 176):=⟨_,rfl⟩
 have b2:af w2 w1.heap.size 176 #[.int .i64 e]:=by rw [aT]; exact af.made w1 _ _
 have d2:Below w1.heap.size w1 w2:=by rw [aT]; exact below_1 _ _
 have b3:=b1.only (ab.aA d2 (fun _=>False)) (by simp)
 have hB:=Lib.hid (d1.trans (d2.mono d1.size))
 have r0:=b2.cell 0
 simp at r0
 have lr:=b2.lt
 clear b1 b2 d1 d2
 go_enter Tryz.func70,Tryz.ntmps70
 go_upto_region 1 with (fail)
 rw [<-aJ,<-hq]
 clear aJ hq
 go_upto_region 18 with (fail)
 rw [<-aT]
 obtain ⟨rb,Aw⟩:∃ rb,rb=w1.heap.size:=⟨_,rfl⟩
 rw [<-Aw] at r0 lr ⊢
 clear aT Aw ta0 ta1 ta2 ta3 ta4
 have g0:=b3.cell 0
 have g1:=b3.cell 1
 have g2:=b3.cell 2
 have z0:=b3.frozen 0
 have z1:=b3.frozen 1
 have z2:=b3.frozen 2
 simp at g0 g1 g2
 have lq:=b3.lt
 clear b3
 go_wp2_with fail
 refine bodyPost_ret (v:=.agg #[.int .i64 e,.bool false,.string ⟨#[]⟩]) (by simp [results,Tryz.results70,go_sem,g0,g1,g2]) rfl ⟨rfl,?_⟩
 repeat' first | exact hB.out | (refine Below.setCell ?_ ?_ _) | exact dN
set_option maxHeartbeats 1000000 in
theorem Ny (he:e≠0) (hF:∀ wx,Below w.heap.size w wx->Calls Tryz.prog 110 #[ptr b] wx fun e' w'=>e'=.returned (.int .i64 e)/\Below wx.heap.size wx w')
 :
 Calls Tryz.prog 96 #[ptr b] w fun e' w'=>e'=.returned (.agg #[.int .i64 e,.bool false,.string ⟨#[]⟩])/\Below w.heap.size w w':=by
 obtain ⟨w1,aJ⟩:∃ w1,w1=w.alloc (.cells #[.int .i64 0,.bool false,.string ⟨#[]⟩] 44):=⟨_,rfl⟩
 have b1:af w1 w.heap.size 44 #[.int .i64 0,.bool false,.string ⟨#[]⟩]:=by rw [aJ]; exact af.made w _ _
 have d1:Below w.heap.size w w1:=by rw [aJ]; exact below_1 _ _
 have aP:=Lib.hid (hF w1 d1)
 obtain ⟨q,hq⟩:∃ q,q=w.heap.size:=⟨_,rfl⟩
 have dN:w.heap.size<=q:=by omega
 rw [<-hq] at b1
 clear hF
 go_enter Tryz.func96,Tryz.ntmps96
 go_upto_region 1 with (fail)
 rw [<-aJ,<-hq]
 clear aJ hq
 go_wp2_with fail
 refine aP.out.mono ?_
 rintro e w3 ⟨rfl,aR⟩
 have b3:=b1.only (ab.aA aR (fun _=>False)) (by simp)
 have hB:=Lib.hid (d1.trans (aR.mono d1.size))
 clear aP aR b1 d1
 have g0:=b3.cell 0
 have g1:=b3.cell 1
 have g2:=b3.cell 2
 have z0:=b3.frozen 0
 have z1:=b3.frozen 1
 have z2:=b3.frozen 2
 simp at g0 g1 g2
 have lq:=b3.lt
 clear b3
 go_wp2_with fail
 refine bodyPost_ret (v:=.agg #[.int .i64 e,.bool false,.string ⟨#[]⟩]) (by simp [results,Tryz.results96,go_sem,g0,g1,g2]) rfl ⟨rfl,?_⟩
 repeat' first | exact hB.out | (refine Below.setCell ?_ ?_ _) | exact dN
set_option maxHeartbeats 1000000 in
theorem Nx {h:Bool} (hF:∀ wx,Below w.heap.size w wx->Calls Tryz.prog 110 #[ptr b] wx fun e' w'=>e'=.returned (.int .i64 0)/\Below wx.heap.size wx w')
 (hH:∀ wx,Below w.heap.size w wx->Calls Tryz.prog 111 #[ptr b] wx fun e w'=>e=.returned (.bool h)/\Below wx.heap.size wx w'):
 Calls Tryz.prog 96 #[ptr b] w fun e' w'=>e'=.returned (.agg #[.int .i64 0,.bool h,.string ⟨#[]⟩])/\Below w.heap.size w w':=by
 obtain ⟨w1,aJ⟩:∃ w1,w1=w.alloc (.cells #[.int .i64 0,.bool false,.string ⟨#[]⟩] 44):=⟨_,rfl⟩
 have b1:af w1 w.heap.size 44 #[.int .i64 0,.bool false,.string ⟨#[]⟩]:=by rw [aJ]; exact af.made w _ _
 have d1:Below w.heap.size w w1:=by rw [aJ]; exact below_1 _ _
 have aP:=Lib.hid (hF w1 d1)
 obtain ⟨q,hq⟩:∃ q,q=w.heap.size:=⟨_,rfl⟩
 have dN:w.heap.size<=q:=by omega
 rw [<-hq] at b1
 clear hF
 replace hH:=Lib.hid hH
 go_enter Tryz.func96,Tryz.ntmps96
 go_upto_region 1 with (fail)
 rw [<-aJ,<-hq]
 clear aJ hq
 go_wp2_with fail
 refine aP.out.mono ?_
 rintro e w2 ⟨rfl,au⟩
 have b1:=b1.only (ab.aA au (fun _=>False)) (by simp)
 have d1:=d1.trans (au.mono d1.size)
 have iN:=Lib.hid (hH.out w2 d1)
 clear aP au hH
 go_wp2_with fail
 refine iN.out.mono ?_
 rintro e w3 ⟨rfl,aR⟩
 have b3:=b1.only (ab.aA aR (fun _=>False)) (by simp)
 have hB:=Lib.hid (d1.trans (aR.mono d1.size))
 clear iN aR b1 d1
 have g0:=b3.cell 0
 have g1:=b3.cell 1
 have g2:=b3.cell 2
 have z0:=b3.frozen 0
 have z1:=b3.frozen 1
 have z2:=b3.frozen 2
 simp at g0 g1 g2
 have lq:=b3.lt
 clear b3
 go_wp2_with fail
 refine bodyPost_ret (v:=.agg #[.int .i64 0,.bool h,.string ⟨#[]⟩]) (by simp [results,Tryz.results96,go_sem,g0,g1,g2]) rfl ⟨rfl,?_⟩
 repeat' first | exact hB.out | (refine Below.setCell ?_ ?_ _) | exact dN
end
end Go.Proofs.YtpanebgakndddaaGreat.Ca
namespace Go.Proofs.YtpanebgakndddaaGreat.Ca
open Go Go.RowKit Hp K Fl Rw Hm Ar Mm Me LK Qs Wk Pc Pn Mq Pu Zp Mx cJ Bs Zr
set_option maxRecDepth 100000
theorem Ni (v:Value) (x:TypeId) (w:World):(Instr.typeAssert (.iface 177 v) x 120 true).run Tryz.prog w=.ok (.tuple #[.nilIface,.bool false]) w:=run_typeAssert_lacksB Tryz.underlying120 (by kernel_rfl) (by kernel_rfl) v x w
theorem Nj (v:Value) (x:TypeId) (w:World):(Instr.typeAssert (.iface 137 v) x 120 true).run Tryz.prog w=.ok (.tuple #[.nilIface,.bool false]) w:=run_typeAssert_lacksB Tryz.underlying120 (by kernel_rfl) (by kernel_rfl) v x w
theorem Nk (v:Value) (x:TypeId) (w:World):(Instr.typeAssert (.iface 179 v) x 120 true).run Tryz.prog w=.ok (.tuple #[.iface 179 v,.bool true]) w:=run_typeAssert_hasB Tryz.underlying120 (by kernel_rfl) v x w
theorem Nl (v:Value) (x:TypeId) (w:World):(Instr.typeAssert (.iface 164 v) x 120 true).run Tryz.prog w=.ok (.tuple #[.iface 164 v,.bool true]) w:=run_typeAssert_hasB Tryz.underlying120 (by kernel_rfl) v x w
theorem Nm (v:Value) (x:TypeId) (w:World):(Instr.typeAssert (.iface 176 v) x 120 true).run Tryz.prog w=.ok (.tuple #[.nilIface,.bool false]) w:=run_typeAssert_lacksB Tryz.underlying120 (by kernel_rfl) (by kernel_rfl) v x w
theorem Nn (b:Nat) (w:World) (f:Nat):(method (f+1) 179 (.pointer (some ⟨b,0,none⟩)) "Mine").run Tryz.prog w=.ok (285,.pointer (some ⟨b,0,none⟩)) w:=by kernel_rfl
theorem No (b:Nat) (w:World) (f:Nat):(method (f+1) 164 (.pointer (some ⟨b,0,none⟩)) "Mine").run Tryz.prog w=.ok (272,.pointer (some ⟨b,0,none⟩)) w:=by kernel_rfl
theorem Np (args:Array Value) (w:World):(callFunc 285 args).run Tryz.prog w=.ok (.enter 285 args) w:=by kernel_rfl
theorem Nq (args:Array Value) (w:World):(callFunc 272 args).run Tryz.prog w=.ok (.enter 272 args) w:=by kernel_rfl
section
variable {w w':World} {a:Cp} {C:Cl} {f b:Nat} {tv:Value} {e:Int} {d:Bool}
theorem BM (hb:af w f 118 (lP tv d)) (ht:∀ w,(Instr.typeAssert tv 116 120 true).run Tryz.prog w=.ok (.tuple #[.nilIface,.bool false]) w):
 Calls Tryz.prog 30 #[ptr f] w fun e w'=>e=.returned (.int .u64 0)/\Below w.heap.size w w':=by
 have c0:=(qJ hb).1
 have lf:=hb.lt
 clear hb
 go_enter Tryz.func30,Tryz.ntmps30
 go_wp2_with fail
 go_ret
 exact ⟨rfl,Below.refl _ _⟩
theorem Gu {T:TypeId} {fm:Nat} {n:Nat} (hb:af w f 118 (lP (.iface T (ptr b)) d)) (ht:∀ w,(Instr.typeAssert (.iface T (ptr b)) 116 120 true).run Tryz.prog w=.ok (.tuple #[.iface T (ptr b),.bool true]) w)
 (mm:∀ (w:World) (f:Nat),(method (f+1) T (.pointer (some ⟨b,0,none⟩)) "Mine").run Tryz.prog w=.ok (fm,.pointer (some ⟨b,0,none⟩)) w) (em:∀ args w,(callFunc fm args).run Tryz.prog w=.ok (.enter fm args) w) (hF:Calls Tryz.prog fm #[ptr b] w fun e w'=>e=.returned (.int .u64 n)/\w=w'):
 Calls Tryz.prog 30 #[ptr f] w fun e w'=>e=.returned (.int .u64 n)/\Below w.heap.size w w':=by
 have c0:=(qJ hb).1
 have lf:=hb.lt
 replace hF:=Lib.hid hF
 clear hb
 go_enter Tryz.func30,Tryz.ntmps30
 go_wp2_with fail
 refine hF.out.mono ?_
 rintro e w' ⟨rfl,rfl⟩
 go_wp2_with fail
 go_ret
 exact ⟨rfl,Below.refl _ _⟩
theorem tT (h:cE.At w a C):Calls Tryz.prog 30 #[ptr (cE.f a)] w fun e w'=>e=.returned (.int .u64 (bU C))/\Below w.heap.size w w':=by
 obtain ⟨hb,hI,h0⟩:=h
 obtain ⟨F,er,d⟩:=C
 cases F with
 | ref=>exact BM hb (fun w=>by rw [show a.tv=.iface 176 (iZ er) from hI]; exact Nm _ _ w)
 | get G=>exact BM hb (fun w=>by rw [hI.1]; exact Ni _ _ w)
 | rz R=>exact BM hb (fun w=>by rw [hI.1]; exact Nj _ _ w)
 | put P=>
   rw [hI.1] at hb
   exact Gu hb (fun w=>Nk _ _ w) (Nn _) Np (Pu.tT hI.2)
 | del D=>
   rw [hI.1] at hb
   exact Gu hb (fun w=>Nl _ _ w) (No _) Nq (Dl.tT hI.2)
theorem BN (h:cE.At w a C):Calls Tryz.prog 53 #[ptr (cE.f a)] w fun e w'=>e=.returned (.tuple #[.agg #[.int .i64 (da C).1,.bool (da C).2.1,.string (da C).2.2],.bool C.done])/\Below w.heap.size w w':=by
 obtain ⟨hb,hI,h0⟩:=h
 obtain ⟨F,er,d⟩:=C
 cases d with
 | false=>exact Nr hb
 | true=>
   refine Ns hb (fun wx hx=>?_)
   cases F with
   | ref=>
     rw [show a.tv=.iface 176 (iZ er) from hI]
     exact Nt
   | get G=>
     rw [hI.1]
     exact Nu (fun wy hy=>Gt.Gx (hI.2.below (hx.trans (hy.mono hx.size))))
   | del D=>
     rw [hI.1]
     exact Nv (fun wy hy=>Dl.vV (hI.2.below (hx.trans (hy.mono hx.size))))
   | rz R=>
     rw [hI.1]
     exact Nw (fun wy hy=>(BO (Gy hI.2 (hx.trans (hy.mono hx.size)))).mono fun e w' q=>⟨q.1,by rw [q.2]; exact Below.refl _ _⟩)
   | put P=>
     rw [hI.1]
     by_cases hp:P.err=0
     ·have:da ⟨.put P,er,true⟩=(0,decide (P.W.found≠0),⟨#[]⟩):=by show (if P.err=0 then _ else _)=_; rw [if_pos hp]
      rw [this]
      refine Gz (fun wy hy=>?_)
      have hP:=hI.2.below (hx.trans (hy.mono hx.size))
      exact Nx (fun wz hz=>(Pu.qK (hP.below hz)).mono (fun e w' q=>⟨by rw [q.1,hp],by rw [<-q.2]; exact Below.refl _ _⟩)) (fun wz hz=>Pu.vV (hP.below hz))
     ·have:da ⟨.put P,er,true⟩=(P.err,false,⟨#[]⟩):=by show (if P.err=0 then _ else _)=_; rw [if_neg hp]
      rw [this]
      refine Gz (fun wy hy=>?_)
      have hP:=hI.2.below (hx.trans (hy.mono hx.size))
      exact Ny hp (fun wz hz=>(Pu.qK (hP.below hz)).mono (fun e w' q=>⟨q.1,by rw [<-q.2]; exact Below.refl _ _⟩))
end
end Go.Proofs.YtpanebgakndddaaGreat.Ca
