/- Walks and plain mathematics, put together in their order: TwB, RzG, ClQ, DoA, ClU, ClV, ClX, ClZ, ClM, ClS, One, ThE. -/
import Derived.Test.YtpobbnllcoabhaaGreatDoorPart10
import Derived.Test.YtpobbnllcoabhaaGreatDoorMemNew
import Derived.Test.YtpobbnllcoabhaaGreatDoorGetB
import Derived.Test.YtpobbnllcoabhaaGreatDoorWalkC
import Derived.Stop.Asserts
import Derived.Test.YtpobbnllcoabhaaGreatDoorFinishN
set_option linter.unusedVariables false
set_option linter.unusedSimpArgs false
namespace Go.Proofs.YtpobbnllcoabhaaGreatDoor.LawTw
open Go Go.RowKit Hp K Fl Rw Hm Ar Mm Me LK Qs Wk Re LawSix Pn Pc Mq Pu LawTen LawEl Dl
set_option maxRecDepth 100000
section
variable {L:Lm} {n B:Nat} {cs:Nat→List Mq.Hp} {l l':List Pr} {G:Nat} {key val:ByteArray} {i:Int} {hb:Nat}
theorem fnd_val (h:Mp L n B cs l G) {W:Wa} (hf:Fnd (Mp.ep L n B cs key val i hb) W) (hz:W.found=0→W.nd=.zero):W.nd.val=(Pc.lk l key).getD ⟨#[]⟩:=by
 have hq:=hf
 rw [h.lk]
 rcases hf with ⟨h0,hk,_⟩ | ⟨pre,x,p,t,z,k,hq,hp,hx,hk,hnd,hW,hc,hpv⟩
 · have:Pc.lk (prs (cs (bkt key n))) key=none:=lk_none.2 (by simpa using hk)
   rw [this,hz h0]
   rfl
 · have hm:p∈prs (cs (bkt key n)):=by
    have hq:cs (bkt key n)=_:=hq
    rw [hq]
    simp
   have hp:p.1=key:=hp
   have hn:((prs (cs (bkt key n))).map (·.1)).Nodup:=by
    rw [kys_prs]
    exact h.kd _ (bkt_lt h.pw key).1
   have:=lk_mem hn hm
   rw [hp] at this
   rw [this,hW]
   rfl
end
def DelS (W0 w w':World) (M:Mo) (A:Option Addr) (cap:Nat) (lr l:List Pr) (n B G:Nat) (key:ByteArray) (a:Qa):Prop:=
 ∃ (M':Mo) (a':Qa) (D':Dt),S11 W0 w' M' A cap lr∧M'.m=M.m∧DeAt w' a' D'∧a'.f=a.f∧D'.mine=0∧decide (D'.W.found≠0)=(Pc.lk l key).isSome∧D'.W.nd.val=(Pc.lk l key).getD ⟨#[]⟩∧M'.ss.length=M.ss.length∧M'.k=M.k∧Still (memTypes++delTypes) w w'∧
   M'.ws.length=M.ws.length+(if (Pc.lk l key).isSome then 1 else 0)∧∃ cs',∀ l',Del l l' key→Mp (lm M') n B cs' l' G
theorem del_s {W0 w:World} {M:Mo} {A:Option Addr} {cap:Nat} {l lr:List Pr} {n B:Nat} {cs:Nat→List Mq.Hp} {G:Nat} (h:S11 W0 w M A cap lr) (hm:Mp (lm M) n B cs l G) (hG:G≤1000000) {a:Qa} {hh:Nat} {i:Int} {key:ByteArray} (hi:0≤i∧i≤1000) (hP:DeAt w a (newDel hh i key)) (hlow:∀ x,dfoot a (newDel hh i key) x→W0.heap.size≤x) (K:Nat) (hc:∀ b,b<n→(cs b).length+8≤K) (hK:K≤1000000):
 Calls Tryz.prog 9 #[ptr M.m,.iface 86 (ptr a.f),.int .i64 K] w fun e w'=>(∃ (k:Nat) (s:Lm×Dt),e=.returned (.tuple #[.int .i64 k,.bool true])∧fin (fun s:Lm×Dt=>dready s.1 s.2) (fun s=>dstep s.1 s.2) (fun s=>ddone s.1 s.2) K (lm M,newDel hh i key)=(k,true,s))∧DelS W0 w w' M A cap lr l n B G key a:=by
 have hE:=hm.eok (key:=key) (val:=⟨#[]⟩) (i:=i) (hb:=hh) hG hi
 have hcl:=hc (bkt key n) (bkt_lt hm.pw key).1
 refine (del_ends h.mem hP hE K ⟨by omega,hK⟩).mono fun e w' q=>?_
 obtain ⟨k,s,q1,⟨_,q2⟩,⟨W,hf,hz,rfl⟩,M',a',r1,r2,r3,r4,r5,r7,r8⟩:=q
 obtain ⟨m1,m2,m3,cs',m4⟩:=del_map hm hf
 have hd:lm M'=delL (lm M) (B+bkt key n) W:=r2
 refine ⟨⟨k,_,q1,q2⟩,M',a',_,h.moved r1 r3.foot r8 (fun x q=>?_) (fun x hx q=>?_),r3.m,r4,r5,rfl,fnd_lk hm hf,fnd_val hm hf hz,?_,?_,still_only r8 (fun x q=>?_),?_,cs',?_⟩
 · rcases q with q | q
   · exact h.lom x q
   · exact hlow x q
 · rcases q with q | q
   · exact h.ap_mem hx q
   · exact h.apart hx (by decide) (hP.ty q)
 · have e:M'.ss=(lm M').ss:=rfl
   rw [e,hd,m2]
 · have e:M'.k=(lm M').k:=rfl
   rw [e,hd,m3]
 · rcases q with q | q
   · exact (h.mem.ty q).mono (fun t ht=>List.mem_append_left _ ht)
   · exact (hP.ty q).mono (fun t ht=>List.mem_append_right _ ht)
 · have e:M'.ws=(lm M').ws:=rfl
   rw [e,hd,m1]
 · rw [hd]
   exact m4
def L0:Lm:=⟨[1,0,0,0],List.replicate 6 (-1),[.zero],false,1,[(1,3)],[]⟩
theorem five (h k:Nat) (s:Lm×Dt) (e:fin (fun s:Lm×Dt=>dready s.1 s.2) (fun s=>dstep s.1 s.2) (fun s=>ddone s.1 s.2) 50 (L0,newDel h 0 kA)=(k,true,s)):k=5:=by
 have:(fin (fun s:Lm×Dt=>dready s.1 s.2) (fun s=>dstep s.1 s.2) (fun s=>ddone s.1 s.2) 50 (L0,newDel h 0 kA)).1=5:=by kernel_rfl
 rw [e] at this
 exact this
set_option maxHeartbeats 2000000 in
theorem awake (w:World):Calls Tryz.prog 25 #[] w fun e w'=>e=.returned (.bool true)∧Below w.heap.size w w':=by
 have hN:=Lib.hid (made_yes 1 1 w (by omega) (by omega))
 have hA:=Lib.hid (fun w=>LawEl.awake w)
 have lA:kA.size≤maxLen:=by simp only [maxLen]; decide
 have hNd:=Lib.hid (fun w=>Dl.new_any 0 kA lA w)
 clear lA
 go_enter Tryz.func25,Tryz.ntmps25
 go_wp2_with fail
 refine hN.out.mono ?_
 rintro e w1 ⟨M,rfl,hMd⟩
 have hmp:=mp_made hMd (by omega) (by omega)
 obtain ⟨hM,hlo,hB,h1,h2,h3,h4,h5,h6,h7⟩:=hMd
 have hL:lm M=L0:=by
  unfold lm L0
  rw [h1,h2,h3,h4,h5,h6,h7]
  rfl
 have hS:S11 w w1 M none 0 []:=⟨hM,Row.nil _ _ _ _,hB,hlo,by simp [In]⟩
 have hw0:M.ws.length=0:=by rw [h7]; rfl
 replace hmp:=Lib.hid hmp
 replace hL:=Lib.hid hL
 replace hS:=Lib.hid hS
 replace hw0:=Lib.hid hw0
 clear hN hM hlo hB h1 h2 h3 h4 h5 h6 h7
 go_wp2_with fail
 refine (hNd.out _).mono ?_
 rintro e w2 ⟨a,hh,rfl,hD2,hl2,hB2⟩
 have hFn:=del_s (hS.out.down hB2) hmp.out (by omega) (i:=0) (by omega) hD2 (fun x hx=>Nat.le_trans hS.out.below.size (hl2 x hx)) 50 (fun b hb=>by simp) (by omega)
 have hF2:=hFn.mono fun e w' q=>show e=.returned (.tuple #[.int .i64 5,.bool true])∧DelS w w2 w' M none 0 [] [] 1 3 0 kA a from by
  obtain ⟨⟨k,s,q1,q2⟩,q3⟩:=q
  rw [hL.out] at q2
  have:=five _ _ _ q2
  subst this
  exact ⟨q1,q3⟩
 replace hF2:=Lib.hid hF2
 clear hFn hNd hD2 hl2 hB2 hL hmp hS
 go_wp2_with fail
 refine hF2.out.mono ?_
 rintro e w3 ⟨rfl,M',a',D',hS3,em,hD3,ea,hmi,hfd,hvl,hsl,hk,hst,hws,_⟩
 have hH:=Dl.had_any hD3
 rw [hfd,hvl,ea] at hH
 simp only [Pc.lk] at hH hws
 have hws3:M'.ws.length=0:=by rw [hws,hw0.out]; rfl
 replace hH:=Lib.hid hH
 have hW:=fun w4 (hb:Below w3.heap.size w3 w4)=>waiting_any (hS3.mem.below hb)
 rw [hws3,em] at hW
 replace hW:=Lib.hid hW
 have hB3:=Lib.hid hS3.below
 clear hF2 hS3 hD3 em ea hmi hfd hvl hsl hk hst hws hws3 hw0
 go_wp2_with fail
 refine hH.out.mono ?_
 rintro e w4 ⟨rfl,hB4⟩
 clear hH
 go_wp2_with fail
 refine (hA.out _).mono ?_
 rintro e w5 ⟨rfl,hB5⟩
 have hB35:=hB4.trans (hB5.mono hB4.size)
 have hW5:=Lib.hid (hW.out w5 hB35)
 have hB05:=Lib.hid (hB3.out.trans (hB35.mono hB3.out.size))
 clear hA hB4 hB5 hB35 hB3 hW
 go_wp2_with fail
 refine hW5.out.mono ?_
 rintro e w6 ⟨rfl,rfl⟩
 clear hW5
 go_wp2_with fail
 go_ret
 exact ⟨rfl,hB05.out⟩
end Go.Proofs.YtpobbnllcoabhaaGreatDoor.LawTw
namespace Go.Proofs.YtpobbnllcoabhaaGreatDoor.LawFn
open Go Go.RowKit Hp K Fl Rw Hm Ar Mm Me LK Qs Wk Re LawSix Pn Pc Mq Pu LawTen LawEl LawTw Dl
set_option maxRecDepth 100000
def Cz (L L':Lm):Prop:=L'.ds=L.ds∧L'.xs.length=L.xs.length∧Cl.nth L'.xs 0=Cl.nth L.xs 0
theorem set_0 {xs:List Int} {i:Nat} (v:Int) (hi:i≠0):Cl.nth (xs.set i v) 0=Cl.nth xs 0:=by
 by_cases hl:i<xs.length
 · rw [nth_set _ _ _ hl,if_neg (by omega)]
 · rw [List.set_eq_of_length_le (by omega)]
section
variable {W0 w w':World} {M:Mo} {A:Option Addr} {cap:Nat} {l:List Pr} {n B:Nat} {cs:Nat→List Mq.Hp} {G:Nat}
theorem cz_put {E:Ep} {s:Lm×Pt} (hc:E.c≠0) (h:Qp E s):Cz E.L s.1:=by
 cases h with
 | full W _ _=>exact ⟨rfl,rfl,rfl⟩
 | done W m _ _=>
   refine ⟨(putL_hs E W m).2.1,putL_xl E W m,?_⟩
   show Cl.nth (putL E W m).xs 0=_
   unfold putL
   split
   · rfl
   · exact set_0 _ hc
theorem cz_del {L:Lm} {c:Nat} {W:Wa} (hc:c≠0):Cz L (delL L c W):=by
 unfold delL
 split
 · exact ⟨rfl,rfl,rfl⟩
 split
 · exact ⟨rfl,rfl,rfl⟩
 · exact ⟨rfl,by simp,set_0 _ hc⟩
end
end Go.Proofs.YtpobbnllcoabhaaGreatDoor.LawFn
namespace Go.Proofs.YtpobbnllcoabhaaGreatDoor.Ca
open Go Go.RowKit Hp K Fl Rw Hm Ar Mm Me LK Qs Wk Pc Pn Mq Pu Zp Mx LawTh Bs Zr LawEl LawFn
theorem lone_start {L:Lm} {n B:Nat} {cs:Nat→List Mq.Hp} {l:List Pr} {G t s c x tt ca:Nat} {i:Int} (hm:Mp L n B cs l G) (hG:G≤1000000) (hl:l.length≤30) (hnum:Num1 L t) (ht:t≤200) (hs:FM.power (s:Int)=true) (hw:Ways l.length s n c x tt ca) (hc:c≤19900) (hx:x≤512) (htt:tt≤8) (hca:ca≤30*256) (hi:0≤i∧i≤1000):
 Lone L (allh n cs) ⟨10+512*(t+1),1+8*(t+1),1+20000*((t:Int)+1)⟩ s l (c+10) (L,newRz i s):=by
 obtain ⟨u1,u2,u3,u4⟩:=hnum
 have hrest:=rest_of hm hG u3 (by omega) (by omega) (cap:=1000) ⟨by omega,by omega⟩
 have hfl:=Zr.Mp.flat_len hm
 have hwa:Ways (rsOf n B 1000 cs).few s (rsOf n B 1000 cs).n c x tt ca:=by
  show Ways (flat n cs).length s n c x tt ca
  rw [hfl]
  exact hw
 have hnw:newRz i s=⟨i,s,1,0,.none⟩:=by unfold newRz; rw [if_pos hs]
 refine ⟨.rest (rsOf n B 1000 cs),fun _ _ _=>True,c+10,ca,Nat.le_refl _,hrest,⟨⟨by rw [hnw]; exact hi,by rw [hnw],by rw [hnw],Zr.Kp.refl _,by show L.hs.length=6; rw [hm.hs]; simp,fun j a b=>?_,?_,⟨by simp only; omega,by simp only; omega,by simp only; omega⟩,List.Perm.refl _⟩,.take (rsOf n B 1000 cs) c x tt ca (by rw [hnw]; exact ⟨Nat.le_refl _,by simp⟩) hwa (by rw [hnw]; simp only; omega) (Nat.le_refl _) (by show 1000+ca≤_; omega) (by simp only; omega) (by simp only; omega)⟩,hm.zero⟩
 · show Lo.hol L.hs j=hsF (newRz i s).nx (newRz i s).worker j
   rw [hnw,hm.hs]
   unfold hsF Lo.hol
   simp only [List.getD_eq_getElem?_getD,List.getElem?_replicate]
   rw [if_pos (by omega)]
   by_cases q:j=5
   · rw [if_pos q]; rfl
   · rw [if_neg q,if_neg (by omega)]; rfl
 · show Cl.nth L.xs 0+_≤1+20000*((t:Int)+1)
   omega
theorem lone_end {L L':Lm} {n B:Nat} {cs:Nat→List Mq.Hp} {l:List Pr} {G t s:Nat} {R:Rz} (hm:Mp L n B cs l G) (h:Qr L (allh n cs) ⟨10+512*(t+1),1+8*(t+1),1+20000*((t:Int)+1)⟩ s l L' R) (hz:∀ i:Nat,(i:Int)<L'.k→Cl.nth L'.xs (2+i)=0):
 R.err=0∧(∃ B' cs',Mp L' s B' cs' l G)∧L'.ss.length=L.ss.length∧L'.k=L.k∧L'.ws=L.ws∧Num1 L' (t+1):=by
 obtain ⟨Y,r1,r2,r3,r4,r5,r6,r7,r8,r9,r10⟩:=h
 have:=Zr.mp_of hm r1 r7 r6 hz r5 r4
 rw [r2] at this
 refine ⟨r3,⟨_,_,this⟩,r6.ss,r6.k,r6.ws,r9,r10,r1.base.p1,?_⟩
 have e:((t+1:Nat):Int)=(t:Int)+1:=by omega
 rw [e]
 exact r8
theorem refuse_start {L:Lm} {n B:Nat} {cs:Nat→List Mq.Hp} {l:List Pr} {G:Nat} {i z:Int} (hm:Mp L n B cs l G) (hz:FM.power z=false) (k:Nat) (s:Lm×Rz) (hs:k=1∧s=(L,newRz i z)):
 Okrz s.1 s.2∧rready s.1 s.2=true∧1≤k∧(rdone s.1 s.2=true→rstep s.1 s.2=(L,{newRz i z with err:=5,nx:=12}))∧(rdone s.1 s.2=false→k-1=1∧rstep s.1 s.2=(L,newRz i z)):=by
 obtain ⟨rfl,rfl⟩:=hs
 have hnw:newRz i z=⟨i,z,0,0,.none⟩:=by unfold newRz; rw [if_neg (by rw [hz]; simp)]
 have hkB:=hm.kB
 have hk:=hm.k
 have hxl:=hm.xl
 have hhs:=hm.hs
 have hok:Okrz L (newRz i z):=⟨by rw [hnw]; simp,by omega,by rw [hhs]; simp,fun q=>absurd (by rw [hnw]) q,fun j=>(hm.tb j).1,fun q=>by rw [hnw] at q; simp at q,fun q=>by rw [hnw] at q; simp at q,fun q=>by rw [hnw] at q; simp at q⟩
 have hst:rstep L (newRz i z)=(L,{newRz i z with err:=5,nx:=12}):=by unfold rstep; rw [if_pos (by rw [hnw])]
 have hrd:rready L (newRz i z)=true:=by unfold rready; rw [hnw]; simp
 have hdn:rdone L (newRz i z)=true:=by unfold rdone; rw [hnw]; simp
 exact ⟨hok,hrd,Nat.le_refl _,fun _=>hst,fun q=>by rw [hdn] at q; simp at q⟩
theorem fnd_val {L:Lm} {n B:Nat} {cs:Nat→List Mq.Hp} {l:List Pr} {G:Nat} {key val:ByteArray} {i:Int} {hb:Nat} (h:Mp L n B cs l G) {W:Wa} (hf:Fnd (Mp.ep L n B cs key val i hb) W) (hz:W.found=0→W.nd=.zero):W.nd.val=(Pc.lk l key).getD ⟨#[]⟩:=by
 rw [h.lk]
 rcases hf with ⟨h0,hk,_⟩ | ⟨pre,x,p,t,z,k,hq,hp,hx,hk,hnd,hW,hc,hpv⟩
 · have:Pc.lk (prs (cs (bkt key n))) key=none:=lk_none.2 (by simpa using hk)
   rw [this,hz h0]
   rfl
 · have hm:p∈prs (cs (bkt key n)):=by
    have hq:cs (bkt key n)=_:=hq
    rw [hq]
    simp
   have hp:p.1=key:=hp
   have hn:((prs (cs (bkt key n))).map (·.1)).Nodup:=by
    rw [kys_prs]
    exact h.kd _ (bkt_lt h.pw key).1
   have:=lk_mem hn hm
   rw [hp] at this
   rw [this,hW]
   rfl
theorem num_cz {L L':Lm} {t:Nat} (h:Num1 L t) (hc:Cz L L'):Num1 L' (t+1):=by
 obtain ⟨u1,u2,u3,u4⟩:=h
 obtain ⟨c1,c2,c3⟩:=hc
 exact ⟨by rw [c2]; omega,by rw [c1]; omega,by rw [c3]; exact u3,by rw [c3]; omega⟩
end Go.Proofs.YtpobbnllcoabhaaGreatDoor.Ca
namespace Go.Proofs.YtpobbnllcoabhaaGreatDoor.Ca
open Go Go.RowKit Hp K Fl Rw Hm Ar Mm Me Wk Pc
set_option maxRecDepth 100000
def ctv (c:Ct):Value:=.agg #[.int .i64 c.kind,.string c.key,.string c.val,.int .i64 c.size]
def anv (x:Int×Bool×ByteArray):Value:=.agg #[.int .i64 x.1,.bool x.2.1,.string x.2.2]
theorem below_1 (w:World) (o:Obj):Below w.heap.size w (w.alloc o):=(Below.refl _ _).alloc (Nat.le_refl _) _
def wrd (k:Int):ByteArray:=if k<0∨3<k then ⟨#[110,111,110,101]⟩ else if k=0 then ⟨#[103,101,116]⟩ else if k=1 then ⟨#[112,117,116]⟩ else if k=2 then ⟨#[100,101,108,101,116,101]⟩ else ⟨#[114,101,115,105,122,101]⟩
set_option maxHeartbeats 1000000 in
theorem word_any (k:Int) (w:World):Calls Tryz.prog 6 #[.int .i64 k] w fun e w'=>e=.returned (.string (wrd k))∧Below w.heap.size w w':=by
 unfold wrd
 by_cases h1:k<0
 · rw [if_pos (.inl h1)]
   go_enter Tryz.func6,Tryz.ntmps6
   go_wp2_with fail
   go_ret
   exact ⟨rfl,Below.refl _ _⟩
 by_cases h2:3<k
 · rw [if_pos (.inr h2)]
   go_enter Tryz.func6,Tryz.ntmps6
   go_wp2_with fail
   go_ret
   exact ⟨rfl,Below.refl _ _⟩
 rw [if_neg (by omega)]
 have hk:k=0∨k=1∨k=2∨k=3:=by omega
 rcases hk with rfl | rfl | rfl | rfl
 all_goals
  go_enter Tryz.func6,Tryz.ntmps6
  go_wp2_with fail
  go_ret
  exact ⟨rfl,below_1 _ _⟩
end Go.Proofs.YtpobbnllcoabhaaGreatDoor.Ca
namespace Go.Proofs.YtpobbnllcoabhaaGreatDoor.Ca
open Go Go.RowKit Hp K Fl Rw Hm Ar Mm Me LK Qs Wk Pc Pn Mq Pu Zp Mx LawTh Bs Zr
set_option maxRecDepth 100000
structure Cp where
 f:Nat
 tv:Value
 ga:Gt.Ga
 qa:Pu.Qa
 ra:Zr.Ra
def ccs (tv:Value) (d:Bool):Array Value:=#[tv,.bool d]
abbrev rfv (e:Int):Value:=.agg #[.int .i64 e]
def Inn (w:World) (a:Cp) (e:Int):Fr→Prop
 | .ref=>a.tv=.iface 81 (rfv e)
 | .get G=>a.tv=.iface 82 (ptr a.ga.f)∧Gt.GeAt w a.ga G
 | .put P=>a.tv=.iface 84 (ptr a.qa.f)∧Pu.PuAt w a.qa P
 | .del D=>a.tv=.iface 86 (ptr a.qa.f)∧Dl.DeAt w a.qa D
 | .rz R=>a.tv=.iface 72 (ptr a.ra.f)∧Zr.RzAt w a.ra R
def ifoot (a:Cp) (F:Fr) (x:Nat):Prop:=match F with
 | .ref=>False
 | .get _=>Gt.gfoot a.ga x
 | .put P=>Pu.pfoot a.qa P x
 | .del D=>Dl.dfoot a.qa D x
 | .rz R=>Zr.rfoot a.ra R x
structure ClAt (w:World) (a:Cp) (C:Cl):Prop where
 blk:Blk w a.f 56 (ccs a.tv C.done)
 inn:Inn w a C.err C.fr
 er0:C.fr≠.ref→C.err=0
def cfoot (a:Cp) (C:Cl) (x:Nat):Prop:=x=a.f∨ifoot a C.fr x
abbrev clL:Lay Cp Cl:=⟨Cp.f,ClAt,cfoot⟩
abbrev frTypes:List TypeId:=[130,156,158,166,134,163,181,137,
 109,149,219,227,217,189,154]
section
variable {w w':World} {M:Mo} {a:Cp} {C:Cl} {F:Fr} {tv:Value} {e:Int} {d:Bool} {f:Nat}
theorem rz_ty {a:Zr.Ra} {R:Rz} (h:RzAt w a R) {x:Nat} (hx:Zr.rfoot a R x):Ty w x frTypes∨(∃ ms,Gw.Mth w x ms)∨∃ ms,Me.Met w x ms:=by
 rcases hx with rfl | ⟨G,q1,q2,q3⟩ | ⟨G,q1,q2,q3⟩
 · exact .inl ((blk_ty h.blk).mono (by decide))
 · rcases (h.gro G q1 q2).2.ty q3 with q | q
   · exact .inl (q.mono (by decide))
   · exact .inr (.inl q)
 · rcases (h.shr G q1 q2).2.ty q3 with q | q
   · exact .inl (q.mono (by decide))
   · exact .inr (.inr q)
theorem inn_ty (h:Inn w a e F) {x:Nat} (hx:ifoot a F x):Ty w x frTypes∨(∃ ms,Gw.Mth w x ms)∨∃ ms,Me.Met w x ms:=by
 cases F with
 | ref=>exact absurd hx (fun q=>q)
 | get G=>exact .inl ((h.2.ty hx).mono (by decide))
 | put P=>exact .inl ((h.2.ty hx).mono (by decide))
 | del D=>exact .inl ((h.2.ty hx).mono (by decide))
 | rz R=>exact rz_ty h.2 hx
theorem inn_no (h:Inn w a e F) {x:Nat} (hx:ifoot a F x) {ts:List TypeId} (ht:Ty w x ts) (hd:∀ t∈ts,t∉frTypes):False:=by
 rcases inn_ty h hx with q | ⟨_,q⟩ | ⟨_,q⟩
 · exact ht.apart q hd
 · exact q.no ht
 · exact q.no ht
theorem inn_only {S:Nat→Prop} (h:Inn w a e F) (ho:Only S w w') (hn:∀ x,ifoot a F x→¬S x):Inn w' a e F:=by
 cases F with
 | ref=>exact h
 | get G=>exact ⟨h.1,h.2.only ho hn⟩
 | put P=>exact ⟨h.1,h.2.only ho hn⟩
 | del D=>exact ⟨h.1,h.2.only ho hn⟩
 | rz R=>exact ⟨h.1,rz_only h.2 ho hn⟩
theorem inn_self (hb:Blk w f 56 (ccs tv d)) (h:Inn w a e F) {x:Nat} (hx:ifoot a F x):x≠f:=by
 rintro rfl
 exact inn_no h hx (blk_ty hb) (by decide)
theorem cl_only {S:Nat→Prop} (h:clL.At w a C) (ho:Only S w w') (hn:∀ x,clL.foot a C x→¬S x):clL.At w' a C:=
 ⟨h.blk.only ho (hn _ (.inl rfl)),inn_only h.inn ho (fun x hx=>hn x (.inr hx)),h.er0⟩
theorem cl_below (h:clL.At w a C) (hb:Below w.heap.size w w'):clL.At w' a C:=cl_only h (Only.ofBelow hb (fun _=>False)) (by simp)
theorem cl_far {x:Nat} (h:clL.At w a C) (hM:MemAt w M) (hx:clL.foot a C x):¬mfoot M x:=fun hm=>by
 rcases hx with rfl | hx
 · exact (hM.ty hm).apart (blk_ty h.blk) (by decide)
 · exact inn_no h.inn hx (hM.ty hm) (by decide)
theorem cl_row {x:Nat} (h:clL.At w a C) (hx:clL.foot a C x):¬Ty w x [1000000]:=fun q=>by
 rcases hx with rfl | hx
 · exact q.apart (blk_ty h.blk) (by decide)
 · exact inn_no h.inn hx q (by decide)
theorem cb_cells (hb:Blk w f 56 (ccs tv d)):w.cell? ⟨f,0,none⟩=some tv∧w.cell? ⟨f,1,none⟩=some (.bool d):=⟨hb.cell 0,hb.cell 1⟩
theorem ready_in {T:TypeId} {fr:Nat} {v m:Value} {c:Bool} (hb:Blk w f 56 (ccs (.iface T v) d)) (mr:∀ (w:World) (f:Nat),(method (f+1) T v "Ready").run Tryz.prog w=.ok (fr,v) w)
 (er:∀ args w,(callFunc fr args).run Tryz.prog w=.ok (.enter fr args) w) (hF:Calls Tryz.prog fr #[v,m] w fun e w'=>e=.returned (.bool c)∧Below w.heap.size w w'):Calls Tryz.prog 229 #[ptr f,m] w fun e w'=>e=.returned (.bool c)∧Below w.heap.size w w':=by
 have c0:=(cb_cells hb).1
 replace hF:=Lib.hid hF
 clear hb
 go_enter Tryz.func229,Tryz.ntmps229
 go_wp2_with fail
 refine hF.out.mono ?_
 rintro e w' ⟨rfl,hb⟩
 replace hb:=Lib.hid hb
 clear c0
 go_wp2_with fail
 go_ret
 exact ⟨rfl,hb.out⟩
theorem step_in {T:TypeId} {fs:Nat} {v m:Value} {c:Bool} {P:World→Prop} (hb:Blk w f 56 (ccs (.iface T v) d)) (ms:∀ (w:World) (f:Nat),(method (f+1) T v "Step").run Tryz.prog w=.ok (fs,v) w)
 (es:∀ args w,(callFunc fs args).run Tryz.prog w=.ok (.enter fs args) w) (hF:Calls Tryz.prog fs #[v,m] w fun e' w'=>e'=.returned (.bool c)∧Blk w' f 56 (ccs (.iface T v) d)∧P w'):
 Calls Tryz.prog 230 #[ptr f,m] w fun e' w'=>e'=.returned (.bool c)∧∃ w1,P w1∧w'=w1.setCell ⟨f,1,none⟩ (.bool c)∧Blk w1 f 56 (ccs (.iface T v) d):=by
 have c0:=(cb_cells hb).1
 replace hF:=Lib.hid hF
 clear hb
 go_enter Tryz.func230,Tryz.ntmps230
 go_wp2_with fail
 refine hF.out.mono ?_
 rintro e w1 ⟨rfl,hb,hP⟩
 have c2:=(cb_cells hb).2
 have z2:=hb.frozen 1
 have hE:Hid (∃ w0,P w0∧w1.setCell ⟨f,1,none⟩ (.bool c)=w0.setCell ⟨f,1,none⟩ (.bool c)∧Blk w0 f 56 (ccs (.iface T v) _)):=Lib.hid ⟨w1,hP,rfl,hb⟩
 clear c0 hF hb hP
 go_wp2_with fail
 go_ret
 exact ⟨rfl,hE.out⟩
theorem mr_ref (e:Int) (w:World) (f:Nat):(method (f+1) 81 (rfv e) "Ready").run Tryz.prog w=.ok (235,rfv e) w:=by kernel_rfl
theorem ms_ref (e:Int) (w:World) (f:Nat):(method (f+1) 81 (rfv e) "Step").run Tryz.prog w=.ok (236,rfv e) w:=by kernel_rfl
theorem er_ref (args:Array Value) (w:World):(callFunc 235 args).run Tryz.prog w=.ok (.enter 235 args) w:=by kernel_rfl
theorem es_ref (args:Array Value) (w:World):(callFunc 236 args).run Tryz.prog w=.ok (.enter 236 args) w:=by kernel_rfl
theorem ready_ref (e:Int) (m:Value) (w:World):Calls Tryz.prog 235 #[rfv e,m] w fun e w'=>e=.returned (.bool true)∧Below w.heap.size w w':=by
 have hB:=Lib.hid (below_1 w (.cells #[.int .i64 e] 81))
 go_enter Tryz.func235,Tryz.ntmps235
 go_wp2_with fail
 go_ret
 exact ⟨rfl,hB.out⟩
theorem step_ref (e:Int) (m:Value) (w:World):Calls Tryz.prog 236 #[rfv e,m] w fun e w'=>e=.returned (.bool true)∧Below w.heap.size w w':=by
 have hB:=Lib.hid (below_1 w (.cells #[.int .i64 e] 81))
 go_enter Tryz.func236,Tryz.ntmps236
 go_wp2_with fail
 go_ret
 exact ⟨rfl,hB.out⟩
end
end Go.Proofs.YtpobbnllcoabhaaGreatDoor.Ca
namespace Go.Proofs.YtpobbnllcoabhaaGreatDoor.Ca
open Go Go.RowKit Hp K Fl Rw Hm Ar Mm Me LK Qs Wk Pc Pn Mq Pu Zp Mx LawTh Bs Zr
set_option maxRecDepth 100000
section
variable {w w':World} {M:Mo} {a:Cp} {C:Cl}
theorem cl_ready (hM:MemAt w M) (h:clL.At w a C) (ok:Okc (lm M) C):Calls Tryz.prog 229 #[ptr a.f,ptr M.m] w fun e w'=>e=.returned (.bool (clrd (lm M) C))∧Below w.heap.size w w':=by
 obtain ⟨hb,hI,hE0⟩:=h
 obtain ⟨F,er,d⟩:=C
 cases F with
 | ref=>
   rw [show a.tv=.iface 81 (rfv er) from hI] at hb
   exact ready_in hb (mr_ref er) er_ref (ready_ref er _ w)
 | get G=>
   rw [show a.tv=.iface 82 (ptr a.ga.f) from hI.1] at hb
   exact ready_in hb (Gt.get_frm.mr _) Gt.get_frm.er (Gt.get_frm.ready hM hI.2 ok)
 | put P=>
   rw [show a.tv=.iface 84 (ptr a.qa.f) from hI.1] at hb
   exact ready_in hb (Pu.put_frm.mr _) Pu.put_frm.er (Pu.put_frm.ready hM hI.2 ok)
 | del D=>
   rw [show a.tv=.iface 86 (ptr a.qa.f) from hI.1] at hb
   exact ready_in hb (Dl.del_frm.mr _) Dl.del_frm.er (Dl.del_frm.ready hM hI.2 ok)
 | rz R=>
   rw [show a.tv=.iface 72 (ptr a.ra.f) from hI.1] at hb
   exact ready_in hb (Zr.rz_frm.mr _) Zr.rz_frm.er (Zr.rz_frm.ready hM hI.2 ok)
theorem stp_in {A P:Type} {X:Lay A P} {b:A} {p p':P} {L':Lm} {F:Fr} {tv:Value} {f:Nat} {er:Int} {d c:Bool} {w1:World} (hs:X.Stp w M b p L' p' w1)
 (hfoot:∀ b',X.f b'=X.f b→X.At w1 b' p'→∃ a':Cp,a'.f=f∧a'.tv=tv∧Inn w1 a' er F∧∀ x,ifoot a' F x→X.foot b' p' x) (h1:Blk w1 f 56 (ccs tv d)) (hp:∀ x,X.foot b p x→cfoot a C x) (ea:a.f=f) (her:F≠.ref→er=0):
 clL.Stp w M a C L' ⟨F,er,c⟩ (w1.setCell ⟨f,1,none⟩ (.bool c)):=by
 obtain ⟨M',b',r1,r2,r3,r4,r5,r6,r7⟩:=hs
 obtain ⟨a',s1,s2,s3,s4⟩:=hfoot b' r5 r4
 have hO:=(Only.refl (·=f) w1).setCell (p:=⟨f,1,none⟩) (.inl rfl) (.bool c)
 have hfm:¬mfoot M' f:=fun hm=>(r1.ty hm).apart (blk_ty h1) (by decide)
 refine ⟨M',a',r1.only hO (fun x hx q=>hfm (q▸hx)),r2,r3,⟨?_,?_,her⟩,s1.trans ea.symm,?_,?_⟩
 · have:=h1.store 1 (.bool c)
   rw [← s1] at this ⊢
   rw [s2]
   exact this
 · exact inn_only s3 hO (fun x hx q=>inn_self h1 s3 hx q)
 · intro x hx
   rcases hx with q | q
   · exact .inl (.inl (q.trans (s1.trans ea.symm)))
   · exact (r6 x (s4 x q)).imp (hp x) id
 · exact (r7.mono (fun x _ q=>q.imp id (hp x))).trans (hO.mono (fun x _ q=>.inr (.inl (q.trans ea.symm))))
theorem blk_kept {A P:Type} {X:Lay A P} {b:A} {p p':P} {L':Lm} {w1:World} (hM:MemAt w M) (h:ClAt w a C) (hs:X.Stp w M b p L' p' w1) (hp:∀ x,X.foot b p x→ifoot a C.fr x):Blk w1 a.f 56 (ccs a.tv C.done):=by
 obtain ⟨M',b',r1,r2,r3,r4,r5,r6,r7⟩:=hs
 refine h.blk.only r7 (fun q=>?_)
 rcases q with q | q
 · exact cl_far h hM (.inl rfl) q
 · exact inn_self h.blk h.inn (hp _ q) rfl
theorem cl_step (hM:MemAt w M) (h:clL.At w a C) (ok:Okc (lm M) C) (hr:clrd (lm M) C=true):Calls Tryz.prog 230 #[ptr a.f,ptr M.m] w fun e w'=>e=.returned (.bool (cldn (lm M) C))∧clL.Stp w M a C (clst (lm M) C).1 (clst (lm M) C).2 w':=by
 have h0:=h
 obtain ⟨hb,hI,hE0⟩:=h
 obtain ⟨F,er,d⟩:=C
 cases F with
 | ref=>
   have hb1:=hb
   rw [show a.tv=.iface 81 (rfv er) from hI] at hb1
   refine (step_in (P:=fun w1=>Below w.heap.size w w1) hb1 (ms_ref er) es_ref ((step_ref er _ w).mono fun e w1 q=>⟨q.1,hb1.only (Only.ofBelow q.2 (fun _=>False)) (by simp),q.2⟩)).mono fun e w' q=>⟨q.1,?_⟩
   obtain ⟨w1,q1,q2,q3⟩:=q.2
   rw [q2]
   have hO:=(Only.ofBelow q1 (·=a.f)).setCell (p:=⟨a.f,1,none⟩) (.inl rfl) (.bool true)
   refine ⟨M,a,hM.only hO (fun x hx q=>cl_far h0 hM (.inl rfl) (q▸hx)),rfl,Kin.refl _ _,⟨?_,hI,fun q=>absurd rfl q⟩,rfl,fun x q=>.inl q,hO.mono (fun x _ q=>.inr (.inl q))⟩
   have:=q3.store 1 (.bool true)
   rw [show a.tv=.iface 81 (rfv er) from hI]
   exact this
 | get G=>
   have ht:a.tv=.iface 82 (ptr a.ga.f):=hI.1
   have hs:=Gt.get_frm.step hM hI.2 ok hr
   have hb':=hb
   rw [ht] at hb'
   refine (step_in hb' (Gt.get_frm.ms _) Gt.get_frm.es (hs.mono fun e w1 q=>⟨q.1,by have:=blk_kept hM h0 q.2 (fun x hx=>hx); rw [ht] at this; exact this,q.2⟩)).mono fun e w' q=>⟨q.1,?_⟩
   obtain ⟨w1,q1,q2,q3⟩:=q.2
   rw [q2]
   refine stp_in (tv:=a.tv) (er:=er) (d:=d) q1 (fun b' r1 r2=>⟨{a with ga:=b'},rfl,rfl,⟨by show a.tv=.iface _ (ptr b'.f); rw [ht,show b'.f=a.ga.f from r1],r2⟩,fun x hx=>hx⟩) (by rw [ht]; exact q3) (fun x hx=>.inr hx) rfl (fun _=>hE0 (by simp))
 | put P=>
   have ht:a.tv=.iface 84 (ptr a.qa.f):=hI.1
   have hs:=Pu.put_frm.step hM hI.2 ok hr
   have hb':=hb
   rw [ht] at hb'
   refine (step_in hb' (Pu.put_frm.ms _) Pu.put_frm.es (hs.mono fun e w1 q=>⟨q.1,by have:=blk_kept hM h0 q.2 (fun x hx=>hx); rw [ht] at this; exact this,q.2⟩)).mono fun e w' q=>⟨q.1,?_⟩
   obtain ⟨w1,q1,q2,q3⟩:=q.2
   rw [q2]
   refine stp_in (tv:=a.tv) (er:=er) (d:=d) q1 (fun b' r1 r2=>⟨{a with qa:=b'},rfl,rfl,⟨by show a.tv=.iface _ (ptr b'.f); rw [ht,show b'.f=a.qa.f from r1],r2⟩,fun x hx=>hx⟩) (by rw [ht]; exact q3) (fun x hx=>.inr hx) rfl (fun _=>hE0 (by simp))
 | del D=>
   have ht:a.tv=.iface 86 (ptr a.qa.f):=hI.1
   have hs:=Dl.del_frm.step hM hI.2 ok hr
   have hb':=hb
   rw [ht] at hb'
   refine (step_in hb' (Dl.del_frm.ms _) Dl.del_frm.es (hs.mono fun e w1 q=>⟨q.1,by have:=blk_kept hM h0 q.2 (fun x hx=>hx); rw [ht] at this; exact this,q.2⟩)).mono fun e w' q=>⟨q.1,?_⟩
   obtain ⟨w1,q1,q2,q3⟩:=q.2
   rw [q2]
   refine stp_in (tv:=a.tv) (er:=er) (d:=d) q1 (fun b' r1 r2=>⟨{a with qa:=b'},rfl,rfl,⟨by show a.tv=.iface _ (ptr b'.f); rw [ht,show b'.f=a.qa.f from r1],r2⟩,fun x hx=>hx⟩) (by rw [ht]; exact q3) (fun x hx=>.inr hx) rfl (fun _=>hE0 (by simp))
 | rz R=>
   have ht:a.tv=.iface 72 (ptr a.ra.f):=hI.1
   have hs:=Zr.rz_frm.step hM hI.2 ok hr
   have hb':=hb
   rw [ht] at hb'
   refine (step_in hb' (Zr.rz_frm.ms _) Zr.rz_frm.es (hs.mono fun e w1 q=>⟨q.1,by have:=blk_kept hM h0 q.2 (fun x hx=>hx); rw [ht] at this; exact this,q.2⟩)).mono fun e w' q=>⟨q.1,?_⟩
   obtain ⟨w1,q1,q2,q3⟩:=q.2
   rw [q2]
   refine stp_in (tv:=a.tv) (er:=er) (d:=d) q1 (fun b' r1 r2=>⟨{a with ra:=b'},rfl,rfl,⟨by show a.tv=.iface _ (ptr b'.f); rw [ht,show b'.f=a.ra.f from r1],r2⟩,fun x hx=>hx⟩) (by rw [ht]; exact q3) (fun x hx=>.inr hx) rfl (fun _=>hE0 (by simp))
end
theorem cl_frm:Frm clL 28 229 230 Okc clrd clst cldn where
 below h hb:=cl_below h hb
 mr b w f:=by kernel_rfl
 ms b w f:=by kernel_rfl
 er args w:=by kernel_rfl
 es args w:=by kernel_rfl
 ready hM h ok:=cl_ready hM h ok
 step hM h ok hr:=cl_step hM h ok hr
end Go.Proofs.YtpobbnllcoabhaaGreatDoor.Ca
namespace Go.Proofs.YtpobbnllcoabhaaGreatDoor.Ca
open Go Go.RowKit Hp K Fl Rw Hm Ar Mm Me LK Qs Wk Pc Pn Mq Pu Zp Mx LawTh Bs Zr
set_option maxRecDepth 100000
theorem known_any (k:Int) (w:World):Calls Tryz.prog 12 #[.int .i64 k] w fun e w'=>e=.returned (.bool (decide (0≤k∧k≤3)))∧w'=w:=by
 by_cases h1:0≤k
 · by_cases h2:k<4
   · rw [decide_eq_true ⟨h1,by omega⟩]
     go_enter Tryz.func12,Tryz.ntmps12
     go_wp2_with fail
     go_ret
     exact ⟨rfl,rfl⟩
   · rw [decide_eq_false (fun q=>h2 (by omega))]
     go_enter Tryz.func12,Tryz.ntmps12
     go_wp2_with fail
     go_ret
     exact ⟨rfl,rfl⟩
 · rw [decide_eq_false (fun q=>h1 q.1)]
   go_enter Tryz.func12,Tryz.ntmps12
   go_wp2_with fail
   go_ret
   exact ⟨rfl,rfl⟩
theorem iskey_any (key:ByteArray) (w:World):Calls Tryz.prog 56 #[.string key] w fun e w'=>e=.returned (.bool (decide (1≤key.size∧key.size≤32)))∧w'=w:=by
 by_cases h1:key=⟨#[]⟩
 · subst h1
   rw [decide_eq_false (by decide)]
   go_enter Tryz.func56,Tryz.ntmps56
   go_wp2_with fail
   go_ret
   exact ⟨rfl,rfl⟩
 · have hb0:=bytes_ne h1
   have hb:key.toList.isEmpty=false:=by
    cases hq:key.toList with
    | nil=>rw [hq] at hb0; simp [ByteArray.toList_eq] at hb0
    | cons x r=>rfl
   clear hb0
   have hs:1≤key.size:=by
    rcases Nat.eq_zero_or_pos key.size with q | q
    · exact absurd (ByteArray.ext (Array.eq_empty_of_size_eq_zero q)) h1
    · exact q
   generalize hks:key.size=ks at*
   have hks':(key.size:Int)=(ks:Int):=by rw [hks]
   clear h1
   by_cases h2:(ks:Int)≤32
   · rw [decide_eq_true ⟨hs,by omega⟩]
     clear hks hs
     go_enter Tryz.func56,Tryz.ntmps56
     go_wp2_with fail
     go_ret
     exact ⟨rfl,rfl⟩
   · rw [decide_eq_false (fun q=>h2 (by omega))]
     clear hks hs
     go_enter Tryz.func56,Tryz.ntmps56
     go_wp2_with fail
     go_ret
     exact ⟨rfl,rfl⟩
theorem isval_any (val:ByteArray) (w:World):Calls Tryz.prog 57 #[.string val] w fun e w'=>e=.returned (.bool (decide (val.size≤32)))∧w'=w:=by
 generalize hks:val.size=ks at*
 have hks':(val.size:Int)=(ks:Int):=by rw [hks]
 by_cases h2:(ks:Int)≤32
 · rw [decide_eq_true (by omega)]
   clear hks
   go_enter Tryz.func57,Tryz.ntmps57
   go_wp2_with fail
   go_ret
   exact ⟨rfl,rfl⟩
 · rw [decide_eq_false (by omega)]
   clear hks
   go_enter Tryz.func57,Tryz.ntmps57
   go_wp2_with fail
   go_ret
   exact ⟨rfl,rfl⟩
set_option maxHeartbeats 1000000 in
theorem check_any (c:Ct) (w:World):Calls Tryz.prog 31 #[ctv c] w fun e w'=>e=.returned (.int .i64 (chk c))∧Below w.heap.size w w':=by
 obtain ⟨k,key,val,z⟩:=c
 unfold ctv chk
 simp only
 have hB:=Lib.hid (below_1 w (.cells #[.int .i64 k,.string key,.string val,.int .i64 z] 31))
 have hK:=fun w=>known_any k w
 have hI:=fun w=>iskey_any key w
 have hV:=fun w=>isval_any val w
 generalize key.size=ks at*
 generalize val.size=vs at*
 by_cases h1:0≤k∧k≤3
 case neg=>
  rw [if_pos (by omega)]
  simp only [decide_eq_false h1] at hK
  replace hK:=Lib.hid hK
  replace hI:=Lib.hid hI
  replace hV:=Lib.hid hV
  go_enter Tryz.func31,Tryz.ntmps31
  go_wp2_with (first | (go_at_call 12; refine (hK.out _).mono ?_; rintro e w' ⟨rfl,rfl⟩) | (go_at_call 56; refine (hI.out _).mono ?_; rintro e w' ⟨rfl,rfl⟩) | (go_at_call 57; refine (hV.out _).mono ?_; rintro e w' ⟨rfl,rfl⟩))
  go_ret
  exact ⟨rfl,hB.out⟩
 simp only [decide_eq_true h1] at hK
 replace hK:=Lib.hid hK
 rw [if_neg (by omega)]
 by_cases h3:k=3
 · rw [if_neg (by omega)]
   subst h3
   replace hI:=Lib.hid hI
   replace hV:=Lib.hid hV
   clear h1
   go_enter Tryz.func31,Tryz.ntmps31
   go_wp2_with (first | (go_at_call 12; refine (hK.out _).mono ?_; rintro e w' ⟨rfl,rfl⟩) | (go_at_call 56; refine (hI.out _).mono ?_; rintro e w' ⟨rfl,rfl⟩) | (go_at_call 57; refine (hV.out _).mono ?_; rintro e w' ⟨rfl,rfl⟩))
   go_ret
   exact ⟨rfl,hB.out⟩
 have h3':k<3:=by omega
 clear h1
 by_cases h4:1≤ks∧ks≤32
 case neg=>
  rw [if_pos ⟨h3',by omega⟩]
  simp only [decide_eq_false h4] at hI
  replace hI:=Lib.hid hI
  replace hV:=Lib.hid hV
  clear h3' h4
  go_enter Tryz.func31,Tryz.ntmps31
  go_wp2_with (first | (go_at_call 12; refine (hK.out _).mono ?_; rintro e w' ⟨rfl,rfl⟩) | (go_at_call 56; refine (hI.out _).mono ?_; rintro e w' ⟨rfl,rfl⟩) | (go_at_call 57; refine (hV.out _).mono ?_; rintro e w' ⟨rfl,rfl⟩))
  go_ret
  exact ⟨rfl,hB.out⟩
 simp only [decide_eq_true h4] at hI
 replace hI:=Lib.hid hI
 by_cases h6:k=1
 · subst h6
   by_cases h7:vs≤32
   · rw [if_neg (by omega)]
     simp only [decide_eq_true h7] at hV
     replace hV:=Lib.hid hV
     clear h3' h3 h4 h7
     go_enter Tryz.func31,Tryz.ntmps31
     go_wp2_with (first | (go_at_call 12; refine (hK.out _).mono ?_; rintro e w' ⟨rfl,rfl⟩) | (go_at_call 56; refine (hI.out _).mono ?_; rintro e w' ⟨rfl,rfl⟩) | (go_at_call 57; refine (hV.out _).mono ?_; rintro e w' ⟨rfl,rfl⟩))
     go_ret
     exact ⟨rfl,hB.out⟩
   · rw [if_pos ⟨h3',.inr (.inr ⟨rfl,by omega⟩)⟩]
     simp only [decide_eq_false h7] at hV
     replace hV:=Lib.hid hV
     clear h3' h3 h4 h7
     go_enter Tryz.func31,Tryz.ntmps31
     go_wp2_with (first | (go_at_call 12; refine (hK.out _).mono ?_; rintro e w' ⟨rfl,rfl⟩) | (go_at_call 56; refine (hI.out _).mono ?_; rintro e w' ⟨rfl,rfl⟩) | (go_at_call 57; refine (hV.out _).mono ?_; rintro e w' ⟨rfl,rfl⟩))
     go_ret
     exact ⟨rfl,hB.out⟩
 · rw [if_neg (by omega)]
   replace hV:=Lib.hid hV
   clear h3' h4
   go_enter Tryz.func31,Tryz.ntmps31
   go_wp2_with (first | (go_at_call 12; refine (hK.out _).mono ?_; rintro e w' ⟨rfl,rfl⟩) | (go_at_call 56; refine (hI.out _).mono ?_; rintro e w' ⟨rfl,rfl⟩) | (go_at_call 57; refine (hV.out _).mono ?_; rintro e w' ⟨rfl,rfl⟩))
   go_ret
   exact ⟨rfl,hB.out⟩
section
variable {w w' w3 w4:World} {a:Cp} {C:Cl} {F:Fr} {f:Nat} {e:Int}
abbrev noGa:Gt.Ga:=⟨0,0,0,0⟩
abbrev noQa:Pu.Qa:=⟨0,0,0⟩
abbrev noRa:Zr.Ra:=⟨0,.nilIface,⟨0,.nilIface,.nilIface,0,0,none,0,0,none,0,[],none,0,[]⟩,⟨0,.nilIface,0,0⟩⟩
theorem chk_key {c:Ct} (h:chk c=0):0≤c.kind∧c.kind≤3:=by
 unfold chk at h
 by_cases q:c.kind<0∨3<c.kind
 · rw [if_pos q] at h; simp at h
 · omega
theorem inn_f {f:Nat} (h:Inn w a e F):Inn w {a with f:=f} e F:=by cases F<;>exact h
theorem ifoot_f {f x:Nat} (h:ifoot {a with f:=f} F x):ifoot a F x:=by cases F<;>exact h
theorem inn_tv (h:Inn w a e F):∃ T v,a.tv=.iface T v:=by
 cases F with
 | ref=>exact ⟨_,_,h⟩
 | get G=>exact ⟨_,_,h.1⟩
 | put P=>exact ⟨_,_,h.1⟩
 | del D=>exact ⟨_,_,h.1⟩
 | rz R=>exact ⟨_,_,h.1⟩
def IniF (i:Nat) (c:Ct) (F:Fr):Prop:=(chk c≠0→F=.ref)∧
 (chk c=0→F≠.ref∧(c.kind=0→F=.get (Gt.newGet i c.key))∧(c.kind=1→∃ h,F=.put (Pu.newPut h i c.key c.val))∧(c.kind=2→∃ h,F=.del (Dl.newDel h i c.key))∧(c.kind=3→F=.rz (Zr.newRz i c.size)))
def FrS (w:World) (i:Nat) (c:Ct) (e:Ending) (w':World):Prop:=∃ (a:Cp) (F:Fr),e=.returned a.tv∧IniF i c F∧Inn w' a (chk c) F∧(∀ x,ifoot a F x→w.heap.size≤x)∧Below w.heap.size w w'
end
set_option maxHeartbeats 2000000 in
theorem frame_any (i:Nat) (c:Ct) (hk:c.key.size≤maxLen) (w:World):Calls Tryz.prog 15 #[.int .i64 i,.agg #[.int .i64 c.kind,.string c.key,.string c.val,.int .i64 c.size]] w (FrS w i c):=by
 have hC:=Lib.hid (fun w=>show Calls Tryz.prog 31 #[.agg #[.int .i64 c.kind,.string c.key,.string c.val,.int .i64 c.size]] w (fun e w'=>e=.returned (.int .i64 (chk c))∧Below w.heap.size w w') from check_any c w)
 have hkn:=Lib.hid (fun h=>chk_key (c:=c) h)
 obtain ⟨w1,hw1⟩:∃ w1,w1=w.alloc (.cells #[.int .i64 c.kind,.string c.key,.string c.val,.int .i64 c.size] 31):=⟨_,rfl⟩
 have b1:Blk w1 w.heap.size 31 #[.int .i64 c.kind,.string c.key,.string c.val,.int .i64 c.size]:=by rw [hw1]; exact Blk.made w _ _
 have d1:Below w.heap.size w w1:=by rw [hw1]; exact below_1 _ _
 obtain ⟨p,hp⟩:∃ p,p=w.heap.size:=⟨_,rfl⟩
 rw [← hp] at b1
 have p0:=b1.cell 0
 have p1:=b1.cell 1
 have p2:=b1.cell 2
 have p3:=b1.cell 3
 simp at p0 p1 p2 p3
 have lp:=b1.lt
 go_enter Tryz.func15,Tryz.ntmps15
 go_upto_region 1 with (fail)
 rw [← hw1,← hp]
 clear hw1 hp
 go_upto_region 2 with (go_at_call 31; refine (hC.out _).mono ?_; rintro e w2 ⟨rfl,hb2⟩)
 have d2:=Lib.hid (d1.trans (hb2.mono d1.size))
 have b4:=b1.only (Only.ofBelow hb2 (fun _=>False)) (by simp)
 have p0:=b4.cell 0
 have p1:=b4.cell 1
 have p2:=b4.cell 2
 have p3:=b4.cell 3
 simp at p0 p1 p2 p3
 have lp:=b4.lt
 clear b1 d1 hC hb2 b4
 by_cases h0:chk c=0
 case neg=>
  have hE:Hid (FrS w i c (.returned (.iface 81 (.agg #[.int .i64 (chk c)]))) w2):=Lib.hid ⟨⟨0,.iface 81 (rfv (chk c)),noGa,noQa,noRa⟩,.ref,rfl,⟨fun _=>rfl,fun q=>absurd q h0⟩,rfl,fun x hx=>absurd hx (fun q=>q),d2.out⟩
  clear hkn d2
  go_wp2_with fail
  go_ret
  exact hE.out
 obtain ⟨k1,k2⟩:=hkn.out h0
 have hch:=Lib.hid h0
 clear hkn
 have hkk:c.kind=0∨c.kind=1∨c.kind=2∨c.kind=3:=by omega
 clear k1 k2
 rcases hkk with hkk | hkk | hkk | hkk
 · have hN:=Lib.hid (Gt.new_any i c.key hk w2)
   have hkh:=Lib.hid hkk
   rw [hkk] at p0
   clear hkk
   go_wp2_with fail
   refine hN.out.mono ?_
   rintro e w4 ⟨a,rfl,hG,hl,hb⟩
   have hE:Hid (FrS w i c (.returned (.iface 82 (ptr a.f))) w4):=Lib.hid (by
    have hkk:=hkh.out
    have h0:=hch.out
    refine ⟨⟨0,.iface 82 (ptr a.f),a,noQa,noRa⟩,.get (Gt.newGet i c.key),rfl,⟨fun q=>absurd h0 q,fun _=>⟨by simp,fun _=>rfl,fun q=>by omega,fun q=>by omega,fun q=>by omega⟩⟩,⟨rfl,hG⟩,fun x hx=>Nat.le_trans d2.out.size (hl x hx),d2.out.trans (hb.mono d2.out.size)⟩)
   clear hN hG hl hb d2 hk p0 p1 p2 p3 lp hkh h0 hch
   go_wp2_with fail
   go_ret
   exact hE.out
 · have hN:=Lib.hid (Pu.new_any i c.key c.val hk w2)
   have hkh:=Lib.hid hkk
   rw [hkk] at p0
   clear hkk
   go_wp2_with fail
   refine hN.out.mono ?_
   rintro e w4 ⟨a,h,rfl,hG,hl,hb⟩
   have hE:Hid (FrS w i c (.returned (.iface 84 (ptr a.f))) w4):=Lib.hid (by
    have hkk:=hkh.out
    have h0:=hch.out
    refine ⟨⟨0,.iface 84 (ptr a.f),noGa,a,noRa⟩,.put (Pu.newPut h i c.key c.val),rfl,⟨fun q=>absurd h0 q,fun _=>⟨by simp,fun q=>by omega,fun _=>⟨h,rfl⟩,fun q=>by omega,fun q=>by omega⟩⟩,⟨rfl,hG⟩,fun x hx=>Nat.le_trans d2.out.size (hl x hx),d2.out.trans (hb.mono d2.out.size)⟩)
   clear hN hG hl hb d2 hk p0 p1 p2 p3 lp hkh h0 hch
   go_wp2_with fail
   go_ret
   exact hE.out
 · have hN:=Lib.hid (Dl.new_any i c.key hk w2)
   have hkh:=Lib.hid hkk
   rw [hkk] at p0
   clear hkk
   go_wp2_with fail
   refine hN.out.mono ?_
   rintro e w4 ⟨a,h,rfl,hG,hl,hb⟩
   have hE:Hid (FrS w i c (.returned (.iface 86 (ptr a.f))) w4):=Lib.hid (by
    have hkk:=hkh.out
    have h0:=hch.out
    refine ⟨⟨0,.iface 86 (ptr a.f),noGa,a,noRa⟩,.del (Dl.newDel h i c.key),rfl,⟨fun q=>absurd h0 q,fun _=>⟨by simp,fun q=>by omega,fun q=>by omega,fun _=>⟨h,rfl⟩,fun q=>by omega⟩⟩,⟨rfl,hG⟩,fun x hx=>Nat.le_trans d2.out.size (hl x hx),d2.out.trans (hb.mono d2.out.size)⟩)
   clear hN hG hl hb d2 hk p0 p1 p2 p3 lp hkh h0 hch
   go_wp2_with fail
   go_ret
   exact hE.out
 · have hN:=Lib.hid (new_resize i c.size w2)
   have hkh:=Lib.hid hkk
   rw [hkk] at p0
   clear hkk
   go_wp2_with fail
   refine hN.out.mono ?_
   rintro e w4 ⟨a,rfl,hG,hl,hb⟩
   have hE:Hid (FrS w i c (.returned (.iface 72 (ptr (rzL.f a)))) w4):=Lib.hid (by
    have hkk:=hkh.out
    have h0:=hch.out
    refine ⟨⟨0,.iface 72 (ptr (rzL.f a)),noGa,noQa,a⟩,.rz (Zr.newRz i c.size),rfl,⟨fun q=>absurd h0 q,fun _=>⟨by simp,fun q=>by omega,fun q=>by omega,fun q=>by omega,fun _=>rfl⟩⟩,⟨rfl,hG⟩,fun x hx=>Nat.le_trans d2.out.size (hl x hx),d2.out.trans (hb.mono d2.out.size)⟩)
   clear hN hG hl hb d2 hk p0 p1 p2 p3 lp hkh h0 hch
   go_wp2_with fail
   go_ret
   exact hE.out
def NwS (w:World) (i:Nat) (c:Ct) (e:Ending) (w':World):Prop:=∃ (a:Cp) (C:Cl),e=.returned (ptr (clL.f a))∧Ini i c C∧clL.At w' a C∧(∀ x,clL.foot a C x→w.heap.size≤x)∧Below w.heap.size w w'
set_option maxHeartbeats 2000000 in
theorem new_call (i:Nat) (c:Ct) (hk:c.key.size≤maxLen) (w:World):Calls Tryz.prog 8 #[.int .i64 i,ctv c] w fun e w'=>∃ (a:Cp) (C:Cl),e=.returned (ptr (clL.f a))∧Ini i c C∧clL.At w' a C∧(∀ x,clL.foot a C x→w.heap.size≤x)∧Below w.heap.size w w':=by
 have hF:=Lib.hid (fun w=>frame_any i c hk w)
 show Calls Tryz.prog 8 #[.int .i64 i,.agg #[.int .i64 c.kind,.string c.key,.string c.val,.int .i64 c.size]] w (NwS w i c)
 obtain ⟨w1,hw1⟩:∃ w1,w1=w.alloc (.cells #[.int .i64 c.kind,.string c.key,.string c.val,.int .i64 c.size] 31):=⟨_,rfl⟩
 have b1:Blk w1 w.heap.size 31 #[.int .i64 c.kind,.string c.key,.string c.val,.int .i64 c.size]:=by rw [hw1]; exact Blk.made w _ _
 have d1:Below w.heap.size w w1:=by rw [hw1]; exact below_1 _ _
 obtain ⟨p,hp⟩:∃ p,p=w.heap.size:=⟨_,rfl⟩
 rw [← hp] at b1
 have p0:=b1.cell 0
 have p1:=b1.cell 1
 have p2:=b1.cell 2
 have p3:=b1.cell 3
 simp at p0 p1 p2 p3
 have lp:=b1.lt
 go_enter Tryz.func8,Tryz.ntmps8
 go_upto_region 1 with (fail)
 rw [← hw1,← hp]
 clear hw1 hp
 go_wp2_with (go_at_call 15; refine (hF.out _).mono ?_; rintro e w2 ⟨a,F,rfl,hI,hIn,hl,hb⟩; obtain ⟨T,v,htv⟩:=inn_tv hIn; rw [htv])
 have hE:Hid (NwS w i c (.returned (ptr w2.heap.size)) (w2.alloc (.cells #[.iface T v,.bool false] 56))):=Lib.hid (by
  have d2:=d1.trans (hb.mono d1.size)
  rw [← htv]
  have h3:=below_1 w2 (.cells #[a.tv,.bool false] 56)
  refine ⟨{a with f:=w2.heap.size},⟨F,chk c,false⟩,rfl,⟨rfl,rfl,hI.1,fun q=>(hI.2 q).2⟩,⟨Blk.made w2 _ _,?_,fun q=>?_⟩,fun x hx=>?_,d2.trans (h3.mono d2.size)⟩
  · exact inn_only (inn_f hIn) (Only.ofBelow h3 (fun _=>False)) (by simp)
  · by_cases h0:chk c=0
    · exact h0
    · exact absurd (hI.1 h0) q
  · rcases hx with rfl | hx
    · exact d2.size
    · exact Nat.le_trans d1.size (hl x (ifoot_f hx)))
 clear hF b1 d1 hI hIn hl hb p0 p1 p2 p3 lp htv
 go_wp2_with fail
 go_ret
 exact hE.out
end Go.Proofs.YtpobbnllcoabhaaGreatDoor.Ca
namespace Go.Proofs.YtpobbnllcoabhaaGreatDoor.Ca
open Go Go.RowKit Hp K Fl Rw Hm Ar Mm Me LK Qs Wk Pc Pn Mq Pu Zp Mx LawTh Bs Zr
set_option maxRecDepth 100000
theorem ta_get_get (b:Nat) (w:World):(Instr.typeAssert (.iface 82 (ptr b)) 53 82 true).run Tryz.prog w=.ok (.tuple #[ptr b,.bool true]) w:=by kernel_rfl
theorem ta_put_get (b:Nat) (w:World):(Instr.typeAssert (.iface 84 (ptr b)) 53 82 true).run Tryz.prog w=.ok (.tuple #[.pointer none,.bool false]) w:=by kernel_rfl
theorem ta_put_put (b:Nat) (w:World):(Instr.typeAssert (.iface 84 (ptr b)) 53 84 true).run Tryz.prog w=.ok (.tuple #[ptr b,.bool true]) w:=by kernel_rfl
theorem ta_del_get (b:Nat) (w:World):(Instr.typeAssert (.iface 86 (ptr b)) 53 82 true).run Tryz.prog w=.ok (.tuple #[.pointer none,.bool false]) w:=by kernel_rfl
theorem ta_del_put (b:Nat) (w:World):(Instr.typeAssert (.iface 86 (ptr b)) 53 84 true).run Tryz.prog w=.ok (.tuple #[.pointer none,.bool false]) w:=by kernel_rfl
theorem ta_del_del (b:Nat) (w:World):(Instr.typeAssert (.iface 86 (ptr b)) 53 86 true).run Tryz.prog w=.ok (.tuple #[ptr b,.bool true]) w:=by kernel_rfl
theorem ta_rz_get (b:Nat) (w:World):(Instr.typeAssert (.iface 72 (ptr b)) 53 82 true).run Tryz.prog w=.ok (.tuple #[.pointer none,.bool false]) w:=by kernel_rfl
theorem ta_rz_put (b:Nat) (w:World):(Instr.typeAssert (.iface 72 (ptr b)) 53 84 true).run Tryz.prog w=.ok (.tuple #[.pointer none,.bool false]) w:=by kernel_rfl
theorem ta_rz_del (b:Nat) (w:World):(Instr.typeAssert (.iface 72 (ptr b)) 53 86 true).run Tryz.prog w=.ok (.tuple #[.pointer none,.bool false]) w:=by kernel_rfl
theorem ta_rz_rz (b:Nat) (w:World):(Instr.typeAssert (.iface 72 (ptr b)) 53 72 true).run Tryz.prog w=.ok (.tuple #[ptr b,.bool true]) w:=by kernel_rfl
theorem ta_ref_get (e:Int) (w:World):(Instr.typeAssert (.iface 81 (rfv e)) 53 82 true).run Tryz.prog w=.ok (.tuple #[.pointer none,.bool false]) w:=by kernel_rfl
theorem ta_ref_put (e:Int) (w:World):(Instr.typeAssert (.iface 81 (rfv e)) 53 84 true).run Tryz.prog w=.ok (.tuple #[.pointer none,.bool false]) w:=by kernel_rfl
theorem ta_ref_del (e:Int) (w:World):(Instr.typeAssert (.iface 81 (rfv e)) 53 86 true).run Tryz.prog w=.ok (.tuple #[.pointer none,.bool false]) w:=by kernel_rfl
theorem ta_ref_rz (e:Int) (w:World):(Instr.typeAssert (.iface 81 (rfv e)) 53 72 true).run Tryz.prog w=.ok (.tuple #[.pointer none,.bool false]) w:=by kernel_rfl
theorem ta_ref_ref (e:Int) (w:World):(Instr.typeAssert (.iface 81 (rfv e)) 53 81 true).run Tryz.prog w=.ok (.tuple #[rfv e,.bool true]) w:=by kernel_rfl
section
variable {w w':World} {a:Cp} {C:Cl} {f b:Nat} {tv:Value} {e:Int}
theorem res_zero (hb:Blk w f 56 (ccs tv false)):Calls Tryz.prog 10 #[ptr f] w fun e w'=>e=.returned (.tuple #[.agg #[.int .i64 0,.bool false,.string ⟨#[]⟩],.bool false])∧Below w.heap.size w w':=by
 obtain ⟨w1,hw1⟩:∃ w1,w1=w.alloc (.cells #[.int .i64 0,.bool false,.string ⟨#[]⟩] 36):=⟨_,rfl⟩
 have b1:Blk w1 w.heap.size 36 #[.int .i64 0,.bool false,.string ⟨#[]⟩]:=by rw [hw1]; exact Blk.made w _ _
 have d1:Below w.heap.size w w1:=by rw [hw1]; exact below_1 _ _
 have hb1:=hb.only (Only.ofBelow d1 (fun _=>False)) (by simp)
 have c2:=(cb_cells hb1).2
 have lf:=hb1.lt
 have hne:f≠w.heap.size:=fun q=>by have:=hb.lt; omega
 obtain ⟨q,hq⟩:∃ q,q=w.heap.size:=⟨_,rfl⟩
 have hqw:w.heap.size≤q:=by omega
 rw [← hq] at b1 hne
 have g0:=b1.cell 0
 have g1:=b1.cell 1
 have g2:=b1.cell 2
 have z0:=b1.frozen 0
 have z1:=b1.frozen 1
 have z2:=b1.frozen 2
 simp at g0 g1 g2
 have lq:=b1.lt
 have hB:=Lib.hid (((d1.setCell (p:=⟨q,0,none⟩) hqw (.int .i64 0)).setCell (p:=⟨q,1,none⟩) hqw (.bool false)).setCell (p:=⟨q,2,none⟩) hqw (.string ⟨#[]⟩))
 clear hb hb1 b1 d1 hqw
 go_enter Tryz.func10,Tryz.ntmps10
 go_upto_region 1 with (fail)
 rw [← hw1,← hq]
 clear hw1 hq
 go_wp2_with fail
 exact bodyPost_ret (v:=.tuple #[.agg #[.int .i64 0,.bool false,.string ⟨#[]⟩],.bool false]) (by simp [results,Tryz.results10,go_sem,g0,g1,g2]) rfl ⟨rfl,hB.out⟩
theorem res_done {e1:Int} {h:Bool} {v:ByteArray} (hb:Blk w f 56 (ccs tv true)) (hA:∀ wx,Below w.heap.size w wx→Calls Tryz.prog 16 #[tv] wx fun e' w'=>e'=.returned (.agg #[.int .i64 e1,.bool h,.string v])∧Below wx.heap.size wx w'):
 Calls Tryz.prog 10 #[ptr f] w fun e' w'=>e'=.returned (.tuple #[.agg #[.int .i64 e1,.bool h,.string v],.bool true])∧Below w.heap.size w w':=by
 obtain ⟨w1,hw1⟩:∃ w1,w1=w.alloc (.cells #[.int .i64 0,.bool false,.string ⟨#[]⟩] 36):=⟨_,rfl⟩
 have b1:Blk w1 w.heap.size 36 #[.int .i64 0,.bool false,.string ⟨#[]⟩]:=by rw [hw1]; exact Blk.made w _ _
 have d1:Below w.heap.size w w1:=by rw [hw1]; exact below_1 _ _
 have hA2:=Lib.hid (hA w1 d1)
 have hb1:=hb.only (Only.ofBelow d1 (fun _=>False)) (by simp)
 have c0:=(cb_cells hb1).1
 have c2:=(cb_cells hb1).2
 have lf:=hb1.lt
 obtain ⟨q,hq⟩:∃ q,q=w.heap.size:=⟨_,rfl⟩
 have hqw:w.heap.size≤q:=by omega
 rw [← hq] at b1
 clear hb hb1 hA
 go_enter Tryz.func10,Tryz.ntmps10
 go_upto_region 1 with (fail)
 rw [← hw1,← hq]
 clear hw1 hq
 go_wp2_with fail
 refine hA2.out.mono ?_
 rintro e w3 ⟨rfl,hb3⟩
 have b3:=b1.only (Only.ofBelow hb3 (fun _=>False)) (by simp)
 have hB:=Lib.hid (d1.trans (hb3.mono d1.size))
 clear hA2 hb3 b1 d1
 clear c0 c2 lf
 have g0:=b3.cell 0
 have g1:=b3.cell 1
 have g2:=b3.cell 2
 have z0:=b3.frozen 0
 have z1:=b3.frozen 1
 have z2:=b3.frozen 2
 simp at g0 g1 g2
 have lq:=b3.lt
 clear b3
 go_wp2_with fail
 refine bodyPost_ret (v:=.tuple #[.agg #[.int .i64 e1,.bool h,.string v],.bool true]) (by simp [results,Tryz.results10,go_sem,g0,g1,g2]) rfl ⟨rfl,?_⟩
 repeat' first | exact hB.out | (refine Below.setCell ?_ ?_ _) | exact hqw
set_option maxHeartbeats 1000000 in
theorem aw_get {v:ByteArray} {h:Bool} (hF:∀ wx,Below w.heap.size w wx→Calls Tryz.prog 35 #[ptr b] wx fun e' w'=>e'=.returned (.tuple #[.string v,.bool h])∧Below wx.heap.size wx w'):
 Calls Tryz.prog 16 #[.iface 82 (ptr b)] w fun e' w'=>e'=.returned (.agg #[.int .i64 0,.bool h,.string v])∧Below w.heap.size w w':=by
 obtain ⟨w1,hw1⟩:∃ w1,w1=w.alloc (.cells #[.int .i64 0,.bool false,.string ⟨#[]⟩] 36):=⟨_,rfl⟩
 have b1:Blk w1 w.heap.size 36 #[.int .i64 0,.bool false,.string ⟨#[]⟩]:=by rw [hw1]; exact Blk.made w _ _
 have d1:Below w.heap.size w w1:=by rw [hw1]; exact below_1 _ _
 have hF2:=Lib.hid (hF w1 d1)
 obtain ⟨q,hq⟩:∃ q,q=w.heap.size:=⟨_,rfl⟩
 have hqw:w.heap.size≤q:=by omega
 rw [← hq] at b1
 have ta0:=ta_get_get b
 clear hF
 go_enter Tryz.func16,Tryz.ntmps16
 go_upto_region 1 with (fail)
 rw [← hw1,← hq]
 clear hw1 hq
 go_wp2_with fail
 refine hF2.out.mono ?_
 rintro e w3 ⟨rfl,hb3⟩
 have b3:=b1.only (Only.ofBelow hb3 (fun _=>False)) (by simp)
 have hB:=Lib.hid (d1.trans (hb3.mono d1.size))
 clear hF2 hb3 b1 d1
 have g0:=b3.cell 0
 have g1:=b3.cell 1
 have g2:=b3.cell 2
 have z0:=b3.frozen 0
 have z1:=b3.frozen 1
 have z2:=b3.frozen 2
 simp at g0 g1 g2
 have lq:=b3.lt
 clear b3
 go_wp2_with fail
 refine bodyPost_ret (v:=.agg #[.int .i64 0,.bool h,.string v]) (by simp [results,Tryz.results16,go_sem,g0,g1,g2]) rfl ⟨rfl,?_⟩
 repeat' first | exact hB.out | (refine Below.setCell ?_ ?_ _) | exact hqw
set_option maxHeartbeats 1000000 in
theorem aw_put {h:Bool} (hF:∀ wx,Below w.heap.size w wx→Calls Tryz.prog 36 #[ptr b] wx fun e' w'=>e'=.returned (.agg #[.int .i64 e,.bool h,.string ⟨#[]⟩])∧Below wx.heap.size wx w'):
 Calls Tryz.prog 16 #[.iface 84 (ptr b)] w fun e' w'=>e'=.returned (.agg #[.int .i64 e,.bool h,.string ⟨#[]⟩])∧Below w.heap.size w w':=by
 obtain ⟨w1,hw1⟩:∃ w1,w1=w.alloc (.cells #[.int .i64 0,.bool false,.string ⟨#[]⟩] 36):=⟨_,rfl⟩
 have b1:Blk w1 w.heap.size 36 #[.int .i64 0,.bool false,.string ⟨#[]⟩]:=by rw [hw1]; exact Blk.made w _ _
 have d1:Below w.heap.size w w1:=by rw [hw1]; exact below_1 _ _
 have hF2:=Lib.hid (hF w1 d1)
 obtain ⟨q,hq⟩:∃ q,q=w.heap.size:=⟨_,rfl⟩
 have hqw:w.heap.size≤q:=by omega
 rw [← hq] at b1
 have ta0:=ta_put_get b
 have ta1:=ta_put_put b
 clear hF
 go_enter Tryz.func16,Tryz.ntmps16
 go_upto_region 1 with (fail)
 rw [← hw1,← hq]
 clear hw1 hq
 go_wp2_with fail
 refine hF2.out.mono ?_
 rintro e w3 ⟨rfl,hb3⟩
 have b3:=b1.only (Only.ofBelow hb3 (fun _=>False)) (by simp)
 have hB:=Lib.hid (d1.trans (hb3.mono d1.size))
 clear hF2 hb3 b1 d1
 have g0:=b3.cell 0
 have g1:=b3.cell 1
 have g2:=b3.cell 2
 have z0:=b3.frozen 0
 have z1:=b3.frozen 1
 have z2:=b3.frozen 2
 simp at g0 g1 g2
 have lq:=b3.lt
 clear b3
 go_wp2_with fail
 refine bodyPost_ret (v:=.agg #[.int .i64 e,.bool h,.string ⟨#[]⟩]) (by simp [results,Tryz.results16,go_sem,g0,g1,g2]) rfl ⟨rfl,?_⟩
 repeat' first | exact hB.out | (refine Below.setCell ?_ ?_ _) | exact hqw
set_option maxHeartbeats 1000000 in
theorem aw_del {v:ByteArray} {h:Bool} (hF:∀ wx,Below w.heap.size w wx→Calls Tryz.prog 37 #[ptr b] wx fun e' w'=>e'=.returned (.tuple #[.string v,.bool h])∧Below wx.heap.size wx w'):
 Calls Tryz.prog 16 #[.iface 86 (ptr b)] w fun e' w'=>e'=.returned (.agg #[.int .i64 0,.bool h,.string v])∧Below w.heap.size w w':=by
 obtain ⟨w1,hw1⟩:∃ w1,w1=w.alloc (.cells #[.int .i64 0,.bool false,.string ⟨#[]⟩] 36):=⟨_,rfl⟩
 have b1:Blk w1 w.heap.size 36 #[.int .i64 0,.bool false,.string ⟨#[]⟩]:=by rw [hw1]; exact Blk.made w _ _
 have d1:Below w.heap.size w w1:=by rw [hw1]; exact below_1 _ _
 have hF2:=Lib.hid (hF w1 d1)
 obtain ⟨q,hq⟩:∃ q,q=w.heap.size:=⟨_,rfl⟩
 have hqw:w.heap.size≤q:=by omega
 rw [← hq] at b1
 have ta0:=ta_del_get b
 have ta1:=ta_del_put b
 have ta2:=ta_del_del b
 clear hF
 go_enter Tryz.func16,Tryz.ntmps16
 go_upto_region 1 with (fail)
 rw [← hw1,← hq]
 clear hw1 hq
 go_wp2_with fail
 refine hF2.out.mono ?_
 rintro e w3 ⟨rfl,hb3⟩
 have b3:=b1.only (Only.ofBelow hb3 (fun _=>False)) (by simp)
 have hB:=Lib.hid (d1.trans (hb3.mono d1.size))
 clear hF2 hb3 b1 d1
 have g0:=b3.cell 0
 have g1:=b3.cell 1
 have g2:=b3.cell 2
 have z0:=b3.frozen 0
 have z1:=b3.frozen 1
 have z2:=b3.frozen 2
 simp at g0 g1 g2
 have lq:=b3.lt
 clear b3
 go_wp2_with fail
 refine bodyPost_ret (v:=.agg #[.int .i64 0,.bool h,.string v]) (by simp [results,Tryz.results16,go_sem,g0,g1,g2]) rfl ⟨rfl,?_⟩
 repeat' first | exact hB.out | (refine Below.setCell ?_ ?_ _) | exact hqw
set_option maxHeartbeats 1000000 in
theorem aw_rz (hF:∀ wx,Below w.heap.size w wx→Calls Tryz.prog 28 #[ptr b] wx fun e' w'=>e'=.returned (.int .i64 e)∧Below wx.heap.size wx w'):
 Calls Tryz.prog 16 #[.iface 72 (ptr b)] w fun e' w'=>e'=.returned (.agg #[.int .i64 e,.bool false,.string ⟨#[]⟩])∧Below w.heap.size w w':=by
 obtain ⟨w1,hw1⟩:∃ w1,w1=w.alloc (.cells #[.int .i64 0,.bool false,.string ⟨#[]⟩] 36):=⟨_,rfl⟩
 have b1:Blk w1 w.heap.size 36 #[.int .i64 0,.bool false,.string ⟨#[]⟩]:=by rw [hw1]; exact Blk.made w _ _
 have d1:Below w.heap.size w w1:=by rw [hw1]; exact below_1 _ _
 have hF2:=Lib.hid (hF w1 d1)
 obtain ⟨q,hq⟩:∃ q,q=w.heap.size:=⟨_,rfl⟩
 have hqw:w.heap.size≤q:=by omega
 rw [← hq] at b1
 have ta0:=ta_rz_get b
 have ta1:=ta_rz_put b
 have ta2:=ta_rz_del b
 have ta3:=ta_rz_rz b
 clear hF
 go_enter Tryz.func16,Tryz.ntmps16
 go_upto_region 1 with (fail)
 rw [← hw1,← hq]
 clear hw1 hq
 go_wp2_with fail
 refine hF2.out.mono ?_
 rintro e w3 ⟨rfl,hb3⟩
 have b3:=b1.only (Only.ofBelow hb3 (fun _=>False)) (by simp)
 have hB:=Lib.hid (d1.trans (hb3.mono d1.size))
 clear hF2 hb3 b1 d1
 have g0:=b3.cell 0
 have g1:=b3.cell 1
 have g2:=b3.cell 2
 have z0:=b3.frozen 0
 have z1:=b3.frozen 1
 have z2:=b3.frozen 2
 simp at g0 g1 g2
 have lq:=b3.lt
 clear b3
 go_wp2_with fail
 refine bodyPost_ret (v:=.agg #[.int .i64 e,.bool false,.string ⟨#[]⟩]) (by simp [results,Tryz.results16,go_sem,g0,g1,g2]) rfl ⟨rfl,?_⟩
 repeat' first | exact hB.out | (refine Below.setCell ?_ ?_ _) | exact hqw
set_option maxHeartbeats 1000000 in
theorem aw_ref:
 Calls Tryz.prog 16 #[.iface 81 (rfv e)] w fun e' w'=>e'=.returned (.agg #[.int .i64 e,.bool false,.string ⟨#[]⟩])∧Below w.heap.size w w':=by
 obtain ⟨w1,hw1⟩:∃ w1,w1=w.alloc (.cells #[.int .i64 0,.bool false,.string ⟨#[]⟩] 36):=⟨_,rfl⟩
 have b1:Blk w1 w.heap.size 36 #[.int .i64 0,.bool false,.string ⟨#[]⟩]:=by rw [hw1]; exact Blk.made w _ _
 have d1:Below w.heap.size w w1:=by rw [hw1]; exact below_1 _ _
 obtain ⟨q,hq⟩:∃ q,q=w.heap.size:=⟨_,rfl⟩
 have hqw:w.heap.size≤q:=by omega
 rw [← hq] at b1
 have ta0:=ta_ref_get e
 have ta1:=ta_ref_put e
 have ta2:=ta_ref_del e
 have ta3:=ta_ref_rz e
 have ta4:=ta_ref_ref e
 obtain ⟨w2,hw2⟩:∃ w2,w2=w1.alloc (.cells #[.int .i64 e] 81):=⟨_,rfl⟩
 have b2:Blk w2 w1.heap.size 81 #[.int .i64 e]:=by rw [hw2]; exact Blk.made w1 _ _
 have d2:Below w1.heap.size w1 w2:=by rw [hw2]; exact below_1 _ _
 have b3:=b1.only (Only.ofBelow d2 (fun _=>False)) (by simp)
 have hB:=Lib.hid (d1.trans (d2.mono d1.size))
 have r0:=b2.cell 0
 simp at r0
 have lr:=b2.lt
 clear b1 b2 d1 d2
 go_enter Tryz.func16,Tryz.ntmps16
 go_upto_region 1 with (fail)
 rw [← hw1,← hq]
 clear hw1 hq
 go_upto_region 18 with (fail)
 rw [← hw2]
 obtain ⟨rb,hrb⟩:∃ rb,rb=w1.heap.size:=⟨_,rfl⟩
 rw [← hrb] at r0 lr ⊢
 clear hw2 hrb ta0 ta1 ta2 ta3 ta4
 have g0:=b3.cell 0
 have g1:=b3.cell 1
 have g2:=b3.cell 2
 have z0:=b3.frozen 0
 have z1:=b3.frozen 1
 have z2:=b3.frozen 2
 simp at g0 g1 g2
 have lq:=b3.lt
 clear b3
 go_wp2_with fail
 refine bodyPost_ret (v:=.agg #[.int .i64 e,.bool false,.string ⟨#[]⟩]) (by simp [results,Tryz.results16,go_sem,g0,g1,g2]) rfl ⟨rfl,?_⟩
 repeat' first | exact hB.out | (refine Below.setCell ?_ ?_ _) | exact hqw
set_option maxHeartbeats 1000000 in
theorem pa_err (he:e≠0) (hF:∀ wx,Below w.heap.size w wx→Calls Tryz.prog 67 #[ptr b] wx fun e' w'=>e'=.returned (.int .i64 e)∧Below wx.heap.size wx w')
 :
 Calls Tryz.prog 36 #[ptr b] w fun e' w'=>e'=.returned (.agg #[.int .i64 e,.bool false,.string ⟨#[]⟩])∧Below w.heap.size w w':=by
 obtain ⟨w1,hw1⟩:∃ w1,w1=w.alloc (.cells #[.int .i64 0,.bool false,.string ⟨#[]⟩] 36):=⟨_,rfl⟩
 have b1:Blk w1 w.heap.size 36 #[.int .i64 0,.bool false,.string ⟨#[]⟩]:=by rw [hw1]; exact Blk.made w _ _
 have d1:Below w.heap.size w w1:=by rw [hw1]; exact below_1 _ _
 have hF2:=Lib.hid (hF w1 d1)
 obtain ⟨q,hq⟩:∃ q,q=w.heap.size:=⟨_,rfl⟩
 have hqw:w.heap.size≤q:=by omega
 rw [← hq] at b1
 clear hF
 go_enter Tryz.func36,Tryz.ntmps36
 go_upto_region 1 with (fail)
 rw [← hw1,← hq]
 clear hw1 hq
 go_wp2_with fail
 refine hF2.out.mono ?_
 rintro e w3 ⟨rfl,hb3⟩
 have b3:=b1.only (Only.ofBelow hb3 (fun _=>False)) (by simp)
 have hB:=Lib.hid (d1.trans (hb3.mono d1.size))
 clear hF2 hb3 b1 d1
 have g0:=b3.cell 0
 have g1:=b3.cell 1
 have g2:=b3.cell 2
 have z0:=b3.frozen 0
 have z1:=b3.frozen 1
 have z2:=b3.frozen 2
 simp at g0 g1 g2
 have lq:=b3.lt
 clear b3
 go_wp2_with fail
 refine bodyPost_ret (v:=.agg #[.int .i64 e,.bool false,.string ⟨#[]⟩]) (by simp [results,Tryz.results36,go_sem,g0,g1,g2]) rfl ⟨rfl,?_⟩
 repeat' first | exact hB.out | (refine Below.setCell ?_ ?_ _) | exact hqw
set_option maxHeartbeats 1000000 in
theorem pa_ok {h:Bool} (hF:∀ wx,Below w.heap.size w wx→Calls Tryz.prog 67 #[ptr b] wx fun e' w'=>e'=.returned (.int .i64 0)∧Below wx.heap.size wx w')
 (hH:∀ wx,Below w.heap.size w wx→Calls Tryz.prog 68 #[ptr b] wx fun e w'=>e=.returned (.bool h)∧Below wx.heap.size wx w'):
 Calls Tryz.prog 36 #[ptr b] w fun e' w'=>e'=.returned (.agg #[.int .i64 0,.bool h,.string ⟨#[]⟩])∧Below w.heap.size w w':=by
 obtain ⟨w1,hw1⟩:∃ w1,w1=w.alloc (.cells #[.int .i64 0,.bool false,.string ⟨#[]⟩] 36):=⟨_,rfl⟩
 have b1:Blk w1 w.heap.size 36 #[.int .i64 0,.bool false,.string ⟨#[]⟩]:=by rw [hw1]; exact Blk.made w _ _
 have d1:Below w.heap.size w w1:=by rw [hw1]; exact below_1 _ _
 have hF2:=Lib.hid (hF w1 d1)
 obtain ⟨q,hq⟩:∃ q,q=w.heap.size:=⟨_,rfl⟩
 have hqw:w.heap.size≤q:=by omega
 rw [← hq] at b1
 clear hF
 replace hH:=Lib.hid hH
 go_enter Tryz.func36,Tryz.ntmps36
 go_upto_region 1 with (fail)
 rw [← hw1,← hq]
 clear hw1 hq
 go_wp2_with fail
 refine hF2.out.mono ?_
 rintro e w2 ⟨rfl,hb2⟩
 have b1:=b1.only (Only.ofBelow hb2 (fun _=>False)) (by simp)
 have d1:=d1.trans (hb2.mono d1.size)
 have hH2:=Lib.hid (hH.out w2 d1)
 clear hF2 hb2 hH
 go_wp2_with fail
 refine hH2.out.mono ?_
 rintro e w3 ⟨rfl,hb3⟩
 have b3:=b1.only (Only.ofBelow hb3 (fun _=>False)) (by simp)
 have hB:=Lib.hid (d1.trans (hb3.mono d1.size))
 clear hH2 hb3 b1 d1
 have g0:=b3.cell 0
 have g1:=b3.cell 1
 have g2:=b3.cell 2
 have z0:=b3.frozen 0
 have z1:=b3.frozen 1
 have z2:=b3.frozen 2
 simp at g0 g1 g2
 have lq:=b3.lt
 clear b3
 go_wp2_with fail
 refine bodyPost_ret (v:=.agg #[.int .i64 0,.bool h,.string ⟨#[]⟩]) (by simp [results,Tryz.results36,go_sem,g0,g1,g2]) rfl ⟨rfl,?_⟩
 repeat' first | exact hB.out | (refine Below.setCell ?_ ?_ _) | exact hqw
end
end Go.Proofs.YtpobbnllcoabhaaGreatDoor.Ca
namespace Go.Proofs.YtpobbnllcoabhaaGreatDoor.Ca
open Go Go.RowKit Hp K Fl Rw Hm Ar Mm Me LK Qs Wk Pc Pn Mq Pu Zp Mx LawTh Bs Zr
set_option maxRecDepth 100000
theorem mi_get (v:Value) (x:TypeId) (w:World):(Instr.typeAssert (.iface 82 v) x 104 true).run Tryz.prog w=.ok (.tuple #[.nilIface,.bool false]) w:=run_typeAssert_lacksB Tryz.underlying104 (by kernel_rfl) (by kernel_rfl) v x w
theorem mi_rz (v:Value) (x:TypeId) (w:World):(Instr.typeAssert (.iface 72 v) x 104 true).run Tryz.prog w=.ok (.tuple #[.nilIface,.bool false]) w:=run_typeAssert_lacksB Tryz.underlying104 (by kernel_rfl) (by kernel_rfl) v x w
theorem mi_put (v:Value) (x:TypeId) (w:World):(Instr.typeAssert (.iface 84 v) x 104 true).run Tryz.prog w=.ok (.tuple #[.iface 84 v,.bool true]) w:=run_typeAssert_hasB Tryz.underlying104 (by kernel_rfl) v x w
theorem mi_del (v:Value) (x:TypeId) (w:World):(Instr.typeAssert (.iface 86 v) x 104 true).run Tryz.prog w=.ok (.tuple #[.iface 86 v,.bool true]) w:=run_typeAssert_hasB Tryz.underlying104 (by kernel_rfl) v x w
theorem mi_ref (v:Value) (x:TypeId) (w:World):(Instr.typeAssert (.iface 81 v) x 104 true).run Tryz.prog w=.ok (.tuple #[.nilIface,.bool false]) w:=run_typeAssert_lacksB Tryz.underlying104 (by kernel_rfl) (by kernel_rfl) v x w
theorem mm_put (b:Nat) (w:World) (f:Nat):(method (f+1) 84 (.pointer (some ⟨b,0,none⟩)) "Mine").run Tryz.prog w=.ok (240,.pointer (some ⟨b,0,none⟩)) w:=by kernel_rfl
theorem mm_del (b:Nat) (w:World) (f:Nat):(method (f+1) 86 (.pointer (some ⟨b,0,none⟩)) "Mine").run Tryz.prog w=.ok (244,.pointer (some ⟨b,0,none⟩)) w:=by kernel_rfl
theorem em_put (args:Array Value) (w:World):(callFunc 240 args).run Tryz.prog w=.ok (.enter 240 args) w:=by kernel_rfl
theorem em_del (args:Array Value) (w:World):(callFunc 244 args).run Tryz.prog w=.ok (.enter 244 args) w:=by kernel_rfl
section
variable {w w':World} {a:Cp} {C:Cl} {f b:Nat} {tv:Value} {e:Int} {d:Bool}
theorem mine_none (hb:Blk w f 56 (ccs tv d)) (ht:∀ w,(Instr.typeAssert tv 53 104 true).run Tryz.prog w=.ok (.tuple #[.nilIface,.bool false]) w):
 Calls Tryz.prog 23 #[ptr f] w fun e w'=>e=.returned (.int .u64 0)∧Below w.heap.size w w':=by
 have c0:=(cb_cells hb).1
 have lf:=hb.lt
 clear hb
 go_enter Tryz.func23,Tryz.ntmps23
 go_wp2_with fail
 go_ret
 exact ⟨rfl,Below.refl _ _⟩
theorem mine_some {T:TypeId} {fm:Nat} {n:Nat} (hb:Blk w f 56 (ccs (.iface T (ptr b)) d)) (ht:∀ w,(Instr.typeAssert (.iface T (ptr b)) 53 104 true).run Tryz.prog w=.ok (.tuple #[.iface T (ptr b),.bool true]) w)
 (mm:∀ (w:World) (f:Nat),(method (f+1) T (.pointer (some ⟨b,0,none⟩)) "Mine").run Tryz.prog w=.ok (fm,.pointer (some ⟨b,0,none⟩)) w) (em:∀ args w,(callFunc fm args).run Tryz.prog w=.ok (.enter fm args) w) (hF:Calls Tryz.prog fm #[ptr b] w fun e w'=>e=.returned (.int .u64 n)∧w=w'):
 Calls Tryz.prog 23 #[ptr f] w fun e w'=>e=.returned (.int .u64 n)∧Below w.heap.size w w':=by
 have c0:=(cb_cells hb).1
 have lf:=hb.lt
 replace hF:=Lib.hid hF
 clear hb
 go_enter Tryz.func23,Tryz.ntmps23
 go_wp2_with fail
 refine hF.out.mono ?_
 rintro e w' ⟨rfl,rfl⟩
 go_wp2_with fail
 go_ret
 exact ⟨rfl,Below.refl _ _⟩
theorem mine_any (h:clL.At w a C):Calls Tryz.prog 23 #[ptr (clL.f a)] w fun e w'=>e=.returned (.int .u64 (mine C))∧Below w.heap.size w w':=by
 obtain ⟨hb,hI,h0⟩:=h
 obtain ⟨F,er,d⟩:=C
 cases F with
 | ref=>exact mine_none hb (fun w=>by rw [show a.tv=.iface 81 (rfv er) from hI]; exact mi_ref _ _ w)
 | get G=>exact mine_none hb (fun w=>by rw [hI.1]; exact mi_get _ _ w)
 | rz R=>exact mine_none hb (fun w=>by rw [hI.1]; exact mi_rz _ _ w)
 | put P=>
   rw [hI.1] at hb
   exact mine_some hb (fun w=>mi_put _ _ w) (mm_put _) em_put (Pu.mine_any hI.2)
 | del D=>
   rw [hI.1] at hb
   exact mine_some hb (fun w=>mi_del _ _ w) (mm_del _) em_del (Dl.mine_any hI.2)
theorem res_any (h:clL.At w a C):Calls Tryz.prog 10 #[ptr (clL.f a)] w fun e w'=>e=.returned (.tuple #[.agg #[.int .i64 (ans C).1,.bool (ans C).2.1,.string (ans C).2.2],.bool C.done])∧Below w.heap.size w w':=by
 obtain ⟨hb,hI,h0⟩:=h
 obtain ⟨F,er,d⟩:=C
 cases d with
 | false=>exact res_zero hb
 | true=>
   refine res_done hb (fun wx hx=>?_)
   cases F with
   | ref=>
     rw [show a.tv=.iface 81 (rfv er) from hI]
     exact aw_ref
   | get G=>
     rw [hI.1]
     exact aw_get (fun wy hy=>Gt.val_any (hI.2.below (hx.trans (hy.mono hx.size))))
   | del D=>
     rw [hI.1]
     exact aw_del (fun wy hy=>Dl.had_any (hI.2.below (hx.trans (hy.mono hx.size))))
   | rz R=>
     rw [hI.1]
     exact aw_rz (fun wy hy=>(rz_err (rz_below hI.2 (hx.trans (hy.mono hx.size)))).mono fun e w' q=>⟨q.1,by rw [q.2]; exact Below.refl _ _⟩)
   | put P=>
     rw [hI.1]
     by_cases hp:P.err=0
     · have:ans ⟨.put P,er,true⟩=(0,decide (P.W.found≠0),⟨#[]⟩):=by show (if P.err=0 then _ else _)=_; rw [if_pos hp]
       rw [this]
       refine aw_put (fun wy hy=>?_)
       have hP:=hI.2.below (hx.trans (hy.mono hx.size))
       exact pa_ok (fun wz hz=>(Pu.err_any (hP.below hz)).mono (fun e w' q=>⟨by rw [q.1,hp],by rw [← q.2]; exact Below.refl _ _⟩)) (fun wz hz=>Pu.had_any (hP.below hz))
     · have:ans ⟨.put P,er,true⟩=(P.err,false,⟨#[]⟩):=by show (if P.err=0 then _ else _)=_; rw [if_neg hp]
       rw [this]
       refine aw_put (fun wy hy=>?_)
       have hP:=hI.2.below (hx.trans (hy.mono hx.size))
       exact pa_err hp (fun wz hz=>(Pu.err_any (hP.below hz)).mono (fun e w' q=>⟨q.1,by rw [← q.2]; exact Below.refl _ _⟩))
end
end Go.Proofs.YtpobbnllcoabhaaGreatDoor.Ca
namespace Go.Proofs.YtpobbnllcoabhaaGreatDoor.Ca
open Go Go.RowKit Hp K Fl Rw Hm Ar Mm Me LK Qs Wk Re LawSix Pc Pn Mq Pu Zp Mx LawTh Bs Dl Zr LawTen LawEl LawFn
section
variable {W0 w w':World} {M:Mo} {A:Option Addr} {cap:Nat} {l lr:List Pr} {n B G t:Nat} {cs:Nat→List Mq.Hp} {c:Ct} {i:Nat} {a:Cp} {C:Cl}
theorem fin_s {s:Lm×Cl} (h:S11 W0 w M A cap lr) (hP:clL.At w a C) (hlow:∀ x,clL.foot a C x→W0.heap.size≤x) (hI:clL.Inv M a C w s w'):∃ M' a',S11 W0 w' M' A cap lr∧M'.m=M.m∧lm M'=s.1∧clL.At w' a' s.2∧clL.f a'=clL.f a∧Only (fun x=>mfoot M x∨clL.foot a C x) w w':=by
 obtain ⟨M',a',r1,r2,r3,r4,r5,r7,r8⟩:=hI
 refine ⟨M',a',h.moved r1 r3.foot r8 (fun x q=>?_) (fun x hx q=>?_),r3.m,r2,r4,r5,r8⟩
 · rcases q with q | q
   · exact h.lom x q
   · exact hlow x q
 · rcases q with q | q
   · exact h.ap_mem hx q
   · exact cl_row hP q (row_ty h.row hx)
def ClS (W0 w':World) (M:Mo) (A:Option Addr) (cap:Nat) (lr l:List Pr) (G t:Nat) (c:Ct) (a:Cp):Prop:=
 ∃ (M':Mo) (a':Cp) (C':Cl) (n' B' G':Nat) (cs':Nat→List Mq.Hp),S11 W0 w' M' A cap lr∧M'.m=M.m∧clL.At w' a' C'∧clL.f a'=clL.f a∧C'.done=true∧mine C'=0∧M'.ss.length=M.ss.length∧M'.k=M.k∧Num1 (lm M') (t+1)∧n'≤256∧G'≤G+1∧
   ((chk c=0∧c.kind=1∧freePl M.ss=none∧ans C'=(4,false,⟨#[]⟩)∧Mp (lm M') n' B' cs' l G')∨(¬(chk c=0∧c.kind=1∧freePl M.ss=none)∧ans C'=docA l c∧∀ l',DocL l l' c→Mp (lm M') n' B' cs' l' G'))
theorem call_s (h:S11 W0 w M A cap lr) (hm:Mp (lm M) n B cs l G) (hG:G≤900000) (hl:l.length≤30) (hnum:Num1 (lm M) t) (ht:t≤200) (hn8:n≤256) (hs8:c.size≤256∨65536<c.size) (hi:(i:Int)<M.k) (hC:Ini i c C) (hP:clL.At w a C) (hlow:∀ x,clL.foot a C x→W0.heap.size≤x):
 Calls Tryz.prog 9 #[ptr M.m,.iface 28 (ptr (clL.f a)),.int .i64 30000] w fun e w'=>((∃ k:Nat,e=.returned (.tuple #[.int .i64 k,.bool true]))∧Only (fun x=>mfoot M x∨clL.foot a C x) w w')∧ClS W0 w' M A cap lr l G t c a:=by
 have hk8:1≤M.k∧M.k≤8:=hm.k
 have hi1:0≤(i:Int)∧(i:Int)≤1000:=by omega
 have hnum1:Num1 (lm M) (t+1):=by obtain ⟨u1,u2,u3,u4⟩:=hnum; exact ⟨by omega,by omega,u3,by omega⟩
 have hkB:2+M.k≤B:=hm.kB
 have hlen:M.ss.length≤1024:=hm.small.2
 have hq2:∀ b,b<n→(cs b).length≤1024:=fun b hb=>by have:=(Mp.ql2 hm).1 b hb; have e:(lm M).ss.length=M.ss.length:=rfl; omega
 obtain ⟨c1,c2,c3,c4⟩:=hC
 by_cases h0:chk c=0
 case neg=>
  have hfr:=c3 h0
  have eC:C=⟨.ref,chk c,false⟩:=by cases C; simp only at c1 c2 hfr; rw [c1,c2,hfr]
  subst eC
  refine (finish_frm cl_frm h.mem hP (fun k s=>k=1∧s=(lm M,(⟨.ref,chk c,false⟩:Cl))) (fun s=>s=(lm M,(⟨.ref,chk c,true⟩:Cl))) (fun k s hs=>by
   obtain ⟨rfl,rfl⟩:=hs
   exact ⟨trivial,rfl,Nat.le_refl _,fun _=>rfl,fun q=>by simp [cldn] at q⟩) 1 30000 ⟨rfl,rfl⟩ (by omega) (by omega)).mono fun e w' q=>?_
  obtain ⟨k,s,q1,_,q4,hI⟩:=q
  obtain ⟨M',a',g1,g2,g3,g4,g5,g6⟩:=fin_s h hP hlow hI
  rw [q4] at g3 g4
  have e1:M'.ss=M.ss:=congrArg Lm.ss g3
  have e2:M'.k=M.k:=congrArg Lm.k g3
  refine ⟨⟨⟨k,q1⟩,g6⟩,M',a',_,n,B,G,cs,g1,g2,g4,g5,rfl,rfl,by rw [e1],e2,by rw [g3]; exact hnum1,hn8,by omega,.inr ⟨fun q=>h0 q.1,?_,fun l' hl'=>?_⟩⟩
  · unfold docA; rw [if_pos h0]; rfl
  · unfold DocL at hl'
    rw [if_neg (fun q=>h0 q.1),if_neg (fun q=>h0 q.1)] at hl'
    rw [hl',g3]; exact hm
 obtain ⟨k0,k1,k2,k3⟩:=c4 h0
 have hkind:c.kind=0∨c.kind=1∨c.kind=2∨c.kind=3:=by
  unfold chk at h0
  split at h0
  · omega
  · omega
 rcases hkind with hk | hk | hk | hk
 ·
  have hfr:=k0 hk
  have eC:C=⟨.get (Gt.newGet i c.key),0,false⟩:=by cases C; simp only at c1 c2 hfr; rw [c1,c2,hfr,h0]
  subst eC
  obtain ⟨hE,hlk⟩:=ev_map hm c.key hi
  have hq:=hq2 (bkt c.key n) (bkt_lt hm.pw c.key).1
  refine (finish_frm cl_frm h.mem hP (fun k s=>∃ P d,s.2=(⟨.get P,0,d⟩:Cl)∧Gt.Rg ⟨M.ds,M.ss,M.xs,M.F,c.key,i,prs (cs (bkt c.key n)),(cs (bkt c.key n)).length⟩ (lm M) k (s.1,P)) (fun s=>∃ P,s.2=(⟨.get P,0,true⟩:Cl)∧Gt.Qg ⟨M.ds,M.ss,M.xs,M.F,c.key,i,prs (cs (bkt c.key n)),(cs (bkt c.key n)).length⟩ (lm M) (s.1,P))
   (lift_get (fun k s hs=>Gt.Rg.step hE ⟨rfl,rfl,rfl,rfl⟩ hs) 0) (5+(cs (bkt c.key n)).length) 30000 ⟨_,_,rfl,0,Gt.Gv.begin hE,by simp only; omega,rfl,rfl,rfl,rfl,rfl⟩ (by omega) (by omega)).mono fun e w' q=>?_
  obtain ⟨k,s,q1,_,⟨P,q4,q5,q6⟩,hI⟩:=q
  obtain ⟨M',a',g1,g2,g3,g4,g5,g6⟩:=fin_s h hP hlow hI
  have g3:lm M'=lm M:=g3.trans q5
  rw [q4] at g4
  have e1:M'.ss=M.ss:=congrArg Lm.ss g3
  have e2:M'.k=M.k:=congrArg Lm.k g3
  have q6:Gt.Fits (Pc.lk (prs (cs (bkt c.key n))) c.key) P.W:=q6
  rw [hlk] at q6
  refine ⟨⟨⟨k,q1⟩,g6⟩,M',a',_,n,B,G,cs,g1,g2,g4,g5,rfl,rfl,by rw [e1],e2,by rw [g3]; exact hnum1,hn8,by omega,.inr ⟨fun q=>by omega,?_,fun l' hl'=>?_⟩⟩
  · unfold docA
    rw [if_neg (by omega),if_pos hk]
    show ((0:Int),decide (P.W.found≠0),P.W.nd.val)=_
    rw [q6.1,q6.2]
  · unfold DocL at hl'
    rw [if_neg (fun q=>by omega),if_neg (fun q=>by omega)] at hl'
    rw [hl',g3]; exact hm
 ·
  obtain ⟨hh,hfr⟩:=k1 hk
  have eC:C=⟨.put (Pu.newPut hh i c.key c.val),0,false⟩:=by cases C; simp only at c1 c2 hfr; rw [c1,c2,hfr,h0]
  subst eC
  have hE:=hm.eok (key:=c.key) (val:=c.val) (i:=i) (hb:=hh) (by omega) hi1
  have hq:=hq2 (bkt c.key n) (bkt_lt hm.pw c.key).1
  refine (finish_frm cl_frm h.mem hP (fun k s=>∃ P d,s.2=(⟨.put P,0,d⟩:Cl)∧Rq (Mp.ep (lm M) n B cs c.key c.val i hh) k (s.1,P)) (fun s=>∃ P,s.2=(⟨.put P,0,true⟩:Cl)∧Qp (Mp.ep (lm M) n B cs c.key c.val i hh) (s.1,P))
   (lift_put (fun k s hs=>by
     obtain ⟨j,hj,hr⟩:=hs
     obtain ⟨h1,h2,h3,h4⟩:=hr.step hE
     refine ⟨hr.ok hE,h1,by omega,h3,fun hd=>?_⟩
     obtain ⟨j',hj',hr'⟩:=h4 hd
     exact ⟨j',by omega,hr'⟩) 0) (8+(cs (bkt c.key n)).length) 30000 ⟨_,_,rfl,(Rp.s (E:=Mp.ep (lm M) n B cs c.key c.val i hh) (4+(cs (bkt c.key n)).length) _ _ .a1).q (by omega)⟩ (by omega) (by omega)).mono fun e w' q=>?_
  obtain ⟨k,s,q1,_,⟨P,q4,q5⟩,hI⟩:=q
  obtain ⟨M',a',g1,g2,g3,g4,g5,g6⟩:=fin_s h hP hlow hI
  obtain ⟨m1,m2,m3⟩:=put_map hm (by omega) hi1 q5
  have hcz:=cz_put (by show B+bkt c.key n≠0; omega) q5
  have hcz:Cz (lm M) s.1:=hcz
  rw [q4] at g4
  rw [← g3] at hcz
  simp only at m1 m2 m3
  rcases m3 with ⟨p1,p2,p3⟩ | ⟨p1,p2,p3,p4,p5,cs',p6⟩
  · have g3:lm M'=lm M:=g3.trans p2
    have e1:M'.ss=M.ss:=congrArg Lm.ss g3
    have e2:M'.k=M.k:=congrArg Lm.k g3
    refine ⟨⟨⟨k,q1⟩,g6⟩,M',a',_,n,B,G,cs,g1,g2,g4,g5,rfl,m2,by rw [e1],e2,by rw [g3]; exact hnum1,hn8,by omega,.inl ⟨h0,hk,p1,?_,by rw [g3]; exact hm⟩⟩
    show (if P.err=0 then ((0:Int),decide (P.W.found≠0),(⟨#[]⟩:ByteArray)) else (P.err,false,⟨#[]⟩))=_
    rw [p3,if_neg (by omega)]
  · have e1:M'.ss=s.1.ss:=by rw [← g3]
    have e2:M'.k=s.1.k:=by rw [← g3]
    refine ⟨⟨⟨k,q1⟩,g6⟩,M',a',_,n,B,G+1,cs',g1,g2,g4,g5,rfl,m2,by rw [e1]; exact p4,by rw [e2]; exact p5,num_cz hnum hcz,hn8,by omega,.inr ⟨fun q=>?_,?_,fun l' hl'=>?_⟩⟩
    · have q3:freePl (lm M).ss=none:=q.2.2
      rw [q3] at p1
      simp at p1
    · unfold docA
      rw [if_neg (by omega),if_neg (by omega),if_pos hk]
      show (if P.err=0 then ((0:Int),decide (P.W.found≠0),(⟨#[]⟩:ByteArray)) else (P.err,false,⟨#[]⟩))=_
      rw [if_pos p2,m1]
    · unfold DocL at hl'
      rw [if_pos ⟨h0,hk⟩] at hl'
      rw [g3]
      exact p6 l' (upd_of hm.ln hl')
 ·
  obtain ⟨hh,hfr⟩:=k2 hk
  have eC:C=⟨.del (Dl.newDel hh i c.key),0,false⟩:=by cases C; simp only at c1 c2 hfr; rw [c1,c2,hfr,h0]
  subst eC
  have hE:=hm.eok (key:=c.key) (val:=⟨#[]⟩) (i:=i) (hb:=hh) (by omega) hi1
  have hq:=hq2 (bkt c.key n) (bkt_lt hm.pw c.key).1
  refine (finish_frm cl_frm h.mem hP (fun k s=>∃ P d,s.2=(⟨.del P,0,d⟩:Cl)∧Dl.Rdq (Mp.ep (lm M) n B cs c.key ⟨#[]⟩ i hh) k (s.1,P)) (fun s=>∃ P,s.2=(⟨.del P,0,true⟩:Cl)∧Dl.Qd (Mp.ep (lm M) n B cs c.key ⟨#[]⟩ i hh) (s.1,P))
   (lift_del (fun k s hs=>by
     obtain ⟨j,hj,hr⟩:=hs
     obtain ⟨h1,h2,h3,h4⟩:=Dl.Rd.step hE hr
     refine ⟨Dl.Rd.ok hE hr,h1,by omega,h3,fun hd=>?_⟩
     obtain ⟨j',hj',hr'⟩:=h4 hd
     exact ⟨j',by omega,hr'⟩) 0) (7+(cs (bkt c.key n)).length) 30000 ⟨_,_,rfl,(Dl.Rd.s (E:=Mp.ep (lm M) n B cs c.key ⟨#[]⟩ i hh) (4+(cs (bkt c.key n)).length) _ _ .a1).q (by omega)⟩ (by omega) (by omega)).mono fun e w' q=>?_
  obtain ⟨k,s,q1,_,⟨P,q4,W,hf,hz,q5⟩,hI⟩:=q
  obtain ⟨M',a',g1,g2,g3,g4,g5,g6⟩:=fin_s h hP hlow hI
  obtain ⟨m1,m2,m3,cs',m4⟩:=del_map hm hf
  injection q5 with q5 q6
  have hd:lm M'=delL (lm M) (B+bkt c.key n) W:=g3.trans q5
  have hlk:=fnd_lk hm hf
  have hval:=fnd_val hm hf hz
  rw [q4] at g4
  have q6:P=Dl.Ep.t (Mp.ep (lm M) n B cs c.key ⟨#[]⟩ i hh) 7 {Ep.H (Mp.ep (lm M) n B cs c.key ⟨#[]⟩ i hh) with holds:=false} W 0:=q6
  have e1:M'.ss=(lm M').ss:=rfl
  have e2:M'.k=(lm M').k:=rfl
  refine ⟨⟨⟨k,q1⟩,g6⟩,M',a',_,n,B,G,cs',g1,g2,g4,g5,rfl,by rw [q6]; rfl,by rw [e1,hd,m2],by rw [e2,hd,m3],num_cz hnum (by rw [hd]; exact cz_del (by omega)),hn8,by omega,.inr ⟨fun q=>by omega,?_,fun l' hl'=>?_⟩⟩
  · unfold docA
    rw [if_neg (by omega),if_neg (by omega),if_neg (by omega),if_pos hk]
    show ((0:Int),decide (P.W.found≠0),P.W.nd.val)=_
    rw [q6]
    show ((0:Int),decide (W.found≠0),W.nd.val)=_
    rw [hlk,hval]
  · unfold DocL at hl'
    rw [if_neg (fun q=>by omega),if_pos ⟨h0,hk⟩] at hl'
    rw [hd]
    exact m4 l' (del_of hm.ln hl')
 ·
  have hfr:=k3 hk
  have eC:C=⟨.rz (Zr.newRz i c.size),0,false⟩:=by cases C; simp only at c1 c2 hfr; rw [c1,c2,hfr,h0]
  subst eC
  cases hp:FM.power c.size with
  | false=>
    refine (finish_frm cl_frm h.mem hP (fun k s=>∃ P d,s.2=(⟨.rz P,0,d⟩:Cl)∧k=1∧(s.1,P)=(lm M,Zr.newRz i c.size)) (fun s=>∃ P,s.2=(⟨.rz P,0,true⟩:Cl)∧(s.1,P)=(lm M,{Zr.newRz i c.size with err:=5,nx:=12}))
     (lift_rz (R:=fun k s=>k=1∧s=(lm M,Zr.newRz i c.size)) (Q:=fun s=>s=(lm M,{Zr.newRz i c.size with err:=5,nx:=12})) (fun k s hs=>refuse_start hm hp k s hs) 0) 1 30000 ⟨_,_,rfl,rfl,rfl⟩ (by omega) (by omega)).mono fun e w' q=>?_
    obtain ⟨k,s,q1,_,⟨P,q4,q5⟩,hI⟩:=q
    obtain ⟨M',a',g1,g2,g3,g4,g5,g6⟩:=fin_s h hP hlow hI
    injection q5 with q5 q6
    have g3:lm M'=lm M:=g3.trans q5
    rw [q4] at g4
    have e1:M'.ss=M.ss:=congrArg Lm.ss g3
    have e2:M'.k=M.k:=congrArg Lm.k g3
    refine ⟨⟨⟨k,q1⟩,g6⟩,M',a',_,n,B,G,cs,g1,g2,g4,g5,rfl,rfl,by rw [e1],e2,by rw [g3]; exact hnum1,hn8,by omega,.inr ⟨fun q=>by omega,?_,fun l' hl'=>?_⟩⟩
    · unfold docA
      rw [if_neg (by omega),if_neg (by omega),if_neg (by omega),if_neg (by omega),if_neg (by rw [hp]; simp)]
      show (P.err,false,(⟨#[]⟩:ByteArray))=_
      rw [q6]
    · unfold DocL at hl'
      rw [if_neg (fun q=>by omega),if_neg (fun q=>by omega)] at hl'
      rw [hl',g3]; exact hm
  | true=>
    have hsz:=FM.power_bd hp
    obtain ⟨z,hz⟩:=Int.eq_ofNat_of_zero_le (show 0≤c.size by omega)
    have hz8:z≤256:=by omega
    rw [hz] at hp hP hlow
    obtain ⟨cc,x,tt,ca,hw,hc,hx,htt,hca⟩:=ways_to l.length n z hl hm.pw hp hn8 hz8
    have hone:=lone_start hm (by omega) hl hnum ht hp hw hc hx htt hca hi1
    refine (finish_frm cl_frm h.mem hP (fun k s=>∃ P d,s.2=(⟨.rz P,0,d⟩:Cl)∧Lone (lm M) (allh n cs) ⟨10+512*(t+1),1+8*(t+1),1+20000*((t:Int)+1)⟩ z l k (s.1,P)) (fun s=>∃ P,s.2=(⟨.rz P,0,true⟩:Cl)∧Qr (lm M) (allh n cs) ⟨10+512*(t+1),1+8*(t+1),1+20000*((t:Int)+1)⟩ z l s.1 P∧∀ i:Nat,(i:Int)<s.1.k→Cl.nth s.1.xs (2+i)=0)
     (lift_rz (R:=Lone (lm M) (allh n cs) ⟨10+512*(t+1),1+8*(t+1),1+20000*((t:Int)+1)⟩ z l) (Q:=fun s=>Qr (lm M) (allh n cs) ⟨10+512*(t+1),1+8*(t+1),1+20000*((t:Int)+1)⟩ z l s.1 s.2∧∀ i:Nat,(i:Int)<s.1.k→Cl.nth s.1.xs (2+i)=0) (fun k s hs=>hs.step) 0) (cc+10) 30000 ⟨_,_,rfl,hone⟩ (by omega) (by omega)).mono fun e w' q=>?_
    obtain ⟨k,s,q1,_,⟨P,q4,q5,q6⟩,hI⟩:=q
    obtain ⟨M',a',g1,g2,g3,g4,g5,g6⟩:=fin_s h hP hlow hI
    obtain ⟨p1,⟨B',cs',p2⟩,p3,p4,p5,p6⟩:=lone_end hm q5 q6
    rw [q4] at g4
    rw [← g3] at p2 p3 p4 p6
    refine ⟨⟨⟨k,q1⟩,by rw [hz]; exact g6⟩,M',a',_,z,B',G,cs',g1,g2,g4,g5,rfl,rfl,p3,p4,p6,hz8,by omega,.inr ⟨fun q=>by omega,?_,fun l' hl'=>?_⟩⟩
    · unfold docA
      rw [if_neg (by omega),if_neg (by omega),if_neg (by omega),if_neg (by omega),hz,if_pos hp]
      show (P.err,false,(⟨#[]⟩:ByteArray))=_
      rw [p1]
    · unfold DocL at hl'
      rw [if_neg (fun q=>by omega),if_neg (fun q=>by omega)] at hl'
      rw [hl']; exact p2
end
end Go.Proofs.YtpobbnllcoabhaaGreatDoor.Ca
namespace Go.Proofs.YtpobbnllcoabhaaGreatDoor.Ca
open Go Go.RowKit Hp K Fl Rw Hm Ar Mm Me LK Qs Wk Re LawSix Pc Pn Mq Pu Zp Mx LawTh Bs Dl Zr LawTen LawEl LawFn
set_option maxRecDepth 100000
theorem ini_done {i:Nat} {c:Ct} {C:Cl} (h:Ini i c C):C.done=false∧ans C=(0,false,⟨#[]⟩):=⟨h.1,by unfold ans; rw [h.1]; rfl⟩
def OneS (W0 w':World) (M:Mo) (A:Option Addr) (cap:Nat) (lr l:List Pr) (G t:Nat) (c:Ct) (x:Int×Bool×ByteArray):Prop:=
 ∃ (M':Mo) (n' B' G':Nat) (cs':Nat→List Mq.Hp),S11 W0 w' M' A cap lr∧M'.m=M.m∧M'.ss.length=M.ss.length∧M'.k=M.k∧Num1 (lm M') (t+1)∧n'≤256∧G'≤G+1∧
   ((chk c=0∧c.kind=1∧freePl M.ss=none∧x=(4,false,⟨#[]⟩)∧Mp (lm M') n' B' cs' l G')∨(¬(chk c=0∧c.kind=1∧freePl M.ss=none)∧x=docA l c∧∀ l',DocL l l' c→Mp (lm M') n' B' cs' l' G'))
set_option maxHeartbeats 4000000 in
theorem one_any {W0 w:World} {M:Mo} {A:Option Addr} {cap:Nat} {l lr:List Pr} {n B G t:Nat} {cs:Nat→List Mq.Hp} {c:Ct} {i:Nat} (h:S11 W0 w M A cap lr) (hm:Mp (lm M) n B cs l G) (hG:G≤900000) (hl:l.length≤30) (hnum:Num1 (lm M) t) (ht:t≤200) (hn8:n≤256) (hs8:c.size≤256∨65536<c.size) (hi:(i:Int)<M.k) (hk:c.key.size≤maxLen):
 Calls Tryz.prog 13 #[ptr M.m,.int .i64 i,ctv c] w fun e w'=>∃ x,e=.returned (.tuple #[anv x,.bool true])∧OneS W0 w' M A cap lr l G t c x∧Only (mfoot M) w w':=by
 obtain ⟨w1,hw1⟩:∃ w1,w1=w.alloc (.cells #[.int .i64 c.kind,.string c.key,.string c.val,.int .i64 c.size] 31):=⟨_,rfl⟩
 obtain ⟨w2,hw2⟩:∃ w2,w2=w1.alloc (.cells #[.int .i64 0,.bool false,.string ⟨#[]⟩] 36):=⟨_,rfl⟩
 have b1:Blk w1 w.heap.size 31 #[.int .i64 c.kind,.string c.key,.string c.val,.int .i64 c.size]:=by rw [hw1]; exact Blk.made w _ _
 have d1:Below w.heap.size w w1:=by rw [hw1]; exact below_1 _ _
 have b2:Blk w2 w1.heap.size 36 #[.int .i64 0,.bool false,.string ⟨#[]⟩]:=by rw [hw2]; exact Blk.made w1 _ _
 have d2:Below w1.heap.size w1 w2:=by rw [hw2]; exact below_1 _ _
 have b12:=b1.only (Only.ofBelow d2 (fun _=>False)) (by simp)
 have hzz:w.heap.size≤w1.heap.size:=d1.size
 have hd:=d1.trans (d2.mono d1.size)
 obtain ⟨p,hp⟩:∃ p,p=w.heap.size:=⟨_,rfl⟩
 have hs1:w1.heap.size=w.heap.size+1:=by rw [hw1]; exact Array.size_push _
 obtain ⟨q,hq0⟩:∃ q,q=w1.heap.size:=⟨_,rfl⟩
 have hq:q=p+1:=by omega
 rw [← hp] at b12
 rw [← hq0] at b2
 have p0:=b12.cell 0
 have p1:=b12.cell 1
 have p2:=b12.cell 2
 have p3:=b12.cell 3
 simp at p0 p1 p2 p3
 have lp:=b12.lt
 have S2:=h.down hd
 have hB0:=Lib.hid S2.below.size
 have hd':=Lib.hid hd
 have hqw:w.heap.size≤q:=by omega
 have HM:=Lib.hid S2.mem
 have hlow0:W0.heap.size≤q:=by have:=h.below.size; omega
 have hNw:=Lib.hid (fun w=>new_call i c hk w)
 have hFi:=Lib.hid (fun w3 a C (hb:Below w2.heap.size w2 w3) (hI:Ini i c C) (hP:clL.At w3 a C) (hlo:∀ x,clL.foot a C x→w2.heap.size≤x)=>call_s (S2.down hb) hm hG hl hnum ht hn8 hs8 hi hI hP (fun x hx=>Nat.le_trans S2.below.size (hlo x hx)))
 replace b2:=Lib.hid b2
 unfold ctv
 unfold ctv at hNw
 clear h hm hnum hd S2 b1 d1 d2 b12 hzz hk hs8
 go_enter Tryz.func13,Tryz.ntmps13
 go_upto_region 1 with (fail)
 rw [← hw1,← hw2,← hp,← hq]
 clear hw1 hw2 hp hq hq0 hs1
 go_wp2_with fail
 refine (hNw.out _).mono ?_
 rintro e w3 ⟨a,C,rfl,hI,hP,hlo,hb3⟩
 have hF3:=Lib.hid (fun w4 (hb:Below w3.heap.size w3 w4)=>hFi.out w4 a C (hb3.trans (hb.mono hb3.size)) hI (cl_frm.below hP hb) hlo)
 obtain ⟨i1,i2⟩:=ini_done hI
 have hR:=res_any hP
 rw [i1,i2] at hR
 have hb2':=b2.out.only (Only.ofBelow hb3 (fun _=>False)) (by simp)
 replace hR:=Lib.hid hR
 go_wp2_with fail
 refine hR.out.mono ?_
 rintro e w4 ⟨rfl,hb4⟩
 go_wp2_with fail
 have hb5:Below w3.heap.size w3 (w4.alloc (.cells #[.int .i64 0,.bool false,.string ⟨#[]⟩] 36)):=hb4.alloc hb4.size _
 have hF5:=hF3.out _ hb5
 have hq5:=b2.out.only (Only.ofBelow (hb3.trans (hb5.mono hb3.size)) (fun _=>False)) (by simp)
 generalize w4.alloc (.cells #[.int .i64 0,.bool false,.string ⟨#[]⟩] 36)=w5 at*
 refine hF5.mono ?_
 rintro e w6 ⟨⟨⟨k,rfl⟩,hO⟩,M',a',C',n',B',G',cs',s1,s2,s3,s4,s5,s6,s7,s8,s9,s10,s11,s12⟩
 have hlq:q<w2.heap.size:=b2.out.lt
 have hq6:=hq5.only hO (fun g=>by
  rcases g with g | g
  · exact (HM.out.below (hb3.trans (hb5.mono hb3.size))).ty g |>.apart (blk_ty hq5) (by decide)
  · have:=hlo q g; omega)
 have hO0:Only (mfoot M) w w6:=(Only.ofBelow (hd'.out.trans ((hb3.trans (hb5.mono hb3.size)).mono hd'.out.size)) (mfoot M)).trans' hO (fun x hx g=>g.elim id (fun g=>by have:=hlo x g; have:=hd'.out.size; omega))
 have hMn:=mine_any s3
 rw [s6,s4] at hMn
 have hRs:=Lib.hid (fun wx (hb:Below w6.heap.size w6 wx)=>by
  have:=res_any (cl_frm.below s3 hb)
  rw [s4,s5] at this
  exact this)
 have hEnd:=Lib.hid (fun wx (hb:Below w6.heap.size w6 wx) u1 u2 u3=>show OneS W0 (((wx.setCell ⟨q,0,none⟩ u1).setCell ⟨q,1,none⟩ u2).setCell ⟨q,2,none⟩ u3) M A cap lr l G t c (ans C')∧Only (mfoot M) w (((wx.setCell ⟨q,0,none⟩ u1).setCell ⟨q,1,none⟩ u2).setCell ⟨q,2,none⟩ u3) from by
  have hqx:=hq6.only (Only.ofBelow hb (fun _=>False)) (by simp)
  have hO3:=(((Only.refl (·=q) wx).setCell (p:=⟨q,0,none⟩) (.inl rfl) u1).setCell (p:=⟨q,1,none⟩) (.inl rfl) u2).setCell (p:=⟨q,2,none⟩) (.inl rfl) u3
  have sx:=s1.down hb
  refine ⟨⟨M',n',B',G',cs',sx.moved (sx.mem.only hO3 (fun x hx e=>by subst e; exact (sx.mem.ty hx).apart (blk_ty hqx) (by decide))) (fun x hx=>.inl hx) hO3 (fun x e=>by subst e; exact hlow0) (fun x hx e=>by subst e; exact sx.apart hx (by decide) (blk_ty hqx)),s2,s7,s8,s9,s10,s11,s12⟩,(hO0.below hb).trans' hO3 (fun x hx e=>by subst e; omega)⟩)
 have hQ:=Lib.hid (fun wx (hb:Below w6.heap.size w6 wx)=>hq6.only (Only.ofBelow hb (fun _=>False)) (by simp))
 generalize ans C'=x at*
 replace hMn:=Lib.hid hMn
 clear hF5 hF3 hq5 hq6 s1 s2 s3 s4 s5 s6 s7 s8 s9 s10 s11 s12 hO hlo hb3 hb4 hb5 hb2' hI hP hR hNw hFi p0 p1 p2 p3 lp HM i1 i2
 go_wp2_with fail
 refine hMn.out.mono ?_
 rintro e w7 ⟨rfl,hb7⟩
 have hR7:=Lib.hid (hRs.out w7 hb7)
 replace hb7:=Lib.hid hb7
 clear hMn hRs
 go_wp2_with fail
 refine hR7.out.mono ?_
 rintro e w8 ⟨rfl,hb8⟩
 have hb68:=hb7.out.trans (hb8.mono hb7.out.size)
 have hq8:=hQ.out w8 hb68
 have f0:=hq8.cell 0
 have f1:=hq8.cell 1
 have f2:=hq8.cell 2
 have z0:=hq8.frozen 0
 have z1:=hq8.frozen 1
 have z2:=hq8.frozen 2
 simp at f0 f1 f2
 have lq:=hq8.lt
 have hE8:=Lib.hid (hEnd.out w8 hb68 (.int .i64 x.1) (.bool x.2.1) (.string x.2.2))
 clear hR7 hEnd hQ hb7 hb8 hb68 hq8 b2
 go_wp2_with fail
 refine bodyPost_ret (v:=.tuple #[.agg #[.int .i64 x.1,.bool x.2.1,.string x.2.2],.bool true]) (by simp [results,Tryz.results13,go_sem,f0,f1,f2]) rfl ⟨x,rfl,hE8.out⟩
end Go.Proofs.YtpobbnllcoabhaaGreatDoor.Ca
namespace Go.Proofs.YtpobbnllcoabhaaGreatDoor.LawTh
open Go Go.RowKit Hp K Fl Rw Hm Ar Mm Me LK Qs Wk Pc Pn Mq Zp Mx Gw LawSix
set_option maxRecDepth 100000
theorem err_any {w:World} {a:Gl} {G:Gr} (h:GrAt w a G):Calls Tryz.prog 50 #[ptr a.f] w fun e w'=>e=.returned (.int .i64 G.err)∧w=w':=by
 have c:=(own_hd h.blk).2.2.2.1
 clear h
 go_enter Tryz.func50,Tryz.ntmps50
 go_wp2_with fail
 go_ret
 exact ⟨rfl,rfl⟩
/-! ### the example's steps are eight-/
def L0:Lm:=⟨[1,0,0,0],List.replicate 6 (-1),[.zero],false,1,[(1,3)],[]⟩
def it:Nat→Lm×Gr
 | 0=>(L0,newGro 0)
 | n+1=>gstep (it n).1 (it n).2
def g1:Gr:={newGro 0 with el:=(1,3),nx:=2}
def L2:Lm:={L0 with xs:=[1,0,0,0,0,0],ds:=[(1,3),(2,4)]}
def g2:Gr:={g1 with num:=1,err:=0,nw:=(2,4),nx:=3}
def g3:Gr:={g2 with half:=2,bucket:=1,nx:=6}
def L4:Lm:={L2 with xs:=[1,1,0,0,0,0]}
def g4:Gr:={g3 with W:=⟨0,0,0,0⟩,nx:=7}
def L5:Lm:={L4 with hs:=0::List.replicate 5 (-1)}
def g5:Gr:={g4 with W:=⟨0,1,0,0⟩}
def L6:Lm:={L5 with xs:=[2,1,0,0,0,0]}
def g6:Gr:={g5 with W:=⟨0,2,2,0⟩}
def g7:Gr:={g6 with W:=⟨0,3,2,1⟩}
def L8:Lm:={L6 with hs:=List.replicate 6 (-1)}
def g8:Gr:={g7 with W:=⟨0,4,2,1⟩,nx:=9}
theorem it1:it 1=(L0,g1):=by kernel_rfl
theorem it2:it 2=(L2,g2):=by
 show gstep (it 1).1 (it 1).2=_
 rw [it1]; kernel_rfl
theorem it3:it 3=(L2,g3):=by
 show gstep (it 2).1 (it 2).2=_
 rw [it2]; kernel_rfl
theorem it4:it 4=(L4,g4):=by
 show gstep (it 3).1 (it 3).2=_
 rw [it3]; kernel_rfl
theorem it5:it 5=(L5,g5):=by
 show gstep (it 4).1 (it 4).2=_
 rw [it4]; kernel_rfl
theorem it6:it 6=(L6,g6):=by
 show gstep (it 5).1 (it 5).2=_
 rw [it5]; kernel_rfl
theorem it7:it 7=(L6,g7):=by
 show gstep (it 6).1 (it 6).2=_
 rw [it6]; kernel_rfl
theorem it8:it 8=(L8,g8):=by
 show gstep (it 7).1 (it 7).2=_
 rw [it7]; kernel_rfl
theorem okg_of {L:Lm} {G:Gr} (h1:1≤G.nx∧G.nx≤8) (h2:1<L.xs.length∧0<L.hs.length∧L.ds.length≤900000) (h3:G.nx≠1→G.el.1≤65536∧G.el.2≤4000000) (h4:G.bucket≤1000000) (h5:G.pass.length≤100000∧G.later.length≤100000) (h6:G.later=[])
 (h7:G.nx=3→G.el.2+G.bucket<L.xs.length) (h8:G.nx=6→0≤G.num∧G.num≤1000000) (h9:G.nx=7→0≤L.k∧Qs.Okw L.k.toNat L.xs L.hs G.W) (n4:G.nx≠4) (n5:G.nx≠5) (n8:G.nx≠8):Okgr L G:=
 ⟨h1,h2.1,h2.2.1,h2.2.2,h3,h4,h5,fun _=>h6,h7,fun q=>absurd q n4,fun q=>absurd q n5,h8,h9,fun q=>absurd q n8⟩
theorem okw_of {L:Lm} {W:Wt} (hk:L.k=1) (h1:W.at_≤3) (h2:W.worker=0) (h3:0<L.hs.length) (h4:3≤L.xs.length) (h5:W.passed≤1000∧(W.at_≤2→W.passed<1)) (h6:W.at_≠0→Lo.hol L.hs 0=0):0≤L.k∧Qs.Okw L.k.toNat L.xs L.hs W:=by
 rw [hk]
 exact ⟨by omega,⟨by decide,h1,by omega,h3,h4,h5,by rw [h2]; exact h6⟩⟩
theorem it_ok (j:Nat) (hj:j≤7):Okgr (it j).1 (it j).2∧gready (it j).1 (it j).2=true∧gdone (it j).1 (it j).2=decide (j=7):=by
 have:j=0∨j=1∨j=2∨j=3∨j=4∨j=5∨j=6∨j=7:=by omega
 rcases this with rfl | rfl | rfl | rfl | rfl | rfl | rfl | rfl
 · exact ⟨okg_of (by decide) (by decide) (by decide) (by decide) (by decide) rfl (by decide) (by decide) (fun q=>absurd q (by decide)) (by decide) (by decide) (by decide),by kernel_rfl,by kernel_rfl⟩
 · rw [it1]; exact ⟨okg_of (by decide) (by decide) (by decide) (by decide) (by decide) rfl (by decide) (by decide) (fun q=>absurd q (by decide)) (by decide) (by decide) (by decide),by kernel_rfl,by kernel_rfl⟩
 · rw [it2]; exact ⟨okg_of (by decide) (by decide) (by decide) (by decide) (by decide) rfl (by decide) (by decide) (fun q=>absurd q (by decide)) (by decide) (by decide) (by decide),by kernel_rfl,by kernel_rfl⟩
 · rw [it3]; exact ⟨okg_of (by decide) (by decide) (by decide) (by decide) (by decide) rfl (by decide) (by decide) (fun q=>absurd q (by decide)) (by decide) (by decide) (by decide),by kernel_rfl,by kernel_rfl⟩
 · rw [it4]; exact ⟨okg_of (by decide) (by decide) (by decide) (by decide) (by decide) rfl (by decide) (by decide) (fun _=>okw_of rfl (by decide) rfl (by decide) (by decide) (by decide) (by decide)) (by decide) (by decide) (by decide),by kernel_rfl,by kernel_rfl⟩
 · rw [it5]; exact ⟨okg_of (by decide) (by decide) (by decide) (by decide) (by decide) rfl (by decide) (by decide) (fun _=>okw_of rfl (by decide) rfl (by decide) (by decide) (by decide) (by decide)) (by decide) (by decide) (by decide),by kernel_rfl,by kernel_rfl⟩
 · rw [it6]; exact ⟨okg_of (by decide) (by decide) (by decide) (by decide) (by decide) rfl (by decide) (by decide) (fun _=>okw_of rfl (by decide) rfl (by decide) (by decide) (by decide) (by decide)) (by decide) (by decide) (by decide),by kernel_rfl,by kernel_rfl⟩
 · rw [it7]; exact ⟨okg_of (by decide) (by decide) (by decide) (by decide) (by decide) rfl (by decide) (by decide) (fun _=>okw_of rfl (by decide) rfl (by decide) (by decide) (by decide) (by decide)) (by decide) (by decide) (by decide),by kernel_rfl,by kernel_rfl⟩
theorem low_gro {W0 a b:World} {M:Mo} {g:Gl} {G:Gr} (ha:Below W0.heap.size W0 a) (hlo:∀ x,mfoot M x→W0.heap.size≤x) (hg:∀ x,gfoot g G x→W0.heap.size≤x) (ho:Only (fun x=>mfoot M x∨gfoot g G x) a b):Below W0.heap.size W0 b:=
 ha.trans (ho.toBelow ha.size (fun x hx q=>by
  rcases q with q | q
  · have:=hlo x q; omega
  · have:=hg x q; omega))
set_option maxHeartbeats 2000000 in
theorem awake (w:World):Calls Tryz.prog 26 #[] w fun e w'=>e=.returned (.bool true)∧Below w.heap.size w w':=by
 have hN:=Lib.hid (made_yes 1 1 w (by omega) (by omega))
 have hA:=Lib.hid (fun w=>LawTen.awake w)
 have hNg:=Lib.hid (fun w=>new_grow 0 w)
 go_enter Tryz.func26,Tryz.ntmps26
 go_wp2_with fail
 refine hN.out.mono ?_
 rintro e w1 ⟨M,rfl,hM,hlo,hB,h1,h2,h3,h4,h5,h6,h7⟩
 have hL:lm M=L0:=by
  unfold lm L0
  rw [h1,h2,h3,h4,h5,h6,h7]
  rfl
 replace hL:=Lib.hid hL
 replace hM:=Lib.hid hM
 replace hlo:=Lib.hid hlo
 replace hB:=Lib.hid hB
 clear hN h1 h2 h3 h4 h5 h6 h7
 go_wp2_with fail
 refine (hNg.out _).mono ?_
 rintro e w2 ⟨a,rfl,hG2,hlow2,hB2⟩
 have hM2:=hM.out.below hB2
 have hB02:=Lib.hid (hB.out.trans (hB2.mono hB.out.size))
 have hlg:=Lib.hid (fun x hx=>Nat.le_trans hB.out.size (hlow2 x hx))
 have hFn:=finish_frm gro_frm hM2 (show grL.At w2 a (newGro 0) from hG2) (fun k s=>∃ j,j+k=8∧j≤7∧s=it j) (fun s=>s=it 8) (fun k s hs=>by
  obtain ⟨j,h1,h2,rfl⟩:=hs
  obtain ⟨a1,a2,a3⟩:=it_ok j h2
  refine ⟨a1,a2,by omega,fun hd=>?_,fun hd=>⟨j+1,by omega,?_,rfl⟩⟩
  · rw [a3] at hd
    have:j=7:=of_decide_eq_true hd
    subst this
    rfl
  · rw [a3] at hd
    have:¬j=7:=of_decide_eq_false hd
    omega) 8 100 ⟨0,by omega,by omega,by rw [hL.out]; rfl⟩ (by omega) (by omega)
 have hF2:Hid (Calls Tryz.prog 9 #[ptr M.m,.iface 112 (ptr a.f),.int .i64 100] w2 fun e w'=>∃ (n:Nat) (M':Mo) (a':Gl),e=.returned (.tuple #[.int .i64 n,.bool true])∧MemAt w' M'∧lm M'=L8∧M'.m=M.m∧GrAt w' a' g8∧a'.f=a.f∧Below w.heap.size w w'):=Lib.hid (hFn.mono fun e w' q=>by
  obtain ⟨n,s,q1,_,q2,M',a',r1,r2,r3,r4,r5,r6,r7⟩:=q
  rw [q2,it8] at r2 r4
  exact ⟨n,M',a',q1,r1,r2,r3.m,r4,r5,low_gro hB02.out hlo.out hlg.out r7⟩)
 clear hFn hNg hG2 hlow2 hB2 hM2 hM hB hL
 go_wp2_with fail
 refine hF2.out.mono ?_
 rintro e w3 ⟨n,M',a',rfl,hM3,hL3,em,hG3,ea,hB3⟩
 have x3:M'.xs=[2,1,0,0,0,0]:=congrArg Lm.xs hL3
 have d3:M'.ds=[(1,3),(2,4)]:=congrArg Lm.ds hL3
 have s3:M'.ss=[.zero]:=congrArg Lm.ss hL3
 have hE:=fun wx (hb:Below w3.heap.size w3 wx)=>err_any (hG3.below hb)
 rw [ea] at hE
 have hNw:=fun wx (hb:Below w3.heap.size w3 wx)=>now_any (hM3.below hb) (by rw [x3]; simp)
 have hRc:=fun wx (hb:Below w3.heap.size w3 wx)=>reach_any (hM3.below hb) (by
  rw [x3,d3]
  intro i hi
  have:i=0∨i=1:=by simp at hi; omega
  rcases this with rfl | rfl<;>decide) (by rw [x3]; simp) (by
  rw [s3]
  intro k
  rcases k with _ | k
  · decide
  · simp [at',List.getD]; decide) (by rw [s3]; simp) [] (by
  rw [x3,d3,s3]
  unfold Rch
  have h0:∀ b,b<2→first [2,1,0,0,0,0] [(1,3),(2,4)] b=0:=fun b hb=>by
   have:b=0∨b=1:=by omega
   rcases this with rfl | rfl<;>rfl
  have hst:∀ met,Ch [Sl.zero] met 0 []:=fun met=>.stop (.inl fun k hk=>by
   have:=hk.2.2
   omega)
  show Rh [Sl.zero] (first [2,1,0,0,0,0] [(1,3),(2,4)]) 2 []
  exact .succ (all:=[]) (t:=[]) (.succ (all:=[]) (t:=[]) .zero (by rw [h0 0 (by omega)]; exact hst _)) (by rw [h0 1 (by omega)]; exact hst _))
 have hnw:Me.now M'.xs M'.ds=(2,4):=by rw [x3,d3]; rfl
 have hge:g8.err=0:=rfl
 rw [hnw,em] at hNw
 rw [em] at hRc
 rw [hge] at hE
 unfold dv at hNw
 have hfd:∀ w,(Instr.field 76 (.agg #[.int .i64 2,.int .i64 4]) 0).run Tryz.prog w=.ok (.int .i64 2) w:=fun w=>rfl
 replace hE:=Lib.hid hE
 replace hNw:=Lib.hid hNw
 replace hRc:=Lib.hid hRc
 replace hB3:=Lib.hid hB3
 clear hF2 hM3 hL3 em hG3 ea x3 d3 s3 hnw hge hlo hlg hB02
 go_wp2_with fail
 refine (hA.out _).mono ?_
 rintro e w4 ⟨rfl,hB4⟩
 replace hB4:=Lib.hid hB4
 clear hA
 go_wp2_with fail
 refine (hE.out _ hB4.out).mono ?_
 rintro e w' ⟨rfl,rfl⟩
 clear hE
 go_wp2_with fail
 refine (hNw.out _ hB4.out).mono ?_
 rintro e w5 ⟨rfl,hB5⟩
 have hB35:=Lib.hid (hB4.out.trans (hB5.mono hB4.out.size))
 clear hB5 hB4 hNw
 go_wp2_with fail
 refine (hRc.out _ hB35.out).mono ?_
 rintro e w6 ⟨Ac,capc,rfl,hRw,hB6,hin⟩
 have hBx:=Lib.hid (hB3.out.trans ((hB35.out.trans (hB6.mono hB35.out.size)).mono hB3.out.size))
 clear hRw hin hB6 hB35 hB3 hRc
 go_wp2_with fail
 go_ret
 exact ⟨rfl,hBx.out⟩
end Go.Proofs.YtpobbnllcoabhaaGreatDoor.LawTh
