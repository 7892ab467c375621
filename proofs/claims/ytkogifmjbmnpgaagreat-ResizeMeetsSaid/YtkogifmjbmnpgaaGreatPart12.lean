/- Walks and plain mathematics, put together in their order: TwB, ThE, FoA, LocksHeld, FnC, MtA, RowMany, ThA, MtB, Sized, CapOf, PairsOf, StrsOf. -/
import Derived.Test.YtkogifmjbmnpgaaGreatPart11
import Derived.Test.YtkogifmjbmnpgaaGreatFinishN
import Derived.Test.YtkogifmjbmnpgaaGreatLocksWalk
import Derived.Test.YtkogifmjbmnpgaaGreatRowKit
import Derived.Test.YtkogifmjbmnpgaaGreatMemReach
import Derived.Deep.Upon
import Derived.Deep.CutBlock
import Derived.Deep.RegionHeld3
import Derived.SizedLaws
import Derived.ProofKit
import Derived.OpenShut
import Derived.Laws.Cover1
set_option linter.unusedVariables false
set_option linter.unusedSimpArgs false
namespace Go.Proofs.YtkogifmjbmnpgaaGreat.LawTw
open Go Go.RowKit Hp K Fl Rw Hm Ar Mm Me LK Qs Wk Re LawSix Pn Pc Mq Pu LawTen LawEl Dl
set_option maxRecDepth 100000
section
variable {L:Lm} {n B:Nat} {cs:Nat→List Mq.Hp} {l l':List Pr} {G:Nat} {key val:ByteArray} {i:Int} {hb:Nat}
theorem fnd_val (h:Mp L n B cs l G) {W:Wa} (hf:Fnd (Mp.ep L n B cs key val i hb) W) (hz:W.found=0→W.nd=.zero):W.nd.val=(Pc.lk l key).getD ⟨#[]⟩:=by
 have hq:=hf
 rw [h.lk]
 rcases hf with ⟨h0,hk,_⟩ | ⟨pre,x,p,t,z,k,hq,hp,hx,hk,hnd,hW,hc,hpv⟩
 · have:Pc.lk (prs (cs (bkt key n))) key=none:=lk_none.2 (by simpa using hk)
   rw [this,hz h0]
   rfl
 · have hm:p∈prs (cs (bkt key n)):=by
    have hq:cs (bkt key n)=_:=hq
    rw [hq]
    simp
   have hp:p.1=key:=hp
   have hn:((prs (cs (bkt key n))).map (·.1)).Nodup:=by
    rw [kys_prs]
    exact h.kd _ (bkt_lt h.pw key).1
   have:=lk_mem hn hm
   rw [hp] at this
   rw [this,hW]
   rfl
end
def DelS (W0 w w':World) (M:Mo) (A:Option Addr) (cap:Nat) (lr l:List Pr) (n B G:Nat) (key:ByteArray) (a:Qa):Prop:=
 ∃ (M':Mo) (a':Qa) (D':Dt),S11 W0 w' M' A cap lr∧M'.m=M.m∧DeAt w' a' D'∧a'.f=a.f∧D'.mine=0∧decide (D'.W.found≠0)=(Pc.lk l key).isSome∧D'.W.nd.val=(Pc.lk l key).getD ⟨#[]⟩∧M'.ss.length=M.ss.length∧M'.k=M.k∧Still (memTypes++delTypes) w w'∧
   M'.ws.length=M.ws.length+(if (Pc.lk l key).isSome then 1 else 0)∧∃ cs',∀ l',Del l l' key→Mp (lm M') n B cs' l' G
theorem del_s {W0 w:World} {M:Mo} {A:Option Addr} {cap:Nat} {l lr:List Pr} {n B:Nat} {cs:Nat→List Mq.Hp} {G:Nat} (h:S11 W0 w M A cap lr) (hm:Mp (lm M) n B cs l G) (hG:G≤1000000) {a:Qa} {hh:Nat} {i:Int} {key:ByteArray} (hi:0≤i∧i≤1000) (hP:DeAt w a (newDel hh i key)) (hlow:∀ x,dfoot a (newDel hh i key) x→W0.heap.size≤x) (K:Nat) (hc:∀ b,b<n→(cs b).length+8≤K) (hK:K≤1000000):
 Calls Tryz.prog 9 #[ptr M.m,.iface 44 (ptr a.f),.int .i64 K] w fun e w'=>(∃ (k:Nat) (s:Lm×Dt),e=.returned (.tuple #[.int .i64 k,.bool true])∧fin (fun s:Lm×Dt=>dready s.1 s.2) (fun s=>dstep s.1 s.2) (fun s=>ddone s.1 s.2) K (lm M,newDel hh i key)=(k,true,s))∧DelS W0 w w' M A cap lr l n B G key a:=by
 have hE:=hm.eok (key:=key) (val:=⟨#[]⟩) (i:=i) (hb:=hh) hG hi
 have hcl:=hc (bkt key n) (bkt_lt hm.pw key).1
 refine (del_ends h.mem hP hE K ⟨by omega,hK⟩).mono fun e w' q=>?_
 obtain ⟨k,s,q1,⟨_,q2⟩,⟨W,hf,hz,rfl⟩,M',a',r1,r2,r3,r4,r5,r7,r8⟩:=q
 obtain ⟨m1,m2,m3,cs',m4⟩:=del_map hm hf
 have hd:lm M'=delL (lm M) (B+bkt key n) W:=r2
 refine ⟨⟨k,_,q1,q2⟩,M',a',_,h.moved r1 r3.foot r8 (fun x q=>?_) (fun x hx q=>?_),r3.m,r4,r5,rfl,fnd_lk hm hf,fnd_val hm hf hz,?_,?_,still_only r8 (fun x q=>?_),?_,cs',?_⟩
 · rcases q with q | q
   · exact h.lom x q
   · exact hlow x q
 · rcases q with q | q
   · exact h.ap_mem hx q
   · exact h.apart hx (by decide) (hP.ty q)
 · have e:M'.ss=(lm M').ss:=rfl
   rw [e,hd,m2]
 · have e:M'.k=(lm M').k:=rfl
   rw [e,hd,m3]
 · rcases q with q | q
   · exact (h.mem.ty q).mono (fun t ht=>List.mem_append_left _ ht)
   · exact (hP.ty q).mono (fun t ht=>List.mem_append_right _ ht)
 · have e:M'.ws=(lm M').ws:=rfl
   rw [e,hd,m1]
 · rw [hd]
   exact m4
def L0:Lm:=⟨[1,0,0,0],List.replicate 6 (-1),[.zero],false,1,[(1,3)],[]⟩
theorem five (h k:Nat) (s:Lm×Dt) (e:fin (fun s:Lm×Dt=>dready s.1 s.2) (fun s=>dstep s.1 s.2) (fun s=>ddone s.1 s.2) 50 (L0,newDel h 0 kA)=(k,true,s)):k=5:=by
 have:(fin (fun s:Lm×Dt=>dready s.1 s.2) (fun s=>dstep s.1 s.2) (fun s=>ddone s.1 s.2) 50 (L0,newDel h 0 kA)).1=5:=by kernel_rfl
 rw [e] at this
 exact this
set_option maxHeartbeats 2000000 in
theorem awake (w:World):Calls Tryz.prog 25 #[] w fun e w'=>e=.returned (.bool true)∧Below w.heap.size w w':=by
 have hN:=Lib.hid (made_yes 1 1 w (by omega) (by omega))
 have hA:=Lib.hid (fun w=>LawEl.awake w)
 have lA:kA.size≤maxLen:=by simp only [maxLen]; decide
 have hNd:=Lib.hid (fun w=>Dl.new_any 0 kA lA w)
 clear lA
 go_enter Tryz.func25,Tryz.ntmps25
 go_wp2_with fail
 refine hN.out.mono ?_
 rintro e w1 ⟨M,rfl,hMd⟩
 have hmp:=mp_made hMd (by omega) (by omega)
 obtain ⟨hM,hlo,hB,h1,h2,h3,h4,h5,h6,h7⟩:=hMd
 have hL:lm M=L0:=by
  unfold lm L0
  rw [h1,h2,h3,h4,h5,h6,h7]
  rfl
 have hS:S11 w w1 M none 0 []:=⟨hM,Row.nil _ _ _ _,hB,hlo,by simp [In]⟩
 have hw0:M.ws.length=0:=by rw [h7]; rfl
 replace hmp:=Lib.hid hmp
 replace hL:=Lib.hid hL
 replace hS:=Lib.hid hS
 replace hw0:=Lib.hid hw0
 clear hN hM hlo hB h1 h2 h3 h4 h5 h6 h7
 go_wp2_with fail
 refine (hNd.out _).mono ?_
 rintro e w2 ⟨a,hh,rfl,hD2,hl2,hB2⟩
 have hFn:=del_s (hS.out.down hB2) hmp.out (by omega) (i:=0) (by omega) hD2 (fun x hx=>Nat.le_trans hS.out.below.size (hl2 x hx)) 50 (fun b hb=>by simp) (by omega)
 have hF2:=hFn.mono fun e w' q=>show e=.returned (.tuple #[.int .i64 5,.bool true])∧DelS w w2 w' M none 0 [] [] 1 3 0 kA a from by
  obtain ⟨⟨k,s,q1,q2⟩,q3⟩:=q
  rw [hL.out] at q2
  have:=five _ _ _ q2
  subst this
  exact ⟨q1,q3⟩
 replace hF2:=Lib.hid hF2
 clear hFn hNd hD2 hl2 hB2 hL hmp hS
 go_wp2_with fail
 refine hF2.out.mono ?_
 rintro e w3 ⟨rfl,M',a',D',hS3,em,hD3,ea,hmi,hfd,hvl,hsl,hk,hst,hws,_⟩
 have hH:=Dl.had_any hD3
 rw [hfd,hvl,ea] at hH
 simp only [Pc.lk] at hH hws
 have hws3:M'.ws.length=0:=by rw [hws,hw0.out]; rfl
 replace hH:=Lib.hid hH
 have hW:=fun w4 (hb:Below w3.heap.size w3 w4)=>waiting_any (hS3.mem.below hb)
 rw [hws3,em] at hW
 replace hW:=Lib.hid hW
 have hB3:=Lib.hid hS3.below
 clear hF2 hS3 hD3 em ea hmi hfd hvl hsl hk hst hws hws3 hw0
 go_wp2_with fail
 refine hH.out.mono ?_
 rintro e w4 ⟨rfl,hB4⟩
 clear hH
 go_wp2_with fail
 refine (hA.out _).mono ?_
 rintro e w5 ⟨rfl,hB5⟩
 have hB35:=hB4.trans (hB5.mono hB4.size)
 have hW5:=Lib.hid (hW.out w5 hB35)
 have hB05:=Lib.hid (hB3.out.trans (hB35.mono hB3.out.size))
 clear hA hB4 hB5 hB35 hB3 hW
 go_wp2_with fail
 refine hW5.out.mono ?_
 rintro e w6 ⟨rfl,rfl⟩
 clear hW5
 go_wp2_with fail
 go_ret
 exact ⟨rfl,hB05.out⟩
end Go.Proofs.YtkogifmjbmnpgaaGreat.LawTw
namespace Go.Proofs.YtkogifmjbmnpgaaGreat.LawTh
open Go Go.RowKit Hp K Fl Rw Hm Ar Mm Me LK Qs Wk Pc Pn Mq Zp Mx Gw LawSix
set_option maxRecDepth 100000
theorem err_any {w:World} {a:Gl} {G:Gr} (h:GrAt w a G):Calls Tryz.prog 61 #[ptr a.f] w fun e w'=>e=.returned (.int .i64 G.err)∧w=w':=by
 have c:=(own_hd h.blk).2.2.2.1
 clear h
 go_enter Tryz.func61,Tryz.ntmps61
 go_wp2_with fail
 go_ret
 exact ⟨rfl,rfl⟩
/-! ### the example's steps are eight-/
def L0:Lm:=⟨[1,0,0,0],List.replicate 6 (-1),[.zero],false,1,[(1,3)],[]⟩
def it:Nat→Lm×Gr
 | 0=>(L0,newGro 0)
 | n+1=>gstep (it n).1 (it n).2
def g1:Gr:={newGro 0 with el:=(1,3),nx:=2}
def L2:Lm:={L0 with xs:=[1,0,0,0,0,0],ds:=[(1,3),(2,4)]}
def g2:Gr:={g1 with num:=1,err:=0,nw:=(2,4),nx:=3}
def g3:Gr:={g2 with half:=2,bucket:=1,nx:=6}
def L4:Lm:={L2 with xs:=[1,1,0,0,0,0]}
def g4:Gr:={g3 with W:=⟨0,0,0,0⟩,nx:=7}
def L5:Lm:={L4 with hs:=0::List.replicate 5 (-1)}
def g5:Gr:={g4 with W:=⟨0,1,0,0⟩}
def L6:Lm:={L5 with xs:=[2,1,0,0,0,0]}
def g6:Gr:={g5 with W:=⟨0,2,2,0⟩}
def g7:Gr:={g6 with W:=⟨0,3,2,1⟩}
def L8:Lm:={L6 with hs:=List.replicate 6 (-1)}
def g8:Gr:={g7 with W:=⟨0,4,2,1⟩,nx:=9}
theorem it1:it 1=(L0,g1):=by kernel_rfl
theorem it2:it 2=(L2,g2):=by
 show gstep (it 1).1 (it 1).2=_
 rw [it1]; kernel_rfl
theorem it3:it 3=(L2,g3):=by
 show gstep (it 2).1 (it 2).2=_
 rw [it2]; kernel_rfl
theorem it4:it 4=(L4,g4):=by
 show gstep (it 3).1 (it 3).2=_
 rw [it3]; kernel_rfl
theorem it5:it 5=(L5,g5):=by
 show gstep (it 4).1 (it 4).2=_
 rw [it4]; kernel_rfl
theorem it6:it 6=(L6,g6):=by
 show gstep (it 5).1 (it 5).2=_
 rw [it5]; kernel_rfl
theorem it7:it 7=(L6,g7):=by
 show gstep (it 6).1 (it 6).2=_
 rw [it6]; kernel_rfl
theorem it8:it 8=(L8,g8):=by
 show gstep (it 7).1 (it 7).2=_
 rw [it7]; kernel_rfl
theorem okg_of {L:Lm} {G:Gr} (h1:1≤G.nx∧G.nx≤8) (h2:1<L.xs.length∧0<L.hs.length∧L.ds.length≤900000) (h3:G.nx≠1→G.el.1≤65536∧G.el.2≤4000000) (h4:G.bucket≤1000000) (h5:G.pass.length≤100000∧G.later.length≤100000) (h6:G.later=[])
 (h7:G.nx=3→G.el.2+G.bucket<L.xs.length) (h8:G.nx=6→0≤G.num∧G.num≤1000000) (h9:G.nx=7→0≤L.k∧Qs.Okw L.k.toNat L.xs L.hs G.W) (n4:G.nx≠4) (n5:G.nx≠5) (n8:G.nx≠8):Okgr L G:=
 ⟨h1,h2.1,h2.2.1,h2.2.2,h3,h4,h5,fun _=>h6,h7,fun q=>absurd q n4,fun q=>absurd q n5,h8,h9,fun q=>absurd q n8⟩
theorem okw_of {L:Lm} {W:Wt} (hk:L.k=1) (h1:W.at_≤3) (h2:W.worker=0) (h3:0<L.hs.length) (h4:3≤L.xs.length) (h5:W.passed≤1000∧(W.at_≤2→W.passed<1)) (h6:W.at_≠0→Lo.hol L.hs 0=0):0≤L.k∧Qs.Okw L.k.toNat L.xs L.hs W:=by
 rw [hk]
 exact ⟨by omega,⟨by decide,h1,by omega,h3,h4,h5,by rw [h2]; exact h6⟩⟩
theorem it_ok (j:Nat) (hj:j≤7):Okgr (it j).1 (it j).2∧gready (it j).1 (it j).2=true∧gdone (it j).1 (it j).2=decide (j=7):=by
 have:j=0∨j=1∨j=2∨j=3∨j=4∨j=5∨j=6∨j=7:=by omega
 rcases this with rfl | rfl | rfl | rfl | rfl | rfl | rfl | rfl
 · exact ⟨okg_of (by decide) (by decide) (by decide) (by decide) (by decide) rfl (by decide) (by decide) (fun q=>absurd q (by decide)) (by decide) (by decide) (by decide),by kernel_rfl,by kernel_rfl⟩
 · rw [it1]; exact ⟨okg_of (by decide) (by decide) (by decide) (by decide) (by decide) rfl (by decide) (by decide) (fun q=>absurd q (by decide)) (by decide) (by decide) (by decide),by kernel_rfl,by kernel_rfl⟩
 · rw [it2]; exact ⟨okg_of (by decide) (by decide) (by decide) (by decide) (by decide) rfl (by decide) (by decide) (fun q=>absurd q (by decide)) (by decide) (by decide) (by decide),by kernel_rfl,by kernel_rfl⟩
 · rw [it3]; exact ⟨okg_of (by decide) (by decide) (by decide) (by decide) (by decide) rfl (by decide) (by decide) (fun q=>absurd q (by decide)) (by decide) (by decide) (by decide),by kernel_rfl,by kernel_rfl⟩
 · rw [it4]; exact ⟨okg_of (by decide) (by decide) (by decide) (by decide) (by decide) rfl (by decide) (by decide) (fun _=>okw_of rfl (by decide) rfl (by decide) (by decide) (by decide) (by decide)) (by decide) (by decide) (by decide),by kernel_rfl,by kernel_rfl⟩
 · rw [it5]; exact ⟨okg_of (by decide) (by decide) (by decide) (by decide) (by decide) rfl (by decide) (by decide) (fun _=>okw_of rfl (by decide) rfl (by decide) (by decide) (by decide) (by decide)) (by decide) (by decide) (by decide),by kernel_rfl,by kernel_rfl⟩
 · rw [it6]; exact ⟨okg_of (by decide) (by decide) (by decide) (by decide) (by decide) rfl (by decide) (by decide) (fun _=>okw_of rfl (by decide) rfl (by decide) (by decide) (by decide) (by decide)) (by decide) (by decide) (by decide),by kernel_rfl,by kernel_rfl⟩
 · rw [it7]; exact ⟨okg_of (by decide) (by decide) (by decide) (by decide) (by decide) rfl (by decide) (by decide) (fun _=>okw_of rfl (by decide) rfl (by decide) (by decide) (by decide) (by decide)) (by decide) (by decide) (by decide),by kernel_rfl,by kernel_rfl⟩
theorem low_gro {W0 a b:World} {M:Mo} {g:Gl} {G:Gr} (ha:Below W0.heap.size W0 a) (hlo:∀ x,mfoot M x→W0.heap.size≤x) (hg:∀ x,gfoot g G x→W0.heap.size≤x) (ho:Only (fun x=>mfoot M x∨gfoot g G x) a b):Below W0.heap.size W0 b:=
 ha.trans (ho.toBelow ha.size (fun x hx q=>by
  rcases q with q | q
  · have:=hlo x q; omega
  · have:=hg x q; omega))
set_option maxHeartbeats 2000000 in
theorem awake (w:World):Calls Tryz.prog 26 #[] w fun e w'=>e=.returned (.bool true)∧Below w.heap.size w w':=by
 have hN:=Lib.hid (made_yes 1 1 w (by omega) (by omega))
 have hA:=Lib.hid (fun w=>LawTen.awake w)
 have hNg:=Lib.hid (fun w=>new_grow 0 w)
 go_enter Tryz.func26,Tryz.ntmps26
 go_wp2_with fail
 refine hN.out.mono ?_
 rintro e w1 ⟨M,rfl,hM,hlo,hB,h1,h2,h3,h4,h5,h6,h7⟩
 have hL:lm M=L0:=by
  unfold lm L0
  rw [h1,h2,h3,h4,h5,h6,h7]
  rfl
 replace hL:=Lib.hid hL
 replace hM:=Lib.hid hM
 replace hlo:=Lib.hid hlo
 replace hB:=Lib.hid hB
 clear hN h1 h2 h3 h4 h5 h6 h7
 go_wp2_with fail
 refine (hNg.out _).mono ?_
 rintro e w2 ⟨a,rfl,hG2,hlow2,hB2⟩
 have hM2:=hM.out.below hB2
 have hB02:=Lib.hid (hB.out.trans (hB2.mono hB.out.size))
 have hlg:=Lib.hid (fun x hx=>Nat.le_trans hB.out.size (hlow2 x hx))
 have hFn:=finish_frm gro_frm hM2 (show grL.At w2 a (newGro 0) from hG2) (fun k s=>∃ j,j+k=8∧j≤7∧s=it j) (fun s=>s=it 8) (fun k s hs=>by
  obtain ⟨j,h1,h2,rfl⟩:=hs
  obtain ⟨a1,a2,a3⟩:=it_ok j h2
  refine ⟨a1,a2,by omega,fun hd=>?_,fun hd=>⟨j+1,by omega,?_,rfl⟩⟩
  · rw [a3] at hd
    have:j=7:=of_decide_eq_true hd
    subst this
    rfl
  · rw [a3] at hd
    have:¬j=7:=of_decide_eq_false hd
    omega) 8 100 ⟨0,by omega,by omega,by rw [hL.out]; rfl⟩ (by omega) (by omega)
 have hF2:Hid (Calls Tryz.prog 9 #[ptr M.m,.iface 124 (ptr a.f),.int .i64 100] w2 fun e w'=>∃ (n:Nat) (M':Mo) (a':Gl),e=.returned (.tuple #[.int .i64 n,.bool true])∧MemAt w' M'∧lm M'=L8∧M'.m=M.m∧GrAt w' a' g8∧a'.f=a.f∧Below w.heap.size w w'):=Lib.hid (hFn.mono fun e w' q=>by
  obtain ⟨n,s,q1,_,q2,M',a',r1,r2,r3,r4,r5,r6,r7⟩:=q
  rw [q2,it8] at r2 r4
  exact ⟨n,M',a',q1,r1,r2,r3.m,r4,r5,low_gro hB02.out hlo.out hlg.out r7⟩)
 clear hFn hNg hG2 hlow2 hB2 hM2 hM hB hL
 go_wp2_with fail
 refine hF2.out.mono ?_
 rintro e w3 ⟨n,M',a',rfl,hM3,hL3,em,hG3,ea,hB3⟩
 have x3:M'.xs=[2,1,0,0,0,0]:=congrArg Lm.xs hL3
 have d3:M'.ds=[(1,3),(2,4)]:=congrArg Lm.ds hL3
 have s3:M'.ss=[.zero]:=congrArg Lm.ss hL3
 have hE:=fun wx (hb:Below w3.heap.size w3 wx)=>err_any (hG3.below hb)
 rw [ea] at hE
 have hNw:=fun wx (hb:Below w3.heap.size w3 wx)=>now_any (hM3.below hb) (by rw [x3]; simp)
 have hRc:=fun wx (hb:Below w3.heap.size w3 wx)=>reach_any (hM3.below hb) (by
  rw [x3,d3]
  intro i hi
  have:i=0∨i=1:=by simp at hi; omega
  rcases this with rfl | rfl<;>decide) (by rw [x3]; simp) (by
  rw [s3]
  intro k
  rcases k with _ | k
  · decide
  · simp [at',List.getD]; decide) (by rw [s3]; simp) [] (by
  rw [x3,d3,s3]
  unfold Rch
  have h0:∀ b,b<2→first [2,1,0,0,0,0] [(1,3),(2,4)] b=0:=fun b hb=>by
   have:b=0∨b=1:=by omega
   rcases this with rfl | rfl<;>rfl
  have hst:∀ met,Ch [Sl.zero] met 0 []:=fun met=>.stop (.inl fun k hk=>by
   have:=hk.2.2
   omega)
  show Rh [Sl.zero] (first [2,1,0,0,0,0] [(1,3),(2,4)]) 2 []
  exact .succ (all:=[]) (t:=[]) (.succ (all:=[]) (t:=[]) .zero (by rw [h0 0 (by omega)]; exact hst _)) (by rw [h0 1 (by omega)]; exact hst _))
 have hnw:Me.now M'.xs M'.ds=(2,4):=by rw [x3,d3]; rfl
 have hge:g8.err=0:=rfl
 rw [hnw,em] at hNw
 rw [em] at hRc
 rw [hge] at hE
 unfold dv at hNw
 have hfd:∀ w,(Instr.field 51 (.agg #[.int .i64 2,.int .i64 4]) 0).run Tryz.prog w=.ok (.int .i64 2) w:=fun w=>rfl
 replace hE:=Lib.hid hE
 replace hNw:=Lib.hid hNw
 replace hRc:=Lib.hid hRc
 replace hB3:=Lib.hid hB3
 clear hF2 hM3 hL3 em hG3 ea x3 d3 s3 hnw hge hlo hlg hB02
 go_wp2_with fail
 refine (hA.out _).mono ?_
 rintro e w4 ⟨rfl,hB4⟩
 replace hB4:=Lib.hid hB4
 clear hA
 go_wp2_with fail
 refine (hE.out _ hB4.out).mono ?_
 rintro e w' ⟨rfl,rfl⟩
 clear hE
 go_wp2_with fail
 refine (hNw.out _ hB4.out).mono ?_
 rintro e w5 ⟨rfl,hB5⟩
 have hB35:=Lib.hid (hB4.out.trans (hB5.mono hB4.out.size))
 clear hB5 hB4 hNw
 go_wp2_with fail
 refine (hRc.out _ hB35.out).mono ?_
 rintro e w6 ⟨Ac,capc,rfl,hRw,hB6,hin⟩
 have hBx:=Lib.hid (hB3.out.trans ((hB35.out.trans (hB6.mono hB35.out.size)).mono hB3.out.size))
 clear hRw hin hB6 hB35 hB3 hRc
 go_wp2_with fail
 go_ret
 exact ⟨rfl,hBx.out⟩
end Go.Proofs.YtkogifmjbmnpgaaGreat.LawTh
namespace Go.Proofs.YtkogifmjbmnpgaaGreat.LawFo
open Go Go.RowKit Hp K Fl Rw Hm Ar Mm Me LK Qs Wk Pc Pn Mx Sw LawSix
set_option maxRecDepth 100000
abbrev L0:Lm:=⟨[1,0,0,0],[-1, -1, -1, -1, -1, -1],[.zero],false,1,[(1,3)],[]⟩
abbrev s1:Sh:=⟨0,2,0,(1,3),(0,0),0,0,0,0,0,0,[],⟨0,0,0,0⟩⟩
abbrev s2:Sh:=⟨0,10,5,(1,3),(0,0), -1,0,0,0,0,0,[],⟨0,0,0,0⟩⟩
theorem st0:sstep L0 (newShr 0)=(L0,s1):=by kernel_rfl
theorem st1:sstep L0 s1=(L0,s2):=by kernel_rfl
theorem okA:Oksh L0 (newShr 0)∧sready L0 (newShr 0)=true∧sdone L0 (newShr 0)=false:=
 ⟨⟨by decide,by decide,by decide,by decide,by decide,by decide,by decide,by decide,by decide,by decide,fun q=>absurd q (by decide),fun q=>absurd q (by decide),by decide,by decide,fun q=>absurd q (by decide)⟩,by kernel_rfl,by kernel_rfl⟩
theorem okB:Oksh L0 s1∧sready L0 s1=true∧sdone L0 s1=true:=
 ⟨⟨by decide,by decide,by decide,by decide,by decide,by decide,by decide,by decide,by decide,by decide,fun q=>absurd q (by decide),fun q=>absurd q (by decide),by decide,by decide,fun q=>absurd q (by decide)⟩,by kernel_rfl,by kernel_rfl⟩
theorem low_shr {W0 a b:World} {M:Mo} {g:Sc} {G:Sh} (ha:Below W0.heap.size W0 a) (hlo:∀ x,mfoot M x→W0.heap.size≤x) (hg:∀ x,sfoot g G x→W0.heap.size≤x) (ho:Only (fun x=>mfoot M x∨sfoot g G x) a b):Below W0.heap.size W0 b:=
 ha.trans (ho.toBelow ha.size (fun x hx q=>by
  rcases q with q | q
  · have:=hlo x q; omega
  · have:=hg x q; omega))
set_option maxHeartbeats 2000000 in
theorem awake (w:World):Calls Tryz.prog 27 #[] w fun e w'=>e=.returned (.bool true)∧Below w.heap.size w w':=by
 have hN:=Lib.hid (made_yes 1 1 w (by omega) (by omega))
 have hA:=Lib.hid (fun w=>LawTh.awake w)
 have hNg:=Lib.hid (fun w=>new_shrink 0 w)
 go_enter Tryz.func27,Tryz.ntmps27
 go_wp2_with fail
 refine hN.out.mono ?_
 rintro e w1 ⟨M,rfl,hM,hlo,hB,h1,h2,h3,h4,h5,h6,h7⟩
 have hL:lm M=L0:=by
  unfold lm L0
  rw [h1,h2,h3,h4,h5,h6,h7]
  rfl
 replace hL:=Lib.hid hL
 replace hM:=Lib.hid hM
 replace hlo:=Lib.hid hlo
 replace hB:=Lib.hid hB
 clear hN h1 h2 h3 h4 h5 h6 h7
 go_wp2_with fail
 refine (hNg.out _).mono ?_
 rintro e w2 ⟨a,rfl,hG2,hlow2,hB2⟩
 have hM2:=hM.out.below hB2
 have hB02:=Lib.hid (hB.out.trans (hB2.mono hB.out.size))
 have hlg:=Lib.hid (fun x hx=>Nat.le_trans hB.out.size (hlow2 x hx))
 have hFn:=finish_frm shr_frm hM2 (show shL.At w2 a (newShr 0) from hG2) (fun k s=>(k=2∧s=(L0,newShr 0))∨(k=1∧s=(L0,s1))) (fun s=>s=(L0,s2)) (fun k s hs=>by
  rcases hs with ⟨rfl,rfl⟩ | ⟨rfl,rfl⟩
  · obtain ⟨a1,a2,a3⟩:=okA
    exact ⟨a1,a2,by omega,fun hd=>by rw [a3] at hd; simp at hd,fun _=>.inr ⟨rfl,st0⟩⟩
  · obtain ⟨a1,a2,a3⟩:=okB
    exact ⟨a1,a2,by omega,fun _=>st1,fun hd=>by rw [a3] at hd; simp at hd⟩) 2 100 (.inl ⟨rfl,by rw [hL.out]⟩) (by omega) (by omega)
 have hF2:Hid (Calls Tryz.prog 9 #[ptr M.m,.iface 126 (ptr a.f),.int .i64 100] w2 fun e w'=>∃ (n:Nat) (M':Mo) (a':Sc),e=.returned (.tuple #[.int .i64 n,.bool true])∧MemAt w' M'∧lm M'=L0∧M'.m=M.m∧ShAt w' a' s2∧a'.f=a.f∧Below w.heap.size w w'):=Lib.hid (hFn.mono fun e w' q=>by
  obtain ⟨n,s,q1,_,q2,M',a',r1,r2,r3,r4,r5,r6,r7⟩:=q
  rw [q2] at r2 r4
  exact ⟨n,M',a',q1,r1,r2,r3.m,r4,r5,low_shr hB02.out hlo.out hlg.out r7⟩)
 clear hFn hNg hG2 hlow2 hB2 hM2 hM hB hL
 go_wp2_with fail
 refine hF2.out.mono ?_
 rintro e w3 ⟨n,M',a',rfl,hM3,hL3,em,hG3,ea,hB3⟩
 have x3:M'.xs=[1,0,0,0]:=congrArg Lm.xs hL3
 have d3:M'.ds=[(1,3)]:=congrArg Lm.ds hL3
 have hE:=fun wx (hb:Below w3.heap.size w3 wx)=>err_any (hG3.below hb)
 rw [ea] at hE
 have hNw:=fun wx (hb:Below w3.heap.size w3 wx)=>now_any (hM3.below hb) (by rw [x3]; simp)
 have hnw:Me.now M'.xs M'.ds=(1,3):=by rw [x3,d3]; rfl
 have hge:s2.err=5:=rfl
 rw [hnw,em] at hNw
 rw [hge] at hE
 unfold dv at hNw
 have hfd:∀ w,(Instr.field 51 (.agg #[.int .i64 1,.int .i64 3]) 0).run Tryz.prog w=.ok (.int .i64 1) w:=fun w=>rfl
 replace hE:=Lib.hid hE
 replace hNw:=Lib.hid hNw
 replace hB3:=Lib.hid hB3
 clear hF2 hM3 hL3 em hG3 ea x3 d3 hnw hge hlo hlg hB02
 go_wp2_with fail
 refine (hA.out _).mono ?_
 rintro e w4 ⟨rfl,hB4⟩
 replace hB4:=Lib.hid hB4
 clear hA
 go_wp2_with fail
 refine (hE.out _ hB4.out).mono ?_
 rintro e w' ⟨rfl,rfl⟩
 clear hE
 go_wp2_with fail
 refine (hNw.out _ hB4.out).mono ?_
 rintro e w5 ⟨rfl,hB5⟩
 have hBx:=Lib.hid (hB3.out.trans ((hB4.out.trans (hB5.mono hB4.out.size)).mono hB3.out.size))
 clear hB5 hB4 hNw
 go_wp2_with fail
 go_ret
 exact ⟨rfl,hBx.out⟩
end Go.Proofs.YtkogifmjbmnpgaaGreat.LawFo
namespace Go.Proofs.YtkogifmjbmnpgaaGreat.Lo
open Go Go.RowKit Hp K Fl Rw
def heldTo (hs:List Int) (n:Int) (k:Nat):List Nat:=(List.range k).filter fun i=>decide (0≤n∧hol hs i=n)
def int1 (x:Nat):List Value:=[.int .i64 (x:Int)]
abbrev Ints (w:World) (A:Option Addr) (cap:Nat) (xs:List Nat):Prop:=Row w 3 1 int1 A cap xs
theorem heldTo_yes {hs:List Int} {n:Int} {k:Nat} (h:0≤n∧hol hs k=n):heldTo hs n (k+1)=heldTo hs n k++[k]:=by
 unfold heldTo
 rw [List.range_succ,List.filter_append]
 simp only [h,and_self,decide_true,List.filter_cons_of_pos,List.filter_nil]
theorem heldTo_no {hs:List Int} {n:Int} {k:Nat} (h:¬(0≤n∧hol hs k=n)):heldTo hs n (k+1)=heldTo hs n k:=by
 unfold heldTo
 rw [List.range_succ,List.filter_append]
 rw [List.filter_cons_of_neg (by simpa using h)]
 simp
theorem heldTo_le (hs:List Int) (n:Int) (k:Nat):(heldTo hs n k).length≤k:=by
 unfold heldTo
 exact Nat.le_trans (List.length_filter_le _ _) (by simp)
def HeldInv (W w:World) (g b:Nat) (hs:List Int) (n:Int) (v:Value) (k:Nat):Prop:=
 Below W.heap.size W w∧LocksAt w g b hs∧∃ A cap,v=.slice A (heldTo hs n k).length cap∧Ints w A cap (heldTo hs n k)∧∀ x,In A x→W.heap.size≤x
theorem held_any {W:World} {g b:Nat} {hs:List Int} (h:LocksAt W g b hs) (n:Int):
 Calls Tryz.prog 19 #[.pointer (some ⟨g,0,none⟩),.int .i64 n] W fun e w'=>
  ∃ A cap,e=.returned (.slice A (heldTo hs n hs.length).length cap)∧Ints w' A cap (heldTo hs n hs.length)∧(∀ x,In A x→W.heap.size≤x)∧Below W.heap.size W w':=by
 have hc:W.cell? ⟨g,0,none⟩=some (.slice (some ⟨b,0,none⟩) hs.length hs.length):=h.1.cell 0
 have hl:=h.2.2.2
 have hI:=Lib.hid (show HeldInv W W g b hs n (.slice none 0 0) 0 from ⟨Below.refl _ _,h,none,0,rfl,Row.nil _ _ _ _,by simp [In]⟩)
 obtain ⟨i0,hi0,hz0,hz1,hz2⟩:=info_parts info_int
 clear h
 go_enter Tryz.func19,Tryz.ntmps19
 go_wp2_with fail
 go_loopw [5,12] (fun v i wr=>∃ k:Nat,k≤hs.length∧i=.int .i64 k∧HeldInv W wr g b hs n v k) (fun _ i _=>hs.length-(intOf i).toNat)
 case atStart=>exact ⟨0,Nat.zero_le _,rfl,hI.out⟩
 case round=>
  rename_i v i wr
  obtain ⟨k,hk,rfl,hB,hL,A,cap,rfl,hR,hA⟩:=hrel
  by_cases hlt:k<hs.length
  · have c0:=at0 hL k hlt
    have c1:=at1 hL k hlt
    have hc:wr.cell? ⟨g,0,none⟩=some (.slice (some ⟨b,0,none⟩) hs.length hs.length):=hL.1.cell 0
    have hs':=Lib.hid (held_says (hol hs k) n)
    have hkl:=heldTo_le hs n k
    replace hL:=Lib.hid hL
    replace hR:=Lib.hid hR
    replace hA:=Lib.hid hA
    replace hB:=Lib.hid hB
    have hlen:=Lib.hid (rfl:(heldTo hs n k).length=(heldTo hs n k).length)
    generalize decide (0≤hol hs k)=p at*
    generalize (if 0≤hol hs k then hol hs k else 0)=q at*
    generalize hm:(heldTo hs n k).length=m at*
    replace hm:=Lib.hid hm
    by_cases hh:0≤n∧hol hs k=n
    · have hd:=Lib.hid (show decide (0≤n∧hol hs k=n)=true from decide_eq_true hh)
      replace hh:=Lib.hid hh
      go_wp2_with (first
       | (go_at_call 49; refine (held_by _ _ _ _).mono ?_; rintro e w1 ⟨rfl,hb1⟩; rw [hs'.out,hd.out]
          have hR1:=hR.out.only (Only.ofBelow hb1 (fun _=>False)) (by simp)
          replace hb1:=Lib.hid hb1)
       | (at_builtin
          refine wpList_append_one w1 rfl (.tmp 24) (.tmp 26) 23 rfl 3 i0 (.int .i64 0) 1 8 Tryz.underlying23 hi0 hz0 hz1 hz2 rfl (by omega) int1 (fun _=>rfl) (by intro x u hu; simp [int1] at hu; subst hu; rfl)
           A cap m (heldTo hs n k) hm.out k #[.int .i64 k] rfl rfl hR1 rfl (by simp only [maxLen]; omega) (by omega) ?_
          intro A1 cap1 w2 hR2 hO2 hA2))
      go_roundw
      case rel=>
       have hO:=(Only.ofBelow hb1.out (In A)).trans hO2
       refine ⟨k+1,by omega,by go_num,hB.out.trans (hO.toBelow hB.out.size (fun x hx hi=>by have:=hA.out x hi; omega)),hL.out.only hO ?_,A1,cap1,?_,?_,fun x hi=>?_⟩
       · rintro x (rfl | rfl)
         · exact hR.out.differ hL.out.1 (by decide)
         · exact hR.out.differ hL.out.2.1 (by decide)
       · rw [heldTo_yes hh.out,List.length_append,hm.out]
         rfl
       · rw [heldTo_yes hh.out]
         exact hR2
       · rcases hA2 x hi with q | q
         · exact hA.out x q
         · have h1:=hb1.out.size
           have h2:=hB.out.size
           omega
      case measure=>simp [intOf]; omega
    · have hd:=Lib.hid (show decide (0≤n∧hol hs k=n)=false from decide_eq_false hh)
      replace hh:=Lib.hid hh
      go_wp2_with (first
       | (go_at_call 49; refine (held_by _ _ _ _).mono ?_; rintro e w1 ⟨rfl,hb1⟩; rw [hs'.out,hd.out]; replace hb1:=Lib.hid hb1))
      go_roundw
      case rel=>
       have hO:=Only.ofBelow hb1.out (fun _=>False)
       refine ⟨k+1,by omega,by go_num,hB.out.trans (hb1.out.mono hB.out.size),hL.out.only hO (by simp),A,cap,?_,?_,hA.out⟩
       · rw [heldTo_no hh.out,hm.out]
       · rw [heldTo_no hh.out]
         exact hR.out.only hO (by simp)
      case measure=>simp [intOf]; omega
  · obtain rfl:k=hs.length:=by omega
    replace hL:=Lib.hid hL
    replace hR:=Lib.hid hR
    replace hA:=Lib.hid hA
    replace hB:=Lib.hid hB
    go_wp2_with fail
    go_ret
    exact ⟨A,cap,rfl,hR.out,hA.out,hB.out⟩
end Go.Proofs.YtkogifmjbmnpgaaGreat.Lo
namespace Go.Proofs.YtkogifmjbmnpgaaGreat.LawFn
open Go Go.RowKit Hp K Fl Rw Hm Ar Mm Me LK Qs Wk Re LawSix Pn Pc Mq Pu LawTen LawEl LawTw Dl Zr
set_option maxRecDepth 100000
theorem num_made {w w1:World} {n k:Nat} {M:Mo} (h:MadeP w n k M w1) (hk:k≤6):Num1 (lm M) 0:=by
 obtain ⟨hM,hlo,hB,h1,h2,h3,h4,h5,h6,h7⟩:=h
 refine ⟨?_,?_,?_,?_⟩
 · show M.xs.length≤_; rw [h1]; simp; omega
 · show M.ds.length≤_; rw [h6]; simp
 · show 1≤Cl.nth M.xs 0; rw [h1]; exact Int.le_refl _
 · show Cl.nth M.xs 0≤_; rw [h1]; exact Int.le_refl _
theorem s11_made {w w1:World} {n k:Nat} {M:Mo} (h:MadeP w n k M w1):S11 w w1 M none 0 []:=by
 obtain ⟨hM,hlo,hB,_⟩:=h
 exact ⟨hM,Row.nil _ _ _ _,hB,hlo,by simp [In]⟩
theorem held_none {hs:List Int} (h:hs=List.replicate 6 (-1)) (i:Nat):(Lo.heldTo hs (i:Int) hs.length).length=0:=by
 subst h
 rw [List.length_eq_zero_iff]
 unfold Lo.heldTo
 rw [List.filter_eq_nil_iff]
 intro j _
 simp only [decide_eq_true_eq]
 intro q
 have h2:=q.2
 unfold Lo.hol at h2
 rw [List.getD_eq_getElem?_getD,List.getElem?_replicate] at h2
 split at h2<;>simp at h2<;>omega
section
variable {W0 w wx:World} {M:Mo} {n B G:Nat} {cs:Nat→List Mq.Hp} {l:List Pr}
theorem now_s (h:S11 W0 w M none 0 []) (hm:Mp (lm M) n B cs l G) (hb:Below w.heap.size w wx):Calls Tryz.prog 16 #[ptr M.m] wx fun e w'=>e=.returned (.agg #[.int .i64 n,.int .i64 B])∧Below wx.heap.size wx w':=by
 have hkB:2+M.k≤B:=hm.kB
 have hk:1≤M.k∧M.k≤8:=hm.k
 have hxl:B+n≤M.xs.length:=hm.xl
 have hnw:Me.now M.xs M.ds=(n,B):=hm.now
 have:=now_any (h.mem.below hb) (by omega)
 rw [hnw] at this
 exact this
theorem held_s (h:S11 W0 w M none 0 []) (hm:Mp (lm M) n B cs l G) (hb:Below w.heap.size w wx):wx.cell? ⟨M.m,1,none⟩=some (ptr M.lg)∧∀ i:Nat,Calls Tryz.prog 19 #[ptr M.lg,.int .i64 i] wx fun e w'=>∃ A cap,e=.returned (.slice A (0:Nat) cap)∧Below wx.heap.size wx w':=by
 have hM:=h.mem.below hb
 have hhs:M.hs=List.replicate 6 (-1):=hm.hs
 refine ⟨hM.hd.2.1,fun i=>(Lo.held_any hM.2.2.1 (i:Int)).mono fun e w' q=>?_⟩
 obtain ⟨A,cap,q1,_,_,q4⟩:=q
 rw [held_none hhs i] at q1
 exact ⟨A,cap,q1,q4⟩
end
theorem up8:∃ c x t a,Ways ([]:List Pr).length 8 1 c x t a∧c≤100∧x≤512∧t≤8∧a≤30*256:=by
 obtain ⟨c,x,hu⟩:=up_to 0 3 (by omega) 3 0 (by omega)
 obtain ⟨e1,e2,e3⟩:=hu.eqs
 exact ⟨c,x,3,0,.inl hu,by omega,by omega,by omega,by omega⟩
set_option maxHeartbeats 2000000 in
theorem awake (w:World):Calls Tryz.prog 5 #[] w fun e w'=>e=.returned (.bool true)∧Below w.heap.size w w':=by
 have hN:=Lib.hid (made_yes 1 1 w (by omega) (by omega))
 have hA2:=Lib.hid (fun w=>LawTw.awake w)
 have hA3:=Lib.hid (fun w=>LawTh.awake w)
 have hA4:=Lib.hid (fun w=>LawFo.awake w)
 have hNg:=Lib.hid (fun z w=>new_resize 0 z w)
 go_enter Tryz.func5,Tryz.ntmps5
 go_wp2_with fail
 refine hN.out.mono ?_
 rintro e w1 ⟨M,rfl,hMd⟩
 have hmp:=mp_made hMd (by omega) (by omega)
 have hnum:=num_made hMd (by omega)
 have hS:=s11_made hMd
 replace hmp:=Lib.hid hmp
 replace hnum:=Lib.hid hnum
 replace hS:=Lib.hid hS
 clear hN hMd
 go_wp2_with fail
 refine (hNg.out 8 _).mono ?_
 rintro e w2 ⟨a,rfl,hR2,hl2,hB2⟩
 have hS2:=Lib.hid (hS.out.down hB2)
 have hl2':=Lib.hid (fun x hx=>Nat.le_trans hS.out.below.size (hl2 x hx))
 replace hR2:=Lib.hid hR2
 clear hl2 hB2 hS
 go_wp2_with fail
 refine (hNg.out 3 _).mono ?_
 rintro e w3 ⟨b,rfl,hR3,hl3,hB3⟩
 have hS3:=hS2.out.down hB3
 have hRa:=rz_only hR2.out (Only.ofBelow hB3 (fun _=>False)) (by simp)
 have hlb:=Lib.hid (fun x hx=>Nat.le_trans hS2.out.below.size (hl3 x hx))
 have hab:=Lib.hid (fun x (hx:rzL.foot b (newRz 0 3) x)=>show ¬(mfoot M x∨rzL.foot a (newRz 0 8) x) from fun q=>by
  rcases q with q | q
  · exact rz_far hR3 hS3.mem hx q
  · have:=rz_lt hR2.out q
    have:=hl3 x hx
    omega)
 obtain ⟨c,x,t,ca,hwy,hc,hx,ht,hca⟩:=up8
 have hFn:=resize_w hS3 hmp.out (by omega) (by simp) hnum.out (by omega) (s:=8) (by decide) hwy (by omega) hx ht hca 500 ⟨by omega,by omega⟩ (i:=0) (by omega) hRa hl2'.out
 have hla:=Lib.hid (fun x hx=>rz_lt (a:=a) (R:=newRz 0 8) (x:=x) hR2.out hx)
 have hlb3:=Lib.hid hl3
 replace hR3:=Lib.hid hR3
 replace hFn:=Lib.hid hFn
 clear hNg hl3 hB3 hS3 hRa hS2 hR2 hl2' hwy hmp hnum
 go_wp2_with fail
 refine hFn.out.mono ?_
 rintro e w4 ⟨k,rfl,M4,a4,R4,B4,cs4,hS4,em4,hRa4,ea4,he4,hmp4,hsl4,hk4,hws4,hnum4, -,hO4,hf4⟩
 have hRb:=rz_only hR3.out hO4 hab.out
 have hF2:=refuse_s hS4 hmp4 (z:=3) (by decide) hRb hlb.out 500 ⟨by omega,by omega⟩
 rw [em4] at hF2
 have hF3:Hid (Calls Tryz.prog 9 #[ptr M.m,.iface 35 (ptr (rzL.f b)),.int .i64 500] w4 fun e w'=>e=.returned (.tuple #[.int .i64 1,.bool true])∧Below w.heap.size w w'∧(∀ wx,Below w'.heap.size w' wx→Calls Tryz.prog 11 #[ptr (rzL.f a)] wx fun e w''=>e=.returned (.int .i64 0)∧w''=wx)∧(∀ wx,Below w'.heap.size w' wx→Calls Tryz.prog 11 #[ptr (rzL.f b)] wx fun e w''=>e=.returned (.int .i64 5)∧w''=wx)∧(∀ wx,Below w'.heap.size w' wx→Calls Tryz.prog 16 #[ptr M.m] wx fun e w''=>e=.returned (.agg #[.int .i64 8,.int .i64 B4])∧Below wx.heap.size wx w'')∧∃ lk,∀ wx,Below w'.heap.size w' wx→wx.cell? ⟨M.m,1,none⟩=some (ptr lk)∧Calls Tryz.prog 19 #[ptr lk,.int .i64 0] wx fun e w''=>∃ A cap,e=.returned (.slice A 0 cap)∧Below wx.heap.size wx w''):=Lib.hid (hF2.mono fun e w' q=>by
  obtain ⟨q1,M5,a5,R5,hS5,em5,hRb5,eb5,he5,hl5,hO5⟩:=q
  have hRa5:=rz_only hRa4 hO5 (fun x hx q=>by
   rcases q with q | q
   · exact rz_far hRa4 hS4.mem hx q
   · have h1:=rz_lt hR3.out q
     have h2:=hlb3.out x q
     rcases hf4 x hx with q | q
     · have h3:=hla.out x q; omega
     · omega)
  have hmp5:Mp (lm M5) 8 B4 cs4 [] 0:=by rw [hl5]; exact hmp4
  refine ⟨q1,hS5.below,fun wx hb=>?_,fun wx hb=>?_,fun wx hb=>?_,M5.lg,fun wx hb=>?_⟩
  · have:=rz_err (rz_frm.below hRa5 hb)
    rw [ea4,he4] at this
    exact this
  · have:=rz_err (rz_frm.below hRb5 hb)
    rw [eb5,he5] at this
    exact this
  · have:=now_s hS5 hmp5 hb
    rw [em5,em4] at this
    exact this
  · have:=held_s hS5 hmp5 hb
    rw [em5,em4] at this
    exact ⟨this.1,this.2 0⟩)
 have hB04:=Lib.hid hS4.below
 clear hF2 hRb hFn hS4 em4 hRa4 ea4 he4 hmp4 hsl4 hk4 hws4 hnum4 hO4 hf4 hR3 hlb hab hla hlb3
 go_wp2_with fail
 refine hF3.out.mono ?_
 rintro e w5 ⟨rfl,hB5,hEa,hEb,hNw,lk,hHd⟩
 replace hB5:=Lib.hid hB5
 replace hEa:=Lib.hid hEa
 replace hEb:=Lib.hid hEb
 replace hNw:=Lib.hid hNw
 replace hHd:=Lib.hid hHd
 have hfd:∀ w,(Instr.field 51 (.agg #[.int .i64 8,.int .i64 B4]) 0).run Tryz.prog w=.ok (.int .i64 8) w:=fun w=>rfl
 clear hF3 hB04
 go_wp2_with fail
 refine (hA2.out _).mono ?_
 rintro e w6 ⟨rfl,hb6⟩
 have hB6:=Lib.hid hb6
 clear hb6 hA2
 go_wp2_with fail
 refine (hA3.out _).mono ?_
 rintro e w7 ⟨rfl,hb7⟩
 have hB7:=Lib.hid (hB6.out.trans (hb7.mono hB6.out.size))
 clear hb7 hB6 hA3
 go_wp2_with fail
 refine (hA4.out _).mono ?_
 rintro e w8 ⟨rfl,hb8⟩
 have hB8:=Lib.hid (hB7.out.trans (hb8.mono hB7.out.size))
 clear hb8 hB7 hA4
 go_wp2_with fail
 refine (hEa.out _ hB8.out).mono ?_
 rintro e w' ⟨rfl,rfl⟩
 clear hEa
 go_wp2_with fail
 refine (hNw.out _ hB8.out).mono ?_
 rintro e w9 ⟨rfl,hb9⟩
 have hB9:=Lib.hid (hB8.out.trans (hb9.mono hB8.out.size))
 have hc9:=(hHd.out _ hB9.out).1
 have hH9:=Lib.hid (hHd.out _ hB9.out).2
 clear hb9 hB8 hNw hHd
 go_wp2_with fail
 refine hH9.out.mono ?_
 rintro e w10 ⟨A,cap,rfl,hb10⟩
 have hB10:=Lib.hid (hB9.out.trans (hb10.mono hB9.out.size))
 clear hb10 hB9 hH9 hc9
 go_wp2_with fail
 refine (hEb.out _ hB10.out).mono ?_
 rintro e w' ⟨rfl,rfl⟩
 have hBx:=Lib.hid (hB5.out.trans (hB10.out.mono hB5.out.size))
 clear hEb hB5 hB10
 go_wp2_with fail
 go_ret
 exact ⟨rfl,hBx.out⟩
end Go.Proofs.YtkogifmjbmnpgaaGreat.LawFn
namespace Go.Proofs.YtkogifmjbmnpgaaGreat.Mg
open Go Go.RowKit Hp K Fl Rw Hm Ar Mm Me LK Qs Wk Pc Pn Mq Mx Zp Bs LawTen LawTh
set_option maxRecDepth 100000
theorem mst_start {T:TypeId} {fr fs:Nat} {E:Env T fr fs} {W0 w:World} {M:Mo} {a:E.A} {p:E.P} {r0 r1:Nat} {ka kb:List ByteArray} {KA KB:Option Addr} {kca kcb len m c:Nat} {Z:E.D} {old:Nat→Int→Nat→Prop} (hM:MemAt w M) (hP:E.X.At w a p)
 (h0:Blk w r0 64 #[.int .i64 1,.slice KA ka.length kca,.pointer none,.int .i64 0]) (h1:Blk w r1 64 #[.int .i64 2,.slice KB kb.length kcb,.pointer none,.int .i64 0]) (hne:r0≠r1) (f0:¬E.X.foot a p r0) (f1:¬E.X.foot a p r1)
 (hB:Below W0.heap.size W0 w) (hlow:∀ x,mfoot M x∨E.X.foot a p x∨x=r0∨x=r1→W0.heap.size≤x) (g1:m≤E.M0∧c≤E.D0) (g2:E.DOk Z (lm M)) (g3:E.J Z old (lm M) p m c) (g4:Cl.nth M.xs 3=0) (g5:Cl.nth M.xs 4=0):Mst E W0 ⟨M.m,E.X.f a,r0,r1,ka,kb,KA,KB,len⟩ Any 0 w:=by
 obtain ⟨ra,hra⟩:∃ ra:LawTh.Ra,ra=⟨r0,KA,kca,⟨0,0,0,0⟩⟩:=⟨_,rfl⟩
 obtain ⟨rb,hrb⟩:∃ rb:LawTh.Ra,rb=⟨r1,KB,kcb,⟨0,0,0,0⟩⟩:=⟨_,rfl⟩
 have hA:RnAt w ra ⟨1,ka,none,0⟩:=by rw [hra]; exact ⟨h0,fun G e=>by simp at e⟩
 have hBb:RnAt w rb ⟨2,kb,none,0⟩:=by rw [hrb]; exact ⟨h1,fun G e=>by simp at e⟩
 have fA:∀ x,rnfoot ra ⟨1,ka,none,0⟩ x→x=r0:=fun x hx=>by
  rw [hra] at hx
  rcases hx with q | ⟨q,_⟩
  · exact q
  · simp at q
 have fB:∀ x,rnfoot rb ⟨2,kb,none,0⟩ x→x=r1:=fun x hx=>by
  rw [hrb] at hx
  rcases hx with q | ⟨q,_⟩
  · exact q
  · simp at q
 refine ⟨M,a,p,ra,rb,⟨1,ka,none,0⟩,⟨2,kb,none,0⟩,⟨hM,hP,hA,hBb,fun x hx hg=>E.far hP hM hg hx,fun x hx hr=>hA.far hM hr hx,fun x hx hr=>hBb.far hM hr hx,fun x hx hr=>?_,fun x hx hr=>?_,fun x hx hr=>hne ((fA x hx).symm.trans (fB x hr)),hB,fun x q=>hlow x ?_⟩,?_,rfl,rfl,by rw [hra]; exact ⟨rfl,rfl,rfl,fun _=>rfl⟩,by rw [hrb]; exact ⟨rfl,rfl,rfl,fun _=>rfl⟩,trivial⟩
 · have:=fA x hr
   subst this
   exact f0 hx
 · have:=fB x hr
   subst this
   exact f1 hx
 · rcases q with q | q | q | q
   · exact .inl q
   · exact .inr (.inl q)
   · exact .inr (.inr (.inl (fA x q)))
   · exact .inr (.inr (.inr (fB x q)))
 · exact ⟨Z,old,m,c,0,0,g2,g3,⟨g4,rfl⟩,⟨g5,rfl⟩,rfl,rfl,Nat.le_refl _,Nat.le_refl _,g1,by omega,by omega,fun _=>rfl,fun _=>rfl,fun _=>Turns.start (by omega) (Nat.zero_le _)⟩
def str (s:ByteArray):List Value:=[.string s]
theorem str_len (s:ByteArray):(str s).length=1:=rfl
theorem info_str:(Tryz.prog.info? 9).map (fun i=>(i.zero,i.size,i.bytes))=some (some (.string ⟨#[]⟩),1,16):=by kernel_rfl
theorem flat_str (ks:List ByteArray):ks.flatMap str=ks.map Value.string:=by
 induction ks with
 | nil=>rfl
 | cons a t ih=>rw [List.flatMap_cons,ih]; rfl
theorem strs_src {w:World} {A:Option Addr} {ks:List ByteArray} (h:StrsAt w A ks):ks=[]∨∃ ad,A=some ad∧∀ (j:Nat) (u:Value),(ks.flatMap str)[j]?=some u→w.cell? (ad.add j)=some u:=by
 by_cases h0:ks=[]
 · exact .inl h0
 · obtain ⟨b,o,e,_⟩:=h 0 (List.length_pos_iff.2 h0)
   refine .inr ⟨_,e,fun j u hu=>?_⟩
   rw [flat_str,List.getElem?_map] at hu
   obtain ⟨x,hx,rfl⟩:=Option.map_eq_some_iff.1 hu
   have hj:j<ks.length:=(List.getElem?_eq_some_iff.1 hx).1
   obtain ⟨b',o',e',_,hc,_⟩:=h j hj
   rw [e] at e'
   injection e' with e'
   injection e' with e1 e2
   subst e1
   subst e2
   rw [Addr.add_lit,hc]
   simp [List.getD,hx]
end Go.Proofs.YtkogifmjbmnpgaaGreat.Mg
namespace Go.Proofs.YtkogifmjbmnpgaaGreat.Zr
open Go Go.RowKit Hp K Fl Rw Hm Ar Mm Me LK Qs Wk Pc Pn Mq Gt Pu Mx Zp Bs LawTen LawTh LawFn
set_option maxRecDepth 100000
noncomputable def rzE (L0:Lm) (H:List Nat) (N:Num) (s:Nat) (l:List Pr):Mg.Env 35 234 235 where
 A:=Zr.Ra
 P:=Rz
 D:=Dz
 X:=rzL
 Ok:=Okrz
 rd:=rready
 st:=rstep
 dn:=rdone
 wy:=Dz.wy
 DOk:=Dz3 l
 l:=l
 J:=J3 L0 H N s l
 Q:=Qr L0 H N s l
 F:=rz_frm
 G:=rz_law L0 H N s l
 only:=fun h ho hn=>rz_only h ho hn
 lt:=fun h hx=>rz_lt h hx
 far:=fun h hM hx=>rz_far h hM hx
 M0:=1740
 D0:=160
 hT:=by omega
theorem ways_few (few n s:Nat) (hf:few≤20) (hn:FM.power (n:Int)=true) (hs:FM.power (s:Int)=true) (hn8:n≤8) (hs8:s≤16):∃ c x t a,Ways few s n c x t a∧c≤1730∧x≤32∧t≤4∧a≤160:=by
 obtain ⟨b,hb,rfl⟩:=pow2 hn
 obtain ⟨k,hk,rfl⟩:=pow2 hs
 have hb8:b≤3:=pow_le (b:=3) hn8
 have hk8:k≤4:=pow_le (b:=4) hs8
 by_cases h:b≤k
 · obtain ⟨c,x,hu⟩:=up_to few k hk (k-b) b (by omega)
   obtain ⟨e1,e2,e3⟩:=hu.eqs
   have m1:(k-b)*(15+12*few)≤4*255:=Nat.mul_le_mul (by omega) (by omega)
   have m2:(2*few+4)*2 ^ k≤44*16:=Nat.mul_le_mul (by omega) hs8
   exact ⟨c,x,k-b,0,.inl hu,by omega,by omega,by omega,by omega⟩
 · obtain ⟨c,x,a,hu⟩:=dn_to few k (b-k) b (by omega) hb
   obtain ⟨e1,e2,e3,e4⟩:=hu.eqs
   have m1:(b-k)*14≤3*14:=Nat.mul_le_mul_right _ (by omega)
   have m2:(few+4)*2 ^ b≤24*8:=Nat.mul_le_mul (by omega) hn8
   have m3:few*2 ^ b≤20*8:=Nat.mul_le_mul hf hn8
   have m4:x≤2 ^ b:=Nat.le.intro e2
   exact ⟨c,x,b-k,a,.inr hu,by omega,by omega,by omega,by omega⟩
theorem rz_start {W0 w:World} {k:Int} {l:List Pr} {M:Mo} {s:Nat} (hk:0≤k) (hk8:nbk k≤8) (h:LaidAt W0 k 3 l M w) (hl:l.length≤20) (hn:(l.map (·.1)).Nodup) (hs:FM.power (s:Int)=true) (hs16:s≤16):
 ∃ (H:List Nat) (N:Num) (Z:Dz) (m c:Nat),(m≤1740∧c≤160)∧Dz3 l Z (lm M)∧J3 (lm M) H N s l Z (fun _ _ _=>True) (lm M) (newRz 0 s) m c∧Cl.nth M.xs 3=0∧Cl.nth M.xs 4=0∧H.length=l.length:=by
 obtain ⟨Y,hY,y1,y2,y3,y4,y5,y6,y7,y8,_⟩:=rest_laid hk h (by omega) hn
 obtain ⟨_,_,_,_,_,hhs,hkk,_,_⟩:=h
 obtain ⟨c,x,tt,ca,hw,hc,hx,htt,hca⟩:=ways_few l.length (nbk k) s hl (nbk_pw hk) hs hk8 hs16
 have hnw:newRz 0 (s:Int)=⟨0,s,1,0,.none⟩:=by unfold newRz; rw [if_pos hs]
 have hkM:(lm M).k=3:=hkk
 refine ⟨allh Y.n Y.cs,⟨M.xs.length+x,M.ds.length+tt,2000⟩,.rest Y,c+10,ca,⟨by omega,hca⟩,⟨hY,by rw [hkM]; omega⟩,⟨⟨⟨by rw [hnw]; exact ⟨Int.le_refl _,by simp⟩,by rw [hnw],by rw [hnw],Zr.Kp.refl _,by show M.hs.length=6; rw [hhs]; simp,fun j a b=>?_,?_,⟨?_,?_,by simp⟩,List.Perm.refl _⟩,.take Y c x tt ca (by rw [hnw]; exact ⟨Nat.le_refl _,by simp⟩) (by rw [y1,y2]; exact hw) (by rw [hnw]; simp only; omega) (Nat.le_refl _) (by rw [y3]; omega) (Nat.le_refl _) (Nat.le_refl _)⟩,fun i hi _ _=>y5 i hi⟩,?_,?_,y4⟩
 · show Lo.hol M.hs j=hsF (newRz 0 s).nx (newRz 0 s).worker j
   rw [hnw,hhs]
   unfold hsF Lo.hol
   simp only [List.getD_eq_getElem?_getD,List.getElem?_replicate]
   rw [if_pos (by omega)]
   by_cases q:j=5
   · rw [if_pos q]; rfl
   · rw [if_neg q,if_neg (by omega)]; rfl
 · show Cl.nth M.xs 0+_≤(2000:Int)
   rw [y6]
   omega
 · simp only; rw [y7]; omega
 · simp only; rw [y8]; omega
 · have:=y5 1 (by rw [hkM]; omega)
   exact this
 · have:=y5 2 (by rw [hkM]; omega)
   exact this
theorem rz_mst {W0 W1 w0 w:World} {k:Int} {l:List Pr} {M:Mo} {s:Nat} {a:Zr.Ra} {r0 r1:Nat} {ka kb:List ByteArray} {KA KB:Option Addr} {kca kcb len:Nat} (hk:0≤k) (hk8:nbk k≤8) (h:LaidAt W1 k 3 l M w0) (hl:l.length≤20) (hn:(l.map (·.1)).Nodup) (hs:FM.power (s:Int)=true) (hs16:s≤16) (hM:MemAt w M) (hR:rzL.At w a (newRz 0 s))
 (h0:Blk w r0 64 #[.int .i64 1,.slice KA ka.length kca,.pointer none,.int .i64 0]) (h1:Blk w r1 64 #[.int .i64 2,.slice KB kb.length kcb,.pointer none,.int .i64 0]) (hne:r0≠r1) (hB:Below W0.heap.size W0 w) (hlow:∀ x,mfoot M x∨rzL.foot a (newRz 0 s) x∨x=r0∨x=r1→W0.heap.size≤x):
 ∃ H N,H.length=l.length∧Mg.Mst (rzE (lm M) H N s l) W0 ⟨M.m,a.f,r0,r1,ka,kb,KA,KB,len⟩ Mg.Any 0 w:=by
 obtain ⟨H,N,Z,mm,cc,g1,g2,g3,g4,g5,gH⟩:=rz_start hk hk8 h hl hn hs hs16
 have hn6:(newRz 0 (s:Int)).nx≠6:=by unfold newRz; rw [hs]; simp
 have f0:¬rzL.foot a (newRz 0 s) r0:=fun hx=>hR.blk.differ h0 (by decide) (rfoot_plain hn6 hx).symm
 have f1:¬rzL.foot a (newRz 0 s) r1:=fun hx=>hR.blk.differ h1 (by decide) (rfoot_plain hn6 hx).symm
 exact ⟨H,N,gH,Mg.mst_start (E:=rzE (lm M) H N s l) (a:=a) (p:=newRz 0 s) (Z:=Z) (old:=fun _ _ _=>True) hM hR h0 h1 hne f0 f1 hB hlow g1 g2 g3 g4 g5⟩
def Over (W0:World) (m f s len:Nat) (w:World):Prop:=
 Below W0.heap.size W0 w∧∃ B:Nat,∀ wx,Below w.heap.size w wx→Calls Tryz.prog 11 #[ptr f] wx (fun e w'=>e=.returned (.int .i64 0)∧w'=wx)∧Calls Tryz.prog 16 #[ptr m] wx (fun e w'=>e=.returned (.agg #[.int .i64 s,.int .i64 B])∧Below wx.heap.size wx w')∧
  Calls Tryz.prog 24 #[ptr m] wx (fun e w'=>(∃ A cap,e=.returned (.slice A len cap))∧Below wx.heap.size wx w')∧∃ lg,wx.cell? ⟨m,1,none⟩=some (ptr lg)∧m<wx.heap.size∧Calls Tryz.prog 19 #[ptr lg,.int .i64 0] wx (fun e w'=>(∃ A cap,e=.returned (.slice A (0:Nat) cap))∧Below wx.heap.size wx w')
theorem rz_over {L0:Lm} {H:List Nat} {N:Num} {s:Nat} {l:List Pr} {W0 w:World} {C:Mg.Mc} (h:Mg.Fin (rzE L0 H N s l) W0 C w) (hH:H.length=l.length):Over W0 C.m C.f s l.length w:=by
 obtain ⟨M,a,R,hM,em,hR,ef,⟨Y,r1,r2,r3,r4,r5,r6,r7,r8,r9,r10⟩,hB⟩:=h
 have hR:rzL.At w a R:=hR
 have ef:rzL.f a=C.f:=ef
 have hE:=r1.base.ends r1.hol (fun b hb x hx=>(r1.pos b hb x hx).2)
 have hnow:Me.now M.xs M.ds=(s,Y.B):=by rw [← r2]; exact r1.base.now
 have hlen:(allh Y.n Y.cs).length=l.length:=by rw [r7.length_eq,hH]
 have hhs:M.hs=List.replicate 6 (-1):=by
  have r5:M.hs.length=6:=r5
  refine List.ext_getElem? fun i=>?_
  by_cases hi:i<6
  · have h1:=r4 i (by omega)
    have h1:Lo.hol M.hs i= -1:=h1
    rw [Lo.hol_at (by omega),h1,List.getElem?_replicate,if_pos hi]
  · rw [List.getElem?_eq_none (by omega),List.getElem?_eq_none (by simp; omega)]
 refine ⟨hB,Y.B,fun wx hb=>?_⟩
 have hMx:=hM.below hb
 have hx1:1<M.xs.length:=hE.x1
 refine ⟨?_,?_,?_,M.lg,?_,?_,?_⟩
 · have:=rz_err (rz_below hR hb)
   rw [ef,r3] at this
   exact this
 · have:=now_any hMx hx1
   rw [hnow,em] at this
   exact this
 · have:=reach_any hMx hE.tabs hx1 hE.nexts hE.len _ hE.rch
   rw [em] at this
   refine this.mono fun e w' q=>?_
   obtain ⟨A,cap,q1,_,q2,_⟩:=q
   rw [hlen] at q1
   exact ⟨⟨A,cap,q1⟩,q2⟩
 · rw [← em]; exact hMx.hd.2.1
 · rw [← em]; exact hMx.1.lt
 · refine (Lo.held_any hMx.2.2.1 0).mono fun e w' q=>?_
   obtain ⟨A,cap,q1,_,_,q4⟩:=q
   have:=held_none hhs 0
   rw [show ((0:Nat):Int)=0 from rfl] at this
   rw [this] at q1
   exact ⟨⟨A,cap,q1⟩,q4⟩
theorem rz_mix {W0 w:World} {L0:Lm} {H:List Nat} {N:Num} {s:Nat} {l:List Pr} {m f r0 r1:Nat} {ka kb:List ByteArray} {KA KB:Option Addr} {len:Nat} (h0:Mg.Mst (rzE L0 H N s l) W0 ⟨m,f,r0,r1,ka,kb,KA,KB,len⟩ Mg.Any 0 w) (hH:H.length=l.length) (hB:Below W0.heap.size W0 w) {A PA:Option Addr} {cap pcap:Nat} (hP:PairsAt W0 A l) (hl:l.length≤1000) (hK:StrsAt W0 KA ka∧ka.length≤10) (hK':StrsAt W0 KB kb∧kb.length≤10) (hlen:len≤600) (hpk:BytesAt W0 PA len) (wx:World) (hb:Below w.heap.size w wx):
 Calls Tryz.prog 23 #[ptr m,.iface 35 (ptr f),ptr r0,ptr r1,.slice A l.length cap,.slice PA len pcap] wx fun e w'=>e=.returned (.bool true)∧Over W0 m f s l.length w':=by
 have hl':(rzE L0 H N s l).l.length≤1000:=hl
 have hP':PairsAt W0 A (rzE L0 H N s l).l:=hP
 have h:=Mg.mix_any (E:=rzE L0 H N s l) (C:=⟨m,f,r0,r1,ka,kb,KA,KB,len⟩) (cap:=cap) (pcap:=pcap) (h0.down hb) (hB.trans (hb.mono hB.size)) hP' hl' hK hK' hlen hpk
 have h':Calls Tryz.prog 23 #[ptr m,.iface 35 (ptr f),ptr r0,ptr r1,.slice A l.length cap,.slice PA len pcap] wx fun e w'=>e=.returned (.bool true)∧Mg.Fin (rzE L0 H N s l) W0 ⟨m,f,r0,r1,ka,kb,KA,KB,len⟩ w':=h
 exact h'.mono fun e w' q=>⟨q.1,rz_over (C:=⟨m,f,r0,r1,ka,kb,KA,KB,len⟩) q.2 hH⟩
end Go.Proofs.YtkogifmjbmnpgaaGreat.Zr
namespace Go.Proofs.YtkogifmjbmnpgaaGreat.Rw
open Go Go.RowKit Hp Fl
section
variable {P:Program}
theorem run_many {α:Type} (w:World) (t ty e:TypeId) (i:TypeInfo) (z:Value) (c bytes:Nat) (ht:P.underlying t=some (.slice e)) (hi:P.info? e=some i) (hz:i.zero=some z) (hsize:i.size=c) (hby:i.bytes=bytes) (hzs:z.cells.size=c) (hsz:0<c)
 (f:α→List Value) (hf:∀ x,(f x).length=c) (h1:∀ x,∀ u∈f x,u.oneCell'=true) {A:Option Addr} {cap n:Nat} {xs:List α} (hn:xs.length=n) (h:Row w e c f A cap xs) (ys:List α) (B:Option Addr) (cx:Nat)
 (hB:ys=[]∨∃ ad,B=some ad∧∀ (j:Nat) (u:Value),(ys.flatMap f)[j]?=some u→w.cell? (ad.add j)=some u) (h63:n+ys.length≤maxLen) (hbytes:(n+ys.length)*bytes≤140737488355328):
 ∃ A' cap' w',(Builtin.append_ #[t,t] ty #[.slice A n cap,.slice B ys.length cx]).run P w=.ok (.slice A' (n+ys.length:Nat) cap') w'∧Row w' e c f A' cap' (xs++ys)∧Only (In A) w w'∧∀ b,In A' b→In A b∨w.heap.size≤b:=by
 subst hn
 have hle:=h.capLe.1
 rcases hB with rfl | ⟨ad,rfl,hc⟩
 · have hs:Go.Src P i.size t (.slice B 0 cx) 0 [] w:=by
    cases B with
    | none=>exact Go.Src.ofNil w ht cx
    | some a=>exact Go.Src.ofSlice w ht a 0 cx [] (by simp) (by simp) (by simp)
   have hr:=Go.run_append_nothing (P:=P) w t t ty e i ht hi A xs.length cap hle _ hs
   exact ⟨A,cap,w,by simpa using hr,by simpa using h,Only.refl _ _,fun b hb=>.inl hb⟩
 · have e1:(xs++ys).flatMap f=xs.flatMap f++ys.flatMap f:=by simp
   obtain ⟨v',w',hrun,hown,hg,_,hat⟩:=run_append_own_at (P:=P) w 0 t ty e i z c bytes ht hi hz hsize hby hzs hsz (.slice A xs.length cap) xs.length (xs.flatMap f) h ad ys.length cx (ys.flatMap f) (by rw [flat_len hf]) hc
    (fun u hu=>by
      obtain ⟨x,_,hx⟩:=List.mem_flatMap.1 hu
      exact h1 x u hx) h63 hbytes (Nat.zero_le _)
   obtain ⟨A',cap',rfl⟩:=own_slice hown
   refine ⟨A',cap',w',hrun,?_,(Only.refl (In A) w).grown hg (fun b hb=>.inl (by rw [own_block] at hb; exact hb)),fun b hb=>?_⟩
   · rw [Row,e1,List.length_append]
     exact hown
   · rw [own_block,own_block] at hat
     rcases hat with q | q
     · exact .inl (by rw [In,← q]; exact hb)
     · refine .inr ?_
       rw [In,q] at hb
       injection hb with hb
       omega
end
end Go.Proofs.YtkogifmjbmnpgaaGreat.Rw
namespace Go.Proofs.YtkogifmjbmnpgaaGreat.LawTh
open Go Go.RowKit Hp K Fl Rw Hm Ar Mm Me LK Qs Wk Pc Pn Mq Zp Mx Gw LawSix LawTen LawFnv
set_option maxRecDepth 100000
def Ul (l:List Pr) (n:Nat):Prop:=∀ i j,i<j→j<n→(pat l i).1≠(pat l j).1
theorem Ul.nodup {l:List Pr} (h:Ul l l.length):(l.map (·.1)).Nodup:=by
 rw [List.nodup_iff_pairwise_ne,List.pairwise_map,List.pairwise_iff_getElem]
 intro i j hi hj hij
 have:=h i j hij hj
 simpa [pat,List.getD,hi,hj] using this
theorem Ul.more {l:List Pr} {n:Nat} (h:Ul l n) (hn:∀ i,i<n→(pat l n).1≠(pat l i).1):Ul l (n+1):=fun i j hij hj=>by
 by_cases e:j=n
 · rw [e]
   exact fun q=>hn i (by omega) q.symm
 · exact h i j hij (by omega)
end Go.Proofs.YtkogifmjbmnpgaaGreat.LawTh
namespace Go.Proofs.YtkogifmjbmnpgaaGreat.Zr
open Go Go.RowKit Hp K Fl Rw Hm Ar Mm Me LK Qs Wk Pc Pn Mq Zp Mx Bs LawSix LawTen LawFnv LawTh LawFn
set_option maxRecDepth 100000
set_option maxHeartbeats 8000000 in
theorem meetsAll (k:Int) (hk:0≤k∧k≤255) (l:List Pr) (A:Option Addr) (cap:Nat) (z:Int) (hz:0≤z∧z≤255) (ka:List ByteArray) (KA:Option Addr) (kca:Nat) (kb:List ByteArray) (KB:Option Addr) (kcb:Nat) (PA:Option Addr) (plen pcap:Nat) (W0:World) (hm:l.length≤maxLen) (hc:l.length≤cap) (hP:PairsAt W0 A l)
 (hka:ka.length≤maxLen) (hKA:StrsAt W0 KA ka) (hkb:kb.length≤maxLen) (hKB:StrsAt W0 KB kb) (hpl:plen≤maxLen) (hPA:BytesAt W0 PA plen):
 Calls Tryz.prog 4 #[.int .u8 k,.slice A l.length cap,.int .u8 z,.slice KA ka.length kca,.slice KB kb.length kcb,.slice PA plen pcap] W0 fun e w'=>e=.returned (.bool true)∧Below W0.heap.size W0 w':=by
 have hAw:=Lib.hid (fun w=>LawFn.awake w)
 have hA1:Hid (∀ wx,Below W0.heap.size W0 wx→Calls Tryz.prog 5 #[] wx fun e w'=>e=.returned (.bool true)∧Below W0.heap.size W0 w'):=Lib.hid fun wx hb=>(hAw.out wx).mono fun e w' q=>⟨q.1,hb.trans (q.2.mono hb.size)⟩
 have hNg:=Lib.hid (fun z w=>new_resize 0 z w)
 replace hP:=Lib.hid hP
 replace hKA:=Lib.hid hKA
 replace hKB:=Lib.hid hKB
 replace hPA:=Lib.hid hPA
 unfold maxLen at hm hka hkb hpl
 generalize hln:l.length=len at*
 generalize hla:ka.length=la at*
 generalize hlb:kb.length=lb at*
 replace hln:=Lib.hid hln
 replace hla:=Lib.hid hla
 replace hlb:=Lib.hid hlb
 by_cases hbad:20<len∨10<la∨10<lb∨600<plen
 · clear hAw hNg hP hKA hKB hPA
   skip
   as_aux_lemma=>
    by_cases q0:20<len
    · go_enter Tryz.func4,Tryz.ntmps4
      go_wp2_with fail
      refine (hA1.out _ (Below.refl _ _)).mono ?_
      rintro e w2 ⟨rfl,hB2⟩
      replace hB2:=Lib.hid hB2
      go_wp2_with fail
      go_ret
      exact ⟨rfl,hB2.out⟩
    · by_cases q1:10<la
      · go_enter Tryz.func4,Tryz.ntmps4
        go_wp2_with fail
        refine (hA1.out _ (Below.refl _ _)).mono ?_
        rintro e w2 ⟨rfl,hB2⟩
        replace hB2:=Lib.hid hB2
        go_wp2_with fail
        go_ret
        exact ⟨rfl,hB2.out⟩
      · by_cases q2:10<lb
        · go_enter Tryz.func4,Tryz.ntmps4
          go_wp2_with fail
          refine (hA1.out _ (Below.refl _ _)).mono ?_
          rintro e w2 ⟨rfl,hB2⟩
          replace hB2:=Lib.hid hB2
          go_wp2_with fail
          go_ret
          exact ⟨rfl,hB2.out⟩
        · have q3:600<plen:=by omega
          go_enter Tryz.func4,Tryz.ntmps4
          go_wp2_with fail
          refine (hA1.out _ (Below.refl _ _)).mono ?_
          rintro e w2 ⟨rfl,hB2⟩
          replace hB2:=Lib.hid hB2
          go_wp2_with fail
          go_ret
          exact ⟨rfl,hB2.out⟩
 have hl20:len≤20:=by omega
 have hla10:la≤10:=by omega
 have hlb10:lb≤10:=by omega
 have hp600:plen≤600:=by omega
 clear hbad hm hka hkb hpl
 have n0:¬20<len:=by omega
 have n1:¬10<la:=by omega
 have n2:¬10<lb:=by omega
 have n3:¬600<plen:=by omega
 go_enter Tryz.func4,Tryz.ntmps4
 go_wp2_with fail
 clear n0 n1 n2 n3
 go_loopw [44] (fun i wr=>∃ j:Nat,j≤len∧i=.int .i64 j∧Ul l j∧Below W0.heap.size W0 wr) (fun i _=>len-(intOf i).toNat)
 case atStart=>exact ⟨0,Nat.zero_le _,rfl,fun i j _ hj=>by omega,Below.refl _ _⟩
 case round=>
  obtain ⟨j0,hj0,rfl,hU,hB⟩:=hrel
  by_cases hlt:j0<len
  · obtain ⟨b,o,rfl,hb,c0,c1,s0,s1⟩:=hP.out j0 (by rw [hln.out]; exact hlt)
    skip
    as_aux_lemma=>
     rw [← hB.cell (p:=⟨b,_,none⟩) hb] at c0 c1
     have hbr:b<wr.heap.size:=by have:=hB.size; omega
     generalize hp:pat l j0=p at*
     obtain ⟨pk,pv⟩:=p
     simp only at c0 c1 s0 s1
     replace hp:=Lib.hid hp
     have hB2:=hB.alloc (o:=.cells #[.string pk,.string pv] 59) hB.size
     have hkl:¬len≤j0:=by omega
     have hkc:¬cap<j0:=by omega
     obtain ⟨w2,hw2⟩:∃ w2,w2=wr.alloc (.cells #[.string pk,.string pv] 59):=⟨_,rfl⟩
     have hD2:Blk w2 wr.heap.size 59 #[.string pk,.string pv]:=by rw [hw2]; exact Blk.made wr _ _
     rw [← hw2] at hB2
     have hbd:b<wr.heap.size:=hbr
     replace hB:=Lib.hid hB
     replace hU:=Lib.hid hU
     go_upto_region 6 with (fail)
     rw [← hw2]
     clear hw2 c0 c1
     generalize wr.heap.size=d at*
     have d0:=hD2.cell 0
     have d1:=hD2.cell 1
     simp at d0 d1
     have ld:=hD2.lt
     replace hD2:=Lib.hid hD2
     replace hB2:=Lib.hid hB2
     go_wp2_with fail
     go_loopw [53] (fun i wr=>∃ j:Nat,j≤j0∧i=.int .i64 j∧Hid (∀ i,i<j→pk≠(pat l i).1)∧Below w2.heap.size w2 wr) (fun i _=>j0-(intOf i).toNat)
     case atStart=>exact ⟨0,Nat.zero_le _,rfl,Lib.hid (fun i hi=>by omega),Below.refl _ _⟩
     case round=>
      obtain ⟨j,hj,rfl,hne,hB3⟩:=hrel
      by_cases hjk:j<j0
      · obtain ⟨b',o',hbo,hb',c0,c1,t0,t1⟩:=hP.out j (by rw [hln.out]; omega)
        injection hbo with hbo
        injection hbo with hb1 ho1
        subst hb1
        subst ho1
        have hB03:=hB2.out.trans (hB3.mono hB2.out.size)
        rw [← hB03.cell (p:=⟨b,_,none⟩) hb] at c0 c1
        have e0:=(hB3.cell (p:=⟨d,0,none⟩) ld).trans d0
        have hbr3:b<wr.heap.size:=by have:=hB03.size; omega
        generalize hq:pat l j=q at*
        obtain ⟨qk,qv⟩:=q
        simp only at c0 c1 t0 t1
        replace hq:=Lib.hid hq
        have hB4:=hB3.alloc (o:=.cells #[.string qk,.string qv] 59) hB3.size
        obtain ⟨w4,hw4⟩:∃ w4,w4=wr.alloc (.cells #[.string qk,.string qv] 59):=⟨_,rfl⟩
        have hD4:Blk w4 wr.heap.size 59 #[.string qk,.string qv]:=by rw [hw4]; exact Blk.made wr _ _
        rw [← hw4] at hB4
        have e4:=(hB4.cell (p:=⟨d,0,none⟩) ld).trans d0
        replace hB3:=Lib.hid hB3
        have hB4h:=Lib.hid hB4
        clear hB03 hB4 e0
        go_upto_region 9 with (fail)
        rw [← hw4]
        clear hw4 c0 c1
        have g0:=hD4.cell 0
        simp at g0
        have lg:=hD4.lt
        generalize wr.heap.size=g at*
        clear hD4
        by_cases hkq:pk=qk
        · subst hkq
          have hBx:=Lib.hid (hB2.out.trans (hB4h.out.mono hB2.out.size))
          go_wp2_with fail
          refine (hA1.out _ hBx.out).mono ?_
          rintro e w5 ⟨rfl,hB5⟩
          replace hB5:=Lib.hid hB5
          go_wp2_with fail
          go_ret
          exact ⟨rfl,hB5.out⟩
        · have hbn:=bytes_ne hkq
          have hne2:Hid (∀ i,i<j+1→pk≠(pat l i).1):=Lib.hid fun i hi=>by
           by_cases e:i=j
           · rw [e,hq.out]; exact hkq
           · exact hne.out i (by omega)
          clear hkq hne
          go_wp2_with fail
          go_roundw
          case rel=>exact ⟨j+1,by omega,by go_num,hne2,hB4h.out⟩
          case measure=>simp [intOf]; omega
      · obtain rfl:j=j0:=by omega
        have hU2:Hid (Ul l (j+1)):=Lib.hid (hU.out.more (by rw [hp.out]; exact hne.out))
        have hBx:=Lib.hid (hB2.out.trans (hB3.mono hB2.out.size))
        have e0:=(hB3.cell (p:=⟨d,0,none⟩) ld).trans d0
        have e1:=(hB3.cell (p:=⟨d,1,none⟩) ld).trans d1
        have ldr:d<wr.heap.size:=by have:=hB3.size; omega
        clear hB3 hne d0 d1
        by_cases hsz:(100:Int)<(pk.size:Int)+pv.size
        · go_wp2_with fail
          refine (hA1.out _ hBx.out).mono ?_
          rintro e w5 ⟨rfl,hB5⟩
          replace hB5:=Lib.hid hB5
          go_wp2_with fail
          go_ret
          exact ⟨rfl,hB5.out⟩
        · go_wp2_with fail
          go_roundw
          case rel=>exact ⟨j+1,by omega,by go_num,hU2.out,hBx.out⟩
          case measure=>simp [intOf]; omega
  · obtain rfl:j0=len:=by omega
    have hnd:=Lib.hid (Ul.nodup (by rw [hln.out]; exact hU))
    have hB1:=Lib.hid hB
    generalize wr=w1 at*
    clear hU hB hj0 hlt
    have hz1:=hB1.out.size
    have hR2:Row (w1.alloc (.cells #[] 9)) 9 1 Mg.str (some ⟨w1.heap.size,0,none⟩) 0 []:=World.ownsRow_lit w1 #[] 0 (Nat.zero_le _) (Nat.zero_le _) rfl
    have hB2:Below W0.heap.size W0 (w1.alloc (.cells #[] 9)):=hB1.out.alloc hz1 _
    obtain ⟨i1,hi1,hy0,hy1,hy2⟩:=info_parts Mg.info_str
    obtain ⟨A3,cap3,w3,hrun3,hR3,hO3,hA3⟩:=run_many (P:=Tryz.prog) _ 56 56 9 i1 _ 1 16 Tryz.underlying56 hi1 hy0 hy1 hy2 rfl (by omega) Mg.str Mg.str_len
     (by intro x u hu; simp [Mg.str] at hu; subst hu; rfl) rfl hR2 ka KA kca (Mg.strs_src (hKA.out.below hB2)) (by have:=hla.out; simp only [maxLen,List.length_nil]; omega) (by have:=hla.out; simp only [List.length_nil]; omega)
    have hB3:Below W0.heap.size W0 w3:=hB2.trans (hO3.toBelow hB2.size (fun x hx q=>by
     have:w1.heap.size=x:=by simpa [In] using q
     omega))
    obtain ⟨A4,cap4,w4,hrun4,hR4,hO4,hA4⟩:=run_many (P:=Tryz.prog) _ 56 56 9 i1 _ 1 16 Tryz.underlying56 hi1 hy0 hy1 hy2 rfl (by omega) Mg.str Mg.str_len
     (by intro x u hu; simp [Mg.str] at hu; subst hu; rfl) rfl hR3 kb KB kcb (Mg.strs_src (hKB.out.below hB3)) (by have:=hla.out; have:=hlb.out; simp only [maxLen,List.nil_append]; omega) (by have:=hla.out; have:=hlb.out; simp only [List.nil_append]; omega)
    have hB4:Below W0.heap.size W0 w4:=hB3.trans (hO4.toBelow hB3.size (fun x hx q=>by
     rcases hA3 x q with q | q
     · have:w1.heap.size=x:=by simpa [In] using q
       omega
     · have:=hB2.size
       omega))
    simp only [List.nil_append,List.length_nil,Nat.zero_add,hla.out,hlb.out] at hrun3 hrun4 hR4
    replace hR4:=Lib.hid hR4
    replace hB4:=Lib.hid hB4
    clear hR2 hB2 hi1 hy0 hy1 hy2 hR3 hO3 hA3 hB3 hO4 hA4
    go_upto_region 15 with (fail)
    go_wp2_with (at_builtin
                 first
                  | refine Lib.wpList_append_run _ rfl (.tmp 74) (.tmp 75) 56 56 rfl _ _ rfl rfl _ _ hrun3 ?_
                  | refine Lib.wpList_append_run _ rfl (.tmp 76) (.tmp 77) 56 56 rfl _ _ rfl rfl _ _ hrun4 ?_)
    clear hrun3 hrun4
    generalize hts:ka++kb=ts at*
    have htl:ts.length=la+lb:=by rw [← hts,List.length_append,hla.out,hlb.out]
    generalize htt:la+lb=tl at*
    have e2:((la:Int)+(lb:Int))=(tl:Int):=by omega
    rw [e2]
    clear e2 hts
    replace htl:=Lib.hid htl
    replace htt:=Lib.hid htt
    have htb:tl≤20:=by have:=htt.out; omega
    go_loopw [80] (fun c wr=>∃ j:Nat,j≤tl∧c=.int .i64 j∧wr=w4) (fun c _=>tl-(intOf c).toNat)
    case atStart=>first | exact ⟨0,Nat.zero_le _,rfl,rfl⟩ | exact ⟨0,Nat.zero_le _,rfl,trivial⟩
    case round=>
     obtain ⟨j,hj,rfl,rfl⟩:=hrel
     by_cases hlt:j<tl
     · obtain ⟨g,hg,hgl,hgc⟩:=hR4.out.cells Mg.str_len j (by rw [htl.out]; exact hlt)
       skip
       as_aux_lemma=>
        have gc:=(hgc 0 (by omega)).1
        simp only [Mg.str,Nat.mul_one,Nat.add_zero,List.getElem?_cons_zero] at gc
        generalize ts[j]'(by rw [htl.out]; exact hlt)=key at*
        rw [hg]
        have hjt:(j:Int)<(tl:Int):=by omega
        by_cases hs:(100:Int)<(key.size:Int)
        · go_wp2_with fail
          refine (hA1.out _ hB4.out).mono ?_
          rintro e w2 ⟨rfl,hB2⟩
          replace hB2:=Lib.hid hB2
          go_wp2_with fail
          go_ret
          exact ⟨rfl,hB2.out⟩
        · go_wp2_with fail
          go_roundw
          case rel=>first | exact ⟨j+1,by omega,by go_num,rfl⟩ | exact ⟨j+1,by omega,by go_num,trivial⟩
          case measure=>simp [intOf]; omega
     · obtain rfl:j=tl:=by omega
       have hPr:=Lib.hid (hP.out.below hB4.out)
       obtain ⟨k3,t1⟩:∃ k3,k.tmod 4=k3:=⟨_,rfl⟩
       have hk3:0≤k3∧k3≤3:=by
        obtain ⟨kn,rfl⟩:=Int.eq_ofNat_of_zero_le hk.1
        rw [show (4:Int)=((4:Nat):Int) from rfl,← Int.ofNat_tmod] at t1
        omega
       have hLd:=Lib.hid (laid_any wr k3 ⟨hk3.1,by omega⟩ 3 (by omega) l A cap (by have:=hln.out; omega) hPr.out)
       rw [hln.out] at hLd
       clear hR4 htl htt htb hj hlt
       go_upto_region 22 with (fail)
       refine hLd.out.mono ?_
       rintro e w5 ⟨M,rfl,hLA⟩
       have hLa:=Lib.hid hLA
       have hM:=hLA.1
       have hge4:=hB4.out.size
       have hB5:=hB4.out.trans (hLA.2.2.1.mono hge4)
       have hlo:=Lib.hid (fun x hx=>Nat.le_trans hge4 (hLA.2.1 x hx))
       replace hM:=Lib.hid hM
       replace hB5:=Lib.hid hB5
       clear hLd hLA hge4 t1 hPr hk
       obtain ⟨z5,u1⟩:∃ z5,z.tmod 5=z5:=⟨_,rfl⟩
       have hz5:0≤z5∧z5≤4:=by
        obtain ⟨zn,rfl⟩:=Int.eq_ofNat_of_zero_le hz.1
        rw [show (5:Int)=((5:Nat):Int) from rfl,← Int.ofNat_tmod] at u1
        omega
       obtain ⟨s,hs⟩:∃ s:Nat,s=2 ^ z5.toNat:=⟨_,rfl⟩
       have hs16:s≤16:=by
        rw [hs]
        exact Nat.pow_le_pow_right (n:=2) (by omega) (show z5.toNat≤4 by omega)
       have hspw:FM.power (s:Int)=true:=by rw [hs]; exact power_pow (by omega)
       have e2:wrap64 ((2:Int) ^ z5.toNat)=(s:Int):=by
        have e:(2:Int) ^ z5.toNat=((s:Nat):Int):=by rw [hs]; simp
        rw [e]
        unfold wrap64
        omega
       clear hs
       go_upto_region 22 with (fail)
       go_wp2_with fail
       rw [e2]
       refine (hNg.out (s:Int) _).mono ?_
       rintro e w6 ⟨a,rfl,hG6,hA6,hB6⟩
       have hM6:=hM.out.below hB6
       have hge5:=hB5.out.size
       have hB06:=Lib.hid (hB5.out.trans (hB6.mono hge5))
       have hlg:=Lib.hid (fun x hx=>Nat.le_trans hge5 (hA6 x hx))
       replace hM6:=Lib.hid hM6
       replace hG6:=Lib.hid hG6
       clear hA6 hB6 hge5 hM hB5 hNg
       go_upto_region 26 with (fail)
       obtain ⟨w8,hw8⟩:∃ w8,w8=w6.alloc (.cells #[.int .i64 1,.slice KA la kca,.pointer none,.int .i64 0] 64):=⟨_,rfl⟩
       obtain ⟨w9,hw9⟩:∃ w9,w9=w8.alloc (.cells #[.int .i64 2,.slice KB lb kcb,.pointer none,.int .i64 0] 64):=⟨_,rfl⟩
       have b8:Blk w8 w6.heap.size 64 #[.int .i64 1,.slice KA la kca,.pointer none,.int .i64 0]:=by rw [hw8]; exact Blk.made w6 _ _
       have b9:Blk w9 w8.heap.size 64 #[.int .i64 2,.slice KB lb kcb,.pointer none,.int .i64 0]:=by rw [hw9]; exact Blk.made w8 _ _
       have s8:w8.heap.size=w6.heap.size+1:=by rw [hw8]; exact Array.size_push _
       have d8:Below w6.heap.size w6 w8:=by rw [hw8]; exact (Below.refl _ _).alloc (Nat.le_refl _) _
       have d9:Below w8.heap.size w8 w9:=by rw [hw9]; exact (Below.refl _ _).alloc (Nat.le_refl _) _
       rw [← hw8,← hw9]
       rw [s8] at b9
       have b89:=b8.only (Only.ofBelow d9 (fun _=>False)) (by simp)
       have hB07':=hB06.out.trans ((d8.trans (d9.mono d8.size)).mono hB06.out.size)
       have hz7:=hB06.out.size
       have hM9:=(hM6.out.below d8).below d9
       have hG9:rzL.At w9 a (newRz 0 s):=rz_below (rz_below hG6.out d8) d9
       clear d8 d9 b8 hB06 hM6 hG6 s8 hw8 hw9
       generalize w6.heap.size=q0 at*
       have hSt:=rz_mst (len:=plen) hk3.1 (by unfold nbk; exact Nat.pow_le_pow_right (n:=2) (by omega) (show (k3 % 6).toNat≤3 by omega)) hLa.out (by rw [hln.out]; exact hl20) hnd.out hspw hs16 hM9 hG9 (by rw [hla.out]; exact b89) (by rw [hlb.out]; exact b9) (by omega) hB07' (fun x q=>by
        rcases q with q | q | q | q
        · exact hlo.out x q
        · exact hlg.out x q
        · omega
        · omega)
       obtain ⟨H,N,gH,hSt⟩:=hSt
       have hB9:=Lib.hid hB07'
       clear b9 b89 hB07' hz7 hM9 hG9 hlo hlg hLa
       generalize q0+1=q1 at*
       have hMx:=Lib.hid (rz_mix (cap:=cap) (pcap:=pcap) hSt gH hB9.out hP.out (by rw [hln.out]; omega) ⟨hKA.out,by rw [hla.out]; exact hla10⟩ ⟨hKB.out,by rw [hlb.out]; exact hlb10⟩ hp600 hPA.out)
       rw [hln.out] at hMx
       clear hSt hKA hKB hPA hla hlb hB9 hB4 hB1 hA1 hnd gH hln hP
       go_wp2_with fail
       refine (hAw.out _).mono ?_
       rintro e w10 ⟨rfl,hB10⟩
       have hMy:=Lib.hid (hMx.out w10 hB10)
       clear hMx hAw hB10
       go_wp2_with fail
       refine hMy.out.mono ?_
       rintro e w11 ⟨rfl,hB11,B,hOv⟩
       have hE:=Lib.hid (hOv w11 (Below.refl _ _)).1
       have hN:=Lib.hid (hOv w11 (Below.refl _ _)).2.1
       replace hOv:=Lib.hid hOv
       replace hB11:=Lib.hid hB11
       have hfd:∀ w,(Instr.field 51 (.agg #[.int .i64 s,.int .i64 B]) 0).run Tryz.prog w=.ok (.int .i64 s) w:=fun w=>rfl
       clear hMy
       go_wp2_with fail
       refine hE.out.mono ?_
       rintro e w' ⟨rfl,hw⟩
       obtain rfl:w11=w':=hw.symm
       clear hE
       go_wp2_with fail
       refine hN.out.mono ?_
       rintro e w12 ⟨rfl,hB12⟩
       have hRc:=Lib.hid (hOv.out w12 hB12).2.2.1
       replace hB12:=Lib.hid hB12
       clear hN
       go_wp2_with fail
       refine hRc.out.mono ?_
       rintro e w13 ⟨⟨Ar,capr,rfl⟩,hB13⟩
       have hB23:=hB12.out.trans (hB13.mono hB12.out.size)
       obtain ⟨lg,cl,lm',hHd⟩:=(hOv.out w13 hB23).2.2.2
       have hBx:=Lib.hid (hB11.out.trans (hB23.mono hB11.out.size))
       replace hHd:=Lib.hid hHd
       clear hRc hOv hB11 hB12 hB13 hB23
       go_wp2_with fail
       refine hHd.out.mono ?_
       rintro e w14 ⟨⟨Al,capl,rfl⟩,hB14⟩
       have hBy:=Lib.hid (hBx.out.trans (hB14.mono hBx.out.size))
       clear hHd hBx hB14
       go_wp2_with fail
       go_ret
       exact ⟨rfl,hBy.out⟩
end Go.Proofs.YtkogifmjbmnpgaaGreat.Zr
namespace Go.Proofs.YtkogifmjbmnpgaaGreat.LK
open Go.RowKit Go.WideShapes Go.ChangeShapes
theorem reach_le:reachBytes≤140737488355328:=by decide
theorem weightsAll_in {H:Type} {P:Program} {e:TypeId} {l:List (DataW H)} {d:DataW H} (h:d∈l) (n:Nat) (hn:n∈d.weights P e):n∈DataW.weightsAll P e l:=by
 induction l with
 | nil=>cases h
 | cons x r ih=>
   simp only [DataW.weightsAll,List.mem_append]
   rcases List.mem_cons.1 h with rfl | h
   · exact .inl hn
   · exact .inr (ih h)
theorem rows_sized {H:Type} {enc:TypeId×Value→H} {P:Program} {w:World} {base:Nat} {spare:Nat→Bool} {held:Bool} {r:Reach} {b0:Nat} {t e:TypeId} {fs:Array Field} {v:Value} {d:DataW H} {p:List MemPlace}
 (ht:P.underlying t=some (.slice e)) (he:P.underlying e=some (.struct fs)) (hone:Go.Deep.oneCellFields P fs=true) (hC:P.cellsOf e=fs.size) (h0:0<fs.size)
 (hv:Value.okWide P w r b0 t v) (h:DataW.Trod enc P w base spare held t v d p):
 ∃ (A:Option Addr) (len cap:Nat),v=.slice A len cap∧len≤maxLen∧∀ i,i<len→∃ b o:Nat,A=some ⟨b,o,none⟩∧b<w.heap.size∧
   ∀ (j:Nat) (f:Field),fs[j]?=some f→∃ (u:Value) (n:Nat) (y:DataW H×List MemPlace),w.cell? ⟨b,o+(i*fs.size+j),none⟩=some u∧DataW.trod enc P w base spare held n f.type [u]=some y∧∀ k∈y.1.weights P f.type,k∈d.weights P t:=by
 obtain ⟨A,len,cap,rfl⟩:=okWide_slice ht hv
 obtain ⟨fuel,hf⟩:=h
 have hcs:(Value.slice A len cap).cells.toList=[.slice A len cap]:=rfl
 rw [hcs] at hf
 rcases Go.Deep.open_slice ht hf with ⟨h0,_⟩ | ⟨a,len',cap',m,n,D,Pl,hcs',_,hl,hm,hmm,hx,hi⟩
 · injection h0 with h0 _
   injection h0 with h1 h2 h3
   subst h1; subst h2; subst h3
   exact ⟨_,_,_,rfl,by simp [maxLen],fun i hi=>by omega⟩
 · injection hcs' with h0 _
   injection h0 with h1 h2 h3
   subst h1; subst h2; subst h3
   injection hx with hd _
   have hlm:len≤m:=by rw [hmm]; split<;>omega
   have fld:∀ i,i<len→∀ (j:Nat) (f:Field),fs[j]?=some f→∃ (u:Value) (n:Nat) (y:DataW H×List MemPlace),w.cell? (a.add (i*fs.size+j))=some u∧DataW.trod enc P w base spare held n f.type [u]=some y∧∀ k∈y.1.weights P f.type,k∈d.weights P t:=by
    intro i hlt j f hj
    obtain ⟨cs',hc,ht'⟩:=hi i (by omega)
    rw [hC] at hc
    obtain ⟨ys,n',_,hDi,hlen,hyl,hff⟩:=DataW.trod_struct he ht'
    obtain ⟨_,hcl,hat⟩:=World.cells?_some hc
    obtain ⟨ho,hk⟩:=Go.Deep.hone_of hone j f hj
    have hjl:j<fs.size:=(Array.getElem?_eq_some_iff.1 hj).1
    have hcell:=hat j hjl
    have hv:cs'[j]?=some (cs'[j]'(by omega)):=List.getElem?_eq_getElem (by omega)
    have h1:=hff j f hj
    rw [ho,hk] at h1
    have hone':(cs'.drop j).take 1=[cs'[j]'(by omega)]:=by
     rw [List.drop_eq_getElem_cons (by omega)]
     rfl
    rw [hone'] at h1
    have hys:ys[j]?=some (ys[j]'(by omega)):=List.getElem?_eq_getElem (by omega)
    refine ⟨_,_,_,?_,h1.trans hys,fun k hk2=>?_⟩
    · rw [← Go.Deep.add_add,hcell,hv]
    · injection hDi with hDi _
      rw [hd]
      simp only [DataW.weights,ht,List.mem_cons,List.mem_append]
      refine .inr (.inl (weightsAll_in (d:=D i) (List.mem_map.2 ⟨i,List.mem_range.2 hlt,rfl⟩) k ?_))
      rw [hDi]
      simp only [DataW.weights,he]
      exact DataW.weights_mem_each (j:=j) (by simp [hj]) (by simp [hys]) k hk2
   refine ⟨_,_,_,rfl,Nat.le_trans hl hm,fun i hlt=>?_⟩
   obtain ⟨u,_,_,hc,_⟩:=fld 0 (by omega) 0 _ (Array.getElem?_eq_getElem h0)
   rw [show a.add (0*fs.size+0)=a from by simp [Addr.add]] at hc
   obtain ⟨b,o,rfl,hb⟩:=plain_of hc
   refine ⟨b,o,rfl,hb,fun j f hj=>?_⟩
   obtain ⟨u',n',y',hc',ht',hw'⟩:=fld i hlt j f hj
   exact ⟨u',n',y',by rw [← Addr.add_lit]; exact hc',ht',hw'⟩
theorem list_of {α:Type} [Inhabited α] {p:Nat→α→Prop} {n:Nat} (h:∀ i,i<n→∃ x,p i x):∃ l:List α,l.length=n∧∀ i,i<n→p i (l.getD i default):=by
 induction n with
 | zero=>exact ⟨[],rfl,fun i hi=>by omega⟩
 | succ n ih=>
   obtain ⟨l,hl,hp⟩:=ih (fun i hi=>h i (by omega))
   obtain ⟨x,hx⟩:=h n (by omega)
   refine ⟨l++[x],by simp [hl],fun i hi=>?_⟩
   by_cases e:i<n
   · rw [show (l++[x]).getD i default=l.getD i default by simp [List.getElem?_append_left (by omega:i<l.length)]]
     exact hp i e
   · obtain rfl:i=n:=by omega
     rw [show (l++[x]).getD i default=x by simp [hl]]
     exact hx
end Go.Proofs.YtkogifmjbmnpgaaGreat.LK
namespace Go.Proofs.YtkogifmjbmnpgaaGreat.LawTh
open Go Go.WideShapes Go.ChangeShapes
set_option maxRecDepth 100000
theorem slice_cap {H:Type} {enc:TypeId×Value→H} {P:Program} {w:World} {base:Nat} {spare:Nat→Bool} {held:Bool} {t e:TypeId} {A:Option Addr} {len cap:Nat} {d:DataW H} {p:List MemPlace}
 (ht:P.underlying t=some (.slice e)) (h:DataW.Trod enc P w base spare held t (.slice A len cap) d p):len≤cap∧cap≤maxLen:=by
 obtain ⟨fuel,hf⟩:=h
 have hcs:(Value.slice A len cap).cells.toList=[.slice A len cap]:=rfl
 rw [hcs] at hf
 rcases Go.Deep.open_slice ht hf with ⟨h0,_⟩ | ⟨a,len',cap',m,n,D,Pl,hcs',_,hl,hm,hmm,_,hi⟩
 · injection h0 with h0 _
   injection h0 with h1 h2 h3
   subst h1; subst h2; subst h3
   exact ⟨Nat.le_refl _,by simp [maxLen]⟩
 · injection hcs' with h0 _
   injection h0 with h1 h2 h3
   subst h1; subst h2; subst h3
   exact ⟨hl,hm⟩
end Go.Proofs.YtkogifmjbmnpgaaGreat.LawTh
namespace Go.Proofs.YtkogifmjbmnpgaaGreat.LawTen
open Go Go.RowKit Go.WideShapes Go.ChangeShapes Hp K Fl Rw Hm Ar Mm Me LK Wk Pc LawSix
set_option maxRecDepth 100000
theorem pairs_of {H:Type} {enc:TypeId×Value→H} {w:World} {base:Nat} {spare:Nat→Bool} {held:Bool} {r:Reach} {b0:Nat} {v:Value} {d:DataW H} {p:List MemPlace}
 (hv:Value.okWide Tryz.prog w r b0 48 v) (h:DataW.Trod enc Tryz.prog w base spare held 48 v d p) (hsz:∀ k∈d.weights Tryz.prog 48,k≤reachBytes):
 ∃ (A:Option Addr) (l:List Pr) (cap:Nat),v=.slice A l.length cap∧l.length≤maxLen∧PairsAt w A l:=by
 obtain ⟨A,len,cap,rfl,hl,hrow⟩:=rows_sized Tryz.underlying48 Tryz.underlying59 (by kernel_rfl) (by kernel_rfl) (by decide) hv h
 have hall:∀ i,i<len→∃ x:Pr,∃ b o:Nat,A=some ⟨b,o,none⟩∧b<w.heap.size∧w.cell? ⟨b,o+i*2,none⟩=some (.string x.1)∧w.cell? ⟨b,o+i*2+1,none⟩=some (.string x.2)∧x.1.size≤140737488355328∧x.2.size≤140737488355328:=by
  intro i hi
  obtain ⟨b,o,rfl,hb,hf⟩:=hrow i hi
  obtain ⟨u0,n0,y0,c0,t0,z0⟩:=hf 0 _ rfl
  obtain ⟨u1,n1,y1,c1,t1,z1⟩:=hf 1 _ rfl
  obtain ⟨k,e0,d0,_⟩:=DataW.trod_string Tryz.underlying9 t0
  obtain ⟨m,e1,d1,_⟩:=DataW.trod_string Tryz.underlying9 t1
  injection e0 with e0; injection e1 with e1
  subst e0; subst e1
  refine ⟨(k,m),b,o,rfl,hb,by simpa using c0,by simpa [Nat.add_assoc] using c1,?_,?_⟩
  · have:=hsz _ (z0 k.data.toList.length (by rw [d0]; simp [DataW.weights]))
    have h3:k.size=k.data.toList.length:=(Array.length_toList).symm
    show k.size≤_
    rw [h3]
    exact Nat.le_trans this reach_le
  · have:=hsz _ (z1 m.data.toList.length (by rw [d1]; simp [DataW.weights]))
    have h3:m.size=m.data.toList.length:=(Array.length_toList).symm
    show m.size≤_
    rw [h3]
    exact Nat.le_trans this reach_le
 obtain ⟨l,hll,hp⟩:=list_of hall
 subst hll
 exact ⟨A,l,cap,rfl,hl,fun i hi=>hp i hi⟩
end Go.Proofs.YtkogifmjbmnpgaaGreat.LawTen
namespace Go.Proofs.YtkogifmjbmnpgaaGreat.LawTh
open Go Go.RowKit Go.WideShapes Go.ChangeShapes Hp LK
set_option maxRecDepth 100000
theorem rows_one {H:Type} {enc:TypeId×Value→H} {P:Program} {w:World} {base:Nat} {spare:Nat→Bool} {held:Bool} {r:Reach} {b0:Nat} {t e:TypeId} {v:Value} {d:DataW H} {p:List MemPlace}
 (ht:P.underlying t=some (.slice e)) (hC:P.cellsOf e=1) (hv:Value.okWide P w r b0 t v) (h:DataW.Trod enc P w base spare held t v d p):
 ∃ (A:Option Addr) (len cap:Nat),v=.slice A len cap∧len≤maxLen∧∀ i,i<len→∃ b o:Nat,A=some ⟨b,o,none⟩∧b<w.heap.size∧
   ∃ (u:Value) (n:Nat) (y:DataW H×List MemPlace),w.cell? ⟨b,o+i,none⟩=some u∧DataW.trod enc P w base spare held n e [u]=some y∧∀ k∈y.1.weights P e,k∈d.weights P t:=by
 obtain ⟨A,len,cap,rfl⟩:=okWide_slice ht hv
 obtain ⟨fuel,hf⟩:=h
 have hcs:(Value.slice A len cap).cells.toList=[.slice A len cap]:=rfl
 rw [hcs] at hf
 rcases Go.Deep.open_slice ht hf with ⟨h0,_⟩ | ⟨a,len',cap',m,n,D,Pl,hcs',_,hl,hm,hmm,hx,hi⟩
 · injection h0 with h0 _
   injection h0 with h1 h2 h3
   subst h1; subst h2; subst h3
   exact ⟨_,_,_,rfl,by simp [maxLen],fun i hi=>by omega⟩
 · injection hcs' with h0 _
   injection h0 with h1 h2 h3
   subst h1; subst h2; subst h3
   injection hx with hd _
   have hlm:len≤m:=by rw [hmm]; split<;>omega
   have fld:∀ i,i<len→∃ (u:Value) (n:Nat) (y:DataW H×List MemPlace),w.cell? (a.add i)=some u∧DataW.trod enc P w base spare held n e [u]=some y∧∀ k∈y.1.weights P e,k∈d.weights P t:=by
    intro i hlt
    obtain ⟨cs',hc,ht'⟩:=hi i (by omega)
    rw [hC,Nat.mul_one] at hc
    obtain ⟨_,hcl,hat⟩:=World.cells?_some hc
    have hcell:=hat 0 (by omega)
    have e1:cs'=[cs'[0]'(by omega)]:=by
     match cs',hcl with
     | [x],_=>rfl
    have hv:cs'[0]?=some (cs'[0]'(by omega)):=List.getElem?_eq_getElem (by omega)
    refine ⟨cs'[0]'(by omega),n,_,?_,by rw [← e1]; exact ht',fun k hk2=>?_⟩
    · have:(a.add i).add 0=a.add i:=by simp [Addr.add]
      rw [this,hv] at hcell
      exact hcell
    · rw [hd]
      simp only [DataW.weights,ht,List.mem_cons,List.mem_append]
      exact .inr (.inl (weightsAll_in (d:=D i) (List.mem_map.2 ⟨i,List.mem_range.2 hlt,rfl⟩) k hk2))
   refine ⟨_,_,_,rfl,Nat.le_trans hl hm,fun i hlt=>?_⟩
   obtain ⟨u,_,_,hc,_⟩:=fld 0 (by omega)
   rw [show a.add 0=a from by simp [Addr.add]] at hc
   obtain ⟨b,o,rfl,hb⟩:=plain_of hc
   refine ⟨b,o,rfl,hb,?_⟩
   obtain ⟨u',n',y',hc',ht',hw'⟩:=fld i hlt
   exact ⟨u',n',y',by rw [← Addr.add_lit]; exact hc',ht',hw'⟩
theorem strs_of {H:Type} {enc:TypeId×Value→H} {w:World} {base:Nat} {spare:Nat→Bool} {held:Bool} {r:Reach} {b0:Nat} {v:Value} {d:DataW H} {p:List MemPlace}
 (hv:Value.okWide Tryz.prog w r b0 56 v) (h:DataW.Trod enc Tryz.prog w base spare held 56 v d p) (hsz:∀ k∈d.weights Tryz.prog 56,k≤reachBytes):
 ∃ (A:Option Addr) (l:List ByteArray) (cap:Nat),v=.slice A l.length cap∧l.length≤maxLen∧StrsAt w A l:=by
 obtain ⟨A,len,cap,rfl,hl,hrow⟩:=rows_one Tryz.underlying56 (by kernel_rfl) hv h
 have hall:∀ i,i<len→∃ x:ByteArray,∃ b o:Nat,A=some ⟨b,o,none⟩∧b<w.heap.size∧w.cell? ⟨b,o+i,none⟩=some (.string x)∧x.size≤140737488355328:=by
  intro i hi
  obtain ⟨b,o,rfl,hb,u0,n0,y0,c0,t0,z0⟩:=hrow i hi
  obtain ⟨k,e0,d0,_⟩:=DataW.trod_string Tryz.underlying9 t0
  injection e0 with e0
  subst e0
  refine ⟨k,b,o,rfl,hb,c0,?_⟩
  have:=hsz _ (z0 k.data.toList.length (by rw [d0]; simp [DataW.weights]))
  have h3:k.size=k.data.toList.length:=(Array.length_toList).symm
  rw [h3]
  exact Nat.le_trans this reach_le
 obtain ⟨l,hll,hp⟩:=list_of hall
 subst hll
 exact ⟨A,l,cap,rfl,hl,fun i hi=>hp i hi⟩
end Go.Proofs.YtkogifmjbmnpgaaGreat.LawTh
