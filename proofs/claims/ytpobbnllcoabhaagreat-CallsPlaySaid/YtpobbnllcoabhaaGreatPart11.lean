/- Walks and plain mathematics, put together in their order: ElC, TenC, ElD, FnA, TwA, LawEightA, ElE, TwB, RzG, ClQ, DoA, ClU, ClV. -/
import Derived.Test.YtpobbnllcoabhaaGreatPart10
import Derived.Test.YtpobbnllcoabhaaGreatGetD
import Derived.Deep.DeepCutAuto
import Derived.Deep.CutBlock
import Derived.Test.YtpobbnllcoabhaaGreatMemNew
set_option linter.unusedVariables false
set_option linter.unusedSimpArgs false
namespace Go.Proofs.YtpobbnllcoabhaaGreat.LawEl
open Go Go.RowKit Hp K Fl Rw Hm Ar Mm Me LK Qs Re LawSix Pn Pc Mq
set_option maxRecDepth 100000
def Kept (ss0:List Sl) (ks:List Nat) (G:Nat) (ss:List Sl) (ws left:List Nat):Prop:=
 Wr ss (ws++left) ks G∧Nexts ss∧ss.length=ss0.length∧∀ y∈ks,∀ k,IsAt ss0 y k→IsAt ss y k∧at' ss k=at' ss0 k
theorem kept_ok {ss0:List Sl} {ks:List Nat} {G:Nat} (hG:G≤1000000):Rk.Rok (Kept ss0 ks G):=by
 refine ⟨fun h=>h.1.room,fun h hx=>?_,fun h=>?_,?_⟩
 · exact h.1.small hG (List.mem_append_left _ (List.mem_append_right _ hx))
 · obtain ⟨h1,h2,h3,h4⟩:=h
   exact ⟨by simpa using h1,h2,h3,h4⟩
 · rintro ss ws x r k ⟨h1,h2,h3,h4⟩ hk
   have hp:((ws++ks)++(x::r)).Perm ((ws++x::r)++ks):=by
    rw [List.append_assoc,List.append_assoc]
    exact List.Perm.append_left _ List.perm_append_comm
   have hw:=(h1.perm hp).free hk
   have hnd:=h1.nd
   refine ⟨hw.perm ?_,h2.set hk.1 _ (by simp [Nd.zero]),by simp [freed]; exact h3,fun y hy j hj=>?_⟩
   · rw [List.append_assoc,List.append_assoc]
     exact List.Perm.append_left _ List.perm_append_comm
   · obtain ⟨q1,q2⟩:=h4 y hy j hj
     have hne:j≠k:=by
      rintro rfl
      have e:y=x:=by rw [q1.2.2,hk.2.2]
      subst e
      exact (List.nodup_append.1 hnd).2.2 y (by simp) y hy rfl
     unfold freed
     refine ⟨(isAt_turn hk.1 _ _ _).2 (by rw [if_neg hne]; exact q1),?_⟩
     rw [at_set hk.1,if_neg hne]
     exact q2
theorem hs_all {hs:List Int} (hl:hs.length=6) (h:∀ i,Lo.hol hs i= -1):hs=List.replicate 6 (-1):=by
 apply List.ext_getElem
 · simpa using hl
 · intro i h1 h2
   have:=h i
   unfold Lo.hol at this
   rw [List.getD_eq_getElem?_getD,List.getElem?_eq_getElem h1] at this
   rw [List.getElem_replicate]
   exact this
theorem fin_le {S:Type} {rd:S→Bool} {st:S→S} {dn:S→Bool} (f:S→Int) (B:Int) (hst:∀ s,1≤f s→f s≤B→1≤f (st s)∧f (st s)≤f s+1):∀ (K:Nat) (s:S),1≤f s→f s+K≤B→1≤f (fin rd st dn K s).2.2∧f (fin rd st dn K s).2.2≤f s+K:=by
 intro K
 induction K with
 | zero=>
   intro s h1 h2
   exact ⟨h1,by show f s≤_; omega⟩
 | succ K ih=>
   intro s h1 h2
   obtain ⟨a,b⟩:=hst s h1 (by omega)
   unfold fin
   split
   · split
     · exact ⟨a,by show f (st s)≤_; omega⟩
     · obtain ⟨c,d⟩:=ih (st s) a (by omega)
       exact ⟨c,by show f (fin rd st dn K (st s)).2.2≤_; omega⟩
   · exact ⟨h1,by show f s≤_; omega⟩
theorem wstep_per (n:Nat) (xs hs:List Int) (W:Wt) (h1:1≤Cl.nth xs 0) (h2:Cl.nth xs 0≤2000000000000):1≤Cl.nth (wstep n xs hs W).1 0∧Cl.nth (wstep n xs hs W).1 0≤Cl.nth xs 0+1:=by
 have hl:0<xs.length:=by
  rcases xs with _ | ⟨a,t⟩
  · simp [Cl.nth] at h1
  · simp
 unfold wstep
 split
 · exact ⟨h1,by simp only; omega⟩
 split
 · simp only
   rw [nth_set _ _ _ hl,if_pos rfl]
   have e:Cl.sum64 (Cl.nth xs 0) 1=Cl.nth xs 0+1:=by unfold Cl.sum64; omega
   rw [e]
   omega
 split
 · exact ⟨h1,by simp only; omega⟩
 · exact ⟨h1,by simp only; omega⟩
theorem dstep_per (n:Nat) (M:Mo) (D:Dr) (h1:1≤Cl.nth M.xs 0) (h2:Cl.nth M.xs 0≤2000000000000):1≤Cl.nth (dstep n M D).1.xs 0∧Cl.nth (dstep n M D).1.xs 0≤Cl.nth M.xs 0+1:=by
 unfold dstep
 split
 · exact ⟨h1,by simp only; omega⟩
 split
 · exact wstep_per _ _ _ _ h1 h2
 · exact ⟨h1,by simp only; omega⟩
def Nz (L L':Lm):Prop:=L'.ds=L.ds∧L'.xs.length=L.xs.length∧(1≤Cl.nth L.xs 0→Cl.nth L.xs 0≤1000000000000→1≤Cl.nth L'.xs 0∧Cl.nth L'.xs 0≤Cl.nth L.xs 0+5000)
theorem Nz.refl (L:Lm):Nz L L:=⟨rfl,rfl,fun a _=>⟨a,by omega⟩⟩
section
variable {w:World} {M:Mo} {n B:Nat} {cs:Nat→List Mq.Hp} {l:List Pr} {G:Nat}
def Freed (w:World) (M:Mo) (n B:Nat) (cs:Nat→List Mq.Hp) (l:List Pr) (G:Nat) (w':World):Prop:=
 ∃ M',MemAt w' M'∧M'.m=M.m∧(∀ x,mfoot M' x→mfoot M x∨w.heap.size≤x)∧Mp (lm M') n B cs l G∧M'.ws=[]∧M'.ss.length=M.ss.length∧M'.k=M.k∧Only (mfoot M) w w'∧Nz (lm M) (lm M')
theorem drain_ends (hM:MemAt w M) (h:Mp (lm M) n B cs l G) (hG:G≤1000000) {f fw:Nat} {k:Int} (hk:0≤k∧k≤1000) {w1:World} (hB:Below w.heap.size w w1) (hf:w.heap.size≤f∧w.heap.size≤fw) (hD:DrAt w1 ⟨f,fw,0,⟨k,0,0,0⟩,none,0,[]⟩) (hws:M.ws≠[]) (K:Nat) (hK:2000≤K∧K≤5000):
 Calls Tryz.prog 21 #[ptr M.m,.iface 60 (ptr f),.int .i64 K] w1 fun e w'=>(∃ m:Nat,e=.returned (.tuple #[.int .i64 m,.bool true]))∧Freed w M n B cs l G w':=by
 obtain ⟨kn,hkn⟩:=Int.eq_ofNat_of_zero_le (show 0≤M.k from by have:1≤M.k∧M.k≤8:=h.k; omega)
 have hk8:1≤M.k∧M.k≤8:=h.k
 have hxl:B+n≤M.xs.length:=h.xl
 have hkB:2+M.k≤B:=h.kB
 have hhs:M.hs=List.replicate 6 (-1):=h.hs
 have hsm:=h.small
 have hsm1:M.ws.length+(alls n cs).length≤1024:=hsm.1
 have hM1:=hM.below hB
 have o:=kept_ok (ss0:=M.ss) (ks:=alls n cs) hG
 have hp:Rk.Pk (Kept M.ss (alls n cs) G) kn M ⟨f,fw,0,⟨k,0,0,0⟩,none,0,[]⟩:=
  ⟨by simp,hkn,by rw [hhs]; simp,fun _=>⟨rfl,rfl⟩,fun q=>absurd rfl q,fun _=>⟨by omega,by simp,by simp; omega,by rw [hhs]; simp,by omega,⟨by simp,fun _=>by show 0<kn; omega⟩,fun q=>absurd rfl q⟩,fun _ _=>rfl,
   ⟨by simpa using h.wr,h.nexts,rfl,fun y _ k q=>⟨q,rfl⟩⟩⟩
 have hq:Qd kn M ⟨f,fw,0,⟨k,0,0,0⟩,none,0,[]⟩ []:=
  ⟨fun i hi=>h.zero i (by show (i:Int)<M.k; omega),fun _=>by rw [hhs]; rfl,fun _=>⟨hws,rfl⟩,fun q=>absurd rfl q⟩
 have hmu:dmu kn M ⟨f,fw,0,⟨k,0,0,0⟩,none,0,[]⟩≤K:=by
  unfold dmu
  rw [if_pos rfl]
  omega
 obtain ⟨s',e',a1,a2,a3,a4,a5,a6,a7,a8,a9,b1,b2,b3⟩:=Rk.fin_run o K (M,⟨f,fw,0,⟨k,0,0,0⟩,none,0,[]⟩) hp hq hmu
 have hF:=Rk.finish_drain o hM1 hD hp (fun q=>absurd rfl q) K (by omega)
 have hle:=fin_le (rd:=rdD) (st:=stD kn) (dn:=dnD) (fun s:Mo×Dr=>Cl.nth s.1.xs 0) 2000000000000 (fun s g1 g2=>dstep_per kn s.1 s.2 g1 g2) K (M,⟨f,fw,0,⟨k,0,0,0⟩,none,0,[]⟩)
 rw [e'] at hF hle
 refine hF.mono fun e w' hh=>⟨⟨_,hh.1⟩,?_⟩
 have hI:=hh.2
 obtain ⟨kk,c1,c2,c3,c4,c5,c6,c7⟩:=a1.last o a3
 have c1':(stD kn s').1={s'.1 with ss:=freed s'.1.ss kk}:=c1
 have hz:s'.1.ws=[]:=a2.ws1 (by omega)
 rw [hz] at c7
 obtain ⟨d1,d2,d3,d4⟩:=c7
 have hlock:=a2.lock (.inr (.inr a3.1))
 simp only at a4 a5 a6 a7 a8 b1 b2 b3
 have hM':=hI.mem
 simp only at hM'
 refine ⟨(stD kn s').1,hM',hI.m,fun x hx=>.inl (hI.foot x hx),?_,?_,?_,?_,?_,?_⟩
 · rw [c1']
   have hnow:Me.now s'.1.xs s'.1.ds=(n,B):=by
    have:=h.now
    unfold Me.now at this ⊢
    rw [b1,b2 1 (by omega)]
    exact this
   refine ⟨h.pw,hnow,?_,?_,?_,?_,?_,?_,d2,fun b hb=>?_,h.bk,h.kd,by show Wr (freed s'.1.ss kk) s'.1.ws (alls n cs) G; rw [hz]; simpa using d1,h.ln,h.lk,h.len,fun i hi=>?_,?_,?_⟩
   · intro i hi
     show _∧_∧_≤s'.1.xs.length
     have hi:i<s'.1.ds.length:=hi
     show 1≤(tab s'.1.ds i).1∧(tab s'.1.ds i).1≤65536∧(tab s'.1.ds i).2+(tab s'.1.ds i).1≤s'.1.xs.length
     rw [b1] at hi ⊢
     rw [a6]
     exact h.tabs i hi
   · show ∀ i,(tab s'.1.ds i).1≤65536∧(tab s'.1.ds i).2≤4000000
     rw [b1]; exact h.tb
   · show 1≤s'.1.k∧s'.1.k≤8
     rw [a8]; exact hk8
   · show 2+s'.1.k≤B
     rw [a8]; exact hkB
   · show B+n≤s'.1.xs.length
     rw [a6]; exact hxl
   · have:=hM'.2.1.2.2.1
     rw [c1'] at this
     exact this
   · show Cx (freed s'.1.ss kk) (Cl.nth s'.1.xs (B+b)).toNat (cs b)
     rw [b2 _ (by omega)]
     refine (h.ch b hb).keep fun y hy j hj=>?_
     obtain ⟨q1,q2⟩:=d4 y (alls_mem hb cs hy) j hj
     exact ⟨q1,by rw [q2]⟩
   · show Cl.nth s'.1.xs (2+i)=0
     rw [b2 _ (by omega)]
     have hi:(i:Int)<s'.1.k:=hi
     exact h.zero i (by show (i:Int)<M.k; omega)
   · show s'.1.hs=_
     refine hs_all (by rw [a7,hhs]; simp) fun i=>?_
     by_cases hi:i=0
     · rw [hi]; exact hlock
     · rw [b3 i (by omega),hhs]
       unfold Lo.hol
       rw [List.getD_eq_getElem?_getD,List.getElem?_replicate]
       split<;>rfl
   · show s'.1.F=false
     rw [a4]; exact h.F
 · rw [c1']; exact hz
 · rw [c1']; show (freed s'.1.ss kk).length=_; simp [freed]; exact a5
 · rw [c1']; exact a8
 · refine (Only.ofBelow hB (mfoot M)).trans' hI.only (fun x hx q=>?_)
   rcases q with q | q | q
   · exact q
   · have q:x=f:=q
     omega
   · have q:x=fw:=q
     omega
 · refine ⟨?_,?_,fun g1 g2=>?_⟩
   · show (stD kn s').1.ds=M.ds
     rw [c1']; exact b1
   · show (stD kn s').1.xs.length=M.xs.length
     rw [c1']; exact a6
   · have g1:1≤Cl.nth M.xs 0:=g1
     have g2:Cl.nth M.xs 0≤1000000000000:=g2
     obtain ⟨q1,q2⟩:=hle g1 (by show Cl.nth M.xs 0+(K:Int)≤_; omega)
     refine ⟨q1,?_⟩
     show Cl.nth (stD kn s').1.xs 0≤Cl.nth M.xs 0+5000
     have q2:Cl.nth (stD kn s').1.xs 0≤Cl.nth M.xs 0+K:=q2
     omega
set_option maxHeartbeats 1000000 in
theorem free_any (hM:MemAt w M) (h:Mp (lm M) n B cs l G) (hG:G≤1000000) (who:Nat) (hk:who≤1000):
 Calls Tryz.prog 7 #[ptr M.m,.int .i64 who] w fun e w'=>e=.returned (.bool true)∧Freed w M n B cs l G w':=by
 have hW:=Lib.hid (waiting_any hM)
 by_cases h0:M.ws=[]
 · have e0:M.ws.length=0:=by rw [h0]; rfl
   rw [e0] at hW
   have hF:=Lib.hid (show Freed w M n B cs l G w from ⟨M,hM,rfl,fun x q=>.inl q,h,h0,rfl,rfl,Only.refl _ _,Nz.refl _⟩)
   clear hM h h0 e0
   go_enter Tryz.func7,Tryz.ntmps7
   go_wp2_with fail
   refine hW.out.mono ?_
   rintro e w1 ⟨rfl,rfl⟩
   go_wp2_with fail
   go_ret
   exact ⟨rfl,hF.out⟩
 · have hlen:((M.ws.length:Int)==0)=false:=by
    have:M.ws.length≠0:=fun q=>h0 (List.eq_nil_of_length_eq_zero q)
    simp; exact h0
   have hD:=Lib.hid (new_drain who w)
   have hEn:=Lib.hid (fun (f:Nat) (w1:World) (hB:Below w.heap.size w w1) (hf:w.heap.size≤f) (hD:DrAt w1 ⟨f,w.heap.size,0,⟨who,0,0,0⟩,none,0,[]⟩)=>drain_ends hM h hG (k:=(who:Int)) (by omega) hB ⟨hf,Nat.le_refl _⟩ hD h0 5000 (by omega))
   generalize hwl:M.ws.length=m at*
   replace hwl:=Lib.hid hwl
   clear hM h h0
   go_enter Tryz.func7,Tryz.ntmps7
   go_wp2_with fail
   refine hW.out.mono ?_
   rintro e w1 ⟨rfl,rfl⟩
   clear hW
   go_wp2_with fail
   refine hD.out.mono ?_
   rintro e w2 ⟨f,rfl,hf,hD2,hB2⟩
   have hE2:=Lib.hid (hEn.out f w2 hB2 (by omega) hD2)
   clear hD hEn hD2 hB2
   go_wp2_with fail
   refine hE2.out.mono ?_
   rintro e w3 ⟨⟨m3,rfl⟩,hFr⟩
   replace hFr:=Lib.hid hFr
   clear hE2
   go_wp2_with fail
   go_ret
   exact ⟨rfl,hFr.out⟩
end
end Go.Proofs.YtpobbnllcoabhaaGreat.LawEl
namespace Go.Proofs.YtpobbnllcoabhaaGreat.LawTen
open Go Go.RowKit Hp K Fl Rw Hm Ar Mm Me LK Qs Wk Gt Pc LawSix
set_option maxRecDepth 100000
theorem low_get {W0 a b:World} {M:Mo} {g:Ga} (ha:Below W0.heap.size W0 a) (hlo:∀ x,mfoot M x→W0.heap.size≤x) (hg:∀ x,gfoot g x→W0.heap.size≤x) (ho:Only (fun x=>mfoot M x∨gfoot g x) a b):Below W0.heap.size W0 b:=
 ha.trans (ho.toBelow ha.size (fun x hx q=>by
  rcases q with q | q
  · have:=hlo x q; omega
  · have:=hg x q; omega))
theorem ev_made {n k j:Nat} (hn:n≤1024) (hk:k≤8) (hj:j<k) (key:ByteArray) (F:Bool):Ev.Ok ⟨[(1,k+2)],List.replicate n .zero,1::List.replicate (k+2) 0,F,key,j,[],0⟩:=by
 have hb:=bucket_lt (n:=1) (by decide) (sm key) (sm_bd key).1
 have hz:∀ i,i≠0→Cl.nth (1::List.replicate (k+2) 0) i=0:=by
  intro i hi
  obtain ⟨i,rfl⟩:∃ i',i=i'+1:=⟨i-1,by omega⟩
  simp only [Cl.nth,List.getD,List.getElem?_cons_succ,List.getElem?_replicate]
  split<;>rfl
 have hnow:now (1::List.replicate (k+2) 0) [(1,k+2)]=(1,k+2):=by
  unfold now
  rw [hz 1 (by omega)]
  rfl
 have hc:Ev.cell ⟨[(1,k+2)],List.replicate n .zero,1::List.replicate (k+2) 0,F,key,j,[],0⟩=((k+2:Nat):Int):=by
  unfold Ev.cell cellOf
  simp only
  rw [hnow]
  simp only
  rw [if_neg (by omega)]
  omega
 refine ⟨by simp; omega,LawNine.nexts_zero n,?_,⟨by simp; omega,by simp only; omega⟩,?_,hz _ (by simp only; omega),?_,?_,Nat.le_refl _,by simp only; omega⟩
 · intro i
   simp only [tab,List.getD]
   rcases i with _ | i
   · simp; omega
   · simp
 · intro x hx
   simp only [List.mem_cons,List.mem_replicate] at hx
   omega
 · rw [hc]; simp only; omega
 · rw [hc]
   have:word (1::List.replicate (k+2) 0) ((k+2:Nat):Int)=0:=by
    unfold word
    split
    · rw [Int.toNat_natCast,hz _ (by omega)]; rfl
    · rfl
   simp only
   rw [this]
   exact .nil
set_option maxHeartbeats 1000000 in
theorem awake (w:World):Calls Tryz.prog 68 #[] w fun e w'=>e=.returned (.bool true)∧Below w.heap.size w w':=by
 have hN:=Lib.hid (made_yes 1 1 w (by omega) (by omega))
 go_enter Tryz.func68,Tryz.ntmps68
 go_wp2_with fail
 refine hN.out.mono ?_
 rintro e w1 ⟨M,rfl,hM,hlo,hB,h1,h2,h3,h4,h5,h6,h7⟩
 clear hN
 have hE:=Lib.hid (Gt.new_any 0 ⟨#[97]⟩ (by simp [maxLen]; decide) w1)
 have hv:Ev.Ok ⟨M.ds,M.ss,M.xs,M.F,⟨#[97]⟩,0,[],0⟩:=by
  rw [h1,h2,h6]
  exact ev_made (by omega) (by omega) (by omega) _ _
 replace hv:=Lib.hid hv
 replace hM:=Lib.hid hM
 replace hlo:=Lib.hid hlo
 replace hB:=Lib.hid hB
 clear h1 h2 h3 h7 h5 h4 h6
 go_wp2_with fail
 refine hE.out.mono ?_
 rintro e w2 ⟨a,rfl,hE2,hA2,hB2⟩
 have hM2:=hM.out.below hB2
 have hge:w.heap.size≤w1.heap.size:=hB.out.size
 have hB02:=Lib.hid (hB.out.trans (hB2.mono hge))
 have hF:=Lib.hid (get_ends hM2 hE2 hv.out 20 (by omega))
 have hA:=Lib.hid (fun x hx=>Nat.le_trans hge (hA2 x hx))
 clear hM hE hB2 hE2 hM2 hB hA2 hv hge
 go_wp2_with fail
 refine hF.out.mono ?_
 rintro e w3 ⟨n,G,a',rfl,hn,hr,hf,hM3,hG3,ea,_,hO3⟩
 obtain rfl:n=5:=by omega
 have hB3:=Lib.hid (low_get hB02.out hlo.out hA.out hO3)
 have hFd:=val_any hG3
 rw [hf.1,hf.2,ea] at hFd
 replace hFd:Hid (Calls Tryz.prog 77 #[ptr a.f] w3 fun e w'=>e=.returned (.tuple #[.string ⟨#[]⟩,.bool false])∧Below w3.heap.size w3 w'):=Lib.hid hFd
 clear hF hO3 hB02 hM3 hG3 hn hr hf ea hA hlo
 go_wp2_with fail
 refine hFd.out.mono ?_
 rintro e w4 ⟨rfl,hB4⟩
 have hB04:=Lib.hid (hB3.out.trans (hB4.mono hB3.out.size))
 clear hB3 hB4 hFd
 go_wp2_with fail
 refine (LawSix.awake _).mono ?_
 rintro e w5 ⟨rfl,hB5⟩
 have hB05:=Lib.hid (hB04.out.trans (hB5.mono hB04.out.size))
 clear hB5 hB04
 go_wp2_with fail
 refine (LawNine.awake _).mono ?_
 rintro e w6 ⟨rfl,hB6⟩
 have hB06:=Lib.hid (hB05.out.trans (hB6.mono hB05.out.size))
 clear hB6 hB05
 go_wp2_with fail
 go_ret
 exact ⟨rfl,hB06.out⟩
end Go.Proofs.YtpobbnllcoabhaaGreat.LawTen
namespace Go.Proofs.YtpobbnllcoabhaaGreat.LawEl
open Go Go.RowKit Hp K Fl Rw Hm Ar Mm Me LK Qs Wk Re LawSix Pn Pc Mq Pu LawTen
set_option maxRecDepth 100000
def Still (us:List TypeId) (w w':World):Prop:=∀ x t cs,t∉us→Blk w x t cs→Blk w' x t cs
theorem still_only {S:Nat→Prop} {us:List TypeId} {w w':World} (ho:Only S w w') (hS:∀ x,S x→Ty w x us):Still us w w':=fun x t cs ht hb=>hb.only ho (fun q=>(hS x q).apart (blk_ty hb) (fun t' h1 h2=>by
 have:t'=t:=by simpa using h2
 subst this
 exact ht h1))
structure S11 (W0 w:World) (M:Mo) (A:Option Addr) (cap:Nat) (l:List Pr):Prop where
 mem:MemAt w M
 row:Prs w A cap l
 below:Below W0.heap.size W0 w
 lom:∀ x,mfoot M x→W0.heap.size≤x
 low:∀ x,In A x→W0.heap.size≤x
section
variable {W0 w w':World} {M:Mo} {A:Option Addr} {cap:Nat} {l:List Pr} {n B:Nat} {cs:Nat→List Mq.Hp} {G:Nat}
theorem S11.down (h:S11 W0 w M A cap l) (hb:Below w.heap.size w w'):S11 W0 w' M A cap l:=
 ⟨h.mem.below hb,h.row.only (Only.ofBelow hb (fun _=>False)) (by simp),h.below.trans (hb.mono h.below.size),h.lom,h.low⟩
theorem S11.moved {M':Mo} {S:Nat→Prop} (h:S11 W0 w M A cap l) (hM:MemAt w' M') (hf:∀ x,mfoot M' x→mfoot M x∨w.heap.size≤x) (ho:Only S w w') (hS:∀ x,S x→W0.heap.size≤x) (hA:∀ x,In A x→¬S x):S11 W0 w' M' A cap l:=
 ⟨hM,h.row.only ho hA,h.below.trans (ho.toBelow h.below.size (fun x hx q=>by have:=hS x q; omega)),fun x hx=>by
  rcases hf x hx with q | q
  · exact h.lom x q
  · have:=h.below.size; omega,h.low⟩
theorem S11.apart (h:S11 W0 w M A cap l) {x:Nat} (hx:In A x) {us:List TypeId} (hd:122∉us):¬Ty w x us:=fun q=>q.apart (row_ty h.row hx) (by
 intro t ht ht2
 have:t=122:=by simpa using ht2
 subst this
 exact hd ht)
theorem S11.ap_mem (h:S11 W0 w M A cap l) {x:Nat} (hx:In A x):¬mfoot M x:=fun q=>h.apart hx (by decide) (h.mem.ty q)
theorem S11.freed_n {lr:List Pr} (h:S11 W0 w M A cap lr) (hF:Freed w M n B cs l G w'):∃ M',S11 W0 w' M' A cap lr∧M'.m=M.m∧Mp (lm M') n B cs l G∧M'.ws=[]∧M'.ss.length=M.ss.length∧M'.k=M.k∧Still memTypes w w'∧Nz (lm M) (lm M'):=by
 obtain ⟨M',h1,h2,h3,h4,h5,h6,h7,h8,h9⟩:=hF
 exact ⟨M',h.moved h1 h3 h8 h.lom (fun x hx=>h.ap_mem hx),h2,h4,h5,h6,h7,still_only h8 (fun x q=>h.mem.ty q),h9⟩
def PutS (W0 w w':World) (M:Mo) (A:Option Addr) (cap:Nat) (lr l:List Pr) (n B G:Nat) (key val:ByteArray) (a:Qa):Prop:=
 ∃ (M':Mo) (a':Qa) (P':Pt),S11 W0 w' M' A cap lr∧M'.m=M.m∧PuAt w' a' P'∧a'.f=a.f∧P'.mine=0∧decide (P'.W.found≠0)=(Pc.lk l key).isSome∧M'.ss.length=M.ss.length∧M'.k=M.k∧Still (memTypes++putTypes) w w'∧
   ((freePl M.ss=none∧P'.err=4∧lm M'=lm M)∨((freePl M.ss).isSome∧P'.err=0∧M'.ws.length=M.ws.length+(if (Pc.lk l key).isSome then 1 else 0)∧∃ cs',∀ l',Upd l l' key val→Mp (lm M') n B cs' l' (G+1)))
theorem put_s {lr:List Pr} (h:S11 W0 w M A cap lr) (hm:Mp (lm M) n B cs l G) (hG:G≤1000000) {a:Qa} {hh:Nat} {i:Int} {key val:ByteArray} (hi:0≤i∧i≤1000) (hP:PuAt w a (newPut hh i key val)) (hlow:∀ x,pfoot a (newPut hh i key val) x→W0.heap.size≤x) (K:Nat) (hc:∀ b,b<n→(cs b).length+8≤K) (hK:K≤1000000):
 Calls Tryz.prog 21 #[ptr M.m,.iface 158 (ptr a.f),.int .i64 K] w fun e w'=>(∃ k:Nat,e=.returned (.tuple #[.int .i64 k,.bool true]))∧PutS W0 w w' M A cap lr l n B G key val a:=by
 have hE:=hm.eok (key:=key) (val:=val) (i:=i) (hb:=hh) hG hi
 have hcl:=hc (bkt key n) (bkt_lt hm.pw key).1
 refine (put_ends h.mem hP hE K ⟨by omega,hK⟩).mono fun e w' q=>?_
 obtain ⟨k,s,q1,_,q3,M',a',r1,r2,r3,r4,r5,r7,r8⟩:=q
 obtain ⟨m1,m2,m3⟩:=put_map hm hG hi q3
 have hff:∀ x,puL.foot a (newPut hh i key val) x→pfoot a (newPut hh i key val) x:=fun x q=>q
 refine ⟨⟨k,q1⟩,M',a',s.2,h.moved r1 r3.foot r8 (fun x q=>?_) (fun x hx q=>?_),r3.m,r4,r5,m2,m1,?_,?_,still_only r8 (fun x q=>?_),?_⟩
 · rcases q with q | q
   · exact h.lom x q
   · exact hlow x (hff x q)
 · rcases q with q | q
   · exact h.ap_mem hx q
   · exact h.apart hx (by decide) (hP.ty (hff x q))
 · have e:M'.ss=s.1.ss:=by rw [← r2]
   rcases m3 with ⟨_,q2,_⟩ | ⟨_,_,_,q4,_⟩
   · rw [e,q2]
   · rw [e,q4]
 · have e:M'.k=s.1.k:=by rw [← r2]
   rcases m3 with ⟨_,q2,_⟩ | ⟨_,_,_,_,q5,_⟩
   · rw [e,q2]
   · rw [e,q5]
 · rcases q with q | q
   · exact (h.mem.ty q).mono (fun t ht=>List.mem_append_left _ ht)
   · exact (hP.ty (hff x q)).mono (fun t ht=>List.mem_append_right _ ht)
 · rcases m3 with ⟨q1,q2,q3⟩ | ⟨q1,q2,q3,_,_,q6⟩
   · exact .inl ⟨q1,q3,r2.trans q2⟩
   · refine .inr ⟨q1,q2,?_,?_⟩
     · have e:M'.ws=s.1.ws:=by rw [← r2]
       rw [e,q3]
     · rw [r2]; exact q6
theorem ev_map (hm:Mp (lm M) n B cs l G) (key:ByteArray) {j:Nat} (hj:(j:Int)<M.k):Gt.Ev.Ok ⟨M.ds,M.ss,M.xs,M.F,key,j,prs (cs (bkt key n)),(cs (bkt key n)).length⟩∧lk (prs (cs (bkt key n))) key=lk l key:=by
 have hsm:=hm.small
 obtain ⟨hb1,hb2⟩:=bkt_lt hm.pw key
 have hql:=hm.ql hb1
 have hnb:=hm.n_bd
 have hkB:2+M.k≤B:=hm.kB
 have hk:1≤M.k∧M.k≤8:=hm.k
 have hxl:B+n≤M.xs.length:=hm.xl
 have hc:Gt.cellOf (sm key) (Me.now M.xs M.ds)=((B+bkt key n:Nat):Int):=by
  have hnow:Me.now M.xs M.ds=(n,B):=hm.now
  unfold Gt.cellOf
  rw [hnow]
  simp only
  rw [if_neg (by omega),hb2]
  omega
 refine ⟨⟨hsm.2,hm.nexts,hm.tb,⟨by simp only; omega,by simp only; omega⟩,hm.xb,hm.zero j hj,?_,?_,by simp only [prs,List.length_map]; omega,by simp only; omega⟩,(hm.lk key).symm⟩
 · unfold Gt.Ev.cell
   simp only
   rw [hc]
   omega
 · unfold Gt.Ev.cell
   simp only
   rw [hc]
   have e:word M.xs ((B+bkt key n:Nat):Int)=(Cl.nth M.xs (B+bkt key n)).toNat:=by
    unfold word
    rw [if_pos (by omega),Int.toNat_natCast]
   rw [e]
   exact (hm.ch _ hb1).cn
end
theorem Mp.ql2 {L:Lm} {n B:Nat} {cs:Nat→List Mq.Hp} {l:List Pr} {G:Nat} (h:Mp L n B cs l G):(∀ b,b<n→(cs b).length≤L.ss.length)∧(frees L.ss L.ss.length).length+L.ws.length+l.length=L.ss.length:=by
 have:=h.wr.cnt
 have hl:=h.len
 refine ⟨fun b hb=>?_,by omega⟩
 have:=h.ql hb
 omega
theorem freePl_frees (ss:List Sl):freePl ss=none↔(frees ss ss.length).length=0:=by
 rw [freePl_none]
 constructor
 · intro h
   rw [List.length_eq_zero_iff]
   apply List.eq_nil_iff_forall_not_mem.2
   intro a ha
   obtain ⟨h1,h2⟩:=mem_frees.1 ha
   rw [h a h1] at h2
   simp at h2
 · intro h k hk
   by_cases ht:(at' ss k).taken=true
   · exact ht
   · have hm:k∈frees ss ss.length:=mem_frees.2 ⟨hk,by simpa using ht⟩
     have:=List.length_pos_of_mem hm
     omega
theorem mp_new {L:Lm} {n B N:Nat} (hpw:FM.power n=true) (hn:n≤32) (hN:N≤1024) (hk:1≤L.k∧L.k≤8) (hkB:2+L.k≤B) (hB:B≤20) (hxs:∀ i,i≠0→i≠1→Cl.nth L.xs i=0) (hxl:L.xs.length=B+n) (hxb:∀ x∈L.xs,0≤x∧x≤18446744073709551615) (hnow:Me.now L.xs L.ds=(n,B)) (hds:∀ i,i<L.ds.length→1≤(tab L.ds i).1∧(tab L.ds i).1≤32∧(tab L.ds i).2+(tab L.ds i).1≤B+n)
 (hss:L.ss=List.replicate N .zero) (hhs:L.hs=List.replicate 6 (-1)) (hF:L.F=false) (hws:L.ws=[]):Mp L n B (fun _=>[]) [] 0:=by
 have ha:alls n (fun _=>([]:List Mq.Hp))=[]:=by simp [alls]
 refine ⟨hpw,hnow,fun i hi=>?_,fun i=>?_,hk,hkB,by omega,hxb,by rw [hss]; exact LawNine.nexts_zero N,fun b hb=>?_,fun b _ e he=>by simp at he,fun b _=>by simp,?_,by simp,fun key=>rfl,by rw [ha]; rfl,fun i hi=>hxs _ (by omega) (by omega),hhs,hF⟩
 · have:=hds i hi
   rw [hxl]
   omega
 · by_cases hi:i<L.ds.length
   · have:=hds i hi
     omega
   · rw [tab_none (by omega)]
     simp
 · rw [hxs _ (by omega) (by omega)]
   exact .nil
 · rw [ha,hss,hws]
   exact wr_new N hN
theorem nth_made (k i:Nat) (h:i≠0):Cl.nth (1::List.replicate k 0) i=0:=by
 obtain ⟨i,rfl⟩:∃ i',i=i'+1:=⟨i-1,by omega⟩
 simp only [Cl.nth,List.getD,List.getElem?_cons_succ,List.getElem?_replicate]
 split<;>rfl
theorem mp_made {w w':World} {n k:Nat} {M:Mo} (h:MadeP w n k M w') (hn:n≤1024) (hk:1≤k∧k≤8):Mp (lm M) 1 (k+2) (fun _=>[]) [] 0:=by
 obtain ⟨hM,hlo,hB,h1,h2,h3,h4,h5,h6,h7⟩:=h
 refine mp_new (N:=n) (by decide) (by omega) hn (by show 1≤M.k∧M.k≤8; omega) (by show 2+M.k≤_; omega) (by omega) (fun i h0 _=>by show Cl.nth M.xs i=0; rw [h1]; exact nth_made _ _ h0) (by show M.xs.length=_; rw [h1]; simp) hM.2.1.2.2.1 ?_ ?_ h2 h4 h3 h7
 · show Me.now M.xs M.ds=_
   unfold Me.now
   rw [h1,nth_made _ _ (by omega),h6]
   rfl
 · intro i hi
   have hi:i<M.ds.length:=hi
   show 1≤(tab M.ds i).1∧(tab M.ds i).1≤32∧(tab M.ds i).2+(tab M.ds i).1≤k+2+1
   rw [h6] at hi ⊢
   have:i=0:=by simpa using hi
   subst this
   exact ⟨by simp [tab],by simp [tab],by simp [tab]⟩
end Go.Proofs.YtpobbnllcoabhaaGreat.LawEl
namespace Go.Proofs.YtpobbnllcoabhaaGreat.LawFn
open Go Go.RowKit Hp K Fl Rw Hm Ar Mm Me LK Qs Wk Pc Pn Mq Pu Zp Mx LawTh Bs Zr LawEl
theorem fin_just {S:Type} {rd:S→Bool} {st:S→S} {dn:S→Bool} (R:Nat→S→Prop) (h:∀ k s,R k s→rd s=true∧1≤k∧(dn s=true→k=1)∧(dn s=false→R (k-1) (st s))):
 ∀ K k s,R k s→k≤K→∃ s',fin rd st dn K s=(k,true,s'):=by
 intro K
 induction K with
 | zero=>
   intro k s hR hk
   have:=(h k s hR).2.1
   omega
 | succ K ih=>
   intro k s hR hk
   obtain ⟨h1,h2,h3,h4⟩:=h k s hR
   unfold fin
   rw [if_pos h1]
   cases hd:dn s with
   | true=>
     rw [if_pos rfl,h3 hd]
     exact ⟨_,rfl⟩
   | false=>
     obtain ⟨s',e⟩:=ih (k-1) (st s) (h4 hd) (by omega)
     rw [if_neg (by simp),e]
     exact ⟨s',by simp only; rw [show k-1+1=k by omega]⟩
def left (nx:Nat):Nat:=if nx≤5 then 11-nx else 12-nx
def Idle (L0:Lm) (H:List Nat) (N:Num) (s:Nat) (l:List Pr) (xs:List Int) (ds:List (Nat×Nat)) (k:Nat) (S:Lm×Rz):Prop:=
 (∃ k0,Lone L0 H N s l k0 S)∧S.1.xs=xs∧S.1.ds=ds∧S.2.size=((now xs ds).1:Int)∧1≤S.2.nx∧S.2.nx≠6∧S.2.nx≤11∧k=left S.2.nx
theorem idle_step {L0:Lm} {H:List Nat} {N:Num} {s:Nat} {l:List Pr} {xs:List Int} {ds:List (Nat×Nat)} {k:Nat} {S:Lm×Rz} (h:Idle L0 H N s l xs ds k S):rready S.1 S.2=true∧1≤k∧(rdone S.1 S.2=true→k=1)∧(rdone S.1 S.2=false→Idle L0 H N s l xs ds (k-1) (rstep S.1 S.2))∧(rstep S.1 S.2).1.xs=xs∧(rstep S.1 S.2).1.ds=ds:=by
 obtain ⟨⟨k0,hL⟩,h1,h2,h3,h4,h5,h6,rfl⟩:=h
 obtain ⟨a1,a2,a3,a4,a5⟩:=hL.step
 have hlk:1≤left S.2.nx:=by unfold left; split<;>omega
 have hx:(rstep S.1 S.2).1.xs=xs∧(rstep S.1 S.2).1.ds=ds∧(rdone S.1 S.2=false→(rstep S.1 S.2).2.size=S.2.size∧(rstep S.1 S.2).2.nx=if S.2.nx=5 then 7 else S.2.nx+1):=by
  unfold rstep rdone
  rw [if_neg (by omega)]
  by_cases q1:S.2.nx=1
  · rw [if_pos q1]; exact ⟨h1,h2,fun _=>⟨rfl,by rw [q1]; rfl⟩⟩
  rw [if_neg q1]
  by_cases q2:S.2.nx≤4
  · rw [if_pos q2]; exact ⟨h1,h2,fun _=>⟨rfl,by rw [if_neg (by omega)]⟩⟩
  rw [if_neg q2]
  by_cases q3:S.2.nx=5
  · rw [if_pos q3]
    have e:Zr.look S.1 S.2={S.2 with nx:=7}:=by unfold Zr.look; rw [h1,h2,if_pos h3.symm]
    exact ⟨h1,h2,fun _=>by rw [e]; exact ⟨rfl,by rw [if_pos q3]⟩⟩
  rw [if_neg q3,if_neg h5]
  by_cases q4:S.2.nx≤10
  · rw [if_pos q4]; exact ⟨h1,h2,fun _=>⟨rfl,by rw [if_neg (by omega)]⟩⟩
  · rw [if_neg q4]; exact ⟨h1,h2,fun q=>by have:=of_decide_eq_false q; omega⟩
 refine ⟨a2,hlk,fun hd=>?_,fun hd=>?_,hx.1,hx.2.1⟩
 · unfold rdone at hd
   have:=of_decide_eq_true hd
   unfold left
   rw [if_neg (by omega)]
   omega
 · obtain ⟨b1,b2,b3⟩:=hx
   obtain ⟨b4,b5⟩:=b3 hd
   have hn:¬(S.2.nx=0∨11≤S.2.nx):=of_decide_eq_false hd
   refine ⟨⟨_,a5 hd⟩,b1,b2,by rw [b4]; exact h3,?_,?_,?_,?_⟩
   · rw [b5]; split<;>omega
   · rw [b5]; split<;>omega
   · rw [b5]; split<;>omega
   · rw [b5]
     unfold left
     by_cases q:S.2.nx=5
     · rw [if_pos q,q]; rfl
     · rw [if_neg q]
       split<;>split<;>omega
def Num1 (L:Lm) (t:Nat):Prop:=L.xs.length≤10+512*t∧L.ds.length≤1+8*t∧1≤Cl.nth L.xs 0∧Cl.nth L.xs 0≤1+20000*t
theorem pow_le {a b:Nat} (h:2 ^ a≤2 ^ b):a≤b:=by
 rcases Nat.lt_or_ge b a with q | q
 · have:=Nat.pow_lt_pow_right (show 1<2 by omega) q
   omega
 · exact q
theorem pow2 {n:Nat} (h:FM.power (n:Int)=true):∃ b,b≤16∧n=2 ^ b:=by
 obtain ⟨b,hb,e⟩:=(FM.power_iff _).1 h
 exact ⟨b,hb,by exact_mod_cast e⟩
theorem pow8 {b:Nat} (h:2 ^ b≤256):b≤8:=pow_le (b:=8) h
theorem ways_to (few n s:Nat) (hf:few≤30) (hn:FM.power (n:Int)=true) (hs:FM.power (s:Int)=true) (hn8:n≤256) (hs8:s≤256):∃ c x t a,Ways few s n c x t a∧c≤19900∧x≤512∧t≤8∧a≤30*256:=by
 obtain ⟨b,hb,rfl⟩:=pow2 hn
 obtain ⟨k,hk,rfl⟩:=pow2 hs
 have hb8:=pow8 hn8
 have hk8:=pow8 hs8
 by_cases h:b≤k
 · obtain ⟨c,x,hu⟩:=up_to few k hk (k-b) b (by omega)
   obtain ⟨e1,e2,e3⟩:=hu.eqs
   have m1:(k-b)*(15+12*few)≤8*375:=Nat.mul_le_mul (by omega) (by omega)
   have m2:(2*few+4)*2 ^ k≤64*256:=Nat.mul_le_mul (by omega) hs8
   exact ⟨c,x,k-b,0,.inl hu,by omega,by omega,by omega,by omega⟩
 · obtain ⟨c,x,a,hu⟩:=dn_to few k (b-k) b (by omega) hb
   obtain ⟨e1,e2,e3,e4⟩:=hu.eqs
   have m1:(b-k)*14≤8*14:=Nat.mul_le_mul_right _ (by omega)
   have m2:(few+4)*2 ^ b≤34*256:=Nat.mul_le_mul (by omega) hn8
   have m3:few*2 ^ b≤30*256:=Nat.mul_le_mul hf hn8
   have m4:x≤2 ^ b:=Nat.le.intro e2
   exact ⟨c,x,b-k,a,.inr hu,by omega,by omega,by omega,by omega⟩
section
variable {W0 w:World} {M:Mo} {n B:Nat} {cs:Nat→List Mq.Hp} {l:List Pr} {G:Nat}
def RzS (W0 w w':World) (M:Mo) (l:List Pr) (s G t:Nat) (i:Int) (a:Zr.Ra) (k n:Nat):Prop:=
 ∃ (M':Mo) (a':Zr.Ra) (R':Rz) (B':Nat) (cs':Nat→List Mq.Hp),S11 W0 w' M' none 0 []∧M'.m=M.m∧rzL.At w' a' R'∧rzL.f a'=rzL.f a∧R'.err=0∧Mp (lm M') s B' cs' l G∧M'.ss.length=M.ss.length∧M'.k=M.k∧M'.ws=M.ws∧Num1 (lm M') (t+1)∧(n=s→k=10∧M'.xs.length=M.xs.length)∧Only (fun x=>mfoot M x∨rzL.foot a (newRz i s) x) w w'∧∀ x,rzL.foot a' R' x→rzL.foot a (newRz i s) x∨w.heap.size≤x
theorem resize_w {t:Nat} (h:S11 W0 w M none 0 []) (hm:Mp (lm M) n B cs l G) (hG:G≤1000000) (hl:l.length≤30) (hnum:Num1 (lm M) t) (ht:t≤11) {s:Nat} (hs:FM.power (s:Int)=true) {c x tt ca:Nat} (hw:Ways l.length s n c x tt ca) (hc:c≤19900) (hx:x≤512) (htt:tt≤8) (hca:ca≤30*256) (K:Nat) (hK:c+10≤K∧K≤1000000) {a:Zr.Ra} {i:Int} (hi:0≤i∧i≤1000) (hP:rzL.At w a (newRz i s)) (hlow:∀ x,rzL.foot a (newRz i s) x→W0.heap.size≤x):
 Calls Tryz.prog 21 #[ptr M.m,.iface 94 (ptr (rzL.f a)),.int .i64 K] w fun e w'=>∃ k:Nat,e=.returned (.tuple #[.int .i64 k,.bool true])∧RzS W0 w w' M l s G t i a k n:=by
 obtain ⟨u1,u2,u3,u4⟩:=hnum
 have v1:M.xs.length≤10+512*t:=u1
 have v2:M.ds.length≤1+8*t:=u2
 have hrest:=rest_of hm hG u3 (by omega) (by omega) (cap:=1000) ⟨by omega,by omega⟩
 have hfl:=Zr.Mp.flat_len hm
 have hwa:Ways (rsOf n B 1000 cs).few s (rsOf n B 1000 cs).n c x tt ca:=by
  show Ways (flat n cs).length s n c x tt ca
  rw [hfl]
  exact hw
 have hnw:newRz i s=⟨i,s,1,0,.none⟩:=by unfold newRz; rw [if_pos hs]
 have hone:Lone (lm M) (allh n cs) ⟨10+512*(t+1),1+8*(t+1),1+20000*((t:Int)+1)⟩ s l (c+10) (lm M,newRz i s):=by
  refine ⟨.rest (rsOf n B 1000 cs),fun _ _ _=>True,c+10,ca,Nat.le_refl _,hrest,⟨⟨by rw [hnw]; exact hi,by rw [hnw],by rw [hnw],Zr.Kp.refl _,by show M.hs.length=6; have:M.hs=List.replicate 6 (-1):=hm.hs; rw [this]; simp,fun j a b=>?_,?_,⟨by simp only; omega,by simp only; omega,by simp only; omega⟩,List.Perm.refl _⟩,.take (rsOf n B 1000 cs) c x tt ca (by rw [hnw]; exact ⟨Nat.le_refl _,by simp⟩) hwa (by rw [hnw]; simp only; omega) (Nat.le_refl _) (by show 1000+ca≤_; omega) (by simp only; omega) (by simp only; omega)⟩,hm.zero⟩
  · have:M.hs=List.replicate 6 (-1):=hm.hs
    show Lo.hol M.hs j=hsF (newRz i s).nx (newRz i s).worker j
    rw [hnw,this]
    unfold hsF Lo.hol
    simp only [List.getD_eq_getElem?_getD,List.getElem?_replicate]
    rw [if_pos (by omega)]
    by_cases q:j=5
    · rw [if_pos q]; rfl
    · rw [if_neg q,if_neg (by omega)]; rfl
  · show Cl.nth (lm M).xs 0+_≤1+20000*((t:Int)+1)
    omega
 have hfin:=finish_frm rz_frm h.mem hP (Lone (lm M) (allh n cs) ⟨10+512*(t+1),1+8*(t+1),1+20000*((t:Int)+1)⟩ s l) (fun S=>Qr (lm M) (allh n cs) ⟨10+512*(t+1),1+8*(t+1),1+20000*((t:Int)+1)⟩ s l S.1 S.2∧∀ i:Nat,(i:Int)<S.1.k→Cl.nth S.1.xs (2+i)=0) (fun k S hS=>hS.step) (c+10) K hone hK.1 hK.2
 refine hfin.mono fun e w' q=>?_
 obtain ⟨k,S,q1,⟨q2,q3⟩,⟨⟨Y,r1,r2,r3,r4,r5,r6,r7,r8,r9,r10⟩,r11⟩,M',a',g1,g2,g3,g4,g5,g6,g7⟩:=q
 refine ⟨k,q1,M',a',S.2,Y.B,Y.cs,h.moved g1 g3.foot g7 (fun x q=>?_) (fun x hx=>by simp [In] at hx),g3.m,g4,g5,r3,?_,?_,?_,?_,?_,fun hns=>?_,g7,g6⟩
 · rcases q with q | q
   · exact h.lom x q
   · exact hlow x q
 · have:=Zr.mp_of hm r1 r7 r6 r11 r5 r4
   rw [r2] at this
   rw [g2]
   exact this
 · have:(lm M').ss=S.1.ss:=by rw [g2]
   have e:M'.ss=S.1.ss:=this
   rw [e]; exact r6.ss
 · have:(lm M').k=S.1.k:=by rw [g2]
   have e:M'.k=S.1.k:=this
   rw [e]; exact r6.k
 · have:(lm M').ws=S.1.ws:=by rw [g2]
   have e:M'.ws=S.1.ws:=this
   rw [e]; exact r6.ws
 · rw [g2]
   refine ⟨r9,r10,r1.base.p1,?_⟩
   have:((t+1:Nat):Int)=(t:Int)+1:=by omega
   rw [this]
   exact r8
 · subst hns
   have hidle:Idle (lm M) (allh n cs) ⟨10+512*(t+1),1+8*(t+1),1+20000*((t:Int)+1)⟩ n l M.xs M.ds 10 (lm M,newRz i n):=by
    have hnow:Me.now M.xs M.ds=(n,B):=hm.now
    exact ⟨⟨_,hone⟩,rfl,rfl,by rw [hnw,hnow],by rw [hnw]; simp,by rw [hnw]; simp,by rw [hnw]; simp,by rw [hnw]; rfl⟩
   obtain ⟨S',hS'⟩:=fin_just (rd:=fun s:Lm×Rz=>rready s.1 s.2) (st:=fun s=>rstep s.1 s.2) (dn:=fun s=>rdone s.1 s.2) (Idle (lm M) (allh n cs) ⟨10+512*(t+1),1+8*(t+1),1+20000*((t:Int)+1)⟩ n l M.xs M.ds) (fun k S hS=>by obtain ⟨a1,a2,a3,a4,_,_⟩:=idle_step hS; exact ⟨a1,a2,a3,a4⟩) K 10 _ hidle (by omega)
   obtain ⟨n9,S9,e9,_,hx9⟩:=fin_steps (rd:=fun s:Lm×Rz=>rready s.1 s.2) (st:=fun s=>rstep s.1 s.2) (dn:=fun s=>rdone s.1 s.2) (Idle (lm M) (allh n cs) ⟨10+512*(t+1),1+8*(t+1),1+20000*((t:Int)+1)⟩ n l M.xs M.ds) (fun S=>S.1.xs=M.xs) (fun k S hS=>by obtain ⟨a1,a2,a3,a4,a5,_⟩:=idle_step hS; exact ⟨a1,a2,fun _=>a5,a4⟩) K 10 _ hidle (by omega)
   rw [q3] at hS' e9
   injection hS' with e1 e2
   injection e9 with e3 e4
   injection e4 with _ e5
   refine ⟨e1,?_⟩
   have:(lm M').xs=S.1.xs:=by rw [g2]
   have e:M'.xs=S.1.xs:=this
   rw [e,e5,hx9]
def RfS (W0 w w':World) (M:Mo) (a:Zr.Ra) (i z:Int):Prop:=
 ∃ (M':Mo) (a':Zr.Ra) (R':Rz),S11 W0 w' M' none 0 []∧M'.m=M.m∧rzL.At w' a' R'∧rzL.f a'=rzL.f a∧R'.err=5∧lm M'=lm M∧Only (fun x=>mfoot M x∨rzL.foot a (newRz i z) x) w w'
theorem refuse_s (h:S11 W0 w M none 0 []) (hm:Mp (lm M) n B cs l G) {z:Int} (hz:FM.power z=false) {a:Zr.Ra} {i:Int} (hP:rzL.At w a (newRz i z)) (hlow:∀ x,rzL.foot a (newRz i z) x→W0.heap.size≤x) (K:Nat) (hK:1≤K∧K≤1000000):
 Calls Tryz.prog 21 #[ptr M.m,.iface 94 (ptr (rzL.f a)),.int .i64 K] w fun e w'=>e=.returned (.tuple #[.int .i64 1,.bool true])∧RfS W0 w w' M a i z:=by
 have hnw:newRz i z=⟨i,z,0,0,.none⟩:=by unfold newRz; rw [if_neg (by rw [hz]; simp)]
 have hkB:2+M.k≤B:=hm.kB
 have hk:1≤M.k∧M.k≤8:=hm.k
 have hxl:B+n≤M.xs.length:=hm.xl
 have hhs:M.hs=List.replicate 6 (-1):=hm.hs
 have hok:Okrz (lm M) (newRz i z):=⟨by rw [hnw]; simp,by show 1<M.xs.length; omega,by show M.hs.length=6; rw [hhs]; simp,fun q=>absurd (by rw [hnw]) q,fun j=>(hm.tb j).1,fun q=>by rw [hnw] at q; simp at q,fun q=>by rw [hnw] at q; simp at q,fun q=>by rw [hnw] at q; simp at q⟩
 have hst:rstep (lm M) (newRz i z)=(lm M,{newRz i z with err:=5,nx:=12}):=by unfold rstep; rw [if_pos (by rw [hnw])]
 have hrd:rready (lm M) (newRz i z)=true:=by unfold rready; rw [hnw]; simp
 have hdn:rdone (lm M) (newRz i z)=true:=by unfold rdone; rw [hnw]; simp
 refine (finish_frm rz_frm h.mem hP (fun k S=>k=1∧S=(lm M,newRz i z)) (fun S=>S=(lm M,{newRz i z with err:=5,nx:=12})) (fun k S hS=>by
  obtain ⟨rfl,rfl⟩:=hS
  exact ⟨hok,hrd,Nat.le_refl _,fun _=>hst,fun q=>by rw [hdn] at q; simp at q⟩) 1 K ⟨rfl,rfl⟩ hK.1 hK.2).mono fun e w' q=>?_
 obtain ⟨k,S,q1,⟨q2,q3⟩,q4,M',a',g1,g2,g3,g4,g5,g6,g7⟩:=q
 obtain ⟨S',hS'⟩:=fin_just (rd:=fun s:Lm×Rz=>rready s.1 s.2) (st:=fun s=>rstep s.1 s.2) (dn:=fun s=>rdone s.1 s.2) (fun k S=>k=1∧S=(lm M,newRz i z)) (fun k S hS=>by
  obtain ⟨rfl,rfl⟩:=hS
  exact ⟨hrd,Nat.le_refl _,fun _=>rfl,fun q=>by rw [hdn] at q; simp at q⟩) K 1 (lm M,newRz i z) ⟨rfl,rfl⟩ hK.1
 rw [q3] at hS'
 injection hS' with e1 _
 rw [e1] at q1
 rw [q4] at g2 g4
 refine ⟨q1,M',a',_,h.moved g1 g3.foot g7 (fun x q=>?_) (fun x hx=>by simp [In] at hx),g3.m,g4,g5,rfl,g2,g7⟩
 rcases q with q | q
 · exact h.lom x q
 · exact hlow x q
end
end Go.Proofs.YtpobbnllcoabhaaGreat.LawFn
namespace Go.Proofs.YtpobbnllcoabhaaGreat.LawTw
open Go Go.RowKit Hp K Fl Rw Hm Ar Mm Me LK Wk Pc LawTen LawEl Mq
set_option maxRecDepth 100000
def Out (W:World) (m:List Pr) (e:Ending) (w:World):Prop:=
 ∃ (A:Option Addr) (cap:Nat) (o:List Pr),e=.returned (.slice A o.length cap)∧Prs w A cap o∧(∀ x,In A x→W.heap.size≤x)∧Below W.heap.size W w∧o.Perm m
def OInv (W w:World) (m:List Pr) (v:Value):Prop:=
 ∃ (A:Option Addr) (cap:Nat) (o:List Pr),v=.slice A o.length cap∧Prs w A cap o∧(∀ x,In A x→W.heap.size≤x)∧Below W.heap.size W w∧o.Perm m
set_option maxHeartbeats 1000000 in
theorem without_any (W:World) (l:List Pr) (A:Option Addr) (cap:Nat) (hl:l.length≤1000000) (hP:PairsAt W A l) (key:ByteArray):
 Calls Tryz.prog 27 #[.slice A l.length cap,.string key] W (Out W (l.filter fun p=>decide (p.1≠key))):=by
 have hI:=Lib.hid (show OInv W W ((l.take 0).filter fun p=>decide (p.1≠key)) (.slice none 0 0) from ⟨none,0,[],rfl,Row.nil _ _ _ _,by simp [In],Below.refl _ _,by simp⟩)
 obtain ⟨i0,hi0,hz0,hz1,hz2⟩:=info_parts info_pair
 replace hP:=Lib.hid hP
 generalize hln:l.length=len at*
 replace hln:=Lib.hid hln
 go_enter Tryz.func27,Tryz.ntmps27
 go_wp2_with fail
 go_loopw [5,6] (fun v i wr=>∃ k:Nat,k≤len∧i=.int .i64 k∧OInv W wr ((l.take k).filter fun p=>decide (p.1≠key)) v) (fun _ i _=>len-(intOf i).toNat)
 case atStart=>exact ⟨0,Nat.zero_le _,rfl,hI.out⟩
 case round=>
  obtain ⟨k,hk,rfl,A1,cap1,o,rfl,hR,hA,hB,hp⟩:=hrel
  clear hI
  have hol:o.length≤len:=by
   have h1:=hp.length_eq
   have h2:=List.length_filter_le (fun p:Pr=>decide (p.1≠key)) (l.take k)
   rw [List.length_take] at h2
   have:=hln.out
   omega
  generalize hom:o.length=m at*
  replace hom:=Lib.hid hom
  replace hR:=Lib.hid hR
  replace hA:=Lib.hid hA
  replace hp:=Lib.hid hp
  by_cases hlt:k<len
  · obtain ⟨b,of,rfl,hb,c0,c1,s0,s1⟩:=hP.out k (by rw [hln.out]; exact hlt)
    rw [← hB.cell (p:=⟨b,_,none⟩) hb] at c0 c1
    have hbr:b<wr.heap.size:=by have:=hB.size; omega
    replace hB:=Lib.hid hB
    have hty:=fun q=>take_yes (l:=l) (k:=k) (key:=key) (by rw [hln.out]; exact hlt) q
    have htn:=fun q=>take_no (l:=l) (k:=k) (key:=key) (by rw [hln.out]; exact hlt) q
    generalize hpp:pat l k=p at*
    obtain ⟨pk,pv⟩:=p
    simp only at c0 c1 s0 s1 hty htn
    replace hpp:=Lib.hid hpp
    have hsz:=hB.out.size
    by_cases hk2:pk=key
    · have hn:=Lib.hid (htn hk2)
      clear hty htn
      subst hk2
      go_wp2_with fail
      go_roundw
      case rel=>exact ⟨k+1,by omega,by go_num,A1,cap1,o,by rw [hom.out],hR.out,hA.out,hB.out,by rw [hn.out]; exact hp.out⟩
      case measure=>simp [intOf]; omega
    · have hy:=Lib.hid (hty hk2)
      clear hty htn
      have hb2:=bytes_ne hk2
      replace hk2:=Lib.hid hk2
      go_wp2_with
       (at_builtin
        refine wpList_append_one wr rfl (.tmp 20) (.tmp 25) 27 rfl 122 i0 (.agg #[.string ⟨#[]⟩,.string ⟨#[]⟩]) 2 32 Tryz.underlying27 hi0 hz0 hz1 hz2 rfl (by omega) prc (fun _=>rfl) (by intro x u hu; simp [prc] at hu; rcases hu with rfl | rfl<;>rfl)
         A1 cap1 m o hom.out (pk,pv) #[.string pk,.string pv] rfl rfl hR.out rfl (by simp only [maxLen]; omega) (by omega) ?_
        intro A2 cap2 w2 hR2 hO2 hA2
        have HP:=Lib.hid (show OInv W w2 ((l.take (k+1)).filter fun p=>decide (p.1≠key)) (.slice A2 (m+1) cap2) from ⟨A2,cap2,o++[(pk,pv)],by rw [List.length_append,hom.out]; rfl,hR2,fun x hx=>by
         rcases hA2 x hx with q | q
         · exact hA.out x q
         · omega,hB.out.trans (hO2.toBelow hsz (fun x hx q=>by have:=hA.out x q; omega)),by rw [hy.out]; exact List.Perm.append_right _ hp.out⟩)
        clear c0 c1 hR2 hO2 hA2)
      go_roundw
      case rel=>exact ⟨k+1,by omega,by go_num,HP.out⟩
      case measure=>simp [intOf]; omega
  · obtain rfl:k=len:=by omega
    have hpe:=hp.out
    rw [show List.take k l=l by rw [← hln.out]; exact List.take_length] at hpe
    replace hpe:=Lib.hid hpe
    replace hB:=Lib.hid hB
    clear hp
    go_wp2_with fail
    go_ret
    exact ⟨A1,cap1,o,by rw [hom.out]; rfl,hR.out,hA.out,hB.out,hpe.out⟩
end Go.Proofs.YtpobbnllcoabhaaGreat.LawTw
namespace Go.Proofs.YtpobbnllcoabhaaGreat.LawEight
open Go Go.RowKit Hp K Fl Rw Hm Ar Mm Me LK Ta LawSix
set_option maxRecDepth 100000
theorem low_only {W0 a b:World} {M:Mo} {f:Nat} (ha:Below W0.heap.size W0 a) (hlo:∀ x,mfoot M x→W0.heap.size≤x) (hf:W0.heap.size≤f) (ho:Only (fun x=>mfoot M x∨x=f) a b):Below W0.heap.size W0 b:=
 ha.trans (ho.toBelow ha.size (fun x hx q=>by
  rcases q with q | q
  · have:=hlo x q; omega
  · omega))
theorem fin_alone (f:Nat):fin (lready [(1,3)]) (lstep [1,0,0,0] [(1,3)]) (ldone [1,0,0,0]) 9 (List.replicate 6 (-1),(⟨f,0,7,1,0,(0,0),0,false⟩:Ho))=(3,true,[-1,0, -1, -1, -1, -1],⟨f,0,7,5,0,(1,3),1,true⟩):=by
 have e:lkn 7 (1,3)=1:=by simp [lkn,FM.bucket,FM.power]
 simp [fin,lready,lstep,ldone,tab,e,Cl.nth,Lo.hol,List.replicate]
set_option maxHeartbeats 1000000 in
theorem awake (w:World):Calls Tryz.prog 90 #[] w fun e w'=>e=.returned (.bool true)∧Below w.heap.size w w':=by
 have hN:=Lib.hid (made_yes 1 1 w (by omega) (by omega))
 go_enter Tryz.func90,Tryz.ntmps90
 go_wp2_with fail
 refine hN.out.mono ?_
 rintro e w1 ⟨M,rfl,hM,hlo,hB,h1,h2,h3,h4,h5,h6,h7⟩
 clear hN
 have hE:=Lib.hid (new_hold 0 7 w1)
 replace hM:=Lib.hid hM
 replace hlo:=Lib.hid hlo
 replace hB:=Lib.hid hB
 replace h1:=Lib.hid h1
 replace h4:=Lib.hid h4
 replace h6:=Lib.hid h6
 clear h2 h3 h7 h5
 go_wp2_with fail
 refine hE.out.mono ?_
 rintro e w2 ⟨rfl,hE2,hB2⟩
 have hM2:=hM.out.below hB2
 have hge:w.heap.size≤w1.heap.size:=hB.out.size
 have hB02:=Lib.hid (hB.out.trans (hB2.mono hge))
 have hF:=finish_hold hM2 hE2 (by rw [h1.out,h4.out,h6.out]; exact ⟨by simp,by simp,by simp,by simp,by simp,by decide,fun i=>by cases i<;>simp [tab],by simp,by simp,by simp⟩) 9 (by omega)
 rw [h1.out,h4.out,h6.out,show (1:Int)::List.replicate (1+2) 0=[1,0,0,0] from rfl,show (1:Nat)+2=3 from rfl,fin_alone] at hF
 replace hF:=Lib.hid hF
 clear hM hE hB2 hE2 hM2 hB
 generalize w1.heap.size=f at*
 replace hge:=Lib.hid hge
 go_wp2_with fail
 refine hF.out.mono ?_
 rintro e w3 ⟨rfl,hM3,hH3,_,hO3⟩
 simp only at hM3 hH3
 have hB3:=Lib.hid (low_only hB02.out hlo.out hge.out hO3)
 replace hM3:=Lib.hid hM3
 replace hH3:=Lib.hid hH3
 clear hF hO3 hB02
 go_wp2_with fail
 refine (LawFive.awake w3).mono ?_
 rintro e w4 ⟨rfl,hB4⟩
 have hM4:=hM3.out.below hB4
 have hH4:=hH3.out.below hB4
 have hB04:=hB3.out.trans (hB4.mono hB3.out.size)
 have hDe:=desc_of hH4
 have hLk:=Lib.hid (lock_of hH4)
 simp only [if_true] at hDe
 unfold dv at hDe
 replace hDe:=Lib.hid hDe
 have dn:=desc_n
 replace hM4:=Lib.hid hM4
 replace hH4:=Lib.hid hH4
 replace hB04:=Lib.hid hB04
 clear hM3 hH3 hB3 hB4
 go_wp2_with (first
  | (go_at_call 115; refine hLk.out.mono ?_; rintro e w' ⟨rfl,hw⟩; obtain rfl:w4=w':=hw.symm))
 refine hDe.out.mono ?_
 rintro e w5 ⟨rfl,hB5⟩
 have hM5:=hM4.out.below hB5
 have hH5:=hH4.out.below hB5
 have hB05:=hB04.out.trans (hB5.mono hB04.out.size)
 have d1:=hM5.hd.2.1
 simp only at d1
 have hHo:=Lib.hid (Lo.holder_in hM5.2.2.1 1 (by simp))
 have hDr:=Lib.hid (drop_yes hM5 hH5 ⟨by simp,by simp,by simp,by show 1<M.xs.length; rw [h1.out]; simp,by simp,by show (tab M.ds 0).1≤65536; rw [h6.out]; simp [tab]⟩ (by simp) (by simp [Lo.hol]) rfl)
 have hge':w.heap.size≤f:=hge.out
 replace hge':=Lib.hid hge'
 replace hM5:=Lib.hid hM5
 replace hB05:=Lib.hid hB05
 clear hM4 hH4 hB04 hB5 hDe hLk hH5
 go_wp2_with (go_at_call 79; refine hHo.out.mono ?_; rintro e w' ⟨rfl,hw⟩; obtain rfl:w5=w':=hw.symm)
 refine hDr.out.mono ?_
 rintro e w6 ⟨rfl,hM6,hH6,hO6⟩
 have hB6:=Lib.hid (low_only hB05.out hlo.out hge'.out hO6)
 have d2:=hM6.hd.2.1
 simp only at d2
 have hHo2:=Lib.hid (Lo.holder_in hM6.2.2.1 1 (by simp))
 clear hM6 hH6 hO6 hDr d1 hHo
 go_wp2_with (go_at_call 79; refine hHo2.out.mono ?_; rintro e w' ⟨rfl,hw⟩; obtain rfl:w6=w':=hw.symm)
 go_ret
 exact ⟨rfl,hB6.out⟩
end Go.Proofs.YtpobbnllcoabhaaGreat.LawEight
namespace Go.Proofs.YtpobbnllcoabhaaGreat.LawEl
open Go Go.RowKit Hp K Fl Rw Hm Ar Mm Me LK Qs Wk Re LawSix Pn Pc Mq Pu LawTen
set_option maxRecDepth 100000
abbrev kA:ByteArray:=⟨#[97]⟩
abbrev kB:ByteArray:=⟨#[98]⟩
abbrev vX:ByteArray:=⟨#[120]⟩
def kAt (j:Nat):ByteArray:=if j=1 then kB else kA
def mAt (j:Nat):List Pr:=if j=0 then [] else [(kA,vX)]
def AInv (W0 w:World) (m j:Nat):Prop:=∃ (M:Mo) (cs:Nat→List Mq.Hp) (G:Nat),S11 W0 w M none 0 []∧M.m=m∧Mp (lm M) 1 3 cs (mAt j) G∧G≤j∧M.ss.length=1∧M.ws.length=0
theorem kab:kA≠kB:=by
 intro e
 have:=congrArg ByteArray.data e
 simp at this
theorem AInv.down {W0 w w':World} {m j:Nat} (h:AInv W0 w m j) (hb:Below w.heap.size w w'):AInv W0 w' m j:=by
 obtain ⟨M1,cs,G,hS,r⟩:=h
 exact ⟨M1,cs,G,hS.down hb,r⟩
def errJ (j:Nat):Int:=if j=0 then 0 else 4
def hadJ (j:Nat):Bool:=decide (j=2)
theorem eJ0:errJ 0=0:=rfl
theorem eJ1:errJ 1=4:=rfl
theorem eJ2:errJ 2=4:=rfl
theorem hJ0:hadJ 0=false:=rfl
theorem hJ1:hadJ 1=false:=rfl
theorem hJ2:hadJ 2=true:=rfl
def AGot (W0 w0 w:World) (a:Qa) (m j:Nat):Prop:=∃ (a':Qa) (P:Pt),Still (memTypes++putTypes) w0 w∧AInv W0 w m (j+1)∧PuAt w a' P∧a'.f=a.f∧P.err=errJ j∧decide (P.W.found≠0)=hadJ j
theorem aput {W0 w:World} {m j:Nat} (hj:j<3) (h:AInv W0 w m j) {a:Qa} {hh:Nat} (hP:PuAt w a (newPut hh 0 (kAt j) vX)) (hlow:∀ x,pfoot a (newPut hh 0 (kAt j) vX) x→W0.heap.size≤x):
 Calls Tryz.prog 21 #[ptr m,.iface 158 (ptr a.f),.int .i64 50] w fun e w'=>(∃ k:Nat,e=.returned (.tuple #[.int .i64 k,.bool true]))∧AGot W0 w w' a m j:=by
 obtain ⟨M,cs,G,hS,rfl,hm,hG,hl,hw0⟩:=h
 have hq:=Mp.ql2 hm
 have hl':(lm M).ss.length=1:=hl
 refine (put_s hS hm (by omega) (by omega) hP hlow 50 (fun b hb=>by have:=hq.1 b hb; omega) (by omega)).mono fun e w' q=>⟨q.1,?_⟩
 obtain ⟨M',a',P',h1,h2,h3,h4,h5,h6,h7,h8,hst,h9⟩:=q.2
 have hfr:=freePl_frees M.ss
 have hcnt:(frees M.ss M.ss.length).length+M.ws.length+(mAt j).length=M.ss.length:=hq.2
 by_cases j0:j=0
 · subst j0
   rcases h9 with ⟨q1,_⟩ | ⟨q1,q2,q3,cs',q4⟩
   · exfalso
     have:=hfr.1 q1
     simp only [mAt,if_true,List.length_nil] at hcnt
     omega
   · refine ⟨a',P',hst,⟨M',cs',G+1,h1,h2,?_,by omega,by omega,by rw [q3,hw0]; simp [mAt,Pc.lk]⟩,h3,h4,by simpa [errJ] using q2,?_⟩
     · refine q4 _ ⟨by simp [mAt],fun k=>?_,by simp [mAt,Pc.lk]⟩
       simp only [mAt,kAt,Pc.lk]
       by_cases e:k=kA
       · simp [e,Pc.lk]
       · have e':¬kA=k:=fun q=>e q.symm
         simp [e,e',Pc.lk]
     · rw [h6]
       simp [mAt,Pc.lk,hadJ]
 · have hfree:freePl M.ss=none:=by
    rw [hfr]
    have:(mAt j).length=1:=by simp [mAt,j0]
    omega
   rcases h9 with ⟨_,q2,q3⟩ | ⟨q1,_⟩
   · refine ⟨a',P',hst,⟨M',cs,G,h1,h2,?_,by omega,by omega,by have e:M'.ws=M.ws:=congrArg Lm.ws q3; rw [e]; exact hw0⟩,h3,h4,by unfold errJ; rw [if_neg j0]; exact q2,?_⟩
     · rw [q3]
       have:mAt (j+1)=mAt j:=by simp [mAt,j0]
       rw [this]
       exact hm
     · rw [h6]
       have hj12:j=1∨j=2:=by omega
       rcases hj12 with rfl | rfl
       · simp [mAt,kAt,Pc.lk,kab,hadJ]
       · simp [mAt,kAt,Pc.lk,hadJ]
   · rw [hfree] at q1
     simp at q1
set_option maxHeartbeats 2000000 in
theorem awake (w:World):Calls Tryz.prog 66 #[] w fun e w'=>e=.returned (.bool true)∧Below w.heap.size w w':=by
 have hN:=Lib.hid (made_yes 1 1 w (by omega) (by omega))
 go_enter Tryz.func66,Tryz.ntmps66
 go_wp2_with fail
 refine hN.out.mono ?_
 rintro e w1 ⟨M,rfl,hMd⟩
 have hmp:=mp_made hMd (by omega) (by omega)
 obtain ⟨hM,hlo,hB,h1,h2,h3,h4,h5,h6,h7⟩:=hMd
 have hI:AInv w w1 M.m 0:=⟨M,_,0,⟨hM,Row.nil _ _ _ _,hB,hlo,by simp [In]⟩,rfl,hmp,by omega,by rw [h2]; simp,by rw [h7]; rfl⟩
 obtain ⟨w2,hw2⟩:∃ w2,w2=w1.alloc (.cells #[.string kA,.string kB,.string kA] 9):=⟨_,rfl⟩
 have hQ2:Blk w2 w1.heap.size 9 #[.string kA,.string kB,.string kA]:=by rw [hw2]; exact Blk.made w1 _ _
 have hI2:AInv w w2 M.m 0:=by
  obtain ⟨M1,cs,G,hS,r⟩:=hI
  exact ⟨M1,cs,G,hS.down (by rw [hw2]; exact (Below.refl _ _).alloc (Nat.le_refl _) _),r⟩
 have hge:=hB.size
 generalize M.m=m at*
 clear hN hM hlo hB h1 h2 h3 h4 h5 h6 h7 hmp hI
 go_upto_region 5 with (fail)
 rw [← hw2]
 clear hw2
 generalize w1.heap.size=sb at*
 have H0:=Lib.hid (And.intro hI2 hQ2)
 clear hI2 hQ2
 go_wp2_with fail
 go_loopw [12] (fun c wr=>∃ j:Nat,j≤3∧c=.int .i64 j∧AInv w wr m j∧Blk wr sb 9 #[.string kA,.string kB,.string kA]) (fun c _=>3-(intOf c).toNat)
 case atStart=>exact ⟨0,by omega,rfl,H0.out.1,H0.out.2⟩
 case round=>
  obtain ⟨j,hj,rfl,hI,hQ⟩:=hrel
  clear H0
  have l1:(kAt j).size≤maxLen:=by unfold kAt; split<;>(simp only [maxLen]; decide)
  have hNw:=Lib.hid (Pu.new_any 0 (kAt j) vX l1 wr)
  have hlo:w.heap.size≤wr.heap.size:=by
   obtain ⟨_,_,_,hS,_⟩:=hI
   exact hS.below.size
  have HI:=Lib.hid hI
  have HQ:=Lib.hid hQ
  have c0:=hQ.cell 0
  have c1:=hQ.cell 1
  have c2:=hQ.cell 2
  have hlq:=hQ.lt
  simp at c0 c1 c2
  clear hI hQ l1
  have hj':j=0∨j=1∨j=2∨j=3:=by omega
  rcases hj' with rfl | rfl | rfl | rfl
  case' inr.inr.inr=>
   have hB:=Lib.hid (show Below w.heap.size w wr from by obtain ⟨_,_,_,hS,_⟩:=HI.out; exact hS.below)
   have hA8:=Lib.hid (fun w=>LawEight.awake w)
   have hA10:=Lib.hid (fun w=>LawTen.awake w)
   clear HI HQ c0 c1 c2 hNw hlq
   go_wp2_with fail
   refine (hA8.out _).mono ?_
   rintro e w3 ⟨rfl,hB3⟩
   have hB03:=Lib.hid (hB.out.trans (hB3.mono hB.out.size))
   clear hB hB3
   go_wp2_with fail
   refine (hA10.out _).mono ?_
   rintro e w4 ⟨rfl,hB4⟩
   have hB04:=Lib.hid (hB03.out.trans (hB4.mono hB03.out.size))
   clear hB03 hB4
   go_wp2_with fail
   go_ret
   exact ⟨rfl,hB04.out⟩
  all_goals
   go_wp2_with fail
   refine hNw.out.mono ?_
   rintro e w3 ⟨a,hh,rfl,hP3,hl3,hB3⟩
   have hQ3:=HQ.out.only (Only.ofBelow hB3 (fun _=>False)) (by simp)
   have hF:=Lib.hid (aput (by omega) (HI.out.down hB3) hP3 (fun x hx=>Nat.le_trans hlo (hl3 x hx)))
   replace hQ3:=Lib.hid hQ3
   clear hNw HI HQ hP3 hl3 c0 c1 c2
   go_wp2_with fail
   refine hF.out.mono ?_
   rintro e w4 ⟨⟨k4,rfl⟩,a',P,hst,hI4,hP4,ea,he,hd⟩
   have hQ4:=Lib.hid (hst sb _ _ (by decide) hQ3.out)
   clear hst
   have hE:=err_any hP4
   rw [he,ea] at hE
   have hH:=had_any hP4
   rw [hd,ea] at hH
   simp only [eJ0,eJ1,eJ2,hJ0,hJ1,hJ2] at hE hH
   replace hE:=Lib.hid hE
   replace hH:=Lib.hid hH
   replace hI4:=Lib.hid hI4
   clear hF hP4 he hd ea
   go_wp2_with fail
   refine hE.out.mono ?_
   rintro e w' ⟨rfl,rfl⟩
   go_wp2_with fail
   refine hE.out.mono ?_
   rintro e w' ⟨rfl,rfl⟩
   go_wp2_with fail
   refine hH.out.mono ?_
   rintro e w5 ⟨rfl,hB5⟩
   have hI5:=Lib.hid (hI4.out.down hB5)
   have hQ5:=Lib.hid (hQ4.out.only (Only.ofBelow hB5 (fun _=>False)) (by simp))
   clear hE hH hI4 hB5
   go_wp2_with fail
   go_roundw
   case rel=>exact ⟨_,by omega,by go_num,hI5.out,hQ5.out⟩
   case measure=>simp [intOf]; try omega
end Go.Proofs.YtpobbnllcoabhaaGreat.LawEl
namespace Go.Proofs.YtpobbnllcoabhaaGreat.LawTw
open Go Go.RowKit Hp K Fl Rw Hm Ar Mm Me LK Qs Wk Re LawSix Pn Pc Mq Pu LawTen LawEl Dl
set_option maxRecDepth 100000
section
variable {L:Lm} {n B:Nat} {cs:Nat→List Mq.Hp} {l l':List Pr} {G:Nat} {key val:ByteArray} {i:Int} {hb:Nat}
theorem fnd_val (h:Mp L n B cs l G) {W:Wa} (hf:Fnd (Mp.ep L n B cs key val i hb) W) (hz:W.found=0→W.nd=.zero):W.nd.val=(Pc.lk l key).getD ⟨#[]⟩:=by
 have hq:=hf
 rw [h.lk]
 rcases hf with ⟨h0,hk,_⟩ | ⟨pre,x,p,t,z,k,hq,hp,hx,hk,hnd,hW,hc,hpv⟩
 · have:Pc.lk (prs (cs (bkt key n))) key=none:=lk_none.2 (by simpa using hk)
   rw [this,hz h0]
   rfl
 · have hm:p∈prs (cs (bkt key n)):=by
    have hq:cs (bkt key n)=_:=hq
    rw [hq]
    simp
   have hp:p.1=key:=hp
   have hn:((prs (cs (bkt key n))).map (·.1)).Nodup:=by
    rw [kys_prs]
    exact h.kd _ (bkt_lt h.pw key).1
   have:=lk_mem hn hm
   rw [hp] at this
   rw [this,hW]
   rfl
end
def DelS (W0 w w':World) (M:Mo) (A:Option Addr) (cap:Nat) (lr l:List Pr) (n B G:Nat) (key:ByteArray) (a:Qa):Prop:=
 ∃ (M':Mo) (a':Qa) (D':Dt),S11 W0 w' M' A cap lr∧M'.m=M.m∧DeAt w' a' D'∧a'.f=a.f∧D'.mine=0∧decide (D'.W.found≠0)=(Pc.lk l key).isSome∧D'.W.nd.val=(Pc.lk l key).getD ⟨#[]⟩∧M'.ss.length=M.ss.length∧M'.k=M.k∧Still (memTypes++delTypes) w w'∧
   M'.ws.length=M.ws.length+(if (Pc.lk l key).isSome then 1 else 0)∧∃ cs',∀ l',Del l l' key→Mp (lm M') n B cs' l' G
theorem del_s {W0 w:World} {M:Mo} {A:Option Addr} {cap:Nat} {l lr:List Pr} {n B:Nat} {cs:Nat→List Mq.Hp} {G:Nat} (h:S11 W0 w M A cap lr) (hm:Mp (lm M) n B cs l G) (hG:G≤1000000) {a:Qa} {hh:Nat} {i:Int} {key:ByteArray} (hi:0≤i∧i≤1000) (hP:DeAt w a (newDel hh i key)) (hlow:∀ x,dfoot a (newDel hh i key) x→W0.heap.size≤x) (K:Nat) (hc:∀ b,b<n→(cs b).length+8≤K) (hK:K≤1000000):
 Calls Tryz.prog 21 #[ptr M.m,.iface 135 (ptr a.f),.int .i64 K] w fun e w'=>(∃ (k:Nat) (s:Lm×Dt),e=.returned (.tuple #[.int .i64 k,.bool true])∧fin (fun s:Lm×Dt=>dready s.1 s.2) (fun s=>dstep s.1 s.2) (fun s=>ddone s.1 s.2) K (lm M,newDel hh i key)=(k,true,s))∧DelS W0 w w' M A cap lr l n B G key a:=by
 have hE:=hm.eok (key:=key) (val:=⟨#[]⟩) (i:=i) (hb:=hh) hG hi
 have hcl:=hc (bkt key n) (bkt_lt hm.pw key).1
 refine (del_ends h.mem hP hE K ⟨by omega,hK⟩).mono fun e w' q=>?_
 obtain ⟨k,s,q1,⟨_,q2⟩,⟨W,hf,hz,rfl⟩,M',a',r1,r2,r3,r4,r5,r7,r8⟩:=q
 obtain ⟨m1,m2,m3,cs',m4⟩:=del_map hm hf
 have hd:lm M'=delL (lm M) (B+bkt key n) W:=r2
 refine ⟨⟨k,_,q1,q2⟩,M',a',_,h.moved r1 r3.foot r8 (fun x q=>?_) (fun x hx q=>?_),r3.m,r4,r5,rfl,fnd_lk hm hf,fnd_val hm hf hz,?_,?_,still_only r8 (fun x q=>?_),?_,cs',?_⟩
 · rcases q with q | q
   · exact h.lom x q
   · exact hlow x q
 · rcases q with q | q
   · exact h.ap_mem hx q
   · exact h.apart hx (by decide) (hP.ty q)
 · have e:M'.ss=(lm M').ss:=rfl
   rw [e,hd,m2]
 · have e:M'.k=(lm M').k:=rfl
   rw [e,hd,m3]
 · rcases q with q | q
   · exact (h.mem.ty q).mono (fun t ht=>List.mem_append_left _ ht)
   · exact (hP.ty q).mono (fun t ht=>List.mem_append_right _ ht)
 · have e:M'.ws=(lm M').ws:=rfl
   rw [e,hd,m1]
 · rw [hd]
   exact m4
def L0:Lm:=⟨[1,0,0,0],List.replicate 6 (-1),[.zero],false,1,[(1,3)],[]⟩
theorem five (h k:Nat) (s:Lm×Dt) (e:fin (fun s:Lm×Dt=>dready s.1 s.2) (fun s=>dstep s.1 s.2) (fun s=>ddone s.1 s.2) 50 (L0,newDel h 0 kA)=(k,true,s)):k=5:=by
 have:(fin (fun s:Lm×Dt=>dready s.1 s.2) (fun s=>dstep s.1 s.2) (fun s=>ddone s.1 s.2) 50 (L0,newDel h 0 kA)).1=5:=by kernel_rfl
 rw [e] at this
 exact this
set_option maxHeartbeats 2000000 in
theorem awake (w:World):Calls Tryz.prog 40 #[] w fun e w'=>e=.returned (.bool true)∧Below w.heap.size w w':=by
 have hN:=Lib.hid (made_yes 1 1 w (by omega) (by omega))
 have hA:=Lib.hid (fun w=>LawEl.awake w)
 have lA:kA.size≤maxLen:=by simp only [maxLen]; decide
 have hNd:=Lib.hid (fun w=>Dl.new_any 0 kA lA w)
 clear lA
 go_enter Tryz.func40,Tryz.ntmps40
 go_wp2_with fail
 refine hN.out.mono ?_
 rintro e w1 ⟨M,rfl,hMd⟩
 have hmp:=mp_made hMd (by omega) (by omega)
 obtain ⟨hM,hlo,hB,h1,h2,h3,h4,h5,h6,h7⟩:=hMd
 have hL:lm M=L0:=by
  unfold lm L0
  rw [h1,h2,h3,h4,h5,h6,h7]
  rfl
 have hS:S11 w w1 M none 0 []:=⟨hM,Row.nil _ _ _ _,hB,hlo,by simp [In]⟩
 have hw0:M.ws.length=0:=by rw [h7]; rfl
 replace hmp:=Lib.hid hmp
 replace hL:=Lib.hid hL
 replace hS:=Lib.hid hS
 replace hw0:=Lib.hid hw0
 clear hN hM hlo hB h1 h2 h3 h4 h5 h6 h7
 go_wp2_with fail
 refine (hNd.out _).mono ?_
 rintro e w2 ⟨a,hh,rfl,hD2,hl2,hB2⟩
 have hFn:=del_s (hS.out.down hB2) hmp.out (by omega) (i:=0) (by omega) hD2 (fun x hx=>Nat.le_trans hS.out.below.size (hl2 x hx)) 50 (fun b hb=>by simp) (by omega)
 have hF2:=hFn.mono fun e w' q=>show e=.returned (.tuple #[.int .i64 5,.bool true])∧DelS w w2 w' M none 0 [] [] 1 3 0 kA a from by
  obtain ⟨⟨k,s,q1,q2⟩,q3⟩:=q
  rw [hL.out] at q2
  have:=five _ _ _ q2
  subst this
  exact ⟨q1,q3⟩
 replace hF2:=Lib.hid hF2
 clear hFn hNd hD2 hl2 hB2 hL hmp hS
 go_wp2_with fail
 refine hF2.out.mono ?_
 rintro e w3 ⟨rfl,M',a',D',hS3,em,hD3,ea,hmi,hfd,hvl,hsl,hk,hst,hws,_⟩
 have hH:=Dl.had_any hD3
 rw [hfd,hvl,ea] at hH
 simp only [Pc.lk] at hH hws
 have hws3:M'.ws.length=0:=by rw [hws,hw0.out]; rfl
 replace hH:=Lib.hid hH
 have hW:=fun w4 (hb:Below w3.heap.size w3 w4)=>waiting_any (hS3.mem.below hb)
 rw [hws3,em] at hW
 replace hW:=Lib.hid hW
 have hB3:=Lib.hid hS3.below
 clear hF2 hS3 hD3 em ea hmi hfd hvl hsl hk hst hws hws3 hw0
 go_wp2_with fail
 refine hH.out.mono ?_
 rintro e w4 ⟨rfl,hB4⟩
 clear hH
 go_wp2_with fail
 refine (hA.out _).mono ?_
 rintro e w5 ⟨rfl,hB5⟩
 have hB35:=hB4.trans (hB5.mono hB4.size)
 have hW5:=Lib.hid (hW.out w5 hB35)
 have hB05:=Lib.hid (hB3.out.trans (hB35.mono hB3.out.size))
 clear hA hB4 hB5 hB35 hB3 hW
 go_wp2_with fail
 refine hW5.out.mono ?_
 rintro e w6 ⟨rfl,rfl⟩
 clear hW5
 go_wp2_with fail
 go_ret
 exact ⟨rfl,hB05.out⟩
end Go.Proofs.YtpobbnllcoabhaaGreat.LawTw
namespace Go.Proofs.YtpobbnllcoabhaaGreat.LawFn
open Go Go.RowKit Hp K Fl Rw Hm Ar Mm Me LK Qs Wk Re LawSix Pn Pc Mq Pu LawTen LawEl LawTw Dl
set_option maxRecDepth 100000
def Cz (L L':Lm):Prop:=L'.ds=L.ds∧L'.xs.length=L.xs.length∧Cl.nth L'.xs 0=Cl.nth L.xs 0
theorem set_0 {xs:List Int} {i:Nat} (v:Int) (hi:i≠0):Cl.nth (xs.set i v) 0=Cl.nth xs 0:=by
 by_cases hl:i<xs.length
 · rw [nth_set _ _ _ hl,if_neg (by omega)]
 · rw [List.set_eq_of_length_le (by omega)]
section
variable {W0 w w':World} {M:Mo} {A:Option Addr} {cap:Nat} {l:List Pr} {n B:Nat} {cs:Nat→List Mq.Hp} {G:Nat}
theorem cz_put {E:Ep} {s:Lm×Pt} (hc:E.c≠0) (h:Qp E s):Cz E.L s.1:=by
 cases h with
 | full W _ _=>exact ⟨rfl,rfl,rfl⟩
 | done W m _ _=>
   refine ⟨(putL_hs E W m).2.1,putL_xl E W m,?_⟩
   show Cl.nth (putL E W m).xs 0=_
   unfold putL
   split
   · rfl
   · exact set_0 _ hc
theorem cz_del {L:Lm} {c:Nat} {W:Wa} (hc:c≠0):Cz L (delL L c W):=by
 unfold delL
 split
 · exact ⟨rfl,rfl,rfl⟩
 split
 · exact ⟨rfl,rfl,rfl⟩
 · exact ⟨rfl,by simp,set_0 _ hc⟩
end
end Go.Proofs.YtpobbnllcoabhaaGreat.LawFn
namespace Go.Proofs.YtpobbnllcoabhaaGreat.Ca
open Go Go.RowKit Hp K Fl Rw Hm Ar Mm Me LK Qs Wk Pc Pn Mq Pu Zp Mx LawTh Bs Zr LawEl LawFn
theorem lone_start {L:Lm} {n B:Nat} {cs:Nat→List Mq.Hp} {l:List Pr} {G t s c x tt ca:Nat} {i:Int} (hm:Mp L n B cs l G) (hG:G≤1000000) (hl:l.length≤30) (hnum:Num1 L t) (ht:t≤200) (hs:FM.power (s:Int)=true) (hw:Ways l.length s n c x tt ca) (hc:c≤19900) (hx:x≤512) (htt:tt≤8) (hca:ca≤30*256) (hi:0≤i∧i≤1000):
 Lone L (allh n cs) ⟨10+512*(t+1),1+8*(t+1),1+20000*((t:Int)+1)⟩ s l (c+10) (L,newRz i s):=by
 obtain ⟨u1,u2,u3,u4⟩:=hnum
 have hrest:=rest_of hm hG u3 (by omega) (by omega) (cap:=1000) ⟨by omega,by omega⟩
 have hfl:=Zr.Mp.flat_len hm
 have hwa:Ways (rsOf n B 1000 cs).few s (rsOf n B 1000 cs).n c x tt ca:=by
  show Ways (flat n cs).length s n c x tt ca
  rw [hfl]
  exact hw
 have hnw:newRz i s=⟨i,s,1,0,.none⟩:=by unfold newRz; rw [if_pos hs]
 refine ⟨.rest (rsOf n B 1000 cs),fun _ _ _=>True,c+10,ca,Nat.le_refl _,hrest,⟨⟨by rw [hnw]; exact hi,by rw [hnw],by rw [hnw],Zr.Kp.refl _,by show L.hs.length=6; rw [hm.hs]; simp,fun j a b=>?_,?_,⟨by simp only; omega,by simp only; omega,by simp only; omega⟩,List.Perm.refl _⟩,.take (rsOf n B 1000 cs) c x tt ca (by rw [hnw]; exact ⟨Nat.le_refl _,by simp⟩) hwa (by rw [hnw]; simp only; omega) (Nat.le_refl _) (by show 1000+ca≤_; omega) (by simp only; omega) (by simp only; omega)⟩,hm.zero⟩
 · show Lo.hol L.hs j=hsF (newRz i s).nx (newRz i s).worker j
   rw [hnw,hm.hs]
   unfold hsF Lo.hol
   simp only [List.getD_eq_getElem?_getD,List.getElem?_replicate]
   rw [if_pos (by omega)]
   by_cases q:j=5
   · rw [if_pos q]; rfl
   · rw [if_neg q,if_neg (by omega)]; rfl
 · show Cl.nth L.xs 0+_≤1+20000*((t:Int)+1)
   omega
theorem lone_end {L L':Lm} {n B:Nat} {cs:Nat→List Mq.Hp} {l:List Pr} {G t s:Nat} {R:Rz} (hm:Mp L n B cs l G) (h:Qr L (allh n cs) ⟨10+512*(t+1),1+8*(t+1),1+20000*((t:Int)+1)⟩ s l L' R) (hz:∀ i:Nat,(i:Int)<L'.k→Cl.nth L'.xs (2+i)=0):
 R.err=0∧(∃ B' cs',Mp L' s B' cs' l G)∧L'.ss.length=L.ss.length∧L'.k=L.k∧L'.ws=L.ws∧Num1 L' (t+1):=by
 obtain ⟨Y,r1,r2,r3,r4,r5,r6,r7,r8,r9,r10⟩:=h
 have:=Zr.mp_of hm r1 r7 r6 hz r5 r4
 rw [r2] at this
 refine ⟨r3,⟨_,_,this⟩,r6.ss,r6.k,r6.ws,r9,r10,r1.base.p1,?_⟩
 have e:((t+1:Nat):Int)=(t:Int)+1:=by omega
 rw [e]
 exact r8
theorem refuse_start {L:Lm} {n B:Nat} {cs:Nat→List Mq.Hp} {l:List Pr} {G:Nat} {i z:Int} (hm:Mp L n B cs l G) (hz:FM.power z=false) (k:Nat) (s:Lm×Rz) (hs:k=1∧s=(L,newRz i z)):
 Okrz s.1 s.2∧rready s.1 s.2=true∧1≤k∧(rdone s.1 s.2=true→rstep s.1 s.2=(L,{newRz i z with err:=5,nx:=12}))∧(rdone s.1 s.2=false→k-1=1∧rstep s.1 s.2=(L,newRz i z)):=by
 obtain ⟨rfl,rfl⟩:=hs
 have hnw:newRz i z=⟨i,z,0,0,.none⟩:=by unfold newRz; rw [if_neg (by rw [hz]; simp)]
 have hkB:=hm.kB
 have hk:=hm.k
 have hxl:=hm.xl
 have hhs:=hm.hs
 have hok:Okrz L (newRz i z):=⟨by rw [hnw]; simp,by omega,by rw [hhs]; simp,fun q=>absurd (by rw [hnw]) q,fun j=>(hm.tb j).1,fun q=>by rw [hnw] at q; simp at q,fun q=>by rw [hnw] at q; simp at q,fun q=>by rw [hnw] at q; simp at q⟩
 have hst:rstep L (newRz i z)=(L,{newRz i z with err:=5,nx:=12}):=by unfold rstep; rw [if_pos (by rw [hnw])]
 have hrd:rready L (newRz i z)=true:=by unfold rready; rw [hnw]; simp
 have hdn:rdone L (newRz i z)=true:=by unfold rdone; rw [hnw]; simp
 exact ⟨hok,hrd,Nat.le_refl _,fun _=>hst,fun q=>by rw [hdn] at q; simp at q⟩
theorem fnd_val {L:Lm} {n B:Nat} {cs:Nat→List Mq.Hp} {l:List Pr} {G:Nat} {key val:ByteArray} {i:Int} {hb:Nat} (h:Mp L n B cs l G) {W:Wa} (hf:Fnd (Mp.ep L n B cs key val i hb) W) (hz:W.found=0→W.nd=.zero):W.nd.val=(Pc.lk l key).getD ⟨#[]⟩:=by
 rw [h.lk]
 rcases hf with ⟨h0,hk,_⟩ | ⟨pre,x,p,t,z,k,hq,hp,hx,hk,hnd,hW,hc,hpv⟩
 · have:Pc.lk (prs (cs (bkt key n))) key=none:=lk_none.2 (by simpa using hk)
   rw [this,hz h0]
   rfl
 · have hm:p∈prs (cs (bkt key n)):=by
    have hq:cs (bkt key n)=_:=hq
    rw [hq]
    simp
   have hp:p.1=key:=hp
   have hn:((prs (cs (bkt key n))).map (·.1)).Nodup:=by
    rw [kys_prs]
    exact h.kd _ (bkt_lt h.pw key).1
   have:=lk_mem hn hm
   rw [hp] at this
   rw [this,hW]
   rfl
theorem num_cz {L L':Lm} {t:Nat} (h:Num1 L t) (hc:Cz L L'):Num1 L' (t+1):=by
 obtain ⟨u1,u2,u3,u4⟩:=h
 obtain ⟨c1,c2,c3⟩:=hc
 exact ⟨by rw [c2]; omega,by rw [c1]; omega,by rw [c3]; exact u3,by rw [c3]; omega⟩
end Go.Proofs.YtpobbnllcoabhaaGreat.Ca
namespace Go.Proofs.YtpobbnllcoabhaaGreat.Ca
open Go Go.RowKit Hp K Fl Rw Hm Ar Mm Me Wk Pc
set_option maxRecDepth 100000
def ctv (c:Ct):Value:=.agg #[.int .i64 c.kind,.string c.key,.string c.val,.int .i64 c.size]
def anv (x:Int×Bool×ByteArray):Value:=.agg #[.int .i64 x.1,.bool x.2.1,.string x.2.2]
theorem below_1 (w:World) (o:Obj):Below w.heap.size w (w.alloc o):=(Below.refl _ _).alloc (Nat.le_refl _) _
set_option maxHeartbeats 1000000 in
theorem refcheck_any (c:Ct) (w:World):Calls Tryz.prog 14 #[ctv c] w fun e w'=>e=.returned (.int .i64 (chk c))∧Below w.heap.size w w':=by
 obtain ⟨k,key,val,z⟩:=c
 unfold ctv chk
 simp only
 generalize hks:key.size=ks at*
 generalize hvs:val.size=vs at*
 have hks':(key.size:Int)=(ks:Int):=by rw [hks]
 have hvs':(val.size:Int)=(vs:Int):=by rw [hvs]
 have hB:=Lib.hid (below_1 w (.cells #[.int .i64 k,.string key,.string val,.int .i64 z] 51))
 clear hks hvs
 by_cases h1:k<0
 · rw [if_pos (.inl h1)]
   go_enter Tryz.func14,Tryz.ntmps14
   go_wp2_with fail
   go_ret
   exact ⟨rfl,hB.out⟩
 by_cases h2:3<k
 · rw [if_pos (.inr h2)]
   go_enter Tryz.func14,Tryz.ntmps14
   go_wp2_with fail
   go_ret
   exact ⟨rfl,hB.out⟩
 rw [if_neg (by omega)]
 by_cases h3:k<3
 · by_cases h4:(ks:Int)<1
   · rw [if_pos ⟨h3,.inl (by omega)⟩]
     go_enter Tryz.func14,Tryz.ntmps14
     go_wp2_with fail
     go_ret
     exact ⟨rfl,hB.out⟩
   by_cases h5:(32:Int)<(ks:Int)
   · rw [if_pos ⟨h3,.inr (.inl (by omega))⟩]
     go_enter Tryz.func14,Tryz.ntmps14
     go_wp2_with fail
     go_ret
     exact ⟨rfl,hB.out⟩
   by_cases h6:k=1
   · subst h6
     by_cases h7:(32:Int)<(vs:Int)
     · rw [if_pos ⟨h3,.inr (.inr ⟨rfl,by omega⟩)⟩]
       go_enter Tryz.func14,Tryz.ntmps14
       go_wp2_with fail
       go_ret
       exact ⟨rfl,hB.out⟩
     · rw [if_neg (by omega)]
       go_enter Tryz.func14,Tryz.ntmps14
       go_wp2_with fail
       go_ret
       exact ⟨rfl,hB.out⟩
   · rw [if_neg (by omega)]
     go_enter Tryz.func14,Tryz.ntmps14
     go_wp2_with fail
     go_ret
     exact ⟨rfl,hB.out⟩
 · rw [if_neg (by omega)]
   go_enter Tryz.func14,Tryz.ntmps14
   go_wp2_with fail
   go_ret
   exact ⟨rfl,hB.out⟩
set_option maxHeartbeats 1000000 in
theorem small_any (c:Ct) (w:World) (hk:c.key.size≤140737488355328) (hv:c.val.size≤140737488355328):Calls Tryz.prog 6 #[ctv c] w fun e w'=>e=.returned (.bool (decide (c.key.size+c.val.size≤100∧(c.size≤64∨65536<c.size))))∧Below w.heap.size w w':=by
 obtain ⟨k,key,val,z⟩:=c
 unfold ctv
 simp only at hk hv ⊢
 generalize hks:key.size=ks at*
 generalize hvs:val.size=vs at*
 have hks':(key.size:Int)=(ks:Int):=by rw [hks]
 have hvs':(val.size:Int)=(vs:Int):=by rw [hvs]
 have hB:=Lib.hid (below_1 w (.cells #[.int .i64 k,.string key,.string val,.int .i64 z] 30))
 clear hks hvs
 by_cases h1:(ks:Int)+(vs:Int)≤100
 · by_cases h2:z≤64
   · rw [decide_eq_true ⟨by omega,.inl h2⟩]
     go_enter Tryz.func6,Tryz.ntmps6
     go_wp2_with fail
     go_ret
     exact ⟨rfl,hB.out⟩
   · by_cases h3:65536<z
     · rw [decide_eq_true ⟨by omega,.inr h3⟩]
       go_enter Tryz.func6,Tryz.ntmps6
       go_wp2_with fail
       go_ret
       exact ⟨rfl,hB.out⟩
     · rw [decide_eq_false (by omega)]
       go_enter Tryz.func6,Tryz.ntmps6
       go_wp2_with fail
       go_ret
       exact ⟨rfl,hB.out⟩
 · rw [decide_eq_false (by omega)]
   go_enter Tryz.func6,Tryz.ntmps6
   go_wp2_with fail
   go_ret
   exact ⟨rfl,hB.out⟩
set_option maxHeartbeats 1000000 in
theorem of_any (c:Ct) (w:World):Calls Tryz.prog 11 #[ctv c] w fun e w'=>e=.returned (ctv c)∧Below w.heap.size w w':=by
 obtain ⟨k,key,val,z⟩:=c
 unfold ctv
 obtain ⟨w1,hw1⟩:∃ w1,w1=w.alloc (.cells #[.int .i64 k,.string key,.string val,.int .i64 z] 30):=⟨_,rfl⟩
 obtain ⟨w2,hw2⟩:∃ w2,w2=w1.alloc (.cells #[.int .i64 0,.string ⟨#[]⟩,.string ⟨#[]⟩,.int .i64 0] 51):=⟨_,rfl⟩
 have b1:Blk w1 w.heap.size 30 #[.int .i64 k,.string key,.string val,.int .i64 z]:=by rw [hw1]; exact Blk.made w _ _
 have d1:Below w.heap.size w w1:=by rw [hw1]; exact below_1 _ _
 have b2:Blk w2 w1.heap.size 51 #[.int .i64 0,.string ⟨#[]⟩,.string ⟨#[]⟩,.int .i64 0]:=by rw [hw2]; exact Blk.made w1 _ _
 have d2:Below w1.heap.size w1 w2:=by rw [hw2]; exact below_1 _ _
 have b12:=b1.only (Only.ofBelow d2 (fun _=>False)) (by simp)
 have hz:w1.heap.size ≥ w.heap.size:=d1.size
 have hne:w1.heap.size≠w.heap.size:=fun e=>by have:=b1.lt; omega
 have hd:=Lib.hid (d1.trans (d2.mono d1.size))
 obtain ⟨p,hp⟩:∃ p,p=w.heap.size:=⟨_,rfl⟩
 have hs1:w1.heap.size=w.heap.size+1:=by rw [hw1]; exact Array.size_push _
 obtain ⟨q,hq0⟩:∃ q,q=w1.heap.size:=⟨_,rfl⟩
 have hq:q=p+1:=by omega
 rw [← hp] at b12 hne
 rw [← hq0] at b2 hne
 have hqw:w.heap.size≤q:=by omega
 have f0:=b12.cell 0
 have f1:=b12.cell 1
 have f2:=b12.cell 2
 have f3:=b12.cell 3
 have g0:=b2.cell 0
 have g1:=b2.cell 1
 have g2:=b2.cell 2
 have g3:=b2.cell 3
 have z0:=b2.frozen 0
 have z1:=b2.frozen 1
 have z2:=b2.frozen 2
 have z3:=b2.frozen 3
 simp at f0 f1 f2 f3 g0 g1 g2 g3
 have lp:=b12.lt
 have lq:=b2.lt
 have hB4:=Lib.hid ((((hd.out.setCell (p:=⟨q,0,none⟩) hqw (.int .i64 k)).setCell (p:=⟨q,1,none⟩) hqw (.string key)).setCell (p:=⟨q,2,none⟩) hqw (.string val)).setCell (p:=⟨q,3,none⟩) hqw (.int .i64 z))
 clear b1 d1 d2 b12 b2 hz hqw
 go_enter Tryz.func11,Tryz.ntmps11
 go_upto_region 1 with (fail)
 rw [← hw1,← hw2,← hp,← hq]
 clear hw1 hw2 hp hq hq0 hs1
 go_wp2_with fail
 exact bodyPost_ret (v:=.agg #[.int .i64 k,.string key,.string val,.int .i64 z]) (by simp [results,Tryz.results11,go_sem,g0,g1,g2,g3]) rfl ⟨rfl,hB4.out⟩
set_option maxHeartbeats 1000000 in
theorem said_any (x:Int×Bool×ByteArray) (w:World):Calls Tryz.prog 12 #[anv x] w fun e w'=>e=.returned (anv x)∧Below w.heap.size w w':=by
 obtain ⟨k,h,val⟩:=x
 unfold anv
 simp only
 obtain ⟨w1,hw1⟩:∃ w1,w1=w.alloc (.cells #[.int .i64 k,.bool h,.string val] 43):=⟨_,rfl⟩
 obtain ⟨w2,hw2⟩:∃ w2,w2=w1.alloc (.cells #[.int .i64 0,.bool false,.string ⟨#[]⟩] 47):=⟨_,rfl⟩
 have b1:Blk w1 w.heap.size 43 #[.int .i64 k,.bool h,.string val]:=by rw [hw1]; exact Blk.made w _ _
 have d1:Below w.heap.size w w1:=by rw [hw1]; exact below_1 _ _
 have b2:Blk w2 w1.heap.size 47 #[.int .i64 0,.bool false,.string ⟨#[]⟩]:=by rw [hw2]; exact Blk.made w1 _ _
 have d2:Below w1.heap.size w1 w2:=by rw [hw2]; exact below_1 _ _
 have b12:=b1.only (Only.ofBelow d2 (fun _=>False)) (by simp)
 have hz:w1.heap.size ≥ w.heap.size:=d1.size
 have hne:w1.heap.size≠w.heap.size:=fun e=>by have:=b1.lt; omega
 have hd:=Lib.hid (d1.trans (d2.mono d1.size))
 obtain ⟨p,hp⟩:∃ p,p=w.heap.size:=⟨_,rfl⟩
 have hs1:w1.heap.size=w.heap.size+1:=by rw [hw1]; exact Array.size_push _
 obtain ⟨q,hq0⟩:∃ q,q=w1.heap.size:=⟨_,rfl⟩
 have hq:q=p+1:=by omega
 rw [← hp] at b12 hne
 rw [← hq0] at b2 hne
 have hqw:w.heap.size≤q:=by omega
 have f0:=b12.cell 0
 have f1:=b12.cell 1
 have f2:=b12.cell 2
 have g0:=b2.cell 0
 have g1:=b2.cell 1
 have g2:=b2.cell 2
 have z0:=b2.frozen 0
 have z1:=b2.frozen 1
 have z2:=b2.frozen 2
 simp at f0 f1 f2 g0 g1 g2
 have lp:=b12.lt
 have lq:=b2.lt
 have hB4:=Lib.hid (((hd.out.setCell (p:=⟨q,0,none⟩) hqw (.int .i64 k)).setCell (p:=⟨q,1,none⟩) hqw (.bool h)).setCell (p:=⟨q,2,none⟩) hqw (.string val))
 clear b1 d1 d2 b12 b2 hz hqw
 go_enter Tryz.func12,Tryz.ntmps12
 go_upto_region 1 with (fail)
 rw [← hw1,← hw2,← hp,← hq]
 clear hw1 hw2 hp hq hq0 hs1
 go_wp2_with fail
 exact bodyPost_ret (v:=.agg #[.int .i64 k,.bool h,.string val]) (by simp [results,Tryz.results12,go_sem,g0,g1,g2]) rfl ⟨rfl,hB4.out⟩
end Go.Proofs.YtpobbnllcoabhaaGreat.Ca
namespace Go.Proofs.YtpobbnllcoabhaaGreat.Ca
open Go Go.RowKit Hp K Fl Rw Hm Ar Mm Me LK Qs Wk Pc Pn Mq Pu Zp Mx LawTh Bs Zr
set_option maxRecDepth 100000
structure Cp where
 f:Nat
 tv:Value
 ga:Gt.Ga
 qa:Pu.Qa
 ra:Zr.Ra
def ccs (tv:Value) (d:Bool):Array Value:=#[tv,.bool d]
abbrev rfv (e:Int):Value:=.agg #[.int .i64 e]
def Inn (w:World) (a:Cp) (e:Int):Fr→Prop
 | .ref=>a.tv=.iface 155 (rfv e)
 | .get G=>a.tv=.iface 156 (ptr a.ga.f)∧Gt.GeAt w a.ga G
 | .put P=>a.tv=.iface 158 (ptr a.qa.f)∧Pu.PuAt w a.qa P
 | .del D=>a.tv=.iface 135 (ptr a.qa.f)∧Dl.DeAt w a.qa D
 | .rz R=>a.tv=.iface 94 (ptr a.ra.f)∧Zr.RzAt w a.ra R
def ifoot (a:Cp) (F:Fr) (x:Nat):Prop:=match F with
 | .ref=>False
 | .get _=>Gt.gfoot a.ga x
 | .put P=>Pu.pfoot a.qa P x
 | .del D=>Dl.dfoot a.qa D x
 | .rz R=>Zr.rfoot a.ra R x
structure ClAt (w:World) (a:Cp) (C:Cl):Prop where
 blk:Blk w a.f 116 (ccs a.tv C.done)
 inn:Inn w a C.err C.fr
 er0:C.fr≠.ref→C.err=0
def cfoot (a:Cp) (C:Cl) (x:Nat):Prop:=x=a.f∨ifoot a C.fr x
abbrev clL:Lay Cp Cl:=⟨Cp.f,ClAt,cfoot⟩
abbrev frTypes:List TypeId:=[185,199,201,203,188,195,206,168,
 133,175,233,249,231,153,178]
section
variable {w w':World} {M:Mo} {a:Cp} {C:Cl} {F:Fr} {tv:Value} {e:Int} {d:Bool} {f:Nat}
theorem rz_ty {a:Zr.Ra} {R:Rz} (h:RzAt w a R) {x:Nat} (hx:Zr.rfoot a R x):Ty w x frTypes∨(∃ ms,Gw.Mth w x ms)∨∃ ms,Me.Met w x ms:=by
 rcases hx with rfl | ⟨G,q1,q2,q3⟩ | ⟨G,q1,q2,q3⟩
 · exact .inl ((blk_ty h.blk).mono (by decide))
 · rcases (h.gro G q1 q2).2.ty q3 with q | q
   · exact .inl (q.mono (by decide))
   · exact .inr (.inl q)
 · rcases (h.shr G q1 q2).2.ty q3 with q | q
   · exact .inl (q.mono (by decide))
   · exact .inr (.inr q)
theorem inn_ty (h:Inn w a e F) {x:Nat} (hx:ifoot a F x):Ty w x frTypes∨(∃ ms,Gw.Mth w x ms)∨∃ ms,Me.Met w x ms:=by
 cases F with
 | ref=>exact absurd hx (fun q=>q)
 | get G=>exact .inl ((h.2.ty hx).mono (by decide))
 | put P=>exact .inl ((h.2.ty hx).mono (by decide))
 | del D=>exact .inl ((h.2.ty hx).mono (by decide))
 | rz R=>exact rz_ty h.2 hx
theorem inn_no (h:Inn w a e F) {x:Nat} (hx:ifoot a F x) {ts:List TypeId} (ht:Ty w x ts) (hd:∀ t∈ts,t∉frTypes):False:=by
 rcases inn_ty h hx with q | ⟨_,q⟩ | ⟨_,q⟩
 · exact ht.apart q hd
 · exact q.no ht
 · exact q.no ht
theorem inn_only {S:Nat→Prop} (h:Inn w a e F) (ho:Only S w w') (hn:∀ x,ifoot a F x→¬S x):Inn w' a e F:=by
 cases F with
 | ref=>exact h
 | get G=>exact ⟨h.1,h.2.only ho hn⟩
 | put P=>exact ⟨h.1,h.2.only ho hn⟩
 | del D=>exact ⟨h.1,h.2.only ho hn⟩
 | rz R=>exact ⟨h.1,rz_only h.2 ho hn⟩
theorem inn_self (hb:Blk w f 116 (ccs tv d)) (h:Inn w a e F) {x:Nat} (hx:ifoot a F x):x≠f:=by
 rintro rfl
 exact inn_no h hx (blk_ty hb) (by decide)
theorem cl_only {S:Nat→Prop} (h:clL.At w a C) (ho:Only S w w') (hn:∀ x,clL.foot a C x→¬S x):clL.At w' a C:=
 ⟨h.blk.only ho (hn _ (.inl rfl)),inn_only h.inn ho (fun x hx=>hn x (.inr hx)),h.er0⟩
theorem cl_below (h:clL.At w a C) (hb:Below w.heap.size w w'):clL.At w' a C:=cl_only h (Only.ofBelow hb (fun _=>False)) (by simp)
theorem cl_far {x:Nat} (h:clL.At w a C) (hM:MemAt w M) (hx:clL.foot a C x):¬mfoot M x:=fun hm=>by
 rcases hx with rfl | hx
 · exact (hM.ty hm).apart (blk_ty h.blk) (by decide)
 · exact inn_no h.inn hx (hM.ty hm) (by decide)
theorem cl_row {x:Nat} (h:clL.At w a C) (hx:clL.foot a C x):¬Ty w x [122]:=fun q=>by
 rcases hx with rfl | hx
 · exact q.apart (blk_ty h.blk) (by decide)
 · exact inn_no h.inn hx q (by decide)
theorem cb_cells (hb:Blk w f 116 (ccs tv d)):w.cell? ⟨f,0,none⟩=some tv∧w.cell? ⟨f,1,none⟩=some (.bool d):=⟨hb.cell 0,hb.cell 1⟩
theorem ready_in {T:TypeId} {fr:Nat} {v m:Value} {c:Bool} (hb:Blk w f 116 (ccs (.iface T v) d)) (mr:∀ (w:World) (f:Nat),(method (f+1) T v "Ready").run Tryz.prog w=.ok (fr,v) w)
 (er:∀ args w,(callFunc fr args).run Tryz.prog w=.ok (.enter fr args) w) (hF:Calls Tryz.prog fr #[v,m] w fun e w'=>e=.returned (.bool c)∧Below w.heap.size w w'):Calls Tryz.prog 256 #[ptr f,m] w fun e w'=>e=.returned (.bool c)∧Below w.heap.size w w':=by
 have c0:=(cb_cells hb).1
 replace hF:=Lib.hid hF
 clear hb
 go_enter Tryz.func256,Tryz.ntmps256
 go_wp2_with fail
 refine hF.out.mono ?_
 rintro e w' ⟨rfl,hb⟩
 replace hb:=Lib.hid hb
 clear c0
 go_wp2_with fail
 go_ret
 exact ⟨rfl,hb.out⟩
theorem step_in {T:TypeId} {fs:Nat} {v m:Value} {c:Bool} {P:World→Prop} (hb:Blk w f 116 (ccs (.iface T v) d)) (ms:∀ (w:World) (f:Nat),(method (f+1) T v "Step").run Tryz.prog w=.ok (fs,v) w)
 (es:∀ args w,(callFunc fs args).run Tryz.prog w=.ok (.enter fs args) w) (hF:Calls Tryz.prog fs #[v,m] w fun e' w'=>e'=.returned (.bool c)∧Blk w' f 116 (ccs (.iface T v) d)∧P w'):
 Calls Tryz.prog 257 #[ptr f,m] w fun e' w'=>e'=.returned (.bool c)∧∃ w1,P w1∧w'=w1.setCell ⟨f,1,none⟩ (.bool c)∧Blk w1 f 116 (ccs (.iface T v) d):=by
 have c0:=(cb_cells hb).1
 replace hF:=Lib.hid hF
 clear hb
 go_enter Tryz.func257,Tryz.ntmps257
 go_wp2_with fail
 refine hF.out.mono ?_
 rintro e w1 ⟨rfl,hb,hP⟩
 have c2:=(cb_cells hb).2
 have z2:=hb.frozen 1
 have hE:Hid (∃ w0,P w0∧w1.setCell ⟨f,1,none⟩ (.bool c)=w0.setCell ⟨f,1,none⟩ (.bool c)∧Blk w0 f 116 (ccs (.iface T v) _)):=Lib.hid ⟨w1,hP,rfl,hb⟩
 clear c0 hF hb hP
 go_wp2_with fail
 go_ret
 exact ⟨rfl,hE.out⟩
theorem mr_ref (e:Int) (w:World) (f:Nat):(method (f+1) 155 (rfv e) "Ready").run Tryz.prog w=.ok (268,rfv e) w:=by kernel_rfl
theorem ms_ref (e:Int) (w:World) (f:Nat):(method (f+1) 155 (rfv e) "Step").run Tryz.prog w=.ok (269,rfv e) w:=by kernel_rfl
theorem er_ref (args:Array Value) (w:World):(callFunc 268 args).run Tryz.prog w=.ok (.enter 268 args) w:=by kernel_rfl
theorem es_ref (args:Array Value) (w:World):(callFunc 269 args).run Tryz.prog w=.ok (.enter 269 args) w:=by kernel_rfl
theorem ready_ref (e:Int) (m:Value) (w:World):Calls Tryz.prog 268 #[rfv e,m] w fun e w'=>e=.returned (.bool true)∧Below w.heap.size w w':=by
 have hB:=Lib.hid (below_1 w (.cells #[.int .i64 e] 155))
 go_enter Tryz.func268,Tryz.ntmps268
 go_wp2_with fail
 go_ret
 exact ⟨rfl,hB.out⟩
theorem step_ref (e:Int) (m:Value) (w:World):Calls Tryz.prog 269 #[rfv e,m] w fun e w'=>e=.returned (.bool true)∧Below w.heap.size w w':=by
 have hB:=Lib.hid (below_1 w (.cells #[.int .i64 e] 155))
 go_enter Tryz.func269,Tryz.ntmps269
 go_wp2_with fail
 go_ret
 exact ⟨rfl,hB.out⟩
end
end Go.Proofs.YtpobbnllcoabhaaGreat.Ca
namespace Go.Proofs.YtpobbnllcoabhaaGreat.Ca
open Go Go.RowKit Hp K Fl Rw Hm Ar Mm Me LK Qs Wk Pc Pn Mq Pu Zp Mx LawTh Bs Zr
set_option maxRecDepth 100000
section
variable {w w':World} {M:Mo} {a:Cp} {C:Cl}
theorem cl_ready (hM:MemAt w M) (h:clL.At w a C) (ok:Okc (lm M) C):Calls Tryz.prog 256 #[ptr a.f,ptr M.m] w fun e w'=>e=.returned (.bool (clrd (lm M) C))∧Below w.heap.size w w':=by
 obtain ⟨hb,hI,hE0⟩:=h
 obtain ⟨F,er,d⟩:=C
 cases F with
 | ref=>
   rw [show a.tv=.iface 155 (rfv er) from hI] at hb
   exact ready_in hb (mr_ref er) er_ref (ready_ref er _ w)
 | get G=>
   rw [show a.tv=.iface 156 (ptr a.ga.f) from hI.1] at hb
   exact ready_in hb (Gt.get_frm.mr _) Gt.get_frm.er (Gt.get_frm.ready hM hI.2 ok)
 | put P=>
   rw [show a.tv=.iface 158 (ptr a.qa.f) from hI.1] at hb
   exact ready_in hb (Pu.put_frm.mr _) Pu.put_frm.er (Pu.put_frm.ready hM hI.2 ok)
 | del D=>
   rw [show a.tv=.iface 135 (ptr a.qa.f) from hI.1] at hb
   exact ready_in hb (Dl.del_frm.mr _) Dl.del_frm.er (Dl.del_frm.ready hM hI.2 ok)
 | rz R=>
   rw [show a.tv=.iface 94 (ptr a.ra.f) from hI.1] at hb
   exact ready_in hb (Zr.rz_frm.mr _) Zr.rz_frm.er (Zr.rz_frm.ready hM hI.2 ok)
theorem stp_in {A P:Type} {X:Lay A P} {b:A} {p p':P} {L':Lm} {F:Fr} {tv:Value} {f:Nat} {er:Int} {d c:Bool} {w1:World} (hs:X.Stp w M b p L' p' w1)
 (hfoot:∀ b',X.f b'=X.f b→X.At w1 b' p'→∃ a':Cp,a'.f=f∧a'.tv=tv∧Inn w1 a' er F∧∀ x,ifoot a' F x→X.foot b' p' x) (h1:Blk w1 f 116 (ccs tv d)) (hp:∀ x,X.foot b p x→cfoot a C x) (ea:a.f=f) (her:F≠.ref→er=0):
 clL.Stp w M a C L' ⟨F,er,c⟩ (w1.setCell ⟨f,1,none⟩ (.bool c)):=by
 obtain ⟨M',b',r1,r2,r3,r4,r5,r6,r7⟩:=hs
 obtain ⟨a',s1,s2,s3,s4⟩:=hfoot b' r5 r4
 have hO:=(Only.refl (·=f) w1).setCell (p:=⟨f,1,none⟩) (.inl rfl) (.bool c)
 have hfm:¬mfoot M' f:=fun hm=>(r1.ty hm).apart (blk_ty h1) (by decide)
 refine ⟨M',a',r1.only hO (fun x hx q=>hfm (q▸hx)),r2,r3,⟨?_,?_,her⟩,s1.trans ea.symm,?_,?_⟩
 · have:=h1.store 1 (.bool c)
   rw [← s1] at this ⊢
   rw [s2]
   exact this
 · exact inn_only s3 hO (fun x hx q=>inn_self h1 s3 hx q)
 · intro x hx
   rcases hx with q | q
   · exact .inl (.inl (q.trans (s1.trans ea.symm)))
   · exact (r6 x (s4 x q)).imp (hp x) id
 · exact (r7.mono (fun x _ q=>q.imp id (hp x))).trans (hO.mono (fun x _ q=>.inr (.inl (q.trans ea.symm))))
theorem blk_kept {A P:Type} {X:Lay A P} {b:A} {p p':P} {L':Lm} {w1:World} (hM:MemAt w M) (h:ClAt w a C) (hs:X.Stp w M b p L' p' w1) (hp:∀ x,X.foot b p x→ifoot a C.fr x):Blk w1 a.f 116 (ccs a.tv C.done):=by
 obtain ⟨M',b',r1,r2,r3,r4,r5,r6,r7⟩:=hs
 refine h.blk.only r7 (fun q=>?_)
 rcases q with q | q
 · exact cl_far h hM (.inl rfl) q
 · exact inn_self h.blk h.inn (hp _ q) rfl
theorem cl_step (hM:MemAt w M) (h:clL.At w a C) (ok:Okc (lm M) C) (hr:clrd (lm M) C=true):Calls Tryz.prog 257 #[ptr a.f,ptr M.m] w fun e w'=>e=.returned (.bool (cldn (lm M) C))∧clL.Stp w M a C (clst (lm M) C).1 (clst (lm M) C).2 w':=by
 have h0:=h
 obtain ⟨hb,hI,hE0⟩:=h
 obtain ⟨F,er,d⟩:=C
 cases F with
 | ref=>
   have hb1:=hb
   rw [show a.tv=.iface 155 (rfv er) from hI] at hb1
   refine (step_in (P:=fun w1=>Below w.heap.size w w1) hb1 (ms_ref er) es_ref ((step_ref er _ w).mono fun e w1 q=>⟨q.1,hb1.only (Only.ofBelow q.2 (fun _=>False)) (by simp),q.2⟩)).mono fun e w' q=>⟨q.1,?_⟩
   obtain ⟨w1,q1,q2,q3⟩:=q.2
   rw [q2]
   have hO:=(Only.ofBelow q1 (·=a.f)).setCell (p:=⟨a.f,1,none⟩) (.inl rfl) (.bool true)
   refine ⟨M,a,hM.only hO (fun x hx q=>cl_far h0 hM (.inl rfl) (q▸hx)),rfl,Kin.refl _ _,⟨?_,hI,fun q=>absurd rfl q⟩,rfl,fun x q=>.inl q,hO.mono (fun x _ q=>.inr (.inl q))⟩
   have:=q3.store 1 (.bool true)
   rw [show a.tv=.iface 155 (rfv er) from hI]
   exact this
 | get G=>
   have ht:a.tv=.iface 156 (ptr a.ga.f):=hI.1
   have hs:=Gt.get_frm.step hM hI.2 ok hr
   have hb':=hb
   rw [ht] at hb'
   refine (step_in hb' (Gt.get_frm.ms _) Gt.get_frm.es (hs.mono fun e w1 q=>⟨q.1,by have:=blk_kept hM h0 q.2 (fun x hx=>hx); rw [ht] at this; exact this,q.2⟩)).mono fun e w' q=>⟨q.1,?_⟩
   obtain ⟨w1,q1,q2,q3⟩:=q.2
   rw [q2]
   refine stp_in (tv:=a.tv) (er:=er) (d:=d) q1 (fun b' r1 r2=>⟨{a with ga:=b'},rfl,rfl,⟨by show a.tv=.iface _ (ptr b'.f); rw [ht,show b'.f=a.ga.f from r1],r2⟩,fun x hx=>hx⟩) (by rw [ht]; exact q3) (fun x hx=>.inr hx) rfl (fun _=>hE0 (by simp))
 | put P=>
   have ht:a.tv=.iface 158 (ptr a.qa.f):=hI.1
   have hs:=Pu.put_frm.step hM hI.2 ok hr
   have hb':=hb
   rw [ht] at hb'
   refine (step_in hb' (Pu.put_frm.ms _) Pu.put_frm.es (hs.mono fun e w1 q=>⟨q.1,by have:=blk_kept hM h0 q.2 (fun x hx=>hx); rw [ht] at this; exact this,q.2⟩)).mono fun e w' q=>⟨q.1,?_⟩
   obtain ⟨w1,q1,q2,q3⟩:=q.2
   rw [q2]
   refine stp_in (tv:=a.tv) (er:=er) (d:=d) q1 (fun b' r1 r2=>⟨{a with qa:=b'},rfl,rfl,⟨by show a.tv=.iface _ (ptr b'.f); rw [ht,show b'.f=a.qa.f from r1],r2⟩,fun x hx=>hx⟩) (by rw [ht]; exact q3) (fun x hx=>.inr hx) rfl (fun _=>hE0 (by simp))
 | del D=>
   have ht:a.tv=.iface 135 (ptr a.qa.f):=hI.1
   have hs:=Dl.del_frm.step hM hI.2 ok hr
   have hb':=hb
   rw [ht] at hb'
   refine (step_in hb' (Dl.del_frm.ms _) Dl.del_frm.es (hs.mono fun e w1 q=>⟨q.1,by have:=blk_kept hM h0 q.2 (fun x hx=>hx); rw [ht] at this; exact this,q.2⟩)).mono fun e w' q=>⟨q.1,?_⟩
   obtain ⟨w1,q1,q2,q3⟩:=q.2
   rw [q2]
   refine stp_in (tv:=a.tv) (er:=er) (d:=d) q1 (fun b' r1 r2=>⟨{a with qa:=b'},rfl,rfl,⟨by show a.tv=.iface _ (ptr b'.f); rw [ht,show b'.f=a.qa.f from r1],r2⟩,fun x hx=>hx⟩) (by rw [ht]; exact q3) (fun x hx=>.inr hx) rfl (fun _=>hE0 (by simp))
 | rz R=>
   have ht:a.tv=.iface 94 (ptr a.ra.f):=hI.1
   have hs:=Zr.rz_frm.step hM hI.2 ok hr
   have hb':=hb
   rw [ht] at hb'
   refine (step_in hb' (Zr.rz_frm.ms _) Zr.rz_frm.es (hs.mono fun e w1 q=>⟨q.1,by have:=blk_kept hM h0 q.2 (fun x hx=>hx); rw [ht] at this; exact this,q.2⟩)).mono fun e w' q=>⟨q.1,?_⟩
   obtain ⟨w1,q1,q2,q3⟩:=q.2
   rw [q2]
   refine stp_in (tv:=a.tv) (er:=er) (d:=d) q1 (fun b' r1 r2=>⟨{a with ra:=b'},rfl,rfl,⟨by show a.tv=.iface _ (ptr b'.f); rw [ht,show b'.f=a.ra.f from r1],r2⟩,fun x hx=>hx⟩) (by rw [ht]; exact q3) (fun x hx=>.inr hx) rfl (fun _=>hE0 (by simp))
end
theorem cl_frm:Frm clL 69 256 257 Okc clrd clst cldn where
 below h hb:=cl_below h hb
 mr b w f:=by kernel_rfl
 ms b w f:=by kernel_rfl
 er args w:=by kernel_rfl
 es args w:=by kernel_rfl
 ready hM h ok:=cl_ready hM h ok
 step hM h ok hr:=cl_step hM h ok hr
end Go.Proofs.YtpobbnllcoabhaaGreat.Ca
