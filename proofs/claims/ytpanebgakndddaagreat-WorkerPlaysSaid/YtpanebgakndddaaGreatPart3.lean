/- Walks and plain mathematics, put together in their order: MapB, MapC, MapD, DelB, ShrA, ShrB, ShrC, RegN, RowRun, ShrD. -/
import Derived.Test.YtpanebgakndddaaGreatPart2
import Derived.Test.YtpanebgakndddaaGreatLm
import Derived.Test.YtpanebgakndddaaGreatFrm
import Derived.Laws.EntriesVeiled
import Derived.Deep.QuietTactic
import Derived.Deep.DeepCutAuto
import Derived.Deep.RegionHeld3
import Derived.OrdersHeld
import Derived.StillTail
import Derived.Test.YtpanebgakndddaaGreatRowKit
set_option linter.unusedVariables false
set_option linter.unusedSimpArgs false
namespace Go.Proofs.YtpanebgakndddaaGreat.Mq
open Go Hm Ar Mm Wk Pc Me Re Pn
def gr (n:Nat) (cs:Nat->List Hp):List Nat:=(List.range n).flatMap fun b=>aM (cs b)
def fH (cs:Nat->List Hp) (b0:Nat) (q:List Hp) (b:Nat):List Hp:=if b=b0 then q else cs b
theorem RR {α β:Type} {l:List α} {f g:α->List β} (h:∀ a∈l,f a=g a):l.flatMap f=l.flatMap g:=by
 induction l with
 | nil=>rfl
 | cons a t ih=>rw [List.flatMap_cons,List.flatMap_cons,h a (by simp),ih fun b hb=>h b (List.mem_cons_of_mem _ hb)]
theorem zK {n b0:Nat} (h:b0<n) (cs:Nat->List Hp) (q:List Hp):(gr n (fH cs b0 q)).Perm (aM q++((List.range n).erase b0).flatMap fun b=>aM (cs b)):=by
 have h1:(List.range n).Perm (b0::(List.range n).erase b0):=List.perm_cons_erase (by simpa using h)
 have h2:=h1.flatMap_right (fun b=>aM (fH cs b0 q b))
 refine h2.trans ?_
 rw [List.flatMap_cons]
 have e1:aM (fH cs b0 q b0)=aM q:=by unfold fH; rw [if_pos rfl]
 have e2:(((List.range n).erase b0).flatMap fun b=>aM (fH cs b0 q b))=((List.range n).erase b0).flatMap fun b=>aM (cs b):=by
  apply RR
  intro b hb
  have aL:b≠b0:=(List.Nodup.mem_erase_iff List.nodup_range).1 hb |>.1
  unfold fH
  rw [if_neg aL]
 rw [e1,e2]
theorem RS (cs:Nat->List Hp) (b0:Nat):fH cs b0 (cs b0)=cs:=by
 funext b
 unfold fH
 split
 ·rename_i e; rw [e]
 ·rfl
theorem De {n b0:Nat} (h:b0<n) (cs:Nat->List Hp):(gr n cs).Perm (aM (cs b0)++((List.range n).erase b0).flatMap fun b=>aM (cs b)):=by
 have:=zK h cs (cs b0)
 rw [RS] at this
 exact this
theorem _root_.Go.Proofs.YtpanebgakndddaaGreat.Re.Wr.perm {ss:List Sl} {ws left ws' left':List Nat} {G:Nat} (h:Wr ss ws left G) (hp:(ws'++left').Perm (ws++left)):Wr ss ws' left' G:=by
 have hl:=hp.length_eq
 simp only [List.length_append] at hl
 exact ⟨h.room,hp.nodup_iff.2 h.nd,fun x hx=>h.live x (hp.mem_iff.1 hx),fun k=>by have:=h.wZ k; omega,by have:=h.nQ; omega⟩
theorem RT {ss ss':List Sl} (ht:∀ k,(aj ss' k).taken=(aj ss k).taken) (n:Nat):dX ss' n=dX ss n:=by
 unfold dX
 apply List.filter_congr
 intro k _
 rw [ht]
theorem _root_.Go.Proofs.YtpanebgakndddaaGreat.Re.Wr.nodes {ss ss':List Sl} {ws left:List Nat} {G:Nat} (h:Wr ss ws left G) (hl:ss'.length=ss.length) (ht:∀ k,(aj ss' k).taken=(aj ss k).taken/\(aj ss' k).gen=(aj ss k).gen):Wr ss' ws left G:=
 ⟨by rw [hl]; exact h.room,h.nd,fun x hx=>by
  obtain ⟨k,h1,h2,h3⟩:=h.live x hx
  exact ⟨k,by rw [hl]; exact h1,by rw [(ht k).1]; exact h2,by rw [(ht k).2]; exact h3⟩,fun k=>by rw [(ht k).2]; exact h.wZ k,by rw [hl,RT fun k=>(ht k).1]; exact h.nQ⟩
structure Mp (L:Lm) (n B:Nat) (cs:Nat->List Hp) (l:List Pr) (G:Nat):Prop where
 pw:FM.bl n=true
 now:Me.now L.xs L.ds=(n,B)
 tabs:mA L.xs L.ds
 tb:∀ i,(aO L.ds i).1<=65536/\(aO L.ds i).2<=4000000
 k:1<=L.k/\L.k<=8
 kB:2+L.k<=B
 xl:B+n<=L.xs.length
 xb:∀ x∈L.xs,0<=x/\x<=18446744073709551615
 db:ff L.ss
 ch:∀ b,b<n->Cx L.ss (Cl.nth L.xs (B+b)).toNat (cs b)
 bk:∀ b,b<n->∀ e∈cs b,FM.bucket (sm e.2.1) n=(b:Nat)
 kd:∀ b,b<n->(dQ (cs b)).Nodup
 wr:Wr L.ss L.ws (gr n cs) G
 ln:(l.map (·.1)).Nodup
 lk:∀ key,Pc.lk l key=Pc.lk (bs (cs (ai key n))) key
 len:l.length=(gr n cs).length
 zero:∀ i:Nat,(i:Int)<L.k->Cl.nth L.xs (2+i)=0
 hs:L.hs=List.replicate 6 (-1)
 F:L.F=false
section
variable {L:Lm} {n B:Nat} {cs:Nat->List Hp} {l:List Pr} {G:Nat}
theorem Mp.ad (h:Mp L n B cs l G):(gr n cs).Nodup:=(List.nodup_append.1 h.wr.nd).2.1
theorem Mp.gE (h:Mp L n B cs l G):1<=n/\n<=65536:=by
 have:=FM.eG h.pw
 omega
theorem Mp.nX (h:Mp L n B cs l G) {b0 G':Nat} (hb:b0<n) {q:List Hp} {ss':List Sl} {xs':List Int} {ws':List Nat} {l':List Pr}
 (bz:xs'.length=L.xs.length) (hx:∀ j,j≠B+b0->Cl.nth xs' j=Cl.nth L.xs j) (jx:∀ x∈xs',0<=x/\x<=18446744073709551615) (hN:ff ss')
 (hc:Cx ss' (Cl.nth xs' (B+b0)).toNat q) (ho:∀ b,b<n->b≠b0->Cx ss' (Cl.nth L.xs (B+b)).toNat (cs b)) (kR:∀ e∈q,FM.bucket (sm e.2.1) n=(b0:Nat)) (EN:(dQ q).Nodup)
 (hw:Wr ss' ws' (gr n (fH cs b0 q)) G') (bu:(l'.map (·.1)).Nodup) (ym:∀ key,ai key n≠b0->Pc.lk l' key=Pc.lk l key) (fK:∀ key,ai key n=b0->Pc.lk l' key=Pc.lk (bs q) key) (bQ:l'.length=(gr n (fH cs b0 q)).length):
 Mp {L with xs:=xs',ss:=ss',ws:=ws'} n B (fH cs b0 q) l' G':=by
 have hk:=h.kB
 have KA:=h.k
 refine ⟨h.pw,?_,?_,h.tb,h.k,h.kB,by show B+n<=xs'.length; rw [bz]; exact h.xl,jx,hN,fun b cY=>?_,fun b cY e he=>?_,fun b cY=>?_,hw,bu,fun key=>?_,bQ,fun i hi=>?_,h.hs,h.F⟩
 ·have:=h.now
  unfold Me.now at this ⊢
  show aO L.ds (Cl.nth xs' 1).toNat=_
  rw [hx 1 (by omega)]
  exact this
 ·intro i hi
  have:=h.tabs i hi
  show _/\_/\_<=xs'.length
  rw [bz]
  exact this
 ·show Cx ss' (Cl.nth xs' (B+b)).toNat (fH cs b0 q b)
  unfold fH
  split
  ·rename_i e; rw [e]; exact hc
  ·rename_i e
   rw [hx _ (by omega)]
   exact ho b cY e
 ·unfold fH at he
  split at he
  ·rename_i e'; rw [e']; exact kR e he
  ·exact h.bk b cY e he
 ·unfold fH
  split
  ·exact EN
  ·exact h.kd b cY
 ·unfold fH
  split
  ·rename_i e; exact fK key e
  ·rename_i e
   rw [ym key e]
   exact h.lk key
 ·have hi:(i:Int)<L.k:=hi
  show Cl.nth xs' (2+i)=0
  rw [hx _ (by omega)]
  exact h.zero i hi
end
theorem RU {a t:List Pr} {p p':Pr} {k:ByteArray} (h:p.1≠k) (h':p'.1≠k):lk (a++p::t) k=lk (a++p'::t) k:=by
 induction a with
 | nil=>simp [lk,h,h']
 | cons e r ih=>
   rw [List.cons_append,List.cons_append]
   simp only [lk]
   rw [ih]
theorem RV {ss:List Sl} {m:Nat} (hm:Least ss m) (s:Sl) {y k:Nat} (hk:bj ss y k):bj (ss.set m s) y k/\aj (ss.set m s) k=aj ss k/\k≠m:=by
 have aL:k≠m:=by
  rintro rfl
  have:=hk.2.1
  rw [hm.2.1] at this
  simp at this
 refine ⟨(xa hm.1 _ _ _).2 (by rw [if_neg aL]; exact hk),?_,aL⟩
 rw [at_set hm.1,if_neg aL]
end Go.Proofs.YtpanebgakndddaaGreat.Mq
namespace Go.Proofs.YtpanebgakndddaaGreat.Mq
open Go Go.RowKit Hp K Fl Rw Hm Ar Mm Me Wk Ta Pn Pc Pu Re
theorem tU (q:List Mq.Hp):(bs q).map (·.1)=dQ q:=by rw [List.map_map]; rfl
section
variable {L:Lm} {n B:Nat} {cs:Nat->List Mq.Hp} {l:List Pr} {G:Nat} {key val:ByteArray} {i:Int} {hb:Nat}
theorem Mp.small (h:Mp L n B cs l G):L.ws.length+(gr n cs).length<=1024/\L.ss.length<=1024:=by
 have:=h.wr.nQ
 have:=h.wr.room
 omega
theorem Mp.ql (h:Mp L n B cs l G) {b:Nat} (hb:b<n):(cs b).length<=(gr n cs).length:=by
 have:=(De hb cs).length_eq
 simp only [List.length_append,List.length_map] at this
 omega
abbrev Mp.ep (L:Lm) (n B:Nat) (cs:Nat->List Mq.Hp) (key val:ByteArray) (i:Int) (hb:Nat):Ep:=⟨L,key,val,i,hb,(n,B),B+ai key n,cs (ai key n)⟩
theorem Mp.si (h:Mp L n B cs l G) (hG:G<=1000000) (hi:0<=i/\i<=1000):(Mp.ep L n B cs key val i hb).Ok:=by
 have l9:=h.small
 obtain ⟨av,au⟩:=dJ h.pw key
 have Au:=h.ql av
 have ma:=h.gE
 have eu:=h.kB
 have hk:=h.k
 have bz:=h.xl
 refine ⟨l9.2,h.db,h.tb,hi,h.xb,h.hs,h.now,by show n≠0; omega,?_,by show B+ai key n<L.xs.length; omega,by show 1<L.xs.length; omega,h.ch _ av,fun k=>by have:=h.wr.wZ k; show (aj L.ss k).gen<=_; omega,by show L.ws.length<=_; omega,by show (cs _).length<=_; omega⟩
 show ((B+ai key n:Nat):Int)=(B:Int)+FM.bucket (sm key) n
 rw [au]
 omega
theorem tW (h:Mp L n B cs l G) {W:Wa} (hf:fF (Mp.ep L n B cs key val i hb) W):decide (W.found≠0)=(Pc.lk l key).isSome:=by
 rw [h.lk]
 rcases hf with ⟨h0,hk,_⟩ | ⟨pre,x,p,t,z,k,hq,hp,hx,hk,bS,hW,hc,ju⟩
 ·have:Pc.lk (bs (cs (ai key n))) key=none:=nT.2 (by simpa using hk)
  rw [this,h0]
  rfl
 ·have hm:p∈bs (cs (ai key n)):=by
   have hq:cs (ai key n)=_:=hq
   rw [hq]
   simp
  have hp:p.1=key:=hp
  have hn:((bs (cs (ai key n))).map (·.1)).Nodup:=by
   rw [tU]
   exact h.kd _ (dJ h.pw key).1
  have:=vZ hn hm
  rw [hp] at this
  rw [this,hx]
  simp [hk.pos]
theorem BR (h:Mp L n B cs l G) (hG:G<=1000000) (hi:0<=i/\i<=1000) {s:Lm×Pt} (hq:Qp (Mp.ep L n B cs key val i hb) s):
 decide (s.2.W.found≠0)=(Pc.lk l key).isSome/\s.2.bU=0/\
  ((fW L.ss=none/\s.1=L/\s.2.err=4)\/((fW L.ss).isSome/\s.2.err=0/\s.1.ws.length=L.ws.length+(if (Pc.lk l key).isSome then 1 else 0)/\s.1.ss.length=L.ss.length/\s.1.k=L.k/\∃ cs',∀ l',uc l l' key val->Mp s.1 n B cs' l' (G+1))):=by
 have hE:=h.si (key:=key) (val:=val) (i:=i) (hb:=hb) hG hi
 cases hq with
 | full W hf cC=>exact ⟨tW h hf,rfl,.inl ⟨cC,rfl,rfl⟩⟩
 | done W m hf hm=>
   have b9:=tW h hf
   refine ⟨b9,rfl,.inr ⟨by show (fW L.ss).isSome; rw [wU.2 hm]; rfl,rfl,?_,?_,(sJ _ W m).2.2.2.2,?_⟩⟩
   ·show (j6 (Mp.ep L n B cs key val i hb) W).length=_
    unfold j6
    rw [<-b9]
    by_cases h0:W.found≠0
    ·rw [if_pos h0,if_pos (by simpa using h0)]; simp
    ·rw [if_neg h0,if_neg (by simpa using h0)]
     rfl
   ·show (dM _ W m).ss.length=_
    unfold dM aS Ep.ss
    split<;>simp
   obtain ⟨av,au⟩:=dJ h.pw key
   obtain ⟨b0,bW⟩:∃ b0,b0=ai key n:=⟨_,rfl⟩
   have pz:m<L.ss.length:=hm.1
   have bz:=h.xl
   have hN:=hE.RW hf hm
   have ma:=hE.IL hm
   have hs:∀ (y k:Nat),bj L.ss y k->bj (Ep.ss (Mp.ep L n B cs key val i hb) W m) y k/\aj (Ep.ss (Mp.ep L n B cs key val i hb) W m) k=aj L.ss k/\k≠m:=fun y k hk=>RV hm _ hk
   have iM:bj (Ep.ss (Mp.ep L n B cs key val i hb) W m) (Ep.new (Mp.ep L n B cs key val i hb) m) m:=(xa pz _ _ _).2 (by rw [if_pos rfl]; exact ⟨rfl,rfl⟩)
   have bS:(aj (Ep.ss (Mp.ep L n B cs key val i hb) W m) m).nd=⟨key,val,sm key,gT W⟩:=by
    show (aj (L.ss.set m _) m).nd=_
    rw [at_set pz,if_pos rfl]
   have EO:=h.wr.put hm ⟨key,val,sm key,gT W⟩
   have vy:∀ {l':List Pr},uc l l' key val->∀ key',ai key' n≠b0->Pc.lk l' key'=Pc.lk l key':=fun hu key' aL=>by
    rw [hu.lk,if_neg (by rintro rfl; exact aL bW.symm)]
   have dE:=h.ch b0 (by rw [bW]; exact av)
   have Le:∀ x∈L.xs.set (B+b0) ((Ep.new (Mp.ep L n B cs key val i hb) m:Nat):Int),0<=x/\x<=18446744073709551615:=by
    intro x hx
    rcases List.mem_or_eq_of_mem_set hx with q | rfl
    ·exact h.xb x q
    ·exact ⟨by omega,by omega⟩
   have AX:Cl.nth (L.xs.set (B+b0) ((Ep.new (Mp.ep L n B cs key val i hb) m:Nat):Int)) (B+b0)=((Ep.new (Mp.ep L n B cs key val i hb) m:Nat):Int):=by
    rw [fG _ _ _ (by omega),if_pos rfl]
   have mZ:∀ b,b<n->b≠b0->Cx (Ep.ss (Mp.ep L n B cs key val i hb) W m) (Cl.nth L.xs (B+b)).toNat (cs b):=fun b cY _=>(h.ch b cY).nA fun y _ k hk=>⟨(hs y k hk).1,by rw [(hs y k hk).2.1]⟩
   have gB:=De (n:=n) (b0:=b0) (by omega) cs
   have tD:=h.kd b0 (by omega)
   have m6:=h.bk b0 (by omega)
   have pa:∀ key',ai key' n=b0->Pc.lk l key'=Pc.lk (bs (cs b0)) key':=fun key' e=>by rw [h.lk,e]
   rcases hf with ⟨h0,hk,gZ⟩ | ⟨pre,x,p,t,z,k,hq,hp,hx,hk,Lf,hW,hc,ju⟩
   ·
    have hk:key∉dQ (cs b0):=by rw [bW]; exact hk
    have EP:gT W=(((Cl.nth L.xs (B+b0)).toNat:Nat):Int):=by
     unfold gT
     rw [if_neg (by omega),gZ,bW]
    have e:({dM (Mp.ep L n B cs key val i hb) W m with ws:=j6 (Mp.ep L n B cs key val i hb) W}:Lm)={L with xs:=L.xs.set (B+b0) ((Ep.new (Mp.ep L n B cs key val i hb) m:Nat):Int),ss:=Ep.ss (Mp.ep L n B cs key val i hb) W m,ws:=L.ws}:=by
     unfold dM j6
     rw [if_neg (by omega),if_neg (by omega),bW]
    simp only [e]
    refine ⟨fH cs b0 ((Ep.new (Mp.ep L n B cs key val i hb) m,(key,val))::cs b0),fun l' hu=>?_⟩
    have yn:=zK (n:=n) (b0:=b0) (by omega) cs ((Ep.new (Mp.ep L n B cs key val i hb) m,(key,val))::cs b0)
    have kc:(gr n (fH cs b0 ((Ep.new (Mp.ep L n B cs key val i hb) m,(key,val))::cs b0))).Perm (Ep.new (Mp.ep L n B cs key val i hb) m::gr n cs):=yn.trans (List.Perm.cons _ gB.symm)
    have km:Pc.lk l key=none:=by
     rw [pa key bW.symm]
     exact nT.2 (by simpa using hk)
    refine h.nX (by omega) (by simp) (fun j hj=>?_) Le hN ?_ mZ ?_ ?_ ?_ hu.nd (vy hu) (fun key' e'=>?_) ?_
    ·rw [fG _ _ _ (by omega),if_neg hj]
    ·rw [AX,Int.toNat_natCast]
     refine .cons iM (z:=(Cl.nth L.xs (B+b0)).toNat) ?_ (dE.nA fun y _ k hk=>⟨(hs y k hk).1,by rw [(hs y k hk).2.1]⟩)
     rw [bS,EP]
     rfl
    ·intro e he
     rcases List.mem_cons.1 he with rfl | he
     ·rw [bW]; exact au
     ·exact m6 e he
    ·exact List.nodup_cons.2 ⟨hk,tD⟩
    ·refine EO.perm ?_
     refine (List.Perm.append_left L.ws kc).trans ?_
     rw [List.append_assoc]
     exact List.Perm.refl _
    ·rw [hu.lk]
     show _=Pc.lk ((key,val)::bs (cs b0)) key'
     simp only [Pc.lk]
     by_cases cf:key'=key
     ·rw [if_pos cf,if_pos cf.symm]
     ·rw [if_neg cf,if_neg (fun q=>cf q.symm)]
      exact pa key' e'
    ·rw [hu.len,km,kc.length_eq,List.length_cons,h.len]
     rfl
   ·
    have hq:cs b0=pre++(x,p)::t:=by rw [bW]; exact hq
    have hp:p.1=key:=hp
    have kO:W.found≠0:=by rw [hx]; exact hk.pos
    have EP:gT W=((z:Nat):Int):=by
     unfold gT
     rw [if_pos kO,hW]
     rfl
    have km:(Pc.lk l key).isSome=true:=by rw [<-b9]; simpa using kO
    have ER:dQ (pre++((Ep.new (Mp.ep L n B cs key val i hb) m,(key,val)):Mq.Hp)::t)=dQ (cs b0):=by rw [hq]; simp [hp]
    have yn:=zK (n:=n) (b0:=b0) (by omega) cs (pre++((Ep.new (Mp.ep L n B cs key val i hb) m,(key,val)):Mq.Hp)::t)
    have kc:(x::gr n (fH cs b0 (pre++((Ep.new (Mp.ep L n B cs key val i hb) m,(key,val)):Mq.Hp)::t))).Perm (Ep.new (Mp.ep L n B cs key val i hb) m::gr n cs):=by
     refine (List.Perm.cons x yn).trans ?_
     refine List.Perm.trans ?_ (List.Perm.cons _ gB.symm)
     rw [hq]
     simp only [aM,List.map_append,List.map_cons,List.append_assoc,List.cons_append]
     refine (List.Perm.cons x List.perm_middle).trans ?_
     refine (List.Perm.swap _ _ _).trans ?_
     exact List.Perm.cons _ List.perm_middle.symm
    have yo:∀ {ss':List Sl},Wr ss' (L.ws++[Ep.new (Mp.ep L n B cs key val i hb) m]) (gr n cs) (G+1)->Wr ss' (L.ws++[W.found]) (gr n (fH cs b0 (pre++((Ep.new (Mp.ep L n B cs key val i hb) m,(key,val)):Mq.Hp)::t))) (G+1):=fun hw=>by
     refine hw.perm ?_
     rw [hx,List.append_assoc,List.append_assoc]
     exact List.Perm.append_left _ kc
    have hlen:∀ {l':List Pr},uc l l' key val->l'.length=(gr n (fH cs b0 (pre++((Ep.new (Mp.ep L n B cs key val i hb) m,(key,val)):Mq.Hp)::t))).length:=fun hu=>by
     have:=kc.length_eq
     simp only [List.length_cons] at this
     rw [hu.len,if_pos km,h.len]
     omega
    have yp:∀ {l':List Pr},uc l l' key val->∀ key',ai key' n=b0->Pc.lk l' key'=Pc.lk (bs (pre++((Ep.new (Mp.ep L n B cs key val i hb) m,(key,val)):Mq.Hp)::t)) key':=fun hu key' e'=>by
     rw [hu.lk]
     by_cases cf:key'=key
     ·rw [if_pos cf,cf]
      refine (vZ (p:=(key,val)) ?_ ?_).symm
      ·rw [tU,ER]; exact tD
      ·simp
     ·rw [if_neg cf,pa key' e',hq]
      simp only [bs,List.map_append,List.map_cons]
      exact RU (by rw [hp]; exact fun q=>cf q.symm) (fun q=>cf q.symm)
    have yq:∀ e∈pre++((Ep.new (Mp.ep L n B cs key val i hb) m,(key,val)):Mq.Hp)::t,FM.bucket (sm e.2.1) n=(b0:Nat):=by
     intro e he
     rcases List.mem_append.1 he with he | he
     ·exact m6 e (by rw [hq]; exact List.mem_append_left _ he)
     ·rcases List.mem_cons.1 he with rfl | he
      ·rw [bW]; exact au
      ·exact m6 e (by rw [hq]; exact List.mem_append_right _ (List.mem_cons_of_mem _ he))
    have AY:Cx (Ep.ss (Mp.ep L n B cs key val i hb) W m) z t:=hc.nA fun y _ k hk=>⟨(hs y k hk).1,by rw [(hs y k hk).2.1]⟩
    have Lg:(aj (Ep.ss (Mp.ep L n B cs key val i hb) W m) m).nd=dR (key,val) z:=by rw [bS,EP]; rfl
    by_cases qA:pre=[]
    ·
     subst qA
     have yr:W.prev=0:=ju
     have e:({dM (Mp.ep L n B cs key val i hb) W m with ws:=j6 (Mp.ep L n B cs key val i hb) W}:Lm)={L with xs:=L.xs.set (B+b0) ((Ep.new (Mp.ep L n B cs key val i hb) m:Nat):Int),ss:=Ep.ss (Mp.ep L n B cs key val i hb) W m,ws:=L.ws++[W.found]}:=by
      unfold dM j6
      rw [if_neg (by omega),if_pos kO,bW]
     simp only [e]
     refine ⟨fH cs b0 ([]++((Ep.new (Mp.ep L n B cs key val i hb) m,(key,val)):Mq.Hp)::t),fun l' hu=>?_⟩
     refine h.nX (by omega) (by simp) (fun j hj=>?_) Le hN ?_ mZ yq (by rw [ER]; exact tD) (yo EO) hu.nd (vy hu) (yp hu) (hlen hu)
     ·rw [fG _ _ _ (by omega),if_neg hj]
     ·rw [AX,Int.toNat_natCast]
      exact .cons iM Lg AY
    ·
     have yr:W.prev≠0:=by
      rw [ju]
      exact II (ss:=L.ss) (by have:=dE; rw [hq] at this; exact this) qA
     obtain ⟨p0,e0,rfl⟩:∃ p0 e,pre=p0++[e]:=⟨pre.dropLast,pre.getLast qA,(List.dropLast_concat_getLast qA).symm⟩
     rw [wY] at ju
     rw [hq] at dE
     obtain ⟨j,zj,hj,Lh⟩:=dE.at e0 (by simp)
     have AZ:=hs _ _ hj
     have tA:=h.small.2
     have yt:(W.prev-1) % 65536=j:=by rw [ju]; exact (nO tA hj).1
     have mn:j<(Ep.ss (Mp.ep L n B cs key val i hb) W m).length:=AZ.1.1
     have e:({dM (Mp.ep L n B cs key val i hb) W m with ws:=j6 (Mp.ep L n B cs key val i hb) W}:Lm)={L with xs:=L.xs,ss:=aS (Ep.ss (Mp.ep L n B cs key val i hb) W m) W.prev (Ep.new (Mp.ep L n B cs key val i hb) m),ws:=L.ws++[W.found]}:=by
      unfold dM j6
      rw [if_pos ⟨kO,yr⟩,if_pos kO]
     simp only [e]
     have cr:∀ kk,aj (aS (Ep.ss (Mp.ep L n B cs key val i hb) W m) W.prev (Ep.new (Mp.ep L n B cs key val i hb) m)) kk=if kk=j then {aj (Ep.ss (Mp.ep L n B cs key val i hb) W m) j with nd:={(aj (Ep.ss (Mp.ep L n B cs key val i hb) W m) j).nd with next:=((Ep.new (Mp.ep L n B cs key val i hb) m:Nat):Int)}} else aj (Ep.ss (Mp.ep L n B cs key val i hb) W m) kk:=fun kk=>by
      unfold aS
      rw [yt,at_set mn]
     have tE:∀ kk,(aj (aS (Ep.ss (Mp.ep L n B cs key val i hb) W m) W.prev (Ep.new (Mp.ep L n B cs key val i hb) m)) kk).taken=(aj (Ep.ss (Mp.ep L n B cs key val i hb) W m) kk).taken/\(aj (aS (Ep.ss (Mp.ep L n B cs key val i hb) W m) W.prev (Ep.new (Mp.ep L n B cs key val i hb) m)) kk).gen=(aj (Ep.ss (Mp.ep L n B cs key val i hb) W m) kk).gen:=fun kk=>by
      rw [cr]
      split
      ·rename_i e; subst e; exact ⟨rfl,rfl⟩
      ·exact ⟨rfl,rfl⟩
     have bQ:(aS (Ep.ss (Mp.ep L n B cs key val i hb) W m) W.prev (Ep.new (Mp.ep L n B cs key val i hb) m)).length=(Ep.ss (Mp.ep L n B cs key val i hb) W m).length:=by unfold aS; simp
     have vz:∀ {y kk:Nat},bj (Ep.ss (Mp.ep L n B cs key val i hb) W m) y kk->bj (aS (Ep.ss (Mp.ep L n B cs key val i hb) W m) W.prev (Ep.new (Mp.ep L n B cs key val i hb) m)) y kk:=fun {y kk} q=>⟨by rw [bQ]; exact q.1,by rw [(tE kk).1]; exact q.2.1,by rw [(tE kk).2]; exact q.2.2⟩
     have ES:=h.ad
     have yu:=gB
     rw [hq] at yu
     have yw:=yu.nodup_iff.1 ES
     have aL:∀ y kk,bj L.ss y kk->y≠e0.1->kk≠j:=by
      rintro y kk q1 q2 rfl
      exact q2 (by rw [q1.2.2,hj.2.2])
     have kU:∀ y kk,bj L.ss y kk->y≠e0.1->bj (aS (Ep.ss (Mp.ep L n B cs key val i hb) W m) W.prev (Ep.new (Mp.ep L n B cs key val i hb) m)) y kk/\(aj (aS (Ep.ss (Mp.ep L n B cs key val i hb) W m) W.prev (Ep.new (Mp.ep L n B cs key val i hb) m)) kk).nd=(aj L.ss kk).nd:=fun y kk q1 q2=>by
      have h1:=hs y kk q1
      refine ⟨vz h1.1,?_⟩
      rw [cr,if_neg (aL y kk q1 q2),h1.2.1]
     have mb:ff (aS (Ep.ss (Mp.ep L n B cs key val i hb) W m) W.prev (Ep.new (Mp.ep L n B cs key val i hb) m)):=IM hN _ _ ma
     refine ⟨fH cs b0 (p0++[e0]++((Ep.new (Mp.ep L n B cs key val i hb) m,(key,val)):Mq.Hp)::t),fun l' hu=>?_⟩
     have fz:(aM (p0++[e0]++(x,p)::t)).Nodup:=(List.nodup_append.1 yw).1
     have gV:∀ y∈aM p0,y≠e0.1:=by
      intro y hy q
      have:(aM p0++(e0.1::aM ((x,p)::t))).Nodup:=by simpa using fz
      exact (List.nodup_append.1 this).2.2 y hy e0.1 (by simp) q
     have gC:∀ y∈aM t,y≠e0.1:=by
      intro y hy q
      have:(aM p0++(e0.1::aM ((x,p)::t))).Nodup:=by simpa using fz
      have:=(List.nodup_cons.1 (List.nodup_append.1 this).2.1).1
      exact this (by rw [<-q]; exact List.mem_cons_of_mem _ hy)
     refine h.nX (by omega) rfl (fun j hj=>rfl) h.xb mb ?_ ?_ yq (by rw [ER]; exact tD) (yo (EO.nodes bQ tE)) hu.nd (vy hu) (yp hu) (hlen hu)
     ·have gL:Cx (aS (Ep.ss (Mp.ep L n B cs key val i hb) W m) W.prev (Ep.new (Mp.ep L n B cs key val i hb) m)) (Cl.nth L.xs (B+b0)).toNat (p0++e0::(Ep.new (Mp.ep L n B cs key val i hb) m,(key,val))::t):=by
       refine Cx.swap (ss:=L.ss) (m:=m) (kp:=j) (z:=z) (e:=e0) (e':=(x,p)) (vz iM) ?_ ?_ p0 _ (by simpa using dE) hj (vz AZ.1) ?_ (fun y hy kk q=>kU y kk q (gV y hy))
       ·rw [cr,if_neg (by have:=AZ.2.2; omega)]
        exact Lg
       ·exact hc.nA fun y hy kk q=>kU y kk q (gC y hy)
       ·rw [cr,if_pos rfl]
        have WZ:(aj (Ep.ss (Mp.ep L n B cs key val i hb) W m) j).nd=dR e0.2 zj:=by rw [AZ.2.1]; exact Lh
        simp only [WZ]
        rfl
      simpa using gL
     ·intro b cY ml
      refine (h.ch b cY).nA fun y hy kk q=>kU y kk q ?_
      rintro rfl
      have ri:e0.1∈((List.range n).erase b0).flatMap fun b=>aM (cs b):=List.mem_flatMap.2 ⟨b,(List.mem_erase_of_ne ml).2 (by simpa using cY),hy⟩
      exact (List.nodup_append.1 yw).2.2 e0.1 (by simp) e0.1 ri rfl
end
end Go.Proofs.YtpanebgakndddaaGreat.Mq
namespace Go.Proofs.YtpanebgakndddaaGreat.Mq
open Go Go.RowKit Hp K Fl Rw Hm Ar Mm Me Wk Ta Pn Pc Pu Re
structure ux (l l':List Pr) (key:ByteArray):Prop where
 nd:(l'.map (·.1)).Nodup
 lk:∀ k,Pc.lk l' k=if k=key then none else Pc.lk l k
 len:l'.length+(if (Pc.lk l key).isSome then 1 else 0)=l.length
theorem GN {l l':List Pr} {key:ByteArray} (hn:(l.map (·.1)).Nodup) (hp:l'.Perm (l.filter fun p=>decide (p.1≠key))):ux l l' key:=by
 have hf:((l.filter fun p=>decide (p.1≠key)).map (·.1)).Nodup:=(List.filter_sublist.map _).nodup hn
 have gM:(l'.map (·.1)).Nodup:=(hp.map _).nodup_iff.2 hf
 refine ⟨gM,fun k=>?_,?_⟩
 ·rw [IJ gM hp,yU]
 ·rw [hp.length_eq]
  exact v5 hn key
def gQ (L:Lm) (c:Nat) (W:Wa):Lm:=
 if W.found=0 then L else if W.prev≠0 then {L with ss:=aS L.ss W.prev W.nd.next.toNat,ws:=L.ws++[W.found]} else {L with xs:=L.xs.set c W.nd.next,ws:=L.ws++[W.found]}
section
variable {L:Lm} {n B:Nat} {cs:Nat->List Mq.Hp} {l:List Pr} {G:Nat} {key val:ByteArray} {i:Int} {hb:Nat}
theorem BS (h:Mp L n B cs l G) {W:Wa} (hf:fF (Mp.ep L n B cs key val i hb) W):
 (gQ L (B+ai key n) W).ws.length=L.ws.length+(if (Pc.lk l key).isSome then 1 else 0)/\(gQ L (B+ai key n) W).ss.length=L.ss.length/\(gQ L (B+ai key n) W).k=L.k/\
   ∃ cs',∀ l',ux l l' key->Mp (gQ L (B+ai key n) W) n B cs' l' G:=by
 have b9:=tW h hf
 refine ⟨?_,?_,?_,?_⟩
 ·unfold gQ
  rw [<-b9]
  by_cases h0:W.found=0
  ·rw [if_pos h0,if_neg (by simp [h0])]; rfl
  ·rw [if_neg h0,if_pos (show decide (W.found≠0)=true by simp [h0])]
   split<;>simp
 ·unfold gQ aS
  split
  ·rfl
  ·split<;>simp
 ·unfold gQ
  split
  ·rfl
  ·split<;>rfl
 obtain ⟨av,au⟩:=dJ h.pw key
 obtain ⟨b0,bW⟩:∃ b0,b0=ai key n:=⟨_,rfl⟩
 have bz:=h.xl
 have vy:∀ {l':List Pr},ux l l' key->∀ key',ai key' n≠b0->Pc.lk l' key'=Pc.lk l key':=fun hu key' aL=>by
  rw [hu.lk,if_neg (by rintro rfl; exact aL bW.symm)]
 have dE:=h.ch b0 (by rw [bW]; exact av)
 have gB:=De (n:=n) (b0:=b0) (by omega) cs
 have tD:=h.kd b0 (by omega)
 have m6:=h.bk b0 (by omega)
 have pa:∀ key',ai key' n=b0->Pc.lk l key'=Pc.lk (bs (cs b0)) key':=fun key' e=>by rw [h.lk,e]
 rcases hf with ⟨h0,hk,gZ⟩ | ⟨pre,x,p,t,z,k,hq,hp,hx,hk,Lf,hW,hc,ju⟩
 ·
  have hk:key∉dQ (cs b0):=by rw [bW]; exact hk
  have km:Pc.lk l key=none:=by
   rw [pa key bW.symm]
   exact nT.2 (by rw [tU]; exact hk)
  have e:gQ L (B+ai key n) W=L:=by unfold gQ; rw [if_pos h0]
  rw [e]
  refine ⟨cs,fun l' hu=>{h with ln:=hu.nd,lk:=fun key'=>?_,len:=?_}⟩
  ·rw [hu.lk,<-h.lk]
   split
   ·rename_i e; rw [e,km]
   ·rfl
  ·have:=hu.len
   rw [km] at this
   simp only [Option.isSome_none,Bool.false_eq_true,if_false,Nat.add_zero] at this
   rw [this,h.len]
 ·have hq:cs b0=pre++(x,p)::t:=by rw [bW]; exact hq
  have hp:p.1=key:=hp
  have kO:W.found≠0:=by rw [hx]; exact hk.pos
  have vh:W.nd.next=((z:Nat):Int):=by rw [hW]; rfl
  have km:(Pc.lk l key).isSome=true:=by rw [<-b9]; simpa using kO
  have yn:=zK (n:=n) (b0:=b0) (by omega) cs (pre++t)
  have kc:(x::gr n (fH cs b0 (pre++t))).Perm (gr n cs):=by
   refine (List.Perm.cons x yn).trans ?_
   refine List.Perm.trans ?_ gB.symm
   rw [hq]
   simp only [aM,List.map_append,List.map_cons,List.append_assoc,List.cons_append]
   exact List.perm_middle.symm
  have yo:∀ {ss':List Sl},Wr ss' L.ws (gr n cs) G->Wr ss' (L.ws++[W.found]) (gr n (fH cs b0 (pre++t))) G:=fun hw=>by
   refine hw.perm ?_
   rw [hx,List.append_assoc]
   exact List.Perm.append_left _ kc
  have uS:(dQ (pre++t)).Nodup:=by
   have:(dQ (pre++t)).Sublist (dQ (cs b0)):=by
    rw [hq]
    exact (List.Sublist.append_left (List.sublist_cons_self _ _) _).map _
   exact this.nodup tD
  have W1:key∉dQ (pre++t):=by
   have h1:(dQ (pre++(x,p)::t)).Nodup:=by rw [<-hq]; exact tD
   have h2:(dQ (pre++(x,p)::t)).Perm (p.1::dQ (pre++t)):=by
    simp only [dQ,List.map_append,List.map_cons]
    exact List.perm_middle
   have:=(List.nodup_cons.1 (h2.nodup_iff.1 h1)).1
   rw [hp] at this
   exact this
  have hlen:∀ {l':List Pr},ux l l' key->l'.length=(gr n (fH cs b0 (pre++t))).length:=fun hu=>by
   have h1:=kc.length_eq
   have h2:=hu.len
   rw [if_pos km,h.len] at h2
   simp only [List.length_cons] at h1
   omega
  have yp:∀ {l':List Pr},ux l l' key->∀ key',ai key' n=b0->Pc.lk l' key'=Pc.lk (bs (pre++t)) key':=fun hu key' e'=>by
   rw [hu.lk]
   by_cases cf:key'=key
   ·rw [if_pos cf,cf]
    exact (nT.2 (by rw [tU]; exact W1)).symm
   ·rw [if_neg cf,pa key' e',hq]
    simp only [bs,List.map_append,List.map_cons]
    have W2:¬p.1=key':=by rw [hp]; exact fun q=>cf q.symm
    have:∀ a:List Pr,lk (a++p::t.map (·.2)) key'=lk (a++t.map (·.2)) key':=by
     intro a
     induction a with
     | nil=>simp [lk,W2]
     | cons e r ih=>rw [List.cons_append,List.cons_append]; simp only [lk]; rw [ih]
    exact this _
  have yq:∀ e∈pre++t,FM.bucket (sm e.2.1) n=(b0:Nat):=by
   intro e he
   rcases List.mem_append.1 he with he | he
   ·exact m6 e (by rw [hq]; exact List.mem_append_left _ he)
   ·exact m6 e (by rw [hq]; exact List.mem_append_right _ (List.mem_cons_of_mem _ he))
  have po:z<=18446744073709551615:=by
   have:=(h.db k).2
   have e:(aj L.ss k).nd=dR p z:=Lf
   rw [e] at this
   unfold dR at this
   simp only at this
   omega
  by_cases qA:pre=[]
  ·
   subst qA
   have yr:W.prev=0:=ju
   have e:gQ L (B+ai key n) W={L with xs:=L.xs.set (B+b0) ((z:Nat):Int),ss:=L.ss,ws:=L.ws++[W.found]}:=by
    unfold gQ
    rw [if_neg kO,if_neg (by omega),bW,vh]
   rw [e]
   refine ⟨fH cs b0 ([]++t),fun l' hu=>?_⟩
   have AX:Cl.nth (L.xs.set (B+b0) ((z:Nat):Int)) (B+b0)=((z:Nat):Int):=by
    rw [fG _ _ _ (by omega),if_pos rfl]
   refine h.nX (by omega) (by simp) (fun j hj=>?_) (fun x hx=>?_) h.db ?_ (fun b hb _=>h.ch b hb) yq uS (yo h.wr) hu.nd (vy hu) (yp hu) (hlen hu)
   ·rw [fG _ _ _ (by omega),if_neg hj]
   ·rcases List.mem_or_eq_of_mem_set hx with q | rfl
    ·exact h.xb x q
    ·omega
   ·rw [AX,Int.toNat_natCast]
    exact hc
  ·
   have yr:W.prev≠0:=by
    rw [ju]
    exact II (ss:=L.ss) (by have:=dE; rw [hq] at this; exact this) qA
   obtain ⟨p0,e0,rfl⟩:∃ p0 e,pre=p0++[e]:=⟨pre.dropLast,pre.getLast qA,(List.dropLast_concat_getLast qA).symm⟩
   rw [wY] at ju
   rw [hq] at dE
   obtain ⟨j,zj,hj,Lh⟩:=dE.at e0 (by simp)
   have tA:=h.small.2
   have yt:(W.prev-1) % 65536=j:=by rw [ju]; exact (nO tA hj).1
   have e:gQ L (B+ai key n) W={L with xs:=L.xs,ss:=aS L.ss W.prev z,ws:=L.ws++[W.found]}:=by
    unfold gQ
    rw [if_neg kO,if_pos yr,vh,Int.toNat_natCast]
   rw [e]
   have cr:∀ kk,aj (aS L.ss W.prev z) kk=if kk=j then {aj L.ss j with nd:={(aj L.ss j).nd with next:=((z:Nat):Int)}} else aj L.ss kk:=fun kk=>by
    unfold aS
    rw [yt,at_set hj.1]
   have tE:∀ kk,(aj (aS L.ss W.prev z) kk).taken=(aj L.ss kk).taken/\(aj (aS L.ss W.prev z) kk).gen=(aj L.ss kk).gen:=fun kk=>by
    rw [cr]
    split
    ·rename_i e; subst e; exact ⟨rfl,rfl⟩
    ·exact ⟨rfl,rfl⟩
   have bQ:(aS L.ss W.prev z).length=L.ss.length:=by unfold aS; simp
   have vz:∀ {y kk:Nat},bj L.ss y kk->bj (aS L.ss W.prev z) y kk:=fun {y kk} q=>⟨by rw [bQ]; exact q.1,by rw [(tE kk).1]; exact q.2.1,by rw [(tE kk).2]; exact q.2.2⟩
   have ES:=h.ad
   have yu:=gB
   rw [hq] at yu
   have yw:=yu.nodup_iff.1 ES
   have aL:∀ y kk,bj L.ss y kk->y≠e0.1->kk≠j:=by
    rintro y kk q1 q2 rfl
    exact q2 (by rw [q1.2.2,hj.2.2])
   have kU:∀ y kk,bj L.ss y kk->y≠e0.1->bj (aS L.ss W.prev z) y kk/\(aj (aS L.ss W.prev z) kk).nd=(aj L.ss kk).nd:=fun y kk q1 q2=>by
    refine ⟨vz q1,?_⟩
    rw [cr,if_neg (aL y kk q1 q2)]
   refine ⟨fH cs b0 (p0++[e0]++t),fun l' hu=>?_⟩
   have fz:(aM (p0++[e0]++(x,p)::t)).Nodup:=(List.nodup_append.1 yw).1
   have Li:(aM p0++(e0.1::aM ((x,p)::t))).Nodup:=by simpa using fz
   have gV:∀ y∈aM p0,y≠e0.1:=fun y hy q=>(List.nodup_append.1 Li).2.2 y hy e0.1 (by simp) q
   have gC:∀ y∈aM t,y≠e0.1:=fun y hy q=>(List.nodup_cons.1 (List.nodup_append.1 Li).2.1).1 (by rw [<-q]; exact List.mem_cons_of_mem _ hy)
   refine h.nX (by omega) rfl (fun j hj=>rfl) h.xb (IM h.db _ _ po) ?_ ?_ yq uS (yo (h.wr.nodes bQ tE)) hu.nd (vy hu) (yp hu) (hlen hu)
   ·have AK:∀ (q:List Mq.Hp) (y:Nat),Cx L.ss y (q++e0::(x,p)::t)->(∀ u∈aM q,u≠e0.1)->Cx (aS L.ss W.prev z) y (q++e0::t):=by
     intro q
     induction q with
     | nil=>
       intro y hy _
       cases hy with
       | @cons _ kk zz pp _ a b c=>
         have ET:kk=j:=by
          have h1:=a.2.2
          have h2:=hj.2.2
          exact a.uniq tA hj
         subst ET
         refine .cons (vz a) (z:=z) ?_ (hc.nA fun y hy kk q=>kU y kk q (gC y hy))
         rw [cr,if_pos rfl]
         simp only [b]
         rfl
     | cons e1 r ih=>
       intro y hy hu
       cases hy with
       | @cons _ kk zz pp _ a b c=>
         have:=kU _ kk a (hu _ (by simp))
         exact .cons this.1 (this.2.trans b) (ih _ c fun u W3=>hu u (List.mem_cons_of_mem _ W3))
    have:=AK p0 _ (by simpa using dE) gV
    simpa using this
   ·intro b cY ml
    refine (h.ch b cY).nA fun y hy kk q=>kU y kk q ?_
    rintro rfl
    have ri:e0.1∈((List.range n).erase b0).flatMap fun b=>aM (cs b):=List.mem_flatMap.2 ⟨b,(List.mem_erase_of_ne ml).2 (by simpa using cY),hy⟩
    exact (List.nodup_append.1 yw).2.2 e0.1 (by simp) e0.1 ri rfl
end
end Go.Proofs.YtpanebgakndddaaGreat.Mq
namespace Go.Proofs.YtpanebgakndddaaGreat.Dl
open Go Go.RowKit Hp K Fl Rw Hm Ar Mm Me Wk Ta Pn Pc Pu Mq
set_option maxRecDepth 100000
def kD (h:Nat) (k:Int) (key:ByteArray):Dt:=⟨jk h k (sm key) key,2,0⟩
set_option maxHeartbeats 1000000 in
theorem nj (k:Int) (key:ByteArray) (hk:key.size<=maxLen) (w:World):
 Calls Tryz.prog 81 #[.int .i64 k,.string key] w fun e w'=>∃ (a:Qa) (h:Nat),e=.returned (ptr a.f)/\cF w' a (kD h k key)/\(∀ x,kW a (kD h k key) x->w.heap.size<=x)/\Below w.heap.size w w':=by
 have hS:=Lib.hid (lO.yT key w hk)
 unfold kD sm
 generalize hs:FM.sum key.data.toList=s at*
 replace hs:=Lib.hid hs
 have hN:=Lib.hid (G6 k s key w)
 go_enter Tryz.func81,Tryz.ntmps81
 go_wp2_with fail
 refine hS.out.mono ?_
 rintro e w0 ⟨rfl,hw⟩
 obtain rfl:w=w0:=hw.symm
 clear hS hw
 go_wp2_with fail
 refine hN.out.mono ?_
 rintro e w1 ⟨a,h,rfl,iP,KC,aD⟩
 obtain ⟨w2,aT⟩:∃ w2,w2=w1.alloc (.cells #[ptr a.f,.nilFunc,.int .u64 0] 193):=⟨_,rfl⟩
 have aP:af w2 w1.heap.size 193 #[ptr a.f,.nilFunc,.int .u64 0]:=by rw [aT]; exact af.made w1 _ _
 have th:Below w1.heap.size w1 w2:=by rw [aT]; exact (Below.refl _ _).alloc (Nat.le_refl _) _
 obtain ⟨f,hf⟩:∃ f,f=w1.heap.size:=⟨_,rfl⟩
 rw [<-hf] at aP
 have gZ:w.heap.size<=f:=by rw [hf]; exact aD.size
 have ag:=aD.trans (th.mono aD.size)
 have dO:=iP.below th
 have k1:=aP.cell 1
 simp at k1
 have z1:=aP.frozen 1
 have az:=Lib.hid (ag.setCell (p:=⟨f,1,none⟩) gZ (aU 108 (ptr f)))
 have hO:=(ab.refl (·=f) w2).setCell (p:=⟨f,1,none⟩) (.inl rfl) (aU 108 (ptr f))
 have aL:∀ x,dq a (jk h k s key) x->¬x=f:=fun x hx e=>by have:=iP.lt hx; omega
 have hE:Hid (cF (w2.setCell ⟨f,1,none⟩ (aU 108 (ptr f))) ⟨f,a.f,a.w⟩ ⟨jk h k s key,2,0⟩):=Lib.hid
  ⟨aP.store 1 (aU 108 (ptr f)),dO.only hO aL⟩
 have fR:Hid (∀ x,kW ⟨f,a.f,a.w⟩ ⟨jk h k s key,2,0⟩ x->w.heap.size<=x):=Lib.hid (by
  rintro x (q | q)
  ·simp only at q; omega
  ·exact KC x q)
 clear hN iP KC aD th aP ag hO aL dO
 go_upto_region 2 with (fail)
 rw [<-aT,<-hf]
 clear aT hf
 go_wp2_with fail
 go_ret
 exact ⟨_,_,rfl,hE.out,fR.out,az.out⟩
theorem zh {w:World} {F f:Nat} {cv m:Value} {c:Bool} {P:World->Prop} (c4:w.cell? ⟨f,1,none⟩=some (aU F cv)) (eF:∀ args w,(callFunc F args).run Tryz.prog w=.ok (.enter F args) w)
 (hF:Calls Tryz.prog F #[cv,m] w fun e w'=>e=.returned (.bool c)/\P w'):Calls Tryz.prog 274 #[ptr f,m] w fun e w'=>e=.returned (.bool c)/\P w':=by
 replace hF:=Lib.hid hF
 go_enter Tryz.func274,Tryz.ntmps274
 go_wp2_with fail
 refine hF.out.mono ?_
 rintro e w' ⟨rfl,bq⟩
 replace bq:=Lib.hid bq
 clear c4
 go_wp2_with fail
 go_ret
 exact ⟨rfl,bq.out⟩
theorem Ol (args:Array Value) (w:World):(callFunc 108 args).run Tryz.prog w=.ok (.enter 108 args) w:=by kernel_rfl
theorem Om (args:Array Value) (w:World):(callFunc 145 args).run Tryz.prog w=.ok (.enter 145 args) w:=by kernel_rfl
theorem On (args:Array Value) (w:World):(callFunc 180 args).run Tryz.prog w=.ok (.enter 180 args) w:=by kernel_rfl
theorem Oo (args:Array Value) (w:World):(callFunc 144 args).run Tryz.prog w=.ok (.enter 144 args) w:=by kernel_rfl
section
variable {w w':World} {M:Mo} {a:Qa} {D:Dt}
theorem Oq (hM:ah w M) (h:cF w a D) (hl:D.ph=1->ik M.xs M.ds (M.hs,D.H)):Calls Tryz.prog 273 #[ptr a.f,ptr M.m] w fun e w'=>e=.returned (.bool (nR (lm M) D))/\Below w.heap.size w w':=by
 have c3:=h.hd.1
 have hR:=G7 hM h.2 hl
 unfold nR
 generalize eK (lm M) D.toSk=b at*
 replace hR:=Lib.hid hR
 clear hM h hl
 go_enter Tryz.func273,Tryz.ntmps273
 go_wp2_with fail
 refine hR.out.mono ?_
 rintro e w' ⟨rfl,hb⟩
 replace hb:=Lib.hid hb
 clear c3
 go_wp2_with fail
 go_ret
 exact ⟨rfl,hb.out⟩
theorem Ot (hM:ah w M) (h:cF w a D) (ok:vY (lm M) D) (hr:nR (lm M) D=true):
 Calls Tryz.prog 274 #[ptr a.f,ptr M.m] w fun e w'=>e=.returned (.bool (ja (lm M) D))/\oS w M a D (dK (lm M) D).1 (dK (lm M) D).2 w':=by
 have c4:=h.hd.2.1
 unfold kX at c4
 have fC:=ok.nx
 unfold ja
 by_cases e2:D.nx=2
 ·rw [if_pos e2] at c4
  rw [show decide (6<=D.nx)=false by simp; omega]
  obtain ⟨r,o⟩:=ok.sk e2
  exact zh c4 Ol (B0 hM h o hr e2)
 rw [if_neg e2] at c4
 by_cases e4:D.nx=4
 ·rw [if_pos e4] at c4
  rw [show decide (6<=D.nx)=false by simp; omega]
  exact zh c4 Om (Oh hM h (ok.lead e4).1 (ok.lead e4).2 e4)
 rw [if_neg e4] at c4
 by_cases e5:D.nx=5
 ·rw [if_pos e5] at c4
  rw [show decide (6<=D.nx)=false by simp; omega]
  exact zh c4 On (Oi hM h (ok.ret e5) e5)
 rw [if_neg e5] at c4
 have e6:D.nx=6:=by omega
 rw [if_pos e6] at c4
 rw [show decide (6<=D.nx)=true by simp; omega]
 exact zh c4 Oo (Oj hM h (ok.drop e6).1 (ok.drop e6).2 e6)
end
theorem sn:oR BY 164 273 274 vY nR dK ja where
 below h hb:=h.below hb
 mr b w f:=by kernel_rfl
 ms b w f:=by kernel_rfl
 er args w:=by kernel_rfl
 es args w:=by kernel_rfl
 ready {w M a p} hM h ok:=Oq hM h (fun q=>by
  by_cases e2:p.nx=2
  ·obtain ⟨r,o⟩:=ok.sk e2
   exact o.hd q
  ·exact absurd q (ok.ph e2))
 step hM h ok hr:=Ot hM h ok hr
section
variable {L:Lm} {D:Dt}
theorem Ou (h:D.nx=2):dK L D=((aH L D.toSk).1,{D with toSk:=(aH L D.toSk).2,nx:=if b7 L D.toSk=true then (if (aH L D.toSk).2.W.found≠0 then 4 else 6) else 2}):=by
 unfold dK; rw [if_pos h]
theorem Ov (h:D.nx=4):dK L D=(jV L D.toSk D.W.nd.next.toNat,{D with bU:=D.W.found,nx:=5}):=by
 unfold dK; rw [if_neg (by omega),if_pos h]
theorem Ow (h:D.nx=5):dK L D=({L with ws:=L.ws++[D.bU]},{D with bU:=0,nx:=6}):=by
 unfold dK; rw [if_neg (by omega),if_neg (by omega),if_pos h]
theorem G8 (h:D.nx=6):dK L D=({L with hs:=L.hs.set D.H.lock (-1)},{D with H:={D.H with holds:=false},nx:=7}):=by
 unfold dK; rw [if_neg (by omega),if_neg (by omega),if_neg (by omega)]
end
abbrev Ep.t (E:Ep) (nx:Nat) (H:Ho) (W:Wa) (bU:Nat):Dt:=⟨E.s H W,nx,bU⟩
def jb (E:Ep) (W:Wa):Lm:=if W.prev≠0 then {E.L with ss:=aS E.L.ss W.prev W.nd.next.toNat} else {E.L with xs:=E.L.xs.set E.c W.nd.next}
inductive Rd (E:Ep):Nat->Lm×Dt->Prop
 | s (k:Nat) (L:Lm) (S:Sk):Rs E k (L,S)->Rd E (3+k) (L,⟨S,2,0⟩)
 | none (W:Wa):fF E W->W.found=0->W.nd=.zero->Rd E 1 ({E.L with hs:=E.hs},Ep.t E 6 E.H W 0)
 | p (W:Wa):fF E W->W.found≠0->Rd E 3 ({E.L with hs:=E.hs},Ep.t E 4 E.H W 0)
 | r (W:Wa):fF E W->W.found≠0->Rd E 2 ({jb E W with hs:=E.hs},Ep.t E 5 E.H W W.found)
 | d (W:Wa):fF E W->W.found≠0->Rd E 1 ({jb E W with hs:=E.hs,ws:=E.L.ws++[W.found]},Ep.t E 6 E.H W 0)
def Qd (E:Ep) (s:Lm×Dt):Prop:=∃ W,fF E W/\(W.found=0->W.nd=.zero)/\s=(gQ E.L E.c W,Ep.t E 7 {E.H with holds:=false} W 0)
section
variable {E:Ep} {k:Nat} {s:Lm×Dt}
theorem B5 (E:Ep) (W:Wa):(jb E W).hs=E.L.hs/\(jb E W).ds=E.L.ds/\(jb E W).ws=E.L.ws/\(jb E W).xs.length=E.L.xs.length:=by
 unfold jb
 split
 ·exact ⟨rfl,rfl,rfl,rfl⟩
 ·exact ⟨rfl,rfl,rfl,by simp⟩
theorem fF.next (hE:E.Ok) {W:Wa} (h:fF E W) (h0:W.found≠0):0<=W.nd.next/\W.nd.next<=18446744073709551615:=by
 rcases h with ⟨h1,_⟩ | ⟨pre,x,p,t,z,kk,hq,hp,hx,hk,bS,hW,hc,ju⟩
 ·exact absurd h1 h0
 ·rw [hW,<-bS]
  exact hE.db kk
theorem Ep.Ok.Ox (hE:E.Ok) {W:Wa} (hf:fF E W) (h0:W.found≠0):0<=Cl.nth (jb E W).xs 1/\Cl.nth (jb E W).xs 1<=18446744073709551615:=by
 unfold jb
 split
 ·exact Cl.eU hE.xb 1
 ·refine Cl.eU (fun x hx=>?_) 1
  rcases List.mem_or_eq_of_mem_set hx with q | rfl
  ·exact hE.xb x q
  ·exact fF.next hE hf h0
theorem Rd.ok (hE:E.Ok) (h:Rd E k s):vY s.1 s.2:=by
 cases h with
 | s k L S h=>exact ⟨.inl rfl,fun q=>by simp at q,fun _=>h.ok hE,fun q=>by simp at q,fun q=>by simp at q,fun q=>by simp at q⟩
 | none W hf h0 hz=>exact ⟨by simp,fun _=>by simp,fun q=>by simp at q,fun q=>by simp at q,fun q=>by simp at q,fun _=>⟨hE.zi hE.x1 rfl (Cl.eU hE.xb 1),rfl⟩⟩
 | p W hf h0=>
   have hn:=fF.next hE hf h0
   exact ⟨by simp,fun _=>by simp,fun q=>by simp at q,fun _=>⟨hn.1,hf.G9 hE (by simp only; omega) hE.cx (fun x j hj=>hj)⟩,fun q=>by simp at q,fun q=>by simp at q⟩
 | r W hf h0=>
   have hp:=B5 E W
   exact ⟨by simp,fun _=>by simp,fun q=>by simp at q,fun q=>by simp at q,fun _=>by show (jb E W).ws.length<=_; rw [hp.2.2.1]; exact hE.ws,fun q=>by simp at q⟩
 | d W hf h0=>
   have hp:=B5 E W
   exact ⟨by simp,fun _=>by simp,fun q=>by simp at q,fun q=>by simp at q,fun q=>by simp at q,fun _=>⟨hE.zi (by show 1<(jb E W).xs.length; rw [hp.2.2.2]; exact hE.x1) hp.2.1 (Ep.Ok.Ox hE hf h0),rfl⟩⟩
def tV (E:Ep) (k:Nat) (s:Lm×Dt):Prop:=∃ j,j<=k/\Rd E j s
theorem Rd.q {E:Ep} {j:Nat} {s:Lm×Dt} (h:Rd E j s) {k:Nat} (hk:j<=k):tV E k s:=⟨j,hk,h⟩
theorem Rd.step (hE:E.Ok) (h:Rd E k s):nR s.1 s.2=true/\1<=k/\(ja s.1 s.2=true->Qd E (dK s.1 s.2))/\(ja s.1 s.2=false->tV E (k-1) (dK s.1 s.2)):=by
 cases h with
 | s k L S h=>
   obtain ⟨h1,h2,h3,h4⟩:=h.step hE
   refine ⟨h1,by omega,fun q=>by simp [ja] at q,fun _=>?_⟩
   rw [Ou rfl]
   simp only at h3 h4 ⊢
   cases hd:b7 L S with
   | true=>
     obtain ⟨W,hf,hz,e⟩:=h3 hd
     rw [e]
     simp only [if_true]
     by_cases h0:W.found≠0
     ·rw [if_pos h0]
      exact (Rd.p W hf h0).q (by omega)
     ·rw [if_neg h0]
      exact (Rd.none W hf (by omega) (hz (by omega))).q (by omega)
   | false=>
     obtain ⟨j,hj,hr⟩:=h4 hd
     simp only [Bool.false_eq_true,if_false]
     have:=Rd.s (E:=E) j (aH L S).1 (aH L S).2 hr
     exact this.q (by omega)
 | none W hf h0 hz=>
   refine ⟨rfl,by omega,fun _=>⟨W,hf,fun _=>hz,?_⟩,fun q=>by simp [ja] at q⟩
   rw [G8 rfl]
   unfold gQ
   rw [if_pos h0]
   show (({E.L with hs:=E.hs.set E.lock (-1)}:Lm),_)=_
   rw [hE.back]
 | p W hf h0=>
   refine ⟨rfl,by omega,fun q=>by simp [ja] at q,fun _=>?_⟩
   have hn:=fF.next hE hf h0
   have e:dK {E.L with hs:=E.hs} (Ep.t E 4 E.H W 0)=({jb E W with hs:=E.hs},Ep.t E 5 E.H W W.found):=by
    rw [Ov rfl]
    refine Prod.ext ?_ rfl
    unfold jb jV
    by_cases hl:W.prev≠0
    ·show (if W.found≠0/\W.prev≠0 then _ else _)=_
     rw [if_pos ⟨h0,hl⟩,if_pos hl]
    ·show (if W.found≠0/\W.prev≠0 then _ else _)=_
     rw [if_neg (fun q=>hl q.2),if_neg hl]
     show ({E.L with hs:=E.hs,xs:=E.L.xs.set ((E.c:Nat):Int).toNat ((W.nd.next.toNat:Nat):Int)}:Lm)=_
     rw [Int.toNat_natCast,show ((W.nd.next.toNat:Nat):Int)=W.nd.next by omega]
   rw [e]
   exact (Rd.r W hf h0).q (by omega)
 | r W hf h0=>
   refine ⟨rfl,by omega,fun q=>by simp [ja] at q,fun _=>?_⟩
   have e:dK {jb E W with hs:=E.hs} (Ep.t E 5 E.H W W.found)=({jb E W with hs:=E.hs,ws:=E.L.ws++[W.found]},Ep.t E 6 E.H W 0):=by
    rw [Ow rfl]
    refine Prod.ext ?_ rfl
    show ({jb E W with hs:=E.hs,ws:=(jb E W).ws++[W.found]}:Lm)=_
    rw [(B5 E W).2.2.1]
   rw [e]
   exact (Rd.d W hf h0).q (by omega)
 | d W hf h0=>
   refine ⟨rfl,by omega,fun _=>⟨W,hf,fun q=>absurd q h0,?_⟩,fun q=>by simp [ja] at q⟩
   rw [G8 rfl]
   refine Prod.ext ?_ rfl
   show ({jb E W with ws:=E.L.ws++[W.found],hs:=E.hs.set E.lock (-1)}:Lm)=gQ E.L E.c W
   rw [hE.back]
   unfold gQ jb
   rw [if_neg h0]
   by_cases hl:W.prev≠0
   ·rw [if_pos hl,if_pos hl]
   ·rw [if_neg hl,if_neg hl]
end
theorem Oy {w:World} {M:Mo} {a:Qa} {key val:ByteArray} {i:Int} {h c:Nat} {d:Nat×Nat} {q:List Mq.Hp} (hM:ah w M) (hP:cF w a (kD h i key)) (hE:Ep.Ok ⟨lm M,key,val,i,h,d,c,q⟩) (K:Nat) (hK:7+q.length<=K/\K<=1000000):
 Calls Tryz.prog 58 #[ptr M.m,.iface 164 (ptr a.f),.int .i64 K] w fun e w'=>∃ (n:Nat) (s:Lm×Dt),e=.returned (.tuple #[.int .i64 n,.bool true])/\(n<=7+q.length/\fin (fun s:Lm×Dt=>nR s.1 s.2) (fun s=>dK s.1 s.2) (fun s=>ja s.1 s.2) K (lm M,kD h i key)=(n,true,s))/\Qd ⟨lm M,key,val,i,h,d,c,q⟩ s/\BY.Inv M a (kD h i key) w s w':=by
 refine ni sn hM hP (tV ⟨lm M,key,val,i,h,d,c,q⟩) (Qd ⟨lm M,key,val,i,h,d,c,q⟩) ?_ (7+q.length) K ?_ hK.1 hK.2
 ·rintro k s ⟨j,hj,hr⟩
  obtain ⟨h1,h2,h3,h4⟩:=hr.step hE
  refine ⟨hr.ok hE,h1,by omega,h3,fun hd=>?_⟩
  obtain ⟨j',te,oh⟩:=h4 hd
  exact ⟨j',by omega,oh⟩
 ·exact (Rd.s (E:=⟨lm M,key,val,i,h,d,c,q⟩) (4+q.length) _ _ .a1).q (by omega)
end Go.Proofs.YtpanebgakndddaaGreat.Dl
namespace Go.Proofs.YtpanebgakndddaaGreat.Sw
open Go Go.RowKit Hp K Fl Rw Hm Ar Mm Me Qs Wk Pn
set_option maxRecDepth 100000
structure Sh where
 worker:Int
 nx:Nat
 err:Int
 el:Nat×Nat
 nw:Nat×Nat
 num:Int
 bucket:Nat
 fi:Nat
 sec:Nat
 at_:Nat
 la:Nat
 met:List Nat
 W:Wt
structure Sc where
 f:Nat
 mv:Value
 B:Nat
 w:Nat
def ob (a:Sc) (nx:Nat):Value:=if nx=9 then aU 56 (ptr a.w) else dY 157
def mK (a:Sc) (nx:Nat):Value:=if nx=1 then aU 119 (ptr a.f) else if nx=2 then aU 158 (ptr a.f) else if nx=3 then aU 191 (ptr a.f)
 else if nx=4 then aU 210 (ptr a.f) else if nx=5 then aU 237 (ptr a.f) else if nx=6 then aU 242 (ptr a.f)
 else if nx=7 then aU 235 (ptr a.f) else if nx=8 then aU 241 (ptr a.f) else if nx=9 then aU 74 (ptr a.w) else dY 190
def dV (a:Sc) (G:Sh):Array Value:=#[.int .i64 G.worker,ob a G.nx,mK a G.nx,.int .i64 G.err,.int .i64 G.el.1,.int .i64 G.el.2,.int .i64 G.nw.1,.int .i64 G.nw.2,.int .i64 G.num,.int .i64 G.bucket,.int .u64 G.fi,.int .u64 G.sec,.int .u64 G.at_,.int .u64 G.la,a.mv]
abbrev Own (w:World) (a:Sc) (G:Sh):Prop:=af w a.f 205 (dV a G)
structure cO (w:World) (a:Sc) (G:Sh):Prop where
 ao:Own w a G
 c5:G.nx=5->a.mv=.map (some a.B)/\Me.Met w a.B G.met
 wt:G.nx=9->dr w a.w G.W
def dq (a:Sc) (G:Sh) (x:Nat):Prop:=x=a.f\/(G.nx=5/\x=a.B)\/(G.nx=9/\x=a.w)
abbrev gu:iG Sc Sh:=⟨Sc.f,cO,dq⟩
section
variable {w w':World} {M:Mo} {a:Sc} {G:Sh}
theorem cO.ty (h:cO w a G) {x:Nat} (hx:dq a G x):Ty w x [205,157]\/∃ ms,Me.Met w x ms:=by
 rcases hx with rfl | ⟨hn,rfl⟩ | ⟨hn,rfl⟩
 ·exact .inl ((bm h.ao).mono (by simp))
 ·exact .inr ⟨_,(h.c5 hn).2⟩
 ·exact .inl ((bm (h.wt hn)).mono (by simp))
theorem cO.lt (h:cO w a G) {x:Nat} (hx:dq a G x):x<w.heap.size:=by
 rcases h.ty hx with q | ⟨ms,q⟩
 ·exact q.lt
 ·exact q.lt
theorem cO.aB (h:cO w a G) (hM:ah w M) {x:Nat} (hx:dq a G x):¬aq M x:=fun hm=>by
 rcases h.ty hx with q | ⟨ms,q⟩
 ·exact (hM.ty hm).apart q (by decide)
 ·exact q.no (hM.ty hm)
theorem cO.only {S:Nat->Prop} (h:cO w a G) (ho:ab S w w') (hn:∀ x,dq a G x->¬S x):cO w' a G where
 ao:=h.ao.only ho (hn _ (.inl rfl))
 c5 q:=⟨(h.c5 q).1,(h.c5 q).2.only ho (hn _ (.inr (.inl ⟨q,rfl⟩)))⟩
 wt q:=(h.wt q).only ho (hn _ (.inr (.inr ⟨q,rfl⟩)))
theorem cO.below (h:cO w a G) (hb:Below w.heap.size w w'):cO w' a G:=h.only (ab.aA hb (fun _=>False)) (by simp)
theorem cO.drewN (h:cO w a G) (n:Nat):cO (w.drewN n) a G:=h.only ((ab.refl (fun _=>False) w).drewN n) (by simp)
theorem sA (h:Own w a G):w.cell? ⟨a.f,0,none⟩=some (.int .i64 G.worker)/\w.cell? ⟨a.f,1,none⟩=some (ob a G.nx)/\w.cell? ⟨a.f,2,none⟩=some (mK a G.nx)/\w.cell? ⟨a.f,3,none⟩=some (.int .i64 G.err)/\
 w.cell? ⟨a.f,4,none⟩=some (.int .i64 G.el.1)/\w.cell? ⟨a.f,5,none⟩=some (.int .i64 G.el.2)/\w.cell? ⟨a.f,6,none⟩=some (.int .i64 G.nw.1)/\w.cell? ⟨a.f,7,none⟩=some (.int .i64 G.nw.2)/\
 w.cell? ⟨a.f,8,none⟩=some (.int .i64 G.num)/\w.cell? ⟨a.f,9,none⟩=some (.int .i64 G.bucket)/\w.cell? ⟨a.f,10,none⟩=some (.int .u64 G.fi)/\w.cell? ⟨a.f,11,none⟩=some (.int .u64 G.sec)/\
 w.cell? ⟨a.f,12,none⟩=some (.int .u64 G.at_)/\w.cell? ⟨a.f,13,none⟩=some (.int .u64 G.la)/\w.cell? ⟨a.f,14,none⟩=some a.mv:=
 ⟨h.cell 0,h.cell 1,h.cell 2,h.cell 3,h.cell 4,h.cell 5,h.cell 6,h.cell 7,h.cell 8,h.cell 9,h.cell 10,h.cell 11,h.cell 12,h.cell 13,h.cell 14⟩
theorem DG (h:Own w a G) {B:Nat} {ms:List Nat} (hm:Me.Met w B ms):B≠a.f:=fun e=>hm.no (by rw [e]; exact bm h)
end
/-! ### its steps as plain data-/
def fQ (G:Sh):Sh:={G with bucket:=G.bucket+1,nx:=if G.bucket+1=G.nw.1 then 8 else 3}
def bI (G:Sh):Sh:=if G.fi=0 then (if G.sec=0 then fQ G else {G with fi:=G.sec,nx:=7}) else {G with nx:=7}
def ly (G:Sh):Sh:=if G.la=0 then bI {G with fi:=0} else if G.sec∈G.met then bI G else {G with nx:=6}
def dm (G:Sh) (x:Nat):Sh:=if x=0\/x∈G.met then ly G else {G with at_:=x,nx:=5}
def begun (G:Sh):Sh:=if G.fi=0\/G.sec=0 then bI G else dm {G with la:=0,met:=[]} G.fi
def aH (L:Lm) (G:Sh):Lm×Sh:=
 if G.nx=1 then (L,{G with el:=now L.xs L.ds,nx:=2})
 else if G.nx=2 then
  (if FM.bl ((G.el.1 / 2:Nat):Int)=true/\L.xs.length+G.el.1 / 2<=1048576 then
    ({L with xs:=L.xs++List.replicate (G.el.1 / 2) 0,ds:=L.ds++[(G.el.1 / 2,L.xs.length)]},{G with num:=L.ds.length,err:=0,nw:=(G.el.1 / 2,L.xs.length),nx:=3})
  else (L,{G with num:= -1,err:=if FM.bl ((G.el.1 / 2:Nat):Int)=true then 2 else 5,nx:=10}))
 else if G.nx=3 then (L,{G with fi:=(Cl.nth L.xs (G.el.2+G.bucket)).toNat,nx:=4})
 else if G.nx=4 then (L,begun {G with sec:=(Cl.nth L.xs (G.el.2+(G.bucket+G.nw.1))).toNat})
 else if G.nx=5 then (L,dm {G with la:=G.at_,met:=G.at_::G.met} (aj L.ss ((G.at_-1) % 65536)).nd.next.toNat)
 else if G.nx=6 then ({L with ss:=Pu.aS L.ss G.la G.sec},bI G)
 else if G.nx=7 then ({L with xs:=L.xs.set (G.nw.2+G.bucket) ((G.fi:Nat):Int)},fQ G)
 else if G.nx=8 then ({L with xs:=L.xs.set 1 G.num},{G with W:=⟨G.worker,0,0,0⟩,nx:=9})
 else ({L with xs:=(aW L.k.toNat L.xs L.hs G.W).1,hs:=(aW L.k.toNat L.xs L.hs G.W).2.1},{G with W:=(aW L.k.toNat L.xs L.hs G.W).2.2})
def eK (L:Lm) (G:Sh):Bool:=if G.nx=9 then iI L.xs L.hs G.W else true
def b7 (L:Lm) (G:Sh):Bool:=
 if G.nx=2 then !decide (FM.bl ((G.el.1 / 2:Nat):Int)=true/\L.xs.length+G.el.1 / 2<=1048576) else if G.nx=9 then decide (G.W.at_=3) else decide (10<=G.nx)
structure pK (L:Lm) (G:Sh):Prop where
 nx:1<=G.nx/\G.nx<=9
 x1:1<L.xs.length
 hl:0<L.hs.length
 ds:L.ds.length<=900000
 el:G.nx≠1->G.el.1<=65536/\G.el.2<=4000000
 nw:G.nw.1<=65536/\G.nw.2<=4000000
 bk:G.bucket<=1000000
 hb:G.fi<=18446744073709551615/\G.sec<=18446744073709551615
 c3:G.nx=3->G.el.2+G.bucket<L.xs.length
 c4:G.nx=4->G.el.2+(G.bucket+G.nw.1)<L.xs.length
 c5:G.nx=5->bj L.ss G.at_ ((G.at_-1) % 65536)/\G.at_<=18446744073709551615/\(0<=(aj L.ss ((G.at_-1) % 65536)).nd.next/\(aj L.ss ((G.at_-1) % 65536)).nd.next<=18446744073709551615)/\G.met.length<=100000
 c6:G.nx=6->G.la<=18446744073709551615/\∃ k,bj L.ss G.la k
 c7:G.nx=7->G.nw.2+G.bucket<L.xs.length
 c8:G.nx=8->0<=G.num/\G.num<=1000000
 c9:G.nx=9->0<=L.k/\Qs.eV L.k.toNat L.xs L.hs G.W
end Go.Proofs.YtpanebgakndddaaGreat.Sw
namespace Go.Proofs.YtpanebgakndddaaGreat.Sw
open Go Go.RowKit Hp K Fl Rw Hm Ar Mm Me Qs Wk Pn
set_option maxRecDepth 100000
theorem sC (m:Value) (w:World):Calls Tryz.prog 157 #[m] w fun e w'=>e=.returned (.bool true)/\w'=w:=by
 go_enter Tryz.func157,Tryz.ntmps157
 go_wp2
 go_ret
 exact ⟨rfl,rfl⟩
section
variable {w w':World} {M:Mo} {a:Sc} {G:Sh}
theorem kG {c:Nat} (w:World) (i j:Nat) (u v:Value):ab (·=c) w ((w.setCell ⟨c,i,none⟩ u).setCell ⟨c,j,none⟩ v):=
 ((ab.refl (·=c) w).setCell (p:=⟨c,i,none⟩) (.inl rfl) _).setCell (p:=⟨c,j,none⟩) (.inl rfl) _
theorem sN {c:Nat} (w:World) (i:Nat) (u:Value):ab (·=c) w (w.setCell ⟨c,i,none⟩ u):=(ab.refl (·=c) w).setCell (p:=⟨c,i,none⟩) (.inl rfl) _
theorem Cy (h:Own w a G) {n:Nat} (hn:n≠9):Own ((w.setCell ⟨a.f,1,none⟩ (dY 157)).setCell ⟨a.f,2,none⟩ (mK a n)) a {G with nx:=n}:=by
 have e:dV a {G with nx:=n}=((dV a G).setIfInBounds 1 (dY 157)).setIfInBounds 2 (mK a n):=by
  unfold dV ob
  rw [if_neg hn]
  rfl
 unfold Own
 rw [e]
 exact (af.store h 1 _).store 2 _
theorem et (h:Own w a G) {n F:Nat} {b:Array Value} (hn:n≠9) (e:mK a n=.func (.func F) b #[]):
 Calls Tryz.prog 118 #[ptr a.f,.func (.func F) b #[]] w fun e w'=>e=.returned (.tuple #[])/\Own w' a {G with nx:=n}/\ab (·=a.f) w w':=by
 have c1:=h.cell 1
 have c2:=h.cell 2
 have z1:=h.frozen 1
 have z2:=h.frozen 2
 simp only [dV,List.getElem?_toArray,List.getElem?_cons_succ,List.getElem?_cons_zero] at c1 c2
 have hE:=Lib.hid (Cy h hn)
 rw [e] at hE
 have hO:=Lib.hid (kG (c:=a.f) w 1 2 (dY 157) (.func (.func F) b #[]))
 generalize ob a G.nx=u1 at*
 generalize mK a G.nx=u2 at*
 clear h e
 go_enter Tryz.func118,Tryz.ntmps118
 go_wp2
 go_end0
 exact ⟨rfl,hE.out,hO.out⟩
set_option maxHeartbeats 2000000 in
theorem JK (h:Own w a G) (hb:G.bucket<=1000000) (hn:G.nw.1<=1000000):
 Calls Tryz.prog 234 #[ptr a.f] w fun e w'=>e=.returned (.tuple #[])/\Own w' a (fQ G)/\ab (·=a.f) w w':=by
 have c9:=h.cell 9
 have z9:=h.frozen 9
 simp only [dV,List.getElem?_toArray,List.getElem?_cons_succ,List.getElem?_cons_zero] at c9
 have xU:Own (w.setCell ⟨a.f,9,none⟩ (.int .i64 ((G.bucket:Int)+1))) a {G with bucket:=G.bucket+1}:=af.store h 9 (.int .i64 (G.bucket+1))
 have an:=Lib.hid (sN (c:=a.f) w 9 (.int .i64 (G.bucket+1)))
 have hG:=Lib.hid (et xU (n:=3) (by omega) rfl)
 clear h xU
 go_enter Tryz.func234,Tryz.ntmps234
 go_wp2_with fail
 refine hG.out.mono ?_
 rintro e w2 ⟨rfl,ae,di⟩
 have p9:=ae.cell 9
 have p6:=ae.cell 6
 simp only [dV,List.getElem?_toArray,List.getElem?_cons_succ,List.getElem?_cons_zero] at p6 p9
 have xV:=Lib.hid (an.out.trans di)
 have nK:=Lib.hid (fun n=>et (G:={G with bucket:=G.bucket+1,nx:=3}) (af.only ae ((ab.refl (fun _=>False) w2).drewN n) (by simp):Own (w2.drewN n) a {G with bucket:=G.bucket+1,nx:=3}) (n:=8) (by omega) rfl)
 replace ae:=Lib.hid ae
 clear di an c9 z9 hG
 by_cases hq:G.bucket+1=G.nw.1
 ·have q1:(((G.bucket+1:Nat):Int)==(G.nw.1:Int))=true:=by simp; omega
  have e6:Hid (fQ G={G with bucket:=G.bucket+1,nx:=8}):=Lib.hid (by
   unfold fQ
   rw [if_pos hq])
  clear hq
  go_wp2_with fail
  go_quiet (fail)
  clear p6 p9
  go_wp2_with fail
  refine (nK.out _).mono ?_
  rintro e w3 ⟨rfl,bN,xW⟩
  have kl:=Lib.hid ((xV.out.drewN nq).trans xW)
  replace bN:=Lib.hid bN
  clear xW nK
  go_wp2_with fail
  go_end0
  exact ⟨rfl,by rw [e6.out]; exact bN.out,kl.out⟩
 ·have q1:(((G.bucket+1:Nat):Int)==(G.nw.1:Int))=false:=by simp; omega
  have e6:Hid (fQ G={G with bucket:=G.bucket+1,nx:=3}):=Lib.hid (by
   unfold fQ
   rw [if_neg hq])
  clear hq
  go_wp2_with fail
  go_quiet (fail)
  have bN:=Lib.hid (af.only ae.out ((ab.refl (fun _=>False) w2).drewN nq) (by simp))
  have kl:=Lib.hid (xV.out.drewN nq)
  clear p6 p9 nK
  go_wp2_with fail
  go_end0
  exact ⟨rfl,by rw [e6.out]; exact bN.out,kl.out⟩
set_option maxHeartbeats 2000000 in
theorem oW (h:Own w a G) (hb:G.bucket<=1000000) (hn:G.nw.1<=1000000):
 Calls Tryz.prog 224 #[ptr a.f] w fun e w'=>e=.returned (.tuple #[])/\Own w' a (bI G)/\ab (·=a.f) w w':=by
 have c10:=h.cell 10
 have c11:=h.cell 11
 have z10:=h.frozen 10
 simp only [dV,List.getElem?_toArray,List.getElem?_cons_succ,List.getElem?_cons_zero] at c10 c11
 by_cases h0:G.fi=0
 ·have hX:Own (w.setCell ⟨a.f,10,none⟩ (.int .u64 G.sec)) a {G with fi:=G.sec}:=af.store h 10 (.int .u64 G.sec)
  have hO:=Lib.hid (sN (c:=a.f) w 10 (.int .u64 G.sec))
  rw [h0] at c10
  by_cases h1:G.sec=0
  ·have e:Hid (bI G=fQ {G with fi:=G.sec}):=Lib.hid (by
    unfold bI
    rw [if_pos h0,if_pos h1]
    unfold fQ
    rw [h0,h1])
   rw [h1] at c11
   have hN:=JK hX hb hn
   rw [h1] at hN hO e
   replace hN:=Lib.hid hN
   clear h hX h0
   go_enter Tryz.func224,Tryz.ntmps224
   go_wp2_with fail
   refine hN.out.mono ?_
   rintro e w2 ⟨rfl,ae,di⟩
   have kl:=Lib.hid (hO.out.trans di)
   replace ae:=Lib.hid ae
   clear di hN hO c10 c11 z10
   go_wp2_with fail
   exact bodyPost_ret (v:=.tuple #[]) (by simp [results,Tryz.results224]) rfl ⟨rfl,by rw [e.out]; exact ae.out,kl.out⟩
  ·have e:Hid (bI G={G with fi:=G.sec,nx:=7}):=Lib.hid (by
    unfold bI
    rw [if_pos h0,if_neg h1])
   have q1:((G.sec:Int)==0)=false:=by simp; omega
   have hN:=Lib.hid (et hX (n:=7) (by omega) rfl)
   clear h hX h0 h1
   go_enter Tryz.func224,Tryz.ntmps224
   go_wp2_with fail
   refine hN.out.mono ?_
   rintro e w2 ⟨rfl,ae,di⟩
   have kl:=Lib.hid (hO.out.trans di)
   replace ae:=Lib.hid ae
   clear di hN hO c10 c11 z10
   go_wp2_with fail
   go_end0
   exact ⟨rfl,by rw [e.out]; exact ae.out,kl.out⟩
 ·have e:Hid (bI G={G with nx:=7}):=Lib.hid (by
   unfold bI
   rw [if_neg h0])
  have q1:((G.fi:Int)==0)=false:=by simp; omega
  have hN:=Lib.hid (et h (n:=7) (by omega) rfl)
  clear h h0
  go_enter Tryz.func224,Tryz.ntmps224
  go_wp2_with fail
  refine hN.out.mono ?_
  rintro e w2 ⟨rfl,ae,di⟩
  replace di:=Lib.hid di
  replace ae:=Lib.hid ae
  clear hN c10 c11 z10
  go_wp2_with fail
  go_end0
  exact ⟨rfl,by rw [e.out]; exact ae.out,di.out⟩
set_option maxHeartbeats 2000000 in
theorem Us (h:Own w a G) (hm:a.mv=.map (some a.B)) (hM:Me.Met w a.B G.met) (hs:G.sec<=18446744073709551615) (hb:G.bucket<=1000000) (hn:G.nw.1<=1000000):
 Calls Tryz.prog 236 #[ptr a.f] w fun e w'=>e=.returned (.tuple #[])/\Own w' a (ly G)/\ab (·=a.f) w w':=by
 have c10:=h.cell 10
 have c11:=h.cell 11
 have c13:=h.cell 13
 have c14:=h.cell 14
 have z10:=h.frozen 10
 simp only [dV,List.getElem?_toArray,List.getElem?_cons_succ,List.getElem?_cons_zero,hm] at c10 c11 c13 c14
 by_cases h0:G.la=0
 ·have hX:Own (w.setCell ⟨a.f,10,none⟩ (.int .u64 0)) a {G with fi:=0}:=af.store h 10 (.int .u64 0)
  have hO:=Lib.hid (sN (c:=a.f) w 10 (.int .u64 0))
  rw [h0] at c13
  have e:Hid (ly G=bI {G with fi:=0}):=Lib.hid (by
   unfold ly
   rw [if_pos h0])
  have hN:=Lib.hid (oW hX hb hn)
  clear h hX h0 hM
  go_enter Tryz.func236,Tryz.ntmps236
  go_wp2_with fail
  refine hN.out.mono ?_
  rintro e w2 ⟨rfl,ae,di⟩
  have kl:=Lib.hid (hO.out.trans di)
  replace ae:=Lib.hid ae
  clear di hN hO c10 c11 c13 c14 z10
  go_wp2_with fail
  go_end0
  exact ⟨rfl,by rw [e.out]; exact ae.out,kl.out⟩
 ·have q1:((G.la:Int)==0)=false:=by simp; omega
  have hL:=fun n=>(hM.only ((ab.refl (fun _=>False) w).drewN n) (by simp)).look hs
  by_cases h1:G.sec∈G.met
  ·rw [show decide (G.sec∈G.met)=true by simpa using h1] at hL
   have e:Hid (ly G=bI G):=Lib.hid (by
    unfold ly
    rw [if_neg h0,if_pos h1])
   have hN:=Lib.hid (fun n=>oW (af.only h ((ab.refl (fun _=>False) w).drewN n) (by simp):Own (w.drewN n) a G) hb hn)
   have hO:=Lib.hid (fun n=>(ab.refl (·=a.f) w).drewN n)
   clear h h0 h1 hM
   go_enter Tryz.func236,Tryz.ntmps236
   go_wp2_with fail
   go_quiet (fail)
   go_wp2_with fail
   refine (hN.out nq).mono ?_
   rintro e w2 ⟨rfl,ae,di⟩
   have kl:=Lib.hid ((hO.out nq).trans di)
   replace ae:=Lib.hid ae
   clear di hN hO hL c10 c11 c13 c14 z10
   go_wp2_with fail
   go_end0
   exact ⟨rfl,by rw [e.out]; exact ae.out,kl.out⟩
  ·rw [show decide (G.sec∈G.met)=false by simpa using h1] at hL
   have e:Hid (ly G={G with nx:=6}):=Lib.hid (by
    unfold ly
    rw [if_neg h0,if_neg h1])
   have hN:=Lib.hid (fun n=>et (af.only h ((ab.refl (fun _=>False) w).drewN n) (by simp):Own (w.drewN n) a G) (n:=6) (by omega) rfl)
   have hO:=Lib.hid (fun n=>(ab.refl (·=a.f) w).drewN n)
   clear h h0 h1 hM
   go_enter Tryz.func236,Tryz.ntmps236
   go_wp2_with fail
   go_quiet (fail)
   go_wp2_with fail
   refine (hN.out nq).mono ?_
   rintro e w2 ⟨rfl,ae,di⟩
   have kl:=Lib.hid ((hO.out nq).trans di)
   replace ae:=Lib.hid ae
   clear di hN hO hL c10 c11 c13 c14 z10
   go_wp2_with fail
   go_end0
   exact ⟨rfl,by rw [e.out]; exact ae.out,kl.out⟩
set_option maxHeartbeats 2000000 in
theorem wI (h:Own w a G) (hm:a.mv=.map (some a.B)) (hM:Me.Met w a.B G.met) (hs:G.sec<=18446744073709551615) (hb:G.bucket<=1000000) (hn:G.nw.1<=1000000) {x:Nat} (hx:x<=18446744073709551615):
 Calls Tryz.prog 225 #[ptr a.f,.int .u64 x] w fun e w'=>e=.returned (.tuple #[])/\Own w' a (dm G x)/\ab (·=a.f) w w':=by
 have c12:=h.cell 12
 have c14:=h.cell 14
 have z12:=h.frozen 12
 simp only [dV,List.getElem?_toArray,List.getElem?_cons_succ,List.getElem?_cons_zero,hm] at c12 c14
 have hE:=Lib.hid (Us h hm hM hs hb hn)
 by_cases h0:x=0
 ·subst h0
  have e:Hid (dm G 0=ly G):=Lib.hid (by unfold dm; rw [if_pos (.inl rfl)])
  clear h hM
  go_enter Tryz.func225,Tryz.ntmps225
  go_wp2_with fail
  refine hE.out.mono ?_
  rintro e w1 ⟨rfl,ae,di⟩
  replace di:=Lib.hid di
  replace ae:=Lib.hid ae
  clear hE c12 c14 z12
  go_wp2_with fail
  exact bodyPost_ret (v:=.tuple #[]) (by simp [results,Tryz.results225]) rfl ⟨rfl,by rw [e.out]; exact ae.out,di.out⟩
 ·have q1:((x:Int)==0)=false:=by simp; omega
  have hL:=hM.look hx
  by_cases h1:x∈G.met
  ·rw [show decide (x∈G.met)=true by simpa using h1] at hL
   have e:Hid (dm G x=ly G):=Lib.hid (by unfold dm; rw [if_pos (.inr h1)])
   clear h hM h1 h0
   go_enter Tryz.func225,Tryz.ntmps225
   go_wp2_with fail
   refine hE.out.mono ?_
   rintro e w1 ⟨rfl,ae,di⟩
   replace di:=Lib.hid di
   replace ae:=Lib.hid ae
   clear hE c12 c14 z12 hL
   go_wp2_with fail
   exact bodyPost_ret (v:=.tuple #[]) (by simp [results,Tryz.results225]) rfl ⟨rfl,by rw [e.out]; exact ae.out,di.out⟩
  ·rw [show decide (x∈G.met)=false by simpa using h1] at hL
   have e:Hid (dm G x={G with at_:=x,nx:=5}):=Lib.hid (by unfold dm; rw [if_neg (by simp [h0,h1])])
   have aD:Own (w.setCell ⟨a.f,12,none⟩ (.int .u64 x)) a {G with at_:=x}:=af.store h 12 (.int .u64 x)
   have ax:=Lib.hid (sN (c:=a.f) w 12 (.int .u64 x))
   have hG:=Lib.hid (et aD (n:=5) (by omega) rfl)
   clear h hM h1 h0 hE aD
   go_enter Tryz.func225,Tryz.ntmps225
   go_wp2_with fail
   refine hG.out.mono ?_
   rintro e w2 ⟨rfl,ag,ae⟩
   have hO:=Lib.hid (ax.out.trans ae)
   replace ag:=Lib.hid ag
   clear ae ax hG c12 c14 z12 hL
   go_wp2_with fail
   go_end0
   exact ⟨rfl,by rw [e.out]; exact ag.out,hO.out⟩
end
end Go.Proofs.YtpanebgakndddaaGreat.Sw
namespace Go.Proofs.YtpanebgakndddaaGreat.Sw
open Go Go.RowKit Hp K Fl Rw Hm Ar Mm Me Qs Wk Pn
set_option maxRecDepth 100000
section
variable {w w':World} {M:Mo} {a:Sc} {G:Sh}
theorem oX {S:Nat->Prop} {a':Sc} {G':Sh} (hM:ah w M) (hG:cO w' a' G') (hf:a'.f=a.f) (iC:∀ x,dq a' G' x->dq a G x\/w.heap.size<=x) (h:cO w a G) (hO:ab S w w') (hS:∀ x,S x->dq a G x):gu.bh w M a G (lm M) G' w':=
 ⟨M,a',hM.only hO (fun x hx hs=>h.aB hM (hS x hs) hx),rfl,gq.refl _ _,hG,hf,iC,hO.mono (fun x _ q=>.inr (hS x q))⟩
theorem cO.plain (hB:Own w' a G) (hn:G.nx≠5/\G.nx≠9):cO w' a G:=⟨hB,fun q=>absurd q hn.1,fun q=>absurd q hn.2⟩
theorem sO {G':Sh} (hn:G'.nx≠5/\G'.nx≠9) {k:Nat} (x:Nat) (hx:dq a G' x):dq a G x\/k<=x:=by
 rcases hx with rfl | ⟨q,_⟩ | ⟨q,_⟩
 ·exact .inl (.inl rfl)
 ·exact absurd q hn.1
 ·exact absurd q hn.2
set_option maxHeartbeats 2000000 in
theorem wK (hM:ah w M) (h:cO w a G) (hx:1<M.xs.length) (h1:G.nx=1):Calls Tryz.prog 119 #[ptr a.f,ptr M.m] w fun e w'=>e=.returned (.bool false)/\gu.bh w M a G (aH (lm M) G).1 (aH (lm M) G).2 w':=by
 have hN:=Lib.hid (pJ hM hx)
 unfold aH
 rw [if_pos h1]
 show Calls _ _ _ _ fun e w'=>_/\gu.bh w M a G (lm M) {G with el:=now M.xs M.ds,nx:=2} w'
 generalize now M.xs M.ds=d at*
 unfold dv at hN
 have HM:=Lib.hid hM
 have HG:=Lib.hid h
 clear hM h
 go_enter Tryz.func119,Tryz.ntmps119
 go_wp2_with fail
 refine hN.out.mono ?_
 rintro e w1 ⟨rfl,aD⟩
 have ak:=HG.out.below aD
 have c4:=ak.ao.cell 4
 have c5:=ak.ao.cell 5
 have z4:=ak.ao.frozen 4
 have z5:=ak.ao.frozen 5
 simp only [dV,List.getElem?_toArray,List.getElem?_cons_succ,List.getElem?_cons_zero] at c4 c5
 have ag:Own ((w1.setCell ⟨a.f,4,none⟩ (.int .i64 d.1)).setCell ⟨a.f,5,none⟩ (.int .i64 d.2)) a {G with el:=d}:=(ak.ao.store 4 (.int .i64 d.1)).store 5 (.int .i64 d.2)
 have ae:=kG (c:=a.f) w1 4 5 (.int .i64 d.1) (.int .i64 d.2)
 have mg:=Lib.hid (et ag (n:=2) (by omega) rfl)
 have an:=Lib.hid ((ab.aA aD (·=a.f)).trans ae)
 clear ag ae hN aD
 replace ak:=Lib.hid ak
 go_wp2_with fail
 refine mg.out.mono ?_
 rintro e w3 ⟨rfl,ay,aN⟩
 have hE:Hid (gu.bh w M a G (lm M) {G with el:=d,nx:=2} w3):=Lib.hid
  (oX HM.out (a':=a) (cO.plain ay (by simp)) rfl (sO (by simp)) HG.out (an.out.trans aN) (fun x q=>.inl q))
 clear ay aN mg c4 c5 z4 z5
 go_wp2_with fail
 go_ret
 exact ⟨rfl,hE.out⟩
theorem JL (n:Nat):(n:Int).tdiv 2=((n / 2:Nat):Int):=by
 rw [Int.tdiv_eq_ediv_of_nonneg (by omega)]
 omega
set_option maxHeartbeats 2000000 in
theorem CC (hM:ah w M) (h:cO w a G) (he:G.el.1<=65536) (hp:¬(FM.bl ((G.el.1 / 2:Nat):Int)=true/\M.xs.length+G.el.1 / 2<=1048576)):
 Calls Tryz.prog 158 #[ptr a.f,ptr M.m] w fun e w'=>e=.returned (.bool true)/\gu.bh w M a G (lm M) {G with num:= -1,err:=if FM.bl ((G.el.1 / 2:Nat):Int)=true then 2 else 5,nx:=10} w':=by
 obtain ⟨n2,gV⟩:∃ n,n=G.el.1 / 2:=⟨_,rfl⟩
 have hd:=JL G.el.1
 rw [<-gV] at hp hd ⊢
 obtain ⟨c,hc,ib,hT⟩:∃ c:Int,(c != 0)=true/\c=(if FM.bl (n2:Int)=true then 2 else 5)/\Calls Tryz.prog 46 #[ptr M.m,.int .i64 (n2:Int)] w fun e w'=>e=.returned (.tuple #[.int .i64 (-1),.int .i64 c])/\w=w':=by
  cases jr:FM.bl (n2:Int) with
  | true=>
    refine ⟨2,rfl,by simp,HU hM _ (by omega) (by omega) jr ?_⟩
    have:¬M.xs.length+n2<=1048576:=fun q=>hp ⟨jr,q⟩
    omega
  | false=>exact ⟨5,rfl,by simp,HV hM _ (by omega) (by omega) jr⟩
 rw [<-ib]
 have aT:IntKind.i64.wrap (n2:Int)=n2:=IntWalk.i64_in _ (by omega)
 replace hT:=Lib.hid hT
 have c3:=h.ao.cell 3
 have c4:=h.ao.cell 4
 have c8:=h.ao.cell 8
 have z3:=h.ao.frozen 3
 have z8:=h.ao.frozen 8
 simp only [dV,List.getElem?_toArray,List.getElem?_cons_succ,List.getElem?_cons_zero] at c3 c4 c8
 have ag:Own ((w.setCell ⟨a.f,8,none⟩ (.int .i64 (-1))).setCell ⟨a.f,3,none⟩ (.int .i64 c)) a {G with num:= -1,err:=c}:=(h.ao.store 8 (.int .i64 (-1))).store 3 (.int .i64 c)
 have ae:=Lib.hid (kG (c:=a.f) w 8 3 (.int .i64 (-1)) (.int .i64 c))
 have hE:=Lib.hid (et ag (n:=10) (by omega) rfl)
 have HM:=Lib.hid hM
 have HG:=Lib.hid h
 clear hM h ag hp ib
 replace gV:=Lib.hid gV
 go_enter Tryz.func158,Tryz.ntmps158
 go_wp2_with fail
 refine hT.out.mono ?_
 rintro e w1 ⟨rfl,hw⟩
 obtain rfl:w=w1:=hw
 clear hT
 go_wp2_with fail
 refine hE.out.mono ?_
 rintro e w2 ⟨rfl,ay,an⟩
 have hS:Hid (gu.bh w M a G (lm M) {G with num:= -1,err:=c,nx:=10} w2):=Lib.hid
  (oX HM.out (a':=a) (cO.plain ay (by simp)) rfl (sO (by simp)) HG.out (ae.out.trans an) (fun x q=>.inl q))
 clear ay an hE c3 c4 c8 z3 z8
 go_wp2_with fail
 go_ret
 exact ⟨rfl,hS.out⟩
theorem CD {A' T':Option Addr} {cap' capT':Nat} {xs':List Int} {ds':List (Nat×Nat)} (hA:∀ x,In A' x->In M.A x\/w.heap.size<=x) (hT:∀ x,In T' x->In M.T x\/w.heap.size<=x):gq w M {M with A:=A',cap:=cap',xs:=xs',T:=T',capT:=capT',ds:=ds'}:=by
 refine ⟨rfl,rfl,rfl,rfl,?_⟩
 rintro x (q | q | q | q | q | q)
 ·exact .inl (.inl q)
 ·rcases q with q | q
  ·exact .inl (.inr (.inl (.inl q)))
  ·rcases hA x q with q | q
   ·exact .inl (.inr (.inl (.inr q)))
   ·exact .inr q
 ·exact .inl (.inr (.inr (.inl q)))
 ·exact .inl (.inr (.inr (.inr (.inl q))))
 ·rcases hT x q with q | q
  ·exact .inl (.inr (.inr (.inr (.inr (.inl q)))))
  ·exact .inr q
 ·exact .inl (.inr (.inr (.inr (.inr (.inr q)))))
set_option maxHeartbeats 2000000 in
theorem CE (hM:ah w M) (h:cO w a G) (he:G.el.1<=65536) (aM:M.ds.length<=900000) (hp:FM.bl ((G.el.1 / 2:Nat):Int)=true) (hx:M.xs.length+G.el.1 / 2<=1048576):
 Calls Tryz.prog 158 #[ptr a.f,ptr M.m] w fun e w'=>e=.returned (.bool false)/\gu.bh w M a G {lm M with xs:=M.xs++List.replicate (G.el.1 / 2) 0,ds:=M.ds++[(G.el.1 / 2,M.xs.length)]} {G with num:=M.ds.length,err:=0,nw:=(G.el.1 / 2,M.xs.length),nx:=3} w':=by
 have hT:=CF hM (G.el.1 / 2) hp hx (by omega)
 replace hT:=Lib.hid hT
 have c4:=h.ao.cell 4
 simp only [dV,List.getElem?_toArray,List.getElem?_cons_succ,List.getElem?_cons_zero] at c4
 have HM:=Lib.hid hM
 have HG:=Lib.hid h
 have hd:=JL G.el.1
 obtain ⟨dn,cB⟩:∃ n,n=M.ds.length:=⟨_,rfl⟩
 obtain ⟨xn,ot⟩:∃ n,n=M.xs.length:=⟨_,rfl⟩
 obtain ⟨n2,gV⟩:∃ n,n=G.el.1 / 2:=⟨_,rfl⟩
 rw [<-cB] at aM
 rw [<-gV] at hd
 have aT:IntKind.i64.wrap (n2:Int)=n2:=IntWalk.i64_in _ (by omega)
 simp only [<-cB,<-ot,<-gV] at hT ⊢
 replace cB:=Lib.hid cB
 replace ot:=Lib.hid ot
 replace gV:=Lib.hid gV
 clear hM h hp hx
 go_enter Tryz.func158,Tryz.ntmps158
 go_wp2_with fail
 refine hT.out.mono ?_
 rintro e w1 ⟨rfl,A',cap',T',capT',aw,ax,cQ,xY⟩
 have ak:=HG.out.only ax (fun x hx q=>HG.out.aB HM.out hx q)
 have d3:=ak.ao.cell 3
 have d8:=ak.ao.cell 8
 have y3:=ak.ao.frozen 3
 have y8:=ak.ao.frozen 8
 simp only [dV,List.getElem?_toArray,List.getElem?_cons_succ,List.getElem?_cons_zero] at d3 d8
 have ag:Own ((w1.setCell ⟨a.f,8,none⟩ (.int .i64 dn)).setCell ⟨a.f,3,none⟩ (.int .i64 0)) a {G with num:=dn,err:=0}:=(ak.ao.store 8 (.int .i64 dn)).store 3 (.int .i64 0)
 have ae:=kG (c:=a.f) w1 8 3 (.int .i64 dn) (.int .i64 0)
 have dW:=ak.aB aw (x:=a.f) (.inl rfl)
 have aI:=aw.only ae (fun x hx e=>dW (e▸hx))
 have hD:=CG aI dn (by rw [cB.out]; simp)
 have xZ:aO (M.ds++[(n2,M.xs.length)]) dn=(n2,xn):=by unfold aO; rw [cB.out,ot.out]; simp
 rw [xZ] at hD
 unfold dv at hD
 replace hD:=Lib.hid hD
 have k8:=ag.cell 8
 have k3:=ag.cell 3
 simp only [dV,List.getElem?_toArray,List.getElem?_cons_succ,List.getElem?_cons_zero] at k3 k8
 replace ag:=Lib.hid ag
 replace ae:=Lib.hid ae
 replace aI:=Lib.hid aI
 replace ax:=Lib.hid ax
 replace dW:=Lib.hid dW
 have hK:=Lib.hid (CD (w:=w) (M:=M) (cap':=cap') (capT':=capT') (xs':=M.xs++List.replicate n2 0) (ds':=M.ds++[(n2,M.xs.length)]) cQ xY)
 clear hT c4 aw cQ xY xZ ak
 go_wp2_with fail
 refine hD.out.mono ?_
 rintro e w3 ⟨rfl,aR⟩
 have ay:=ag.out.only (ab.aA aR (fun _=>False)) (by simp)
 have p6:=ay.cell 6
 have p7:=ay.cell 7
 have q6:=ay.frozen 6
 have q7:=ay.frozen 7
 simp only [dV,List.getElem?_toArray,List.getElem?_cons_succ,List.getElem?_cons_zero] at p6 p7
 have az:Own ((w3.setCell ⟨a.f,6,none⟩ (.int .i64 n2)).setCell ⟨a.f,7,none⟩ (.int .i64 xn)) a {G with num:=dn,err:=0,nw:=(n2,xn)}:=(ay.store 6 (.int .i64 n2)).store 7 (.int .i64 xn)
 have aN:=kG (c:=a.f) w3 6 7 (.int .i64 n2) (.int .i64 xn)
 have tu:=(ab.aA aR (·=a.f)).trans aN
 have mg:=Lib.hid (et az (n:=3) (by omega) rfl)
 replace tu:=Lib.hid tu
 clear aR ay az aN hD k3 k8 d3 d8 y3 y8
 go_wp2_with fail
 refine mg.out.mono ?_
 rintro e w5 ⟨rfl,bM,bN⟩
 have tw:=tu.out.trans bN
 have vf:=ae.out.trans tw
 have hS:Hid (gu.bh w M a G {lm M with xs:=M.xs++List.replicate n2 0,ds:=M.ds++[(n2,xn)]} {G with num:=dn,err:=0,nw:=(n2,xn),nx:=3} w5):=Lib.hid (by
  have Eu:ab (fun x=>aq M x\/dq a G x) w w5:=(ax.out.mono (fun x _ q=>.inl q)).trans' vf (fun x _ q=>.inr (.inl q))
  exact ⟨_,a,aI.out.only tw (fun x hx e=>dW.out (e▸hx)),by rw [ot.out],hK.out,cO.plain bM (by simp),rfl,sO (by simp),Eu⟩)
 clear bM bN vf tw mg
 go_wp2_with fail
 go_ret
 exact ⟨rfl,hS.out⟩
set_option maxHeartbeats 2000000 in
theorem zU (hM:ah w M) (h:Own w a G) (k:Nat) (hk:k<=2000000) (hx:G.el.2+k<M.xs.length) (he:G.el.2<=4000000):
 Calls Tryz.prog 209 #[ptr a.f,ptr M.m,.int .i64 k] w fun e w'=>e=.returned (.int .u64 ((Cl.nth M.xs (G.el.2+k)).toNat:Int))/\∃ n,w'=w.drewN n:=by
 have hL:=fun n=>Cl.nh (hM.drewN n).2.1 (G.el.2+k) hx
 have gH:=Cl.eU hM.2.1.2.2.1 (G.el.2+k)
 obtain ⟨z,hz⟩:=Int.eq_ofNat_of_zero_le gH.1
 rw [hz] at hL ⊢
 rw [Int.toNat_natCast]
 have e2:((G.el.2+k:Nat):Int)=(G.el.2:Int)+(k:Int):=by omega
 rw [e2] at hL
 replace hL:=Lib.hid hL
 have d0:=hM.hd.1
 have c5:=h.cell 5
 simp only [dV,List.getElem?_toArray,List.getElem?_cons_succ,List.getElem?_cons_zero] at c5
 have ew:IntKind.i64.wrap ((G.el.2:Int)+(k:Int))=(G.el.2:Int)+(k:Int):=IntWalk.i64_in _ (by omega)
 clear hM h hz gH hx e2
 go_enter Tryz.func209,Tryz.ntmps209
 go_wp2_with fail
 go_quiet ((go_at_call 90; exact Calls.quiet_of_same ((hL.out _).mono fun _ _ h=>⟨h.1,h.2⟩)))
 clear hL d0 c5
 go_wp2_with fail
 go_ret
 exact ⟨rfl,_,rfl⟩
set_option maxHeartbeats 2000000 in
theorem Ut (hM:ah w M) (h:cO w a G) (hx:G.el.2+G.bucket<M.xs.length) (he:G.el.2<=4000000) (hb:G.bucket<=1000000):
 Calls Tryz.prog 191 #[ptr a.f,ptr M.m] w fun e w'=>e=.returned (.bool false)/\gu.bh w M a G (lm M) {G with fi:=(Cl.nth M.xs (G.el.2+G.bucket)).toNat,nx:=4} w':=by
 have rT:=Lib.hid (zU hM h.ao G.bucket (by omega) hx he)
 have c9:=h.ao.cell 9
 simp only [dV,List.getElem?_toArray,List.getElem?_cons_succ,List.getElem?_cons_zero] at c9
 have HM:=Lib.hid hM
 have HG:=Lib.hid h
 generalize (Cl.nth M.xs (G.el.2+G.bucket)).toNat=z at*
 clear hM h
 go_enter Tryz.func191,Tryz.ntmps191
 go_wp2_with fail
 refine rT.out.mono ?_
 rintro e w1 ⟨rfl,n,hw⟩
 have ak:Own w1 a G:=by rw [hw]; exact af.only HG.out.ao ((ab.refl (fun _=>False) w).drewN n) (by simp)
 have ax:ab (·=a.f) w w1:=by rw [hw]; exact (ab.refl _ w).drewN n
 clear hw rT c9
 have d10:=ak.cell 10
 have y10:=ak.frozen 10
 simp only [dV,List.getElem?_toArray,List.getElem?_cons_succ,List.getElem?_cons_zero] at d10
 have ag:Own (w1.setCell ⟨a.f,10,none⟩ (.int .u64 z)) a {G with fi:=z}:=ak.store 10 (.int .u64 z)
 have mg:=Lib.hid (et ag (n:=4) (by omega) rfl)
 have ae:=Lib.hid (ax.trans (sN (c:=a.f) w1 10 (.int .u64 z)))
 clear ak ax ag
 go_wp2_with fail
 refine mg.out.mono ?_
 rintro e w3 ⟨rfl,ay,aN⟩
 have hE:Hid (gu.bh w M a G (lm M) {G with fi:=z,nx:=4} w3):=Lib.hid
  (oX HM.out (a':=a) (cO.plain ay (by simp)) rfl (sO (by simp)) HG.out (ae.out.trans aN) (fun x q=>.inl q))
 clear ay aN mg d10 y10
 go_wp2_with fail
 go_ret
 exact ⟨rfl,hE.out⟩
end
end Go.Proofs.YtpanebgakndddaaGreat.Sw
namespace Go.Proofs.YtpanebgakndddaaGreat.Rn
open Go
def lx (P:Program) (md:Region.Mode) (ops:Array Oper) (Q:Exit->Act->World->Prop) (S:World->Prop) (till:Nat->Bool):Nat->Array Bool->Act->World->Prop
 | 0,listed,a,w=>Region.ready md ops listed=[]/\Q .normal a w
 | f+1,listed,a,w=>(Region.ready md ops listed=[]->Q .normal a w)/\
    ∀ i∈Region.ready md ops listed,wpOp P ops Q i (fun a' w'=>(till i=true/\wpAny P md ops Q f (listed.setIfInBounds i true) a' w')\/(till i=false/\S w'/\lx P md ops Q S till f (listed.setIfInBounds i true) a' w')) a w
section
variable {P:Program} {ops:Array Oper} {Q:Exit->Act->World->Prop} {md:Region.Mode} {S:World->Prop} {till:Nat->Bool}
theorem Je:∀ (f:Nat) (listed:Array Bool) (a:Act) (w:World),lx P md ops Q S till f listed a w->wpAny P md ops Q f listed a w
 | 0,_,_,_,h=>h
 | f+1,_,_,_,h=>⟨h.1,fun i hi=>wpOp_mono (fun a' w' h'=>by
    rcases h' with ⟨_,h'⟩ | ⟨_,_,h'⟩
    ·exact h'
    ·exact Je f _ a' w' h') (h.2 i hi)⟩
theorem Tq {i:Nat} {oi:Oper} {v:Value} (hi:ops[i]?=some oi) (vD:∀ (j:Nat) (o:Oper) cs b,ops[j]?=some o->o.op≠.select cs b)
 (hQ:∀ c a w,Q (.panic c) (a.put oi.dst v) w->Q (.panic c) a w) (oE:till i=false) (E4:∀ j,till j=true->Region.waitsFor md ops j i=true):
 ∀ (f:Nat) (listed:Array Bool) (a:Act) (w:World),
   (∀ j oj,ops[j]?=some oj->j≠i->listed.getD j true=false->(∀ e∈oj.after,Region.binds md e=true->e.on≠i)->oi.apart ops oj=true)->
   i∈Region.ready md ops listed->YieldsIf P ops S oi v a->S w->
   lx P md ops Q S till f (listed.setIfInBounds i true) (a.put oi.dst v) w->lx P md ops Q S till (f+1) listed a w:=by
 intro f
 induction f with
 | zero=>
   intro listed a w _ hr hy hS H
   refine ⟨fun h=>absurd hr (by rw [h]; simp),fun j hj=>?_⟩
   by_cases iS:j=i
   ·rw [iS]
    exact hy.wpOp hi hS (.inr ⟨oE,hS,H⟩)
   ·have h0:=ready_mono hj iS
    rw [H.1] at h0
    simp at h0
 | succ f ih=>
   intro listed a w mc hr hy hS H
   refine ⟨fun h=>absurd hr (by rw [h]; simp),fun j hj=>?_⟩
   by_cases iS:j=i
   ·rw [iS]
    exact hy.wpOp hi hS (.inr ⟨oE,hS,H⟩)
   ·obtain ⟨yD,oj,rP,gz⟩:=mem_ready.1 hj
    have Ba:∀ e∈oj.after,Region.binds md e=true->e.on≠i:=fun e he hb heq=>by
     have h1:=gz e he hb
     have h0:=(mem_ready.1 hr).1
     rw [heq,getD_both h0] at h1
     simp at h1
    have Bb:till j=false:=by
     cases ht:till j with
     | false=>rfl
     | true=>
       obtain ⟨o',Bc,e,he,hb,Xf⟩:=Region.waitsFor_spec (E4 j ht)
       rw [rP] at Bc
       injection Bc with Bc
       subst Bc
       exact absurd Xf (Ba e he hb)
    have h1:=H.2 j (ready_mono hj iS)
    refine wpOp_mono (fun a' w' h3=>?_) (wpOp_putIf rP (mc j oj rP iS yD Ba) (fun cs b=>vD i oi cs b hi) (fun cs b=>vD j oj cs b rP) hQ hy h1)
    obtain ⟨mU,h3⟩:=h3
    rcases h3 with ⟨ht,_⟩ | ⟨_,gX,h3⟩
    ·rw [Bb] at ht
     simp at ht
    ·refine .inr ⟨Bb,gX,ih _ _ _ ?_ (ready_mono hr (Ne.symm iS)) mU gX (by rw [Array.setIfInBounds_comm _ _ iS]; exact h3)⟩
     intro k ok hk rK E5 kb
     refine mc k ok hk rK ?_ kb
     by_cases tC:j=k
     ·rw [<-tC]; exact yD
     ·rwa [getD_set_ne true tC] at E5
theorem fP {i:Nat} {oi:Oper} {v:Value} {f:Nat} {listed:Array Bool} {a:Act} {w:World} (hi:ops[i]?=some oi)
 (hs:Region.noSelect ops=true) (hf:Region.free md ops listed i=true) (hr:(Region.ready md ops listed).contains i=true) (oE:till i=false)
 (E4:∀ j,till j=true->Region.waitsFor md ops j i=true)
 (hQ:∀ c a w,Q (.panic c) (a.put oi.dst v) w->Q (.panic c) a w) (hy:YieldsIf P ops S oi v a) (hS:S w)
 (h:lx P md ops Q S till f (listed.setIfInBounds i true) (a.put oi.dst v) w):lx P md ops Q S till (f+1) listed a w:=
 Tq hi (Region.noSelect_spec hs) hQ oE E4 f listed a w (Region.free_spec hi hf) (by simpa using hr) hy hS h
theorem Tr {i:Nat} {o:Oper} {a:Act} {w:World} {K:Act->World->Prop} (hi:ops[i]?=some o) (h:if Region.wanted o (yielded ops a.tmps)=true then Oper.wp P o a w K Q else K (a.put o.dst undef) w):wpOp P ops Q i K a w:=by
 unfold wpOp
 simp only [hi]
 split
 ·rename_i hw
  rw [if_pos hw] at h
  exact .inl h
 ·rename_i hw
  rw [if_neg hw] at h
  exact h
theorem Ts {i:Nat} {oi:Oper} {v:Value} (hi:ops[i]?=some oi) (vD:∀ (j:Nat) (o:Oper) cs b,ops[j]?=some o->o.op≠.select cs b)
 (hQ:∀ c a w,Q (.panic c) (a.put oi.dst v) w->Q (.panic c) a w) (oE:till i=false):
 ∀ (f:Nat) (listed:Array Bool) (a:Act) (w:World),
   (∀ j oj,ops[j]?=some oj->j≠i->listed.getD j true=false->(∀ e∈oj.after,Region.binds md e=true->e.on≠i)->oi.apart ops oj=true)->
   i∈Region.ready md ops listed->YieldsIf P ops (fun _=>True) oi v a->S w->
   lx P md ops Q S till f (listed.setIfInBounds i true) (a.put oi.dst v) w->lx P md ops Q S till (f+1) listed a w:=by
 intro f
 induction f with
 | zero=>
   intro listed a w _ hr hy hS H
   refine ⟨fun h=>absurd hr (by rw [h]; simp),fun j hj=>?_⟩
   by_cases iS:j=i
   ·rw [iS]
    exact hy.wpOp hi trivial (.inr ⟨oE,hS,H⟩)
   ·have h0:=ready_mono hj iS
    rw [H.1] at h0
    simp at h0
 | succ f ih=>
   intro listed a w mc hr hy hS H
   refine ⟨fun h=>absurd hr (by rw [h]; simp),fun j hj=>?_⟩
   by_cases iS:j=i
   ·rw [iS]
    exact hy.wpOp hi trivial (.inr ⟨oE,hS,H⟩)
   ·obtain ⟨yD,oj,rP,gz⟩:=mem_ready.1 hj
    have Ba:∀ e∈oj.after,Region.binds md e=true->e.on≠i:=fun e he hb heq=>by
     have h1:=gz e he hb
     have h0:=(mem_ready.1 hr).1
     rw [heq,getD_both h0] at h1
     simp at h1
    have cC:∀ k ok,ops[k]?=some ok->k≠i->(listed.setIfInBounds j true).getD k true=false->(∀ e∈ok.after,Region.binds md e=true->e.on≠i)->oi.apart ops ok=true:=fun k ok hk rK E5 kb=>by
     refine mc k ok hk rK ?_ kb
     by_cases tC:j=k
     ·rw [<-tC]; exact yD
     ·rwa [getD_set_ne true tC] at E5
    have h1:=H.2 j (ready_mono hj iS)
    refine wpOp_mono (fun a' w' h3=>?_) (wpOp_putIf rP (mc j oj rP iS yD Ba) (fun cs b=>vD i oi cs b hi) (fun cs b=>vD j oj cs b rP) hQ hy h1)
    obtain ⟨mU,h3⟩:=h3
    rcases h3 with ⟨ht,h3⟩ | ⟨Bb,gX,h3⟩
    ·refine .inl ⟨ht,wpAny_first hi vD hQ f _ _ _ cC (ready_mono hr (Ne.symm iS)) ?_ (by rw [Array.setIfInBounds_comm _ _ iS]; exact h3)⟩
     rcases mU with ⟨h1,h2⟩ | h1
     ·exact .inl ⟨h1,fun w=>h2 w trivial⟩
     ·exact .inr h1
    ·exact .inr ⟨Bb,gX,ih _ _ _ cC (ready_mono hr (Ne.symm iS)) mU gX (by rw [Array.setIfInBounds_comm _ _ iS]; exact h3)⟩
theorem aG {i:Nat} {oi:Oper} {v:Value} {f:Nat} {listed:Array Bool} {a:Act} {w:World} (hi:ops[i]?=some oi)
 (hs:Region.noSelect ops=true) (hf:Region.free md ops listed i=true) (hr:(Region.ready md ops listed).contains i=true) (oE:till i=false)
 (hQ:∀ c a w,Q (.panic c) (a.put oi.dst v) w->Q (.panic c) a w) (hy:YieldsIf P ops (fun _=>True) oi v a) (hS:S w)
 (h:lx P md ops Q S till f (listed.setIfInBounds i true) (a.put oi.dst v) w):lx P md ops Q S till (f+1) listed a w:=
 Ts hi (Region.noSelect_spec hs) hQ oE f listed a w (Region.free_spec hi hf) (by simpa using hr) hy hS h
theorem lj {i:Nat} {o:Oper} {f:Nat} {listed:Array Bool} {a:Act} {w:World} (hr:Region.ready md ops listed=[i]) (hi:ops[i]?=some o) (oE:till i=false)
 (h:∀ K:Act->World->Prop,(∀ a' w',S w'->lx P md ops Q S till f (listed.setIfInBounds i true) a' w'->K a' w')->if Region.wanted o (yielded ops a.tmps)=true then Oper.wp P o a w K Q else K (a.put o.dst undef) w):
 lx P md ops Q S till (f+1) listed a w:=by
 refine ⟨fun h=>absurd (hr.symm.trans h) (by simp),fun j hj=>?_⟩
 rw [hr] at hj
 have iS:j=i:=by simpa using hj
 subst iS
 exact Tr hi (h _ fun a' w' hS hw=>Or.inr ⟨oE,hS,hw⟩)
theorem Tt (l:List Oper) (k:Nat) {listed:Array Bool} {a:Act} {w:World} (hl:∀ j,l[j]?=ops[k+j]?) (hB:Region.seqB md ops l.length k listed=true) (h:wpList P ops Q l a w)
 (hk:till k=true\/l=[]):lx P md ops Q S till l.length listed a w:=by
 have hA:=wpAny_of_seq l k listed a w hl hB h
 cases l with
 | nil=>exact hA
 | cons o l=>
   refine ⟨hA.1,fun i hi=>?_⟩
   have hr:Region.ready md ops listed=[k]:=by
    simp only [List.length_cons,Region.seqB,Bool.and_eq_true,decide_eq_true_eq] at hB
    exact hB.1
   rw [hr] at hi
   have Xg:i=k:=by simpa using hi
   subst Xg
   have vE:till i=true:=by
    rcases hk with h | h
    ·exact h
    ·cases h
   exact wpOp_mono (fun a' w' h'=>.inl ⟨vE,h'⟩) (hA.2 i (by rw [hr]; simp))
theorem wH {f:Nat} (k:Nat) {listed:Array Bool} {a:Act} {w:World} (hf:(ops.toList.drop k).length=f) (hB:Region.seqB md ops f k listed=true) (hk:till k=true) (h:wpList P ops Q (ops.toList.drop k) a w):
 lx P md ops Q S till f listed a w:=by
 subst hf
 exact Tt _ k (fun j=>by rw [List.getElem?_drop,Array.getElem?_toList]) hB h (.inl hk)
theorem sB {id:Nat} {a:Act} {w:World} (S:World->Prop) (till:Nat->Bool) (hm:P.follows .mixedOrders=true) (h:lx P .any ops Q S till ops.size (Array.replicate ops.size false) a w.drew):
 (Code.region id ops true).wp P Q a w:=wp_region_any hm (Je _ _ _ _ h)
end
end Go.Proofs.YtpanebgakndddaaGreat.Rn
namespace Go.Proofs.YtpanebgakndddaaGreat.Rw
open Go Go.RowKit Hp Fl
section
variable {P:Program}
theorem wG {ops:Array Oper} {o:Oper} {a:Act} {w:World} {K:Act->World->Prop} {Q:Exit->Act->World->Prop} {E:Prop}
 (hg:o.guard=none) (s x:Operand) (t:TypeId) (xT:o.op=Op.call {callee:=Callee.builtin Builtin.append,args:=#[s,x],argTypes:=#[t,t]})
 (vs vx:Value) (hs:a.eval s=vs) (hx:a.eval x=vx) {v:Value} {w':World} (eX:(Builtin.append_ #[t,t] o.type #[vs,vx]).run P w=.ok v w')
 (hK:K (a.put o.dst v) w'):if Region.wanted o (yielded ops a.tmps)=true then Oper.wp P o a w K Q else E:=by
 have hw:Region.wanted o (yielded ops a.tmps)=true:=by simp [Region.wanted,hg]
 rw [if_pos hw]
 unfold Oper.wp
 simp [execOp,xT,resolve,invoke,builtin,hs,hx,eX,Result.andThen]
 exact hK
theorem wF {α:Type} (w:World) (t ty e:TypeId) (i:TypeInfo) (z:Value) (c bytes:Nat) (ht:P.underlying t=some (.slice e)) (hi:P.info? e=some i) (hz:i.zero=some z) (rG:i.size=c) (m5:i.bytes=bytes) (tH:z.cells.size=c) (cA:0<c)
 (f:α->List Value) (hf:∀ x,(f x).length=c) (h1:∀ x,∀ u∈f x,u.oneCell'=true) {A:Option Addr} {cap n:Nat} {xs:List α} (hn:xs.length=n) (h:Row w e c f A cap xs) (y:α) (ad:Addr) (cx:Nat)
 (hc:∀ (j:Nat) (u:Value),(f y)[j]?=some u->w.cell? (ad.add j)=some u) (rH:n+1<=maxLen) (rI:(n+1)*bytes<=140737488355328):
 ∃ A' cap' w',(Builtin.append_ #[t,t] ty #[.slice A n cap,.slice (some ad) 1 cx]).run P w=.ok (.slice A' (n+1) cap') w'/\Row w' e c f A' cap' (xs++[y])/\ab (In A) w w'/\∀ b,In A' b->In A b\/w.heap.size<=b:=by
 subst hn
 have e1:(xs++[y]).flatMap f=xs.flatMap f++f y:=by simp
 obtain ⟨v',w',eX,eT,hg,_,cr⟩:=run_append_own_at (P:=P) w 0 t ty e i z c bytes ht hi hz rG m5 tH cA (.slice A xs.length cap) xs.length (xs.flatMap f) h ad 1 cx (f y) (by rw [hf,Nat.one_mul]) hc (h1 y) rH rI (Nat.zero_le _)
 obtain ⟨A',cap',rfl⟩:=BK eT
 refine ⟨A',cap',w',eX,?_,(ab.refl (In A) w).grown hg (fun b hb=>.inl (by rw [mC] at hb; exact hb)),fun b hb=>?_⟩
 ·rw [Row,e1,List.length_append]
  exact eT
 ·rw [mC,mC] at cr
  rcases cr with q | q
  ·exact .inl (by rw [In,<-q]; exact hb)
  ·refine .inr ?_
   rw [In,q] at hb
   injection hb with hb
   omega
end
end Go.Proofs.YtpanebgakndddaaGreat.Rw
namespace Go.Proofs.YtpanebgakndddaaGreat.Sw
open Go Go.RowKit Hp K Fl Rw Hm Ar Mm Me Qs Wk Pn
set_option maxRecDepth 100000
section
variable {w w':World} {M:Mo} {a:Sc} {G:Sh}
theorem DI (G:Sh):(fQ G).nx≠5/\(fQ G).nx≠9:=by
 unfold fQ
 simp only
 split<;>omega
theorem uI (G:Sh):(bI G).nx≠5/\(bI G).nx≠9:=by
 unfold bI
 split
 ·split
  ·exact DI G
  ·simp
 ·simp
theorem zV (G:Sh):(ly G).nx≠5/\(ly G).nx≠9:=by
 unfold ly
 split
 ·exact uI _
 ·split
  ·exact uI _
  ·simp
theorem JM {w2:World} {x:Nat} (hO:Own w2 a (dm G x)) (hm:a.mv=.map (some a.B)) (hM:Me.Met w2 a.B G.met):cO w2 a (dm G x):=by
 refine ⟨hO,fun _=>⟨hm,?_⟩,fun q=>?_⟩
 ·unfold dm at*
  split
  ·rename_i hq
   rename_i q
   rw [if_pos hq] at q
   exact absurd q (zV G).1
  ·exact hM
 ·unfold dm at q
  split at q
  ·exact absurd q (zV G).2
  ·simp at q
set_option maxHeartbeats 4000000 in
theorem Uu (hM:ah w M) (h:cO w a G) (hx:G.el.2+(G.bucket+G.nw.1)<M.xs.length) (he:G.el.2<=4000000) (hb:G.bucket<=1000000) (hn:G.nw.1<=100000) (hf:G.fi<=18446744073709551615):
 Calls Tryz.prog 210 #[ptr a.f,ptr M.m] w fun e w'=>e=.returned (.bool false)/\gu.bh w M a G (lm M) (begun {G with sec:=(Cl.nth M.xs (G.el.2+(G.bucket+G.nw.1))).toNat}) w':=by
 have ke:(Cl.nth M.xs (G.el.2+(G.bucket+G.nw.1))).toNat<=18446744073709551615:=by
  have:=Cl.eU hM.2.1.2.2.1 (G.el.2+(G.bucket+G.nw.1))
  omega
 have rT:=fun n=>zU (hM.drewN n) (h.drewN n).ao (G.bucket+G.nw.1) (by omega) hx he
 have e2:((G.bucket+G.nw.1:Nat):Int)=(G.bucket:Int)+(G.nw.1:Int):=by omega
 rw [e2] at rT
 have ew:IntKind.i64.wrap ((G.bucket:Int)+(G.nw.1:Int))=(G.bucket:Int)+(G.nw.1:Int):=IntWalk.i64_in _ (by omega)
 generalize (Cl.nth M.xs (G.el.2+(G.bucket+G.nw.1))).toNat=z at*
 have c6:=h.ao.cell 6
 have c9:=h.ao.cell 9
 simp only [dV,List.getElem?_toArray,List.getElem?_cons_succ,List.getElem?_cons_zero] at c6 c9
 have HM:=Lib.hid hM
 have HG:=Lib.hid h
 replace rT:=Lib.hid rT
 replace ke:=Lib.hid ke
 clear hM h hx e2
 go_enter Tryz.func210,Tryz.ntmps210
 go_wp2_with fail
 go_region_held3 (fun w'=>w'.cell? ⟨a.f,6,none⟩=some (.int .i64 G.nw.1)/\w'.cell? ⟨a.f,9,none⟩=some (.int .i64 G.bucket)) ((go_split_ands; (refine ⟨?_,?_⟩<;>simp [World.cell?_setCell_other, *])))
  (first
    | (go_at_call 209
       refine (rT.out 1).mono ?_
       rintro e w1 ⟨rfl,n,hw⟩
       have ak:Own w1 a G:=by rw [hw]; exact af.only (af.only HG.out.ao ((ab.refl (fun _=>False) w).drewN 1) (by simp)) ((ab.refl (fun _=>False) _).drewN n) (by simp)
       have ax:ab (·=a.f) w w1:=by rw [hw]; exact ((ab.refl _ w).drewN 1).drewN n
       have p6:=ak.cell 6
       have p9:=ak.cell 9
       have p11:=ak.cell 11
       have y11:=ak.frozen 11
       simp only [dV,List.getElem?_toArray,List.getElem?_cons_succ,List.getElem?_cons_zero] at p6 p9 p11
       replace ak:=Lib.hid ak
       replace ax:=Lib.hid ax
       clear hw rT c6 c9))
 have ag:Own (w1.setCell ⟨a.f,11,none⟩ (.int .u64 z)) a {G with sec:=z}:=ak.out.store 11 (.int .u64 z)
 have ae:=ax.out.trans (sN (c:=a.f) w1 11 (.int .u64 z))
 generalize w1.setCell ⟨a.f,11,none⟩ (.int .u64 (z:Int))=w2 at*
 clear p6 p9 p11 y11 ak ax
 have c10:=ag.cell 10
 have c11:=ag.cell 11
 have c13:=ag.cell 13
 have c14:=ag.cell 14
 have z13:=ag.frozen 13
 have z14:=ag.frozen 14
 simp only [dV,List.getElem?_toArray,List.getElem?_cons_succ,List.getElem?_cons_zero] at c10 c11 c13 c14
 have iO:Hid (∀ w3,Own w3 a (bI {G with sec:=z})->ab (·=a.f) w2 w3->gu.bh w M a G (lm M) (bI {G with sec:=z}) w3):=Lib.hid fun w3 h3 h4=>
  oX HM.out (a':=a) (cO.plain h3 (uI _)) rfl (sO (uI _)) HG.out (ae.trans h4) (fun x q=>.inl q)
 by_cases h0:G.fi=0
 ·have e:Hid (begun {G with sec:=z}=bI {G with sec:=z}):=Lib.hid (by unfold begun; rw [if_pos (.inl h0)])
  rw [h0] at c10
  have hN:=Lib.hid (oW ag (by show G.bucket<=_; omega) (by show G.nw.1<=_; omega))
  clear ag ae h0
  go_wp2_with fail
  refine hN.out.mono ?_
  rintro e w3 ⟨rfl,an,gU⟩
  have hS:=Lib.hid (iO.out w3 an gU)
  clear hN an gU iO c10 c11 c13 c14 z13 z14
  go_wp2_with fail
  go_ret
  exact ⟨rfl,by rw [e.out]; exact hS.out⟩
 have q0:((G.fi:Int)==0)=false:=by simp; omega
 by_cases h1:z=0
 ·have e:Hid (begun {G with sec:=z}=bI {G with sec:=z}):=Lib.hid (by unfold begun; rw [if_pos (.inr h1)])
  have hN:=Lib.hid (oW ag (by show G.bucket<=_; omega) (by show G.nw.1<=_; omega))
  rw [h1] at c11
  clear ag ae h0 h1
  go_wp2_with fail
  refine hN.out.mono ?_
  rintro e w3 ⟨rfl,an,gU⟩
  have hS:=Lib.hid (iO.out w3 an gU)
  clear hN an gU iO c10 c11 c13 c14 z13 z14
  go_wp2_with fail
  go_ret
  exact ⟨rfl,by rw [e.out]; exact hS.out⟩
 have q1:((z:Int)==0)=false:=by simp; omega
 have e:Hid (begun {G with sec:=z}=dm {G with sec:=z,la:=0,met:=[]} G.fi):=Lib.hid (by unfold begun; rw [if_neg (by simp [h0,h1])])
 clear h0 h1 iO
 obtain ⟨B,hB⟩:∃ B,B=w2.heap.size:=⟨_,rfl⟩
 have vc:=@run_makeMap Tryz.prog
 have ay:Own (w2.alloc (.map #[] 0)) a {G with sec:=z}:=af.only ag ((ab.refl (fun _=>False) w2).alloc _) (by simp)
 have bB:Me.Met (w2.alloc (.map #[] 0)) B []:=by rw [hB]; exact Me.Met.made w2
 have az:Own (((w2.alloc (.map #[] 0)).setCell ⟨a.f,13,none⟩ (.int .u64 0)).setCell ⟨a.f,14,none⟩ (.map (some B))) {a with mv:=.map (some B),B:=B} {G with sec:=z,la:=0,met:=[]}:=(ay.store 13 (.int .u64 0)).store 14 (.map (some B))
 have aN:=kG (c:=a.f) (w2.alloc (.map #[] 0)) 13 14 (.int .u64 0) (.map (some B))
 have dP:=bB.only aN (DG ay bB)
 have bN:=Lib.hid ((ae.alloc (.map #[] 0)).trans aN)
 have g10:=az.cell 10
 simp only [dV,List.getElem?_toArray,List.getElem?_cons_succ,List.getElem?_cons_zero] at g10
 have hC:=Lib.hid (wI az rfl dP (by show z<=_; exact ke.out) (by show G.bucket<=_; omega) (by show G.nw.1<=_; omega) hf)
 have aV:Hid (w.heap.size<=B):=Lib.hid (by rw [hB]; exact ae.size)
 have aL:=Lib.hid (DG az dP)
 replace dP:=Lib.hid dP
 have k13:=ay.cell 13
 have k14:=ay.cell 14
 have y13:=ay.frozen 13
 have y14:=ay.frozen 14
 simp only [dV,List.getElem?_toArray,List.getElem?_cons_succ,List.getElem?_cons_zero] at k13 k14
 clear ag ae ay bB az aN
 rw [hB] at g10
 go_wp2_with fail
 rw [<-hB]
 clear vc hB c10 c11 c13 c14 z13 z14 k13 k14 y13 y14
 refine hC.out.mono ?_
 rintro e w3 ⟨rfl,an,gU⟩
 have hS:Hid (gu.bh w M a G (lm M) (dm {G with sec:=z,la:=0,met:=[]} G.fi) w3):=Lib.hid (by
  have hA:=JM an rfl (dP.out.only gU aL.out)
  refine oX HM.out (a':={a with mv:=.map (some B),B:=B}) hA rfl ?_ HG.out (bN.out.trans gU) (fun x q=>.inl q)
  rintro x (q | ⟨_,q⟩ | ⟨q,_⟩)
  ·exact .inl (.inl q)
  ·rw [q]; exact .inr aV.out
  ·exfalso
   unfold dm at q
   split at q
   ·exact (zV _).2 q
   ·simp at q)
 clear hC an gU g10
 go_wp2_with fail
 go_ret
 exact ⟨rfl,by rw [e.out]; exact hS.out⟩
end
end Go.Proofs.YtpanebgakndddaaGreat.Sw
