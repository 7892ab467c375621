/- Walks and plain mathematics, put together in their order: MapC, TenC, ElD, FnA, MapD, DelA, DelB, LawEightA, ElE. -/
import Derived.Test.YtkogifmjbmnpgaaGreatPart10
import Derived.Test.YtkogifmjbmnpgaaGreatGetD
import Derived.Laws.CopyOwn
import Derived.Deep.DeepCutAuto
import Derived.Deep.CutBlock
set_option linter.unusedVariables false
set_option linter.unusedSimpArgs false
namespace Go.Proofs.YtkogifmjbmnpgaaGreat.Mq
open Go Go.RowKit Hp K Fl Rw Hm Ar Mm Me Wk Ta Pn Pc Pu Re
theorem kys_prs (q:List Mq.Hp):(prs q).map (·.1)=kys q:=by rw [List.map_map]; rfl
section
variable {L:Lm} {n B:Nat} {cs:Nat→List Mq.Hp} {l:List Pr} {G:Nat} {key val:ByteArray} {i:Int} {hb:Nat}
theorem Mp.small (h:Mp L n B cs l G):L.ws.length+(alls n cs).length≤1024∧L.ss.length≤1024:=by
 have:=h.wr.cnt
 have:=h.wr.room
 omega
theorem Mp.ql (h:Mp L n B cs l G) {b:Nat} (hb:b<n):(cs b).length≤(alls n cs).length:=by
 have:=(alls_self hb cs).length_eq
 simp only [List.length_append,List.length_map] at this
 omega
abbrev Mp.ep (L:Lm) (n B:Nat) (cs:Nat→List Mq.Hp) (key val:ByteArray) (i:Int) (hb:Nat):Ep:=⟨L,key,val,i,hb,(n,B),B+bkt key n,cs (bkt key n)⟩
theorem Mp.eok (h:Mp L n B cs l G) (hG:G≤1000000) (hi:0≤i∧i≤1000):(Mp.ep L n B cs key val i hb).Ok:=by
 have hsm:=h.small
 obtain ⟨hb1,hb2⟩:=bkt_lt h.pw key
 have hql:=h.ql hb1
 have hnb:=h.n_bd
 have hkB:=h.kB
 have hk:=h.k
 have hxl:=h.xl
 refine ⟨hsm.2,h.nexts,h.tb,hi,h.xb,h.hs,h.now,by show n≠0; omega,?_,by show B+bkt key n<L.xs.length; omega,by show 1<L.xs.length; omega,h.ch _ hb1,fun k=>by have:=h.wr.gens k; show (at' L.ss k).gen≤_; omega,by show L.ws.length≤_; omega,by show (cs _).length≤_; omega⟩
 show ((B+bkt key n:Nat):Int)=(B:Int)+FM.bucket (sm key) n
 rw [hb2]
 omega
theorem fnd_lk (h:Mp L n B cs l G) {W:Wa} (hf:Fnd (Mp.ep L n B cs key val i hb) W):decide (W.found≠0)=(Pc.lk l key).isSome:=by
 rw [h.lk]
 rcases hf with ⟨h0,hk,_⟩ | ⟨pre,x,p,t,z,k,hq,hp,hx,hk,hnd,hW,hc,hpv⟩
 · have:Pc.lk (prs (cs (bkt key n))) key=none:=lk_none.2 (by simpa using hk)
   rw [this,h0]
   rfl
 · have hm:p∈prs (cs (bkt key n)):=by
    have hq:cs (bkt key n)=_:=hq
    rw [hq]
    simp
   have hp:p.1=key:=hp
   have hn:((prs (cs (bkt key n))).map (·.1)).Nodup:=by
    rw [kys_prs]
    exact h.kd _ (bkt_lt h.pw key).1
   have:=lk_mem hn hm
   rw [hp] at this
   rw [this,hx]
   simp [hk.pos]
theorem put_map (h:Mp L n B cs l G) (hG:G≤1000000) (hi:0≤i∧i≤1000) {s:Lm×Pt} (hq:Qp (Mp.ep L n B cs key val i hb) s):
 decide (s.2.W.found≠0)=(Pc.lk l key).isSome∧s.2.mine=0∧
  ((freePl L.ss=none∧s.1=L∧s.2.err=4)∨((freePl L.ss).isSome∧s.2.err=0∧s.1.ws.length=L.ws.length+(if (Pc.lk l key).isSome then 1 else 0)∧s.1.ss.length=L.ss.length∧s.1.k=L.k∧∃ cs',∀ l',Upd l l' key val→Mp s.1 n B cs' l' (G+1))):=by
 have hE:=h.eok (key:=key) (val:=val) (i:=i) (hb:=hb) hG hi
 cases hq with
 | full W hf hfr=>exact ⟨fnd_lk h hf,rfl,.inl ⟨hfr,rfl,rfl⟩⟩
 | done W m hf hm=>
   have hlk:=fnd_lk h hf
   refine ⟨hlk,rfl,.inr ⟨by show (freePl L.ss).isSome; rw [freePl_some.2 hm]; rfl,rfl,?_,?_,(putL_hs _ W m).2.2.2.2,?_⟩⟩
   · show (putW (Mp.ep L n B cs key val i hb) W).length=_
     unfold putW
     rw [← hlk]
     by_cases h0:W.found≠0
     · rw [if_pos h0,if_pos (by simpa using h0)]; simp
     · rw [if_neg h0,if_neg (by simpa using h0)]
       rfl
   · show (putL _ W m).ss.length=_
     unfold putL lnk Ep.ss
     split<;>simp
   obtain ⟨hb1,hb2⟩:=bkt_lt h.pw key
   obtain ⟨b0,hb0⟩:∃ b0,b0=bkt key n:=⟨_,rfl⟩
   have hml:m<L.ss.length:=hm.1
   have hxl:=h.xl
   have hN:=hE.nexts_ss hf hm
   have hnb:=hE.new_bd hm
   have hs:∀ (y k:Nat),IsAt L.ss y k→IsAt (Ep.ss (Mp.ep L n B cs key val i hb) W m) y k∧at' (Ep.ss (Mp.ep L n B cs key val i hb) W m) k=at' L.ss k∧k≠m:=fun y k hk=>keep_set hm _ hk
   have hnew:IsAt (Ep.ss (Mp.ep L n B cs key val i hb) W m) (Ep.new (Mp.ep L n B cs key val i hb) m) m:=(isAt_turn hml _ _ _).2 (by rw [if_pos rfl]; exact ⟨rfl,rfl⟩)
   have hnd:(at' (Ep.ss (Mp.ep L n B cs key val i hb) W m) m).nd=⟨key,val,sm key,fol W⟩:=by
    show (at' (L.ss.set m _) m).nd=_
    rw [at_set hml,if_pos rfl]
   have hwr:=h.wr.put hm ⟨key,val,sm key,fol W⟩
   have hupd1:∀ {l':List Pr},Upd l l' key val→∀ key',bkt key' n≠b0→Pc.lk l' key'=Pc.lk l key':=fun hu key' hne=>by
    rw [hu.lk,if_neg (by rintro rfl; exact hne hb0.symm)]
   have hch:=h.ch b0 (by rw [hb0]; exact hb1)
   have hxb':∀ x∈L.xs.set (B+b0) ((Ep.new (Mp.ep L n B cs key val i hb) m:Nat):Int),0≤x∧x≤18446744073709551615:=by
    intro x hx
    rcases List.mem_or_eq_of_mem_set hx with q | rfl
    · exact h.xb x q
    · exact ⟨by omega,by omega⟩
   have hxset:Cl.nth (L.xs.set (B+b0) ((Ep.new (Mp.ep L n B cs key val i hb) m:Nat):Int)) (B+b0)=((Ep.new (Mp.ep L n B cs key val i hb) m:Nat):Int):=by
    rw [nth_set _ _ _ (by omega),if_pos rfl]
   have hkeep:∀ b,b<n→b≠b0→Cx (Ep.ss (Mp.ep L n B cs key val i hb) W m) (Cl.nth L.xs (B+b)).toNat (cs b):=fun b hb' _=>(h.ch b hb').keep fun y _ k hk=>⟨(hs y k hk).1,by rw [(hs y k hk).2.1]⟩
   have hap:=alls_self (n:=n) (b0:=b0) (by omega) cs
   have hkq:=h.kd b0 (by omega)
   have hbq:=h.bk b0 (by omega)
   have hlq:∀ key',bkt key' n=b0→Pc.lk l key'=Pc.lk (prs (cs b0)) key':=fun key' e=>by rw [h.lk,e]
   rcases hf with ⟨h0,hk,hfw⟩ | ⟨pre,x,p,t,z,k,hq,hp,hx,hk,hndx,hW,hc,hpv⟩
   ·
    have hk:key∉kys (cs b0):=by rw [hb0]; exact hk
    have hfol:fol W=(((Cl.nth L.xs (B+b0)).toNat:Nat):Int):=by
     unfold fol
     rw [if_neg (by omega),hfw,hb0]
    have e:({putL (Mp.ep L n B cs key val i hb) W m with ws:=putW (Mp.ep L n B cs key val i hb) W}:Lm)={L with xs:=L.xs.set (B+b0) ((Ep.new (Mp.ep L n B cs key val i hb) m:Nat):Int),ss:=Ep.ss (Mp.ep L n B cs key val i hb) W m,ws:=L.ws}:=by
     unfold putL putW
     rw [if_neg (by omega),if_neg (by omega),hb0]
    simp only [e]
    refine ⟨turn cs b0 ((Ep.new (Mp.ep L n B cs key val i hb) m,(key,val))::cs b0),fun l' hu=>?_⟩
    have hpa:=alls_perm (n:=n) (b0:=b0) (by omega) cs ((Ep.new (Mp.ep L n B cs key val i hb) m,(key,val))::cs b0)
    have hpb:(alls n (turn cs b0 ((Ep.new (Mp.ep L n B cs key val i hb) m,(key,val))::cs b0))).Perm (Ep.new (Mp.ep L n B cs key val i hb) m::alls n cs):=hpa.trans (List.Perm.cons _ hap.symm)
    have hl0:Pc.lk l key=none:=by
     rw [hlq key hb0.symm]
     exact lk_none.2 (by simpa using hk)
    refine h.turned (by omega) (by simp) (fun j hj=>?_) hxb' hN ?_ hkeep ?_ ?_ ?_ hu.nd (hupd1 hu) (fun key' e'=>?_) ?_
    · rw [nth_set _ _ _ (by omega),if_neg hj]
    · rw [hxset,Int.toNat_natCast]
      refine .cons hnew (z:=(Cl.nth L.xs (B+b0)).toNat) ?_ (hch.keep fun y _ k hk=>⟨(hs y k hk).1,by rw [(hs y k hk).2.1]⟩)
      rw [hnd,hfol]
      rfl
    · intro e he
      rcases List.mem_cons.1 he with rfl | he
      · rw [hb0]; exact hb2
      · exact hbq e he
    · exact List.nodup_cons.2 ⟨hk,hkq⟩
    · refine hwr.perm ?_
      refine (List.Perm.append_left L.ws hpb).trans ?_
      rw [List.append_assoc]
      exact List.Perm.refl _
    · rw [hu.lk]
      show _=Pc.lk ((key,val)::prs (cs b0)) key'
      simp only [Pc.lk]
      by_cases hkk:key'=key
      · rw [if_pos hkk,if_pos hkk.symm]
      · rw [if_neg hkk,if_neg (fun q=>hkk q.symm)]
        exact hlq key' e'
    · rw [hu.len,hl0,hpb.length_eq,List.length_cons,h.len]
      rfl
   ·
    have hq:cs b0=pre++(x,p)::t:=by rw [hb0]; exact hq
    have hp:p.1=key:=hp
    have hx0:W.found≠0:=by rw [hx]; exact hk.pos
    have hfol:fol W=((z:Nat):Int):=by
     unfold fol
     rw [if_pos hx0,hW]
     rfl
    have hl0:(Pc.lk l key).isSome=true:=by rw [← hlk]; simpa using hx0
    have hkys:kys (pre++((Ep.new (Mp.ep L n B cs key val i hb) m,(key,val)):Mq.Hp)::t)=kys (cs b0):=by rw [hq]; simp [hp]
    have hpa:=alls_perm (n:=n) (b0:=b0) (by omega) cs (pre++((Ep.new (Mp.ep L n B cs key val i hb) m,(key,val)):Mq.Hp)::t)
    have hpb:(x::alls n (turn cs b0 (pre++((Ep.new (Mp.ep L n B cs key val i hb) m,(key,val)):Mq.Hp)::t))).Perm (Ep.new (Mp.ep L n B cs key val i hb) m::alls n cs):=by
     refine (List.Perm.cons x hpa).trans ?_
     refine List.Perm.trans ?_ (List.Perm.cons _ hap.symm)
     rw [hq]
     simp only [hds,List.map_append,List.map_cons,List.append_assoc,List.cons_append]
     refine (List.Perm.cons x List.perm_middle).trans ?_
     refine (List.Perm.swap _ _ _).trans ?_
     exact List.Perm.cons _ List.perm_middle.symm
    have hacc:∀ {ss':List Sl},Wr ss' (L.ws++[Ep.new (Mp.ep L n B cs key val i hb) m]) (alls n cs) (G+1)→Wr ss' (L.ws++[W.found]) (alls n (turn cs b0 (pre++((Ep.new (Mp.ep L n B cs key val i hb) m,(key,val)):Mq.Hp)::t))) (G+1):=fun hw=>by
     refine hw.perm ?_
     rw [hx,List.append_assoc,List.append_assoc]
     exact List.Perm.append_left _ hpb
    have hlen:∀ {l':List Pr},Upd l l' key val→l'.length=(alls n (turn cs b0 (pre++((Ep.new (Mp.ep L n B cs key val i hb) m,(key,val)):Mq.Hp)::t))).length:=fun hu=>by
     have:=hpb.length_eq
     simp only [List.length_cons] at this
     rw [hu.len,if_pos hl0,h.len]
     omega
    have hlk2:∀ {l':List Pr},Upd l l' key val→∀ key',bkt key' n=b0→Pc.lk l' key'=Pc.lk (prs (pre++((Ep.new (Mp.ep L n B cs key val i hb) m,(key,val)):Mq.Hp)::t)) key':=fun hu key' e'=>by
     rw [hu.lk]
     by_cases hkk:key'=key
     · rw [if_pos hkk,hkk]
       refine (lk_mem (p:=(key,val)) ?_ ?_).symm
       · rw [kys_prs,hkys]; exact hkq
       · simp
     · rw [if_neg hkk,hlq key' e',hq]
       simp only [prs,List.map_append,List.map_cons]
       exact lk_swap (by rw [hp]; exact fun q=>hkk q.symm) (fun q=>hkk q.symm)
    have hbk':∀ e∈pre++((Ep.new (Mp.ep L n B cs key val i hb) m,(key,val)):Mq.Hp)::t,FM.bucket (sm e.2.1) n=(b0:Nat):=by
     intro e he
     rcases List.mem_append.1 he with he | he
     · exact hbq e (by rw [hq]; exact List.mem_append_left _ he)
     · rcases List.mem_cons.1 he with rfl | he
       · rw [hb0]; exact hb2
       · exact hbq e (by rw [hq]; exact List.mem_append_right _ (List.mem_cons_of_mem _ he))
    have hct:Cx (Ep.ss (Mp.ep L n B cs key val i hb) W m) z t:=hc.keep fun y _ k hk=>⟨(hs y k hk).1,by rw [(hs y k hk).2.1]⟩
    have hndz:(at' (Ep.ss (Mp.ep L n B cs key val i hb) W m) m).nd=ndp (key,val) z:=by rw [hnd,hfol]; rfl
    by_cases hpre:pre=[]
    ·
     subst hpre
     have hpv0:W.prev=0:=hpv
     have e:({putL (Mp.ep L n B cs key val i hb) W m with ws:=putW (Mp.ep L n B cs key val i hb) W}:Lm)={L with xs:=L.xs.set (B+b0) ((Ep.new (Mp.ep L n B cs key val i hb) m:Nat):Int),ss:=Ep.ss (Mp.ep L n B cs key val i hb) W m,ws:=L.ws++[W.found]}:=by
      unfold putL putW
      rw [if_neg (by omega),if_pos hx0,hb0]
     simp only [e]
     refine ⟨turn cs b0 ([]++((Ep.new (Mp.ep L n B cs key val i hb) m,(key,val)):Mq.Hp)::t),fun l' hu=>?_⟩
     refine h.turned (by omega) (by simp) (fun j hj=>?_) hxb' hN ?_ hkeep hbk' (by rw [hkys]; exact hkq) (hacc hwr) hu.nd (hupd1 hu) (hlk2 hu) (hlen hu)
     · rw [nth_set _ _ _ (by omega),if_neg hj]
     · rw [hxset,Int.toNat_natCast]
       exact .cons hnew hndz hct
    ·
     have hpv0:W.prev≠0:=by
      rw [hpv]
      exact lastH_ne (ss:=L.ss) (by have:=hch; rw [hq] at this; exact this) hpre
     obtain ⟨p0,e0,rfl⟩:∃ p0 e,pre=p0++[e]:=⟨pre.dropLast,pre.getLast hpre,(List.dropLast_concat_getLast hpre).symm⟩
     rw [lastH_snoc] at hpv
     rw [hq] at hch
     obtain ⟨j,zj,hj,hndj⟩:=hch.at e0 (by simp)
     have hjs:=hs _ _ hj
     have hroom:=h.small.2
     have hjp:(W.prev-1) % 65536=j:=by rw [hpv]; exact (isAt_parts hroom hj).1
     have hjl:j<(Ep.ss (Mp.ep L n B cs key val i hb) W m).length:=hjs.1.1
     have e:({putL (Mp.ep L n B cs key val i hb) W m with ws:=putW (Mp.ep L n B cs key val i hb) W}:Lm)={L with xs:=L.xs,ss:=lnk (Ep.ss (Mp.ep L n B cs key val i hb) W m) W.prev (Ep.new (Mp.ep L n B cs key val i hb) m),ws:=L.ws++[W.found]}:=by
      unfold putL putW
      rw [if_pos ⟨hx0,hpv0⟩,if_pos hx0]
     simp only [e]
     have hat:∀ kk,at' (lnk (Ep.ss (Mp.ep L n B cs key val i hb) W m) W.prev (Ep.new (Mp.ep L n B cs key val i hb) m)) kk=if kk=j then {at' (Ep.ss (Mp.ep L n B cs key val i hb) W m) j with nd:={(at' (Ep.ss (Mp.ep L n B cs key val i hb) W m) j).nd with next:=((Ep.new (Mp.ep L n B cs key val i hb) m:Nat):Int)}} else at' (Ep.ss (Mp.ep L n B cs key val i hb) W m) kk:=fun kk=>by
      unfold lnk
      rw [hjp,at_set hjl]
     have hat2:∀ kk,(at' (lnk (Ep.ss (Mp.ep L n B cs key val i hb) W m) W.prev (Ep.new (Mp.ep L n B cs key val i hb) m)) kk).taken=(at' (Ep.ss (Mp.ep L n B cs key val i hb) W m) kk).taken∧(at' (lnk (Ep.ss (Mp.ep L n B cs key val i hb) W m) W.prev (Ep.new (Mp.ep L n B cs key val i hb) m)) kk).gen=(at' (Ep.ss (Mp.ep L n B cs key val i hb) W m) kk).gen:=fun kk=>by
      rw [hat]
      split
      · rename_i e; subst e; exact ⟨rfl,rfl⟩
      · exact ⟨rfl,rfl⟩
     have hll:(lnk (Ep.ss (Mp.ep L n B cs key val i hb) W m) W.prev (Ep.new (Mp.ep L n B cs key val i hb) m)).length=(Ep.ss (Mp.ep L n B cs key val i hb) W m).length:=by unfold lnk; simp
     have hlive:∀ {y kk:Nat},IsAt (Ep.ss (Mp.ep L n B cs key val i hb) W m) y kk→IsAt (lnk (Ep.ss (Mp.ep L n B cs key val i hb) W m) W.prev (Ep.new (Mp.ep L n B cs key val i hb) m)) y kk:=fun {y kk} q=>⟨by rw [hll]; exact q.1,by rw [(hat2 kk).1]; exact q.2.1,by rw [(hat2 kk).2]; exact q.2.2⟩
     have hadn:=h.ad
     have hperm:=hap
     rw [hq] at hperm
     have hnodup:=hperm.nodup_iff.1 hadn
     have hne:∀ y kk,IsAt L.ss y kk→y≠e0.1→kk≠j:=by
      rintro y kk q1 q2 rfl
      exact q2 (by rw [q1.2.2,hj.2.2])
     have hkp:∀ y kk,IsAt L.ss y kk→y≠e0.1→IsAt (lnk (Ep.ss (Mp.ep L n B cs key val i hb) W m) W.prev (Ep.new (Mp.ep L n B cs key val i hb) m)) y kk∧(at' (lnk (Ep.ss (Mp.ep L n B cs key val i hb) W m) W.prev (Ep.new (Mp.ep L n B cs key val i hb) m)) kk).nd=(at' L.ss kk).nd:=fun y kk q1 q2=>by
      have h1:=hs y kk q1
      refine ⟨hlive h1.1,?_⟩
      rw [hat,if_neg (hne y kk q1 q2),h1.2.1]
     have hN2:Nexts (lnk (Ep.ss (Mp.ep L n B cs key val i hb) W m) W.prev (Ep.new (Mp.ep L n B cs key val i hb) m)):=nexts_lnk hN _ _ hnb
     refine ⟨turn cs b0 (p0++[e0]++((Ep.new (Mp.ep L n B cs key val i hb) m,(key,val)):Mq.Hp)::t),fun l' hu=>?_⟩
     have hn1:(hds (p0++[e0]++(x,p)::t)).Nodup:=(List.nodup_append.1 hnodup).1
     have hn2:∀ y∈hds p0,y≠e0.1:=by
      intro y hy q
      have:(hds p0++(e0.1::hds ((x,p)::t))).Nodup:=by simpa using hn1
      exact (List.nodup_append.1 this).2.2 y hy e0.1 (by simp) q
     have hn3:∀ y∈hds t,y≠e0.1:=by
      intro y hy q
      have:(hds p0++(e0.1::hds ((x,p)::t))).Nodup:=by simpa using hn1
      have:=(List.nodup_cons.1 (List.nodup_append.1 this).2.1).1
      exact this (by rw [← q]; exact List.mem_cons_of_mem _ hy)
     refine h.turned (by omega) rfl (fun j hj=>rfl) h.xb hN2 ?_ ?_ hbk' (by rw [hkys]; exact hkq) (hacc (hwr.nodes hll hat2)) hu.nd (hupd1 hu) (hlk2 hu) (hlen hu)
     · have hsw:Cx (lnk (Ep.ss (Mp.ep L n B cs key val i hb) W m) W.prev (Ep.new (Mp.ep L n B cs key val i hb) m)) (Cl.nth L.xs (B+b0)).toNat (p0++e0::(Ep.new (Mp.ep L n B cs key val i hb) m,(key,val))::t):=by
        refine Cx.swap (ss:=L.ss) (m:=m) (kp:=j) (z:=z) (e:=e0) (e':=(x,p)) (hlive hnew) ?_ ?_ p0 _ (by simpa using hch) hj (hlive hjs.1) ?_ (fun y hy kk q=>hkp y kk q (hn2 y hy))
        · rw [hat,if_neg (by have:=hjs.2.2; omega)]
          exact hndz
        · exact hc.keep fun y hy kk q=>hkp y kk q (hn3 y hy)
        · rw [hat,if_pos rfl]
          have hndj':(at' (Ep.ss (Mp.ep L n B cs key val i hb) W m) j).nd=ndp e0.2 zj:=by rw [hjs.2.1]; exact hndj
          simp only [hndj']
          rfl
       simpa using hsw
     · intro b hb' hbb
       refine (h.ch b hb').keep fun y hy kk q=>hkp y kk q ?_
       rintro rfl
       have hy2:e0.1∈((List.range n).erase b0).flatMap fun b=>hds (cs b):=List.mem_flatMap.2 ⟨b,(List.mem_erase_of_ne hbb).2 (by simpa using hb'),hy⟩
       exact (List.nodup_append.1 hnodup).2.2 e0.1 (by simp) e0.1 hy2 rfl
end
end Go.Proofs.YtkogifmjbmnpgaaGreat.Mq
namespace Go.Proofs.YtkogifmjbmnpgaaGreat.LawTen
open Go Go.RowKit Hp K Fl Rw Hm Ar Mm Me LK Qs Wk Gt Pc LawSix
set_option maxRecDepth 100000
theorem low_get {W0 a b:World} {M:Mo} {g:Ga} (ha:Below W0.heap.size W0 a) (hlo:∀ x,mfoot M x→W0.heap.size≤x) (hg:∀ x,gfoot g x→W0.heap.size≤x) (ho:Only (fun x=>mfoot M x∨gfoot g x) a b):Below W0.heap.size W0 b:=
 ha.trans (ho.toBelow ha.size (fun x hx q=>by
  rcases q with q | q
  · have:=hlo x q; omega
  · have:=hg x q; omega))
theorem ev_made {n k j:Nat} (hn:n≤1024) (hk:k≤8) (hj:j<k) (key:ByteArray) (F:Bool):Ev.Ok ⟨[(1,k+2)],List.replicate n .zero,1::List.replicate (k+2) 0,F,key,j,[],0⟩:=by
 have hb:=bucket_lt (n:=1) (by decide) (sm key) (sm_bd key).1
 have hz:∀ i,i≠0→Cl.nth (1::List.replicate (k+2) 0) i=0:=by
  intro i hi
  obtain ⟨i,rfl⟩:∃ i',i=i'+1:=⟨i-1,by omega⟩
  simp only [Cl.nth,List.getD,List.getElem?_cons_succ,List.getElem?_replicate]
  split<;>rfl
 have hnow:now (1::List.replicate (k+2) 0) [(1,k+2)]=(1,k+2):=by
  unfold now
  rw [hz 1 (by omega)]
  rfl
 have hc:Ev.cell ⟨[(1,k+2)],List.replicate n .zero,1::List.replicate (k+2) 0,F,key,j,[],0⟩=((k+2:Nat):Int):=by
  unfold Ev.cell cellOf
  simp only
  rw [hnow]
  simp only
  rw [if_neg (by omega)]
  omega
 refine ⟨by simp; omega,LawNine.nexts_zero n,?_,⟨by simp; omega,by simp only; omega⟩,?_,hz _ (by simp only; omega),?_,?_,Nat.le_refl _,by simp only; omega⟩
 · intro i
   simp only [tab,List.getD]
   rcases i with _ | i
   · simp; omega
   · simp
 · intro x hx
   simp only [List.mem_cons,List.mem_replicate] at hx
   omega
 · rw [hc]; simp only; omega
 · rw [hc]
   have:word (1::List.replicate (k+2) 0) ((k+2:Nat):Int)=0:=by
    unfold word
    split
    · rw [Int.toNat_natCast,hz _ (by omega)]; rfl
    · rfl
   simp only
   rw [this]
   exact .nil
set_option maxHeartbeats 1000000 in
theorem awake (w:World):Calls Tryz.prog 60 #[] w fun e w'=>e=.returned (.bool true)∧Below w.heap.size w w':=by
 have hN:=Lib.hid (made_yes 1 1 w (by omega) (by omega))
 go_enter Tryz.func60,Tryz.ntmps60
 go_wp2_with fail
 refine hN.out.mono ?_
 rintro e w1 ⟨M,rfl,hM,hlo,hB,h1,h2,h3,h4,h5,h6,h7⟩
 clear hN
 have hE:=Lib.hid (Gt.new_any 0 ⟨#[97]⟩ (by simp [maxLen]; decide) w1)
 have hv:Ev.Ok ⟨M.ds,M.ss,M.xs,M.F,⟨#[97]⟩,0,[],0⟩:=by
  rw [h1,h2,h6]
  exact ev_made (by omega) (by omega) (by omega) _ _
 replace hv:=Lib.hid hv
 replace hM:=Lib.hid hM
 replace hlo:=Lib.hid hlo
 replace hB:=Lib.hid hB
 clear h1 h2 h3 h7 h5 h4 h6
 go_wp2_with fail
 refine hE.out.mono ?_
 rintro e w2 ⟨a,rfl,hE2,hA2,hB2⟩
 have hM2:=hM.out.below hB2
 have hge:w.heap.size≤w1.heap.size:=hB.out.size
 have hB02:=Lib.hid (hB.out.trans (hB2.mono hge))
 have hF:=Lib.hid (get_ends hM2 hE2 hv.out 20 (by omega))
 have hA:=Lib.hid (fun x hx=>Nat.le_trans hge (hA2 x hx))
 clear hM hE hB2 hE2 hM2 hB hA2 hv hge
 go_wp2_with fail
 refine hF.out.mono ?_
 rintro e w3 ⟨n,G,a',rfl,hn,hr,hf,hM3,hG3,ea,_,hO3⟩
 obtain rfl:n=5:=by omega
 have hB3:=Lib.hid (low_get hB02.out hlo.out hA.out hO3)
 have hFd:=val_any hG3
 rw [hf.1,hf.2,ea] at hFd
 replace hFd:Hid (Calls Tryz.prog 92 #[ptr a.f] w3 fun e w'=>e=.returned (.tuple #[.string ⟨#[]⟩,.bool false])∧Below w3.heap.size w3 w'):=Lib.hid hFd
 clear hF hO3 hB02 hM3 hG3 hn hr hf ea hA hlo
 go_wp2_with fail
 refine hFd.out.mono ?_
 rintro e w4 ⟨rfl,hB4⟩
 have hB04:=Lib.hid (hB3.out.trans (hB4.mono hB3.out.size))
 clear hB3 hB4 hFd
 go_wp2_with fail
 refine (LawSix.awake _).mono ?_
 rintro e w5 ⟨rfl,hB5⟩
 have hB05:=Lib.hid (hB04.out.trans (hB5.mono hB04.out.size))
 clear hB5 hB04
 go_wp2_with fail
 refine (LawNine.awake _).mono ?_
 rintro e w6 ⟨rfl,hB6⟩
 have hB06:=Lib.hid (hB05.out.trans (hB6.mono hB05.out.size))
 clear hB6 hB05
 go_wp2_with fail
 go_ret
 exact ⟨rfl,hB06.out⟩
end Go.Proofs.YtkogifmjbmnpgaaGreat.LawTen
namespace Go.Proofs.YtkogifmjbmnpgaaGreat.LawEl
open Go Go.RowKit Hp K Fl Rw Hm Ar Mm Me LK Qs Wk Re LawSix Pn Pc Mq Pu LawTen
set_option maxRecDepth 100000
def Still (us:List TypeId) (w w':World):Prop:=∀ x t cs,t∉us→Blk w x t cs→Blk w' x t cs
theorem still_only {S:Nat→Prop} {us:List TypeId} {w w':World} (ho:Only S w w') (hS:∀ x,S x→Ty w x us):Still us w w':=fun x t cs ht hb=>hb.only ho (fun q=>(hS x q).apart (blk_ty hb) (fun t' h1 h2=>by
 have:t'=t:=by simpa using h2
 subst this
 exact ht h1))
structure S11 (W0 w:World) (M:Mo) (A:Option Addr) (cap:Nat) (l:List Pr):Prop where
 mem:MemAt w M
 row:Prs w A cap l
 below:Below W0.heap.size W0 w
 lom:∀ x,mfoot M x→W0.heap.size≤x
 low:∀ x,In A x→W0.heap.size≤x
section
variable {W0 w w':World} {M:Mo} {A:Option Addr} {cap:Nat} {l:List Pr} {n B:Nat} {cs:Nat→List Mq.Hp} {G:Nat}
theorem S11.down (h:S11 W0 w M A cap l) (hb:Below w.heap.size w w'):S11 W0 w' M A cap l:=
 ⟨h.mem.below hb,h.row.only (Only.ofBelow hb (fun _=>False)) (by simp),h.below.trans (hb.mono h.below.size),h.lom,h.low⟩
theorem S11.moved {M':Mo} {S:Nat→Prop} (h:S11 W0 w M A cap l) (hM:MemAt w' M') (hf:∀ x,mfoot M' x→mfoot M x∨w.heap.size≤x) (ho:Only S w w') (hS:∀ x,S x→W0.heap.size≤x) (hA:∀ x,In A x→¬S x):S11 W0 w' M' A cap l:=
 ⟨hM,h.row.only ho hA,h.below.trans (ho.toBelow h.below.size (fun x hx q=>by have:=hS x q; omega)),fun x hx=>by
  rcases hf x hx with q | q
  · exact h.lom x q
  · have:=h.below.size; omega,h.low⟩
theorem S11.apart (h:S11 W0 w M A cap l) {x:Nat} (hx:In A x) {us:List TypeId} (hd:59∉us):¬Ty w x us:=fun q=>q.apart (row_ty h.row hx) (by
 intro t ht ht2
 have:t=59:=by simpa using ht2
 subst this
 exact hd ht)
theorem S11.ap_mem (h:S11 W0 w M A cap l) {x:Nat} (hx:In A x):¬mfoot M x:=fun q=>h.apart hx (by decide) (h.mem.ty q)
def PutS (W0 w w':World) (M:Mo) (A:Option Addr) (cap:Nat) (lr l:List Pr) (n B G:Nat) (key val:ByteArray) (a:Qa):Prop:=
 ∃ (M':Mo) (a':Qa) (P':Pt),S11 W0 w' M' A cap lr∧M'.m=M.m∧PuAt w' a' P'∧a'.f=a.f∧P'.mine=0∧decide (P'.W.found≠0)=(Pc.lk l key).isSome∧M'.ss.length=M.ss.length∧M'.k=M.k∧Still (memTypes++putTypes) w w'∧
   ((freePl M.ss=none∧P'.err=4∧lm M'=lm M)∨((freePl M.ss).isSome∧P'.err=0∧M'.ws.length=M.ws.length+(if (Pc.lk l key).isSome then 1 else 0)∧∃ cs',∀ l',Upd l l' key val→Mp (lm M') n B cs' l' (G+1)))
theorem put_s {lr:List Pr} (h:S11 W0 w M A cap lr) (hm:Mp (lm M) n B cs l G) (hG:G≤1000000) {a:Qa} {hh:Nat} {i:Int} {key val:ByteArray} (hi:0≤i∧i≤1000) (hP:PuAt w a (newPut hh i key val)) (hlow:∀ x,pfoot a (newPut hh i key val) x→W0.heap.size≤x) (K:Nat) (hc:∀ b,b<n→(cs b).length+8≤K) (hK:K≤1000000):
 Calls Tryz.prog 9 #[ptr M.m,.iface 46 (ptr a.f),.int .i64 K] w fun e w'=>(∃ k:Nat,e=.returned (.tuple #[.int .i64 k,.bool true]))∧PutS W0 w w' M A cap lr l n B G key val a:=by
 have hE:=hm.eok (key:=key) (val:=val) (i:=i) (hb:=hh) hG hi
 have hcl:=hc (bkt key n) (bkt_lt hm.pw key).1
 refine (put_ends h.mem hP hE K ⟨by omega,hK⟩).mono fun e w' q=>?_
 obtain ⟨k,s,q1,_,q3,M',a',r1,r2,r3,r4,r5,r7,r8⟩:=q
 obtain ⟨m1,m2,m3⟩:=put_map hm hG hi q3
 have hff:∀ x,puL.foot a (newPut hh i key val) x→pfoot a (newPut hh i key val) x:=fun x q=>q
 refine ⟨⟨k,q1⟩,M',a',s.2,h.moved r1 r3.foot r8 (fun x q=>?_) (fun x hx q=>?_),r3.m,r4,r5,m2,m1,?_,?_,still_only r8 (fun x q=>?_),?_⟩
 · rcases q with q | q
   · exact h.lom x q
   · exact hlow x (hff x q)
 · rcases q with q | q
   · exact h.ap_mem hx q
   · exact h.apart hx (by decide) (hP.ty (hff x q))
 · have e:M'.ss=s.1.ss:=by rw [← r2]
   rcases m3 with ⟨_,q2,_⟩ | ⟨_,_,_,q4,_⟩
   · rw [e,q2]
   · rw [e,q4]
 · have e:M'.k=s.1.k:=by rw [← r2]
   rcases m3 with ⟨_,q2,_⟩ | ⟨_,_,_,_,q5,_⟩
   · rw [e,q2]
   · rw [e,q5]
 · rcases q with q | q
   · exact (h.mem.ty q).mono (fun t ht=>List.mem_append_left _ ht)
   · exact (hP.ty (hff x q)).mono (fun t ht=>List.mem_append_right _ ht)
 · rcases m3 with ⟨q1,q2,q3⟩ | ⟨q1,q2,q3,_,_,q6⟩
   · exact .inl ⟨q1,q3,r2.trans q2⟩
   · refine .inr ⟨q1,q2,?_,?_⟩
     · have e:M'.ws=s.1.ws:=by rw [← r2]
       rw [e,q3]
     · rw [r2]; exact q6
end
theorem Mp.ql2 {L:Lm} {n B:Nat} {cs:Nat→List Mq.Hp} {l:List Pr} {G:Nat} (h:Mp L n B cs l G):(∀ b,b<n→(cs b).length≤L.ss.length)∧(frees L.ss L.ss.length).length+L.ws.length+l.length=L.ss.length:=by
 have:=h.wr.cnt
 have hl:=h.len
 refine ⟨fun b hb=>?_,by omega⟩
 have:=h.ql hb
 omega
theorem freePl_frees (ss:List Sl):freePl ss=none↔(frees ss ss.length).length=0:=by
 rw [freePl_none]
 constructor
 · intro h
   rw [List.length_eq_zero_iff]
   apply List.eq_nil_iff_forall_not_mem.2
   intro a ha
   obtain ⟨h1,h2⟩:=mem_frees.1 ha
   rw [h a h1] at h2
   simp at h2
 · intro h k hk
   by_cases ht:(at' ss k).taken=true
   · exact ht
   · have hm:k∈frees ss ss.length:=mem_frees.2 ⟨hk,by simpa using ht⟩
     have:=List.length_pos_of_mem hm
     omega
theorem mp_new {L:Lm} {n B N:Nat} (hpw:FM.power n=true) (hn:n≤32) (hN:N≤1024) (hk:1≤L.k∧L.k≤8) (hkB:2+L.k≤B) (hB:B≤20) (hxs:∀ i,i≠0→i≠1→Cl.nth L.xs i=0) (hxl:L.xs.length=B+n) (hxb:∀ x∈L.xs,0≤x∧x≤18446744073709551615) (hnow:Me.now L.xs L.ds=(n,B)) (hds:∀ i,i<L.ds.length→1≤(tab L.ds i).1∧(tab L.ds i).1≤32∧(tab L.ds i).2+(tab L.ds i).1≤B+n)
 (hss:L.ss=List.replicate N .zero) (hhs:L.hs=List.replicate 6 (-1)) (hF:L.F=false) (hws:L.ws=[]):Mp L n B (fun _=>[]) [] 0:=by
 have ha:alls n (fun _=>([]:List Mq.Hp))=[]:=by simp [alls]
 refine ⟨hpw,hnow,fun i hi=>?_,fun i=>?_,hk,hkB,by omega,hxb,by rw [hss]; exact LawNine.nexts_zero N,fun b hb=>?_,fun b _ e he=>by simp at he,fun b _=>by simp,?_,by simp,fun key=>rfl,by rw [ha]; rfl,fun i hi=>hxs _ (by omega) (by omega),hhs,hF⟩
 · have:=hds i hi
   rw [hxl]
   omega
 · by_cases hi:i<L.ds.length
   · have:=hds i hi
     omega
   · rw [tab_none (by omega)]
     simp
 · rw [hxs _ (by omega) (by omega)]
   exact .nil
 · rw [ha,hss,hws]
   exact wr_new N hN
theorem nth_made (k i:Nat) (h:i≠0):Cl.nth (1::List.replicate k 0) i=0:=by
 obtain ⟨i,rfl⟩:∃ i',i=i'+1:=⟨i-1,by omega⟩
 simp only [Cl.nth,List.getD,List.getElem?_cons_succ,List.getElem?_replicate]
 split<;>rfl
theorem mp_made {w w':World} {n k:Nat} {M:Mo} (h:MadeP w n k M w') (hn:n≤1024) (hk:1≤k∧k≤8):Mp (lm M) 1 (k+2) (fun _=>[]) [] 0:=by
 obtain ⟨hM,hlo,hB,h1,h2,h3,h4,h5,h6,h7⟩:=h
 refine mp_new (N:=n) (by decide) (by omega) hn (by show 1≤M.k∧M.k≤8; omega) (by show 2+M.k≤_; omega) (by omega) (fun i h0 _=>by show Cl.nth M.xs i=0; rw [h1]; exact nth_made _ _ h0) (by show M.xs.length=_; rw [h1]; simp) hM.2.1.2.2.1 ?_ ?_ h2 h4 h3 h7
 · show Me.now M.xs M.ds=_
   unfold Me.now
   rw [h1,nth_made _ _ (by omega),h6]
   rfl
 · intro i hi
   have hi:i<M.ds.length:=hi
   show 1≤(tab M.ds i).1∧(tab M.ds i).1≤32∧(tab M.ds i).2+(tab M.ds i).1≤k+2+1
   rw [h6] at hi ⊢
   have:i=0:=by simpa using hi
   subst this
   exact ⟨by simp [tab],by simp [tab],by simp [tab]⟩
end Go.Proofs.YtkogifmjbmnpgaaGreat.LawEl
namespace Go.Proofs.YtkogifmjbmnpgaaGreat.LawFn
open Go Go.RowKit Hp K Fl Rw Hm Ar Mm Me LK Qs Wk Pc Pn Mq Pu Zp Mx LawTh Bs Zr LawEl
theorem fin_just {S:Type} {rd:S→Bool} {st:S→S} {dn:S→Bool} (R:Nat→S→Prop) (h:∀ k s,R k s→rd s=true∧1≤k∧(dn s=true→k=1)∧(dn s=false→R (k-1) (st s))):
 ∀ K k s,R k s→k≤K→∃ s',fin rd st dn K s=(k,true,s'):=by
 intro K
 induction K with
 | zero=>
   intro k s hR hk
   have:=(h k s hR).2.1
   omega
 | succ K ih=>
   intro k s hR hk
   obtain ⟨h1,h2,h3,h4⟩:=h k s hR
   unfold fin
   rw [if_pos h1]
   cases hd:dn s with
   | true=>
     rw [if_pos rfl,h3 hd]
     exact ⟨_,rfl⟩
   | false=>
     obtain ⟨s',e⟩:=ih (k-1) (st s) (h4 hd) (by omega)
     rw [if_neg (by simp),e]
     exact ⟨s',by simp only; rw [show k-1+1=k by omega]⟩
def left (nx:Nat):Nat:=if nx≤5 then 11-nx else 12-nx
def Idle (L0:Lm) (H:List Nat) (N:Num) (s:Nat) (l:List Pr) (xs:List Int) (ds:List (Nat×Nat)) (k:Nat) (S:Lm×Rz):Prop:=
 (∃ k0,Lone L0 H N s l k0 S)∧S.1.xs=xs∧S.1.ds=ds∧S.2.size=((now xs ds).1:Int)∧1≤S.2.nx∧S.2.nx≠6∧S.2.nx≤11∧k=left S.2.nx
theorem idle_step {L0:Lm} {H:List Nat} {N:Num} {s:Nat} {l:List Pr} {xs:List Int} {ds:List (Nat×Nat)} {k:Nat} {S:Lm×Rz} (h:Idle L0 H N s l xs ds k S):rready S.1 S.2=true∧1≤k∧(rdone S.1 S.2=true→k=1)∧(rdone S.1 S.2=false→Idle L0 H N s l xs ds (k-1) (rstep S.1 S.2))∧(rstep S.1 S.2).1.xs=xs∧(rstep S.1 S.2).1.ds=ds:=by
 obtain ⟨⟨k0,hL⟩,h1,h2,h3,h4,h5,h6,rfl⟩:=h
 obtain ⟨a1,a2,a3,a4,a5⟩:=hL.step
 have hlk:1≤left S.2.nx:=by unfold left; split<;>omega
 have hx:(rstep S.1 S.2).1.xs=xs∧(rstep S.1 S.2).1.ds=ds∧(rdone S.1 S.2=false→(rstep S.1 S.2).2.size=S.2.size∧(rstep S.1 S.2).2.nx=if S.2.nx=5 then 7 else S.2.nx+1):=by
  unfold rstep rdone
  rw [if_neg (by omega)]
  by_cases q1:S.2.nx=1
  · rw [if_pos q1]; exact ⟨h1,h2,fun _=>⟨rfl,by rw [q1]; rfl⟩⟩
  rw [if_neg q1]
  by_cases q2:S.2.nx≤4
  · rw [if_pos q2]; exact ⟨h1,h2,fun _=>⟨rfl,by rw [if_neg (by omega)]⟩⟩
  rw [if_neg q2]
  by_cases q3:S.2.nx=5
  · rw [if_pos q3]
    have e:Zr.look S.1 S.2={S.2 with nx:=7}:=by unfold Zr.look; rw [h1,h2,if_pos h3.symm]
    exact ⟨h1,h2,fun _=>by rw [e]; exact ⟨rfl,by rw [if_pos q3]⟩⟩
  rw [if_neg q3,if_neg h5]
  by_cases q4:S.2.nx≤10
  · rw [if_pos q4]; exact ⟨h1,h2,fun _=>⟨rfl,by rw [if_neg (by omega)]⟩⟩
  · rw [if_neg q4]; exact ⟨h1,h2,fun q=>by have:=of_decide_eq_false q; omega⟩
 refine ⟨a2,hlk,fun hd=>?_,fun hd=>?_,hx.1,hx.2.1⟩
 · unfold rdone at hd
   have:=of_decide_eq_true hd
   unfold left
   rw [if_neg (by omega)]
   omega
 · obtain ⟨b1,b2,b3⟩:=hx
   obtain ⟨b4,b5⟩:=b3 hd
   have hn:¬(S.2.nx=0∨11≤S.2.nx):=of_decide_eq_false hd
   refine ⟨⟨_,a5 hd⟩,b1,b2,by rw [b4]; exact h3,?_,?_,?_,?_⟩
   · rw [b5]; split<;>omega
   · rw [b5]; split<;>omega
   · rw [b5]; split<;>omega
   · rw [b5]
     unfold left
     by_cases q:S.2.nx=5
     · rw [if_pos q,q]; rfl
     · rw [if_neg q]
       split<;>split<;>omega
def Num1 (L:Lm) (t:Nat):Prop:=L.xs.length≤10+512*t∧L.ds.length≤1+8*t∧1≤Cl.nth L.xs 0∧Cl.nth L.xs 0≤1+20000*t
theorem pow_le {a b:Nat} (h:2 ^ a≤2 ^ b):a≤b:=by
 rcases Nat.lt_or_ge b a with q | q
 · have:=Nat.pow_lt_pow_right (show 1<2 by omega) q
   omega
 · exact q
theorem pow2 {n:Nat} (h:FM.power (n:Int)=true):∃ b,b≤16∧n=2 ^ b:=by
 obtain ⟨b,hb,e⟩:=(FM.power_iff _).1 h
 exact ⟨b,hb,by exact_mod_cast e⟩
section
variable {W0 w:World} {M:Mo} {n B:Nat} {cs:Nat→List Mq.Hp} {l:List Pr} {G:Nat}
def RzS (W0 w w':World) (M:Mo) (l:List Pr) (s G t:Nat) (i:Int) (a:Zr.Ra) (k n:Nat):Prop:=
 ∃ (M':Mo) (a':Zr.Ra) (R':Rz) (B':Nat) (cs':Nat→List Mq.Hp),S11 W0 w' M' none 0 []∧M'.m=M.m∧rzL.At w' a' R'∧rzL.f a'=rzL.f a∧R'.err=0∧Mp (lm M') s B' cs' l G∧M'.ss.length=M.ss.length∧M'.k=M.k∧M'.ws=M.ws∧Num1 (lm M') (t+1)∧(n=s→k=10∧M'.xs.length=M.xs.length)∧Only (fun x=>mfoot M x∨rzL.foot a (newRz i s) x) w w'∧∀ x,rzL.foot a' R' x→rzL.foot a (newRz i s) x∨w.heap.size≤x
theorem resize_w {t:Nat} (h:S11 W0 w M none 0 []) (hm:Mp (lm M) n B cs l G) (hG:G≤1000000) (hl:l.length≤30) (hnum:Num1 (lm M) t) (ht:t≤11) {s:Nat} (hs:FM.power (s:Int)=true) {c x tt ca:Nat} (hw:Ways l.length s n c x tt ca) (hc:c≤19900) (hx:x≤512) (htt:tt≤8) (hca:ca≤30*256) (K:Nat) (hK:c+10≤K∧K≤1000000) {a:Zr.Ra} {i:Int} (hi:0≤i∧i≤1000) (hP:rzL.At w a (newRz i s)) (hlow:∀ x,rzL.foot a (newRz i s) x→W0.heap.size≤x):
 Calls Tryz.prog 9 #[ptr M.m,.iface 35 (ptr (rzL.f a)),.int .i64 K] w fun e w'=>∃ k:Nat,e=.returned (.tuple #[.int .i64 k,.bool true])∧RzS W0 w w' M l s G t i a k n:=by
 obtain ⟨u1,u2,u3,u4⟩:=hnum
 have v1:M.xs.length≤10+512*t:=u1
 have v2:M.ds.length≤1+8*t:=u2
 have hrest:=rest_of hm hG u3 (by omega) (by omega) (cap:=1000) ⟨by omega,by omega⟩
 have hfl:=Zr.Mp.flat_len hm
 have hwa:Ways (rsOf n B 1000 cs).few s (rsOf n B 1000 cs).n c x tt ca:=by
  show Ways (flat n cs).length s n c x tt ca
  rw [hfl]
  exact hw
 have hnw:newRz i s=⟨i,s,1,0,.none⟩:=by unfold newRz; rw [if_pos hs]
 have hone:Lone (lm M) (allh n cs) ⟨10+512*(t+1),1+8*(t+1),1+20000*((t:Int)+1)⟩ s l (c+10) (lm M,newRz i s):=by
  refine ⟨.rest (rsOf n B 1000 cs),fun _ _ _=>True,c+10,ca,Nat.le_refl _,hrest,⟨⟨by rw [hnw]; exact hi,by rw [hnw],by rw [hnw],Zr.Kp.refl _,by show M.hs.length=6; have:M.hs=List.replicate 6 (-1):=hm.hs; rw [this]; simp,fun j a b=>?_,?_,⟨by simp only; omega,by simp only; omega,by simp only; omega⟩,List.Perm.refl _⟩,.take (rsOf n B 1000 cs) c x tt ca (by rw [hnw]; exact ⟨Nat.le_refl _,by simp⟩) hwa (by rw [hnw]; simp only; omega) (Nat.le_refl _) (by show 1000+ca≤_; omega) (by simp only; omega) (by simp only; omega)⟩,hm.zero⟩
  · have:M.hs=List.replicate 6 (-1):=hm.hs
    show Lo.hol M.hs j=hsF (newRz i s).nx (newRz i s).worker j
    rw [hnw,this]
    unfold hsF Lo.hol
    simp only [List.getD_eq_getElem?_getD,List.getElem?_replicate]
    rw [if_pos (by omega)]
    by_cases q:j=5
    · rw [if_pos q]; rfl
    · rw [if_neg q,if_neg (by omega)]; rfl
  · show Cl.nth (lm M).xs 0+_≤1+20000*((t:Int)+1)
    omega
 have hfin:=finish_frm rz_frm h.mem hP (Lone (lm M) (allh n cs) ⟨10+512*(t+1),1+8*(t+1),1+20000*((t:Int)+1)⟩ s l) (fun S=>Qr (lm M) (allh n cs) ⟨10+512*(t+1),1+8*(t+1),1+20000*((t:Int)+1)⟩ s l S.1 S.2∧∀ i:Nat,(i:Int)<S.1.k→Cl.nth S.1.xs (2+i)=0) (fun k S hS=>hS.step) (c+10) K hone hK.1 hK.2
 refine hfin.mono fun e w' q=>?_
 obtain ⟨k,S,q1,⟨q2,q3⟩,⟨⟨Y,r1,r2,r3,r4,r5,r6,r7,r8,r9,r10⟩,r11⟩,M',a',g1,g2,g3,g4,g5,g6,g7⟩:=q
 refine ⟨k,q1,M',a',S.2,Y.B,Y.cs,h.moved g1 g3.foot g7 (fun x q=>?_) (fun x hx=>by simp [In] at hx),g3.m,g4,g5,r3,?_,?_,?_,?_,?_,fun hns=>?_,g7,g6⟩
 · rcases q with q | q
   · exact h.lom x q
   · exact hlow x q
 · have:=Zr.mp_of hm r1 r7 r6 r11 r5 r4
   rw [r2] at this
   rw [g2]
   exact this
 · have:(lm M').ss=S.1.ss:=by rw [g2]
   have e:M'.ss=S.1.ss:=this
   rw [e]; exact r6.ss
 · have:(lm M').k=S.1.k:=by rw [g2]
   have e:M'.k=S.1.k:=this
   rw [e]; exact r6.k
 · have:(lm M').ws=S.1.ws:=by rw [g2]
   have e:M'.ws=S.1.ws:=this
   rw [e]; exact r6.ws
 · rw [g2]
   refine ⟨r9,r10,r1.base.p1,?_⟩
   have:((t+1:Nat):Int)=(t:Int)+1:=by omega
   rw [this]
   exact r8
 · subst hns
   have hidle:Idle (lm M) (allh n cs) ⟨10+512*(t+1),1+8*(t+1),1+20000*((t:Int)+1)⟩ n l M.xs M.ds 10 (lm M,newRz i n):=by
    have hnow:Me.now M.xs M.ds=(n,B):=hm.now
    exact ⟨⟨_,hone⟩,rfl,rfl,by rw [hnw,hnow],by rw [hnw]; simp,by rw [hnw]; simp,by rw [hnw]; simp,by rw [hnw]; rfl⟩
   obtain ⟨S',hS'⟩:=fin_just (rd:=fun s:Lm×Rz=>rready s.1 s.2) (st:=fun s=>rstep s.1 s.2) (dn:=fun s=>rdone s.1 s.2) (Idle (lm M) (allh n cs) ⟨10+512*(t+1),1+8*(t+1),1+20000*((t:Int)+1)⟩ n l M.xs M.ds) (fun k S hS=>by obtain ⟨a1,a2,a3,a4,_,_⟩:=idle_step hS; exact ⟨a1,a2,a3,a4⟩) K 10 _ hidle (by omega)
   obtain ⟨n9,S9,e9,_,hx9⟩:=fin_steps (rd:=fun s:Lm×Rz=>rready s.1 s.2) (st:=fun s=>rstep s.1 s.2) (dn:=fun s=>rdone s.1 s.2) (Idle (lm M) (allh n cs) ⟨10+512*(t+1),1+8*(t+1),1+20000*((t:Int)+1)⟩ n l M.xs M.ds) (fun S=>S.1.xs=M.xs) (fun k S hS=>by obtain ⟨a1,a2,a3,a4,a5,_⟩:=idle_step hS; exact ⟨a1,a2,fun _=>a5,a4⟩) K 10 _ hidle (by omega)
   rw [q3] at hS' e9
   injection hS' with e1 e2
   injection e9 with e3 e4
   injection e4 with _ e5
   refine ⟨e1,?_⟩
   have:(lm M').xs=S.1.xs:=by rw [g2]
   have e:M'.xs=S.1.xs:=this
   rw [e,e5,hx9]
def RfS (W0 w w':World) (M:Mo) (a:Zr.Ra) (i z:Int):Prop:=
 ∃ (M':Mo) (a':Zr.Ra) (R':Rz),S11 W0 w' M' none 0 []∧M'.m=M.m∧rzL.At w' a' R'∧rzL.f a'=rzL.f a∧R'.err=5∧lm M'=lm M∧Only (fun x=>mfoot M x∨rzL.foot a (newRz i z) x) w w'
theorem refuse_s (h:S11 W0 w M none 0 []) (hm:Mp (lm M) n B cs l G) {z:Int} (hz:FM.power z=false) {a:Zr.Ra} {i:Int} (hP:rzL.At w a (newRz i z)) (hlow:∀ x,rzL.foot a (newRz i z) x→W0.heap.size≤x) (K:Nat) (hK:1≤K∧K≤1000000):
 Calls Tryz.prog 9 #[ptr M.m,.iface 35 (ptr (rzL.f a)),.int .i64 K] w fun e w'=>e=.returned (.tuple #[.int .i64 1,.bool true])∧RfS W0 w w' M a i z:=by
 have hnw:newRz i z=⟨i,z,0,0,.none⟩:=by unfold newRz; rw [if_neg (by rw [hz]; simp)]
 have hkB:2+M.k≤B:=hm.kB
 have hk:1≤M.k∧M.k≤8:=hm.k
 have hxl:B+n≤M.xs.length:=hm.xl
 have hhs:M.hs=List.replicate 6 (-1):=hm.hs
 have hok:Okrz (lm M) (newRz i z):=⟨by rw [hnw]; simp,by show 1<M.xs.length; omega,by show M.hs.length=6; rw [hhs]; simp,fun q=>absurd (by rw [hnw]) q,fun j=>(hm.tb j).1,fun q=>by rw [hnw] at q; simp at q,fun q=>by rw [hnw] at q; simp at q,fun q=>by rw [hnw] at q; simp at q⟩
 have hst:rstep (lm M) (newRz i z)=(lm M,{newRz i z with err:=5,nx:=12}):=by unfold rstep; rw [if_pos (by rw [hnw])]
 have hrd:rready (lm M) (newRz i z)=true:=by unfold rready; rw [hnw]; simp
 have hdn:rdone (lm M) (newRz i z)=true:=by unfold rdone; rw [hnw]; simp
 refine (finish_frm rz_frm h.mem hP (fun k S=>k=1∧S=(lm M,newRz i z)) (fun S=>S=(lm M,{newRz i z with err:=5,nx:=12})) (fun k S hS=>by
  obtain ⟨rfl,rfl⟩:=hS
  exact ⟨hok,hrd,Nat.le_refl _,fun _=>hst,fun q=>by rw [hdn] at q; simp at q⟩) 1 K ⟨rfl,rfl⟩ hK.1 hK.2).mono fun e w' q=>?_
 obtain ⟨k,S,q1,⟨q2,q3⟩,q4,M',a',g1,g2,g3,g4,g5,g6,g7⟩:=q
 obtain ⟨S',hS'⟩:=fin_just (rd:=fun s:Lm×Rz=>rready s.1 s.2) (st:=fun s=>rstep s.1 s.2) (dn:=fun s=>rdone s.1 s.2) (fun k S=>k=1∧S=(lm M,newRz i z)) (fun k S hS=>by
  obtain ⟨rfl,rfl⟩:=hS
  exact ⟨hrd,Nat.le_refl _,fun _=>rfl,fun q=>by rw [hdn] at q; simp at q⟩) K 1 (lm M,newRz i z) ⟨rfl,rfl⟩ hK.1
 rw [q3] at hS'
 injection hS' with e1 _
 rw [e1] at q1
 rw [q4] at g2 g4
 refine ⟨q1,M',a',_,h.moved g1 g3.foot g7 (fun x q=>?_) (fun x hx=>by simp [In] at hx),g3.m,g4,g5,rfl,g2,g7⟩
 rcases q with q | q
 · exact h.lom x q
 · exact hlow x q
end
end Go.Proofs.YtkogifmjbmnpgaaGreat.LawFn
namespace Go.Proofs.YtkogifmjbmnpgaaGreat.Mq
open Go Go.RowKit Hp K Fl Rw Hm Ar Mm Me Wk Ta Pn Pc Pu Re
structure Del (l l':List Pr) (key:ByteArray):Prop where
 nd:(l'.map (·.1)).Nodup
 lk:∀ k,Pc.lk l' k=if k=key then none else Pc.lk l k
 len:l'.length+(if (Pc.lk l key).isSome then 1 else 0)=l.length
def delL (L:Lm) (c:Nat) (W:Wa):Lm:=
 if W.found=0 then L else if W.prev≠0 then {L with ss:=lnk L.ss W.prev W.nd.next.toNat,ws:=L.ws++[W.found]} else {L with xs:=L.xs.set c W.nd.next,ws:=L.ws++[W.found]}
section
variable {L:Lm} {n B:Nat} {cs:Nat→List Mq.Hp} {l:List Pr} {G:Nat} {key val:ByteArray} {i:Int} {hb:Nat}
theorem del_map (h:Mp L n B cs l G) {W:Wa} (hf:Fnd (Mp.ep L n B cs key val i hb) W):
 (delL L (B+bkt key n) W).ws.length=L.ws.length+(if (Pc.lk l key).isSome then 1 else 0)∧(delL L (B+bkt key n) W).ss.length=L.ss.length∧(delL L (B+bkt key n) W).k=L.k∧
   ∃ cs',∀ l',Del l l' key→Mp (delL L (B+bkt key n) W) n B cs' l' G:=by
 have hlk:=fnd_lk h hf
 refine ⟨?_,?_,?_,?_⟩
 · unfold delL
   rw [← hlk]
   by_cases h0:W.found=0
   · rw [if_pos h0,if_neg (by simp [h0])]; rfl
   · rw [if_neg h0,if_pos (show decide (W.found≠0)=true by simp [h0])]
     split<;>simp
 · unfold delL lnk
   split
   · rfl
   · split<;>simp
 · unfold delL
   split
   · rfl
   · split<;>rfl
 obtain ⟨hb1,hb2⟩:=bkt_lt h.pw key
 obtain ⟨b0,hb0⟩:∃ b0,b0=bkt key n:=⟨_,rfl⟩
 have hxl:=h.xl
 have hupd1:∀ {l':List Pr},Del l l' key→∀ key',bkt key' n≠b0→Pc.lk l' key'=Pc.lk l key':=fun hu key' hne=>by
  rw [hu.lk,if_neg (by rintro rfl; exact hne hb0.symm)]
 have hch:=h.ch b0 (by rw [hb0]; exact hb1)
 have hap:=alls_self (n:=n) (b0:=b0) (by omega) cs
 have hkq:=h.kd b0 (by omega)
 have hbq:=h.bk b0 (by omega)
 have hlq:∀ key',bkt key' n=b0→Pc.lk l key'=Pc.lk (prs (cs b0)) key':=fun key' e=>by rw [h.lk,e]
 rcases hf with ⟨h0,hk,hfw⟩ | ⟨pre,x,p,t,z,k,hq,hp,hx,hk,hndx,hW,hc,hpv⟩
 ·
  have hk:key∉kys (cs b0):=by rw [hb0]; exact hk
  have hl0:Pc.lk l key=none:=by
   rw [hlq key hb0.symm]
   exact lk_none.2 (by rw [kys_prs]; exact hk)
  have e:delL L (B+bkt key n) W=L:=by unfold delL; rw [if_pos h0]
  rw [e]
  refine ⟨cs,fun l' hu=>{h with ln:=hu.nd,lk:=fun key'=>?_,len:=?_}⟩
  · rw [hu.lk,← h.lk]
    split
    · rename_i e; rw [e,hl0]
    · rfl
  · have:=hu.len
    rw [hl0] at this
    simp only [Option.isSome_none,Bool.false_eq_true,if_false,Nat.add_zero] at this
    rw [this,h.len]
 · have hq:cs b0=pre++(x,p)::t:=by rw [hb0]; exact hq
   have hp:p.1=key:=hp
   have hx0:W.found≠0:=by rw [hx]; exact hk.pos
   have hnz:W.nd.next=((z:Nat):Int):=by rw [hW]; rfl
   have hl0:(Pc.lk l key).isSome=true:=by rw [← hlk]; simpa using hx0
   have hpa:=alls_perm (n:=n) (b0:=b0) (by omega) cs (pre++t)
   have hpb:(x::alls n (turn cs b0 (pre++t))).Perm (alls n cs):=by
    refine (List.Perm.cons x hpa).trans ?_
    refine List.Perm.trans ?_ hap.symm
    rw [hq]
    simp only [hds,List.map_append,List.map_cons,List.append_assoc,List.cons_append]
    exact List.perm_middle.symm
   have hacc:∀ {ss':List Sl},Wr ss' L.ws (alls n cs) G→Wr ss' (L.ws++[W.found]) (alls n (turn cs b0 (pre++t))) G:=fun hw=>by
    refine hw.perm ?_
    rw [hx,List.append_assoc]
    exact List.Perm.append_left _ hpb
   have hkn:(kys (pre++t)).Nodup:=by
    have:(kys (pre++t)).Sublist (kys (cs b0)):=by
     rw [hq]
     exact (List.Sublist.append_left (List.sublist_cons_self _ _) _).map _
    exact this.nodup hkq
   have hkni:key∉kys (pre++t):=by
    have h1:(kys (pre++(x,p)::t)).Nodup:=by rw [← hq]; exact hkq
    have h2:(kys (pre++(x,p)::t)).Perm (p.1::kys (pre++t)):=by
     simp only [kys,List.map_append,List.map_cons]
     exact List.perm_middle
    have:=(List.nodup_cons.1 (h2.nodup_iff.1 h1)).1
    rw [hp] at this
    exact this
   have hlen:∀ {l':List Pr},Del l l' key→l'.length=(alls n (turn cs b0 (pre++t))).length:=fun hu=>by
    have h1:=hpb.length_eq
    have h2:=hu.len
    rw [if_pos hl0,h.len] at h2
    simp only [List.length_cons] at h1
    omega
   have hlk2:∀ {l':List Pr},Del l l' key→∀ key',bkt key' n=b0→Pc.lk l' key'=Pc.lk (prs (pre++t)) key':=fun hu key' e'=>by
    rw [hu.lk]
    by_cases hkk:key'=key
    · rw [if_pos hkk,hkk]
      exact (lk_none.2 (by rw [kys_prs]; exact hkni)).symm
    · rw [if_neg hkk,hlq key' e',hq]
      simp only [prs,List.map_append,List.map_cons]
      have hpk:¬p.1=key':=by rw [hp]; exact fun q=>hkk q.symm
      have:∀ a:List Pr,lk (a++p::t.map (·.2)) key'=lk (a++t.map (·.2)) key':=by
       intro a
       induction a with
       | nil=>simp [lk,hpk]
       | cons e r ih=>rw [List.cons_append,List.cons_append]; simp only [lk]; rw [ih]
      exact this _
   have hbk':∀ e∈pre++t,FM.bucket (sm e.2.1) n=(b0:Nat):=by
    intro e he
    rcases List.mem_append.1 he with he | he
    · exact hbq e (by rw [hq]; exact List.mem_append_left _ he)
    · exact hbq e (by rw [hq]; exact List.mem_append_right _ (List.mem_cons_of_mem _ he))
   have hzb:z≤18446744073709551615:=by
    have:=(h.nexts k).2
    have e:(at' L.ss k).nd=ndp p z:=hndx
    rw [e] at this
    unfold ndp at this
    simp only at this
    omega
   by_cases hpre:pre=[]
   ·
    subst hpre
    have hpv0:W.prev=0:=hpv
    have e:delL L (B+bkt key n) W={L with xs:=L.xs.set (B+b0) ((z:Nat):Int),ss:=L.ss,ws:=L.ws++[W.found]}:=by
     unfold delL
     rw [if_neg hx0,if_neg (by omega),hb0,hnz]
    rw [e]
    refine ⟨turn cs b0 ([]++t),fun l' hu=>?_⟩
    have hxset:Cl.nth (L.xs.set (B+b0) ((z:Nat):Int)) (B+b0)=((z:Nat):Int):=by
     rw [nth_set _ _ _ (by omega),if_pos rfl]
    refine h.turned (by omega) (by simp) (fun j hj=>?_) (fun x hx=>?_) h.nexts ?_ (fun b hb _=>h.ch b hb) hbk' hkn (hacc h.wr) hu.nd (hupd1 hu) (hlk2 hu) (hlen hu)
    · rw [nth_set _ _ _ (by omega),if_neg hj]
    · rcases List.mem_or_eq_of_mem_set hx with q | rfl
      · exact h.xb x q
      · omega
    · rw [hxset,Int.toNat_natCast]
      exact hc
   ·
    have hpv0:W.prev≠0:=by
     rw [hpv]
     exact lastH_ne (ss:=L.ss) (by have:=hch; rw [hq] at this; exact this) hpre
    obtain ⟨p0,e0,rfl⟩:∃ p0 e,pre=p0++[e]:=⟨pre.dropLast,pre.getLast hpre,(List.dropLast_concat_getLast hpre).symm⟩
    rw [lastH_snoc] at hpv
    rw [hq] at hch
    obtain ⟨j,zj,hj,hndj⟩:=hch.at e0 (by simp)
    have hroom:=h.small.2
    have hjp:(W.prev-1) % 65536=j:=by rw [hpv]; exact (isAt_parts hroom hj).1
    have e:delL L (B+bkt key n) W={L with xs:=L.xs,ss:=lnk L.ss W.prev z,ws:=L.ws++[W.found]}:=by
     unfold delL
     rw [if_neg hx0,if_pos hpv0,hnz,Int.toNat_natCast]
    rw [e]
    have hat:∀ kk,at' (lnk L.ss W.prev z) kk=if kk=j then {at' L.ss j with nd:={(at' L.ss j).nd with next:=((z:Nat):Int)}} else at' L.ss kk:=fun kk=>by
     unfold lnk
     rw [hjp,at_set hj.1]
    have hat2:∀ kk,(at' (lnk L.ss W.prev z) kk).taken=(at' L.ss kk).taken∧(at' (lnk L.ss W.prev z) kk).gen=(at' L.ss kk).gen:=fun kk=>by
     rw [hat]
     split
     · rename_i e; subst e; exact ⟨rfl,rfl⟩
     · exact ⟨rfl,rfl⟩
    have hll:(lnk L.ss W.prev z).length=L.ss.length:=by unfold lnk; simp
    have hlive:∀ {y kk:Nat},IsAt L.ss y kk→IsAt (lnk L.ss W.prev z) y kk:=fun {y kk} q=>⟨by rw [hll]; exact q.1,by rw [(hat2 kk).1]; exact q.2.1,by rw [(hat2 kk).2]; exact q.2.2⟩
    have hadn:=h.ad
    have hperm:=hap
    rw [hq] at hperm
    have hnodup:=hperm.nodup_iff.1 hadn
    have hne:∀ y kk,IsAt L.ss y kk→y≠e0.1→kk≠j:=by
     rintro y kk q1 q2 rfl
     exact q2 (by rw [q1.2.2,hj.2.2])
    have hkp:∀ y kk,IsAt L.ss y kk→y≠e0.1→IsAt (lnk L.ss W.prev z) y kk∧(at' (lnk L.ss W.prev z) kk).nd=(at' L.ss kk).nd:=fun y kk q1 q2=>by
     refine ⟨hlive q1,?_⟩
     rw [hat,if_neg (hne y kk q1 q2)]
    refine ⟨turn cs b0 (p0++[e0]++t),fun l' hu=>?_⟩
    have hn1:(hds (p0++[e0]++(x,p)::t)).Nodup:=(List.nodup_append.1 hnodup).1
    have hn1':(hds p0++(e0.1::hds ((x,p)::t))).Nodup:=by simpa using hn1
    have hn2:∀ y∈hds p0,y≠e0.1:=fun y hy q=>(List.nodup_append.1 hn1').2.2 y hy e0.1 (by simp) q
    have hn3:∀ y∈hds t,y≠e0.1:=fun y hy q=>(List.nodup_cons.1 (List.nodup_append.1 hn1').2.1).1 (by rw [← q]; exact List.mem_cons_of_mem _ hy)
    refine h.turned (by omega) rfl (fun j hj=>rfl) h.xb (nexts_lnk h.nexts _ _ hzb) ?_ ?_ hbk' hkn (hacc (h.wr.nodes hll hat2)) hu.nd (hupd1 hu) (hlk2 hu) (hlen hu)
    · have hpass:∀ (q:List Mq.Hp) (y:Nat),Cx L.ss y (q++e0::(x,p)::t)→(∀ u∈hds q,u≠e0.1)→Cx (lnk L.ss W.prev z) y (q++e0::t):=by
       intro q
       induction q with
       | nil=>
         intro y hy _
         cases hy with
         | @cons _ kk zz pp _ a b c=>
           have hkj:kk=j:=by
            have h1:=a.2.2
            have h2:=hj.2.2
            exact a.uniq hroom hj
           subst hkj
           refine .cons (hlive a) (z:=z) ?_ (hc.keep fun y hy kk q=>hkp y kk q (hn3 y hy))
           rw [hat,if_pos rfl]
           simp only [b]
           rfl
       | cons e1 r ih=>
         intro y hy hu
         cases hy with
         | @cons _ kk zz pp _ a b c=>
           have:=hkp _ kk a (hu _ (by simp))
           exact .cons this.1 (this.2.trans b) (ih _ c fun u hu'=>hu u (List.mem_cons_of_mem _ hu'))
      have:=hpass p0 _ (by simpa using hch) hn2
      simpa using this
    · intro b hb' hbb
      refine (h.ch b hb').keep fun y hy kk q=>hkp y kk q ?_
      rintro rfl
      have hy2:e0.1∈((List.range n).erase b0).flatMap fun b=>hds (cs b):=List.mem_flatMap.2 ⟨b,(List.mem_erase_of_ne hbb).2 (by simpa using hb'),hy⟩
      exact (List.nodup_append.1 hnodup).2.2 e0.1 (by simp) e0.1 hy2 rfl
end
end Go.Proofs.YtkogifmjbmnpgaaGreat.Mq
namespace Go.Proofs.YtkogifmjbmnpgaaGreat.Dl
open Go Go.RowKit Hp K Fl Rw Hm Ar Mm Me Wk Ta Pn Pc Pu
set_option maxRecDepth 100000
structure Dt extends Sk where
 nx:Nat
 mine:Nat
def dnv (nx f:Nat):Value:=if nx=2 then wfm 38 (ptr f) else if nx=4 then wfm 80 (ptr f)
 else if nx=5 then wfm 118 (ptr f) else if nx=6 then wfm 78 (ptr f) else wf0 115
def dlc (a:Qa) (D:Dt):Array Value:=#[ptr a.s,dnv D.nx a.f,.int .u64 D.mine]
def DeAt (w:World) (a:Qa) (D:Dt):Prop:=Blk w a.f 89 (dlc a D)∧SkAt w a.sa D.toSk
def dfoot (a:Qa) (D:Dt) (x:Nat):Prop:=x=a.f∨sfoot a.sa D.toSk x
abbrev delTypes:List TypeId:=[89,142,167,188]
abbrev dlL:Lay Qa Dt:=⟨Qa.f,DeAt,dfoot⟩
section
variable {w w':World} {M:Mo} {a:Qa} {D:Dt}
theorem DeAt.ty (h:DeAt w a D) {x:Nat} (hx:dfoot a D x):Ty w x delTypes:=by
 obtain ⟨h1,h2⟩:=h
 rcases hx with rfl | hx
 · exact (blk_ty h1).mono (by simp)
 · exact (h2.ty hx).mono (fun t ht=>List.mem_cons_of_mem _ ht)
theorem DeAt.far (h:DeAt w a D) (hM:MemAt w M) {x:Nat} (hx:dfoot a D x):¬mfoot M x:=fun hm=>(hM.ty hm).apart (h.ty hx) (by decide)
theorem DeAt.only {S:Nat→Prop} (h:DeAt w a D) (ho:Only S w w') (hn:∀ x,dfoot a D x→¬S x):DeAt w' a D:=
 ⟨h.1.only ho (hn _ (.inl rfl)),h.2.only ho (fun x hx=>hn _ (.inr hx))⟩
theorem DeAt.below (h:DeAt w a D) (hb:Below w.heap.size w w'):DeAt w' a D:=h.only (Only.ofBelow hb (fun _=>False)) (by simp)
theorem DeAt.hd (h:DeAt w a D):w.cell? ⟨a.f,0,none⟩=some (ptr a.s)∧w.cell? ⟨a.f,1,none⟩=some (dnv D.nx a.f)∧w.cell? ⟨a.f,2,none⟩=some (.int .u64 D.mine):=
 ⟨h.1.cell 0,h.1.cell 1,h.1.cell 2⟩
theorem DeAt.frz (h:DeAt w a D) (i:Nat):w.frozen? ⟨a.f,i,none⟩=false:=h.1.frozen i
theorem DeAt.self (h:DeAt w a D) {x:Nat} (hx:sfoot a.sa D.toSk x):x≠a.f:=by
 rintro rfl
 exact (h.2.ty hx).apart (blk_ty h.1) (by decide)
theorem DeAt.own (h:DeAt w a D) {D':Dt} (hB:Blk w' a.f 89 (dlc a D')) (ho:Only (·=a.f) w w') (eS:D'.toSk=D.toSk):DeAt w' a D':=
 ⟨hB,by rw [eS]; exact h.2.only ho (fun x hx e=>h.self hx e)⟩
theorem DeAt.next (h:DeAt w a D) (n:Nat):DeAt (w.setCell ⟨a.f,1,none⟩ (dnv n a.f)) a {D with nx:=n}:=
 h.own (h.1.store 1 (dnv n a.f)) ((Only.refl (·=a.f) w).setCell (p:=⟨a.f,1,none⟩) (.inl rfl) (dnv n a.f)) rfl
theorem DeAt.sought {S:Nat→Prop} {a':Sa} {S':Sk} (h:DeAt w a D) (hS:SkAt w' a' S') (ef:a'.f=a.s) (ho:Only S w w') (hn:¬S a.f):DeAt w' {a with w:=a'.w} {D with toSk:=S'}:=by
 obtain ⟨f',b'⟩:=a'
 subst ef
 refine ⟨?_,hS⟩
 have:=h.1.only ho hn
 unfold dlc at this ⊢
 exact this
theorem DeAt.went (h:DeAt w a D) (x n:Nat):DeAt ((w.setCell ⟨a.f,2,none⟩ (.int .u64 x)).setCell ⟨a.f,1,none⟩ (dnv n a.f)) a {D with mine:=x,nx:=n}∧
 Only (·=a.f) w ((w.setCell ⟨a.f,2,none⟩ (.int .u64 x)).setCell ⟨a.f,1,none⟩ (dnv n a.f)):=by
 have hP2:DeAt (w.setCell ⟨a.f,2,none⟩ (.int .u64 x)) a {D with mine:=x}:=h.own (by simpa [dlc] using h.1.store 2 (.int .u64 x)) ((Only.refl (·=a.f) w).setCell (p:=⟨a.f,2,none⟩) (.inl rfl) (.int .u64 x)) rfl
 exact ⟨hP2.next n,((Only.refl (·=a.f) w).setCell (p:=⟨a.f,2,none⟩) (.inl rfl) (.int .u64 x)).setCell (p:=⟨a.f,1,none⟩) (.inl rfl) (dnv n a.f)⟩
abbrev DStp (w:World) (M:Mo) (a:Qa) (D:Dt) (L':Lm) (D':Dt) (w':World):Prop:=dlL.Stp w M a D L' D' w'
theorem dfoot_eq {a a':Qa} {D D':Dt} (ea:a'=a) (eS:D'.H.f=D.H.f) {n:Nat} (x:Nat) (q:dfoot a' D' x):dfoot a D x∨n≤x:=by
 subst ea
 rcases q with q | q | q | q
 · exact .inl (.inl q)
 · exact .inl (.inr (.inl q))
 · exact .inl (.inr (.inr (.inl (q.trans eS))))
 · exact .inl (.inr (.inr (.inr q)))
theorem waits_stp {L':Lm} {D':Dt} {w1 w2:World} (h:Waits w M L' w1) (hP:DeAt w a D) (hM:MemAt w M) (hP2:DeAt w1 a D→DeAt w2 a D') (eS:D'.H.f=D.H.f) (ho:Only (·=a.f) w1 w2):DStp w M a D L' D' w2:=by
 obtain ⟨M1,hM1,el,hK,hO⟩:=h
 have hP1:=hP.only hO (fun x hx q=>hP.far hM hx q)
 exact ⟨M1,a,hM1.only ho (fun x hx q=>hP1.far hM1 (.inl rfl) (q▸hx)),el,hK,hP2 hP1,rfl,dfoot_eq rfl eS,(hO.mono (fun x _ q=>(.inl q:mfoot M x∨dfoot a D x))).trans' ho (fun x _ q=>.inr (.inl q))⟩
def dstep (L:Lm) (D:Dt):Lm×Dt:=
 if D.nx=2 then ((sstep L D.toSk).1,{D with toSk:=(sstep L D.toSk).2,nx:=if sdone L D.toSk=true then (if (sstep L D.toSk).2.W.found≠0 then 4 else 6) else 2})
 else if D.nx=4 then (slead L D.toSk D.W.nd.next.toNat,{D with mine:=D.W.found,nx:=5})
 else if D.nx=5 then ({L with ws:=L.ws++[D.mine]},{D with mine:=0,nx:=6})
 else ({L with hs:=L.hs.set D.H.lock (-1)},{D with H:={D.H with holds:=false},nx:=7})
def dready (L:Lm) (D:Dt):Bool:=sready L D.toSk
def ddone (_:Lm) (D:Dt):Bool:=decide (6≤D.nx)
structure Okdl (L:Lm) (D:Dt):Prop where
 nx:D.nx=2∨D.nx=4∨D.nx=5∨D.nx=6
 ph:D.nx≠2→D.ph≠1
 sk:D.nx=2→∃ r,Oks r L D.toSk
 lead:D.nx=4→0≤D.W.nd.next∧Okd L D.toSk D.W.nd.next.toNat
 ret:D.nx=5→L.ws.length≤1000000
 drop:D.nx=6→Okl L.xs L.ds (L.hs,D.H)∧D.H.holds=true
def WentD (w:World) (M:Mo) (a:Qa) (D:Dt) (L':Lm) (D':Dt) (w':World):Prop:=
 ∃ M' b,MemAt w' M'∧lm M'=L'∧Kin w M M'∧DeAt w' {a with w:=b} D'∧(∀ x,dfoot {a with w:=b} D' x→dfoot a D x∨w.heap.size≤x)∧Only (fun x=>mfoot M x∨dfoot a D x) w w'
theorem WentD.stp {L':Lm} {D':Dt} (h:WentD w M a D L' D' w'):DStp w M a D L' D' w':=by
 obtain ⟨M',b,h1,h2,h3,h4,h5,h6⟩:=h
 exact ⟨M',{a with w:=b},h1,h2,h3,h4,rfl,h5,h6⟩
theorem dsought_any (hM:MemAt w M) (h:DeAt w a D) {r:Nat} (ok:Oks r (lm M) D.toSk) (hr:sready (lm M) D.toSk=true):
 Calls Tryz.prog 77 #[ptr a.s,ptr M.m] w fun e w'=>e=.returned (.bool (sdone (lm M) D.toSk))∧WentD w M a D (sstep (lm M) D.toSk).1 {D with toSk:=(sstep (lm M) D.toSk).2} w':=by
 refine (sk_step hM h.2 ok hr).mono fun e w' q=>⟨q.1,?_⟩
 obtain ⟨M',a',h1,h2,h3,h4,h5,h6,h7⟩:=q.2
 have hp:=h.sought h4 h5 h7 (by
  rintro (q | q)
  · exact h.far hM (.inl rfl) q
  · exact h.self q rfl)
 refine ⟨M',a'.w,h1,h2,h3,hp,?_,h7.mono fun x _ q=>q.imp id .inr⟩
 rintro x (q | q)
 · exact .inl (.inl q)
 · have e:a'=(⟨a.s,a'.w⟩:Sa):=by
    obtain ⟨f',b'⟩:=a'
    have:f'=a.s:=h5
    rw [this]
   exact (h6 x (by rw [e]; exact q)).imp .inr id
theorem had_any (h:DeAt w a D):Calls Tryz.prog 57 #[ptr a.f] w fun e w'=>e=.returned (.tuple #[.string D.W.nd.val,.bool (decide (D.W.found≠0))])∧Below w.heap.size w w':=by
 have c:=h.hd.1
 have hR:=found_sk h.2
 unfold ndv at hR
 generalize decide (D.W.found≠0)=b at*
 generalize D.W.found=x at*
 generalize D.W.nd=n at*
 obtain ⟨nk,nv,ns,nn⟩:=n
 simp only at hR ⊢
 replace hR:=Lib.hid hR
 clear h
 go_enter Tryz.func57,Tryz.ntmps57
 go_wp2_with fail
 refine hR.out.mono ?_
 rintro e w1 ⟨rfl,hb⟩
 have hb2:=Lib.hid ((hb.alloc (o:=.cells #[.string nk,.string nv,.int .u32 ns,.int .u64 nn] 99) hb.size))
 clear c hb
 go_wp2_with fail
 go_ret2
 exact ⟨rfl,hb2.out⟩
set_option maxHeartbeats 1000000 in
theorem goTo_any (hM:MemAt w M) (h:DeAt w a D) {r:Nat} (ok:Oks r (lm M) D.toSk) (hr:sready (lm M) D.toSk=true) (h2:D.nx=2):
 Calls Tryz.prog 38 #[ptr a.f,ptr M.m] w fun e w'=>e=.returned (.bool false)∧DStp w M a D (dstep (lm M) D).1 (dstep (lm M) D).2 w':=by
 have hS:=dsought_any hM h ok hr
 have c3:=h.hd.1
 unfold dstep
 rw [if_pos h2]
 simp only
 cases hdn:sdone (lm M) D.toSk with
 | false=>
   rw [hdn] at hS
   rw [if_neg (by simp)]
   generalize sstep (lm M) D.toSk=z at*
   have hS':=hS.mono fun e w' q=>And.intro q.1 q.2.stp
   have eP:({D with toSk:=z.2,nx:=2}:Dt)={D with toSk:=z.2}:=by rw [← h2]
   rw [eP]
   replace hS:=Lib.hid hS'
   clear hdn h hM ok hr h2 eP hS'
   go_enter Tryz.func38,Tryz.ntmps38
   go_wp2_with fail
   refine hS.out.mono ?_
   rintro e w1 ⟨rfl,hW⟩
   replace hW:=Lib.hid hW
   clear hS c3
   go_wp2_with fail
   go_ret
   exact ⟨rfl,hW.out⟩
 | true=>
   rw [hdn] at hS
   rw [if_pos rfl]
   generalize sstep (lm M) D.toSk=z at*
   obtain ⟨L',S'⟩:=z
   simp only at hS ⊢
   replace hS:=Lib.hid hS
   clear hdn h hM ok hr h2
   obtain ⟨cb,hcb⟩:∃ cb,cb=decide (S'.W.found≠0):=⟨_,rfl⟩
   have e6:(if S'.W.found≠0 then 4 else 6:Nat)=if cb=true then 4 else 6:=by rw [hcb]; simp
   rw [e6]
   clear e6
   replace hcb:=Lib.hid hcb
   go_enter Tryz.func38,Tryz.ntmps38
   go_wp2_with fail
   refine hS.out.mono ?_
   rintro e w1 ⟨rfl,M1,b,hM1,el,hK,hP1,hf1,hO1⟩
   have k4:=hP1.hd.2.1
   have z4:=hP1.frz 1
   have hP6:=hP1.next 6
   have hO6:=(Only.refl (·=a.f) w1).setCell (p:=⟨a.f,1,none⟩) (.inl rfl) (dnv 6 a.f)
   have far1:∀ x,mfoot M1 x→¬x=a.f:=fun x hx q=>hP1.far hM1 (.inl rfl) (q▸hx)
   have hM6:=hM1.only hO6 far1
   have hO06:=hO1.trans' hO6 (fun x _ q=>.inr (.inl q))
   have hFd:=found_sk hP6.2
   unfold ndv at hFd
   rw [← hcb.out] at hFd
   obtain ⟨x,hx⟩:∃ x,x=S'.W.found:=⟨_,rfl⟩
   obtain ⟨n,hn⟩:∃ n,n=S'.W.nd:=⟨_,rfl⟩
   rw [← hx,← hn] at hFd
   obtain ⟨nk,nv,ns,nn⟩:=n
   simp only at hFd
   obtain ⟨w2,hw2⟩:∃ w2,w2=w1.setCell ⟨a.f,1,none⟩ (wfm 78 (ptr a.f)):=⟨_,rfl⟩
   have hw2':w1.setCell ⟨a.f,1,none⟩ (dnv 6 a.f)=w2:=hw2.symm
   rw [hw2'] at hFd hM6 hP6 hO06
   have h6:=Lib.hid (fun w3 (hb:Below w2.heap.size w2 w3)=>show DStp w M a D L' {D with toSk:=S',nx:=6} w3 from
    ⟨M1,{a with w:=b},hM6.below hb,el,hK,hP6.below hb,rfl,hf1,hO06.below hb⟩)
   have h4:=Lib.hid (fun w3 (hb:Below w2.heap.size w2 w3)=>show DStp w M a D L' {D with toSk:=S',nx:=4} (w3.setCell ⟨a.f,1,none⟩ (dnv 4 a.f)) from by
    have hM3:=hM6.below hb
    have hP3:=hP6.below hb
    have hO3:=hO06.below hb
    have hO4:=(Only.refl (·=a.f) w3).setCell (p:=⟨a.f,1,none⟩) (.inl rfl) (dnv 4 a.f)
    exact ⟨M1,{a with w:=b},hM3.only hO4 (fun x hx q=>hP3.far hM3 (.inl rfl) (q▸hx)),el,hK,hP3.next 4,rfl,hf1,hO3.trans' hO4 (fun x _ q=>.inr (.inl q))⟩)
   have hq:=Lib.hid (fun w3 (hb:Below w2.heap.size w2 w3)=>show w3.cell? ⟨a.f,1,none⟩=some (dnv 6 a.f)∧w3.frozen? ⟨a.f,1,none⟩=false∧a.f<w3.heap.size from
    ⟨(hP6.below hb).hd.2.1,(hP6.below hb).frz 1,(hP6.below hb).1.lt⟩)
   have k0:=hP6.hd.1
   have l0:=hP6.1.lt
   replace hFd:=Lib.hid hFd
   clear hO6 hM1 hP1 hO1 hS c3 far1 hx hn hM6 hP6 hO06 el hK hf1 hw2'
   go_upto_region 4 with (fail)
   rw [← hw2]
   clear hw2 k4 z4
   go_wp2_with fail
   refine hFd.out.mono ?_
   rintro e w3 ⟨rfl,hb3⟩
   have hb4:=hb3.alloc (o:=.cells #[.string nk,.string nv,.int .u32 ns,.int .u64 nn] 99) hb3.size
   obtain ⟨w4,hw4⟩:∃ w4,w4=w3.alloc (.cells #[.string nk,.string nv,.int .u32 ns,.int .u64 nn] 99):=⟨_,rfl⟩
   rw [← hw4] at hb4
   obtain ⟨k4,z4,l4⟩:=hq.out w4 hb4
   have h6':=Lib.hid (h6.out w4 hb4)
   have h4':=Lib.hid (h4.out w4 hb4)
   clear hb3 hb4 hFd h6 h4 hq k0 l0
   go_upto_region 5 with (fail)
   rw [← hw4]
   clear hw4
   cases cb
   all_goals
    go_wp2_with fail
    go_ret
    first
     | exact ⟨rfl,h4'.out⟩
     | exact ⟨rfl,h6'.out⟩
set_option maxHeartbeats 1000000 in
theorem passOver_step (hM:MemAt w M) (h:DeAt w a D) (hz:0≤D.W.nd.next) (ok:Okd (lm M) D.toSk D.W.nd.next.toNat) (h4:D.nx=4):
 Calls Tryz.prog 80 #[ptr a.f,ptr M.m] w fun e w'=>e=.returned (.bool false)∧DStp w M a D (dstep (lm M) D).1 (dstep (lm M) D).2 w':=by
 have hFd:=found_sk h.2
 have hR:=fun w1 (hb:Below w.heap.size w w1)=>(lead_any (hM.below hb) (h.2.below hb) ok).mono fun e w' q=>show e=.returned (.tuple #[])∧Waits w M (slead (lm M) D.toSk D.W.nd.next.toNat) w'∧Only (mfoot M) w1 w' from
  ⟨q.1,by obtain ⟨M',h1,h2,h3,_,h5⟩:=q.2; exact ⟨⟨M',h1,h2,(Kin.refl w M).trans h3 hb.size,(Only.ofBelow hb _).trans h5⟩,h5⟩⟩
 rw [show ((D.W.nd.next.toNat:Nat):Int)=D.W.nd.next by omega] at hR
 have c0:=h.hd.1
 have HP:=Lib.hid h
 have HM:=Lib.hid hM
 have hlt:=Lib.hid (fun x (q:mfoot M x)=>hM.lt q)
 unfold dstep
 rw [if_neg (by omega),if_pos h4]
 generalize slead (lm M) D.toSk D.W.nd.next.toNat=L' at*
 obtain ⟨x,hx⟩:∃ x,x=D.W.found:=⟨_,rfl⟩
 obtain ⟨n,hn⟩:∃ n,n=D.W.nd:=⟨_,rfl⟩
 unfold ndv at hFd
 rw [← hx,← hn] at hFd
 rw [← hn] at hR
 rw [← hx]
 obtain ⟨nk,nv,ns,nn⟩:=n
 generalize decide (x≠0)=bx at*
 simp only at hFd hR
 have hEnd:Hid (∀ w1 w2 (D':Dt),Waits w M L' w1→(DeAt w1 a D→DeAt w2 a D')→D'.H.f=D.H.f→Only (·=a.f) w1 w2→DStp w M a D L' D' w2):=Lib.hid (fun w1 w2 D' hW hq eS ho=>waits_stp hW h hM hq eS ho)
 replace hFd:=Lib.hid hFd
 replace hR:=Lib.hid hR
 clear h hM h4 ok hx hn hz
 go_enter Tryz.func80,Tryz.ntmps80
 go_wp2_with fail
 refine hFd.out.mono ?_
 rintro e w1 ⟨rfl,hb1⟩
 have hb2:=hb1.alloc (o:=.cells #[.string nk,.string nv,.int .u32 ns,.int .u64 nn] 99) hb1.size
 obtain ⟨w2,hw2⟩:∃ w2,w2=w1.alloc (.cells #[.string nk,.string nv,.int .u32 ns,.int .u64 nn] 99):=⟨_,rfl⟩
 rw [← hw2] at hb2
 have hN2:Blk w2 w1.heap.size 99 #[.string nk,.string nv,.int .u32 ns,.int .u64 nn]:=by rw [hw2]; exact Blk.made w1 _ _
 obtain ⟨nb,hnb⟩:∃ nb,nb=w1.heap.size:=⟨_,rfl⟩
 rw [← hnb] at hN2
 have hnbw:w.heap.size≤nb:=by rw [hnb]; exact hb1.size
 have j0:=(HP.out.below hb2).hd.1
 have j3:=hN2.cell 3
 simp at j3
 have hR2:=Lib.hid (fun n=>hR.out (w2.drewN n) (hb2.trans ⟨rfl,rfl,rfl,by simp,fun _ _=>rfl⟩))
 have hN2':=Lib.hid (fun n=>show Blk (w2.drewN n) nb 99 #[.string nk,.string nv,.int .u32 ns,.int .u64 nn] from hN2.only ((Only.refl (fun _=>False) w2).drewN n) (by simp))
 clear hb1 hb2 hR hFd c0 hN2
 go_upto_region 2 with (fail)
 rw [← hw2,← hnb]
 clear hw2 hnb
 go_region_held3 (fun w'=>w'.cell? ⟨a.f,0,none⟩=some (ptr a.s)∧w'.cell? ⟨nb,3,none⟩=some (.int .u64 nn)) (go_keep)
  (first
    | (go_at_call 117
       refine (hR2.out 1).mono ?_
       rintro e w3 ⟨rfl,hW,hO⟩
       have hP3:DeAt w3 a D:=by
        obtain ⟨M1,_,_,_,hO⟩:=hW
        exact HP.out.only hO (fun x hx q=>HP.out.far HM.out hx q)
       have k0:=hP3.hd.1
       have k1:=hP3.hd.2.1
       have k2:=hP3.hd.2.2
       have z1:=hP3.frz 1
       have z2:=hP3.frz 2
       have hN3:=(hN2'.out 1).only hO (fun q=>by have:=hlt.out _ q; omega)
       have k3:=hN3.cell 3
       simp at k3
       have hE:=Lib.hid (hEnd.out _ _ _ hW (fun q=>(q.went x 5).1) rfl (hP3.went x 5).2)
       clear hP3 hW hO hN3 hR2))
 all_goals
  go_wp2_with fail
  go_ret
  exact ⟨rfl,hE.out⟩
theorem dretire_step (hM:MemAt w M) (h:DeAt w a D) (hn:M.ws.length≤1000000) (h5:D.nx=5):
 Calls Tryz.prog 118 #[ptr a.f,ptr M.m] w fun e w'=>e=.returned (.bool false)∧DStp w M a D (dstep (lm M) D).1 (dstep (lm M) D).2 w':=by
 have hR:=Lib.hid (waits_any hM D.mine hn)
 have c6:=h.hd.2.2
 have HP:=Lib.hid h
 have HM:=Lib.hid hM
 unfold dstep
 rw [if_neg (by omega),if_neg (by omega),if_pos h5]
 clear h hM hn h5
 go_enter Tryz.func118,Tryz.ntmps118
 go_wp2_with fail
 refine hR.out.mono ?_
 rintro e w1 ⟨rfl,hW⟩
 have hP1:DeAt w1 a D:=by
  obtain ⟨M1,_,_,_,hO⟩:=hW
  exact HP.out.only hO (fun x hx q=>HP.out.far HM.out hx q)
 have k6:=hP1.hd.2.2
 have k4:=hP1.hd.2.1
 have z6:=hP1.frz 2
 have z4:=hP1.frz 1
 have hE:=Lib.hid (waits_stp hW HP.out HM.out (fun q=>(q.went 0 6).1) rfl (hP1.went 0 6).2)
 clear hP1 hW hR c6
 go_wp2_with fail
 go_ret
 exact ⟨rfl,hE.out⟩
theorem ddrop_step (hM:MemAt w M) (h:DeAt w a D) (hl:Okl M.xs M.ds (M.hs,D.H)) (hh:D.H.holds=true) (h6:D.nx=6):
 Calls Tryz.prog 78 #[ptr a.f,ptr M.m] w fun e w'=>e=.returned (.bool true)∧DStp w M a D (dstep (lm M) D).1 (dstep (lm M) D).2 w':=by
 have hR:=Lib.hid (drop_sk hM h.2 hl hh)
 have c3:=h.hd.1
 have HP:=Lib.hid h
 have HM:=Lib.hid hM
 unfold dstep
 rw [if_neg (by omega),if_neg (by omega),if_neg (by omega)]
 clear h hM hl hh h6
 go_enter Tryz.func78,Tryz.ntmps78
 go_wp2_with fail
 refine hR.out.mono ?_
 rintro e w1 ⟨rfl,hM1,hS1,hO1⟩
 have hP1:=HP.out.sought hS1 rfl hO1 (by
  rintro (q | q)
  · exact HP.out.far HM.out (.inl rfl) q
  · exact HP.out.self q rfl)
 have k4:=hP1.hd.2.1
 have z4:=hP1.frz 1
 have hP3:=Lib.hid (hP1.next 7)
 have hO3:=(Only.refl (·=a.f) w1).setCell (p:=⟨a.f,1,none⟩) (.inl rfl) (dnv 7 a.f)
 have hM3:=Lib.hid (hM1.only hO3 (fun x hx q=>hP1.far hM1 (.inl rfl) (q▸hx)))
 have hO03:Hid (Only (fun x=>mfoot M x∨dfoot a D x) w _):=Lib.hid ((hO1.mono (fun x _ q=>q.imp id .inr)).trans' hO3 (fun x _ q=>.inr (.inl q)))
 clear hP1 hO3 hM1 hO1 hR c3 hS1
 go_wp2_with fail
 go_ret
 exact ⟨rfl,_,a,hM3.out,rfl,⟨rfl,rfl,rfl,rfl,fun _ q=>.inl q⟩,hP3.out,rfl,dfoot_eq rfl rfl,hO03.out⟩
end
end Go.Proofs.YtkogifmjbmnpgaaGreat.Dl
namespace Go.Proofs.YtkogifmjbmnpgaaGreat.Dl
open Go Go.RowKit Hp K Fl Rw Hm Ar Mm Me Wk Ta Pn Pc Pu Mq
set_option maxRecDepth 100000
def newDel (h:Nat) (k:Int) (key:ByteArray):Dt:=⟨newSk h k (sm key) key,2,0⟩
set_option maxHeartbeats 1000000 in
theorem new_any (k:Int) (key:ByteArray) (hk:key.size≤maxLen) (w:World):
 Calls Tryz.prog 12 #[.int .i64 k,.string key] w fun e w'=>∃ (a:Qa) (h:Nat),e=.returned (ptr a.f)∧DeAt w' a (newDel h k key)∧(∀ x,dfoot a (newDel h k key) x→w.heap.size≤x)∧Below w.heap.size w w':=by
 have hS:=Lib.hid (Fnv.sum_any key w hk)
 unfold newDel sm
 generalize hs:FM.sum key.data.toList=s at*
 replace hs:=Lib.hid hs
 have hN:=Lib.hid (new_seek k s key w)
 go_enter Tryz.func12,Tryz.ntmps12
 go_wp2_with fail
 refine hS.out.mono ?_
 rintro e w0 ⟨rfl,hw⟩
 obtain rfl:w=w0:=hw.symm
 clear hS hw
 go_wp2_with fail
 refine hN.out.mono ?_
 rintro e w1 ⟨a,h,rfl,hS1,hlo1,hB1⟩
 obtain ⟨w2,hw2⟩:∃ w2,w2=w1.alloc (.cells #[ptr a.f,.nilFunc,.int .u64 0] 89):=⟨_,rfl⟩
 have hF2:Blk w2 w1.heap.size 89 #[ptr a.f,.nilFunc,.int .u64 0]:=by rw [hw2]; exact Blk.made w1 _ _
 have hB12:Below w1.heap.size w1 w2:=by rw [hw2]; exact (Below.refl _ _).alloc (Nat.le_refl _) _
 obtain ⟨f,hf⟩:∃ f,f=w1.heap.size:=⟨_,rfl⟩
 rw [← hf] at hF2
 have hfw:w.heap.size≤f:=by rw [hf]; exact hB1.size
 have hB2:=hB1.trans (hB12.mono hB1.size)
 have hS2:=hS1.below hB12
 have k1:=hF2.cell 1
 simp at k1
 have z1:=hF2.frozen 1
 have hB4:=Lib.hid (hB2.setCell (p:=⟨f,1,none⟩) hfw (wfm 38 (ptr f)))
 have hO:=(Only.refl (·=f) w2).setCell (p:=⟨f,1,none⟩) (.inl rfl) (wfm 38 (ptr f))
 have hne:∀ x,sfoot a (newSk h k s key) x→¬x=f:=fun x hx e=>by have:=hS1.lt hx; omega
 have hE:Hid (DeAt (w2.setCell ⟨f,1,none⟩ (wfm 38 (ptr f))) ⟨f,a.f,a.w⟩ ⟨newSk h k s key,2,0⟩):=Lib.hid
  ⟨hF2.store 1 (wfm 38 (ptr f)),hS2.only hO hne⟩
 have hlow:Hid (∀ x,dfoot ⟨f,a.f,a.w⟩ ⟨newSk h k s key,2,0⟩ x→w.heap.size≤x):=Lib.hid (by
  rintro x (q | q)
  · simp only at q; omega
  · exact hlo1 x q)
 clear hN hS1 hlo1 hB1 hB12 hF2 hB2 hO hne hS2
 go_upto_region 2 with (fail)
 rw [← hw2,← hf]
 clear hw2 hf
 go_wp2_with fail
 go_ret
 exact ⟨_,_,rfl,hE.out,hlow.out,hB4.out⟩
theorem dstep_fm {w:World} {F f:Nat} {cv m:Value} {c:Bool} {P:World→Prop} (c4:w.cell? ⟨f,1,none⟩=some (wfm F cv)) (eF:∀ args w,(callFunc F args).run Tryz.prog w=.ok (.enter F args) w)
 (hF:Calls Tryz.prog F #[cv,m] w fun e w'=>e=.returned (.bool c)∧P w'):Calls Tryz.prog 238 #[ptr f,m] w fun e w'=>e=.returned (.bool c)∧P w':=by
 replace hF:=Lib.hid hF
 go_enter Tryz.func238,Tryz.ntmps238
 go_wp2_with fail
 refine hF.out.mono ?_
 rintro e w' ⟨rfl,hPw⟩
 replace hPw:=Lib.hid hPw
 clear c4
 go_wp2_with fail
 go_ret
 exact ⟨rfl,hPw.out⟩
theorem enters_d2 (args:Array Value) (w:World):(callFunc 38 args).run Tryz.prog w=.ok (.enter 38 args) w:=by kernel_rfl
theorem enters_d4 (args:Array Value) (w:World):(callFunc 80 args).run Tryz.prog w=.ok (.enter 80 args) w:=by kernel_rfl
theorem enters_d5 (args:Array Value) (w:World):(callFunc 118 args).run Tryz.prog w=.ok (.enter 118 args) w:=by kernel_rfl
theorem enters_d6 (args:Array Value) (w:World):(callFunc 78 args).run Tryz.prog w=.ok (.enter 78 args) w:=by kernel_rfl
section
variable {w w':World} {M:Mo} {a:Qa} {D:Dt}
theorem del_ready (hM:MemAt w M) (h:DeAt w a D) (hl:D.ph=1→Okl M.xs M.ds (M.hs,D.H)):Calls Tryz.prog 237 #[ptr a.f,ptr M.m] w fun e w'=>e=.returned (.bool (dready (lm M) D))∧Below w.heap.size w w':=by
 have c3:=h.hd.1
 have hR:=sk_ready hM h.2 hl
 unfold dready
 generalize sready (lm M) D.toSk=b at*
 replace hR:=Lib.hid hR
 clear hM h hl
 go_enter Tryz.func237,Tryz.ntmps237
 go_wp2_with fail
 refine hR.out.mono ?_
 rintro e w' ⟨rfl,hb⟩
 replace hb:=Lib.hid hb
 clear c3
 go_wp2_with fail
 go_ret
 exact ⟨rfl,hb.out⟩
theorem del_step (hM:MemAt w M) (h:DeAt w a D) (ok:Okdl (lm M) D) (hr:dready (lm M) D=true):
 Calls Tryz.prog 238 #[ptr a.f,ptr M.m] w fun e w'=>e=.returned (.bool (ddone (lm M) D))∧DStp w M a D (dstep (lm M) D).1 (dstep (lm M) D).2 w':=by
 have c4:=h.hd.2.1
 unfold dnv at c4
 have hnx:=ok.nx
 unfold ddone
 by_cases e2:D.nx=2
 · rw [if_pos e2] at c4
   rw [show decide (6≤D.nx)=false by simp; omega]
   obtain ⟨r,o⟩:=ok.sk e2
   exact dstep_fm c4 enters_d2 (goTo_any hM h o hr e2)
 rw [if_neg e2] at c4
 by_cases e4:D.nx=4
 · rw [if_pos e4] at c4
   rw [show decide (6≤D.nx)=false by simp; omega]
   exact dstep_fm c4 enters_d4 (passOver_step hM h (ok.lead e4).1 (ok.lead e4).2 e4)
 rw [if_neg e4] at c4
 by_cases e5:D.nx=5
 · rw [if_pos e5] at c4
   rw [show decide (6≤D.nx)=false by simp; omega]
   exact dstep_fm c4 enters_d5 (dretire_step hM h (ok.ret e5) e5)
 rw [if_neg e5] at c4
 have e6:D.nx=6:=by omega
 rw [if_pos e6] at c4
 rw [show decide (6≤D.nx)=true by simp; omega]
 exact dstep_fm c4 enters_d6 (ddrop_step hM h (ok.drop e6).1 (ok.drop e6).2 e6)
end
theorem del_frm:Frm dlL 44 237 238 Okdl dready dstep ddone where
 below h hb:=h.below hb
 mr b w f:=by kernel_rfl
 ms b w f:=by kernel_rfl
 er args w:=by kernel_rfl
 es args w:=by kernel_rfl
 ready {w M a p} hM h ok:=del_ready hM h (fun q=>by
  by_cases e2:p.nx=2
  · obtain ⟨r,o⟩:=ok.sk e2
    exact o.hd q
  · exact absurd q (ok.ph e2))
 step hM h ok hr:=del_step hM h ok hr
section
variable {L:Lm} {D:Dt}
theorem dstep2 (h:D.nx=2):dstep L D=((sstep L D.toSk).1,{D with toSk:=(sstep L D.toSk).2,nx:=if sdone L D.toSk=true then (if (sstep L D.toSk).2.W.found≠0 then 4 else 6) else 2}):=by
 unfold dstep; rw [if_pos h]
theorem dstep4 (h:D.nx=4):dstep L D=(slead L D.toSk D.W.nd.next.toNat,{D with mine:=D.W.found,nx:=5}):=by
 unfold dstep; rw [if_neg (by omega),if_pos h]
theorem dstep5 (h:D.nx=5):dstep L D=({L with ws:=L.ws++[D.mine]},{D with mine:=0,nx:=6}):=by
 unfold dstep; rw [if_neg (by omega),if_neg (by omega),if_pos h]
theorem dstep6 (h:D.nx=6):dstep L D=({L with hs:=L.hs.set D.H.lock (-1)},{D with H:={D.H with holds:=false},nx:=7}):=by
 unfold dstep; rw [if_neg (by omega),if_neg (by omega),if_neg (by omega)]
end
abbrev Ep.t (E:Ep) (nx:Nat) (H:Ho) (W:Wa) (mine:Nat):Dt:=⟨E.s H W,nx,mine⟩
def passL (E:Ep) (W:Wa):Lm:=if W.prev≠0 then {E.L with ss:=lnk E.L.ss W.prev W.nd.next.toNat} else {E.L with xs:=E.L.xs.set E.c W.nd.next}
inductive Rd (E:Ep):Nat→Lm×Dt→Prop
 | s (k:Nat) (L:Lm) (S:Sk):Rs E k (L,S)→Rd E (3+k) (L,⟨S,2,0⟩)
 | none (W:Wa):Fnd E W→W.found=0→W.nd=.zero→Rd E 1 ({E.L with hs:=E.hs},Ep.t E 6 E.H W 0)
 | p (W:Wa):Fnd E W→W.found≠0→Rd E 3 ({E.L with hs:=E.hs},Ep.t E 4 E.H W 0)
 | r (W:Wa):Fnd E W→W.found≠0→Rd E 2 ({passL E W with hs:=E.hs},Ep.t E 5 E.H W W.found)
 | d (W:Wa):Fnd E W→W.found≠0→Rd E 1 ({passL E W with hs:=E.hs,ws:=E.L.ws++[W.found]},Ep.t E 6 E.H W 0)
def Qd (E:Ep) (s:Lm×Dt):Prop:=∃ W,Fnd E W∧(W.found=0→W.nd=.zero)∧s=(delL E.L E.c W,Ep.t E 7 {E.H with holds:=false} W 0)
section
variable {E:Ep} {k:Nat} {s:Lm×Dt}
theorem passL_hs (E:Ep) (W:Wa):(passL E W).hs=E.L.hs∧(passL E W).ds=E.L.ds∧(passL E W).ws=E.L.ws∧(passL E W).xs.length=E.L.xs.length:=by
 unfold passL
 split
 · exact ⟨rfl,rfl,rfl,rfl⟩
 · exact ⟨rfl,rfl,rfl,by simp⟩
theorem Fnd.next (hE:E.Ok) {W:Wa} (h:Fnd E W) (h0:W.found≠0):0≤W.nd.next∧W.nd.next≤18446744073709551615:=by
 rcases h with ⟨h1,_⟩ | ⟨pre,x,p,t,z,kk,hq,hp,hx,hk,hnd,hW,hc,hpv⟩
 · exact absurd h1 h0
 · rw [hW,← hnd]
   exact hE.nexts kk
theorem Ep.Ok.x1d (hE:E.Ok) {W:Wa} (hf:Fnd E W) (h0:W.found≠0):0≤Cl.nth (passL E W).xs 1∧Cl.nth (passL E W).xs 1≤18446744073709551615:=by
 unfold passL
 split
 · exact Cl.getD_bd hE.xb 1
 · refine Cl.getD_bd (fun x hx=>?_) 1
   rcases List.mem_or_eq_of_mem_set hx with q | rfl
   · exact hE.xb x q
   · exact Fnd.next hE hf h0
theorem Rd.ok (hE:E.Ok) (h:Rd E k s):Okdl s.1 s.2:=by
 cases h with
 | s k L S h=>exact ⟨.inl rfl,fun q=>by simp at q,fun _=>h.ok hE,fun q=>by simp at q,fun q=>by simp at q,fun q=>by simp at q⟩
 | none W hf h0 hz=>exact ⟨by simp,fun _=>by simp,fun q=>by simp at q,fun q=>by simp at q,fun q=>by simp at q,fun _=>⟨hE.okl5 hE.x1 rfl (Cl.getD_bd hE.xb 1),rfl⟩⟩
 | p W hf h0=>
   have hn:=Fnd.next hE hf h0
   exact ⟨by simp,fun _=>by simp,fun q=>by simp at q,fun _=>⟨hn.1,hf.okd hE (by simp only; omega) hE.cx (fun x j hj=>hj)⟩,fun q=>by simp at q,fun q=>by simp at q⟩
 | r W hf h0=>
   have hp:=passL_hs E W
   exact ⟨by simp,fun _=>by simp,fun q=>by simp at q,fun q=>by simp at q,fun _=>by show (passL E W).ws.length≤_; rw [hp.2.2.1]; exact hE.ws,fun q=>by simp at q⟩
 | d W hf h0=>
   have hp:=passL_hs E W
   exact ⟨by simp,fun _=>by simp,fun q=>by simp at q,fun q=>by simp at q,fun q=>by simp at q,fun _=>⟨hE.okl5 (by show 1<(passL E W).xs.length; rw [hp.2.2.2]; exact hE.x1) hp.2.1 (Ep.Ok.x1d hE hf h0),rfl⟩⟩
def Rdq (E:Ep) (k:Nat) (s:Lm×Dt):Prop:=∃ j,j≤k∧Rd E j s
theorem Rd.q {E:Ep} {j:Nat} {s:Lm×Dt} (h:Rd E j s) {k:Nat} (hk:j≤k):Rdq E k s:=⟨j,hk,h⟩
theorem Rd.step (hE:E.Ok) (h:Rd E k s):dready s.1 s.2=true∧1≤k∧(ddone s.1 s.2=true→Qd E (dstep s.1 s.2))∧(ddone s.1 s.2=false→Rdq E (k-1) (dstep s.1 s.2)):=by
 cases h with
 | s k L S h=>
   obtain ⟨h1,h2,h3,h4⟩:=h.step hE
   refine ⟨h1,by omega,fun q=>by simp [ddone] at q,fun _=>?_⟩
   rw [dstep2 rfl]
   simp only at h3 h4 ⊢
   cases hd:sdone L S with
   | true=>
     obtain ⟨W,hf,hz,e⟩:=h3 hd
     rw [e]
     simp only [if_true]
     by_cases h0:W.found≠0
     · rw [if_pos h0]
       exact (Rd.p W hf h0).q (by omega)
     · rw [if_neg h0]
       exact (Rd.none W hf (by omega) (hz (by omega))).q (by omega)
   | false=>
     obtain ⟨j,hj,hr⟩:=h4 hd
     simp only [Bool.false_eq_true,if_false]
     have:=Rd.s (E:=E) j (sstep L S).1 (sstep L S).2 hr
     exact this.q (by omega)
 | none W hf h0 hz=>
   refine ⟨rfl,by omega,fun _=>⟨W,hf,fun _=>hz,?_⟩,fun q=>by simp [ddone] at q⟩
   rw [dstep6 rfl]
   unfold delL
   rw [if_pos h0]
   show (({E.L with hs:=E.hs.set E.lock (-1)}:Lm),_)=_
   rw [hE.back]
 | p W hf h0=>
   refine ⟨rfl,by omega,fun q=>by simp [ddone] at q,fun _=>?_⟩
   have hn:=Fnd.next hE hf h0
   have e:dstep {E.L with hs:=E.hs} (Ep.t E 4 E.H W 0)=({passL E W with hs:=E.hs},Ep.t E 5 E.H W W.found):=by
    rw [dstep4 rfl]
    refine Prod.ext ?_ rfl
    unfold passL slead
    by_cases hl:W.prev≠0
    · show (if W.found≠0∧W.prev≠0 then _ else _)=_
      rw [if_pos ⟨h0,hl⟩,if_pos hl]
    · show (if W.found≠0∧W.prev≠0 then _ else _)=_
      rw [if_neg (fun q=>hl q.2),if_neg hl]
      show ({E.L with hs:=E.hs,xs:=E.L.xs.set ((E.c:Nat):Int).toNat ((W.nd.next.toNat:Nat):Int)}:Lm)=_
      rw [Int.toNat_natCast,show ((W.nd.next.toNat:Nat):Int)=W.nd.next by omega]
   rw [e]
   exact (Rd.r W hf h0).q (by omega)
 | r W hf h0=>
   refine ⟨rfl,by omega,fun q=>by simp [ddone] at q,fun _=>?_⟩
   have e:dstep {passL E W with hs:=E.hs} (Ep.t E 5 E.H W W.found)=({passL E W with hs:=E.hs,ws:=E.L.ws++[W.found]},Ep.t E 6 E.H W 0):=by
    rw [dstep5 rfl]
    refine Prod.ext ?_ rfl
    show ({passL E W with hs:=E.hs,ws:=(passL E W).ws++[W.found]}:Lm)=_
    rw [(passL_hs E W).2.2.1]
   rw [e]
   exact (Rd.d W hf h0).q (by omega)
 | d W hf h0=>
   refine ⟨rfl,by omega,fun _=>⟨W,hf,fun q=>absurd q h0,?_⟩,fun q=>by simp [ddone] at q⟩
   rw [dstep6 rfl]
   refine Prod.ext ?_ rfl
   show ({passL E W with ws:=E.L.ws++[W.found],hs:=E.hs.set E.lock (-1)}:Lm)=delL E.L E.c W
   rw [hE.back]
   unfold delL passL
   rw [if_neg h0]
   by_cases hl:W.prev≠0
   · rw [if_pos hl,if_pos hl]
   · rw [if_neg hl,if_neg hl]
end
theorem del_ends {w:World} {M:Mo} {a:Qa} {key val:ByteArray} {i:Int} {h c:Nat} {d:Nat×Nat} {q:List Mq.Hp} (hM:MemAt w M) (hP:DeAt w a (newDel h i key)) (hE:Ep.Ok ⟨lm M,key,val,i,h,d,c,q⟩) (K:Nat) (hK:7+q.length≤K∧K≤1000000):
 Calls Tryz.prog 9 #[ptr M.m,.iface 44 (ptr a.f),.int .i64 K] w fun e w'=>∃ (n:Nat) (s:Lm×Dt),e=.returned (.tuple #[.int .i64 n,.bool true])∧(n≤7+q.length∧fin (fun s:Lm×Dt=>dready s.1 s.2) (fun s=>dstep s.1 s.2) (fun s=>ddone s.1 s.2) K (lm M,newDel h i key)=(n,true,s))∧Qd ⟨lm M,key,val,i,h,d,c,q⟩ s∧dlL.Inv M a (newDel h i key) w s w':=by
 refine finish_frm del_frm hM hP (Rdq ⟨lm M,key,val,i,h,d,c,q⟩) (Qd ⟨lm M,key,val,i,h,d,c,q⟩) ?_ (7+q.length) K ?_ hK.1 hK.2
 · rintro k s ⟨j,hj,hr⟩
   obtain ⟨h1,h2,h3,h4⟩:=hr.step hE
   refine ⟨hr.ok hE,h1,by omega,h3,fun hd=>?_⟩
   obtain ⟨j',hj',hr'⟩:=h4 hd
   exact ⟨j',by omega,hr'⟩
 · exact (Rd.s (E:=⟨lm M,key,val,i,h,d,c,q⟩) (4+q.length) _ _ .a1).q (by omega)
end Go.Proofs.YtkogifmjbmnpgaaGreat.Dl
namespace Go.Proofs.YtkogifmjbmnpgaaGreat.LawEight
open Go Go.RowKit Hp K Fl Rw Hm Ar Mm Me LK Ta LawSix
set_option maxRecDepth 100000
theorem low_only {W0 a b:World} {M:Mo} {f:Nat} (ha:Below W0.heap.size W0 a) (hlo:∀ x,mfoot M x→W0.heap.size≤x) (hf:W0.heap.size≤f) (ho:Only (fun x=>mfoot M x∨x=f) a b):Below W0.heap.size W0 b:=
 ha.trans (ho.toBelow ha.size (fun x hx q=>by
  rcases q with q | q
  · have:=hlo x q; omega
  · omega))
theorem fin_alone (f:Nat):fin (lready [(1,3)]) (lstep [1,0,0,0] [(1,3)]) (ldone [1,0,0,0]) 9 (List.replicate 6 (-1),(⟨f,0,7,1,0,(0,0),0,false⟩:Ho))=(3,true,[-1,0, -1, -1, -1, -1],⟨f,0,7,5,0,(1,3),1,true⟩):=by
 have e:lkn 7 (1,3)=1:=by simp [lkn,FM.bucket,FM.power]
 simp [fin,lready,lstep,ldone,tab,e,Cl.nth,Lo.hol,List.replicate]
set_option maxHeartbeats 1000000 in
theorem awake (w:World):Calls Tryz.prog 94 #[] w fun e w'=>e=.returned (.bool true)∧Below w.heap.size w w':=by
 have hN:=Lib.hid (made_yes 1 1 w (by omega) (by omega))
 go_enter Tryz.func94,Tryz.ntmps94
 go_wp2_with fail
 refine hN.out.mono ?_
 rintro e w1 ⟨M,rfl,hM,hlo,hB,h1,h2,h3,h4,h5,h6,h7⟩
 clear hN
 have hE:=Lib.hid (new_hold 0 7 w1)
 replace hM:=Lib.hid hM
 replace hlo:=Lib.hid hlo
 replace hB:=Lib.hid hB
 replace h1:=Lib.hid h1
 replace h4:=Lib.hid h4
 replace h6:=Lib.hid h6
 clear h2 h3 h7 h5
 go_wp2_with fail
 refine hE.out.mono ?_
 rintro e w2 ⟨rfl,hE2,hB2⟩
 have hM2:=hM.out.below hB2
 have hge:w.heap.size≤w1.heap.size:=hB.out.size
 have hB02:=Lib.hid (hB.out.trans (hB2.mono hge))
 have hF:=finish_hold hM2 hE2 (by rw [h1.out,h4.out,h6.out]; exact ⟨by simp,by simp,by simp,by simp,by simp,by decide,fun i=>by cases i<;>simp [tab],by simp,by simp,by simp⟩) 9 (by omega)
 rw [h1.out,h4.out,h6.out,show (1:Int)::List.replicate (1+2) 0=[1,0,0,0] from rfl,show (1:Nat)+2=3 from rfl,fin_alone] at hF
 replace hF:=Lib.hid hF
 clear hM hE hB2 hE2 hM2 hB
 generalize w1.heap.size=f at*
 replace hge:=Lib.hid hge
 go_wp2_with fail
 refine hF.out.mono ?_
 rintro e w3 ⟨rfl,hM3,hH3,_,hO3⟩
 simp only at hM3 hH3
 have hB3:=Lib.hid (low_only hB02.out hlo.out hge.out hO3)
 replace hM3:=Lib.hid hM3
 replace hH3:=Lib.hid hH3
 clear hF hO3 hB02
 go_wp2_with fail
 refine (LawFive.awake w3).mono ?_
 rintro e w4 ⟨rfl,hB4⟩
 have hM4:=hM3.out.below hB4
 have hH4:=hH3.out.below hB4
 have hB04:=hB3.out.trans (hB4.mono hB3.out.size)
 have hDe:=desc_of hH4
 have hLk:=Lib.hid (lock_of hH4)
 simp only [if_true] at hDe
 unfold dv at hDe
 replace hDe:=Lib.hid hDe
 have dn:=desc_n
 replace hM4:=Lib.hid hM4
 replace hH4:=Lib.hid hH4
 replace hB04:=Lib.hid hB04
 clear hM3 hH3 hB3 hB4
 go_wp2_with (first
  | (go_at_call 128; refine hLk.out.mono ?_; rintro e w' ⟨rfl,hw⟩; obtain rfl:w4=w':=hw.symm))
 refine hDe.out.mono ?_
 rintro e w5 ⟨rfl,hB5⟩
 have hM5:=hM4.out.below hB5
 have hH5:=hH4.out.below hB5
 have hB05:=hB04.out.trans (hB5.mono hB04.out.size)
 have d1:=hM5.hd.2.1
 simp only at d1
 have hHo:=Lib.hid (Lo.holder_in hM5.2.2.1 1 (by simp))
 have hDr:=Lib.hid (drop_yes hM5 hH5 ⟨by simp,by simp,by simp,by show 1<M.xs.length; rw [h1.out]; simp,by simp,by show (tab M.ds 0).1≤65536; rw [h6.out]; simp [tab]⟩ (by simp) (by simp [Lo.hol]) rfl)
 have hge':w.heap.size≤f:=hge.out
 replace hge':=Lib.hid hge'
 replace hM5:=Lib.hid hM5
 replace hB05:=Lib.hid hB05
 clear hM4 hH4 hB04 hB5 hDe hLk hH5
 go_wp2_with (go_at_call 68; refine hHo.out.mono ?_; rintro e w' ⟨rfl,hw⟩; obtain rfl:w5=w':=hw.symm)
 refine hDr.out.mono ?_
 rintro e w6 ⟨rfl,hM6,hH6,hO6⟩
 have hB6:=Lib.hid (low_only hB05.out hlo.out hge'.out hO6)
 have d2:=hM6.hd.2.1
 simp only at d2
 have hHo2:=Lib.hid (Lo.holder_in hM6.2.2.1 1 (by simp))
 clear hM6 hH6 hO6 hDr d1 hHo
 go_wp2_with (go_at_call 68; refine hHo2.out.mono ?_; rintro e w' ⟨rfl,hw⟩; obtain rfl:w6=w':=hw.symm)
 go_ret
 exact ⟨rfl,hB6.out⟩
end Go.Proofs.YtkogifmjbmnpgaaGreat.LawEight
namespace Go.Proofs.YtkogifmjbmnpgaaGreat.LawEl
open Go Go.RowKit Hp K Fl Rw Hm Ar Mm Me LK Qs Wk Re LawSix Pn Pc Mq Pu LawTen
set_option maxRecDepth 100000
abbrev kA:ByteArray:=⟨#[97]⟩
abbrev kB:ByteArray:=⟨#[98]⟩
abbrev vX:ByteArray:=⟨#[120]⟩
def kAt (j:Nat):ByteArray:=if j=1 then kB else kA
def mAt (j:Nat):List Pr:=if j=0 then [] else [(kA,vX)]
def AInv (W0 w:World) (m j:Nat):Prop:=∃ (M:Mo) (cs:Nat→List Mq.Hp) (G:Nat),S11 W0 w M none 0 []∧M.m=m∧Mp (lm M) 1 3 cs (mAt j) G∧G≤j∧M.ss.length=1∧M.ws.length=0
theorem kab:kA≠kB:=by
 intro e
 have:=congrArg ByteArray.data e
 simp at this
theorem AInv.down {W0 w w':World} {m j:Nat} (h:AInv W0 w m j) (hb:Below w.heap.size w w'):AInv W0 w' m j:=by
 obtain ⟨M1,cs,G,hS,r⟩:=h
 exact ⟨M1,cs,G,hS.down hb,r⟩
def errJ (j:Nat):Int:=if j=0 then 0 else 4
def hadJ (j:Nat):Bool:=decide (j=2)
theorem eJ0:errJ 0=0:=rfl
theorem eJ1:errJ 1=4:=rfl
theorem eJ2:errJ 2=4:=rfl
theorem hJ0:hadJ 0=false:=rfl
theorem hJ1:hadJ 1=false:=rfl
theorem hJ2:hadJ 2=true:=rfl
def AGot (W0 w0 w:World) (a:Qa) (m j:Nat):Prop:=∃ (a':Qa) (P:Pt),Still (memTypes++putTypes) w0 w∧AInv W0 w m (j+1)∧PuAt w a' P∧a'.f=a.f∧P.err=errJ j∧decide (P.W.found≠0)=hadJ j
theorem aput {W0 w:World} {m j:Nat} (hj:j<3) (h:AInv W0 w m j) {a:Qa} {hh:Nat} (hP:PuAt w a (newPut hh 0 (kAt j) vX)) (hlow:∀ x,pfoot a (newPut hh 0 (kAt j) vX) x→W0.heap.size≤x):
 Calls Tryz.prog 9 #[ptr m,.iface 46 (ptr a.f),.int .i64 50] w fun e w'=>(∃ k:Nat,e=.returned (.tuple #[.int .i64 k,.bool true]))∧AGot W0 w w' a m j:=by
 obtain ⟨M,cs,G,hS,rfl,hm,hG,hl,hw0⟩:=h
 have hq:=Mp.ql2 hm
 have hl':(lm M).ss.length=1:=hl
 refine (put_s hS hm (by omega) (by omega) hP hlow 50 (fun b hb=>by have:=hq.1 b hb; omega) (by omega)).mono fun e w' q=>⟨q.1,?_⟩
 obtain ⟨M',a',P',h1,h2,h3,h4,h5,h6,h7,h8,hst,h9⟩:=q.2
 have hfr:=freePl_frees M.ss
 have hcnt:(frees M.ss M.ss.length).length+M.ws.length+(mAt j).length=M.ss.length:=hq.2
 by_cases j0:j=0
 · subst j0
   rcases h9 with ⟨q1,_⟩ | ⟨q1,q2,q3,cs',q4⟩
   · exfalso
     have:=hfr.1 q1
     simp only [mAt,if_true,List.length_nil] at hcnt
     omega
   · refine ⟨a',P',hst,⟨M',cs',G+1,h1,h2,?_,by omega,by omega,by rw [q3,hw0]; simp [mAt,Pc.lk]⟩,h3,h4,by simpa [errJ] using q2,?_⟩
     · refine q4 _ ⟨by simp [mAt],fun k=>?_,by simp [mAt,Pc.lk]⟩
       simp only [mAt,kAt,Pc.lk]
       by_cases e:k=kA
       · simp [e,Pc.lk]
       · have e':¬kA=k:=fun q=>e q.symm
         simp [e,e',Pc.lk]
     · rw [h6]
       simp [mAt,Pc.lk,hadJ]
 · have hfree:freePl M.ss=none:=by
    rw [hfr]
    have:(mAt j).length=1:=by simp [mAt,j0]
    omega
   rcases h9 with ⟨_,q2,q3⟩ | ⟨q1,_⟩
   · refine ⟨a',P',hst,⟨M',cs,G,h1,h2,?_,by omega,by omega,by have e:M'.ws=M.ws:=congrArg Lm.ws q3; rw [e]; exact hw0⟩,h3,h4,by unfold errJ; rw [if_neg j0]; exact q2,?_⟩
     · rw [q3]
       have:mAt (j+1)=mAt j:=by simp [mAt,j0]
       rw [this]
       exact hm
     · rw [h6]
       have hj12:j=1∨j=2:=by omega
       rcases hj12 with rfl | rfl
       · simp [mAt,kAt,Pc.lk,kab,hadJ]
       · simp [mAt,kAt,Pc.lk,hadJ]
   · rw [hfree] at q1
     simp at q1
set_option maxHeartbeats 2000000 in
theorem awake (w:World):Calls Tryz.prog 58 #[] w fun e w'=>e=.returned (.bool true)∧Below w.heap.size w w':=by
 have hN:=Lib.hid (made_yes 1 1 w (by omega) (by omega))
 go_enter Tryz.func58,Tryz.ntmps58
 go_wp2_with fail
 refine hN.out.mono ?_
 rintro e w1 ⟨M,rfl,hMd⟩
 have hmp:=mp_made hMd (by omega) (by omega)
 obtain ⟨hM,hlo,hB,h1,h2,h3,h4,h5,h6,h7⟩:=hMd
 have hI:AInv w w1 M.m 0:=⟨M,_,0,⟨hM,Row.nil _ _ _ _,hB,hlo,by simp [In]⟩,rfl,hmp,by omega,by rw [h2]; simp,by rw [h7]; rfl⟩
 obtain ⟨w2,hw2⟩:∃ w2,w2=w1.alloc (.cells #[.string kA,.string kB,.string kA] 9):=⟨_,rfl⟩
 have hQ2:Blk w2 w1.heap.size 9 #[.string kA,.string kB,.string kA]:=by rw [hw2]; exact Blk.made w1 _ _
 have hI2:AInv w w2 M.m 0:=by
  obtain ⟨M1,cs,G,hS,r⟩:=hI
  exact ⟨M1,cs,G,hS.down (by rw [hw2]; exact (Below.refl _ _).alloc (Nat.le_refl _) _),r⟩
 have hge:=hB.size
 generalize M.m=m at*
 clear hN hM hlo hB h1 h2 h3 h4 h5 h6 h7 hmp hI
 go_upto_region 5 with (fail)
 rw [← hw2]
 clear hw2
 generalize w1.heap.size=sb at*
 have H0:=Lib.hid (And.intro hI2 hQ2)
 clear hI2 hQ2
 go_wp2_with fail
 go_loopw [12] (fun c wr=>∃ j:Nat,j≤3∧c=.int .i64 j∧AInv w wr m j∧Blk wr sb 9 #[.string kA,.string kB,.string kA]) (fun c _=>3-(intOf c).toNat)
 case atStart=>exact ⟨0,by omega,rfl,H0.out.1,H0.out.2⟩
 case round=>
  obtain ⟨j,hj,rfl,hI,hQ⟩:=hrel
  clear H0
  have l1:(kAt j).size≤maxLen:=by unfold kAt; split<;>(simp only [maxLen]; decide)
  have hNw:=Lib.hid (Pu.new_any 0 (kAt j) vX l1 wr)
  have hlo:w.heap.size≤wr.heap.size:=by
   obtain ⟨_,_,_,hS,_⟩:=hI
   exact hS.below.size
  have HI:=Lib.hid hI
  have HQ:=Lib.hid hQ
  have c0:=hQ.cell 0
  have c1:=hQ.cell 1
  have c2:=hQ.cell 2
  have hlq:=hQ.lt
  simp at c0 c1 c2
  clear hI hQ l1
  have hj':j=0∨j=1∨j=2∨j=3:=by omega
  rcases hj' with rfl | rfl | rfl | rfl
  case' inr.inr.inr=>
   have hB:=Lib.hid (show Below w.heap.size w wr from by obtain ⟨_,_,_,hS,_⟩:=HI.out; exact hS.below)
   have hA8:=Lib.hid (fun w=>LawEight.awake w)
   have hA10:=Lib.hid (fun w=>LawTen.awake w)
   clear HI HQ c0 c1 c2 hNw hlq
   go_wp2_with fail
   refine (hA8.out _).mono ?_
   rintro e w3 ⟨rfl,hB3⟩
   have hB03:=Lib.hid (hB.out.trans (hB3.mono hB.out.size))
   clear hB hB3
   go_wp2_with fail
   refine (hA10.out _).mono ?_
   rintro e w4 ⟨rfl,hB4⟩
   have hB04:=Lib.hid (hB03.out.trans (hB4.mono hB03.out.size))
   clear hB03 hB4
   go_wp2_with fail
   go_ret
   exact ⟨rfl,hB04.out⟩
  all_goals
   go_wp2_with fail
   refine hNw.out.mono ?_
   rintro e w3 ⟨a,hh,rfl,hP3,hl3,hB3⟩
   have hQ3:=HQ.out.only (Only.ofBelow hB3 (fun _=>False)) (by simp)
   have hF:=Lib.hid (aput (by omega) (HI.out.down hB3) hP3 (fun x hx=>Nat.le_trans hlo (hl3 x hx)))
   replace hQ3:=Lib.hid hQ3
   clear hNw HI HQ hP3 hl3 c0 c1 c2
   go_wp2_with fail
   refine hF.out.mono ?_
   rintro e w4 ⟨⟨k4,rfl⟩,a',P,hst,hI4,hP4,ea,he,hd⟩
   have hQ4:=Lib.hid (hst sb _ _ (by decide) hQ3.out)
   clear hst
   have hE:=err_any hP4
   rw [he,ea] at hE
   have hH:=had_any hP4
   rw [hd,ea] at hH
   simp only [eJ0,eJ1,eJ2,hJ0,hJ1,hJ2] at hE hH
   replace hE:=Lib.hid hE
   replace hH:=Lib.hid hH
   replace hI4:=Lib.hid hI4
   clear hF hP4 he hd ea
   go_wp2_with fail
   refine hE.out.mono ?_
   rintro e w' ⟨rfl,rfl⟩
   go_wp2_with fail
   refine hE.out.mono ?_
   rintro e w' ⟨rfl,rfl⟩
   go_wp2_with fail
   refine hH.out.mono ?_
   rintro e w5 ⟨rfl,hB5⟩
   have hI5:=Lib.hid (hI4.out.down hB5)
   have hQ5:=Lib.hid (hQ4.out.only (Only.ofBelow hB5 (fun _=>False)) (by simp))
   clear hE hH hI4 hB5
   go_wp2_with fail
   go_roundw
   case rel=>exact ⟨_,by omega,by go_num,hI5.out,hQ5.out⟩
   case measure=>simp [intOf]; try omega
end Go.Proofs.YtkogifmjbmnpgaaGreat.LawEl
