/- Walks and plain mathematics, put together in their order: ShrK, ThB, BaseA, BaseB, BaseC, BaseD, RestA, RzA, RzB, RzC, RzD, RzE, RzN, ClP, RzF, RzU. -/
import Derived.Test.YtpobbnllcoabhaaGreatDoorPart8
import Derived.Test.YtpobbnllcoabhaaGreatDoorFrm
import Derived.Test.YtpobbnllcoabhaaGreatDoorGtF
import Derived.Test.YtpobbnllcoabhaaGreatDoorFnvWalk
set_option linter.unusedVariables false
set_option linter.unusedSimpArgs false
namespace Go.Proofs.YtpobbnllcoabhaaGreatDoor.Sw
open Go Hm Ar Mm Wk Pc Me Mq Pu Pn Gt Qs Zp Mx
theorem toNext_3 (G:Sh):3≤(toNext G).nx:=by
 unfold toNext
 simp only
 split<;>omega
theorem toStore_3 (G:Sh):3≤(toStore G).nx:=by
 unfold toStore
 split
 · split
   · exact toNext_3 G
   · simp
 · simp
theorem comeTo_3 (G:Sh) (x:Nat):3≤(comeTo G x).nx:=by
 unfold comeTo endFirst
 split
 · split
   · exact toStore_3 _
   · split
     · exact toStore_3 _
     · simp
 · simp
theorem begun_3 (G:Sh):3≤(begun G).nx:=by
 unfold begun
 split
 · exact toStore_3 _
 · exact comeTo_3 _ _
theorem sstep_keep (L:Lm) (G:Sh):Gw.Keep L (sstep L G).1:=by
 unfold sstep
 split
 · exact .refl L
 split
 · split
   · exact Gw.Keep.cells L _ _
   · exact .refl L
 split
 · exact .refl L
 split
 · exact .refl L
 split
 · exact .refl L
 split
 · exact Gw.Keep.lnk L _ _
 split
 · exact Gw.Keep.cells L _ L.ds
 split
 · exact Gw.Keep.cells L _ L.ds
 · exact Gw.Keep.wait L _ _
theorem sstep_ds (L:Lm) (G:Sh) (d:Nat) (h:L.ds.length≤d+1∧(G.nx≤2→L.ds.length≤d)):(sstep L G).1.ds.length≤d+1∧((sstep L G).2.nx≤2→1≤G.nx→(sstep L G).1.ds.length≤d):=by
 unfold sstep
 split
 · exact ⟨h.1,fun _ _=>h.2 (by omega)⟩
 split
 · have:=h.2 (by omega)
   split
   · exact ⟨by simp; omega,fun q _=>by simp at q⟩
   · exact ⟨h.1,fun q _=>by simp at q⟩
 split
 · exact ⟨h.1,fun q _=>by simp at q⟩
 split
 · exact ⟨h.1,fun q _=>by have:=begun_3 {G with sec:=(Cl.nth L.xs (G.el.2+(G.bucket+G.nw.1))).toNat}; simp only at q; omega⟩
 split
 · exact ⟨h.1,fun q _=>by have:=comeTo_3 {G with la:=G.at_,met:=G.at_::G.met} (at' L.ss ((G.at_-1) % 65536)).nd.next.toNat; simp only at q; omega⟩
 split
 · exact ⟨h.1,fun q _=>by have:=toStore_3 G; simp only at q; omega⟩
 split
 · exact ⟨h.1,fun q _=>by have:=toNext_3 G; simp only at q; omega⟩
 split
 · exact ⟨h.1,fun q _=>by simp at q⟩
 · exact ⟨h.1,fun q _=>by simp only at q; omega⟩
theorem J.per {n0:Nat} {l:List Pr} {Z:Js} {L:Lm} {G:Sh} {m c:Nat} {old:Nat→Int→Nat→Prop} (h:J n0 Z old L G m c) (hZ:JD l Z L):Cl.nth (sstep L G).1.xs 0≤Cl.nth L.xs 0+1:=by
 obtain ⟨hc,hp⟩:=h
 have hm:=hp.pos
 have hpd:=hc.pd
 have h01:=hZ.1.p1
 have hb5:=hc.b5
 have hkB:=hZ.1.kB
 have hxl:=hZ.1.xl
 have hk:=hc.k
 have same:Cl.nth L.xs 0≤Cl.nth L.xs 0+1:=by omega
 have set0:∀ (i:Nat) (v:Int),i≠0→Cl.nth (L.xs.set i v) 0≤Cl.nth L.xs 0+1:=fun i v hi=>by
  by_cases hl:i<L.xs.length
  · rw [nth_set _ _ _ hl,if_neg (by omega)]; exact same
  · rw [List.set_eq_of_length_le (by omega)]; exact same
 unfold sstep
 split
 · exact same
 split
 · split
   · simp only; rw [Gw.nth_app]; exact same
   · exact same
 split
 · exact same
 split
 · exact same
 split
 · exact same
 split
 · exact same
 split
 · rename_i q
   refine set0 _ _ ?_
   have:=hc.nw
   rw [if_neg (by omega)] at this
   rw [this]
   simp only
   omega
 split
 · exact set0 1 _ (by omega)
 · exact (Gw.wstep_cells (L:=L) (by omega) (by omega) (by omega)).2.2.1
end Go.Proofs.YtpobbnllcoabhaaGreatDoor.Sw
namespace Go.Proofs.YtpobbnllcoabhaaGreatDoor.LawTh
open Go Hm Ar Mm Me Wk Pc Pn Mq Zp Mx Gw
def allh (n:Nat) (cs:Nat→List Mq.Hp):List Nat:=(List.range n).flatMap fun b=>hds (cs b)
theorem allh_succ (cs:Nat→List Mq.Hp) (b:Nat):allh (b+1) cs=allh b cs++hds (cs b):=by simp [allh,List.range_succ]
theorem allh_mem {n y:Nat} {cs:Nat→List Mq.Hp} (h:y∈allh n cs):∃ b,b<n∧y∈hds (cs b):=by
 unfold allh at h
 obtain ⟨b,hb,hy⟩:=List.mem_flatMap.1 h
 exact ⟨b,List.mem_range.1 hb,hy⟩
theorem rh_allh {ss:List Sl} {f:Nat→Nat} {cs:Nat→List Mq.Hp} {n:Nat} (hc:∀ b,b<n→Cx ss (f b) (cs b)) (hn:∀ b,b<n→(hds (cs b)).Nodup) (hd:∀ b b',b<n→b'<n→b≠b'→∀ y∈hds (cs b),y∉hds (cs b')):∀ m,m≤n→Rh ss f m (allh m cs):=by
 intro m
 induction m with
 | zero=>intro _; exact .zero
 | succ m ih=>
   intro hm
   rw [allh_succ]
   refine .succ (ih (by omega)) ((hc m (by omega)).ch _ (fun y hy q=>?_) (hn m (by omega)))
   obtain ⟨b,hb,hyb⟩:=allh_mem q
   exact hd b m (by omega) (by omega) (by omega) y hyb hy
theorem cut_len (l:List Pr) (f:Pr→Nat) (m:Nat):(l.filter fun p=>decide (f p<m+1)).length=(l.filter fun p=>decide (f p<m)).length+(l.filter fun p=>decide (f p=m)).length:=by
 induction l with
 | nil=>rfl
 | cons a t ih=>
   simp only [List.filter_cons]
   by_cases h1:f a<m
   · rw [if_pos (by simp; omega),if_pos (by simpa using h1),if_neg (by simp; omega)]
     simp only [List.length_cons]
     omega
   · by_cases h2:f a=m
     · rw [if_pos (by simp; omega),if_neg (by simpa using h1),if_pos (by simpa using h2)]
       simp only [List.length_cons]
       omega
     · rw [if_neg (by simp; omega),if_neg (by simpa using h1),if_neg (by simpa using h2)]
       exact ih
def own (l:List Pr) (n b:Nat):List Pr:=l.filter fun p=>decide (bkt p.1 n=b)
theorem allh_len (l:List Pr) {n:Nat} {cs:Nat→List Mq.Hp} (h:∀ b,b<n→prs (cs b)=own l n b):∀ m,m≤n→(allh m cs).length=(l.filter fun p=>decide (bkt p.1 n<m)).length:=by
 intro m
 induction m with
 | zero=>
   intro _
   have:(l.filter fun p=>decide (bkt p.1 n<0))=[]:=List.filter_eq_nil_iff.2 fun p _=>by simp
   rw [this]
   rfl
 | succ m ih=>
   intro hm
   rw [allh_succ,List.length_append,ih (by omega),cut_len]
   have h1:=congrArg List.length (h m (by omega))
   simp only [prs,List.length_map,own] at h1
   simp only [hds,List.length_map]
   omega
end Go.Proofs.YtpobbnllcoabhaaGreatDoor.LawTh
namespace Go.Proofs.YtpobbnllcoabhaaGreatDoor.Bs
open Go Hm Ar Mm Wk Pc Me Mq Pu Pn Gt Qs Zp Mx Gw LawTh
structure Base (n B:Nat) (l:List Pr) (L:Lm) (cs:Nat→List Mq.Hp):Prop where
 pw:FM.power n=true
 now:Me.now L.xs L.ds=(n,B)
 tabs:Tabs L.xs L.ds
 tb:∀ i,(tab L.ds i).1≤65536∧(tab L.ds i).2≤4000000
 k:1≤L.k∧L.k≤8
 kB:2+L.k≤B
 xl:B+n≤L.xs.length
 xm:L.xs.length≤1048576
 xb:∀ x∈L.xs,0≤x∧x≤18446744073709551615
 nexts:Nexts L.ss
 len:L.ss.length≤1024
 F:L.F=false
 p1:1≤Cl.nth L.xs 0
 cx:∀ b,b<n→Cx L.ss (Cl.nth L.xs (B+b)).toNat (cs b)
 own:∀ b,b<n→prs (cs b)=own l n b
 keys:(l.map (·.1)).Nodup
 few:l.length≤60
section
variable {n B:Nat} {l:List Pr} {L:Lm} {cs:Nat→List Mq.Hp}
theorem lk_filter (l:List Pr) (f:ByteArray→Bool) (key:ByteArray) (h:f key=true):Pc.lk (l.filter fun p=>f p.1) key=Pc.lk l key:=by
 induction l with
 | nil=>rfl
 | cons p t ih=>
   rw [List.filter_cons]
   by_cases hk:p.1=key
   · rw [if_pos (by rw [hk]; exact h)]
     simp [Pc.lk,hk]
   · split
     · simp only [Pc.lk,if_neg hk]
       exact ih
     · simp only [Pc.lk,if_neg hk]
       exact ih
theorem Base.n1 (h:Base n B l L cs):1≤n∧n≤65536:=by
 have:=FM.power_bd h.pw
 omega
theorem Base.hd (h:Base n B l L cs) {b:Nat} (hb:b<n):Cl.nth L.xs (B+b)=((hdH (cs b):Nat):Int):=by
 have h1:=Cx.hd (h.cx b hb)
 have h2:=Cl.getD_bd h.xb (B+b)
 omega
theorem Base.bk (h:Base n B l L cs) {b:Nat} (hb:b<n):∀ a∈cs b,bkt a.2.1 n=b:=fun a ha=>by
 have:a.2∈prs (cs b):=List.mem_map.2 ⟨a,ha,rfl⟩
 rw [h.own b hb] at this
 exact of_decide_eq_true (List.mem_filter.1 this).2
theorem Base.small (h:Base n B l L cs) {b:Nat} (hb:b<n):(cs b).length≤l.length:=by
 have h1:=congrArg List.length (h.own b hb)
 have h2:=List.length_filter_le (fun p:Pr=>decide (bkt p.1 n=b)) l
 simp only [prs,List.length_map,LawTh.own] at h1
 omega
theorem Base.lk (h:Base n B l L cs) (key:ByteArray):Pc.lk l key=Pc.lk (prs (cs (bkt key n))) key:=by
 rw [h.own _ (bkt_lt h.pw key).1]
 exact (lk_filter l (fun k=>decide (bkt k n=bkt key n)) key (by simp)).symm
theorem Base.nd (h:Base n B l L cs) {b:Nat} (hb:b<n):(hds (cs b)).Nodup:=by
 refine Cx.nodup h.len (h.cx b hb) ?_
 have h3:kys (cs b)=(prs (cs b)).map (·.1):=by simp [prs]
 rw [h3,h.own b hb]
 exact (List.filter_sublist.map _).nodup h.keys
theorem Base.dj (h:Base n B l L cs) {b b':Nat} (hb:b<n) (hb':b'<n) (hne:b≠b'):∀ a∈hds (cs b),a∉hds (cs b'):=fun a ha ha'=>by
 obtain ⟨x,hx,rfl⟩:=List.mem_map.1 ha
 obtain ⟨y,hy,hxy⟩:=List.mem_map.1 ha'
 have hs:=Cx.same h.len (h.cx b hb) (h.cx b' hb') hx hy hxy.symm
 have h1:=h.bk hb x hx
 have h2:=h.bk hb' y hy
 rw [hs] at h1
 omega
theorem Base.zs (h:Base n B l L cs) (hpw2:FM.power ((2*n:Nat):Int)=true):∃ Z:Zs,Z.Ok L l∧Z.n=n∧Z.B=B∧Z.B2=L.xs.length∧Z.pub=false∧Z.few=l.length∧(∀ e,e<n→Z.fresh e)∧Z.All=cs:=by
 have hx:∀ e:Nat,∃ z:Bool×List Mq.Hp×List Mq.Hp,e<n→cs e=z.2.1++z.2.2∧Zip L.ss (sd n) (cs e) z.1 (Cl.nth L.xs (B+e)).toNat (hdH z.2.2) [] z.2.1 [] z.2.2:=fun e=>by
  by_cases he:e<n
  · obtain ⟨s,r,rest,h4,h5⟩:=zip_new (σ:=sd n) (h.cx e he) (h.nd he)
    exact ⟨(s,r,rest),fun _=>⟨h4,h5⟩⟩
  · exact ⟨(true,[],[]),fun q=>absurd q he⟩
 obtain ⟨f,hf⟩:=Classical.axiomOfChoice hx
 have hn:=h.n1
 have hxl:=h.xl
 have hxm:=h.xm
 have hfew:=h.few
 refine ⟨⟨n,B,L.xs.length,l.length,1000,false,cs,fun e=>(f e).1,fun e=>(Cl.nth L.xs (B+e)).toNat,fun e=>hdH (f e).2.2,fun _=>[],fun e=>(f e).2.1,fun _=>[],fun e=>(f e).2.2⟩,?_,rfl,rfl,rfl,rfl,rfl,fun e he=>⟨rfl,rfl,(hf e he).1⟩,rfl⟩
 exact ⟨h.pw,hpw2,by rw [if_neg (by simp)]; exact h.now,h.tb,h.k,h.kB,⟨hxl,hxl,fun q=>by simp at q⟩,by simp only; omega,h.xb,h.nexts,h.len,fun e he=>h.hd he,fun q=>by simp at q,fun e he=>(hf e he).2,h.lk,h.F,h.p1,⟨fun e he=>h.small he,by simp only; omega,by simp only; omega,by simp only; omega⟩,fun _ e he=>⟨rfl,rfl,(hf e he).1⟩,fun e e' he he' hne=>h.dj he he' hne⟩
theorem two_len (l:List Pr) (f:Pr→Nat) {a b:Nat} (h:a≠b):(l.filter fun p=>decide (f p=a)).length+(l.filter fun p=>decide (f p=b)).length≤l.length:=by
 induction l with
 | nil=>simp
 | cons p t ih=>
   simp only [List.filter_cons]
   by_cases h1:f p=a
   · rw [if_pos (by simpa using h1),if_neg (by simp; omega)]
     simp only [List.length_cons]
     omega
   · rw [if_neg (by simpa using h1)]
     split
     · simp only [List.length_cons]
       omega
     · simp only [List.length_cons]
       omega
theorem Base.js {m:Nat} (h:Base (2*m) B l L cs) (hpw:FM.power m=true) {cap:Nat} (hcap:l.length≤cap∧cap≤1000000):∃ Z:Js,Z.Ok L l∧Z.n=m∧Z.B=B∧Z.B2=L.xs.length∧Z.pub=false∧Z.few=l.length∧Z.cap=cap∧Z.C=cs∧∀ e,Z.jn e=false:=by
 have hn:=h.n1
 have hxl:=h.xl
 have hxm:=h.xm
 have hfew:=h.few
 have hm:=FM.power_bd hpw
 refine ⟨⟨m,B,L.xs.length,l.length,cap,false,cs,fun _=>false⟩,?_,rfl,rfl,rfl,rfl,rfl,rfl,rfl,fun _=>rfl⟩
 refine ⟨hpw,h.pw,by rw [if_neg (by simp)]; exact h.now,h.tb,h.k,h.kB,⟨hxl,hxl,fun q=>by simp at q⟩,by simp only; omega,h.xb,h.nexts,h.len,fun b hb=>h.hd hb,fun q=>by simp at q,fun q=>by simp at q,fun b hb=>?_,h.lk,fun b hb=>h.bk hb,h.F,h.p1,⟨fun e he=>?_,by simp only; omega,by simp only; omega,by simp only; omega⟩,fun b hb=>h.nd hb,fun b b' hb hb' hne=>h.dj hb hb' hne⟩
 · have hw:Js.way ⟨m,B,L.xs.length,l.length,cap,false,cs,fun _=>false⟩ b=cs b:=by
    unfold Js.way
    rw [if_neg (by simp)]
   rw [hw]
   have:=h.cx b hb
   rw [← Cx.hd this]
   exact this
 · have he:e<m:=he
   have e1:=congrArg List.length (h.own e (by omega))
   have e2:=congrArg List.length (h.own (e+m) (by omega))
   simp only [prs,List.length_map,LawTh.own] at e1 e2
   have e3:=two_len l (fun p=>bkt p.1 (2*m)) (a:=e) (b:=e+m) (by omega)
   unfold Js.two
   simp only [List.length_append]
   omega
end
end Go.Proofs.YtpobbnllcoabhaaGreatDoor.Bs
namespace Go.Proofs.YtpobbnllcoabhaaGreatDoor.Bs
open Go Hm Ar Mm Wk Pc Me Mq Pu Pn Gt Qs Zp Mx Gw LawTh
def flat (n:Nat) (cs:Nat→List Mq.Hp):List Pr:=(List.range n).flatMap fun b=>prs (cs b)
theorem flat_succ (n:Nat) (cs:Nat→List Mq.Hp):flat (n+1) cs=flat n cs++prs (cs n):=by simp [flat,List.range_succ]
section
variable {n:Nat} {cs:Nat→List Mq.Hp}
theorem flat_mem {p:Pr}:p∈flat n cs↔∃ b,b<n∧p∈prs (cs b):=by
 unfold flat
 rw [List.mem_flatMap]
 exact ⟨fun ⟨b,h1,h2⟩=>⟨b,List.mem_range.1 h1,h2⟩,fun ⟨b,h1,h2⟩=>⟨b,List.mem_range.2 h1,h2⟩⟩
theorem flat_own (N:Nat) (h:∀ b,b<N→∀ a∈cs b,bkt a.2.1 N=b) (b:Nat):∀ m,m≤N→(flat m cs).filter (fun p=>decide (bkt p.1 N=b))=if b<m then prs (cs b) else []:=by
 intro m
 induction m with
 | zero=>intro _; rw [if_neg (by omega)]; rfl
 | succ m ih=>
   intro hm
   rw [flat_succ,List.filter_append,ih (by omega)]
   have h1:(prs (cs m)).filter (fun p=>decide (bkt p.1 N=b))=if b=m then prs (cs m) else []:=by
    by_cases e:b=m
    · rw [if_pos e]
      refine List.filter_eq_self.2 fun p hp=>?_
      obtain ⟨a,ha,rfl⟩:=List.mem_map.1 hp
      exact decide_eq_true ((h m (by omega) a ha).trans e.symm)
    · rw [if_neg e]
      refine List.filter_eq_nil_iff.2 fun p hp=>?_
      obtain ⟨a,ha,rfl⟩:=List.mem_map.1 hp
      have:=h m (by omega) a ha
      simp
      omega
   rw [h1]
   by_cases h2:b<m
   · rw [if_pos h2,if_neg (by omega),if_pos (by omega),List.append_nil]
   · rw [if_neg h2,List.nil_append]
     by_cases e:b=m
     · rw [if_pos e,if_pos (by omega),e]
     · rw [if_neg e,if_neg (by omega)]
theorem flat_keys (h:∀ b,b<n→∀ a∈cs b,bkt a.2.1 n=b) (hk:∀ b,b<n→(kys (cs b)).Nodup):∀ m,m≤n→((flat m cs).map (·.1)).Nodup:=by
 intro m
 induction m with
 | zero=>intro _; exact List.nodup_nil
 | succ m ih=>
   intro hm
   rw [flat_succ,List.map_append,List.nodup_append]
   have e:(prs (cs m)).map (·.1)=kys (cs m):=by simp [prs]
   refine ⟨ih (by omega),by rw [e]; exact hk m (by omega),fun x hx y hy q=>?_⟩
   obtain ⟨p,hp,rfl⟩:=List.mem_map.1 hx
   obtain ⟨b,hb,hpb⟩:=flat_mem.1 hp
   obtain ⟨a,ha,rfl⟩:=List.mem_map.1 hpb
   rw [e] at hy
   obtain ⟨a',ha',rfl⟩:=List.mem_map.1 hy
   have h1:=h b (by omega) a ha
   have h2:=h m (by omega) a' ha'
   have q:a.2.1=a'.2.1:=q
   rw [q] at h1
   omega
theorem flat_len (cs:Nat→List Mq.Hp):∀ m,(flat m cs).length=(allh m cs).length:=by
 intro m
 induction m with
 | zero=>rfl
 | succ m ih=>rw [flat_succ,allh_succ,List.length_append,List.length_append,ih]; simp [prs]
theorem base_of {B:Nat} {L:Lm} (pw:FM.power n=true) (now:Me.now L.xs L.ds=(n,B)) (tabs:Tabs L.xs L.ds) (tb:∀ i,(tab L.ds i).1≤65536∧(tab L.ds i).2≤4000000) (k:1≤L.k∧L.k≤8) (kB:2+L.k≤B) (xl:B+n≤L.xs.length) (xm:L.xs.length≤1048576) (xb:∀ x∈L.xs,0≤x∧x≤18446744073709551615)
 (nexts:Nexts L.ss) (len:L.ss.length≤1024) (F:L.F=false) (p1:1≤Cl.nth L.xs 0) (cx:∀ b,b<n→Cx L.ss (Cl.nth L.xs (B+b)).toNat (cs b)) (bk:∀ b,b<n→∀ a∈cs b,bkt a.2.1 n=b) (kd:∀ b,b<n→(kys (cs b)).Nodup) (few:(allh n cs).length≤60):Base n B (flat n cs) L cs:=
 ⟨pw,now,tabs,tb,k,kB,xl,xm,xb,nexts,len,F,p1,cx,fun b hb=>by
  have:=flat_own n bk b n (Nat.le_refl _)
  rw [if_pos hb] at this
  exact this.symm,flat_keys bk kd n (Nat.le_refl _),by rw [flat_len]; exact few⟩
end
theorem Js.Ok.base {J:Js} {L:Lm} {l:List Pr} (hJ:J.Ok L l) (hp:J.pub=true) (htb:Tabs L.xs L.ds) (hxm:L.xs.length≤1048576) (hk:∀ b,b<2*J.n→(kys (J.C b)).Nodup) (hfew:(allh J.n J.two).length≤60):Base J.n J.B2 (flat J.n J.two) L J.two:=by
 have hn:=FM.power_bd hJ.pw
 have hnow:=hJ.now
 rw [if_pos hp] at hnow
 have hx:=hJ.xl
 have hkB:=hJ.kB
 refine base_of hJ.pw hnow htb hJ.tb hJ.k (by omega) (by have:=hx.2.2 hp; omega) hxm hJ.xb hJ.nexts hJ.len hJ.F hJ.p1 (fun e he=>?_) (fun e he a ha=>?_) (fun e he=>?_) hfew
 · rw [hJ.newer hp e he,Int.toNat_natCast]
   exact hJ.both hp he
 · obtain ⟨h1,h2,h3⟩:=bkt_two hJ.pw hJ.pw2 a.2.1
   rcases List.mem_append.1 ha with q | q
   · have:=hJ.own e (by omega) a q
     rw [this,Nat.mod_eq_of_lt he] at h1
     exact h1.symm
   · have:=hJ.own (e+J.n) (by omega) a q
     rw [this,Nat.add_mod_right,Nat.mod_eq_of_lt he] at h1
     exact h1.symm
 · have e1:kys (J.two e)=kys (J.C e)++kys (J.C (e+J.n)):=by simp [kys,Js.two]
   rw [e1,List.nodup_append]
   refine ⟨hk e (by omega),hk (e+J.n) (by omega),fun x hx y hy q=>?_⟩
   obtain ⟨a,ha,rfl⟩:=List.mem_map.1 hx
   obtain ⟨a',ha',rfl⟩:=List.mem_map.1 hy
   have h1:=hJ.own e (by omega) a ha
   have h2:=hJ.own (e+J.n) (by omega) a' ha'
   have q:a.2.1=a'.2.1:=q
   rw [q] at h1
   omega
end Go.Proofs.YtpobbnllcoabhaaGreatDoor.Bs
namespace Go.Proofs.YtpobbnllcoabhaaGreatDoor.Bs
open Go Hm Ar Mm Wk Pc Me Mq Pu Pn Gt Qs Zp Mx Gw LawTh
def Like (l l':List Pr):Prop:=∀ key,Pc.lk l key=Pc.lk l' key
theorem Like.symm {l l':List Pr} (h:Like l l'):Like l' l:=fun k=>(h k).symm
section
variable {l l':List Pr} {Y:Wy} {L:Lm} {w k:Nat} {key:ByteArray} {G:Gt.Ge}
theorem Rok.like {old:Int→Nat→Prop} (e:Like l l') (h:Rok Y L l old w key G k):Rok Y L l' old w key G k:=by
 refine ⟨h.ky,h.sum,h.wk,h.gat,h.pd,h.cnt,h.pr,?_⟩
 cases h.ph with
 | come a b=>exact .come a b
 | put a b=>exact .put a b
 | load a=>exact .load a
 | first c a1 b hc ho=>exact .first c a1 b hc ho
 | look q a1 a2 a3 a4 a5 a6 a7 a8 a9 a10 a11 a12 a13=>exact .look q a1 a2 a3 a4 a5 a6 a7 a8 a9 (a10.trans (e key)) a11 a12 a13
 | leave a b=>exact .leave a (e key▸b)
theorem RnOk.like {old:Nat→Int→Nat→Prop} {R:Rn} (e:Like l l') (h:RnOk Y L l old R k):RnOk Y L l' old R k:=by
 unfold RnOk at h ⊢
 split
 · rename_i q
   rw [q] at h
   exact h
 · rename_i G q
   rw [q] at h
   exact Rok.like e h
theorem Zs.Ok.like {Z:Zs} (e:Like l l') (h:Z.Ok L l):Z.Ok L l':={h with lk:=fun key=>(e key).symm.trans (h.lk key)}
theorem Js.Ok.like {J:Js} (e:Like l l') (h:J.Ok L l):J.Ok L l':={h with lk:=fun key=>(e key).symm.trans (h.lk key)}
theorem ZD.like {Z:Zs} (e:Like l l') (h:ZD l Z L):ZD l' Z L:=⟨Zs.Ok.like e h.1,h.2⟩
end
end Go.Proofs.YtpobbnllcoabhaaGreatDoor.Bs
namespace Go.Proofs.YtpobbnllcoabhaaGreatDoor.Bs
open Go Hm Ar Mm Wk Pc Me Mq Pu Pn Gt Qs Zp Mx Gw LawTh
section
variable {Z Z':Zs} {J J':Js} {L:Lm} {l:List Pr} {R:Rn} {k:Nat} {old:Nat→Int→Nat→Prop} {key:ByteArray} {q:List Mq.Hp}
theorem fresh_pos (hf:Z.fresh (bkt key Z.n)) (hq:q<:+Z.All (bkt key Z.n)):Z.wy.Pos (fun _=>True) key q:=by
 obtain ⟨f1,f2,f3⟩:=hf
 show Std _ _ _ _ _ _ _ key q
 rw [f1,f2]
 rw [f3] at hq
 by_cases hs:sd Z.n key=Z.s (bkt key Z.n)
 · exact .inl ⟨hs,by rw [List.nil_append]; exact hq⟩
 · refine .inr (.inr ⟨trivial,?_,hq⟩)
   revert hs
   cases sd Z.n key<;>cases Z.s (bkt key Z.n)<;>simp
theorem shrunk_way (hJ:J.Ok L l) (hall:∀ e,e<J.n→J.jn e=true) (key:ByteArray) (hq:q<:+J.way (bkt key (2*J.n))):q<:+J.two (bkt key J.n):=by
 obtain ⟨h1,h2,h3⟩:=hJ.bk key
 unfold Js.way at hq
 split at hq
 · rename_i hw
   rcases h3 with e | e
   · rw [e] at hq; exact hq
   · omega
 · rename_i hw
   rcases h3 with e | e
   · have:J.C (bkt key (2*J.n))=[]:=by
      cases hC:J.C (bkt key (2*J.n)) with
      | nil=>rfl
      | cons x y=>exact absurd ⟨by omega,hall _ (by omega),by rw [hC]; simp⟩ hw
     rw [this] at hq
     have hq0:q=[]:=List.suffix_nil.1 hq
     rw [hq0]
     exact List.nil_suffix
   · rw [e] at hq
     exact hq.trans (List.suffix_append _ _)
end
end Go.Proofs.YtpobbnllcoabhaaGreatDoor.Bs
namespace Go.Proofs.YtpobbnllcoabhaaGreatDoor.Bs
open Go Hm Ar Mm Wk Pc Me Mq Pu Pn Gt Qs Zp Mx LawTh
structure Rs where
 n:Nat
 B:Nat
 few:Nat
 cap:Nat
 cs:Nat→List Mq.Hp
 ls:List Pr
def Rs.wy (Y:Rs):Wy:=⟨fun _ key q=>q<:+Y.cs (bkt key Y.n),fun _ key c=>c=Y.B+bkt key Y.n,Y.few,Y.cap,true⟩
structure Rest (l:List Pr) (Y:Rs) (L:Lm):Prop where
 base:Base Y.n Y.B Y.ls L Y.cs
 like:Like Y.ls l
 few:Y.few=Y.ls.length∧Y.ls.length≤35
 cap:Y.few≤Y.cap∧Y.cap≤1000000
 hol:Lo.hol L.hs 0= -1∧0<L.hs.length
 pos:∀ b,b<Y.n→∀ a∈Y.cs b,a.1≠0∧a.1≤18446744073709551615
section
variable {l:List Pr} {Y:Rs} {L:Lm} {R:Rn} {k:Nat} {old old':Nat→Int→Nat→Prop} {w:Int}
theorem Rest.ways (h:Rest l Y L):Y.wy.Ok L l:=by
 have hb:=h.base
 have hn1:=hb.n1
 have hkB:=hb.kB
 have hxl:=hb.xl
 have hxm:=hb.xm
 have hk:=hb.k
 obtain ⟨f1,f2⟩:=h.few
 obtain ⟨c1,c2⟩:=h.cap
 refine ⟨hb.k,fun w hw=>by omega,hb.xb,hb.nexts,hb.len,hb.F,hb.p1,hb.tb,⟨by show Y.few≤900; omega,c1,c2⟩,fun {o key e q} h=>(List.suffix_cons _ _).trans h,fun _ h=>h,fun _ h=>h,fun {o key c} hc=>?_,fun o key _=>?_⟩
 · obtain ⟨h1,h2⟩:=bkt_lt hb.pw key
   have hc:c=Y.B+bkt key Y.n:=hc
   subst hc
   have hw1:word L.xs ((Y.B+bkt key Y.n:Nat):Int)=(Cl.nth L.xs (Y.B+bkt key Y.n)).toNat:=by
    unfold word
    rw [if_pos (by omega),Int.toNat_natCast]
   rw [hw1]
   exact ⟨by omega,_,hb.cx _ h1,List.suffix_refl _,by rw [← hb.lk key]; exact h.like key,by have:=hb.small h1; show _≤Y.few; omega⟩
 · obtain ⟨h1,h2⟩:=bkt_lt hb.pw key
   refine ⟨Y.B+bkt key Y.n,?_,rfl⟩
   rw [hb.now]
   unfold Gt.cellOf
   simp only
   rw [if_neg (by omega),h2]
   simp
theorem Base.zsc {n B:Nat} {ls:List Pr} {cs:Nat→List Mq.Hp} (h:Base n B ls L cs) (hpw2:FM.power ((2*n:Nat):Int)=true) {cap:Nat} (hcap:ls.length≤cap∧cap≤1000000):∃ Z:Zs,Z.Ok L ls∧Z.n=n∧Z.B=B∧Z.B2=L.xs.length∧Z.pub=false∧Z.few=ls.length∧(∀ e,e<n→Z.fresh e)∧Z.All=cs∧Z.cap=cap:=by
 obtain ⟨Z,hZ,z1,z2,z3,z4,z5,z6,z7⟩:=h.zs hpw2
 have hf:=hZ.few
 exact ⟨{Z with cap:=cap},{hZ with few:=⟨hf.1,hf.2.1,by show Z.few≤cap; omega,hcap.2⟩},z1,z2,z3,z4,z5,z6,z7,rfl⟩
theorem Rest.grows (h:Rest l Y L) (hpw2:FM.power ((2*Y.n:Nat):Int)=true) (hw:0≤w∧w≤1000) (hp0:Cl.nth L.xs 0≤1000000000000) (hxm:L.xs.length+2*Y.n≤1048576) (hds:L.ds.length≤800000):
 ∃ Z,ZD Y.ls Z L∧Z.n=Y.n∧Z.All=Y.cs∧Z.few=Y.few∧Z.cap=Y.cap∧Z.pub=false∧Gw.J Y.n Y.ls Z (fun _ _ _=>True) L (Gw.newGro w) (2+Y.n*(Y.few+4)+(1+12*(Y.few+1)+Y.n*Y.few)) 0∧∀ R k,RnOk Y.wy L l old R k→RnOk Z.wy L l (fun _ _ _=>True) R k:=by
 obtain ⟨f1,f2⟩:=h.few
 obtain ⟨Z,hZ,z1,z2,z3,z4,z5,z6,z7,z8⟩:=h.base.zsc hpw2 (cap:=Y.cap) (by have:=h.cap; omega)
 have hb:=h.base
 have hn:=hb.n1
 have hxl:=hb.xl
 have hkB:=hb.kB
 have hk:=hb.k
 have hm1:Y.n*(Y.few+4)≤65536*39:=Nat.mul_le_mul hn.2 (by omega)
 have hm2:Y.n*Y.few≤65536*35:=Nat.mul_le_mul hn.2 (by omega)
 have zf:Z.few=Y.few:=by omega
 refine ⟨Z,⟨hZ,by omega⟩,z1,z7,zf,z8,z4,⟨⟨z1,fun e he=>by rw [z7,z1]; exact hb.own e (by omega),hw,rfl,fun q=>absurd rfl q,hb.k,?_,h.hol.2,fun _=>h.hol.1,by rw [z3,z1]; omega,?_,⟨by omega,fun _=>hds⟩,fun q=>by have q:3≤1:=q; omega,fun _=>rfl,Nat.zero_le _,by rw [z3]; omega,?_,hb.tabs⟩,.p1 rfl z4 (fun _ _ _=>trivial) rfl rfl ?_⟩,fun R k hR=>?_⟩
 · omega
 · rw [if_pos (show (Gw.newGro w).nx≤2 by show 1≤2; omega),z3]
 · intro e he a ha
   rw [z7] at ha
   exact h.pos e (by omega) a ha
 · unfold Gw.mB
   rw [z1,zf]
   omega
 · refine hR.to rfl (Int.le_refl _) rfl zf (by show Y.cap≤Z.cap; omega) (fun key c p hC=>?_) (fun key q p hP=>?_)
   · have hb1:=(bkt_lt hb.pw key).1
     have hC:c=Y.B+bkt key Y.n:=hC
     exact .inr ⟨by rw [z2,z1]; exact hC,trivial,z6 _ (by rw [z1]; exact hb1)⟩
   · have hb1:=(bkt_lt hb.pw key).1
     refine fresh_pos (z6 _ (by rw [z1]; exact hb1)) ?_
     rw [z7,z1]
     exact hP
theorem grown {Z:Zs} {G:Gw.Gr} {n0:Nat} {ls:List Pr} (hZ:ZD ls Z L) (hO:Gw.Ovr n0 ls Z L G) (hold:∀ w p e,¬old w p e) (hk:(ls.map (·.1)).Nodup) (hlike:Like ls l) (hfew:Z.few=ls.length):
 Rest l ⟨2*Z.n,Z.B2,Z.few,Z.cap,fun b=>(Z.All (b % Z.n)).filter fun a=>sd Z.n a.2.1==decide (Z.n≤b),ls⟩ L∧∀ R k,RnOk Z.wy L l old R k→RnOk (Rs.wy ⟨2*Z.n,Z.B2,Z.few,Z.cap,fun b=>(Z.All (b % Z.n)).filter fun a=>sd Z.n a.2.1==decide (Z.n≤b),ls⟩) L l old' R k:=by
 have hz:=hZ.1
 have h35:=hZ.2
 have hp:=hO.pub
 have hr:=hO.rest
 have hnow:=hz.now
 rw [if_pos hp] at hnow
 have hb1:=FM.power_bd hz.pw
 have hx:=hz.xl
 have hkB:=hz.kB
 have hxm:=hO.xm
 have hxl:=hO.xl
 have hf:=hz.few
 have hm:∀ b,b % Z.n<Z.n:=fun b=>Nat.mod_lt _ (by omega)
 refine ⟨⟨⟨hz.pw2,hnow,hO.tabs,hz.tb,hz.k,by show 2+L.k≤(Z.B2:Int); omega,by show Z.B2+2*Z.n≤_; omega,by omega,hz.xb,hz.nexts,hz.len,hz.F,hz.p1,fun b hb=>?_,fun b hb=>own_bk hz.pw hz.pw2 hb (hO.al _ (hm b)),hk,by show ls.length≤60; omega⟩,hlike,⟨hfew,by show ls.length≤35; omega⟩,⟨hf.2.2.1,hf.2.2.2⟩,⟨hO.hol,hO.hl⟩,fun b hb a ha=>?_⟩,fun R k hR=>?_⟩
 · show Cx L.ss (Cl.nth L.xs (Z.B2+b)).toNat _
   rw [hz.newer hp b hb,Int.toNat_natCast]
   exact hz.parted hr hb
 · exact hO.pos _ (hm b) a (List.mem_filter.1 ha).1
 · refine hR.to rfl (Int.le_refl _) rfl rfl (Nat.le_refl _) (fun key c p hC=>?_) (fun key q p hP=>?_)
   · rcases hC with ⟨hC,_⟩ | ⟨_,ho,_⟩
     · exact hC
     · exact absurd ho (hold _ _ _)
   · obtain ⟨t1,t2,t3⟩:=bkt_two hz.pw hz.pw2 key
     have he:bkt key Z.n<Z.n:=(bkt_lt hz.pw key).1
     have hzz:=hz.zip _ he
     have e1:=hzz.fs
     have e2:=hzz.fv
     rw [hr _ he,List.filter_nil,List.append_nil] at e1 e2
     have hP:Std (sd Z.n) (Z.s (bkt key Z.n)) (Z.u (bkt key Z.n)) (Z.r (bkt key Z.n)) (Z.v (bkt key Z.n)) (Z.rest (bkt key Z.n)) (old R.w p (bkt key Z.n)) key q:=hP
     rw [hr _ he] at hP
     show q<:+(Z.All (bkt key (2*Z.n) % Z.n)).filter fun a=>sd Z.n a.2.1==decide (Z.n≤bkt key (2*Z.n))
     rw [t1]
     have hsd:decide (Z.n≤bkt key (2*Z.n))=sd Z.n key:=rfl
     rw [hsd]
     rcases hP with ⟨hs,hq⟩ | ⟨hs,hq⟩ | ⟨ho,_⟩
     · rw [hs,e1]
       rw [List.append_nil] at hq
       exact hq
     · rw [hs,e2]
       rw [List.append_nil] at hq
       exact hq
     · exact absurd ho (hold _ _ _)
theorem Rest.shrinks {m:Nat} (h:Rest l Y L) (hm:2*m=Y.n) (hpw:FM.power m=true) (hw:0≤w∧w≤1000) (hp0:Cl.nth L.xs 0≤1000000000000) (hxm:L.xs.length+m≤1048576) (hds:L.ds.length≤800000) (hcap:Y.cap+m*Y.few≤1000000):
 ∃ Z,Sw.JD Y.ls Z L∧Z.n=m∧Z.C=Y.cs∧Z.few=Y.few∧Z.cap=Y.cap∧Sw.J m Z old' L (Sw.newShr w) (2+m*(Y.few+4)+12) (m*Y.few)∧∀ R k,RnOk Y.wy L l old R k→RnOk Z.wy L l old' R k:=by
 obtain ⟨f1,f2⟩:=h.few
 have hb:=h.base
 rw [← hm] at hb
 obtain ⟨Z,hZ,z1,z2,z3,z4,z5,z6,z7,z8⟩:=hb.js hpw (cap:=Y.cap) (by have:=h.cap; omega)
 have hn:=hb.n1
 have hxl:=hb.xl
 have hkB:=hb.kB
 have hk:=hb.k
 have zf:Z.few=Y.few:=by omega
 have hm1:m*(Y.few+4)≤65536*39:=Nat.mul_le_mul (by omega) (by omega)
 refine ⟨Z,⟨hZ,by omega⟩,z1,z7,zf,z6,⟨⟨z1,hw,rfl,fun q=>absurd rfl q,hb.k,?_,h.hol.2,fun _=>h.hol.1,by rw [z3,z1]; omega,?_,⟨by omega,fun _=>hds⟩,rfl,fun q=>by have q:3≤1:=q; omega,Nat.zero_le _,by rw [z3]; omega,⟨Nat.zero_le _,Nat.zero_le _⟩,?_,hb.tabs,by rw [z6]; exact hcap⟩,.p1 rfl z4 rfl (fun e _=>by rw [z8]; simp) ?_ ?_⟩,fun R k hR=>?_⟩
 · omega
 · rw [if_pos (show (Sw.newShr w).nx≤2 by show 1≤2; omega),z3]
 · intro b hb' a ha
   rw [z7] at ha
   exact h.pos b (by omega) a ha
 · rw [z1,zf]; omega
 · rw [z1,zf]; omega
 · have hww:∀ b,Z.way b=Z.C b:=fun b=>by
    unfold Js.way
    rw [if_neg]
    rintro ⟨_,q,_⟩
    rw [z8] at q
    simp at q
   refine hR.to rfl (Int.le_refl _) rfl zf (by show Y.cap≤Z.cap; omega) (fun key c p hC=>?_) (fun key q p hP=>?_)
   · have hC:c=Y.B+bkt key Y.n:=hC
     exact .inl ⟨by rw [z2,z1,hm]; exact hC,.inl z4⟩
   · refine .inl ?_
     rw [hww,z7,z1,hm]
     exact hP
theorem allh_two (C:Nat→List Mq.Hp) (m:Nat):∀ k,(allh k fun e=>C e++C (e+m)).length=(allh k C).length+(allh k fun e=>C (e+m)).length:=by
 intro k
 induction k with
 | zero=>rfl
 | succ k ih=>
   rw [allh_succ,allh_succ,allh_succ,List.length_append,List.length_append,List.length_append,ih]
   simp only [hds,List.map_append,List.length_append]
   omega
theorem allh_more (C:Nat→List Mq.Hp) (m:Nat):∀ k,(allh (m+k) C).length=(allh m C).length+(allh k fun e=>C (e+m)).length:=by
 intro k
 induction k with
 | zero=>rfl
 | succ k ih=>
   rw [← Nat.add_assoc,allh_succ,allh_succ,List.length_append,List.length_append,ih,Nat.add_comm m k]
   omega
theorem shrunk {Z:Js} {G:Sw.Sh} {n0:Nat} {ls:List Pr} (hZ:Sw.JD l Z L) (hO:Sw.Over n0 Z L G) (hold:∀ w p e,¬old w p e) (hown:∀ b,b<2*Z.n→prs (Z.C b)=own ls (2*Z.n) b) (hk:(ls.map (·.1)).Nodup) (hfew:Z.few=ls.length):
 Rest l ⟨Z.n,Z.B2,Z.few,Z.cap,Z.two,flat Z.n Z.two⟩ L∧∀ R k,RnOk Z.wy L l old R k→RnOk (Rs.wy ⟨Z.n,Z.B2,Z.few,Z.cap,Z.two,flat Z.n Z.two⟩) L l old' R k:=by
 have hz:=hZ.1
 have h35:=hZ.2
 have hp:=hO.pub
 have hxl:=hO.xl
 have hxm:=hO.xm
 have hf:=hz.few
 have hkk:∀ b,b<2*Z.n→(kys (Z.C b)).Nodup:=fun b hb=>by
  have h3:kys (Z.C b)=(prs (Z.C b)).map (·.1):=by simp [prs]
  rw [h3,hown b hb]
  exact (List.filter_sublist.map _).nodup hk
 have hlen:(allh Z.n Z.two).length=ls.length:=by
  have e1:(allh Z.n Z.two).length=(allh Z.n Z.C).length+(allh Z.n fun e=>Z.C (e+Z.n)).length:=allh_two Z.C Z.n Z.n
  have e2:=allh_more Z.C Z.n Z.n
  have e3:=allh_len ls (n:=2*Z.n) (cs:=Z.C) hown (2*Z.n) (Nat.le_refl _)
  have e4:(ls.filter fun p=>decide (bkt p.1 (2*Z.n)<2*Z.n))=ls:=List.filter_eq_self.2 fun p _=>decide_eq_true (bkt_lt hz.pw2 p.1).1
  rw [e4] at e3
  rw [show Z.n+Z.n=2*Z.n by omega] at e2
  omega
 have hB:=Js.Ok.base hz hp hO.tabs (by omega) hkk (by omega)
 have hfl:(flat Z.n Z.two).length=ls.length:=by rw [flat_len]; exact hlen
 refine ⟨⟨hB,fun key=>?_,⟨by show Z.few=(flat Z.n Z.two).length; omega,by show (flat Z.n Z.two).length≤35; omega⟩,⟨hf.2.2.1,hf.2.2.2⟩,⟨hO.hol,hO.hl⟩,fun b hb a ha=>?_⟩,fun R k hR=>?_⟩
 · rw [hB.lk key]
   exact hz.two_lk key
 · have hb:b<Z.n:=hb
   have ha:a∈Z.C b++Z.C (b+Z.n):=ha
   rcases List.mem_append.1 ha with q | q
   · exact hO.pos b (by omega) a q
   · exact hO.pos (b+Z.n) (by omega) a q
 · refine hR.to rfl (Int.le_refl _) rfl rfl (Nat.le_refl _) (fun key c p hC=>?_) (fun key q p hP=>?_)
   · rcases hC with ⟨_,hC⟩ | ⟨hC,_⟩
     · rcases hC with hC | hC
       · rw [hp] at hC; simp at hC
       · exact absurd hC (hold _ _ _)
     · exact hC
   · rcases hP with hP | ⟨_,hP⟩
     · exact shrunk_way hz (hz.all hp) key hP
     · exact hP
end
end Go.Proofs.YtpobbnllcoabhaaGreatDoor.Bs
namespace Go.Proofs.YtpobbnllcoabhaaGreatDoor.Zr
open Go Hm Ar Mm Wk Pc Me Mq Pu Pn Gt Qs Zp Mx LawTh Bs
inductive Inn
 | none
 | gro (G:Gw.Gr)
 | shr (G:Sw.Sh)
structure Rz where
 worker:Int
 size:Int
 nx:Nat
 err:Int
 inn:Inn
def look (L:Lm) (R:Rz):Rz:=
 if ((now L.xs L.ds).1:Int)=R.size then {R with nx:=7} else if ((now L.xs L.ds).1:Int)<R.size then {R with nx:=6,inn:=.gro (Gw.newGro R.worker)} else {R with nx:=6,inn:=.shr (Sw.newShr R.worker)}
def after (L:Lm) (R:Rz) (e:Int):Rz:=if e=0 then look L {R with err:=e} else {R with err:=e,nx:=7}
def rstep (L:Lm) (R:Rz):Lm×Rz:=
 if R.nx=0 then (L,{R with err:=5,nx:=12})
 else if R.nx=1 then ({L with hs:=L.hs.set 5 R.worker},{R with nx:=2})
 else if R.nx≤4 then ({L with hs:=L.hs.set (R.nx-1) R.worker},{R with nx:=R.nx+1})
 else if R.nx=5 then ({L with hs:=L.hs.set 4 R.worker},look L R)
 else if R.nx=6 then
  match R.inn with
  | .none=>(L,R)
  | .gro G=>((Gw.gstep L G).1,if Gw.gdone L G=true then after (Gw.gstep L G).1 {R with inn:=.gro (Gw.gstep L G).2} (Gw.gstep L G).2.err else {R with inn:=.gro (Gw.gstep L G).2})
  | .shr G=>((Sw.sstep L G).1,if Sw.sdone L G=true then after (Sw.sstep L G).1 {R with inn:=.shr (Sw.sstep L G).2} (Sw.sstep L G).2.err else {R with inn:=.shr (Sw.sstep L G).2})
 else if R.nx≤10 then ({L with hs:=L.hs.set (11-R.nx) (-1)},{R with nx:=R.nx+1})
 else ({L with hs:=L.hs.set 5 (-1)},{R with nx:=12})
def lockOf (nx:Nat):Nat:=if nx=1 then 5 else nx-1
def rready (L:Lm) (R:Rz):Bool:=
 if 1≤R.nx∧R.nx≤5 then decide (0≤R.worker∧Lo.hol L.hs (lockOf R.nx)= -1)
 else if R.nx=6 then (match R.inn with | .none=>true | .gro G=>Gw.gready L G | .shr G=>Sw.sready L G)
 else true
def rdone (_L:Lm) (R:Rz):Bool:=decide (R.nx=0∨11≤R.nx)
structure Okrz (L:Lm) (R:Rz):Prop where
 nx:R.nx≤11
 x1:1<L.xs.length
 hl:L.hs.length=6
 wk:R.nx≠0→0≤R.worker∧R.worker≤1000
 tb:∀ i,(tab L.ds i).1≤65536
 inn:R.nx=6→(∃ G,R.inn=.gro G∧Gw.Okgr L G)∨(∃ G,R.inn=.shr G∧Sw.Oksh L G)
 held:7≤R.nx→R.nx≤10→Lo.hol L.hs (11-R.nx)=R.worker
 last:R.nx=11→Lo.hol L.hs 5=R.worker
/-! ### ways from so many buckets to so many-/
def gc (n few:Nat):Nat:=2+n*(few+4)+(1+12*(few+1)+n*few)
def sc (m few:Nat):Nat:=2+m*(few+4)+12
inductive Up (few s:Nat):Nat→Nat→Nat→Nat→Prop
 | done:Up few s s 0 0 0
 | more {n c x t:Nat}:FM.power ((2*n:Nat):Int)=true→Up few s (2*n) c x t→Up few s n (gc n few+c) (2*n+x) (t+1)
inductive Dn (few s:Nat):Nat→Nat→Nat→Nat→Nat→Prop
 | done:Dn few s s 0 0 0 0
 | more {m c x t a:Nat}:FM.power m=true→Dn few s m c x t a→Dn few s (2*m) (sc m few+c) (m+x) (t+1) (m*few+a)
def Ways (few s n c x t a:Nat):Prop:=Up few s n c x t∨Dn few s n c x t a
section
variable {few s n c x t a:Nat}
theorem Up.eqs (h:Up few s n c x t):c+(2*few+4)*n=t*(15+12*few)+(2*few+4)*s∧x+2*n=2*s∧n*2 ^ t=s:=by
 induction h with
 | done=>simp
 | @more n c x t _ _ ih=>
   obtain ⟨h1,h2,h3⟩:=ih
   refine ⟨?_,by omega,by rw [Nat.pow_succ,← h3,Nat.mul_comm 2 n,Nat.mul_assoc,Nat.mul_comm 2]⟩
   have e1:(2*few+4)*(2*n)=(2*few+4)*n+(2*few+4)*n:=by rw [show 2*n=n+n by omega,Nat.mul_add]
   have e2:gc n few=(2*few+4)*n+(15+12*few):=by
    unfold gc
    have:(2*few+4)*n=n*(few+4)+n*few:=by rw [Nat.mul_comm,← Nat.mul_add]; congr 1; omega
    rw [this]
    omega
   have e3:(t+1)*(15+12*few)=t*(15+12*few)+(15+12*few):=by rw [Nat.add_mul,Nat.one_mul]
   omega
theorem Up.le (h:Up few s n c x t):n≤s:=by
 have:=h.eqs
 omega
theorem Dn.eqs (h:Dn few s n c x t a):c+(few+4)*s=t*14+(few+4)*n∧x+s=n∧a+few*s=few*n∧s*2 ^ t=n:=by
 induction h with
 | done=>simp
 | @more m c x t a _ _ ih=>
   obtain ⟨h1,h2,h3,h4⟩:=ih
   have e1:(few+4)*(2*m)=(few+4)*m+(few+4)*m:=by rw [show 2*m=m+m by omega,Nat.mul_add]
   have e2:sc m few=(few+4)*m+14:=by unfold sc; rw [Nat.mul_comm]; omega
   have e3:few*(2*m)=few*m+few*m:=by rw [show 2*m=m+m by omega,Nat.mul_add]
   have e4:m*few=few*m:=Nat.mul_comm _ _
   have e5:(t+1)*14=t*14+14:=by omega
   exact ⟨by omega,by omega,by omega,by rw [Nat.pow_succ,← Nat.mul_assoc,h4,Nat.mul_comm]⟩
theorem Dn.le (h:Dn few s n c x t a):s≤n:=by
 have:=h.eqs
 omega
theorem Dn.inv (h:Dn few s n c x t a):(n=s∧c=0∧x=0∧t=0∧a=0)∨∃ m c' x' t' a',n=2*m∧FM.power m=true∧Dn few s m c' x' t' a'∧c=sc m few+c'∧x=m+x'∧t=t'+1∧a=m*few+a':=by
 cases h with
 | done=>exact .inl ⟨rfl,rfl,rfl,rfl,rfl⟩
 | more h1 h2=>exact .inr ⟨_,_,_,_,_,rfl,h1,h2,rfl,rfl,rfl,rfl⟩
theorem up_to (few:Nat) (a:Nat) (ha:a≤16):∀ (t b:Nat),b+t=a→∃ c x,Up few (2 ^ a) (2 ^ b) c x t:=by
 intro t
 induction t with
 | zero=>intro b h; exact ⟨0,0,by rw [show b=a by omega]; exact .done⟩
 | succ t ih=>
   intro b h
   obtain ⟨c,x,h1⟩:=ih (b+1) (by omega)
   rw [Nat.pow_succ,Nat.mul_comm] at h1
   refine ⟨_,_,.more ?_ h1⟩
   rw [Nat.mul_comm,← Nat.pow_succ]
   exact power_pow (by omega)
theorem dn_to (few:Nat) (b:Nat):∀ (t a:Nat),b+t=a→a≤16→∃ c x k,Dn few (2 ^ b) (2 ^ a) c x t k:=by
 intro t
 induction t with
 | zero=>intro a h _; exact ⟨0,0,0,by rw [← h,Nat.add_zero]; exact .done⟩
 | succ t ih=>
   intro a h ha
   obtain ⟨c,x,k,h1⟩:=ih (a-1) (by omega) (by omega)
   refine ⟨sc (2 ^ (a-1)) few+c,2 ^ (a-1)+x,2 ^ (a-1)*few+k,?_⟩
   have:=Dn.more (few:=few) (power_pow (k:=a-1) (by omega)) h1
   rw [show 2*2 ^ (a-1)=2 ^ a by rw [Nat.mul_comm,← Nat.pow_succ]; congr 1; omega] at this
   exact this
end
/-! ### which locks are held-/
def hsF (nx:Nat) (w:Int) (i:Nat):Int:=if i=5 then (if 2≤nx∧nx≤11 then w else-1) else if i+2≤nx∧nx+i≤11 then w else-1
theorem hol_set {hs:List Int} (i j:Nat) (v:Int) (hi:i<hs.length):Lo.hol (hs.set i v) j=if j=i then v else Lo.hol hs j:=by
 unfold Lo.hol
 simp only [List.getD_eq_getElem?_getD]
 by_cases h:j=i
 · subst h; rw [if_pos rfl]; simp [hi]
 · rw [if_neg h,List.getElem?_set_ne (by omega)]
end Go.Proofs.YtpobbnllcoabhaaGreatDoor.Zr
namespace Go.Proofs.YtpobbnllcoabhaaGreatDoor.Zr
open Go Hm Ar Mm Wk Pc Me Mq Pu Pn Gt Qs Zp Mx LawTh Bs
inductive Dz
 | rest (Y:Rs)
 | gro (Z:Zs)
 | shr (Z:Js)
def Dz.wy:Dz→Wy
 | .rest Y=>Y.wy
 | .gro Z=>Z.wy
 | .shr Z=>Z.wy
def Dz.Ok (l:List Pr):Dz→Lm→Prop
 | .rest Y,L=>Bs.Rest l Y L
 | .gro Z,L=>ZD l Z L
 | .shr Z,L=>Sw.JD l Z L
def Dz.all:Dz→List Nat
 | .rest Y=>allh Y.n Y.cs
 | .gro Z=>allh Z.n Z.All
 | .shr Z=>allh (2*Z.n) Z.C
structure Kp (L L':Lm):Prop where
 ss:L'.ss.length=L.ss.length
 tk:∀ k,(at' L'.ss k).taken=(at' L.ss k).taken∧(at' L'.ss k).gen=(at' L.ss k).gen
 ws:L'.ws=L.ws
 k:L'.k=L.k
 F:L'.F=L.F
theorem Kp.refl (L:Lm):Kp L L:=⟨rfl,fun _=>⟨rfl,rfl⟩,rfl,rfl,rfl⟩
theorem Kp.of {L L' L'':Lm} (h:Kp L L') (h':Gw.Keep L' L''):Kp L L'':=⟨h'.ss.trans h.ss,fun k=>⟨(h'.tk k).1.trans (h.tk k).1,(h'.tk k).2.trans (h.tk k).2⟩,h'.ws.trans h.ws,h'.k.trans h.k,h'.F.trans h.F⟩
theorem Kp.more {L L' L'':Lm} (h:Kp L L') (e1:L''.ss=L'.ss) (e2:L''.ws=L'.ws) (e3:L''.k=L'.k) (e4:L''.F=L'.F):Kp L L'':=⟨by rw [e1]; exact h.ss,by rw [e1]; exact h.tk,e2.trans h.ws,e3.trans h.k,e4.trans h.F⟩
structure Num where
 X:Nat
 D:Nat
 P:Int
structure Rc (L0:Lm) (H:List Nat) (N:Num) (s:Nat) (D:Dz) (L:Lm) (R:Rz) (m:Nat):Prop where
 wk:0≤R.worker∧R.worker≤1000
 err:R.err=0
 sz:R.size=s
 kp:Kp L0 L
 hl:L.hs.length=6
 hs:∀ i,1≤i→i≤5→Lo.hol L.hs i=hsF R.nx R.worker i
 pd:Cl.nth L.xs 0+m≤N.P
 nb:N.X≤1048576∧N.D≤800000∧N.P≤1000000000000
 perm:(Dz.all D).Perm H
inductive Rp (N:Num) (l:List Pr) (s:Nat) (L:Lm) (R:Rz) (old:Nat→Int→Nat→Prop):Dz→Nat→Nat→Prop
 | take {m c:Nat} (Y:Rs) (cst x t a:Nat):1≤R.nx∧R.nx≤5→Ways Y.few s Y.n cst x t a→(6-R.nx)+cst+5≤m→a≤c→Y.cap+a≤1000000→L.xs.length+x≤N.X→L.ds.length+t≤N.D→Rp N l s L R old (.rest Y) m c
 | gro {m c:Nat} (Z:Zs) (G:Gw.Gr) (ls:List Pr) (mi ci cst x t d:Nat):R.nx=6→R.inn=.gro G→Gw.J Z.n ls Z old L G mi ci→Like ls l→(ls.map (·.1)).Nodup→Z.few=ls.length→Up Z.few s (2*Z.n) cst x t→mi+cst+5≤m→ci≤c→Z.B2+2*Z.n+x≤N.X→L.ds.length≤d+1∧(G.nx≤2→L.ds.length≤d)→d+1+t≤N.D→Rp N l s L R old (.gro Z) m c
 | shr {m c:Nat} (Z:Js) (G:Sw.Sh) (ls:List Pr) (mi ci cst x t a d:Nat):R.nx=6→R.inn=.shr G→Sw.J Z.n Z old L G mi ci→(∀ b,b<2*Z.n→prs (Z.C b)=own ls (2*Z.n) b)→(ls.map (·.1)).Nodup→Z.few=ls.length→Dn Z.few s Z.n cst x t a→mi+cst+5≤m→ci+a≤c→Z.cap+ci+a≤1000000→Z.B2+Z.n+x≤N.X→
    L.ds.length≤d+1∧(G.nx≤2→L.ds.length≤d)→d+1+t≤N.D→Rp N l s L R old (.shr Z) m c
 | free {m c:Nat} (Y:Rs):7≤R.nx∧R.nx≤11→Y.n=s→12-R.nx≤m→L.xs.length≤N.X∧L.ds.length≤N.D→Rp N l s L R old (.rest Y) m c
def J (L0:Lm) (H:List Nat) (N:Num) (s:Nat) (l:List Pr) (D:Dz) (old:Nat→Int→Nat→Prop) (L:Lm) (R:Rz) (m c:Nat):Prop:=
 Rc L0 H N s D L R m∧Rp N l s L R old D m c
def Bside (l:List Pr) (D:Dz) (L:Lm) (old:Nat→Int→Nat→Prop) (D':Dz) (L':Lm) (old':Nat→Int→Nat→Prop) (j:Nat):Prop:=
 ∀ (R:Rn) (k:Nat),(R.w:Int)<L.k→RnOk D.wy L l old R k→∃ k',k'≤k+j∧RnOk D'.wy L' l old' R k'
def Goes (L0:Lm) (H:List Nat) (N:Num) (s:Nat) (l:List Pr) (D:Dz) (old:Nat→Int→Nat→Prop) (L:Lm) (R:Rz) (m c:Nat):Prop:=
 ∃ D' old' m' c' j,m'+1≤m∧c'+j≤c∧J L0 H N s l D' old' (rstep L R).1 (rstep L R).2 m' c'∧Dz.Ok l D' (rstep L R).1∧Bside l D L old D' (rstep L R).1 old' j∧(∀ i:Nat,(i:Int)<L.k→Cl.nth (rstep L R).1.xs (2+i)=Cl.nth L.xs (2+i))∧(rstep L R).1.k=L.k
end Go.Proofs.YtpobbnllcoabhaaGreatDoor.Zr
namespace Go.Proofs.YtpobbnllcoabhaaGreatDoor.Zr
open Go Hm Ar Mm Wk Pc Me Mq Pu Pn Gt Qs Zp Mx LawTh Bs
section
variable {L0:Lm} {H:List Nat} {N:Num} {s:Nat} {l:List Pr} {D D':Dz} {L L':Lm} {R R':Rz} {m m' c c':Nat} {old old':Nat→Int→Nat→Prop} {Y:Rs}
theorem Dz.Ok.ways (h:D.Ok l L):D.wy.Ok L l:=by
 cases D with
 | rest Y=>exact Rest.ways h
 | gro Z=>exact ZD.ways h
 | shr Z=>exact h.1.ways
theorem Rest.locks (h:Bs.Rest l Y L) {hs':List Int} (h0:Lo.hol hs' 0= -1) (hl:0<hs'.length):Bs.Rest l Y {L with hs:=hs'}:=
 ⟨{h.base with},h.like,h.few,h.cap,⟨h0,hl⟩,h.pos⟩
theorem hsF_set {nx i:Nat} {w v:Int} {hs:List Int} (hl:hs.length=6) (h:∀ j,1≤j→j≤5→Lo.hol hs j=hsF nx w j) (hi:1≤i∧i≤5) {nx':Nat} (h1:hsF nx' w i=v) (h2:∀ j,1≤j→j≤5→j≠i→hsF nx' w j=hsF nx w j):∀ j,1≤j→j≤5→Lo.hol (hs.set i v) j=hsF nx' w j:=fun j a b=>by
 rw [hol_set _ _ _ (by omega)]
 by_cases e:j=i
 · rw [if_pos e,e,h1]
 · rw [if_neg e,h2 j a b e,h j a b]
theorem Rc.to (h:Rc L0 H N s D L R m) (h1:R'.worker=R.worker∧R'.size=R.size) (he:R'.err=0) (hm:Cl.nth L'.xs 0+m'≤N.P) (hk:Kp L0 L') (hl:L'.hs.length=6) (hs:∀ i,1≤i→i≤5→Lo.hol L'.hs i=hsF R'.nx R'.worker i) (hp:(Dz.all D').Perm (Dz.all D)):Rc L0 H N s D' L' R' m':=
 ⟨by rw [h1.1]; exact h.wk,he,by rw [h1.2]; exact h.sz,hk,hl,hs,hm,h.nb,hp.trans h.perm⟩
theorem J.ok (h:J L0 H N s l D old L R m c) (hD:D.Ok l L):Okrz L R:=by
 obtain ⟨hc,hp⟩:=h
 have hY:=hD.ways
 have hwl:=hY.wl 0 (by have:=hY.k; omega)
 have htb:∀ i,(tab L.ds i).1≤65536:=fun i=>(hY.tb i).1
 have hwk:=hc.wk
 have held:7≤R.nx→R.nx≤10→Lo.hol L.hs (11-R.nx)=R.worker:=fun a b=>by
  rw [hc.hs _ (by omega) (by omega)]
  unfold hsF
  rw [if_neg (by omega),if_pos (by omega)]
 have last:R.nx=11→Lo.hol L.hs 5=R.worker:=fun a=>by
  rw [hc.hs _ (by omega) (by omega)]
  unfold hsF
  rw [if_pos rfl,if_pos (by omega)]
 cases hp with
 | take Y cst x t a q _ _ _ _ _ _=>exact ⟨by omega,by omega,hc.hl,fun _=>hwk,htb,fun e=>by omega,held,last⟩
 | gro Z G ls mi ci cst x t d e1 e2 e3 e4 _ _ _ _ _ _ _ _=>exact ⟨by omega,by omega,hc.hl,fun _=>hwk,htb,fun _=>.inl ⟨G,e2,e3.ok (ZD.like e4.symm hD)⟩,held,last⟩
 | shr Z G ls mi ci cst x t a d e1 e2 e3 _ _ _ _ _ _ _ _ _ _=>exact ⟨by omega,by omega,hc.hl,fun _=>hwk,htb,fun _=>.inr ⟨G,e2,e3.ok hD⟩,held,last⟩
 | free Y q _ _ _=>exact ⟨by omega,by omega,hc.hl,fun _=>hwk,htb,fun e=>by omega,held,last⟩
theorem J.pos (h:J L0 H N s l D old L R m c):1≤m:=by
 cases h.2 with
 | take Y cst x t a q _ h _ _ _ _=>omega
 | gro Z G ls mi ci cst x t d e1 e2 e3 e4 _ _ _ h _ _ _ _=>omega
 | shr Z G ls mi ci cst x t a d e1 e2 e3 _ _ _ _ h _ _ _ _ _=>omega
 | free Y q _ h _=>omega
theorem looked {cst x t a:Nat} (hc:Rc L0 H N s (.rest Y) L R m) (hY:Bs.Rest l Y L) (hw:Ways Y.few s Y.n cst x t a) (hx:L.xs.length+x≤N.X) (ht:L.ds.length+t≤N.D) (hcap:Y.cap+a≤1000000) (hm:cst+5≤m) (hac:a≤c) (hL6:hsF 6 R.worker=hsF R.nx R.worker):
 ∃ D' old',J L0 H N s l D' old' L (look L R) m c∧D'.Ok l L∧Bside l (.rest Y) L old D' L old' 0:=by
 have hnow:=hY.base.now
 have hn1:=hY.base.n1
 have hsz:=hc.sz
 have hpd:=hc.pd
 have hnb:=hc.nb
 have hl67:hsF 7 R.worker=hsF 6 R.worker:=by
  funext i
  unfold hsF
  by_cases h5:i=5
  · rw [if_pos h5,if_pos h5]; simp
  · rw [if_neg h5,if_neg h5]
    by_cases q:i≤4
    · rw [if_pos (by omega),if_pos (by omega)]
    · rw [if_neg (by omega),if_neg (by omega)]
 unfold look
 rw [hnow,hsz]
 simp only
 rcases hw with hw | hw
 · cases hw with
   | done=>
     rw [if_pos rfl]
     exact ⟨.rest Y,old,⟨hc.to ⟨rfl,hsz▸rfl⟩ hc.err hpd hc.kp hc.hl (fun i a b=>by rw [hc.hs i a b]; show _=hsF 7 R.worker i; rw [hl67,hL6]) (List.Perm.refl _),.free Y ⟨by simp,by simp⟩ rfl (by simp only; omega) ⟨by omega,by omega⟩⟩,hY,fun _ k _ hR=>⟨k,Nat.le_refl _,hR⟩⟩
   | @more _ c' x' t' hp2 hup=>
     have hle:=hup.le
     rw [if_neg (by omega),if_pos (by omega)]
     obtain ⟨Z,hZ,z1,z2,z3,z4,z5,hJ,hR⟩:=Rest.grows hY hp2 hc.wk (by omega) (by omega) (by omega)
     rw [← z3,← z1] at hup
     rw [← z1] at hJ
     refine ⟨.gro Z,fun _ _ _=>True,⟨hc.to ⟨rfl,hsz▸rfl⟩ hc.err hpd hc.kp hc.hl (fun i a b=>by rw [hc.hs i a b]; show _=hsF 6 R.worker i; rw [hL6]) (by show (allh Z.n Z.All).Perm (allh Y.n Y.cs); rw [z1,z2]),.gro Z (Gw.newGro R.worker) Y.ls _ _ _ _ _ L.ds.length rfl rfl hJ hY.like hY.base.keys (by rw [z3]; exact hY.few.1) hup ?_ (Nat.zero_le _) ?_ ⟨by omega,fun _=>Nat.le_refl _⟩ (by omega)⟩,ZD.like hY.like hZ,fun R k _ h=>⟨k,Nat.le_refl _,hR R k h⟩⟩
     · have:gc Y.n Y.few=2+Y.n*(Y.few+4)+(1+12*(Y.few+1)+Y.n*Y.few):=rfl
       rw [z1]
       omega
     · have h1:=hJ.1.xl
       rw [if_pos (show (Gw.newGro R.worker).nx≤2 by show 1≤2; omega)] at h1
       omega
 · rcases hw.inv with ⟨e,e1,e2,e3,e4⟩ | ⟨q,c',x',t',a',e,hpq,hdn,e1,e2,e3,e4⟩
   · rw [if_pos (by omega)]
     exact ⟨.rest Y,old,⟨hc.to ⟨rfl,hsz▸rfl⟩ hc.err hpd hc.kp hc.hl (fun i a b=>by rw [hc.hs i a b]; show _=hsF 7 R.worker i; rw [hl67,hL6]) (List.Perm.refl _),.free Y ⟨by simp,by simp⟩ e (by simp only; omega) ⟨by omega,by omega⟩⟩,hY,fun _ k _ hR=>⟨k,Nat.le_refl _,hR⟩⟩
   · have hle:=hdn.le
     have hq1:=FM.power_bd hpq
     rw [if_neg (by omega),if_neg (by omega)]
     obtain ⟨Z,hZ,z1,z2,z3,z4,hJ,hR⟩:=Rest.shrinks (old:=old) (old':=old) hY e.symm hpq hc.wk (by omega) (by omega) (by omega) (by omega)
     have hown:=hY.base.own
     rw [e] at hown
     rw [← z3,← z1] at hdn
     rw [← z1] at hJ
     refine ⟨.shr Z,old,⟨hc.to ⟨rfl,hsz▸rfl⟩ hc.err hpd hc.kp hc.hl (fun i a b=>by rw [hc.hs i a b]; show _=hsF 6 R.worker i; rw [hL6]) (by show (allh (2*Z.n) Z.C).Perm (allh Y.n Y.cs); rw [z1,z2,e]),.shr Z (Sw.newShr R.worker) Y.ls _ _ _ _ _ _ L.ds.length rfl rfl hJ (by rw [z1,z2]; exact hown) hY.base.keys (by rw [z3]; exact hY.few.1) hdn ?_ ?_ ?_ ?_ ⟨by omega,fun _=>Nat.le_refl _⟩ (by omega)⟩,⟨Js.Ok.like hY.like hZ.1,hZ.2⟩,fun R k _ h=>⟨k,Nat.le_refl _,hR R k h⟩⟩
     · have:sc q Y.few=2+q*(Y.few+4)+12:=rfl
       rw [z1]
       omega
     · rw [z1]; omega
     · rw [z1,z4]; omega
     · have h1:=hJ.1.xl
       rw [if_pos (show (Sw.newShr R.worker).nx≤2 by show 1≤2; omega)] at h1
       omega
end
end Go.Proofs.YtpobbnllcoabhaaGreatDoor.Zr
namespace Go.Proofs.YtpobbnllcoabhaaGreatDoor.Zr
open Go Hm Ar Mm Wk Pc Me Mq Pu Pn Gt Qs Zp Mx LawTh Bs
theorem allh_add (C:Nat→List Mq.Hp) (m:Nat):∀ k,allh (m+k) C=allh m C++allh k fun e=>C (e+m):=by
 intro k
 induction k with
 | zero=>simp [allh]
 | succ k ih=>
   rw [← Nat.add_assoc,allh_succ,allh_succ,ih,Nat.add_comm m k,List.append_assoc]
theorem allh_zip (A B:Nat→List Mq.Hp):∀ k,(allh k A++allh k B).Perm (allh k fun e=>A e++B e):=by
 intro k
 induction k with
 | zero=>simp [allh]
 | succ k ih=>
   rw [allh_succ,allh_succ,allh_succ]
   have e:hds (A k++B k)=hds (A k)++hds (B k):=by simp [hds]
   simp only [e]
   have h1:(allh k A++hds (A k)++(allh k B++hds (B k))).Perm (allh k A++allh k B++(hds (A k)++hds (B k))):=by
    rw [List.append_assoc,List.append_assoc,← List.append_assoc (hds (A k)),← List.append_assoc (allh k B)]
    exact List.Perm.append_left _ (List.Perm.append_right _ List.perm_append_comm)
   exact h1.trans (List.Perm.append_right _ ih)
theorem allh_perm {A B:Nat→List Mq.Hp} (k:Nat) (h:∀ e,e<k→(hds (A e)).Perm (hds (B e))):(allh k A).Perm (allh k B):=by
 induction k with
 | zero=>exact List.Perm.refl _
 | succ k ih=>
   rw [allh_succ,allh_succ]
   exact (ih fun e he=>h e (by omega)).append (h k (by omega))
theorem perm_grown (n:Nat) (hn:0<n) (All:Nat→List Mq.Hp):(allh (2*n) fun b=>(All (b % n)).filter fun a=>sd n a.2.1==decide (n≤b)).Perm (allh n All):=by
 rw [show 2*n=n+n by omega,allh_add]
 refine (allh_zip _ _ n).trans (allh_perm n fun e he=>?_)
 simp only [Nat.add_mod_right,Nat.mod_eq_of_lt he]
 rw [show decide (n≤e)=false by simp; omega,show decide (n≤e+n)=true by simp]
 refine List.Perm.map _ ?_
 have:=List.filter_append_perm (fun a:Mq.Hp=>sd n a.2.1==false) (All e)
 have e1:(fun a:Mq.Hp=> !(sd n a.2.1==false))=fun a=>sd n a.2.1==true:=funext fun a=>by cases sd n a.2.1<;>rfl
 rw [e1] at this
 exact this
theorem perm_shrunk (n:Nat) (C:Nat→List Mq.Hp):(allh n fun e=>C e++C (e+n)).Perm (allh (2*n) C):=by
 rw [show 2*n=n+n by omega,allh_add]
 exact (allh_zip _ _ n).symm
section
variable {L0:Lm} {H:List Nat} {N:Num} {s:Nat} {l:List Pr} {D D':Dz} {L L':Lm} {R R':Rz} {m m' c c':Nat} {old old':Nat→Int→Nat→Prop} {Y:Rs}
theorem Goes.of {j:Nat} (e:rstep L R=(L',R')) (hm:m'+1≤m) (hcj:c'+j≤c) (hJ:J L0 H N s l D' old' L' R' m' c') (hD:D'.Ok l L') (hB:Bside l D L old D' L' old' j) (h3:∀ i:Nat,(i:Int)<L.k→Cl.nth L'.xs (2+i)=Cl.nth L.xs (2+i)) (hk:L'.k=L.k):Goes L0 H N s l D old L R m c:=by
 refine ⟨D',old',m',c',j,hm,hcj,?_⟩
 rw [e]
 exact ⟨hJ,hD,hB,h3,hk⟩
theorem hol0 {hs:List Int} (h:Lo.hol hs 0= -1) (hl:hs.length=6) (i:Nat) (v:Int) (hi:1≤i∧i≤5):Lo.hol (hs.set i v) 0= -1∧(hs.set i v).length=6:=by
 refine ⟨?_,by simpa using hl⟩
 rw [hol_set _ _ _ (by omega),if_neg (by omega)]
 exact h
theorem J.take (h:J L0 H N s l D old L R m c) (hD:D.Ok l L) (hx:1≤R.nx∧R.nx≤5):Goes L0 H N s l D old L R m c:=by
 obtain ⟨hc,hp⟩:=h
 have hpd:=hc.pd
 cases hp with
 | take Y cst x t a q hw hm hac hcap hcx hct=>
   have hD:Bs.Rest l Y L:=hD
   obtain ⟨i,hi⟩:∃ i,i=lockOf R.nx:=⟨_,rfl⟩
   have hi5:1≤i∧i≤5:=by rw [hi]; unfold lockOf; split<;>omega
   obtain ⟨l0,l6⟩:=hol0 hD.hol.1 hc.hl i R.worker hi5
   have hD2:=Rest.locks hD l0 (by rw [l6]; omega)
   have hF:hsF (R.nx+1) R.worker i=R.worker:=by
    rw [hi]
    unfold hsF lockOf
    by_cases q1:R.nx=1
    · rw [if_pos q1,if_pos rfl,if_pos (by omega)]
    · rw [if_neg q1,if_neg (by omega),if_pos (by omega)]
   have hF2:∀ j,1≤j→j≤5→j≠i→hsF (R.nx+1) R.worker j=hsF R.nx R.worker j:=fun j a b e=>by
    have e:j≠lockOf R.nx:=by rw [← hi]; exact e
    unfold lockOf at e
    unfold hsF
    by_cases q5:j=5
    · rw [if_pos q5,if_pos q5]
      by_cases q1:R.nx=1
      · rw [if_pos q1] at e; omega
      · rw [if_pos (by omega),if_pos (by omega)]
    · rw [if_neg q5,if_neg q5]
      by_cases q1:R.nx=1
      · rw [if_neg (by omega),if_neg (by omega)]
      · rw [if_neg q1] at e
        by_cases q2:j+2≤R.nx
        · rw [if_pos (by omega),if_pos (by omega)]
        · rw [if_neg (by omega),if_neg (by omega)]
   have hset:=hsF_set hc.hl hc.hs hi5 hF hF2
   have hkp:Kp L0 {L with hs:=L.hs.set i R.worker}:=hc.kp.more rfl rfl rfl rfl
   have hside:Bside l (.rest Y) L old (.rest Y) {L with hs:=L.hs.set i R.worker} old 0:=fun R k _ hR=>⟨k,Nat.le_refl _,hR.moved rfl (Int.le_refl _) rfl⟩
   by_cases h5:R.nx=5
   · have hi4:i=4:=by rw [hi]; unfold lockOf; rw [if_neg (by omega)]; omega
     have es:rstep L R=({L with hs:=L.hs.set i R.worker},look {L with hs:=L.hs.set i R.worker} R):=by
      unfold rstep
      rw [if_neg (by omega),if_neg (by omega),if_neg (by omega),if_pos h5,hi4]
      rfl
     have hc2:Rc L0 H N s (.rest Y) {L with hs:=L.hs.set i R.worker} {R with nx:=6} (m-1):=hc.to (R':={R with nx:=6}) ⟨rfl,rfl⟩ hc.err (by show Cl.nth L.xs 0+_≤_; omega) hkp l6 (fun j a b=>by rw [hset j a b,h5]) (List.Perm.refl _)
     obtain ⟨D',old',g1,g2,g3⟩:=looked (c:=c) hc2 hD2 hw hcx hct hcap (by omega) hac rfl
     have hlk:look {L with hs:=L.hs.set i R.worker} {R with nx:=6}=look {L with hs:=L.hs.set i R.worker} R:=by unfold look; rfl
     rw [hlk] at g1
     exact Goes.of (m':=m-1) (c':=c) (j:=0) es (by omega) (by omega) g1 g2 (fun R k hk hR=>by
      obtain ⟨k1,a1,a2⟩:=hside R k hk hR
      obtain ⟨k2,b1,b2⟩:=g3 R k1 hk a2
      exact ⟨k2,by omega,b2⟩) (fun _ _=>rfl) rfl
   · have es:rstep L R=({L with hs:=L.hs.set i R.worker},{R with nx:=R.nx+1}):=by
      unfold rstep
      rw [if_neg (by omega)]
      by_cases q1:R.nx=1
      · rw [if_pos q1,hi,q1]; rfl
      · rw [if_neg q1,if_pos (by omega),hi]
        unfold lockOf
        rw [if_neg q1]
     exact Goes.of (m':=m-1) (c':=c) (j:=0) es (by omega) (by omega) ⟨hc.to (R':={R with nx:=R.nx+1}) ⟨rfl,rfl⟩ hc.err (by show Cl.nth L.xs 0+_≤_; omega) hkp l6 hset (List.Perm.refl _),.take Y cst x t a ⟨by simp only; omega,by simp only; omega⟩ hw (by simp only; omega) hac hcap hcx hct⟩ hD2 hside (fun _ _=>rfl) rfl
 | gro Z G ls mi ci cst x t d e1 _ _ _ _ _ _ _ _ _ _ _=>omega
 | shr Z G ls mi ci cst x t a d e1 _ _ _ _ _ _ _ _ _ _ _ _=>omega
 | free Y q _ _ _=>omega
theorem J.free (h:J L0 H N s l D old L R m c) (hD:D.Ok l L) (hx:7≤R.nx∧R.nx≤10):Goes L0 H N s l D old L R m c:=by
 obtain ⟨hc,hp⟩:=h
 have hpd:=hc.pd
 cases hp with
 | free Y q hn hm hxd=>
   have hD:Bs.Rest l Y L:=hD
   obtain ⟨l0,l6⟩:=hol0 hD.hol.1 hc.hl (11-R.nx) (-1) (by omega)
   have hD2:=Rest.locks hD l0 (by rw [l6]; omega)
   have hF:hsF (R.nx+1) R.worker (11-R.nx)= -1:=by
    unfold hsF
    rw [if_neg (by omega),if_neg (by omega)]
   have hF2:∀ j,1≤j→j≤5→j≠11-R.nx→hsF (R.nx+1) R.worker j=hsF R.nx R.worker j:=fun j a b e=>by
    unfold hsF
    by_cases q5:j=5
    · rw [if_pos q5,if_pos q5,if_pos (by omega),if_pos (by omega)]
    · rw [if_neg q5,if_neg q5]
      by_cases q2:R.nx+1+j≤11
      · rw [if_pos (by omega),if_pos (by omega)]
      · rw [if_neg (by omega),if_neg (by omega)]
   have hset:=hsF_set hc.hl hc.hs (by omega) hF hF2
   have es:rstep L R=({L with hs:=L.hs.set (11-R.nx) (-1)},{R with nx:=R.nx+1}):=by
    unfold rstep
    rw [if_neg (by omega),if_neg (by omega),if_neg (by omega),if_neg (by omega),if_neg (by omega),if_pos (by omega)]
   exact Goes.of (m':=m-1) (c':=c) (j:=0) (old':=old) es (by omega) (by omega) ⟨hc.to (R':={R with nx:=R.nx+1}) ⟨rfl,rfl⟩ hc.err (by show Cl.nth L.xs 0+_≤_; omega) (hc.kp.more rfl rfl rfl rfl) l6 hset (List.Perm.refl _),.free Y ⟨by simp only; omega,by simp only; omega⟩ hn (by simp only; omega) hxd⟩ hD2
    (fun R k _ hR=>⟨k,Nat.le_refl _,hR.moved rfl (Int.le_refl _) rfl⟩) (fun _ _=>rfl) rfl
 | take Y cst x t a q _ _ _ _ _ _=>omega
 | gro Z G ls mi ci cst x t d e1 _ _ _ _ _ _ _ _ _ _ _=>omega
 | shr Z G ls mi ci cst x t a d e1 _ _ _ _ _ _ _ _ _ _ _ _=>omega
theorem J.over (h:J L0 H N s l D old L R m c) (hD:D.Ok l L) (hd:rdone L R=true):∃ Y,D=.rest Y∧Bs.Rest l Y (rstep L R).1∧Y.n=s∧(rstep L R).2.err=0∧(rstep L R).1={L with hs:=L.hs.set 5 (-1)}∧(∀ i,i≤5→Lo.hol (rstep L R).1.hs i= -1)∧(rstep L R).1.hs.length=6∧Kp L0 (rstep L R).1∧(allh Y.n Y.cs).Perm H∧Cl.nth (rstep L R).1.xs 0≤N.P∧(rstep L R).1.xs.length≤N.X∧(rstep L R).1.ds.length≤N.D:=by
 obtain ⟨hc,hp⟩:=h
 have hpd:=hc.pd
 unfold rdone at hd
 have hd:=of_decide_eq_true hd
 cases hp with
 | free Y q hn hm hxd=>
   have h11:R.nx=11:=by omega
   have hD:Bs.Rest l Y L:=hD
   obtain ⟨l0,l6⟩:=hol0 hD.hol.1 hc.hl 5 (-1) (by omega)
   have es:rstep L R=({L with hs:=L.hs.set 5 (-1)},{R with nx:=12}):=by
    unfold rstep
    rw [if_neg (by omega),if_neg (by omega),if_neg (by omega),if_neg (by omega),if_neg (by omega),if_neg (by omega)]
   rw [es]
   refine ⟨Y,rfl,Rest.locks hD l0 (by rw [l6]; omega),hn,hc.err,rfl,fun i hi=>?_,l6,hc.kp.more rfl rfl rfl rfl,hc.perm,by show Cl.nth L.xs 0≤_; omega,hxd.1,hxd.2⟩
   show Lo.hol (L.hs.set 5 (-1)) i= -1
   rcases Nat.eq_zero_or_pos i with q | q
   · rw [q]; exact l0
   · rw [hol_set _ _ _ (by have:=hc.hl; omega)]
     split
     · rfl
     · rw [hc.hs i q hi]
       unfold hsF
       rw [if_neg (by omega),if_neg (by omega)]
 | take Y cst x t a q _ _ _ _ _ _=>omega
 | gro Z G ls mi ci cst x t d e1 _ _ _ _ _ _ _ _ _ _ _=>omega
 | shr Z G ls mi ci cst x t a d e1 _ _ _ _ _ _ _ _ _ _ _ _=>omega
end
end Go.Proofs.YtpobbnllcoabhaaGreatDoor.Zr
namespace Go.Proofs.YtpobbnllcoabhaaGreatDoor.Zr
open Go Hm Ar Mm Wk Pc Me Mq Pu Pn Gt Qs Zp Mx LawTh Bs
section
variable {L0:Lm} {H:List Nat} {N:Num} {s:Nat} {l:List Pr} {D D':Dz} {L L':Lm} {R R':Rz} {m m' c c':Nat} {old old':Nat→Int→Nat→Prop} {Y:Rs}
theorem holk {L L':Lm} (h:Gw.Keep L L') (i:Nat) (hi:i≠0):Lo.hol L'.hs i=Lo.hol L.hs i:=by
 unfold Lo.hol
 simp only [List.getD_eq_getElem?_getD]
 rw [h.hs i hi]
theorem J.gro (h:J L0 H N s l D old L R m c) (hD:D.Ok l L) (h6:R.nx=6) {G:Gw.Gr} (hG:R.inn=.gro G) (hr:Gw.gready L G=true):Goes L0 H N s l D old L R m c:=by
 obtain ⟨hc,hp⟩:=h
 have hpd:=hc.pd
 have hnb:=hc.nb
 have es0:rstep L R=((Gw.gstep L G).1,if Gw.gdone L G=true then after (Gw.gstep L G).1 {R with inn:=.gro (Gw.gstep L G).2} (Gw.gstep L G).2.err else {R with inn:=.gro (Gw.gstep L G).2}):=by
  unfold rstep
  rw [if_neg (by omega),if_neg (by omega),if_neg (by omega),if_neg (by omega),if_pos h6,hG]
 have hkeep:=Gw.gstep_keep L G
 have hs':∀ i,1≤i→i≤5→Lo.hol (Gw.gstep L G).1.hs i=hsF R.nx R.worker i:=fun i a b=>by rw [holk hkeep i (by omega)]; exact hc.hs i a b
 have hl6:(Gw.gstep L G).1.hs.length=6:=hkeep.hl.trans hc.hl
 have hkp:=hc.kp.of hkeep
 cases hp with
 | gro Z G' ls mi ci cst x t d e1 e2 hJ hlike hnd hfew hup hm hcc hx hd hdt=>
   rw [hG] at e2
   injection e2 with e2
   subst e2
   have hZ:ZD ls Z L:=ZD.like hlike.symm hD
   have hper:=hJ.per hZ
   have hds:=Gw.gstep_ds L G d hd
   have hnx:=hJ.2.nx
   have hmi:=hJ.2.pos
   cases hdn:Gw.gdone L G with
   | true=>
     obtain ⟨g1,g2,g3,g4,_⟩:=hJ.last hZ hdn
     obtain ⟨r1,r2⟩:=grown (old:=old) (old':=old) (l:=l) g1 g2 g3 hnd hlike hfew
     have hxs:(Gw.gstep L G).1.xs=L.xs:=by rw [g4]
     have hkk:(Gw.gstep L G).1.k=L.k:=by rw [g4]
     rw [hdn,if_pos rfl] at es0
     unfold after at es0
     rw [g2.err,if_pos rfl] at es0
     have hbd:=FM.power_bd hZ.1.pw
     have hc2:Rc L0 H N s (.rest ⟨2*Z.n,Z.B2,Z.few,Z.cap,fun b=>(Z.All (b % Z.n)).filter fun a=>sd Z.n a.2.1==decide (Z.n≤b),ls⟩) (Gw.gstep L G).1 {R with inn:=.gro (Gw.gstep L G).2,err:=0} (m-1):=
      hc.to (R':={R with inn:=.gro (Gw.gstep L G).2,err:=0}) ⟨rfl,rfl⟩ rfl (by omega) hkp hl6 hs' (perm_grown Z.n (by omega) Z.All)
     have hz:=hZ.1.few
     obtain ⟨D',old',b1,b2,b3⟩:=looked (c:=c) (cst:=cst) (x:=x) (t:=t) (a:=0) hc2 r1 (.inl hup) (by have:=g2.xl; omega) (by omega) (by show Z.cap+0≤_; omega) (by omega) (by omega) (by show hsF 6 R.worker=hsF R.nx R.worker; rw [h6])
     refine Goes.of (m':=m-1) (c':=c) (j:=0) es0 (by omega) (by omega) b1 b2 (fun Rn k hk hR=>?_) (fun i _=>by rw [hxs]) hkk
     have hmv:RnOk Z.wy (Gw.gstep L G).1 l old Rn k:=hR.moved (by rw [hxs]) (by rw [hxs]; exact Int.le_refl _) (by rw [g4])
     obtain ⟨k2,q1,q2⟩:=b3 Rn k (by rw [hkk]; exact hk) (r2 Rn k hmv)
     exact ⟨k2,q1,q2⟩
   | false=>
     obtain ⟨Z',old',m1,c1,j,q1,q2,q3,q4,q5,q6,q7,q8,q9,q10,q11⟩:=hJ.goes hZ hr hdn
     rw [hdn,if_neg (by simp)] at es0
     have hZn:Z'.n=Z.n:=q3.1.nn
     refine Goes.of (m':=m-1) (c':=c-j) (j:=j) (D':=.gro Z') (old':=old') es0 (by omega) (by omega) ⟨hc.to (R':={R with inn:=.gro (Gw.gstep L G).2}) ⟨rfl,rfl⟩ hc.err (by omega) hkp hl6 hs' (by show (allh Z'.n Z'.All).Perm (allh Z.n Z.All); rw [hZn,q8]),
      .gro Z' (Gw.gstep L G).2 ls m1 c1 cst x t d h6 rfl (by rw [hZn]; exact q3) hlike hnd (by rw [q9]; exact hfew) (by rw [q9,hZn]; exact hup) (by omega) (by omega) (by omega) ⟨hds.1,fun q=>hds.2 q (by omega)⟩ hdt⟩ (ZD.like hlike q4) (fun Rn k hk hR=>?_) q6 q7
     obtain ⟨k2,a1,a2⟩:=q5 Rn k hk (RnOk.like hlike.symm hR)
     exact ⟨k2,a1,RnOk.like hlike a2⟩
 | take Y cst x t a q _ _ _ _ _ _=>omega
 | shr Z G' ls mi ci cst x t a d e1 e2 _ _ _ _ _ _ _ _ _ _ _=>rw [hG] at e2; injection e2
 | free Y q _ _ _=>omega
theorem J.shr (h:J L0 H N s l D old L R m c) (hD:D.Ok l L) (h6:R.nx=6) {G:Sw.Sh} (hG:R.inn=.shr G) (hr:Sw.sready L G=true):Goes L0 H N s l D old L R m c:=by
 obtain ⟨hc,hp⟩:=h
 have hpd:=hc.pd
 have hnb:=hc.nb
 have es0:rstep L R=((Sw.sstep L G).1,if Sw.sdone L G=true then after (Sw.sstep L G).1 {R with inn:=.shr (Sw.sstep L G).2} (Sw.sstep L G).2.err else {R with inn:=.shr (Sw.sstep L G).2}):=by
  unfold rstep
  rw [if_neg (by omega),if_neg (by omega),if_neg (by omega),if_neg (by omega),if_pos h6,hG]
 have hkeep:=Sw.sstep_keep L G
 have hs':∀ i,1≤i→i≤5→Lo.hol (Sw.sstep L G).1.hs i=hsF R.nx R.worker i:=fun i a b=>by rw [holk hkeep i (by omega)]; exact hc.hs i a b
 have hl6:(Sw.sstep L G).1.hs.length=6:=hkeep.hl.trans hc.hl
 have hkp:=hc.kp.of hkeep
 cases hp with
 | shr Z G' ls mi ci cst x t a d e1 e2 hJ hown hnd hfew hdn hm hac hcap hx hd hdt=>
   rw [hG] at e2
   injection e2 with e2
   subst e2
   have hZ:Sw.JD l Z L:=hD
   have hper:=hJ.per hZ
   have hds:=Sw.sstep_ds L G d hd
   have hnx:=hJ.2.nx
   have hmi:=hJ.2.pos
   cases hdo:Sw.sdone L G with
   | true=>
     obtain ⟨g1,g2,g3,g4,_⟩:=hJ.over hZ hdo
     obtain ⟨r1,r2⟩:=shrunk (old:=old) (old':=old) (l:=l) g1 g2 g3 hown hnd hfew
     have hxs:(Sw.sstep L G).1.xs=L.xs:=by rw [g4]
     have hkk:(Sw.sstep L G).1.k=L.k:=by rw [g4]
     rw [hdo,if_pos rfl] at es0
     unfold after at es0
     rw [g2.err,if_pos rfl] at es0
     have hc2:Rc L0 H N s (.rest ⟨Z.n,Z.B2,Z.few,Z.cap,Z.two,flat Z.n Z.two⟩) (Sw.sstep L G).1 {R with inn:=.shr (Sw.sstep L G).2,err:=0} (m-1):=
      hc.to (R':={R with inn:=.shr (Sw.sstep L G).2,err:=0}) ⟨rfl,rfl⟩ rfl (by omega) hkp hl6 hs' (perm_shrunk Z.n Z.C)
     obtain ⟨D',old',b1,b2,b3⟩:=looked (c:=c) (cst:=cst) (x:=x) (t:=t) (a:=a) hc2 r1 (.inr hdn) (by have:=g2.xl; omega) (by omega) (by show Z.cap+a≤_; omega) (by omega) (by omega) (by show hsF 6 R.worker=hsF R.nx R.worker; rw [h6])
     refine Goes.of (m':=m-1) (c':=c) (j:=0) es0 (by omega) (by omega) b1 b2 (fun Rn k hk hR=>?_) (fun i _=>by rw [hxs]) hkk
     have hmv:RnOk Z.wy (Sw.sstep L G).1 l old Rn k:=hR.moved (by rw [hxs]) (by rw [hxs]; exact Int.le_refl _) (by rw [g4])
     obtain ⟨k2,q1,q2⟩:=b3 Rn k (by rw [hkk]; exact hk) (r2 Rn k hmv)
     exact ⟨k2,q1,q2⟩
   | false=>
     obtain ⟨Z',old',m1,c1,j,q1,q2,q3,q4,q5,q6,q7,q8,q9,q10,q11⟩:=hJ.goes hZ hr hdo
     rw [hdo,if_neg (by simp)] at es0
     have hZn:Z'.n=Z.n:=q3.1.nn
     exact Goes.of (m':=m-1) (c':=c-j) (j:=j) (D':=.shr Z') (old':=old') es0 (by omega) (by omega) ⟨hc.to (R':={R with inn:=.shr (Sw.sstep L G).2}) ⟨rfl,rfl⟩ hc.err (by omega) hkp hl6 hs' (by show (allh (2*Z'.n) Z'.C).Perm (allh (2*Z.n) Z.C); rw [hZn,q9]),
      .shr Z' (Sw.sstep L G).2 ls m1 c1 cst x t a d h6 rfl (by rw [hZn]; exact q3) (by rw [hZn,q9]; exact hown) hnd (by rw [q8]; exact hfew) (by rw [q8,hZn]; exact hdn) (by omega) (by omega) (by omega) (by omega) ⟨hds.1,fun q=>hds.2 q (by omega)⟩ hdt⟩ q4 q5 q6 q7
 | take Y cst x t a q _ _ _ _ _ _=>omega
 | gro Z G' ls mi ci cst x t d e1 e2 _ _ _ _ _ _ _ _ _ _=>rw [hG] at e2; injection e2
 | free Y q _ _ _=>omega
theorem J.goes (h:J L0 H N s l D old L R m c) (hD:D.Ok l L) (hr:rready L R=true) (hd:rdone L R=false):Goes L0 H N s l D old L R m c:=by
 have hnd:¬(R.nx=0∨11≤R.nx):=of_decide_eq_false hd
 by_cases h1:R.nx≤5
 · exact h.take hD ⟨by omega,h1⟩
 by_cases h6:R.nx=6
 · unfold rready at hr
   rw [if_neg (by omega),if_pos h6] at hr
   have hh:=h
   cases h.2 with
   | gro Z G ls mi ci cst x t d e1 e2 _ _ _ _ _ _ _ _ _ _=>
     rw [e2] at hr
     exact hh.gro hD h6 e2 hr
   | shr Z G ls mi ci cst x t a d e1 e2 _ _ _ _ _ _ _ _ _ _ _=>
     rw [e2] at hr
     exact hh.shr hD h6 e2 hr
   | take Y cst x t a q _ _ _ _ _ _=>omega
   | free Y q _ _ _=>omega
 · exact h.free hD ⟨by omega,by omega⟩
theorem J.wait (h:J L0 H N s l D old L R m c) (hr:rready L R=false):∃ i:Nat,(i:Int)<L.k∧Cl.nth L.xs (2+i)≠0:=by
 obtain ⟨hc,hp⟩:=h
 have hwk:=hc.wk
 unfold rready at hr
 cases hp with
 | take Y cst x t a q _ _ _ _ _ _=>
   exfalso
   rw [if_pos q] at hr
   have hr:=of_decide_eq_false hr
   refine hr ⟨hwk.1,?_⟩
   have hlk:1≤lockOf R.nx∧lockOf R.nx≤5:=by unfold lockOf; split<;>omega
   rw [hc.hs _ hlk.1 hlk.2]
   unfold hsF lockOf
   by_cases q1:R.nx=1
   · rw [if_pos q1,if_pos rfl,if_neg (by omega)]
   · rw [if_neg q1,if_neg (by omega),if_neg (by omega)]
 | gro Z G ls mi ci cst x t d e1 e2 hJ _ _ _ _ _ _ _ _ _=>
   rw [if_neg (by omega),if_pos e1,e2] at hr
   exact hJ.wait hr
 | shr Z G ls mi ci cst x t a d e1 e2 hJ _ _ _ _ _ _ _ _ _ _=>
   rw [if_neg (by omega),if_pos e1,e2] at hr
   exact hJ.wait hr
 | free Y q _ _ _=>
   rw [if_neg (by omega),if_neg (by omega)] at hr
   simp at hr
end
/-! ### beside two who get keys-/
def Qr (L0:Lm) (H:List Nat) (N:Num) (s:Nat) (l:List Pr) (L:Lm) (R:Rz):Prop:=∃ Y,Bs.Rest l Y L∧Y.n=s∧R.err=0∧(∀ i,i≤5→Lo.hol L.hs i= -1)∧L.hs.length=6∧Kp L0 L∧(allh Y.n Y.cs).Perm H∧Cl.nth L.xs 0≤N.P∧L.xs.length≤N.X∧L.ds.length≤N.D
/-! ### alone-/
def Lone (L0:Lm) (H:List Nat) (N:Num) (s:Nat) (l:List Pr) (k:Nat) (S:Lm×Rz):Prop:=∃ D old m c,m≤k∧D.Ok l S.1∧J L0 H N s l D old S.1 S.2 m c∧∀ i:Nat,(i:Int)<S.1.k→Cl.nth S.1.xs (2+i)=0
theorem Lone.step {L0:Lm} {H:List Nat} {N:Num} {s:Nat} {l:List Pr} {k:Nat} {S:Lm×Rz} (h:Lone L0 H N s l k S):Okrz S.1 S.2∧rready S.1 S.2=true∧1≤k∧(rdone S.1 S.2=true→Qr L0 H N s l (rstep S.1 S.2).1 (rstep S.1 S.2).2∧∀ i:Nat,(i:Int)<(rstep S.1 S.2).1.k→Cl.nth (rstep S.1 S.2).1.xs (2+i)=0)∧(rdone S.1 S.2=false→Lone L0 H N s l (k-1) (rstep S.1 S.2)):=by
 obtain ⟨D,old,m,c,hm,hD,hJ,h0⟩:=h
 have hr:rready S.1 S.2=true:=by
  cases hr:rready S.1 S.2 with
  | true=>rfl
  | false=>
    obtain ⟨i,a,b⟩:=hJ.wait hr
    exact absurd (h0 i a) b
 have hp:=hJ.pos
 refine ⟨hJ.ok hD,hr,by omega,fun hd=>?_,fun hd=>?_⟩
 · obtain ⟨Y,_,q1,q2,q3,q9,q4,q5,q6,q7,q8⟩:=hJ.over hD hd
   refine ⟨⟨Y,q1,q2,q3,q4,q5,q6,q7,q8⟩,fun i hi=>?_⟩
   rw [q9] at hi ⊢
   exact h0 i hi
 · obtain ⟨D',old',m',c',j,q1,q2,q3,q4,q5,q6,q7⟩:=hJ.goes hD hr hd
   exact ⟨D',old',m',c',by omega,q4,q3,fun i hi=>by rw [q7] at hi; rw [q6 i hi]; exact h0 i hi⟩
end Go.Proofs.YtpobbnllcoabhaaGreatDoor.Zr
namespace Go.Proofs.YtpobbnllcoabhaaGreatDoor.Zr
open Go Hm Ar Mm Wk Pc Me Mq Pu Pn Gt Qs Zp Mx LawTh Bs
def newRz (k z:Int):Rz:=⟨k,z,if FM.power z=true then 1 else 0,0,.none⟩
end Go.Proofs.YtpobbnllcoabhaaGreatDoor.Zr
namespace Go.Proofs.YtpobbnllcoabhaaGreatDoor.Ca
open Go Hm Ar Mm Wk Pc Me Mq Pu Pn Gt Qs Zp Mx LawTh Bs Dl Zr
inductive Fr
 | ref
 | get (G:Gt.Ge)
 | put (P:Pu.Pt)
 | del (D:Dl.Dt)
 | rz (R:Zr.Rz)
structure Cl where
 fr:Fr
 err:Int
 done:Bool
structure Ct where
 kind:Int
 key:ByteArray
 val:ByteArray
 size:Int
def chk (c:Ct):Int:=if c.kind<0∨3<c.kind then 1 else if c.kind<3∧(c.key.size<1∨32<c.key.size∨(c.kind=1∧32<c.val.size)) then 10 else 0
def clst (L:Lm) (C:Cl):Lm×Cl:=match C.fr with
 | .ref=>(L,⟨.ref,C.err,true⟩)
 | .get G=>((Gt.gtst L G).1,⟨.get (Gt.gtst L G).2,C.err,Gt.ggdn G⟩)
 | .put P=>((Pu.pstep L P).1,⟨.put (Pu.pstep L P).2,C.err,Pu.pdone L P⟩)
 | .del D=>((Dl.dstep L D).1,⟨.del (Dl.dstep L D).2,C.err,Dl.ddone L D⟩)
 | .rz R=>((Zr.rstep L R).1,⟨.rz (Zr.rstep L R).2,C.err,Zr.rdone L R⟩)
def clrd (L:Lm) (C:Cl):Bool:=match C.fr with
 | .ref=>true
 | .get _=>true
 | .put P=>Pu.pready L P
 | .del D=>Dl.dready L D
 | .rz R=>Zr.rready L R
def cldn (L:Lm) (C:Cl):Bool:=match C.fr with
 | .ref=>true
 | .get G=>Gt.ggdn G
 | .put P=>Pu.pdone L P
 | .del D=>Dl.ddone L D
 | .rz R=>Zr.rdone L R
def Okc (L:Lm) (C:Cl):Prop:=match C.fr with
 | .ref=>True
 | .get G=>Gt.Okg 1 L.ds L.ss L.xs G
 | .put P=>Pu.Okp L P
 | .del D=>Dl.Okdl L D
 | .rz R=>Zr.Okrz L R
def ans (C:Cl):Int×Bool×ByteArray:=if C.done=true then (match C.fr with
 | .ref=>(C.err,false,⟨#[]⟩)
 | .get G=>(0,decide (G.W.found≠0),G.W.nd.val)
 | .put P=>if P.err=0 then (0,decide (P.W.found≠0),⟨#[]⟩) else (P.err,false,⟨#[]⟩)
 | .del D=>(0,decide (D.W.found≠0),D.W.nd.val)
 | .rz R=>(R.err,false,⟨#[]⟩)) else (0,false,⟨#[]⟩)
def mine (C:Cl):Nat:=match C.fr with
 | .put P=>P.mine
 | .del D=>D.mine
 | _=>0
def Ini (i:Nat) (c:Ct) (C:Cl):Prop:=C.done=false∧C.err=chk c∧(chk c≠0→C.fr=.ref)∧
 (chk c=0→(c.kind=0→C.fr=.get (Gt.newGet i c.key))∧(c.kind=1→∃ h,C.fr=.put (Pu.newPut h i c.key c.val))∧(c.kind=2→∃ h,C.fr=.del (Dl.newDel h i c.key))∧(c.kind=3→C.fr=.rz (Zr.newRz i c.size)))
def docA (l:List Pr) (c:Ct):Int×Bool×ByteArray:=
 if chk c≠0 then (chk c,false,⟨#[]⟩) else if c.kind=0 then (0,(Pc.lk l c.key).isSome,(Pc.lk l c.key).getD ⟨#[]⟩) else if c.kind=1 then (0,(Pc.lk l c.key).isSome,⟨#[]⟩)
 else if c.kind=2 then (0,(Pc.lk l c.key).isSome,(Pc.lk l c.key).getD ⟨#[]⟩) else if FM.power c.size=true then (0,false,⟨#[]⟩) else (5,false,⟨#[]⟩)
def DocL (l l':List Pr) (c:Ct):Prop:=
 if chk c=0∧c.kind=1 then l'.Perm ((c.key,c.val)::l.filter fun p=>decide (p.1≠c.key)) else if chk c=0∧c.kind=2 then l'.Perm (l.filter fun p=>decide (p.1≠c.key)) else l'=l
theorem lift_put {R:Nat→Lm×Pu.Pt→Prop} {Q:Lm×Pu.Pt→Prop} (hR:∀ k s,R k s→Pu.Okp s.1 s.2∧Pu.pready s.1 s.2=true∧1≤k∧(Pu.pdone s.1 s.2=true→Q (Pu.pstep s.1 s.2))∧(Pu.pdone s.1 s.2=false→R (k-1) (Pu.pstep s.1 s.2))) (e:Int):
 ∀ k (s:Lm×Cl),(∃ P d,s.2=⟨.put P,e,d⟩∧R k (s.1,P))→Okc s.1 s.2∧clrd s.1 s.2=true∧1≤k∧(cldn s.1 s.2=true→∃ P,(clst s.1 s.2).2=⟨.put P,e,true⟩∧Q ((clst s.1 s.2).1,P))∧(cldn s.1 s.2=false→∃ P d,(clst s.1 s.2).2=⟨.put P,e,d⟩∧R (k-1) ((clst s.1 s.2).1,P)):=by
 rintro k ⟨L,C⟩ ⟨P,d,rfl,hr⟩
 obtain ⟨h1,h2,h3,h4,h5⟩:=hR k _ hr
 exact ⟨h1,h2,h3,fun hd=>⟨(Pu.pstep L P).2,by show (⟨.put (Pu.pstep L P).2,e,Pu.pdone L P⟩:Cl)=_; rw [show Pu.pdone L P=true from hd],h4 hd⟩,fun hd=>⟨_,_,rfl,h5 hd⟩⟩
theorem lift_del {R:Nat→Lm×Dl.Dt→Prop} {Q:Lm×Dl.Dt→Prop} (hR:∀ k s,R k s→Dl.Okdl s.1 s.2∧Dl.dready s.1 s.2=true∧1≤k∧(Dl.ddone s.1 s.2=true→Q (Dl.dstep s.1 s.2))∧(Dl.ddone s.1 s.2=false→R (k-1) (Dl.dstep s.1 s.2))) (e:Int):
 ∀ k (s:Lm×Cl),(∃ P d,s.2=⟨.del P,e,d⟩∧R k (s.1,P))→Okc s.1 s.2∧clrd s.1 s.2=true∧1≤k∧(cldn s.1 s.2=true→∃ P,(clst s.1 s.2).2=⟨.del P,e,true⟩∧Q ((clst s.1 s.2).1,P))∧(cldn s.1 s.2=false→∃ P d,(clst s.1 s.2).2=⟨.del P,e,d⟩∧R (k-1) ((clst s.1 s.2).1,P)):=by
 rintro k ⟨L,C⟩ ⟨P,d,rfl,hr⟩
 obtain ⟨h1,h2,h3,h4,h5⟩:=hR k _ hr
 exact ⟨h1,h2,h3,fun hd=>⟨(Dl.dstep L P).2,by show (⟨.del (Dl.dstep L P).2,e,Dl.ddone L P⟩:Cl)=_; rw [show Dl.ddone L P=true from hd],h4 hd⟩,fun hd=>⟨_,_,rfl,h5 hd⟩⟩
theorem lift_get {R:Nat→Lm×Gt.Ge→Prop} {Q:Lm×Gt.Ge→Prop} (hR:∀ k s,R k s→Gt.Okg 1 s.1.ds s.1.ss s.1.xs s.2∧1≤k∧(Gt.ggdn s.2=true→Q (Gt.gtst s.1 s.2))∧(Gt.ggdn s.2=false→R (k-1) (Gt.gtst s.1 s.2))) (e:Int):
 ∀ k (s:Lm×Cl),(∃ P d,s.2=⟨.get P,e,d⟩∧R k (s.1,P))→Okc s.1 s.2∧clrd s.1 s.2=true∧1≤k∧(cldn s.1 s.2=true→∃ P,(clst s.1 s.2).2=⟨.get P,e,true⟩∧Q ((clst s.1 s.2).1,P))∧(cldn s.1 s.2=false→∃ P d,(clst s.1 s.2).2=⟨.get P,e,d⟩∧R (k-1) ((clst s.1 s.2).1,P)):=by
 rintro k ⟨L,C⟩ ⟨P,d,rfl,hr⟩
 obtain ⟨h1,h3,h4,h5⟩:=hR k _ hr
 exact ⟨h1,rfl,h3,fun hd=>⟨(Gt.gtst L P).2,by show (⟨.get (Gt.gtst L P).2,e,Gt.ggdn P⟩:Cl)=_; rw [show Gt.ggdn P=true from hd],h4 hd⟩,fun hd=>⟨_,_,rfl,h5 hd⟩⟩
theorem lift_rz {R:Nat→Lm×Zr.Rz→Prop} {Q:Lm×Zr.Rz→Prop} (hR:∀ k s,R k s→Zr.Okrz s.1 s.2∧Zr.rready s.1 s.2=true∧1≤k∧(Zr.rdone s.1 s.2=true→Q (Zr.rstep s.1 s.2))∧(Zr.rdone s.1 s.2=false→R (k-1) (Zr.rstep s.1 s.2))) (e:Int):
 ∀ k (s:Lm×Cl),(∃ P d,s.2=⟨.rz P,e,d⟩∧R k (s.1,P))→Okc s.1 s.2∧clrd s.1 s.2=true∧1≤k∧(cldn s.1 s.2=true→∃ P,(clst s.1 s.2).2=⟨.rz P,e,true⟩∧Q ((clst s.1 s.2).1,P))∧(cldn s.1 s.2=false→∃ P d,(clst s.1 s.2).2=⟨.rz P,e,d⟩∧R (k-1) ((clst s.1 s.2).1,P)):=by
 rintro k ⟨L,C⟩ ⟨P,d,rfl,hr⟩
 obtain ⟨h1,h2,h3,h4,h5⟩:=hR k _ hr
 exact ⟨h1,h2,h3,fun hd=>⟨(Zr.rstep L P).2,by show (⟨.rz (Zr.rstep L P).2,e,Zr.rdone L P⟩:Cl)=_; rw [show Zr.rdone L P=true from hd],h4 hd⟩,fun hd=>⟨_,_,rfl,h5 hd⟩⟩
end Go.Proofs.YtpobbnllcoabhaaGreatDoor.Ca
namespace Go.Proofs.YtpobbnllcoabhaaGreatDoor.Zr
open Go Hm Ar Mm Wk Pc Me Mq Pu Pn Gt Qs Zp Mx LawTh Bs Re
theorem alls_allh (n:Nat) (cs:Nat→List Mq.Hp):alls n cs=allh n cs:=rfl
section
variable {L L0:Lm} {n B:Nat} {cs:Nat→List Mq.Hp} {l:List Pr} {G:Nat}
def rsOf (n B cap:Nat) (cs:Nat→List Mq.Hp):Rs:=⟨n,B,(flat n cs).length,cap,cs,flat n cs⟩
theorem Mp.flat_len (h:Mp L n B cs l G):(flat n cs).length=l.length:=by
 rw [Bs.flat_len,h.len]
 rfl
theorem Mp.bkt_of (h:Mp L n B cs l G) {b:Nat} (hb:b<n) {a:Mq.Hp} (ha:a∈cs b):bkt a.2.1 n=b:=by
 have h1:=h.bk b hb a ha
 have h2:=(bkt_lt h.pw a.2.1).2
 rw [h2] at h1
 exact Int.ofNat.inj h1
theorem rest_of (h:Mp L n B cs l G) (hG:G≤1000000) (p1:1≤Cl.nth L.xs 0) (hl:l.length≤35) (hxm:L.xs.length≤1048576) {cap:Nat} (hcap:l.length≤cap∧cap≤1000000):Bs.Rest l (rsOf n B cap cs) L:=by
 have hr:=h.wr.room
 have hfl:=Zr.Mp.flat_len h
 have hbase:=base_of h.pw h.now h.tabs h.tb h.k h.kB h.xl hxm h.xb h.nexts hr h.F p1 h.ch (fun b hb a ha=>Zr.Mp.bkt_of h hb ha) h.kd (by have:=h.len; rw [alls_allh] at this; omega)
 refine ⟨hbase,fun key=>?_,⟨rfl,by show (flat n cs).length≤35; omega⟩,⟨by show (flat n cs).length≤cap; omega,hcap.2⟩,⟨by rw [h.hs]; rfl,by rw [h.hs]; simp⟩,fun b hb a ha=>?_⟩
 · show Pc.lk (flat n cs) key=_
   rw [hbase.lk key]
   exact (h.lk key).symm
 · obtain ⟨k,z,h1,_⟩:=(h.ch b hb).at a ha
   have hg:=h.wr.gens k
   have h3:=h1.2.2
   have h4:=h1.1
   have hk:k<L.ss.length:=h4
   have h3':a.1=(at' L.ss k).gen*65536+k+1:=h3
   omega
theorem mp_of {Y:Rs} (h0:Mp L0 n B cs l G) (h:Bs.Rest l Y L) (hp:(allh Y.n Y.cs).Perm (allh n cs)) (hk:Kp L0 L) (hz:∀ i:Nat,(i:Int)<L.k→Cl.nth L.xs (2+i)=0) (hl:L.hs.length=6) (hh:∀ i,i≤5→Lo.hol L.hs i= -1):Mp L Y.n Y.B Y.cs l G:=by
 have hb:=h.base
 have hw:Wr L.ss L.ws (alls n cs) G:=by
  rw [hk.ws]
  exact h0.wr.nodes hk.ss hk.tk
 refine ⟨hb.pw,hb.now,hb.tabs,hb.tb,hb.k,hb.kB,hb.xl,hb.xb,hb.nexts,hb.cx,fun b hbn e he=>?_,fun b hbn=>?_,hw.perm (List.Perm.append_left _ hp),h0.ln,fun key=>?_,?_,hz,?_,by rw [hk.F]; exact h0.F⟩
 · rw [(bkt_lt hb.pw e.2.1).2,hb.bk hbn e he]
 · have h3:kys (Y.cs b)=(prs (Y.cs b)).map (·.1):=by simp [prs]
   rw [h3,hb.own b hbn]
   exact (List.filter_sublist.map _).nodup hb.keys
 · rw [← h.like key]
   exact hb.lk key
 · rw [h0.len]
   exact hp.length_eq.symm
 · refine List.ext_getElem (by simp [hl]) fun i h1 h2=>?_
   have:=hh i (by omega)
   unfold Lo.hol at this
   simp only [List.getD_eq_getElem?_getD,List.getElem?_eq_getElem h1,Option.getD_some] at this
   rw [this]
   rcases i with _ | _ | _ | _ | _ | _ | i<;>first | rfl | exact absurd h1 (by omega)
end
end Go.Proofs.YtpobbnllcoabhaaGreatDoor.Zr
namespace Go.Proofs.YtpobbnllcoabhaaGreatDoor.Zr
open Go Go.RowKit Hp K Fl Rw Hm Ar Mm Wk Pc Me Mq Pu Pn Gt Qs Zp Mx LawTh Bs
set_option maxRecDepth 100000
structure Ra where
 f:Nat
 tv:Value
 ga:Gw.Gl
 sa:Sw.Sc
def hld (nx:Nat):Nat:=if nx=0 then 0 else if nx≤5 then nx-1 else if nx=6 then 5 else 12-nx
def rrv (f nx:Nat) (tv:Value):Value:=if 1≤nx∧nx≤5 then wfm 42 (ptr f) else if nx=6 then .func (.method "Ready") #[tv] #[] else wf0 44
def rnv (f nx:Nat):Value:=if nx=0 then wfm 45 (ptr f) else if nx≤5 then wfm 43 (ptr f) else if nx=6 then wfm 133 (ptr f) else if nx≤11 then wfm 98 (ptr f) else wf0 99
def rcs (k z:Int) (u2 u3:Value) (e:Int) (h:Nat) (tv:Value):Array Value:=#[.int .i64 k,.int .i64 z,u2,u3,.int .i64 e,.int .i64 h,tv]
def rzc (a:Ra) (R:Rz):Array Value:=rcs R.worker R.size (rrv a.f R.nx a.tv) (rnv a.f R.nx) R.err (hld R.nx) a.tv
abbrev Rb (w:World) (f:Nat) (k z:Int) (u2 u3:Value) (e:Int) (h:Nat) (tv:Value):Prop:=Blk w f 109 (rcs k z u2 u3 e h tv)
structure RzAt (w:World) (a:Ra) (R:Rz):Prop where
 blk:Blk w a.f 109 (rzc a R)
 gro:∀ G,R.nx=6→R.inn=.gro G→a.tv=.iface 112 (ptr a.ga.f)∧Gw.GrAt w a.ga G
 shr:∀ G,R.nx=6→R.inn=.shr G→a.tv=.iface 115 (ptr a.sa.f)∧Sw.ShAt w a.sa G
def rfoot (a:Ra) (R:Rz) (x:Nat):Prop:=x=a.f∨(∃ G,R.nx=6∧R.inn=.gro G∧Gw.gfoot a.ga G x)∨∃ G,R.nx=6∧R.inn=.shr G∧Sw.sfoot a.sa G x
abbrev rzL:Lay Ra Rz:=⟨Ra.f,RzAt,rfoot⟩
section
variable {w w':World} {M:Mo} {a:Ra} {R:Rz} {f h:Nat} {k z e:Int} {u2 u3 tv:Value}
theorem rz_lt (h:rzL.At w a R) {x:Nat} (hx:rzL.foot a R x):x<w.heap.size:=by
 rcases hx with rfl | ⟨G,q1,q2,q3⟩ | ⟨G,q1,q2,q3⟩
 · exact h.blk.lt
 · exact (h.gro G q1 q2).2.lt q3
 · exact (h.shr G q1 q2).2.lt q3
theorem rz_far (h:rzL.At w a R) (hM:MemAt w M) {x:Nat} (hx:rzL.foot a R x):¬mfoot M x:=by
 rcases hx with rfl | ⟨G,q1,q2,q3⟩ | ⟨G,q1,q2,q3⟩
 · exact fun hm=>(hM.ty hm).apart (blk_ty h.blk) (by decide)
 · exact (h.gro G q1 q2).2.far hM q3
 · exact (h.shr G q1 q2).2.far hM q3
theorem rz_only {S:Nat→Prop} (h:rzL.At w a R) (ho:Only S w w') (hn:∀ x,rzL.foot a R x→¬S x):rzL.At w' a R where
 blk:=h.blk.only ho (hn _ (.inl rfl))
 gro G q1 q2:=⟨(h.gro G q1 q2).1,(h.gro G q1 q2).2.only ho (fun x hx=>hn x (.inr (.inl ⟨G,q1,q2,hx⟩)))⟩
 shr G q1 q2:=⟨(h.shr G q1 q2).1,(h.shr G q1 q2).2.only ho (fun x hx=>hn x (.inr (.inr ⟨G,q1,q2,hx⟩)))⟩
theorem rz_below (h:rzL.At w a R) (hb:Below w.heap.size w w'):rzL.At w' a R:=rz_only h (Only.ofBelow hb (fun _=>False)) (by simp)
theorem RzAt.plain (h:Blk w a.f 109 (rzc a R)) (hn:R.nx≠6):RzAt w a R:=⟨h,fun _ q=>absurd q hn,fun _ q=>absurd q hn⟩
theorem rfoot_plain (hn:R.nx≠6) {x:Nat} (hx:rfoot a R x):x=a.f:=by
 rcases hx with q | ⟨_,q,_⟩ | ⟨_,q,_⟩
 · exact q
 · exact absurd q hn
 · exact absurd q hn
theorem rb_cells (hb:Rb w f k z u2 u3 e h tv):w.cell? ⟨f,0,none⟩=some (.int .i64 k)∧w.cell? ⟨f,1,none⟩=some (.int .i64 z)∧w.cell? ⟨f,2,none⟩=some u2∧w.cell? ⟨f,3,none⟩=some u3∧w.cell? ⟨f,4,none⟩=some (.int .i64 e)∧w.cell? ⟨f,5,none⟩=some (.int .i64 h)∧w.cell? ⟨f,6,none⟩=some tv:=
 ⟨hb.cell 0,hb.cell 1,hb.cell 2,hb.cell 3,hb.cell 4,hb.cell 5,hb.cell 6⟩
theorem rb_far {h:Nat} (hb:Rb w f k z u2 u3 e h tv) (hM:MemAt w M):¬mfoot M f:=fun hm=>(hM.ty hm).apart (blk_ty hb) (by decide)
theorem power_all (n:Int) (w:World):Calls Tryz.prog 40 #[.int .i64 n] w fun e w'=>e=.returned (.bool (FM.power n))∧w'=w:=by
 by_cases h1:n≤9223372036854775807
 · by_cases h0: -9223372036854775808≤n
   · exact Fnv.power_any n w h0 h1
   · have hp:FM.power n=false:=by
      cases h:FM.power n with
      | false=>rfl
      | true=>have:=FM.power_bd h; omega
     have a:¬1≤n:=by omega
     rw [hp]
     clear h0 h1
     go_enter Tryz.func40,Tryz.ntmps40
     go_wp2
     go_ret
     exact ⟨rfl,rfl⟩
 · have hp:FM.power n=false:=by
    cases h:FM.power n with
    | false=>rfl
    | true=>have:=FM.power_bd h; omega
   have a:1≤n:=by omega
   have b:¬n≤65536:=by omega
   rw [hp]
   clear h1
   go_enter Tryz.func40,Tryz.ntmps40
   go_wp2
   go_ret
   exact ⟨rfl,rfl⟩
theorem always_any (m:Value) (w:World):Calls Tryz.prog 44 #[m] w fun e w'=>e=.returned (.bool true)∧w'=w:=by
 go_enter Tryz.func44,Tryz.ntmps44
 go_wp2
 go_ret
 exact ⟨rfl,rfl⟩
theorem goOn_any {F1 F2:Fn} {b1 b2:Array Value} {h:Nat} (hb:Rb w f k z u2 u3 e h tv):
 Calls Tryz.prog 41 #[ptr f,.func F1 b1 #[],.func F2 b2 #[]] w fun x w'=>x=.returned (.tuple #[])∧Rb w' f k z (.func F1 b1 #[]) (.func F2 b2 #[]) e h tv∧Only (·=f) w w':=by
 have c2:=hb.cell 2
 have c3:=hb.cell 3
 have z2:=hb.frozen 2
 have z3:=hb.frozen 3
 simp only [rcs,List.getElem?_toArray,List.getElem?_cons_succ,List.getElem?_cons_zero] at c2 c3
 have hE:Hid (Rb ((w.setCell ⟨f,2,none⟩ (.func F1 b1 #[])).setCell ⟨f,3,none⟩ (.func F2 b2 #[])) f k z (.func F1 b1 #[]) (.func F2 b2 #[]) e h tv):=Lib.hid ((hb.store 2 _).store 3 _)
 have hO:Hid (Only (·=f) w ((w.setCell ⟨f,2,none⟩ (.func F1 b1 #[])).setCell ⟨f,3,none⟩ (.func F2 b2 #[]))):=Lib.hid (((Only.refl (·=f) w).setCell (p:=⟨f,2,none⟩) (.inl rfl) _).setCell (p:=⟨f,3,none⟩) (.inl rfl) _)
 clear hb
 go_enter Tryz.func41,Tryz.ntmps41
 go_wp2
 go_end0
 exact ⟨rfl,hE.out,hO.out⟩
theorem end_any {h:Nat} (hb:Rb w f k z u2 u3 e h tv):
 Calls Tryz.prog 74 #[ptr f] w fun x w'=>x=.returned (.bool true)∧Rb w' f k z (wf0 44) (wf0 99) e h tv∧Only (·=f) w w':=by
 have hG:=Lib.hid (goOn_any (F1:=.func 44) (F2:=.func 99) (b1:=#[]) (b2:=#[]) hb)
 clear hb
 go_enter Tryz.func74,Tryz.ntmps74
 go_wp2_with fail
 refine hG.out.mono ?_
 rintro e w' ⟨rfl,hB,hO⟩
 replace hB:=Lib.hid hB
 replace hO:=Lib.hid hO
 clear hG
 go_wp2_with fail
 go_ret
 exact ⟨rfl,hB.out,hO.out⟩
theorem new_resize (k z:Int) (w:World):Calls Tryz.prog 24 #[.int .i64 k,.int .i64 z] w fun e w'=>∃ a:Ra,e=.returned (ptr (rzL.f a))∧rzL.At w' a (newRz k z)∧(∀ x,rzL.foot a (newRz k z) x→w.heap.size≤x)∧Below w.heap.size w w':=by
 obtain ⟨w2,hw2⟩:∃ w2,w2=w.alloc (.cells #[.int .i64 k,.int .i64 z,.nilFunc,.nilFunc,.int .i64 0,.int .i64 0,.nilIface] 109):=⟨_,rfl⟩
 have hF2:Rb w2 w.heap.size k z .nilFunc .nilFunc 0 0 .nilIface:=by rw [hw2]; exact Blk.made w _ _
 have hB2:Below w.heap.size w w2:=by rw [hw2]; exact (Below.refl _ _).alloc (Nat.le_refl _) _
 obtain ⟨f,hf⟩:∃ f,f=w.heap.size:=⟨_,rfl⟩
 rw [← hf] at hF2
 have hfw:w.heap.size≤f:=by omega
 have hP:=Lib.hid (power_all z)
 have hb2:∀ w1,Only (·=f) w2 w1→Below w.heap.size w w1:=fun w1 hO=>hB2.trans (hO.toBelow hB2.size (fun x hx q=>by omega))
 replace hb2:=Lib.hid hb2
 cases hp:FM.power z with
 | true=>
   have hgo:=Lib.hid (goOn_any (F1:=.func 42) (F2:=.func 43) (b1:=#[ptr f]) (b2:=#[ptr f]) hF2)
   have hn:newRz k z=⟨k,z,1,0,.none⟩:=by unfold newRz; rw [hp]; rfl
   rw [hn]
   rw [hp] at hP
   clear hF2 hB2 hn hp
   go_enter Tryz.func24,Tryz.ntmps24
   go_upto_region 2 with (fail)
   rw [← hw2,← hf]
   clear hw2 hf
   go_wp2_with fail
   refine (hP.out _).mono ?_
   rintro e w' ⟨rfl,rfl⟩
   clear hP
   go_wp2_with fail
   refine hgo.out.mono ?_
   rintro e w1 ⟨rfl,hB,hO⟩
   have hE:Hid (RzAt w1 ⟨f,.nilIface,⟨0,.nilIface,.nilIface,0,0,none,0,0,none,0,[],none,0,[]⟩,⟨0,.nilIface,0,0⟩⟩ ⟨k,z,1,0,.none⟩):=Lib.hid (RzAt.plain hB (by simp))
   have hBl:=Lib.hid (hb2.out _ hO)
   clear hgo hB hO hb2
   go_wp2_with fail
   go_ret
   exact ⟨_,rfl,hE.out,fun x hx=>by rw [rfoot_plain (by simp) hx]; exact hfw,hBl.out⟩
 | false=>
   have hgo:=Lib.hid (goOn_any (F1:=.func 44) (F2:=.func 45) (b1:=#[]) (b2:=#[ptr f]) hF2)
   have hn:newRz k z=⟨k,z,0,0,.none⟩:=by unfold newRz; rw [hp]; rfl
   rw [hn]
   rw [hp] at hP
   clear hF2 hB2 hn hp
   go_enter Tryz.func24,Tryz.ntmps24
   go_upto_region 2 with (fail)
   rw [← hw2,← hf]
   clear hw2 hf
   go_wp2_with fail
   refine (hP.out _).mono ?_
   rintro e w' ⟨rfl,rfl⟩
   clear hP
   go_wp2_with fail
   refine hgo.out.mono ?_
   rintro e w1 ⟨rfl,hB,hO⟩
   have hE:Hid (RzAt w1 ⟨f,.nilIface,⟨0,.nilIface,.nilIface,0,0,none,0,0,none,0,[],none,0,[]⟩,⟨0,.nilIface,0,0⟩⟩ ⟨k,z,0,0,.none⟩):=Lib.hid (RzAt.plain hB (by simp))
   have hBl:=Lib.hid (hb2.out _ hO)
   clear hgo hB hO hb2
   go_wp2_with fail
   go_ret
   exact ⟨_,rfl,hE.out,fun x hx=>by rw [rfoot_plain (by simp) hx]; exact hfw,hBl.out⟩
theorem rz_err (h:rzL.At w a R):Calls Tryz.prog 28 #[ptr (rzL.f a)] w fun e w'=>e=.returned (.int .i64 R.err)∧w'=w:=by
 have c4:=(rb_cells h.blk).2.2.2.2.1
 show Calls _ _ #[ptr a.f] _ _
 clear h
 go_enter Tryz.func28,Tryz.ntmps28
 go_wp2_with fail
 go_ret
 exact ⟨rfl,rfl⟩
theorem step_fm {F:Nat} {cv m:Value} {c:Bool} {P:World→Prop} (c3:w.cell? ⟨f,3,none⟩=some (wfm F cv)) (eF:∀ args w,(callFunc F args).run Tryz.prog w=.ok (.enter F args) w)
 (hF:Calls Tryz.prog F #[cv,m] w fun e w'=>e=.returned (.bool c)∧P w'):Calls Tryz.prog 234 #[ptr f,m] w fun e w'=>e=.returned (.bool c)∧P w':=by
 replace hF:=Lib.hid hF
 go_enter Tryz.func234,Tryz.ntmps234
 go_wp2_with fail
 refine hF.out.mono ?_
 rintro e w' ⟨rfl,hPw⟩
 replace hPw:=Lib.hid hPw
 clear c3
 go_wp2_with fail
 go_ret
 exact ⟨rfl,hPw.out⟩
theorem ready_f0 {m:Value} (c2:w.cell? ⟨f,2,none⟩=some (wf0 44)):Calls Tryz.prog 233 #[ptr f,m] w fun e w'=>e=.returned (.bool true)∧Below w.heap.size w w':=by
 have eF:∀ args w,(callFunc 44 args).run Tryz.prog w=.ok (.enter 44 args) w:=fun _ _=>by kernel_rfl
 have hA:=Lib.hid (always_any m w)
 go_enter Tryz.func233,Tryz.ntmps233
 go_wp2_with fail
 refine hA.out.mono ?_
 rintro e w' ⟨rfl,hw⟩
 obtain rfl:w=w':=hw.symm
 clear hA c2
 go_wp2_with fail
 go_ret
 exact ⟨rfl,Below.refl _ _⟩
theorem ready_fm {F:Nat} {cv m:Value} {c:Bool} (c2:w.cell? ⟨f,2,none⟩=some (wfm F cv)) (eF:∀ args w,(callFunc F args).run Tryz.prog w=.ok (.enter F args) w)
 (hF:Calls Tryz.prog F #[cv,m] w fun e w'=>e=.returned (.bool c)∧Below w.heap.size w w'):Calls Tryz.prog 233 #[ptr f,m] w fun e w'=>e=.returned (.bool c)∧Below w.heap.size w w':=by
 replace hF:=Lib.hid hF
 go_enter Tryz.func233,Tryz.ntmps233
 go_wp2_with fail
 refine hF.out.mono ?_
 rintro e w' ⟨rfl,hb⟩
 replace hb:=Lib.hid hb
 clear c2
 go_wp2_with fail
 go_ret
 exact ⟨rfl,hb.out⟩
theorem ready_by {T:TypeId} {fr b:Nat} {m:Value} {c:Bool} (c2:w.cell? ⟨f,2,none⟩=some (.func (.method "Ready") #[.iface T (ptr b)] #[])) (mr:∀ (w:World) (f:Nat),(method (f+1) T (.pointer (some ⟨b,0,none⟩)) "Ready").run Tryz.prog w=.ok (fr,.pointer (some ⟨b,0,none⟩)) w)
 (er:∀ args w,(callFunc fr args).run Tryz.prog w=.ok (.enter fr args) w) (hF:Calls Tryz.prog fr #[ptr b,m] w fun e w'=>e=.returned (.bool c)∧Below w.heap.size w w'):Calls Tryz.prog 233 #[ptr f,m] w fun e w'=>e=.returned (.bool c)∧Below w.heap.size w w':=by
 replace hF:=Lib.hid hF
 go_enter Tryz.func233,Tryz.ntmps233
 go_wp2_with fail
 refine hF.out.mono ?_
 rintro e w' ⟨rfl,hb⟩
 replace hb:=Lib.hid hb
 clear c2
 go_wp2_with fail
 go_ret
 exact ⟨rfl,hb.out⟩
end
end Go.Proofs.YtpobbnllcoabhaaGreatDoor.Zr
