/- Walks and plain mathematics, put together in their order: ZipG, JoinB, GroA, GroB, GroC, GroD, GroE. -/
import Derived.Test.YtpobbnllcoabhaaGreatDoorPart4
import Derived.Test.YtpobbnllcoabhaaGreatDoorFrm
import Derived.Test.YtpobbnllcoabhaaGreatDoorLm
import Derived.Laws.EntriesVeiled
import Derived.Maps.Own
import Derived.Maps.OwnOps
import Derived.Maps.OwnSet
import Derived.Maps.Views
import Derived.Deep.RegionHeld3
import Derived.StillTailTactics
import Derived.Deep.QuietTactic
set_option linter.unusedVariables false
set_option linter.unusedSimpArgs false
namespace Go.Proofs.YtpobbnllcoabhaaGreatDoor.Mx
end Go.Proofs.YtpobbnllcoabhaaGreatDoor.Mx
namespace Go.Proofs.YtpobbnllcoabhaaGreatDoor.Zp
open Go Hm Ar Mm Wk Pc Me Mq Pu Pn Gt Qs Mx
def ZD (l:List Pr) (Z:Zs) (L:Lm):Prop:=Z.Ok L l∧Z.few≤35
def Beside (l:List Pr) (Z:Zs) (L:Lm) (old:Nat→Int→Nat→Prop) (Z':Zs) (L':Lm) (old':Nat→Int→Nat→Prop):Prop:=
 ∀ (R:Rn) (k:Nat),(R.w:Int)<L.k→RnOk Z.wy L l old R k→∃ k',k'≤k+0∧RnOk Z'.wy L' l old' R k'
section
variable {l:List Pr} {Z:Zs} {L:Lm} {old old':Nat→Int→Nat→Prop}
theorem ZD.ways (h:ZD l Z L):Z.wy.Ok L l:=h.1.ways
theorem Beside.olds (h:ZD l Z L) (ho:∀ w p e,old w p e→old' w p e):Beside l Z L old Z L old':=fun R k _ hR=>
 ⟨k,Nat.le_refl _,hR.mono h.ways (fun p e=>ho _ p e)⟩
theorem Beside.trans {Z' Z'':Zs} {L' L'':Lm} {old'':Nat→Int→Nat→Prop} (hk:L'.k=L.k) (h:Beside l Z L old Z' L' old') (h':Beside l Z' L' old' Z'' L'' old''):Beside l Z L old Z'' L'' old'':=fun R k hw hR=>by
 obtain ⟨k',h1,h2⟩:=h R k hw hR
 obtain ⟨k'',h3,h4⟩:=h' R k' (by rw [hk]; exact hw) h2
 exact ⟨k'',by omega,h4⟩
theorem beside_cells (h:ZD l Z L) {xs' hs':List Int} {ds':List (Nat×Nat)} {ws':List Nat} (h1:∀ i,2≤i→i<Z.B+Z.n→Cl.nth xs' i=Cl.nth L.xs i) (h2:Z.pub=true→∀ b,b<2*Z.n→Cl.nth xs' (Z.B2+b)=Cl.nth L.xs (Z.B2+b)) (hl:L.xs.length≤xs'.length)
 (hxb:∀ x∈xs',0≤x∧x≤18446744073709551615) (hnow:Me.now xs' ds'=Me.now L.xs L.ds) (htb:∀ i,(tab ds' i).1≤65536∧(tab ds' i).2≤4000000) (h0:Cl.nth L.xs 0≤Cl.nth xs' 0):
 ZD l Z {L with xs:=xs',ds:=ds',hs:=hs',ws:=ws'}∧Beside l Z L old Z {L with xs:=xs',ds:=ds',hs:=hs',ws:=ws'} old:=by
 have hkB:=h.1.kB
 have hk:=h.1.k
 have hp1:=h.1.p1
 refine ⟨⟨h.1.cells (fun i q1 q2=>h1 i (by omega) q2) h2 hl hxb hnow htb (by omega),h.2⟩,fun R k hw hR=>⟨k,Nat.le_refl _,hR.moved ?_ h0 rfl⟩⟩
 show Cl.nth xs' (2+R.w)=_
 exact h1 _ (by omega) (by omega)
theorem beside_publish (h:ZD l Z L) (hp:Z.pub=false) {t:Nat} (ht:t≤1000000) (hnow:Me.now (L.xs.set 1 (t:Int)) L.ds=(2*Z.n,Z.B2)) (h2:Z.B2+2*Z.n≤L.xs.length) (hnew:∀ b,b<2*Z.n→Cl.nth L.xs (Z.B2+b)=((Z.head b:Nat):Int)):
 ZD l {Z with pub:=true} {L with xs:=L.xs.set 1 (t:Int)}∧Beside l Z L old {Z with pub:=true} {L with xs:=L.xs.set 1 (t:Int)} old:=by
 have hkB:=h.1.kB
 have hk:=h.1.k
 have hxl:=h.1.xl
 have hn:∀ i,i≠1→Cl.nth (L.xs.set 1 (t:Int)) i=Cl.nth L.xs i:=fun i hi=>by rw [nth_set _ _ _ (by omega),if_neg hi]
 refine ⟨⟨h.1.publish hp hn (by simp) (fun x hx=>?_) hnow h2 hnew,h.2⟩,fun R k hw hR=>⟨k,Nat.le_refl _,?_⟩⟩
 · rcases List.mem_or_eq_of_mem_set hx with q | rfl
   · exact h.1.xb x q
   · omega
 · exact hR.publish.moved (hn _ (by omega)) (by show _≤Cl.nth (L.xs.set 1 (t:Int)) 0; rw [hn 0 (by omega)]; exact Int.le_refl _) rfl
theorem beside_wait {n:Nat} {W:Wt} (h:ZD l Z L) (hb:Cl.nth L.xs 0≤4611686018427387904) (hr:readyB L.xs L.hs W=true) (hp0:W.at_≤1→W.passed=0) (h3:W.at_≤3) (hn:(n:Int)=L.k):
 ZD l Z {L with xs:=(wstep n L.xs L.hs W).1,hs:=(wstep n L.xs L.hs W).2.1}∧Beside l Z L (oldW W) Z {L with xs:=(wstep n L.xs L.hs W).1,hs:=(wstep n L.xs L.hs W).2.1} (oldW (wstep n L.xs L.hs W).2.2):=
 ⟨⟨h.1.waits hb,h.2⟩,fun R k hw' hR=>⟨k,Nat.le_refl _,hR.waits h.ways hb hr hp0 h3 (by omega) (by omega)⟩⟩
theorem beside_link {e:Nat} {r0 d t:List Mq.Hp} {a:Mq.Hp} (h:ZD l Z L) (hp:Z.pub=true) (he:e<Z.n) (hr:Z.r e=r0++[a]) (hd:Z.rest e=d++t) (hd0:d≠[]) (hds':∀ b∈d,sd Z.n b.2.1= !Z.s e) (ht:∀ b t',t=b::t'→sd Z.n b.2.1=Z.s e)
 (hold:∀ w p,¬old w p e) (hold':∀ w p i,old' w p i↔i=e∨old w p i):
 ZD l (Z.linked e d t) {L with ss:=lnk L.ss a.1 (hdH t)}∧Beside l Z L old (Z.linked e d t) {L with ss:=lnk L.ss a.1 (hdH t)} old':=by
 have hz:=h.1.zip e he
 have hbt:hdH t≤18446744073709551615:=by
  cases t with
  | nil=>simp [hdH]
  | cons b t'=>
    have h1:=hz.oth
    rw [hd] at h1
    obtain ⟨j,_,hj,_⟩:=h1.at b (by simp)
    have hx:=hz.own
    obtain ⟨d1,g,hdl⟩:∃ d1 g,d=d1++[g]:=⟨d.dropLast,d.getLast hd0,(List.dropLast_concat_getLast hd0).symm⟩
    obtain ⟨gx,gp⟩:=g
    have h2:Cx L.ss gx ((gx,gp)::b::t'):=by
     have h3:Z.v e++(d++b::t')=(Z.v e++d1)++((gx,gp)::b::t'):=by rw [hdl]; simp
     rw [h3] at h1
     exact Cx.back _ h1
    obtain ⟨k,z,q1,q2,q3⟩:=h2.tail
    have hz2:=(h.1.nexts k).2
    rw [q2] at hz2
    unfold ndp at hz2
    simp only at hz2
    have:=Cx.hd q3
    omega
 refine ⟨⟨h.1.linked hp he hr hd hd0 hds' ht hbt,h.2⟩,fun R k _ hR=>?_⟩
 obtain ⟨k',h1,h2⟩:=RnOk.linked h.1 he hr hd hds' (fun p=>hold _ p) (fun p=>(hold' _ p e).2 (.inl rfl)) (fun p i _ q=>(hold' _ p i).2 (.inr q)) hR
 exact ⟨k',h1,h2⟩
end
end Go.Proofs.YtpobbnllcoabhaaGreatDoor.Zp
namespace Go.Proofs.YtpobbnllcoabhaaGreatDoor.Zp
open Go Hm Ar Mm Wk Pc Me Mq Pu Pn Gt Qs Mx
section
variable {J:Js} {L L':Lm} {l:List Pr} {old old':Nat→Int→Nat→Prop} {w k e n:Nat} {W:Wt} {R:Rn}
theorem Js.Ok.cells (hJ:J.Ok L l) {xs' hs':List Int} {ds':List (Nat×Nat)} {ws':List Nat} (h1:∀ i,J.B≤i→i<J.B+2*J.n→Cl.nth xs' i=Cl.nth L.xs i) (h2:J.pub=true→∀ b,b<J.n→Cl.nth xs' (J.B2+b)=Cl.nth L.xs (J.B2+b)) (hl:L.xs.length≤xs'.length)
 (hxb:∀ x∈xs',0≤x∧x≤18446744073709551615) (hnow:Me.now xs' ds'=Me.now L.xs L.ds) (htb:∀ i,(tab ds' i).1≤65536∧(tab ds' i).2≤4000000) (hp1:1≤Cl.nth xs' 0):J.Ok {L with xs:=xs',ds:=ds',hs:=hs',ws:=ws'} l:=
 {hJ with now:=by show Me.now xs' ds'=_; rw [hnow]; exact hJ.now,tb:=htb,xl:=by have:=hJ.xl; exact ⟨Nat.le_trans this.1 hl,this.2.1,fun p=>Nat.le_trans (this.2.2 p) hl⟩,xb:=hxb,elder:=fun i hi=>by show Cl.nth xs' _=_; rw [h1 _ (by omega) (by omega)]; exact hJ.elder i hi,newer:=fun p b hb=>by show Cl.nth xs' _=_; rw [h2 p b hb]; exact hJ.newer p b hb,p1:=hp1}
theorem Js.Ok.publish (hJ:J.Ok L l) (_hp:J.pub=false) (hall:∀ e,e<J.n→J.jn e=true) {xs':List Int} (h1:∀ i,i≠1→Cl.nth xs' i=Cl.nth L.xs i) (hl:xs'.length=L.xs.length) (hxb:∀ x∈xs',0≤x∧x≤18446744073709551615) (hnow:Me.now xs' L.ds=(J.n,J.B2)) (h2:J.B2+J.n≤L.xs.length) (hnew:∀ e,e<J.n→Cl.nth L.xs (J.B2+e)=((hdH (J.two e):Nat):Int)):Js.Ok {J with pub:=true} {L with xs:=xs'} l:=by
 have hkB:=hJ.kB
 have hk:=hJ.k
 have hxl:=hJ.xl
 have hpw:=FM.power_bd hJ.pw
 exact {hJ with now:=hnow,xl:=⟨by show _≤xs'.length; rw [hl]; exact hxl.1,hxl.2.1,fun _=>by show _≤xs'.length; rw [hl]; exact h2⟩,xb:=hxb,elder:=fun i hi=>by show Cl.nth xs' (J.B+i)=_; rw [h1 _ (by omega)]; exact hJ.elder i hi,newer:=fun _ b hb=>by show Cl.nth xs' (J.B2+b)=_; rw [h1 _ (by omega)]; exact hnew b hb,all:=fun _=>hall,p1:=by show 1≤Cl.nth xs' 0; rw [h1 _ (by omega)]; exact hJ.p1}
theorem Js.Ok.waits (hJ:J.Ok L l) (hb:Cl.nth L.xs 0≤4611686018427387904):J.Ok {L with xs:=(wstep n L.xs L.hs W).1,hs:=(wstep n L.xs L.hs W).2.1} l:=by
 have hkB:=hJ.kB
 have hk:=hJ.k
 have hxl:=hJ.xl
 have hpw:=FM.power_bd hJ.pw
 have h0:=Cl.getD_bd hJ.xb 0
 have hs:=sum64_in h0.1 hb
 unfold wstep
 split
 · exact hJ.cells (fun _ _ _=>rfl) (fun _ _ _=>rfl) (Nat.le_refl _) hJ.xb rfl hJ.tb hJ.p1
 split
 · have hn:∀ i,i≠0→Cl.nth (L.xs.set 0 (Cl.sum64 (Cl.nth L.xs 0) 1)) i=Cl.nth L.xs i:=fun i hi=>by
    rw [nth_set _ _ _ (by omega),if_neg hi]
   refine hJ.cells (fun i h1 _=>hn i (by omega)) (fun _ b _=>hn _ (by omega)) (by simp) (fun x hx=>?_) ?_ hJ.tb ?_
   · rcases List.mem_or_eq_of_mem_set hx with q | rfl
     · exact hJ.xb x q
     · rw [hs]; omega
   · unfold Me.now
     rw [hn 1 (by omega)]
   · rw [nth_set _ _ _ (by omega),if_pos rfl,hs]
     have:=hJ.p1
     omega
 split
 · exact hJ.cells (fun _ _ _=>rfl) (fun _ _ _=>rfl) (Nat.le_refl _) hJ.xb rfl hJ.tb hJ.p1
 · exact hJ.cells (fun _ _ _=>rfl) (fun _ _ _=>rfl) (Nat.le_refl _) hJ.xb rfl hJ.tb hJ.p1
theorem RnOk.joined (hJ:J.Ok L l) (hp:J.pub=false) (he:e<J.n) (hjn:J.jn e=false) {c0:List Mq.Hp} {a:Mq.Hp} (hc:J.C e=c0++[a]) (h:RnOk J.wy L l old R k):
 ∃ k',k'≤k+(J.C (e+J.n)).length∧RnOk (J.linked e).wy {L with ss:=lnk L.ss a.1 (hdH (J.C (e+J.n)))} l old R k':=by
 unfold RnOk at h ⊢
 split
 · rename_i q
   rw [q] at h
   exact ⟨k,Nat.le_add_right _ _,h⟩
 · rename_i G q
   rw [q] at h
   exact Rok.joined hJ hp he hjn hc h
theorem RnOk.pubJ (hp:J.pub=false) (ho:∀ p,old' R.w p 0) (h:RnOk J.wy L l old R k):RnOk (Js.wy {J with pub:=true}) L l old' R k:=
 h.to rfl (Int.le_refl _) rfl rfl (Nat.le_refl _) (fun key c p hq=>by
  rcases hq with ⟨hq,_⟩ | ⟨_,hq⟩
  · exact .inl ⟨hq,.inr (ho p)⟩
  · rw [hp] at hq; simp at hq) (fun key q p hq=>by
  rcases hq with hq | ⟨hq,_⟩
  · exact .inl hq
  · rw [hp] at hq; simp at hq)
end
end Go.Proofs.YtpobbnllcoabhaaGreatDoor.Zp
namespace Go.Proofs.YtpobbnllcoabhaaGreatDoor.Gw
open Go Hm Ar Mm Wk Pc Me Mq Pu Pn Gt Qs Zp
def sel (p:Nat×Nat) (h:Nat):Nat:=if h=0 then p.1 else p.2
def put (p:Nat×Nat) (h x:Nat):Nat×Nat:=if h=0 then (x,p.2) else (p.1,x)
theorem sel_put (p:Nat×Nat) (h x i:Nat) (hh:h≤1) (hi:i≤1):sel (put p h x) i=if i=h then x else sel p i:=by
 unfold sel put
 have:h=0∨h=1:=by omega
 have:i=0∨i=1:=by omega
 rcases ‹h=0∨h=1› with rfl | rfl<;>rcases ‹i=0∨i=1› with rfl | rfl<;>simp
structure Ch where
 fi:Nat×Nat
 la:Nat×Nat
 half:Nat
 met:List Nat
 lk:List (Nat×Nat)
def Ch.new:Ch:=⟨(0,0),(0,0),0,[],[]⟩
def Ch.add (C:Ch) (x h:Nat):Ch:=
 ⟨if sel C.fi h=0 then put C.fi h x else C.fi,put C.la h x,h,x::C.met,if sel C.fi h=0 then C.lk else if h≠C.half then C.lk++[(sel C.la h,x)] else C.lk⟩
def Ch.over (C:Ch):List (Nat×Nat):=if sel C.la (1-C.half)≠0 then C.lk++[(sel C.la (1-C.half),0)] else C.lk
def hf (b:Bool):Nat:=if b=true then 1 else 0
theorem hf_le (b:Bool):hf b≤1:=by cases b<;>simp [hf]
theorem hf_not (b:Bool):1-hf b=hf (!b):=by cases b<;>rfl
theorem hf_inj {a b:Bool}:hf a=hf b↔a=b:=by cases a<;>cases b<;>simp [hf]
def chn (σ:ByteArray→Bool) (q:List Mq.Hp):Ch:=q.foldl (fun C a=>C.add a.1 (hf (σ a.2.1))) .new
theorem chn_snoc (σ:ByteArray→Bool) (q:List Mq.Hp) (a:Mq.Hp):chn σ (q++[a])=(chn σ q).add a.1 (hf (σ a.2.1)):=by
 unfold chn
 rw [List.foldl_append]
 rfl
inductive Lnk (σ:ByteArray→Bool):List Mq.Hp→List Mq.Hp→List (Nat×Nat)→Prop
 | nil {r:List Mq.Hp}:Lnk σ r [] []
 | cons {r0 d t:List Mq.Hp} {a:Mq.Hp} {s:Bool} {ls:List (Nat×Nat)}:d≠[]→(∀ b∈d,σ b.2.1= !s)→(∀ b t',t=b::t'→σ b.2.1=s)→Lnk σ d t ls→Lnk σ (r0++[a]) (d++t) ((a.1,hdH t)::ls)
structure Gone (σ:ByteArray→Bool) (p:List Mq.Hp) (C:Ch):Prop where
 fi:∀ b,sel C.fi (hf b)=hdH (p.filter fun e=>σ e.2.1==b)
 met:C.met=(hds p).reverse
theorem hdH_append (p q:List Mq.Hp):hdH (p++q)=if p=[] then hdH q else hdH p:=by
 cases p<;>simp [hdH]
theorem hdH_pos {p:List Mq.Hp} (hp:∀ e∈p,e.1≠0):hdH p=0↔p=[]:=by
 cases p with
 | nil=>simp [hdH]
 | cons e t=>simp [hdH,hp e (by simp)]
theorem gone_chn (σ:ByteArray→Bool):∀ (n:Nat) (p:List Mq.Hp),p.length=n→(∀ e∈p,e.1≠0)→Gone σ p (chn σ p):=by
 intro n
 induction n with
 | zero=>
   intro p hl _
   have:p=[]:=List.eq_nil_of_length_eq_zero hl
   subst this
   exact ⟨fun b=>by cases b<;>rfl,rfl⟩
 | succ n ih=>
   intro p hl hp
   obtain ⟨q,a,rfl⟩:∃ q a,p=q++[a]:=⟨p.dropLast,p.getLast (by rintro rfl; simp at hl),(List.dropLast_concat_getLast _).symm⟩
   have hq:=ih q (by simp at hl; omega) (fun e he=>hp e (by simp [he]))
   rw [chn_snoc]
   generalize chn σ q=C at*
   have ha:=hp a (by simp)
   refine ⟨fun b=>?_,?_⟩
   · have h1:=hq.fi b
     have h2:=hq.fi (σ a.2.1)
     have hz:=hdH_pos (p:=q.filter fun e=>σ e.2.1==b) (fun e he=>hp e (by have:=(List.mem_filter.1 he).1; simp [this]))
     have hz2:=hdH_pos (p:=q.filter fun e=>σ e.2.1==σ a.2.1) (fun e he=>hp e (by have:=(List.mem_filter.1 he).1; simp [this]))
     rw [List.filter_append,hdH_append]
     show sel (if sel C.fi (hf (σ a.2.1))=0 then put C.fi (hf (σ a.2.1)) a.1 else C.fi) (hf b)=_
     by_cases hb:b=σ a.2.1
     · subst hb
       by_cases h0:sel C.fi (hf (σ a.2.1))=0
       · rw [if_pos h0,sel_put _ _ _ _ (hf_le _) (hf_le _),if_pos rfl,if_pos (hz2.1 (by rw [← h2]; exact h0))]
         simp [hdH]
       · rw [if_neg h0,if_neg (fun e=>h0 (by rw [h2]; exact hz2.2 e))]
         exact h1
     · have e1:sel (if sel C.fi (hf (σ a.2.1))=0 then put C.fi (hf (σ a.2.1)) a.1 else C.fi) (hf b)=sel C.fi (hf b):=by
        split
        · rw [sel_put _ _ _ _ (hf_le _) (hf_le _),if_neg (fun e=>hb (hf_inj.1 e))]
        · rfl
       rw [e1,h1]
       have e2:[a].filter (fun e=>σ e.2.1==b)=[]:=by
        rw [List.filter_cons,if_neg (by simpa using fun e=>hb e.symm)]; rfl
       rw [e2]
       split
       · rename_i q; rw [q]
       · rfl
   · show a.1::C.met=_
     rw [hq.met]
     simp [hds]
def more (σ:ByteArray→Bool) (C:Ch) (q:List Mq.Hp) (l:List (Nat×Nat)):Prop:=(q.foldl (fun C a=>C.add a.1 (hf (σ a.2.1))) C).over=C.lk++l
theorem more_two (σ:ByteArray→Bool):∀ (q:List Mq.Hp) (C:Ch) (r0 d:List Mq.Hp) (a:Mq.Hp) (s:Bool),C.half=hf s→a.1≠0→sel C.la (hf (!s))=a.1→sel C.fi (hf s)≠0→sel C.fi (hf (!s))≠0→(∃ d0 z,d=d0++[z]∧sel C.la (hf s)=z.1∧z.1≠0)→
 (∀ b∈d,σ b.2.1=s)→(∀ e∈q,e.1≠0)→∃ l,more σ C q l∧Lnk σ (r0++[a]) (d++q) l:=by
 intro q
 induction q with
 | nil=>
   intro C r0 d a s hh ha hl hf1 hf2 hd hds' hq
   obtain ⟨d0,z,rfl,hz,hz0⟩:=hd
   refine ⟨[(a.1,0)],?_,?_⟩
   · show C.over=_
     unfold Ch.over
     rw [hh,hf_not,hl,if_pos ha]
   · have:=Lnk.cons (σ:=σ) (r0:=r0) (d:=d0++[z]) (t:=[]) (a:=a) (s:= !s) (ls:=[]) (by simp) (by simpa using hds') (by simp) .nil
     simpa [hdH] using this
 | cons e q ih=>
   intro C r0 d a s hh ha hl hf1 hf2 hd hds' hq
   obtain ⟨d0,z,hdz,hz,hz0⟩:=hd
   have he:=hq e (by simp)
   by_cases hs:σ e.2.1=s
   · have hadd:(C.add e.1 (hf (σ e.2.1)))=⟨C.fi,put C.la (hf s) e.1,hf s,e.1::C.met,C.lk⟩:=by
      unfold Ch.add
      rw [hs,if_neg hf1,if_neg hf1,if_neg (by rw [hh]; simp)]
     have h1:s≠ !s:=by cases s<;>simp
     obtain ⟨l,h2,h3⟩:=ih ⟨C.fi,put C.la (hf s) e.1,hf s,e.1::C.met,C.lk⟩ r0 (d++[e]) a s rfl ha
      (by rw [sel_put _ _ _ _ (hf_le _) (hf_le _),if_neg (fun q=>h1 (hf_inj.1 q).symm)]; exact hl) hf1 hf2 ⟨d,e,rfl,by rw [sel_put _ _ _ _ (hf_le _) (hf_le _),if_pos rfl],he⟩
      (fun b hb=>by
        rcases List.mem_append.1 hb with q | q
        · exact hds' b q
        · have:b=e:=by simpa using q
          rw [this]; exact hs) (fun b hb=>hq b (List.mem_cons_of_mem _ hb))
     refine ⟨l,?_,by simpa using h3⟩
     unfold more at h2 ⊢
     rw [List.foldl_cons,hadd]
     exact h2
   · have hs':σ e.2.1= !s:=by revert hs; cases σ e.2.1<;>cases s<;>simp
     have h1:s≠ !s:=by cases s<;>simp
     have hadd:(C.add e.1 (hf (σ e.2.1)))=⟨C.fi,put C.la (hf (!s)) e.1,hf (!s),e.1::C.met,C.lk++[(a.1,e.1)]⟩:=by
      unfold Ch.add
      rw [hs',if_neg hf2,if_neg hf2,if_pos (by rw [hh]; exact fun q=>h1 (hf_inj.1 q).symm),hl]
     obtain ⟨l,h2,h3⟩:=ih ⟨C.fi,put C.la (hf (!s)) e.1,hf (!s),e.1::C.met,C.lk++[(a.1,e.1)]⟩ d0 [e] z (!s) rfl hz0
      (by rw [Bool.not_not,sel_put _ _ _ _ (hf_le _) (hf_le _),if_neg (fun q=>h1 (hf_inj.1 q))]; exact hz) hf2 (by rw [Bool.not_not]; exact hf1) ⟨[],e,rfl,by rw [sel_put _ _ _ _ (hf_le _) (hf_le _),if_pos rfl],he⟩
      (fun b hb=>by have:b=e:=by simpa using hb
                    rw [this]; exact hs') (fun b hb=>hq b (List.mem_cons_of_mem _ hb))
     refine ⟨(a.1,e.1)::l,?_,?_⟩
     · unfold more at h2 ⊢
       rw [List.foldl_cons,hadd,h2]
       simp
     · rw [← hdz] at h3
       exact Lnk.cons (σ:=σ) (r0:=r0) (d:=d) (t:=e::q) (a:=a) (s:= !s) (by rw [hdz]; simp) (by rw [Bool.not_not]; exact hds') (fun b t' q=>by
        injection q with q1 _
        rw [← q1]; exact hs') h3
theorem more_one (σ:ByteArray→Bool):∀ (q:List Mq.Hp) (C:Ch) (r0:List Mq.Hp) (z:Mq.Hp) (s:Bool),C.half=hf s→sel C.la (hf (!s))=0→sel C.fi (hf s)≠0→sel C.fi (hf (!s))=0→sel C.la (hf s)=z.1→z.1≠0→
 (∀ b∈r0++[z],σ b.2.1=s)→(∀ e∈q,e.1≠0)→∀ r rest,(r0++[z])++q=r++rest→(∀ b∈r,σ b.2.1=s)→(∀ b t',rest=b::t'→σ b.2.1= !s)→∃ l,more σ C q l∧Lnk σ r rest l:=by
 intro q
 induction q with
 | nil=>
   intro C r0 z s hh hl hf1 hf2 hz hz0 hr hq r rest he hr1 hr2
   have:rest=[]:=by
    cases rest with
    | nil=>rfl
    | cons b t=>
      exfalso
      have h1:=hr2 b t rfl
      have h2:=hr b (by rw [List.append_nil] at he; rw [he]; simp)
      rw [h2] at h1
      revert h1
      cases s<;>simp
   subst this
   refine ⟨[],?_,.nil⟩
   show C.over=_
   unfold Ch.over
   rw [hh,hf_not,hl,if_neg (by simp),List.append_nil]
 | cons e q ih=>
   intro C r0 z s hh hl hf1 hf2 hz hz0 hr hq r rest hx hr1 hr2
   have he:=hq e (by simp)
   have h1:s≠ !s:=by cases s<;>simp
   by_cases hs:σ e.2.1=s
   · have hadd:(C.add e.1 (hf (σ e.2.1)))=⟨C.fi,put C.la (hf s) e.1,hf s,e.1::C.met,C.lk⟩:=by
      unfold Ch.add
      rw [hs,if_neg hf1,if_neg hf1,if_neg (by rw [hh]; simp)]
     obtain ⟨l,h2,h3⟩:=ih ⟨C.fi,put C.la (hf s) e.1,hf s,e.1::C.met,C.lk⟩ (r0++[z]) e s rfl
      (by rw [sel_put _ _ _ _ (hf_le _) (hf_le _),if_neg (fun q=>h1 (hf_inj.1 q).symm)]; exact hl) hf1 hf2 (by rw [sel_put _ _ _ _ (hf_le _) (hf_le _),if_pos rfl]) he
      (fun b hb=>by
        rcases List.mem_append.1 hb with q | q
        · exact hr b q
        · have:b=e:=by simpa using q
          rw [this]; exact hs) (fun b hb=>hq b (List.mem_cons_of_mem _ hb)) r rest (by simpa using hx) hr1 hr2
     refine ⟨l,?_,h3⟩
     unfold more at h2 ⊢
     rw [List.foldl_cons,hadd]
     exact h2
   · have hs':σ e.2.1= !s:=by revert hs; cases σ e.2.1<;>cases s<;>simp
     have hrr:r=r0++[z]∧rest=e::q:=by
      rcases List.append_eq_append_iff.1 hx with ⟨c,p1,p2⟩ | ⟨c,p1,p2⟩
      · cases c with
        | nil=>exact ⟨by simpa using p1,by simpa using p2.symm⟩
        | cons b c=>
          exfalso
          injection p2 with p2 _
          have:=hr1 b (by rw [p1]; simp)
          rw [← p2,hs'] at this
          exact h1 this.symm
      · cases c with
        | nil=>exact ⟨by simpa using p1.symm,by simpa using p2⟩
        | cons b c=>
          exfalso
          have h2:=hr2 b (c++e::q) (by rw [p2]; simp)
          have h3:=hr b (by rw [p1]; simp)
          rw [h3] at h2
          exact h1 h2
     obtain ⟨rfl,rfl⟩:=hrr
     have hadd:(C.add e.1 (hf (σ e.2.1)))=⟨put C.fi (hf (!s)) e.1,put C.la (hf (!s)) e.1,hf (!s),e.1::C.met,C.lk⟩:=by
      unfold Ch.add
      rw [hs',if_pos hf2,if_pos hf2]
     obtain ⟨l,h2,h3⟩:=more_two σ q ⟨put C.fi (hf (!s)) e.1,put C.la (hf (!s)) e.1,hf (!s),e.1::C.met,C.lk⟩ r0 [e] z (!s) rfl hz0
      (by rw [Bool.not_not,sel_put _ _ _ _ (hf_le _) (hf_le _),if_neg (fun q=>h1 (hf_inj.1 q))]; exact hz) (by rw [sel_put _ _ _ _ (hf_le _) (hf_le _),if_pos rfl]; exact he)
      (by rw [Bool.not_not,sel_put _ _ _ _ (hf_le _) (hf_le _),if_neg (fun q=>h1 (hf_inj.1 q))]; exact hf1) ⟨[],e,rfl,by rw [sel_put _ _ _ _ (hf_le _) (hf_le _),if_pos rfl],he⟩
      (fun b hb=>by have:b=e:=by simpa using hb
                    rw [this]; exact hs') (fun b hb=>hq b (List.mem_cons_of_mem _ hb))
     refine ⟨l,?_,h3⟩
     unfold more at h2 ⊢
     rw [List.foldl_cons,hadd]
     exact h2
theorem lnk_whole (σ:ByteArray→Bool) {ss:List Sl} {All:List Mq.Hp} {s:Bool} {x y:Nat} {r rest:List Mq.Hp} (h:Zip ss σ All s x y [] r [] rest) (hA:All=r++rest) (h0:∀ e∈All,e.1≠0):Lnk σ r rest (chn σ All).over:=by
 cases hq:All with
 | nil=>
   have h1:=hA
   rw [hq] at h1
   have h2:=List.append_eq_nil_iff.1 h1.symm
   rw [h2.1,h2.2]
   exact .nil
 | cons e t=>
   have hrne:r≠[]:=by
    intro e0
    have h1:rest=[]:=by
     cases rest with
     | nil=>rfl
     | cons b t'=>exact absurd e0 (h.ne (by simp))
    rw [e0,h1,hq] at hA
    simp at hA
   obtain ⟨b,r',rfl⟩:∃ b r',r=b::r':=by
    cases r with
    | nil=>exact absurd rfl hrne
    | cons b r'=>exact ⟨b,r',rfl⟩
   rw [hq,List.cons_append] at hA
   injection hA with hb ht
   subst hb
   have hs:σ e.2.1=s:=h.su e (by simp)
   have he:e.1≠0:=h0 e (by rw [hq]; simp)
   obtain ⟨l,h2,h3⟩:=more_one σ t ⟨put (0,0) (hf s) e.1,put (0,0) (hf s) e.1,hf s,[e.1],[]⟩ [] e s rfl
    (by rw [sel_put _ _ _ _ (hf_le _) (hf_le _),if_neg (fun q=>by have:=hf_inj.1 q; revert this; cases s<;>simp)]; unfold sel; split<;>rfl)
    (by rw [sel_put _ _ _ _ (hf_le _) (hf_le _),if_pos rfl]; exact he)
    (by rw [sel_put _ _ _ _ (hf_le _) (hf_le _),if_neg (fun q=>by have:=hf_inj.1 q; revert this; cases s<;>simp)]; unfold sel; split<;>rfl)
    (by rw [sel_put _ _ _ _ (hf_le _) (hf_le _),if_pos rfl]) he (by simpa using hs) (fun b hb=>h0 b (by rw [hq]; exact List.mem_cons_of_mem _ hb)) (e::r') rest (by simpa using ht) (by simpa using h.su) h.hd
   unfold more at h2
   have e1:(chn σ (e::t)).over=(t.foldl (fun (C:Ch) (a:Mq.Hp)=>C.add a.1 (hf (σ a.2.1))) ⟨put (0,0) (hf s) e.1,put (0,0) (hf s) e.1,hf s,[e.1],[]⟩).over:=by
    unfold chn
    rw [List.foldl_cons,hs]
    have:Ch.new.add e.1 (hf s)=⟨put (0,0) (hf s) e.1,put (0,0) (hf s) e.1,hf s,[e.1],[]⟩:=by
     have hz:sel Ch.new.fi (hf s)=0:=by unfold sel Ch.new; split<;>rfl
     unfold Ch.add
     rw [if_pos hz,if_pos hz]
     rfl
    rw [this]
   rw [e1,h2]
   simpa using h3
theorem Lnk.le {σ:ByteArray→Bool} {r rest:List Mq.Hp} {l:List (Nat×Nat)} (h:Lnk σ r rest l):l.length≤rest.length:=by
 induction h with
 | nil=>simp
 | @cons r0 d t a s ls h1 _ _ _ ih=>
   have:1≤d.length:=List.length_pos_iff.2 h1
   simp only [List.length_cons,List.length_append]
   omega
theorem Lnk.none {σ:ByteArray→Bool} {r rest:List Mq.Hp} (h:Lnk σ r rest []):rest=[]:=by cases h; rfl
end Go.Proofs.YtpobbnllcoabhaaGreatDoor.Gw
namespace Go.Proofs.YtpobbnllcoabhaaGreatDoor.Gw
open Go Go.RowKit Hp K Fl Rw Hm Ar Mm Me Qs Wk Pn
set_option maxRecDepth 100000
/-! ### a map of handles to halves-/
abbrev DHg:=DataW Unit
abbrev GKey (x:Nat):Lit:=.int .u64 x
abbrev GVal (v:Int):DHg:=.lit (.int .i64 v)
def Mth (w:World) (B:Nat) (ms:List Nat):Prop:=∃ (n:Nat) (D:DHg),w.ownsMap Tryz.prog 70 (plainElem Tryz.prog 3) B n D∧n≤ms.length∧∀ x,x≤18446744073709551615→Maps.has D (GKey x)=decide (x∈ms)
theorem gkeyed:Maps.Keyed Tryz.prog 70:=Maps.int_keyed Tryz.underlying70
theorem zeroI (w:World):(zeroValue 3).run Tryz.prog w=.ok (.int .i64 0) w:=by kernel_rfl
theorem glit_u64 {x:Nat} (hx:x≤18446744073709551615):(Lit.int .u64 (x:Int)).wf=true:=by
 simp [Lit.wf,IntKind.min,IntKind.max,IntKind.signed,IntKind.bits]; omega
theorem glit_i64 {x:Nat} (hx:x≤1):(Lit.int .i64 (x:Int)).wf=true:=by
 simp [Lit.wf,IntKind.min,IntKind.max,IntKind.signed,IntKind.bits]; omega
theorem gkey {x:Nat} (hx:x≤18446744073709551615):keyOf Tryz.prog 70 (.int .u64 x)=some (GKey x):=Maps.keyOf_int_mk Tryz.underlying70 (glit_u64 hx)
theorem gkey_lit {x:Nat} (hx:x≤18446744073709551615):WideAt.IsKeyLit (GKey x):=gkeyed.key (gkey hx)
section
variable {w w':World} {B:Nat} {ms:List Nat}
theorem Mth.made (w:World):Mth (w.alloc (.map #[] 0)) w.heap.size []:=⟨0,.map [],World.ownsMap_made _ _ _ _,Nat.le_refl _,fun x _=>by simp [Maps.has_eq]⟩
theorem Mth.lt (h:Mth w B ms):B<w.heap.size:=by obtain ⟨n,D,hm,r⟩:=h; exact hm.lt
theorem Mth.only {S:Nat→Prop} (h:Mth w B ms) (ho:Only S w w') (hn:¬S B):Mth w' B ms:=by
 obtain ⟨n,D,hm,r⟩:=h
 have hlt:=hm.lt
 obtain ⟨es,clock,hb,F,hs,hD⟩:=hm
 exact ⟨n,D,⟨es,clock,(ho.block B hlt hn).trans hb,F,hs,hD⟩,r⟩
theorem Mth.no (h:Mth w B ms) {ts:List TypeId} (ht:Ty w B ts):False:=by
 obtain ⟨n,D,hm,r⟩:=h
 obtain ⟨es,clock,hb,_⟩:=hm
 obtain ⟨t,cs,hb',_⟩:=ht
 have e:=hb.symm.trans hb'
 injection e with e
 injection e
theorem Mth.look (h:Mth w B ms) {x:Nat} (hx:x≤18446744073709551615):∃ c:Int,(Instr.lookup 215 (.map (some B)) (.int .u64 x) true).run Tryz.prog w=.ok (.tuple #[.int .i64 c,.bool (decide (x∈ms))]) w:=by
 obtain ⟨n,D,hm,_,hat⟩:=h
 obtain ⟨v,ps,hrun,hv⟩:=hm.look_ok gkeyed Tryz.underlying215 (zeroI w) (plainElem_int Tryz.underlying3 (by decide)) (gkey hx)
 obtain ⟨c,rfl,_,_⟩:=plainElem_int_inv Tryz.underlying3 hv
 exact ⟨c,by rw [hrun,hat x hx]⟩
theorem wpList_mth {ops:Array Oper} {rest:List Oper} {o:Oper} {a:Act} {Q:Exit→Act→World→Prop} (hgd:o.guard=none) (m x v:Operand)
 (hop:o.op=Op.mapUpdate 215 m x v) (h:Mth w B ms) (hl:ms.length≤1000000) (y:Nat) (hy:y≤18446744073709551615) (z:Nat) (hz:z≤1)
 (hm:a.eval m=.map (some B)) (hx:a.eval x=.int .u64 y) (hv:a.eval v=.int .i64 z)
 (hK:∀ w',Mth w' B (y::ms)→Only (·=B) w w'→wpList Tryz.prog ops Q rest (a.put o.dst undef) w'):wpList Tryz.prog ops Q (o::rest) a w:=by
 obtain ⟨n,D,hM,hn,hat⟩:=h
 refine wpList_mapUpdate_own w hgd m x v 215 hop 70 3 gkeyed Tryz.underlying215 _ B n D hm hM (by unfold maxLen; omega) _ _ _ hx hv (gkey hy) (GVal z) [] (plainElem_int Tryz.underlying3 (glit_i64 hz)) ?_
 intro w' hM' hg
 refine hK w' ⟨n+1,_,hM',by simp; omega,fun u hu=>?_⟩ ((Only.refl (·=B) w).grown hg (fun z hz=>.inl (by injection hz with hz; exact hz.symm)))
 by_cases e:u=y
 · subst e
   rw [Maps.has_put_same hM.isMap (gkey_lit hu)]
   simp
 · have hne:GKey u≠GKey y:=fun h=>by
    injection h with _ h
    exact e (by omega)
   rw [Maps.has_put_other hne,hat u hu]
   simp [e]
end
/-! ### rows of links,rows of such rows-/
structure El where
 A:Option Addr
 n:Nat
 cap:Nat
def elv (x:El):List Value:=[.slice x.A x.n x.cap]
theorem elv_len (x:El):(elv x).length=1:=rfl
def lkv (p:Nat×Nat):List Value:=[.int .u64 p.1,.int .u64 p.2]
theorem lkv_len (p:Nat×Nat):(lkv p).length=2:=rfl
def nlk (l:List (Nat×Nat)) (i:Nat):Nat×Nat:=l.getD i (0,0)
def nel (l:List El) (i:Nat):El:=l.getD i ⟨none,0,0⟩
structure LkAt (w:World) (x:El) (l:List (Nat×Nat)):Prop where
 n:x.n=l.length
 ne:l≠[]
 cap:x.n≤x.cap∧x.cap≤maxLen
 at_:∃ b o cs,x.A=some ⟨b,o,none⟩∧Blk w b 227 cs∧∀ i,i<l.length→cs[o+i*2]?=some (.int .u64 (nlk l i).1)∧cs[o+i*2+1]?=some (.int .u64 (nlk l i).2)
def PlAt (w:World) (A:Option Addr) (l:List El):Prop:=l=[]∨∃ b o cs,A=some ⟨b,o,none⟩∧Blk w b 217 cs∧∀ i,i<l.length→cs[o+i]?=some (.slice (nel l i).A (nel l i).n (nel l i).cap)
abbrev PsRow (w:World) (A:Option Addr) (cap:Nat) (l:List El):Prop:=Row w 217 1 elv A cap l
abbrev LkRow (w:World) (A:Option Addr) (cap:Nat) (l:List (Nat×Nat)):Prop:=Row w 227 2 lkv A cap l
section
variable {w w':World} {x:El} {l:List (Nat×Nat)} {A:Option Addr} {cap:Nat} {es:List El}
theorem LkAt.only {S:Nat→Prop} (h:LkAt w x l) (ho:Only S w w') (hn:∀ b,In x.A b→¬S b):LkAt w' x l:=by
 obtain ⟨h1,h2,h3,b,o,cs,h4,h5,h6⟩:=h
 exact ⟨h1,h2,h3,b,o,cs,h4,h5.only ho (hn b (by rw [h4]; rfl)),h6⟩
theorem LkAt.ty (h:LkAt w x l) {b:Nat} (hb:In x.A b):Ty w b [227]:=by
 obtain ⟨h1,h2,h3,b',o,cs,h4,h5,h6⟩:=h
 rw [h4] at hb
 have:b'=b:=by simpa [In] using hb
 subst this
 exact ⟨_,cs,h5,by simp⟩
theorem PlAt.only {S:Nat→Prop} (h:PlAt w A es) (ho:Only S w w') (hn:∀ b,In A b→¬S b):PlAt w' A es:=by
 rcases h with h | ⟨b,o,cs,h1,h2,h3⟩
 · exact .inl h
 · exact .inr ⟨b,o,cs,h1,h2.only ho (hn b (by rw [h1]; rfl)),h3⟩
theorem PsRow.pl (h:PsRow w A cap es):PlAt w A es:=by
 by_cases h0:es=[]
 · exact .inl h0
 · obtain ⟨b,e,hb,hc⟩:=h.cells elv_len 0 (List.length_pos_iff.2 h0)
   obtain ⟨cs,hB⟩:=row_blk h (x:=b) (by rw [e]; rfl)
   refine .inr ⟨b,0,cs,e,hB,fun i hi=>?_⟩
   obtain ⟨b',e',_,hc'⟩:=h.cells elv_len i hi
   have:b'=b:=by rw [e] at e'; simpa using e'.symm
   subst this
   have:=(hc' 0 (by omega)).1
   rw [hB.cell] at this
   rw [Nat.zero_add,show i=i*1+0 by omega,this]
   simp [elv,nel,List.getD,hi]
theorem LkRow.at (h:LkRow w A cap l) (hl:l≠[]):LkAt w ⟨A,l.length,cap⟩ l:=by
 obtain ⟨b,e,hb,hc⟩:=h.cells lkv_len 0 (List.length_pos_iff.2 hl)
 obtain ⟨cs,hB⟩:=row_blk h (x:=b) (by rw [e]; rfl)
 refine ⟨rfl,hl,h.capLe,b,0,cs,e,hB,fun i hi=>?_⟩
 obtain ⟨b',e',_,hc'⟩:=h.cells lkv_len i hi
 have:b'=b:=by rw [e] at e'; simpa using e'.symm
 subst this
 have h0:=(hc' 0 (by omega)).1
 have h1:=(hc' 1 (by omega)).1
 rw [hB.cell] at h0 h1
 rw [Nat.zero_add]
 exact ⟨h0.trans (by simp [lkv,nlk,List.getD,hi]),h1.trans (by simp [lkv,nlk,List.getD,hi])⟩
end
inductive Each (w:World):List El→List (List (Nat×Nat))→Prop
 | nil:Each w [] []
 | cons {x:El} {l:List (Nat×Nat)} {es:List El} {ls:List (List (Nat×Nat))}:LkAt w x l→Each w es ls→Each w (x::es) (l::ls)
section
variable {w w':World} {es:List El} {ls:List (List (Nat×Nat))}
theorem Each.len (h:Each w es ls):es.length=ls.length:=by
 induction h with
 | nil=>rfl
 | cons _ _ ih=>simp [ih]
theorem Each.only {S:Nat→Prop} (h:Each w es ls) (ho:Only S w w') (hn:∀ e∈es,∀ b,In e.A b→¬S b):Each w' es ls:=by
 induction h with
 | nil=>exact .nil
 | cons a _ ih=>exact .cons (a.only ho (hn _ (by simp))) (ih fun e he=>hn e (List.mem_cons_of_mem _ he))
theorem Each.ty (h:Each w es ls):∀ e∈es,∀ b,In e.A b→Ty w b [227]:=by
 induction h with
 | nil=>simp
 | cons a _ ih=>
   intro e he b hb
   rcases List.mem_cons.1 he with rfl | he
   · exact a.ty hb
   · exact ih e he b hb
theorem Each.snoc (h:Each w es ls) {x:El} {l:List (Nat×Nat)} (hx:LkAt w x l):Each w (es++[x]) (ls++[l]):=by
 induction h with
 | nil=>exact .cons hx .nil
 | cons a _ ih=>exact .cons a ih
end
/-! ### a grow-/
structure Gr where
 worker:Int
 nx:Nat
 err:Int
 el:Nat×Nat
 nw:Nat×Nat
 num:Int
 bucket:Nat
 C:Ch
 at_:Nat
 half:Nat
 W:Wt
 pass:List (List (Nat×Nat))
 later:List (List (Nat×Nat))
structure Gl where
 f:Nat
 cv:Value
 wv:Value
 c:Nat
 B:Nat
 LA:Option Addr
 lcap:Nat
 w:Nat
 PA:Option Addr
 pcap:Nat
 ps:List El
 QA:Option Addr
 qcap:Nat
 qs:List El
def grv (a:Gl) (nx:Nat):Value:=if nx=7 then wfm 200 (ptr a.w) else wf0 104
def gnv (f nx:Nat):Value:=if nx=1 then wfm 77 (ptr f) else if nx=2 then wfm 105 (ptr f) else if nx=3 then wfm 142 (ptr f)
 else if nx=4 then wfm 180 (ptr f) else if nx=5 then wfm 195 (ptr f) else if nx=6 then wfm 196 (ptr f)
 else if nx=7 then wfm 202 (ptr f) else if nx=8 then wfm 207 (ptr f) else wf0 164
def grc (a:Gl) (G:Gr):Array Value:=#[.int .i64 G.worker,grv a G.nx,gnv a.f G.nx,.int .i64 G.err,.int .i64 G.el.1,.int .i64 G.el.2,.int .i64 G.nw.1,.int .i64 G.nw.2,.int .i64 G.num,.int .i64 G.bucket,a.cv,.int .u64 G.at_,.int .i64 G.half,a.wv,
 .slice a.PA a.ps.length a.pcap,.slice a.QA a.qs.length a.qcap]
def chc (a:Gl) (C:Ch):Array Value:=#[.int .u64 C.fi.1,.int .u64 C.fi.2,.int .u64 C.la.1,.int .u64 C.la.2,.int .i64 C.half,.map (some a.B),.slice a.LA C.lk.length a.lcap]
abbrev Own (w:World) (a:Gl) (G:Gr):Prop:=Blk w a.f 149 (grc a G)
def Fst (w:World) (c:Nat) (fi:Nat×Nat):Prop:=∃ cs,Blk w c 219 cs∧cs[0]?=some (.int .u64 fi.1)∧cs[1]?=some (.int .u64 fi.2)
structure Mid (w:World) (a:Gl) (C:Ch):Prop where
 cv:a.cv=ptr a.c
 cb:Blk w a.c 219 (chc a C)
 mt:Mth w a.B C.met
 lr:LkRow w a.LA a.lcap C.lk
 ap:∀ x∈a.ps,∀ b,In a.LA b→¬In x.A b
structure Rws (w:World) (a:Gl) (p q:List (List (Nat×Nat))) (grows:Bool):Prop where
 ps:Each w a.ps p
 qs:Each w a.qs q
 pr:grows=true→PsRow w a.PA a.pcap a.ps
 pl:PlAt w a.PA a.ps
 pc:a.ps.length≤a.pcap∧a.pcap≤maxLen
 qr:PsRow w a.QA a.qcap a.qs
 pq:∀ b,In a.PA b→(a.ps≠[]∨grows=true)→¬In a.QA b
structure GrAt (w:World) (a:Gl) (G:Gr):Prop where
 blk:Own w a G
 c4:G.nx=4→Mid w a G.C
 c5:G.nx=5→a.cv=ptr a.c∧Fst w a.c G.C.fi
 wt:G.nx=7→a.wv=ptr a.w∧WtAt w a.w G.W
 rw_:Rws w a G.pass G.later (decide (G.nx≤6))
def rfoot (a:Gl) (g:Bool) (x:Nat):Prop:=((a.ps≠[]∨g=true)∧In a.PA x)∨In a.QA x∨(∃ e∈a.ps,In e.A x)∨∃ e∈a.qs,In e.A x
def gfoot (a:Gl) (G:Gr) (x:Nat):Prop:=x=a.f∨((G.nx=4∨G.nx=5)∧x=a.c)∨(G.nx=4∧(x=a.B∨In a.LA x))∨(G.nx=7∧x=a.w)∨rfoot a (decide (G.nx≤6)) x
abbrev grL:Lay Gl Gr:=⟨Gl.f,GrAt,gfoot⟩
section
variable {w w':World} {M:Mo} {a:Gl} {G:Gr} {p q:List (List (Nat×Nat))} {g:Bool} {C:Ch}
abbrev growTypes:List TypeId:=[149,219,227,217,189]
theorem Rws.ty (h:Rws w a p q g) {x:Nat} (hx:rfoot a g x):Ty w x [227,217]:=by
 rcases hx with ⟨hg,hx⟩ | hx | ⟨e,he,hx⟩ | ⟨e,he,hx⟩
 · rcases hg with hg | hg
   · rcases h.pl with h1 | ⟨b,o,cs,h1,h2,_⟩
     · exact absurd h1 hg
     · rw [h1] at hx
       have:b=x:=by simpa [In] using hx
       subst this
       exact ⟨_,cs,h2,by simp⟩
   · exact (row_ty (h.pr hg) hx).mono (by simp)
 · exact (row_ty h.qr hx).mono (by simp)
 · exact (h.ps.ty e he x hx).mono (by simp)
 · exact (h.qs.ty e he x hx).mono (by simp)
theorem Rws.only {S:Nat→Prop} (h:Rws w a p q g) (ho:Only S w w') (hn:∀ x,rfoot a g x→¬S x):Rws w' a p q g where
 ps:=h.ps.only ho fun e he b hb=>hn b (.inr (.inr (.inl ⟨e,he,hb⟩)))
 qs:=h.qs.only ho fun e he b hb=>hn b (.inr (.inr (.inr ⟨e,he,hb⟩)))
 pr hg:=(h.pr hg).only ho fun b hb=>hn b (.inl ⟨.inr hg,hb⟩)
 pl:=by
  by_cases h0:a.ps=[]
  · exact .inl h0
  · exact h.pl.only ho fun b hb=>hn b (.inl ⟨.inl h0,hb⟩)
 pc:=h.pc
 qr:=h.qr.only ho fun b hb=>hn b (.inr (.inl hb))
 pq:=h.pq
theorem Mid.only {S:Nat→Prop} (h:Mid w a C) (ho:Only S w w') (h1:¬S a.c) (h2:¬S a.B) (h3:∀ b,In a.LA b→¬S b):Mid w' a C:=
 ⟨h.cv,h.cb.only ho h1,h.mt.only ho h2,h.lr.only ho h3,h.ap⟩
theorem GrAt.ty (h:GrAt w a G) {x:Nat} (hx:gfoot a G x):Ty w x growTypes∨∃ ms,Mth w x ms:=by
 rcases hx with rfl | ⟨hn,rfl⟩ | ⟨hn,hx⟩ | ⟨hn,rfl⟩ | hx
 · exact .inl ((blk_ty h.blk).mono (by simp))
 · rcases hn with hn | hn
   · exact .inl ((blk_ty (h.c4 hn).cb).mono (by simp))
   · obtain ⟨cs,hb,_⟩:=(h.c5 hn).2
     exact .inl ((blk_ty hb).mono (by simp))
 · rcases hx with rfl | hx
   · exact .inr ⟨_,(h.c4 hn).mt⟩
   · exact .inl ((row_ty (h.c4 hn).lr hx).mono (by simp))
 · exact .inl ((blk_ty (h.wt hn).2).mono (by simp))
 · exact .inl ((h.rw_.ty hx).mono (by simp))
theorem GrAt.lt (h:GrAt w a G) {x:Nat} (hx:gfoot a G x):x<w.heap.size:=by
 rcases h.ty hx with q | ⟨ms,q⟩
 · exact q.lt
 · exact q.lt
theorem GrAt.far (h:GrAt w a G) (hM:MemAt w M) {x:Nat} (hx:gfoot a G x):¬mfoot M x:=fun hm=>by
 rcases h.ty hx with q | ⟨ms,q⟩
 · exact (hM.ty hm).apart q (by decide)
 · exact q.no (hM.ty hm)
theorem GrAt.only {S:Nat→Prop} (h:GrAt w a G) (ho:Only S w w') (hn:∀ x,gfoot a G x→¬S x):GrAt w' a G where
 blk:=h.blk.only ho (hn _ (.inl rfl))
 c4 q:=(h.c4 q).only ho (hn _ (.inr (.inl ⟨.inl q,rfl⟩))) (hn _ (.inr (.inr (.inl ⟨q,.inl rfl⟩)))) (fun b hb=>hn _ (.inr (.inr (.inl ⟨q,.inr hb⟩))))
 c5 q:=by
  obtain ⟨h1,cs,h2,h3⟩:=h.c5 q
  exact ⟨h1,cs,h2.only ho (hn _ (.inr (.inl ⟨.inr q,rfl⟩))),h3⟩
 wt q:=⟨(h.wt q).1,(h.wt q).2.only ho (hn _ (.inr (.inr (.inr (.inl ⟨q,rfl⟩)))))⟩
 rw_:=h.rw_.only ho fun x hx=>hn x (.inr (.inr (.inr (.inr hx))))
theorem GrAt.below (h:GrAt w a G) (hb:Below w.heap.size w w'):GrAt w' a G:=h.only (Only.ofBelow hb (fun _=>False)) (by simp)
theorem own_hd (h:Own w a G):w.cell? ⟨a.f,0,none⟩=some (.int .i64 G.worker)∧w.cell? ⟨a.f,1,none⟩=some (grv a G.nx)∧w.cell? ⟨a.f,2,none⟩=some (gnv a.f G.nx)∧w.cell? ⟨a.f,3,none⟩=some (.int .i64 G.err)∧
 w.cell? ⟨a.f,4,none⟩=some (.int .i64 G.el.1)∧w.cell? ⟨a.f,5,none⟩=some (.int .i64 G.el.2)∧w.cell? ⟨a.f,6,none⟩=some (.int .i64 G.nw.1)∧w.cell? ⟨a.f,7,none⟩=some (.int .i64 G.nw.2)∧
 w.cell? ⟨a.f,8,none⟩=some (.int .i64 G.num)∧w.cell? ⟨a.f,9,none⟩=some (.int .i64 G.bucket)∧w.cell? ⟨a.f,10,none⟩=some a.cv∧w.cell? ⟨a.f,11,none⟩=some (.int .u64 G.at_)∧
 w.cell? ⟨a.f,12,none⟩=some (.int .i64 G.half)∧w.cell? ⟨a.f,13,none⟩=some a.wv∧w.cell? ⟨a.f,14,none⟩=some (.slice a.PA a.ps.length a.pcap)∧w.cell? ⟨a.f,15,none⟩=some (.slice a.QA a.qs.length a.qcap):=
 ⟨h.cell 0,h.cell 1,h.cell 2,h.cell 3,h.cell 4,h.cell 5,h.cell 6,h.cell 7,h.cell 8,h.cell 9,h.cell 10,h.cell 11,h.cell 12,h.cell 13,h.cell 14,h.cell 15⟩
theorem Rws.self (h:Rws w a p q g) (hf:Own w a G):∀ x,rfoot a g x→x≠a.f:=by
 rintro x hx rfl
 exact (h.ty hx).apart (blk_ty hf) (by decide)
theorem Rws.chain (h:Rws w a p q g) {c:Nat} {cs:Array Value} (hc:Blk w c 219 cs):∀ x,rfoot a g x→x≠c:=by
 rintro x hx rfl
 exact (h.ty hx).apart (blk_ty hc) (by decide)
end
theorem info_link:(Tryz.prog.info? 227).map (fun i=>(i.zero,i.size,i.bytes))=some (some (.agg #[.int .u64 0,.int .u64 0]),2,16):=by kernel_rfl
theorem info_row:(Tryz.prog.info? 217).map (fun i=>(i.zero,i.size,i.bytes))=some (some (.slice none 0 0),1,24):=by kernel_rfl
/-! ### its steps as plain data-/
def half1 (h:Nat) (fi:Nat×Nat):Nat:=if h=0∧fi.1=0 then 1 else h
def half2 (h:Nat) (fi:Nat×Nat):Nat:=if half1 h fi=1∧fi.2=0 then 2 else half1 h fi
def toStore (G:Gr):Gr:=
 if half2 G.half G.C.fi<2 then {G with half:=half2 G.half G.C.fi,nx:=5} else {G with half:=half2 G.half G.C.fi,bucket:=G.bucket+1,nx:=if G.bucket+1=G.el.1 then 6 else 3}
def endChain (G:Gr):Gr:=toStore {G with pass:=if G.C.over=[] then G.pass else G.pass++[G.C.over],half:=0}
def comeTo (G:Gr) (x:Nat):Gr:=if x=0 then endChain G else {G with at_:=x,nx:=4}
def waitNew (G:Gr):Gr:={G with W:=⟨G.worker,0,0,0⟩,nx:=7}
def hfs (G:Gr) (s:Int):Nat:=(FM.bucket s G.nw.1 / G.el.1).toNat
def gstep (L:Lm) (G:Gr):Lm×Gr:=
 if G.nx=1 then (L,{G with el:=now L.xs L.ds,nx:=2})
 else if G.nx=2 then
  (if FM.power ((2*G.el.1:Nat):Int)=true∧L.xs.length+2*G.el.1≤1048576 then
    ({L with xs:=L.xs++List.replicate (2*G.el.1) 0,ds:=L.ds++[(2*G.el.1,L.xs.length)]},{G with num:=L.ds.length,err:=0,nw:=(2*G.el.1,L.xs.length),nx:=3})
  else (L,{G with num:= -1,err:=if FM.power ((2*G.el.1:Nat):Int)=true then 2 else 5,nx:=9}))
 else if G.nx=3 then (L,comeTo {G with C:=.new} (Cl.nth L.xs (G.el.2+G.bucket)).toNat)
 else if G.nx=4 then
  (L,comeTo {G with C:=G.C.add G.at_ (hfs G (at' L.ss ((G.at_-1) % 65536)).nd.sum)} (at' L.ss ((G.at_-1) % 65536)).nd.next.toNat)
 else if G.nx=5 then ({L with xs:=L.xs.set (G.nw.2+(G.bucket+G.half*G.el.1)) ((sel G.C.fi G.half:Nat):Int)},toStore {G with half:=G.half+1})
 else if G.nx=6 then ({L with xs:=L.xs.set 1 G.num},waitNew G)
 else if G.nx=7 then ({L with xs:=(wstep L.k.toNat L.xs L.hs G.W).1,hs:=(wstep L.k.toNat L.xs L.hs G.W).2.1},
  {G with W:=(wstep L.k.toNat L.xs L.hs G.W).2.2,nx:=if G.W.at_=3 then (if G.pass=[] then 9 else 8) else 7})
 else match G.pass with
  | []=>(L,G)
  | l::t=>
    ({L with ss:=Pu.lnk L.ss (nlk l 0).1 (nlk l 0).2},
      if t=[] then waitNew {G with pass:=if 1<l.length then G.later++[l.drop 1] else G.later,later:=[]} else {G with pass:=t,later:=if 1<l.length then G.later++[l.drop 1] else G.later})
def gready (L:Lm) (G:Gr):Bool:=if G.nx=7 then readyB L.xs L.hs G.W else true
def gdone (L:Lm) (G:Gr):Bool:=
 if G.nx=2 then !decide (FM.power ((2*G.el.1:Nat):Int)=true∧L.xs.length+2*G.el.1≤1048576) else if G.nx=7 then decide (G.W.at_=3∧G.pass=[]) else decide (9≤G.nx)
end Go.Proofs.YtpobbnllcoabhaaGreatDoor.Gw
namespace Go.Proofs.YtpobbnllcoabhaaGreatDoor.Gw
open Go Go.RowKit Hp K Fl Rw Hm Ar Mm Me Qs Wk Pn
set_option maxRecDepth 100000
section
variable {w w':World} {a:Gl} {C:Ch}
theorem chain_new (w:World):Calls Tryz.prog 165 #[] w fun e w'=>∃ c B,e=.returned (ptr c)∧Blk w' c 219 #[.int .u64 0,.int .u64 0,.int .u64 0,.int .u64 0,.int .i64 0,.map (some B),.slice none 0 0]∧Mth w' B []∧
 w.heap.size≤B∧w.heap.size≤c∧Below w.heap.size w w':=by
 have hmm:=@run_makeMap Tryz.prog
 go_enter Tryz.func165,Tryz.ntmps165
 go_wp2_with fail
 go_ret
 refine ⟨_,_,rfl,by simpa using Blk.made (w.alloc (.map #[] 0)) _ _,?_,Nat.le_refl _,by simp,((Below.refl _ _).alloc (Nat.le_refl _) _).alloc (by simp) _⟩
 exact (Mth.made w).only ((Only.refl (fun _=>False) _).alloc _) (by simp)
theorem met_any (h:Mid w a C) {x:Nat} (hx:x≤18446744073709551615):Calls Tryz.prog 178 #[ptr a.c,.int .u64 x] w fun e w'=>e=.returned (.bool (decide (x∈C.met)))∧w=w':=by
 obtain ⟨z,hl⟩:=h.mt.look hx
 have c5:w.cell? ⟨a.c,5,none⟩=some (.map (some a.B)):=h.cb.cell 5
 generalize decide (x∈C.met)=b at*
 clear h
 go_enter Tryz.func178,Tryz.ntmps178
 go_wp2
 go_ret
 exact ⟨rfl,rfl⟩
def Mids (w:World) (a:Gl) (C':Ch) (w':World):Prop:=∃ LA lcap,Mid w' {a with LA:=LA,lcap:=lcap} C'∧(∀ b,In LA b→In a.LA b∨w.heap.size≤b)∧Only (fun x=>x=a.c∨x=a.B∨In a.LA x) w w'
theorem hd_chain (h:Blk w a.c 219 (chc a C)):w.cell? ⟨a.c,0,none⟩=some (.int .u64 C.fi.1)∧w.cell? ⟨a.c,1,none⟩=some (.int .u64 C.fi.2)∧w.cell? ⟨a.c,2,none⟩=some (.int .u64 C.la.1)∧w.cell? ⟨a.c,3,none⟩=some (.int .u64 C.la.2)∧
 w.cell? ⟨a.c,4,none⟩=some (.int .i64 C.half)∧w.cell? ⟨a.c,5,none⟩=some (.map (some a.B))∧w.cell? ⟨a.c,6,none⟩=some (.slice a.LA C.lk.length a.lcap):=
 ⟨h.cell 0,h.cell 1,h.cell 2,h.cell 3,h.cell 4,h.cell 5,h.cell 6⟩
theorem Mid.c_B (h:Mid w a C):a.B≠a.c:=fun e=>h.mt.no (by rw [e]; exact blk_ty h.cb)
theorem Mid.c_LA (h:Mid w a C) {b:Nat} (hb:In a.LA b):b≠a.c∧b≠a.B:=by
 refine ⟨fun e=>?_,fun e=>h.mt.no (by rw [← e]; exact row_ty h.lr hb)⟩
 subst e
 exact (row_ty h.lr hb).apart (blk_ty h.cb) (by decide)
theorem Mid.turned {w1:World} {C1:Ch} {y:Nat} (h:Mid w a C) (hb:Blk w1 a.c 219 (chc a C1)) (ho:Only (·=a.c) w w1) (em:C1.met=y::C.met) (el:C1.lk=C.lk):∀ w2,Mth w2 a.B (y::C.met)→Only (·=a.B) w1 w2→Mids w a C1 w2:=by
 intro w2 hm ho2
 refine ⟨a.LA,a.lcap,⟨h.cv,hb.only ho2 h.c_B.symm,by rw [em]; exact hm,?_,h.ap⟩,fun b hb=>.inl hb,(ho.mono (fun x _ q=>.inl q)).trans' ho2 (fun x _ q=>.inr (.inl q))⟩
 rw [el]
 exact (h.lr.only ho (fun b hb=>(h.c_LA hb).1)).only ho2 (fun b hb=>(h.c_LA hb).2)
theorem Mid.linked {w2 w3:World} {C1:Ch} {y:Nat} {A2:Option Addr} {cap2:Nat} (h:Mid w a C) (hlt:∀ e∈a.ps,∀ b,In e.A b→b<w.heap.size) (hR:LkRow w2 A2 cap2 C1.lk) (hO:Only (In a.LA) w w2) (hA:∀ b,In A2 b→In a.LA b∨w.heap.size≤b)
 (hb:Blk w3 a.c 219 (chc {a with LA:=A2,lcap:=cap2} C1)) (ho:Only (·=a.c) w2 w3) (em:C1.met=y::C.met):∀ w4,Mth w4 a.B (y::C.met)→Only (·=a.B) w3 w4→Mids w a C1 w4:=by
 intro w4 hm ho4
 have hc2:=h.cb.only hO (fun q=>(h.c_LA q).1 rfl)
 have hm2:=h.mt.only hO (fun q=>(h.c_LA q).2 rfl)
 have h1:∀ b,In A2 b→b≠a.c∧b≠a.B:=fun b hb=>⟨fun e=>(row_ty hR hb).apart (e▸blk_ty hc2:Ty w2 b [219]) (by decide),fun e=>hm2.no (e▸row_ty hR hb:Ty w2 a.B [227])⟩
 refine ⟨A2,cap2,⟨h.cv,hb.only ho4 h.c_B.symm,by rw [em]; exact hm,(hR.only ho (fun b hb=>(h1 b hb).1)).only ho4 (fun b hb=>(h1 b hb).2),fun e he b hb hx=>?_⟩,hA,?_⟩
 · rcases hA b hb with q | q
   · exact h.ap e he b q hx
   · have:=hlt e he b hx
     omega
 · exact ((hO.mono (fun x _ q=>(.inr (.inr q):x=a.c∨x=a.B∨In a.LA x))).trans' ho (fun x _ q=>.inl q)).trans' ho4 (fun x _ q=>.inr (.inl q))
theorem only3 {c:Nat} (w:World) (i j k:Nat) (u v y:Value):Only (·=c) w (((w.setCell ⟨c,i,none⟩ u).setCell ⟨c,j,none⟩ v).setCell ⟨c,k,none⟩ y):=
 (((Only.refl (·=c) w).setCell (p:=⟨c,i,none⟩) (.inl rfl) _).setCell (p:=⟨c,j,none⟩) (.inl rfl) _).setCell (p:=⟨c,k,none⟩) (.inl rfl) _
theorem only2 {c:Nat} (w:World) (i j:Nat) (u v:Value):Only (·=c) w ((w.setCell ⟨c,i,none⟩ u).setCell ⟨c,j,none⟩ v):=
 ((Only.refl (·=c) w).setCell (p:=⟨c,i,none⟩) (.inl rfl) _).setCell (p:=⟨c,j,none⟩) (.inl rfl) _
set_option maxHeartbeats 2000000 in
theorem add_first0 (h:Mid w a C) {x:Nat} (hx:x≤18446744073709551615) (hm:C.met.length≤1000000) (h0:C.fi.1=0):Calls Tryz.prog 190 #[ptr a.c,.int .u64 x,.int .i64 0] w fun e w'=>e=.returned (.tuple #[])∧Mids w a (C.add x 0) w':=by
 obtain ⟨k0,k1,k2,k3,k4,k5,k6⟩:=hd_chain h.cb
 have z0:=h.cb.frozen 0
 have z2:=h.cb.frozen 2
 have z4:=h.cb.frozen 4
 have hO:=Lib.hid (fun u v y=>only3 (c:=a.c) w 0 2 4 u v y)
 have e:C.add x 0=⟨(x,C.fi.2),(x,C.la.2),0,x::C.met,C.lk⟩:=by
  unfold Ch.add sel put
  simp [h0]
 rw [e]
 have hE:=Lib.hid (h.turned (C1:=⟨(x,C.fi.2),(x,C.la.2),0,x::C.met,C.lk⟩) (y:=x) (((h.cb.store 0 (.int .u64 x)).store 2 (.int .u64 x)).store 4 (.int .i64 0)) (hO.out _ _ _) rfl rfl)
 rw [h0] at k0
 have hB2:=Lib.hid h.c_B
 have H:=Lib.hid h.mt
 clear h e
 go_enter Tryz.func190,Tryz.ntmps190
 go_wp2_with (at_mapUpdate
              refine wpList_mth (B:=a.B) (ms:=C.met) rfl (.tmp 57) (.tmp 58) (.tmp 59) rfl (H.out.only (hO.out _ _ _) hB2.out) hm x hx 0 (by omega) rfl rfl rfl ?_
              intro w2 hM2 hO2)
 go_end0
 exact ⟨rfl,hE.out w2 hM2 hO2⟩
set_option maxHeartbeats 2000000 in
theorem add_next0 (h:Mid w a C) {x:Nat} (hx:x≤18446744073709551615) (hm:C.met.length≤1000000) (h0:C.fi.1≠0) (hh:C.half=0):Calls Tryz.prog 190 #[ptr a.c,.int .u64 x,.int .i64 0] w fun e w'=>e=.returned (.tuple #[])∧Mids w a (C.add x 0) w':=by
 obtain ⟨k0,k1,k2,k3,k4,k5,k6⟩:=hd_chain h.cb
 have z2:=h.cb.frozen 2
 have z4:=h.cb.frozen 4
 have hO:=Lib.hid (fun u v=>only2 (c:=a.c) w 2 4 u v)
 have e:C.add x 0=⟨C.fi,(x,C.la.2),0,x::C.met,C.lk⟩:=by
  unfold Ch.add sel put
  simp [h0,hh]
 rw [e]
 have hE:=Lib.hid (h.turned (C1:=⟨C.fi,(x,C.la.2),0,x::C.met,C.lk⟩) (y:=x) ((h.cb.store 2 (.int .u64 x)).store 4 (.int .i64 0)) (hO.out _ _) rfl rfl)
 rw [hh] at k4
 have q0:((C.fi.1:Int)==0)=false:=by simp; omega
 have hB2:=Lib.hid h.c_B
 have H:=Lib.hid h.mt
 clear h e hh h0
 generalize C.fi.1=fi0 at*
 go_enter Tryz.func190,Tryz.ntmps190
 go_wp2_with (at_mapUpdate
              refine wpList_mth (B:=a.B) (ms:=C.met) rfl (.tmp 57) (.tmp 58) (.tmp 59) rfl (H.out.only (hO.out _ _) hB2.out) hm x hx 0 (by omega) rfl rfl rfl ?_
              intro w2 hM2 hO2)
 go_end0
 exact ⟨rfl,hE.out w2 hM2 hO2⟩
set_option maxHeartbeats 2000000 in
theorem add_link0 (h:Mid w a C) {x:Nat} (hx:x≤18446744073709551615) (hm:C.met.length≤1000000) (h0:C.fi.1≠0) (hh:C.half=1) (hl:C.lk.length≤100000) (hlt:∀ e∈a.ps,∀ b,In e.A b→b<w.heap.size):Calls Tryz.prog 190 #[ptr a.c,.int .u64 x,.int .i64 0] w fun e w'=>e=.returned (.tuple #[])∧Mids w a (C.add x 0) w':=by
 obtain ⟨k0,k1,k2,k3,k4,k5,k6⟩:=hd_chain h.cb
 have z2:=h.cb.frozen 2
 have z4:=h.cb.frozen 4
 have z6:=h.cb.frozen 6
 have e:C.add x 0=⟨C.fi,(x,C.la.2),0,x::C.met,C.lk++[(C.la.1,x)]⟩:=by
  unfold Ch.add sel put
  simp [h0,hh]
 rw [e]
 rw [hh] at k4
 have q0:((C.fi.1:Int)==0)=false:=by simp; omega
 have H:=Lib.hid h
 have lc:a.c<w.drew.heap.size:=h.cb.lt
 obtain ⟨i0,hi0,hz0,hz1,hz2⟩:=info_parts info_link
 generalize hln:C.lk.length=n at*
 replace hln:=Lib.hid hln
 generalize hll:C.la.1=l0 at*
 replace hll:=Lib.hid hll
 clear h e hh h0
 generalize C.fi.1=fi0 at*
 go_enter Tryz.func190,Tryz.ntmps190
 go_upto_region 3 with (fail)
 have r0:w.drew.cell? ⟨a.c,6,none⟩=some (.slice a.LA n a.lcap)∧w.drew.cell? ⟨a.c,2,none⟩=some (.int .u64 l0):=⟨k6,k2⟩
 refine wp_region_noPanic ?_
 refine Rn.wp_region_N (fun w'=>w'.cell? ⟨a.c,6,none⟩=some (.slice a.LA n a.lcap)∧w'.cell? ⟨a.c,2,none⟩=some (.int .u64 l0)) (fun j=>j==15) (by kernel_rfl) ?_
 refine Rn.wpN_take0 (i:=0) (oi:=⟨some 27,_,_,_,_,_⟩) (v:=ptr a.c) (by rfl) (by kernel_rfl) (by kernel_rfl) (by kernel_rfl) rfl (fun _ _ _ h=>h.elim) (Or.inl ⟨by rfl,by intro w' _; go_simp⟩) r0 ?_
 try simp only [Act.put,List.setIfInBounds_toArray,List.set_cons_zero,List.set_cons_succ]
 refine Rn.wpN_take0 (i:=1) (oi:=⟨some 28,_,_,_,_,_⟩) (v:=ptr a.c) (by rfl) (by kernel_rfl) (by kernel_rfl) (by kernel_rfl) rfl (fun _ _ _ h=>h.elim) (Or.inl ⟨by rfl,by intro w' _; go_simp⟩) r0 ?_
 try simp only [Act.put,List.setIfInBounds_toArray,List.set_cons_zero,List.set_cons_succ]
 refine Rn.wpN_take0 (i:=2) (oi:=⟨some 29,_,_,_,_,_⟩) (v:=.pointer (some ⟨a.c,0,none⟩)) (by rfl) (by kernel_rfl) (by kernel_rfl) (by kernel_rfl) rfl (fun _ _ _ h=>h.elim) (Or.inl ⟨by rfl,by intro w' _; go_simp⟩) r0 ?_
 try simp only [Act.put,List.setIfInBounds_toArray,List.set_cons_zero,List.set_cons_succ]
 refine Rn.wpN_take0 (i:=3) (oi:=⟨some 30,_,_,_,_,_⟩) (v:=.pointer (some ⟨a.c,6,none⟩)) (by rfl) (by kernel_rfl) (by kernel_rfl) (by kernel_rfl) rfl (fun _ _ _ h=>h.elim) (Or.inl ⟨by rfl,by intro w' _; go_simp⟩) r0 ?_
 try simp only [Act.put,List.setIfInBounds_toArray,List.set_cons_zero,List.set_cons_succ]
 refine Rn.wpN_take (i:=4) (oi:=⟨some 31,_,_,_,_,_⟩) (v:=.slice a.LA n a.lcap) (by rfl) (by kernel_rfl) (by kernel_rfl) (by kernel_rfl) rfl (by intro j hj; rw [show j=15 from by simpa using hj]; kernel_rfl) (fun _ _ _ h=>h.elim) (Or.inl ⟨by rfl,by intro w' hSw; go_simp⟩) r0 ?_
 try simp only [Act.put,List.setIfInBounds_toArray,List.set_cons_zero,List.set_cons_succ]
 refine Rn.wpN_take0 (i:=5) (oi:=⟨some 32,_,_,_,_,_⟩) (v:=ptr a.c) (by rfl) (by kernel_rfl) (by kernel_rfl) (by kernel_rfl) rfl (fun _ _ _ h=>h.elim) (Or.inl ⟨by rfl,by intro w' _; go_simp⟩) r0 ?_
 try simp only [Act.put,List.setIfInBounds_toArray,List.set_cons_zero,List.set_cons_succ]
 refine Rn.wpN_take0 (i:=6) (oi:=⟨some 33,_,_,_,_,_⟩) (v:=.int .i64 0) (by rfl) (by kernel_rfl) (by kernel_rfl) (by kernel_rfl) rfl (fun _ _ _ h=>h.elim) (Or.inl ⟨by rfl,by intro w' _; go_simp⟩) r0 ?_
 try simp only [Act.put,List.setIfInBounds_toArray,List.set_cons_zero,List.set_cons_succ]
 refine Rn.wpN_take0 (i:=7) (oi:=⟨some 34,_,_,_,_,_⟩) (v:=.pointer (some ⟨a.c,0,none⟩)) (by rfl) (by kernel_rfl) (by kernel_rfl) (by kernel_rfl) rfl (fun _ _ _ h=>h.elim) (Or.inl ⟨by rfl,by intro w' _; go_simp⟩) r0 ?_
 try simp only [Act.put,List.setIfInBounds_toArray,List.set_cons_zero,List.set_cons_succ]
 refine Rn.wpN_take0 (i:=8) (oi:=⟨some 35,_,_,_,_,_⟩) (v:=.pointer (some ⟨a.c,2,none⟩)) (by rfl) (by kernel_rfl) (by kernel_rfl) (by kernel_rfl) rfl (fun _ _ _ h=>h.elim) (Or.inl ⟨by rfl,by intro w' _; go_simp⟩) r0 ?_
 try simp only [Act.put,List.setIfInBounds_toArray,List.set_cons_zero,List.set_cons_succ]
 refine Rn.wpN_take0 (i:=9) (oi:=⟨some 36,_,_,_,_,_⟩) (v:=.pointer (some ⟨a.c,2,none⟩)) (by rfl) (by kernel_rfl) (by kernel_rfl) (by kernel_rfl) rfl (fun _ _ _ h=>h.elim) (Or.inl ⟨by rfl,by intro w' _; go_simp⟩) r0 ?_
 try simp only [Act.put,List.setIfInBounds_toArray,List.set_cons_zero,List.set_cons_succ]
 refine Rn.wpN_take (i:=10) (oi:=⟨some 37,_,_,_,_,_⟩) (v:=.int .u64 l0) (by rfl) (by kernel_rfl) (by kernel_rfl) (by kernel_rfl) rfl (by intro j hj; rw [show j=15 from by simpa using hj]; kernel_rfl) (fun _ _ _ h=>h.elim) (Or.inl ⟨by rfl,by intro w' hSw; go_simp⟩) r0 ?_
 try simp only [Act.put,List.setIfInBounds_toArray,List.set_cons_zero,List.set_cons_succ]
 refine Rn.wpN_take0 (i:=11) (oi:=⟨some 38,_,_,_,_,_⟩) (v:=.int .u64 x) (by rfl) (by kernel_rfl) (by kernel_rfl) (by kernel_rfl) rfl (fun _ _ _ h=>h.elim) (Or.inl ⟨by rfl,by intro w' _; go_simp⟩) r0 ?_
 try simp only [Act.put,List.setIfInBounds_toArray,List.set_cons_zero,List.set_cons_succ]
 refine Rn.wpN_take0 (i:=12) (oi:=⟨some 39,_,_,_,_,_⟩) (v:=.agg #[.int .u64 l0,.int .u64 x]) (by rfl) (by kernel_rfl) (by kernel_rfl) (by kernel_rfl) rfl (fun _ _ _ h=>h.elim) (Or.inl ⟨by rfl,by intro w' _; go_simp⟩) r0 ?_
 try simp only [Act.put,List.setIfInBounds_toArray,List.set_cons_zero,List.set_cons_succ]
 refine Rn.wpN_one (i:=13) (o:=⟨some 40,_,_,_,_,_⟩) (by kernel_rfl) (by rfl) rfl ?_
 intro K hK
 go_simp
 have r1:(w.drew.alloc (.cells #[.int .u64 l0,.int .u64 x] 227)).cell? ⟨a.c,6,none⟩=some (.slice a.LA n a.lcap)∧(w.drew.alloc (.cells #[.int .u64 l0,.int .u64 x] 227)).cell? ⟨a.c,2,none⟩=some (.int .u64 l0):=
  ⟨(Only.cell ((Only.refl (fun _=>False) w.drew).alloc _) (p:=⟨a.c,6,none⟩) lc (by simp)).trans k6,(Only.cell ((Only.refl (fun _=>False) w.drew).alloc _) (p:=⟨a.c,2,none⟩) lc (by simp)).trans k2⟩
 refine hK _ _ r1 ?_
 clear hK
 try simp only [Act.put,List.setIfInBounds_toArray,List.set_cons_zero,List.set_cons_succ]
 have hL1:LkRow (w.drew.alloc (.cells #[.int .u64 l0,.int .u64 x] 227)) a.LA a.lcap C.lk:=H.out.lr.only (((Only.refl (fun _=>False) w).drew).alloc _) (by simp)
 have hN1:=Blk.made w.drew 227 #[.int .u64 l0,.int .u64 x]
 obtain ⟨A2,cap2,w2,hrun,hR2,hO2,hA2⟩:=run_one (P:=Tryz.prog) (w.drew.alloc (.cells #[.int .u64 l0,.int .u64 x] 227)) 217 217 227 i0 _ 2 16 Tryz.underlying217 hi0 hz0 hz1 hz2 rfl (by omega) lkv lkv_len
  (by intro x u hu; simp [lkv] at hu; rcases hu with rfl | rfl<;>rfl) hln.out hL1 (l0,x) ⟨w.drew.heap.size,0,none⟩ 1 (by
    intro j u hu
    rw [Addr.add_lit,Nat.zero_add,hN1.cell]
    simpa [lkv] using hu) (by simp only [maxLen]; omega) (by omega)
 refine Rn.wpN_one (i:=14) (o:=⟨some 41,_,_,_,_,_⟩) (by kernel_rfl) (by rfl) rfl ?_
 intro K hK
 refine step_app rfl (.tmp 31) (.tmp 40) 217 rfl (.slice a.LA n a.lcap) (.slice (some ⟨w.drew.heap.size,0,none⟩) 1 1) rfl rfl hrun ?_
 have hc2:Blk w2 a.c 219 (chc a C):=(H.out.cb.only (((Only.refl (fun _=>False) w).drew).alloc _) (by simp)).only hO2 (fun q=>(H.out.c_LA q).1 rfl)
 have p6:=hc2.cell 6
 have p2:=hc2.cell 2
 have p4:=hc2.cell 4
 have p5:=hc2.cell 5
 have hcc:chc a C=#[.int .u64 C.fi.1,.int .u64 C.fi.2,.int .u64 C.la.1,.int .u64 C.la.2,.int .i64 C.half,.map (some a.B),.slice a.LA n a.lcap]:=by unfold chc; rw [hln.out]
 rw [hcc] at p6 p2 p4 p5
 simp only [List.getElem?_toArray,List.getElem?_cons_succ,List.getElem?_cons_zero,hll.out] at p6 p2 p4 p5
 refine hK _ _ ⟨p6,p2⟩ ?_
 clear hK
 try simp only [Act.put,List.setIfInBounds_toArray,List.set_cons_zero,List.set_cons_succ]
 refine Rn.wpN_tail 15 (by rfl) (by kernel_rfl) (by rfl) ?_
 dsimp only [List.drop]
 have hO02:Only (In a.LA) w w2:=(((Only.refl (In a.LA) w).drew).alloc _).trans' hO2 (fun x _ q=>q)
 have y6:=hc2.frozen 6
 have y2:=hc2.frozen 2
 have y4:=hc2.frozen 4
 have hO3:=Lib.hid (fun u v y=>only3 (c:=a.c) w2 6 2 4 u v y)
 have hE:=Lib.hid (H.out.linked (C1:=⟨C.fi,(x,C.la.2),0,x::C.met,C.lk++[(l0,x)]⟩) (y:=x) hlt hR2 hO02 (fun b hb=>by
  rcases hA2 b hb with q | q
  · exact .inl q
  · refine .inr (Nat.le_trans ?_ q)
    simp) (by
  have hb:=((hc2.store 6 (.slice A2 ((n+1:Nat)) cap2)).store 2 (.int .u64 x)).store 4 (.int .i64 0)
  rw [hcc] at hb
  simp only [chc,List.length_append,List.length_singleton,hln.out]
  exact hb) (hO3.out _ _ _) rfl)
 have hm2:=Lib.hid (H.out.mt.only hO02 (fun q=>(H.out.c_LA q).2 rfl))
 have hB2:=Lib.hid H.out.c_B
 clear k0 k1 k2 k3 k4 k5 k6 z2 z4 z6 r0 r1 hL1 hN1 hrun hR2 hO2 hA2 hcc hO02 hc2 hlt
 go_wp2_with fail
 refine NoPanic.normal ?_
 go_wp2_with (at_mapUpdate
              refine wpList_mth (B:=a.B) (ms:=C.met) rfl (.tmp 57) (.tmp 58) (.tmp 59) rfl (hm2.out.only (hO3.out _ _ _) hB2.out) hm x hx 0 (by omega) rfl rfl rfl ?_
              intro w5 hM5 hO5)
 go_end0
 exact ⟨rfl,hE.out w5 hM5 hO5⟩
set_option maxHeartbeats 2000000 in
theorem add_first1 (h:Mid w a C) {x:Nat} (hx:x≤18446744073709551615) (hm:C.met.length≤1000000) (h0:C.fi.2=0):Calls Tryz.prog 190 #[ptr a.c,.int .u64 x,.int .i64 1] w fun e w'=>e=.returned (.tuple #[])∧Mids w a (C.add x 1) w':=by
 obtain ⟨k0,k1,k2,k3,k4,k5,k6⟩:=hd_chain h.cb
 have z0:=h.cb.frozen 1
 have z2:=h.cb.frozen 3
 have z4:=h.cb.frozen 4
 have hO:=Lib.hid (fun u v y=>only3 (c:=a.c) w 1 3 4 u v y)
 have e:C.add x 1=⟨(C.fi.1,x),(C.la.1,x),1,x::C.met,C.lk⟩:=by
  unfold Ch.add sel put
  simp [h0]
 rw [e]
 have hE:=Lib.hid (h.turned (C1:=⟨(C.fi.1,x),(C.la.1,x),1,x::C.met,C.lk⟩) (y:=x) (((h.cb.store 1 (.int .u64 x)).store 3 (.int .u64 x)).store 4 (.int .i64 1)) (hO.out _ _ _) rfl rfl)
 rw [h0] at k1
 have hB2:=Lib.hid h.c_B
 have H:=Lib.hid h.mt
 clear h e
 go_enter Tryz.func190,Tryz.ntmps190
 go_wp2_with (at_mapUpdate
              refine wpList_mth (B:=a.B) (ms:=C.met) rfl (.tmp 57) (.tmp 58) (.tmp 59) rfl (H.out.only (hO.out _ _ _) hB2.out) hm x hx 1 (by omega) rfl rfl rfl ?_
              intro w2 hM2 hO2)
 go_end0
 exact ⟨rfl,hE.out w2 hM2 hO2⟩
set_option maxHeartbeats 2000000 in
theorem add_next1 (h:Mid w a C) {x:Nat} (hx:x≤18446744073709551615) (hm:C.met.length≤1000000) (h0:C.fi.2≠0) (hh:C.half=1):Calls Tryz.prog 190 #[ptr a.c,.int .u64 x,.int .i64 1] w fun e w'=>e=.returned (.tuple #[])∧Mids w a (C.add x 1) w':=by
 obtain ⟨k0,k1,k2,k3,k4,k5,k6⟩:=hd_chain h.cb
 have z2:=h.cb.frozen 3
 have z4:=h.cb.frozen 4
 have hO:=Lib.hid (fun u v=>only2 (c:=a.c) w 3 4 u v)
 have e:C.add x 1=⟨C.fi,(C.la.1,x),1,x::C.met,C.lk⟩:=by
  unfold Ch.add sel put
  simp [h0,hh]
 rw [e]
 have hE:=Lib.hid (h.turned (C1:=⟨C.fi,(C.la.1,x),1,x::C.met,C.lk⟩) (y:=x) ((h.cb.store 3 (.int .u64 x)).store 4 (.int .i64 1)) (hO.out _ _) rfl rfl)
 rw [hh] at k4
 have q0:((C.fi.2:Int)==0)=false:=by simp; omega
 have hB2:=Lib.hid h.c_B
 have H:=Lib.hid h.mt
 clear h e hh h0
 generalize C.fi.2=fi0 at*
 go_enter Tryz.func190,Tryz.ntmps190
 go_wp2_with (at_mapUpdate
              refine wpList_mth (B:=a.B) (ms:=C.met) rfl (.tmp 57) (.tmp 58) (.tmp 59) rfl (H.out.only (hO.out _ _) hB2.out) hm x hx 1 (by omega) rfl rfl rfl ?_
              intro w2 hM2 hO2)
 go_end0
 exact ⟨rfl,hE.out w2 hM2 hO2⟩
set_option maxHeartbeats 2000000 in
theorem add_link1 (h:Mid w a C) {x:Nat} (hx:x≤18446744073709551615) (hm:C.met.length≤1000000) (h0:C.fi.2≠0) (hh:C.half=0) (hl:C.lk.length≤100000) (hlt:∀ e∈a.ps,∀ b,In e.A b→b<w.heap.size):Calls Tryz.prog 190 #[ptr a.c,.int .u64 x,.int .i64 1] w fun e w'=>e=.returned (.tuple #[])∧Mids w a (C.add x 1) w':=by
 obtain ⟨k0,k1,k2,k3,k4,k5,k6⟩:=hd_chain h.cb
 have z2:=h.cb.frozen 3
 have z4:=h.cb.frozen 4
 have z6:=h.cb.frozen 6
 have e:C.add x 1=⟨C.fi,(C.la.1,x),1,x::C.met,C.lk++[(C.la.2,x)]⟩:=by
  unfold Ch.add sel put
  simp [h0,hh]
 rw [e]
 rw [hh] at k4
 have q0:((C.fi.2:Int)==0)=false:=by simp; omega
 have H:=Lib.hid h
 have lc:a.c<w.drew.heap.size:=h.cb.lt
 obtain ⟨i0,hi0,hz0,hz1,hz2⟩:=info_parts info_link
 generalize hln:C.lk.length=n at*
 replace hln:=Lib.hid hln
 generalize hll:C.la.2=l0 at*
 replace hll:=Lib.hid hll
 clear h e hh h0
 generalize C.fi.2=fi0 at*
 go_enter Tryz.func190,Tryz.ntmps190
 go_upto_region 3 with (fail)
 have r0:w.drew.cell? ⟨a.c,6,none⟩=some (.slice a.LA n a.lcap)∧w.drew.cell? ⟨a.c,3,none⟩=some (.int .u64 l0):=⟨k6,k3⟩
 refine wp_region_noPanic ?_
 refine Rn.wp_region_N (fun w'=>w'.cell? ⟨a.c,6,none⟩=some (.slice a.LA n a.lcap)∧w'.cell? ⟨a.c,3,none⟩=some (.int .u64 l0)) (fun j=>j==15) (by kernel_rfl) ?_
 refine Rn.wpN_take0 (i:=0) (oi:=⟨some 27,_,_,_,_,_⟩) (v:=ptr a.c) (by rfl) (by kernel_rfl) (by kernel_rfl) (by kernel_rfl) rfl (fun _ _ _ h=>h.elim) (Or.inl ⟨by rfl,by intro w' _; go_simp⟩) r0 ?_
 try simp only [Act.put,List.setIfInBounds_toArray,List.set_cons_zero,List.set_cons_succ]
 refine Rn.wpN_take0 (i:=1) (oi:=⟨some 28,_,_,_,_,_⟩) (v:=ptr a.c) (by rfl) (by kernel_rfl) (by kernel_rfl) (by kernel_rfl) rfl (fun _ _ _ h=>h.elim) (Or.inl ⟨by rfl,by intro w' _; go_simp⟩) r0 ?_
 try simp only [Act.put,List.setIfInBounds_toArray,List.set_cons_zero,List.set_cons_succ]
 refine Rn.wpN_take0 (i:=2) (oi:=⟨some 29,_,_,_,_,_⟩) (v:=.pointer (some ⟨a.c,0,none⟩)) (by rfl) (by kernel_rfl) (by kernel_rfl) (by kernel_rfl) rfl (fun _ _ _ h=>h.elim) (Or.inl ⟨by rfl,by intro w' _; go_simp⟩) r0 ?_
 try simp only [Act.put,List.setIfInBounds_toArray,List.set_cons_zero,List.set_cons_succ]
 refine Rn.wpN_take0 (i:=3) (oi:=⟨some 30,_,_,_,_,_⟩) (v:=.pointer (some ⟨a.c,6,none⟩)) (by rfl) (by kernel_rfl) (by kernel_rfl) (by kernel_rfl) rfl (fun _ _ _ h=>h.elim) (Or.inl ⟨by rfl,by intro w' _; go_simp⟩) r0 ?_
 try simp only [Act.put,List.setIfInBounds_toArray,List.set_cons_zero,List.set_cons_succ]
 refine Rn.wpN_take (i:=4) (oi:=⟨some 31,_,_,_,_,_⟩) (v:=.slice a.LA n a.lcap) (by rfl) (by kernel_rfl) (by kernel_rfl) (by kernel_rfl) rfl (by intro j hj; rw [show j=15 from by simpa using hj]; kernel_rfl) (fun _ _ _ h=>h.elim) (Or.inl ⟨by rfl,by intro w' hSw; go_simp⟩) r0 ?_
 try simp only [Act.put,List.setIfInBounds_toArray,List.set_cons_zero,List.set_cons_succ]
 refine Rn.wpN_take0 (i:=5) (oi:=⟨some 32,_,_,_,_,_⟩) (v:=ptr a.c) (by rfl) (by kernel_rfl) (by kernel_rfl) (by kernel_rfl) rfl (fun _ _ _ h=>h.elim) (Or.inl ⟨by rfl,by intro w' _; go_simp⟩) r0 ?_
 try simp only [Act.put,List.setIfInBounds_toArray,List.set_cons_zero,List.set_cons_succ]
 refine Rn.wpN_take0 (i:=6) (oi:=⟨some 33,_,_,_,_,_⟩) (v:=.int .i64 1) (by rfl) (by kernel_rfl) (by kernel_rfl) (by kernel_rfl) rfl (fun _ _ _ h=>h.elim) (Or.inl ⟨by rfl,by intro w' _; go_simp⟩) r0 ?_
 try simp only [Act.put,List.setIfInBounds_toArray,List.set_cons_zero,List.set_cons_succ]
 refine Rn.wpN_take0 (i:=7) (oi:=⟨some 34,_,_,_,_,_⟩) (v:=.pointer (some ⟨a.c,0,none⟩)) (by rfl) (by kernel_rfl) (by kernel_rfl) (by kernel_rfl) rfl (fun _ _ _ h=>h.elim) (Or.inl ⟨by rfl,by intro w' _; go_simp⟩) r0 ?_
 try simp only [Act.put,List.setIfInBounds_toArray,List.set_cons_zero,List.set_cons_succ]
 refine Rn.wpN_take0 (i:=8) (oi:=⟨some 35,_,_,_,_,_⟩) (v:=.pointer (some ⟨a.c,2,none⟩)) (by rfl) (by kernel_rfl) (by kernel_rfl) (by kernel_rfl) rfl (fun _ _ _ h=>h.elim) (Or.inl ⟨by rfl,by intro w' _; go_simp⟩) r0 ?_
 try simp only [Act.put,List.setIfInBounds_toArray,List.set_cons_zero,List.set_cons_succ]
 refine Rn.wpN_take0 (i:=9) (oi:=⟨some 36,_,_,_,_,_⟩) (v:=.pointer (some ⟨a.c,3,none⟩)) (by rfl) (by kernel_rfl) (by kernel_rfl) (by kernel_rfl) rfl (fun _ _ _ h=>h.elim) (Or.inl ⟨by rfl,by intro w' _; go_simp⟩) r0 ?_
 try simp only [Act.put,List.setIfInBounds_toArray,List.set_cons_zero,List.set_cons_succ]
 refine Rn.wpN_take (i:=10) (oi:=⟨some 37,_,_,_,_,_⟩) (v:=.int .u64 l0) (by rfl) (by kernel_rfl) (by kernel_rfl) (by kernel_rfl) rfl (by intro j hj; rw [show j=15 from by simpa using hj]; kernel_rfl) (fun _ _ _ h=>h.elim) (Or.inl ⟨by rfl,by intro w' hSw; go_simp⟩) r0 ?_
 try simp only [Act.put,List.setIfInBounds_toArray,List.set_cons_zero,List.set_cons_succ]
 refine Rn.wpN_take0 (i:=11) (oi:=⟨some 38,_,_,_,_,_⟩) (v:=.int .u64 x) (by rfl) (by kernel_rfl) (by kernel_rfl) (by kernel_rfl) rfl (fun _ _ _ h=>h.elim) (Or.inl ⟨by rfl,by intro w' _; go_simp⟩) r0 ?_
 try simp only [Act.put,List.setIfInBounds_toArray,List.set_cons_zero,List.set_cons_succ]
 refine Rn.wpN_take0 (i:=12) (oi:=⟨some 39,_,_,_,_,_⟩) (v:=.agg #[.int .u64 l0,.int .u64 x]) (by rfl) (by kernel_rfl) (by kernel_rfl) (by kernel_rfl) rfl (fun _ _ _ h=>h.elim) (Or.inl ⟨by rfl,by intro w' _; go_simp⟩) r0 ?_
 try simp only [Act.put,List.setIfInBounds_toArray,List.set_cons_zero,List.set_cons_succ]
 refine Rn.wpN_one (i:=13) (o:=⟨some 40,_,_,_,_,_⟩) (by kernel_rfl) (by rfl) rfl ?_
 intro K hK
 go_simp
 have r1:(w.drew.alloc (.cells #[.int .u64 l0,.int .u64 x] 227)).cell? ⟨a.c,6,none⟩=some (.slice a.LA n a.lcap)∧(w.drew.alloc (.cells #[.int .u64 l0,.int .u64 x] 227)).cell? ⟨a.c,3,none⟩=some (.int .u64 l0):=
  ⟨(Only.cell ((Only.refl (fun _=>False) w.drew).alloc _) (p:=⟨a.c,6,none⟩) lc (by simp)).trans k6,(Only.cell ((Only.refl (fun _=>False) w.drew).alloc _) (p:=⟨a.c,3,none⟩) lc (by simp)).trans k3⟩
 refine hK _ _ r1 ?_
 clear hK
 try simp only [Act.put,List.setIfInBounds_toArray,List.set_cons_zero,List.set_cons_succ]
 have hL1:LkRow (w.drew.alloc (.cells #[.int .u64 l0,.int .u64 x] 227)) a.LA a.lcap C.lk:=H.out.lr.only (((Only.refl (fun _=>False) w).drew).alloc _) (by simp)
 have hN1:=Blk.made w.drew 227 #[.int .u64 l0,.int .u64 x]
 obtain ⟨A2,cap2,w2,hrun,hR2,hO2,hA2⟩:=run_one (P:=Tryz.prog) (w.drew.alloc (.cells #[.int .u64 l0,.int .u64 x] 227)) 217 217 227 i0 _ 2 16 Tryz.underlying217 hi0 hz0 hz1 hz2 rfl (by omega) lkv lkv_len
  (by intro x u hu; simp [lkv] at hu; rcases hu with rfl | rfl<;>rfl) hln.out hL1 (l0,x) ⟨w.drew.heap.size,0,none⟩ 1 (by
    intro j u hu
    rw [Addr.add_lit,Nat.zero_add,hN1.cell]
    simpa [lkv] using hu) (by simp only [maxLen]; omega) (by omega)
 refine Rn.wpN_one (i:=14) (o:=⟨some 41,_,_,_,_,_⟩) (by kernel_rfl) (by rfl) rfl ?_
 intro K hK
 refine step_app rfl (.tmp 31) (.tmp 40) 217 rfl (.slice a.LA n a.lcap) (.slice (some ⟨w.drew.heap.size,0,none⟩) 1 1) rfl rfl hrun ?_
 have hc2:Blk w2 a.c 219 (chc a C):=(H.out.cb.only (((Only.refl (fun _=>False) w).drew).alloc _) (by simp)).only hO2 (fun q=>(H.out.c_LA q).1 rfl)
 have p6:=hc2.cell 6
 have p3:=hc2.cell 3
 have p4:=hc2.cell 4
 have p5:=hc2.cell 5
 have hcc:chc a C=#[.int .u64 C.fi.1,.int .u64 C.fi.2,.int .u64 C.la.1,.int .u64 C.la.2,.int .i64 C.half,.map (some a.B),.slice a.LA n a.lcap]:=by unfold chc; rw [hln.out]
 rw [hcc] at p6 p3 p4 p5
 simp only [List.getElem?_toArray,List.getElem?_cons_succ,List.getElem?_cons_zero,hll.out] at p6 p3 p4 p5
 refine hK _ _ ⟨p6,p3⟩ ?_
 clear hK
 try simp only [Act.put,List.setIfInBounds_toArray,List.set_cons_zero,List.set_cons_succ]
 refine Rn.wpN_tail 15 (by rfl) (by kernel_rfl) (by rfl) ?_
 dsimp only [List.drop]
 have hO02:Only (In a.LA) w w2:=(((Only.refl (In a.LA) w).drew).alloc _).trans' hO2 (fun x _ q=>q)
 have y6:=hc2.frozen 6
 have y3:=hc2.frozen 3
 have y4:=hc2.frozen 4
 have hO3:=Lib.hid (fun u v y=>only3 (c:=a.c) w2 6 3 4 u v y)
 have hE:=Lib.hid (H.out.linked (C1:=⟨C.fi,(C.la.1,x),1,x::C.met,C.lk++[(l0,x)]⟩) (y:=x) hlt hR2 hO02 (fun b hb=>by
  rcases hA2 b hb with q | q
  · exact .inl q
  · refine .inr (Nat.le_trans ?_ q)
    simp) (by
  have hb:=((hc2.store 6 (.slice A2 ((n+1:Nat)) cap2)).store 3 (.int .u64 x)).store 4 (.int .i64 1)
  rw [hcc] at hb
  simp only [chc,List.length_append,List.length_singleton,hln.out]
  exact hb) (hO3.out _ _ _) rfl)
 have hm2:=Lib.hid (H.out.mt.only hO02 (fun q=>(H.out.c_LA q).2 rfl))
 have hB2:=Lib.hid H.out.c_B
 clear k0 k1 k2 k3 k4 k5 k6 z2 z4 z6 r0 r1 hL1 hN1 hrun hR2 hO2 hA2 hcc hO02 hc2 hlt
 go_wp2_with fail
 refine NoPanic.normal ?_
 go_wp2_with (at_mapUpdate
              refine wpList_mth (B:=a.B) (ms:=C.met) rfl (.tmp 57) (.tmp 58) (.tmp 59) rfl (hm2.out.only (hO3.out _ _ _) hB2.out) hm x hx 1 (by omega) rfl rfl rfl ?_
              intro w5 hM5 hO5)
 go_end0
 exact ⟨rfl,hE.out w5 hM5 hO5⟩
end
end Go.Proofs.YtpobbnllcoabhaaGreatDoor.Gw
namespace Go.Proofs.YtpobbnllcoabhaaGreatDoor.Gw
open Go Go.RowKit Hp K Fl Rw Hm Ar Mm Me Qs Wk Pn
set_option maxRecDepth 100000
section
variable {w w':World} {a:Gl} {C:Ch}
def Over (w:World) (a:Gl) (C:Ch) (l:List (Nat×Nat)) (e:Ending) (w':World):Prop:=
 ∃ A2 cap2,e=.returned (.slice A2 l.length cap2)∧LkRow w' A2 cap2 l∧(∀ b,In A2 b→In a.LA b∨w.heap.size≤b)∧Fst w' a.c C.fi∧Only (fun x=>x=a.c∨In a.LA x) w w'
theorem Mid.fst (h:Mid w a C):Fst w a.c C.fi:=⟨_,h.cb,rfl,rfl⟩
set_option maxHeartbeats 2000000 in
theorem end_none0 (h:Mid w a C) (h0:0∉C.met) (hh:C.half=0) (hl:C.la.2=0):Calls Tryz.prog 188 #[ptr a.c,.int .u64 0] w (Over w a C C.over):=by
 have e:C.over=C.lk:=by unfold Ch.over sel; simp [hh,hl]
 rw [e]
 obtain ⟨k0,k1,k2,k3,k4,k5,k6⟩:=hd_chain h.cb
 rw [hh] at k4
 rw [hl] at k3
 have hL:=fun n=>(h.mt.only ((Only.refl (fun _=>False) w).drewN n) (by simp)).look (x:=0) (by omega)
 replace hL:Hid (∀ n,∃ c:Int,(Instr.lookup 215 (.map (some a.B)) (.int .u64 0) true).run Tryz.prog (w.drewN n)=.ok (.tuple #[.int .i64 c,.bool (decide (0∈C.met))]) (w.drewN n)):=Lib.hid hL
 have hE:=Lib.hid (fun n=>show Over w a C C.lk (.returned (.slice a.LA C.lk.length a.lcap)) (w.drewN n) from ⟨a.LA,a.lcap,rfl,h.lr.only ((Only.refl (fun _=>False) w).drewN n) (by simp),fun b hb=>.inl hb,by
  obtain ⟨cs,h1,h2⟩:=h.fst
  exact ⟨cs,h1.only ((Only.refl (fun _=>False) w).drewN n) (by simp),h2⟩,(Only.refl _ w).drewN n⟩)
 rw [show decide (0∈C.met)=false by simpa using h0] at hL
 clear h h0 e
 go_enter Tryz.func188,Tryz.ntmps188
 go_wp2_with fail
 go_quiet (fail)
 obtain ⟨z,hlk⟩:=hL.out nq
 go_wp2_with fail
 go_ret
 exact hE.out _
set_option maxHeartbeats 2000000 in
theorem end_none1 (h:Mid w a C) (h0:0∉C.met) (hh:C.half=1) (hl:C.la.1=0):Calls Tryz.prog 188 #[ptr a.c,.int .u64 0] w (Over w a C C.over):=by
 have e:C.over=C.lk:=by unfold Ch.over sel; simp [hh,hl]
 rw [e]
 obtain ⟨k0,k1,k2,k3,k4,k5,k6⟩:=hd_chain h.cb
 rw [hh] at k4
 rw [hl] at k2
 have hL:=fun n=>(h.mt.only ((Only.refl (fun _=>False) w).drewN n) (by simp)).look (x:=0) (by omega)
 replace hL:Hid (∀ n,∃ c:Int,(Instr.lookup 215 (.map (some a.B)) (.int .u64 0) true).run Tryz.prog (w.drewN n)=.ok (.tuple #[.int .i64 c,.bool (decide (0∈C.met))]) (w.drewN n)):=Lib.hid hL
 have hE:=Lib.hid (fun n=>show Over w a C C.lk (.returned (.slice a.LA C.lk.length a.lcap)) (w.drewN n) from ⟨a.LA,a.lcap,rfl,h.lr.only ((Only.refl (fun _=>False) w).drewN n) (by simp),fun b hb=>.inl hb,by
  obtain ⟨cs,h1,h2⟩:=h.fst
  exact ⟨cs,h1.only ((Only.refl (fun _=>False) w).drewN n) (by simp),h2⟩,(Only.refl _ w).drewN n⟩)
 rw [show decide (0∈C.met)=false by simpa using h0] at hL
 clear h h0 e
 go_enter Tryz.func188,Tryz.ntmps188
 go_wp2_with fail
 go_quiet (fail)
 obtain ⟨z,hlk⟩:=hL.out nq
 go_wp2_with fail
 go_ret
 exact hE.out _
set_option maxHeartbeats 2000000 in
theorem end_link0 (h:Mid w a C) (h0:0∉C.met) (hh:C.half=0) (hl:C.la.2≠0) (hn:C.lk.length≤100000):Calls Tryz.prog 188 #[ptr a.c,.int .u64 0] w (Over w a C C.over):=by
 have e:C.over=C.lk++[(C.la.2,0)]:=by unfold Ch.over sel; simp [hh,hl]
 rw [e]
 obtain ⟨k0,k1,k2,k3,k4,k5,k6⟩:=hd_chain h.cb
 rw [hh] at k4
 have q0:((C.la.2:Int) != 0)=true:=by simp; omega
 obtain ⟨i0,hi0,hz0,hz1,hz2⟩:=info_parts info_link
 generalize hln:C.lk.length=n at*
 replace hln:=Lib.hid hln
 have H:=Lib.hid h
 have H0:=Lib.hid h0
 have z6:=h.cb.frozen 6
 clear h h0 e hl hh
 generalize hll:C.la.2=l0 at*
 replace hll:=Lib.hid hll
 go_enter Tryz.func188,Tryz.ntmps188
 go_wp2_with fail
 go_quiet (fail)
 have H1:Mid (w.drewN nq) a C:=H.out.only ((Only.refl (fun _=>False) w).drewN nq) (by simp) (by simp) (by simp)
 have hO1:=Lib.hid ((Only.refl (fun x=>x=a.c∨In a.LA x) w).drewN nq)
 have hsz:(w.drewN nq).heap.size=w.heap.size:=rfl
 replace hsz:=Lib.hid hsz
 replace H1:=Lib.hid H1
 clear k0 k1 k2 k3 k4 k5 k6 z6
 generalize w.drewN nq=w1 at*
 obtain ⟨k0,k1,k2,k3,k4,k5,k6⟩:=hd_chain H1.out.cb
 rw [hln.out] at k6
 have z6:=H1.out.cb.frozen 6
 go_wp2_with (at_builtin
              refine wpList_append_one w1 rfl (.tmp 24) (.tmp 27) 217 rfl 227 i0 _ 2 16 Tryz.underlying217 hi0 hz0 hz1 hz2 rfl (by omega) lkv lkv_len (by intro x u hu; simp [lkv] at hu; rcases hu with rfl | rfl<;>rfl)
               a.LA a.lcap n C.lk hln.out (l0,0) #[.int .u64 l0,.int .u64 0] rfl rfl H1.out.lr rfl (by simp only [maxLen]; omega) (by omega) ?_
              intro A2 cap2 w2 hR2 hO2 hA2
              have hB2:=H1.out.cb.only hO2 (fun q=>(H1.out.c_LA q).1 rfl)
              have p6:=hB2.cell 6
              have p5:=hB2.cell 5
              have y6:=hB2.frozen 6
              simp only [chc,List.getElem?_toArray,List.getElem?_cons_succ,List.getElem?_cons_zero] at p5 p6
              obtain ⟨z,hlk⟩:=((H1.out.mt.only hO2 (fun q=>(H1.out.c_LA q).2 rfl)).only ((Only.refl (·=a.c) w2).setCell (p:=⟨a.c,6,none⟩) (.inl rfl) (.slice A2 (n+1:Nat) cap2)) H1.out.c_B).look (x:=0) (by omega)
              rw [show decide (0∈C.met)=false by simpa using H0.out] at hlk
              replace hlk:(Instr.lookup 215 (.map (some a.B)) (.int .u64 0) true).run Tryz.prog (w2.setCell ⟨a.c,6,none⟩ (.slice A2 (n+1) cap2))=.ok (.tuple #[.int .i64 z,.bool false]) (w2.setCell ⟨a.c,6,none⟩ (.slice A2 (n+1) cap2)):=hlk
              replace hR2:=Lib.hid hR2
              replace hO2:=Lib.hid hO2
              replace hA2:=Lib.hid hA2
              replace hB2:=Lib.hid hB2)
 go_ret
 have hOs:=(Only.refl (·=a.c) w2).setCell (p:=⟨a.c,6,none⟩) (.inl rfl) (.slice A2 (n+1) cap2)
 refine ⟨A2,cap2,by simp [hln.out],hR2.out.only hOs (fun b hb e=>(row_ty hR2.out hb).apart (e▸blk_ty hB2.out:Ty w2 b [219]) (by decide)),fun b hb=>?_,⟨_,hB2.out.store 6 (.slice A2 (n+1) cap2),by simp [chc],by simp [chc]⟩,?_⟩
 · have:=hA2.out b hb
   rw [hsz.out] at this
   exact this
 · exact (hO1.out.trans' hO2.out (fun x _ q=>.inr q)).trans' hOs (fun x _ q=>.inl q)
set_option maxHeartbeats 2000000 in
theorem end_link1 (h:Mid w a C) (h0:0∉C.met) (hh:C.half=1) (hl:C.la.1≠0) (hn:C.lk.length≤100000):Calls Tryz.prog 188 #[ptr a.c,.int .u64 0] w (Over w a C C.over):=by
 have e:C.over=C.lk++[(C.la.1,0)]:=by unfold Ch.over sel; simp [hh,hl]
 rw [e]
 obtain ⟨k0,k1,k2,k3,k4,k5,k6⟩:=hd_chain h.cb
 rw [hh] at k4
 have q0:((C.la.1:Int) != 0)=true:=by simp; omega
 obtain ⟨i0,hi0,hz0,hz1,hz2⟩:=info_parts info_link
 generalize hln:C.lk.length=n at*
 replace hln:=Lib.hid hln
 have H:=Lib.hid h
 have H0:=Lib.hid h0
 have z6:=h.cb.frozen 6
 clear h h0 e hl hh
 generalize hll:C.la.1=l0 at*
 replace hll:=Lib.hid hll
 go_enter Tryz.func188,Tryz.ntmps188
 go_wp2_with fail
 go_quiet (fail)
 have H1:Mid (w.drewN nq) a C:=H.out.only ((Only.refl (fun _=>False) w).drewN nq) (by simp) (by simp) (by simp)
 have hO1:=Lib.hid ((Only.refl (fun x=>x=a.c∨In a.LA x) w).drewN nq)
 have hsz:(w.drewN nq).heap.size=w.heap.size:=rfl
 replace hsz:=Lib.hid hsz
 replace H1:=Lib.hid H1
 clear k0 k1 k2 k3 k4 k5 k6 z6
 generalize w.drewN nq=w1 at*
 obtain ⟨k0,k1,k2,k3,k4,k5,k6⟩:=hd_chain H1.out.cb
 rw [hln.out] at k6
 have z6:=H1.out.cb.frozen 6
 go_wp2_with (at_builtin
              refine wpList_append_one w1 rfl (.tmp 24) (.tmp 27) 217 rfl 227 i0 _ 2 16 Tryz.underlying217 hi0 hz0 hz1 hz2 rfl (by omega) lkv lkv_len (by intro x u hu; simp [lkv] at hu; rcases hu with rfl | rfl<;>rfl)
               a.LA a.lcap n C.lk hln.out (l0,0) #[.int .u64 l0,.int .u64 0] rfl rfl H1.out.lr rfl (by simp only [maxLen]; omega) (by omega) ?_
              intro A2 cap2 w2 hR2 hO2 hA2
              have hB2:=H1.out.cb.only hO2 (fun q=>(H1.out.c_LA q).1 rfl)
              have p6:=hB2.cell 6
              have p5:=hB2.cell 5
              have y6:=hB2.frozen 6
              simp only [chc,List.getElem?_toArray,List.getElem?_cons_succ,List.getElem?_cons_zero] at p5 p6
              obtain ⟨z,hlk⟩:=((H1.out.mt.only hO2 (fun q=>(H1.out.c_LA q).2 rfl)).only ((Only.refl (·=a.c) w2).setCell (p:=⟨a.c,6,none⟩) (.inl rfl) (.slice A2 (n+1:Nat) cap2)) H1.out.c_B).look (x:=0) (by omega)
              rw [show decide (0∈C.met)=false by simpa using H0.out] at hlk
              replace hlk:(Instr.lookup 215 (.map (some a.B)) (.int .u64 0) true).run Tryz.prog (w2.setCell ⟨a.c,6,none⟩ (.slice A2 (n+1) cap2))=.ok (.tuple #[.int .i64 z,.bool false]) (w2.setCell ⟨a.c,6,none⟩ (.slice A2 (n+1) cap2)):=hlk
              replace hR2:=Lib.hid hR2
              replace hO2:=Lib.hid hO2
              replace hA2:=Lib.hid hA2
              replace hB2:=Lib.hid hB2)
 go_ret
 have hOs:=(Only.refl (·=a.c) w2).setCell (p:=⟨a.c,6,none⟩) (.inl rfl) (.slice A2 (n+1) cap2)
 refine ⟨A2,cap2,by simp [hln.out],hR2.out.only hOs (fun b hb e=>(row_ty hR2.out hb).apart (e▸blk_ty hB2.out:Ty w2 b [219]) (by decide)),fun b hb=>?_,⟨_,hB2.out.store 6 (.slice A2 (n+1) cap2),by simp [chc],by simp [chc]⟩,?_⟩
 · have:=hA2.out b hb
   rw [hsz.out] at this
   exact this
 · exact (hO1.out.trans' hO2.out (fun x _ q=>.inr q)).trans' hOs (fun x _ q=>.inl q)
theorem end_any (h:Mid w a C) (h0:0∉C.met) (hh:C.half≤1) (hn:C.lk.length≤100000):Calls Tryz.prog 188 #[ptr a.c,.int .u64 0] w (Over w a C C.over):=by
 have:C.half=0∨C.half=1:=by omega
 rcases this with q | q
 · by_cases hl:C.la.2=0
   · exact end_none0 h h0 q hl
   · exact end_link0 h h0 q hl hn
 · by_cases hl:C.la.1=0
   · exact end_none1 h h0 q hl
   · exact end_link1 h h0 q hl hn
theorem add_any (h:Mid w a C) {x y:Nat} (hx:x≤18446744073709551615) (hm:C.met.length≤1000000) (hy:y≤1) (hh:C.half≤1) (hl:C.lk.length≤100000) (hlt:∀ e∈a.ps,∀ b,In e.A b→b<w.heap.size):
 Calls Tryz.prog 190 #[ptr a.c,.int .u64 x,.int .i64 y] w fun e w'=>e=.returned (.tuple #[])∧Mids w a (C.add x y) w':=by
 have:C.half=0∨C.half=1:=by omega
 have hy':y=0∨y=1:=by omega
 rcases hy' with rfl | rfl
 · by_cases h0:C.fi.1=0
   · exact add_first0 h hx hm h0
   · rcases this with q | q
     · exact add_next0 h hx hm h0 q
     · exact add_link0 h hx hm h0 q hl hlt
 · by_cases h0:C.fi.2=0
   · exact add_first1 h hx hm h0
   · rcases this with q | q
     · exact add_link1 h hx hm h0 q hl hlt
     · exact add_next1 h hx hm h0 q
end
end Go.Proofs.YtpobbnllcoabhaaGreatDoor.Gw
namespace Go.Proofs.YtpobbnllcoabhaaGreatDoor.Gw
open Go Go.RowKit Hp K Fl Rw Hm Ar Mm Me Qs Wk Pn
set_option maxRecDepth 100000
theorem always_any (m:Value) (w:World):Calls Tryz.prog 104 #[m] w fun e w'=>e=.returned (.bool true)∧w'=w:=by
 go_enter Tryz.func104,Tryz.ntmps104
 go_wp2
 go_ret
 exact ⟨rfl,rfl⟩
section
variable {w w':World} {M:Mo} {a:Gl} {G:Gr}
theorem own_next (h:Own w a G) {n:Nat} (hn:n≠7):Own ((w.setCell ⟨a.f,1,none⟩ (wf0 104)).setCell ⟨a.f,2,none⟩ (gnv a.f n)) a {G with nx:=n}:=by
 have e:grc a {G with nx:=n}=((grc a G).setIfInBounds 1 (wf0 104)).setIfInBounds 2 (gnv a.f n):=by
  unfold grc grv
  rw [if_neg hn]
  rfl
 unfold Own
 rw [e]
 exact (Blk.store h 1 _).store 2 _
theorem goOn_any (h:Own w a G) {n F:Nat} {b:Array Value} (hn:n≠7) (e:gnv a.f n=.func (.func F) b #[]):
 Calls Tryz.prog 76 #[ptr a.f,.func (.func F) b #[]] w fun e w'=>e=.returned (.tuple #[])∧Own w' a {G with nx:=n}∧Only (·=a.f) w w':=by
 have c1:=h.cell 1
 have c2:=h.cell 2
 have z1:=h.frozen 1
 have z2:=h.frozen 2
 simp only [grc,List.getElem?_toArray,List.getElem?_cons_succ,List.getElem?_cons_zero] at c1 c2
 have hE:=Lib.hid (own_next h hn)
 rw [e] at hE
 have hO:=Lib.hid (only2 (c:=a.f) w 1 2 (wf0 104) (.func (.func F) b #[]))
 generalize grv a G.nx=u1 at*
 generalize gnv a.f G.nx=u2 at*
 clear h e
 go_enter Tryz.func76,Tryz.ntmps76
 go_wp2
 go_end0
 exact ⟨rfl,hE.out,hO.out⟩
theorem end_grow (h:Own w a G):Calls Tryz.prog 140 #[ptr a.f] w fun e w'=>e=.returned (.bool true)∧Own w' a {G with nx:=9}∧Only (·=a.f) w w':=by
 have hG:=Lib.hid (goOn_any h (n:=9) (by omega) rfl)
 go_enter Tryz.func140,Tryz.ntmps140
 go_wp2_with fail
 refine hG.out.mono ?_
 rintro e w1 ⟨rfl,h1,hO⟩
 replace h1:=Lib.hid h1
 replace hO:=Lib.hid hO
 go_wp2_with fail
 go_ret
 exact ⟨rfl,h1.out,hO.out⟩
theorem Fst.hd {c:Nat} {fi:Nat×Nat} (h:Fst w c fi):w.cell? ⟨c,0,none⟩=some (.int .u64 fi.1)∧w.cell? ⟨c,1,none⟩=some (.int .u64 fi.2):=by
 obtain ⟨cs,hb,h0,h1⟩:=h
 exact ⟨(hb.cell 0).trans h0,(hb.cell 1).trans h1⟩
theorem Fst.only {S:Nat→Prop} {c:Nat} {fi:Nat×Nat} (h:Fst w c fi) (ho:Only S w w') (hn:¬S c):Fst w' c fi:=by
 obtain ⟨cs,hb,h0⟩:=h
 exact ⟨cs,hb.only ho hn,h0⟩
theorem Fst.ne {c:Nat} {fi:Nat×Nat} (h:Fst w c fi) (hO:Own w a G):c≠a.f:=by
 rintro rfl
 obtain ⟨cs,hb,h0⟩:=h
 exact (blk_ty hb).apart (blk_ty hO) (by decide)
def TInv (w:World) (a:Gl) (G:Gr) (wr:World) (h:Nat):Prop:=Own wr a {G with half:=h}∧Only (·=a.f) w wr∧half2 h G.C.fi=half2 G.half G.C.fi
set_option maxHeartbeats 4000000 in
theorem toStore_any (h:Own w a G) (hc:a.cv=ptr a.c) (hf:Fst w a.c G.C.fi) (hh:G.half≤2) (hb:G.bucket≤1000000) (hn:G.el.1≤1000000):
 Calls Tryz.prog 189 #[ptr a.f] w fun e w'=>e=.returned (.tuple #[])∧Own w' a (toStore G)∧Only (·=a.f) w w':=by
 have H0:Hid (TInv w a G w G.half):=Lib.hid ⟨h,Only.refl _ _,rfl⟩
 have hne:=Lib.hid (hf.ne h)
 replace hf:=Lib.hid hf
 replace hh:=Lib.hid hh
 clear h
 go_enter Tryz.func189,Tryz.ntmps189
 go_wp2_with fail
 go_loopw [2] (fun _ wr=>∃ h:Nat,h≤2∧TInv w a G wr h) (fun _ wr=>match wr.cell? ⟨a.f,12,none⟩ with | some v=>2-(intOf v).toNat | none=>0)
 case atStart=>exact ⟨_,hh.out,H0.out⟩
 case round=>
  obtain ⟨h,hh2,hI⟩:=hrel
  obtain ⟨hO,hOn,hhe⟩:=hI
  have hfr:=hf.out.only hOn hne.out
  obtain ⟨f0,f1⟩:=hfr.hd
  have c10:=hO.cell 10
  have c12:=hO.cell 12
  have c4:=hO.cell 4
  have c9:=hO.cell 9
  have z12:=hO.frozen 12
  have z9:=hO.frozen 9
  simp only [grc,List.getElem?_toArray,List.getElem?_cons_succ,List.getElem?_cons_zero,hc] at c4 c9 c10 c12
  replace hO:=Lib.hid hO
  replace hOn:=Lib.hid hOn
  replace hhe:=Lib.hid hhe
  clear H0 hh
  rcases (show h=0∨h=1∨h=2 by omega) with rfl | rfl | rfl
  · by_cases h1:G.C.fi.1=0
    · rw [h1] at f0
      go_wp2_with fail
      go_quiet (fail)
      have hS:=Lib.hid (show TInv w a G ((wr.drewN nq).setCell ⟨a.f,12,none⟩ (.int .i64 1)) 1 from ⟨Blk.store (Blk.only hO.out ((Only.refl (fun _=>False) wr).drewN nq) (by simp)) 12 (.int .i64 1),(hOn.out.drewN nq).setCell (p:=⟨a.f,12,none⟩) (.inl rfl) _,by rw [← hhe.out]; unfold half2 half1; simp [h1]⟩)
      clear hO hOn hhe hfr
      go_wp2_with fail
      go_roundw
      case rel=>exact ⟨1,by omega,hS.out⟩
      case measure=>
       have k12:=hS.out.1.cell 12
       simp only [grc,List.getElem?_toArray,List.getElem?_cons_succ,List.getElem?_cons_zero] at k12
       rw [k12,c12]
       simp [intOf]
    · skip
      have q0:((G.C.fi.1:Int)==0)=false:=by simp; omega
      go_wp2_with fail
      go_quiet (fail)
      have hX:Own (wr.drewN nq) a {G with half:=0}:=Blk.only hO.out ((Only.refl (fun _=>False) wr).drewN nq) (by simp)
      have hY:=Lib.hid (hOn.out.drewN nq)
      have hG:=Lib.hid (goOn_any hX (n:=5) (by omega) rfl)
      have e5:Hid (toStore G={G with half:=0,nx:=5}):=Lib.hid (by
       have e:half2 G.half G.C.fi=0:=by rw [← hhe.out]; unfold half2 half1; simp [h1]
       unfold toStore
       rw [e,if_pos (by omega)])
      clear hO hOn hhe hfr hX
      go_wp2_with fail
      refine hG.out.mono ?_
      rintro e w2 ⟨rfl,hO2,hY2⟩
      replace hO2:=Lib.hid hO2
      replace hY2:=Lib.hid hY2
      clear c4 c9 c10 c12 z12 z9 f0 f1 q0
      go_wp2_with fail
      exact bodyPost_ret (v:=.tuple #[]) (by simp [results,Tryz.results189]) rfl ⟨rfl,by rw [e5.out]; exact hO2.out,hY.out.trans hY2.out⟩
  · by_cases h1:G.C.fi.2=0
    · rw [h1] at f1
      go_wp2_with fail
      go_quiet (fail)
      have hS:=Lib.hid (show TInv w a G ((wr.drewN nq).setCell ⟨a.f,12,none⟩ (.int .i64 2)) 2 from ⟨Blk.store (Blk.only hO.out ((Only.refl (fun _=>False) wr).drewN nq) (by simp)) 12 (.int .i64 2),(hOn.out.drewN nq).setCell (p:=⟨a.f,12,none⟩) (.inl rfl) _,by rw [← hhe.out]; unfold half2 half1; simp [h1]⟩)
      clear hO hOn hhe hfr
      go_wp2_with fail
      go_roundw
      case rel=>exact ⟨2,by omega,hS.out⟩
      case measure=>
       have k12:=hS.out.1.cell 12
       simp only [grc,List.getElem?_toArray,List.getElem?_cons_succ,List.getElem?_cons_zero] at k12
       rw [k12,c12]
       simp [intOf]
    · skip
      have q0:((G.C.fi.2:Int)==0)=false:=by simp; omega
      go_wp2_with fail
      go_quiet (fail)
      have hX:Own (wr.drewN nq) a {G with half:=1}:=Blk.only hO.out ((Only.refl (fun _=>False) wr).drewN nq) (by simp)
      have hY:=Lib.hid (hOn.out.drewN nq)
      have hG:=Lib.hid (goOn_any hX (n:=5) (by omega) rfl)
      have e5:Hid (toStore G={G with half:=1,nx:=5}):=Lib.hid (by
       have e:half2 G.half G.C.fi=1:=by rw [← hhe.out]; unfold half2 half1; simp [h1]
       unfold toStore
       rw [e,if_pos (by omega)])
      clear hO hOn hhe hfr hX
      go_wp2_with fail
      refine hG.out.mono ?_
      rintro e w2 ⟨rfl,hO2,hY2⟩
      replace hO2:=Lib.hid hO2
      replace hY2:=Lib.hid hY2
      clear c4 c9 c10 c12 z12 z9 f0 f1 q0
      go_wp2_with fail
      exact bodyPost_ret (v:=.tuple #[]) (by simp [results,Tryz.results189]) rfl ⟨rfl,by rw [e5.out]; exact hO2.out,hY.out.trans hY2.out⟩
  · have hd2:decide ((2:Int)<2)=false:=rfl
    go_wp2_with fail
    go_quiet (fail)
    have hX:Own (wr.drewN nq) a {G with half:=2}:=Blk.only hO.out ((Only.refl (fun _=>False) wr).drewN nq) (by simp)
    have hY:=Lib.hid (hOn.out.drewN nq)
    have hX2:Own ((wr.drewN nq).setCell ⟨a.f,9,none⟩ (.int .i64 ((G.bucket:Int)+1))) a {G with half:=2,bucket:=G.bucket+1}:=Blk.store hX 9 (.int .i64 (G.bucket+1))
    have hO3:=(Only.refl (·=a.f) (wr.drewN nq)).setCell (p:=⟨a.f,9,none⟩) (.inl rfl) (.int .i64 (G.bucket+1))
    have hY3:=Lib.hid (hY.out.trans hO3)
    have hG:=Lib.hid (goOn_any hX2 (n:=3) (by omega) rfl)
    have e2:Hid (half2 G.half G.C.fi=2):=Lib.hid (by rw [← hhe.out]; unfold half2 half1; simp)
    clear hO hOn hhe hfr hX hX2 hO3 hY
    go_wp2_with fail
    refine hG.out.mono ?_
    rintro e w2 ⟨rfl,hO2,hY2⟩
    have p9:=hO2.cell 9
    have p4:=hO2.cell 4
    simp only [grc,List.getElem?_toArray,List.getElem?_cons_succ,List.getElem?_cons_zero] at p4 p9
    have hY4:=Lib.hid (hY3.out.trans hY2)
    have hG6:=Lib.hid (fun n=>goOn_any (G:={G with half:=2,bucket:=G.bucket+1,nx:=3}) (Blk.only hO2 ((Only.refl (fun _=>False) w2).drewN n) (by simp):Own (w2.drewN n) a {G with half:=2,bucket:=G.bucket+1,nx:=3}) (n:=6) (by omega) rfl)
    replace hO2:=Lib.hid hO2
    clear hY2 hY3 c4 c9 c10 c12 z12 z9 f0 f1 hG
    by_cases hq:G.bucket+1=G.el.1
    · have q1:(((G.bucket+1:Nat):Int)==(G.el.1:Int))=true:=by simp; omega
      have e6:Hid (toStore G={G with half:=2,bucket:=G.bucket+1,nx:=6}):=Lib.hid (by
       unfold toStore
       rw [e2.out,if_neg (by omega),if_pos hq])
      clear hq
      go_wp2_with fail
      go_quiet (fail)
      clear p4 p9
      go_wp2_with fail
      refine (hG6.out _).mono ?_
      rintro e w3 ⟨rfl,hO5,hY5⟩
      have hYY:=Lib.hid ((hY4.out.drewN nq).trans hY5)
      replace hO5:=Lib.hid hO5
      clear hY5 hG6
      go_wp2_with fail
      go_end0
      exact ⟨rfl,by rw [e6.out]; exact hO5.out,hYY.out⟩
    · have q1:(((G.bucket+1:Nat):Int)==(G.el.1:Int))=false:=by simp; omega
      have e6:Hid (toStore G={G with half:=2,bucket:=G.bucket+1,nx:=3}):=Lib.hid (by
       unfold toStore
       rw [e2.out,if_neg (by omega),if_neg hq])
      clear hq
      go_wp2_with fail
      go_quiet (fail)
      have hO5:=Lib.hid (Blk.only hO2.out ((Only.refl (fun _=>False) w2).drewN nq) (by simp))
      have hYY:=Lib.hid (hY4.out.drewN nq)
      clear p4 p9 hG6
      go_wp2_with fail
      go_end0
      exact ⟨rfl,by rw [e6.out]; exact hO5.out,hYY.out⟩
end
end Go.Proofs.YtpobbnllcoabhaaGreatDoor.Gw
