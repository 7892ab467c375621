/- Walks and plain mathematics, put together in their order: ZipA, WayA, WayC, ZipB, ZipD, JoinA, ZipE, ZipG, JoinB, GroA. -/
import Derived.Test.YtkogifmjbmnpgaaGreatPart5
import Derived.Test.YtkogifmjbmnpgaaGreatQsbrD
set_option linter.unusedVariables false
set_option linter.unusedSimpArgs false
namespace Go.Proofs.YtkogifmjbmnpgaaGreat.Zp
open Go Hm Ar Mm Wk Pc Me Mq Pu Pn
def hdH (q:List Mq.Hp):Nat:=match q with
 | []=>0
 | e::_=>e.1
theorem Cx.hd {ss:List Sl} {x:Nat} {q:List Mq.Hp} (h:Cx ss x q):x=hdH q:=by
 cases h with
 | nil=>rfl
 | cons a b c=>rfl
theorem Cx.back {ss:List Sl}:∀ (pre:List Mq.Hp) {q:List Mq.Hp} {x:Nat},Cx ss x (pre++q)→Cx ss (hdH q) q:=by
 intro pre
 induction pre with
 | nil=>
   intro q x h
   have h':Cx ss x q:=h
   rw [← Cx.hd h']
   exact h'
 | cons e t ih=>
   intro q x h
   cases h with
   | cons a b c=>exact ih c
theorem lnk_at {ss:List Sl} {x y j:Nat} (hl:ss.length≤1024) (hj:IsAt ss x j) (k:Nat):at' (lnk ss x y) k=if k=j then {at' ss j with nd:={(at' ss j).nd with next:=(y:Int)}} else at' ss k:=by
 have hjp:(x-1) % 65536=j:=(isAt_parts hl hj).1
 unfold lnk
 rw [hjp,at_set hj.1]
theorem lnk_len (ss:List Sl) (x y:Nat):(lnk ss x y).length=ss.length:=by unfold lnk; simp
theorem lnk_live {ss:List Sl} {x y j:Nat} (hl:ss.length≤1024) (hj:IsAt ss x j) {u k:Nat} (hk:IsAt ss u k):IsAt (lnk ss x y) u k:=by
 have h:=lnk_at (y:=y) hl hj k
 refine ⟨by rw [lnk_len]; exact hk.1,?_,?_⟩
 · rw [h]; split
   · rename_i e; subst e; exact hk.2.1
   · exact hk.2.1
 · rw [h]; split
   · rename_i e; subst e; exact hk.2.2
   · exact hk.2.2
theorem lnk_keep {ss:List Sl} {x y j:Nat} (hl:ss.length≤1024) (hj:IsAt ss x j) {u k:Nat} (hk:IsAt ss u k) (hu:u≠x):IsAt (lnk ss x y) u k∧(at' (lnk ss x y) k).nd=(at' ss k).nd:=by
 refine ⟨lnk_live hl hj hk,?_⟩
 rw [lnk_at hl hj,if_neg]
 rintro rfl
 exact hu (by rw [hk.2.2,hj.2.2])
theorem Cx.aside {ss:List Sl} {x y j p:Nat} {q:List Mq.Hp} (hl:ss.length≤1024) (hj:IsAt ss x j) (h:Cx ss p q) (hx:x∉hds q):Cx (lnk ss x y) p q:=
 h.keep fun u hu k hk=>lnk_keep hl hj hk (fun e=>hx (e▸hu))
theorem Cx.relink {ss:List Sl} {j:Nat} {e:Mq.Hp} {d t:List Mq.Hp} (hl:ss.length≤1024) (hj:IsAt ss e.1 j):∀ (pre:List Mq.Hp) (p:Nat),Cx ss p (pre++e::(d++t))→(hds (pre++e::(d++t))).Nodup→Cx (lnk ss e.1 (hdH t)) p (pre++e::t):=by
 intro pre
 induction pre with
 | nil=>
   intro p h hn
   have hn':e.1∉hds (d++t):=(List.nodup_cons.1 hn).1
   cases h with
   | @cons _ k z pp _ a b c=>
     have hkj:k=j:=a.uniq hl hj
     subst hkj
     have ht:Cx (lnk ss p (hdH t)) (hdH t) t:=Cx.aside hl a (Cx.back d c) (fun q=>hn' (by
      simp only [hds,List.map_append,List.mem_append]
      exact .inr q))
     refine .cons (lnk_live hl a a) (z:=hdH t) ?_ ht
     rw [lnk_at hl a,if_pos rfl]
     simp only [b]
     rfl
 | cons e0 r ih=>
   intro p h hn
   have hn':=List.nodup_cons.1 hn
   cases h with
   | @cons _ k z pp _ a b c=>
     have hne:p≠e.1:=by
      rintro rfl
      exact hn'.1 (by simp [hds])
     have:=lnk_keep (y:=hdH t) hl hj a hne
     exact .cons this.1 (this.2.trans b) (ih _ c hn'.2)
structure Zip (ss:List Sl) (σ:ByteArray→Bool) (All:List Mq.Hp) (s:Bool) (x y:Nat) (u r v rest:List Mq.Hp):Prop where
 own:Cx ss x (u++r++rest)
 oth:Cx ss y (v++rest)
 su:∀ e∈u++r,σ e.2.1=s
 sv:∀ e∈v,σ e.2.1= !s
 hd:∀ e t,rest=e::t→σ e.2.1= !s
 ne:rest≠[]→r≠[]
 nd:(hds (u++r++v++rest)).Nodup
 fs:All.filter (fun e=>σ e.2.1==s)=u++r++rest.filter (fun e=>σ e.2.1==s)
 fv:All.filter (fun e=>σ e.2.1== !s)=v++rest.filter (fun e=>σ e.2.1== !s)
section
variable {ss:List Sl} {σ:ByteArray→Bool} {All:List Mq.Hp} {s:Bool} {x y:Nat} {u r v rest:List Mq.Hp}
theorem filter_all {q:List Mq.Hp} {b:Bool} (h:∀ e∈q,σ e.2.1=b):q.filter (fun e=>σ e.2.1==b)=q:=List.filter_eq_self.2 fun e he=>by simp [h e he]
theorem filter_none {q:List Mq.Hp} {b:Bool} (h:∀ e∈q,σ e.2.1= !b):q.filter (fun e=>σ e.2.1==b)=[]:=List.filter_eq_nil_iff.2 fun e he=>by simp [h e he]
theorem zip_new (h:Cx ss x All) (hn:(hds All).Nodup):∃ s r rest,All=r++rest∧Zip ss σ All s x (hdH rest) [] r [] rest:=by
 cases All with
 | nil=>
   refine ⟨true,[],[],rfl,⟨h,.nil,by simp,by simp,by simp,by simp,by simp,by simp,by simp⟩⟩
 | cons e t=>
   have hsp:(e::t)=(e::t).takeWhile (fun a=>σ a.2.1==σ e.2.1)++(e::t).dropWhile (fun a=>σ a.2.1==σ e.2.1):=(List.takeWhile_append_dropWhile).symm
   obtain ⟨r,hr⟩:∃ r,r=(e::t).takeWhile (fun a=>σ a.2.1==σ e.2.1):=⟨_,rfl⟩
   obtain ⟨rest,hrest⟩:∃ q,q=(e::t).dropWhile (fun a=>σ a.2.1==σ e.2.1):=⟨_,rfl⟩
   rw [← hr,← hrest] at hsp
   have hr1:∀ a∈r,σ a.2.1=σ e.2.1:=fun a ha=>by
    rw [hr] at ha
    have:∀ (l:List Mq.Hp),a∈l.takeWhile (fun a=>σ a.2.1==σ e.2.1)→σ a.2.1=σ e.2.1:=by
     intro l
     induction l with
     | nil=>intro q; simp at q
     | cons b l ih=>
       intro q
       rw [List.takeWhile_cons] at q
       split at q
       · rename_i hb
         rcases List.mem_cons.1 q with rfl | q
         · simpa using hb
         · exact ih q
       · simp at q
    exact this _ ha
   have hr2:∀ a t',rest=a::t'→σ a.2.1= !(σ e.2.1):=fun a t' q=>by
    have:∀ (l:List Mq.Hp),l.dropWhile (fun a=>σ a.2.1==σ e.2.1)=a::t'→σ a.2.1= !(σ e.2.1):=by
     intro l
     induction l with
     | nil=>intro q; simp at q
     | cons b l ih=>
       intro q
       rw [List.dropWhile_cons] at q
       split at q
       · exact ih q
       · rename_i hb
         injection q with q1 _
         subst q1
         revert hb
         cases σ b.2.1<;>cases σ e.2.1<;>simp
    exact this _ (hrest▸q)
   have hr3:r≠[]:=by
    rw [hr,List.takeWhile_cons,if_pos (by simp)]
    simp
   refine ⟨σ e.2.1,r,rest,hsp,⟨by rw [List.nil_append,← hsp]; exact h,?_,by simpa using hr1,by simp,hr2,fun _=>hr3,by rw [List.nil_append,List.append_nil,← hsp]; exact hn,?_,?_⟩⟩
   · rw [hsp] at h
     exact Cx.back r h
   · rw [hsp,List.filter_append,filter_all hr1,List.nil_append]
   · rw [hsp,List.filter_append]
     have:=filter_none (σ:=σ) (b:= !(σ e.2.1)) (q:=r) (by simpa using hr1)
     rw [this]
theorem not_r {a:Nat} (h:Zip ss σ All s x y u r v rest) (ha:a∈hds (u++r)):a∉hds (v++rest):=by
 have:=h.nd
 rw [show u++r++v++rest=(u++r)++(v++rest) by simp] at this
 simp only [hds,List.map_append] at this ha ⊢
 intro q
 rw [show List.map (fun x=>x.1) u++List.map (fun x=>x.1) r++(List.map (fun x=>x.1) v++List.map (fun x=>x.1) rest)=(List.map (fun x=>x.1) u++List.map (fun x=>x.1) r)++(List.map (fun x=>x.1) v++List.map (fun x=>x.1) rest) by simp] at this
 exact (List.nodup_append.1 this).2.2 a (by simpa using ha) a (by simpa using q) rfl
theorem Zip.link (h:Zip ss σ All s x y u r v rest) (hl:ss.length≤1024) {r0 d t:List Mq.Hp} {e:Mq.Hp} (hr:r=r0++[e]) (hd:rest=d++t) (hd0:d≠[]) (hds':∀ a∈d,σ a.2.1= !s) (ht:∀ a t',t=a::t'→σ a.2.1=s):
 Zip (lnk ss e.1 (hdH t)) σ All (!s) y x v d (u++r) t:=by
 subst hr hd
 have hown:=h.own
 rw [show u++(r0++[e])++(d++t)=(u++r0)++e::(d++t) by simp] at hown
 obtain ⟨j,_,hj,_⟩:=hown.at e (by simp)
 have hnd:=h.nd
 have hn1:(hds ((u++r0)++e::(d++t))).Nodup:=by
  have:(hds ((u++r0)++e::(d++t))).Sublist (hds (u++(r0++[e])++v++(d++t))):=by
   apply List.Sublist.map
   rw [show u++r0++e::(d++t)=(u++(r0++[e]))++(d++t) by simp,show u++(r0++[e])++v++(d++t)=(u++(r0++[e]))++(v++(d++t)) by simp]
   exact List.Sublist.append_left (List.sublist_append_right _ _) _
  exact this.nodup hnd
 refine ⟨?_,?_,?_,?_,?_,fun _=>hd0,?_,?_,?_⟩
 · have:=Cx.aside (y:=hdH t) hl hj h.oth (not_r h (by simp [hds]))
   simpa using this
 · have:=Cx.relink hl hj (u++r0) x hown hn1
   simpa using this
 · intro a ha
   rcases List.mem_append.1 ha with q | q
   · exact h.sv a q
   · exact hds' a q
 · intro a ha
   rw [Bool.not_not]
   exact h.su a ha
 · intro a t' q
   rw [Bool.not_not]
   exact ht a t' q
 · have hp:(hds (v++d++(u++(r0++[e]))++t)).Perm (hds (u++(r0++[e])++v++(d++t))):=by
    apply List.Perm.map
    rw [show u++(r0++[e])++v++(d++t)=(u++(r0++[e])++(v++d))++t by simp]
    exact List.Perm.append_right t List.perm_append_comm
   exact hp.nodup_iff.2 hnd
 · have hfv:=h.fv
   rw [hfv,List.filter_append,filter_all hds',List.append_assoc]
 · have hfs:=h.fs
   rw [Bool.not_not,hfs,List.filter_append,filter_none hds',List.nil_append]
theorem Zip.parted (h:Zip ss σ All s x y u r v []):Cx ss x (All.filter fun e=>σ e.2.1==s)∧Cx ss y (All.filter fun e=>σ e.2.1== !s):=by
 have h1:=h.own
 have h2:=h.oth
 have h3:=h.fs
 have h4:=h.fv
 simp only [List.filter_nil,List.append_nil] at h1 h2 h3 h4
 rw [h3,h4]
 exact ⟨h1,h2⟩
end
/-! ### readers-/
def Std (σ:ByteArray→Bool) (s:Bool) (u r v rest:List Mq.Hp) (old:Prop) (key:ByteArray) (q:List Mq.Hp):Prop:=
 (σ key=s∧q<:+u++r++rest)∨(σ key= !s∧q<:+v++rest)∨(old∧σ key= !s∧q<:+r++rest)
section
variable {ss:List Sl} {σ:ByteArray→Bool} {All:List Mq.Hp} {s:Bool} {x y:Nat} {u r v rest q:List Mq.Hp} {old:Prop} {key:ByteArray}
theorem Std.next {e:Mq.Hp} (h:Std σ s u r v rest old key (e::q)):Std σ s u r v rest old key q:=by
 have hq:q<:+e::q:=List.suffix_cons _ _
 rcases h with ⟨a,b⟩ | ⟨a,b⟩ | ⟨o,a,b⟩
 · exact .inl ⟨a,hq.trans b⟩
 · exact .inr (.inl ⟨a,hq.trans b⟩)
 · exact .inr (.inr ⟨o,a,hq.trans b⟩)
theorem Std.mono {old':Prop} (h:Std σ s u r v rest old key q) (ho:old→old'):Std σ s u r v rest old' key q:=by
 rcases h with h | h | ⟨o,h⟩
 · exact .inl h
 · exact .inr (.inl h)
 · exact .inr (.inr ⟨ho o,h⟩)
theorem lk_skip {a d t:List Mq.Hp} {key:ByteArray} (hk:∀ e∈d,e.2.1≠key):lk (prs (a++(d++t))) key=lk (prs (a++t)) key:=by
 induction a with
 | cons e a ih=>
   simp only [List.cons_append,prs,List.map_cons,lk]
   simp only [prs] at ih
   rw [ih]
 | nil=>
   simp only [List.nil_append]
   induction d with
   | nil=>rfl
   | cons e d ih=>
     simp only [List.cons_append,prs,List.map_cons,lk]
     rw [if_neg (hk e (by simp))]
     exact ih fun e he=>hk e (List.mem_cons_of_mem _ he)
theorem suffix_split {a b q:List Mq.Hp} (h:q<:+a++b):q<:+b∨∃ a',a'≠[]∧a'<:+a∧q=a'++b:=by
 obtain ⟨p,hp⟩:=h
 rcases List.append_eq_append_iff.1 hp with ⟨c,h1,h2⟩ | ⟨c,h1,h2⟩
 · by_cases hc:c=[]
   · subst hc
     exact .inl ⟨[],by simpa using h2⟩
   · exact .inr ⟨c,hc,⟨p,h1.symm⟩,h2⟩
 · exact .inl ⟨c,h2.symm⟩
theorem suffix_last {a:List Mq.Hp} {c:List Mq.Hp} {e:Mq.Hp} (h:c<:+a++[e]) (hc:c≠[]):∃ c0,c=c0++[e]:=by
 obtain ⟨p,hp⟩:=h
 have h1:c=c.dropLast++[c.getLast hc]:=(List.dropLast_concat_getLast hc).symm
 rw [h1,← List.append_assoc] at hp
 have:=List.append_inj' hp rfl
 have h2:c.getLast hc=e:=by simpa using this.2
 exact ⟨c.dropLast,by rw [← h2]; exact h1⟩
theorem Std.link (h:Zip ss σ All s x y u r v rest) (hl:ss.length≤1024) {r0 d t:List Mq.Hp} {e:Mq.Hp} (hr:r=r0++[e]) (hd:rest=d++t) (hds':∀ a∈d,σ a.2.1= !s) {p:Nat} (hq:Cx ss p q) (hst:Std σ s u r v rest False key q):
 ∃ q',Cx (lnk ss e.1 (hdH t)) p q'∧lk (prs q') key=lk (prs q) key∧q'.length≤q.length∧Std σ (!s) v d (u++r) t True key q':=by
 subst hr hd
 have hown:=h.own
 obtain ⟨j,_,hj,_⟩:=hown.at e (by simp)
 have hnn:∀ {q:List Mq.Hp},q<:+v++(d++t)→e.1∉hds q:=fun hs hm=>not_r h (a:=e.1) (by simp [hds]) ((hs.map (·.1)).subset hm)
 rcases hst with ⟨hk,hs⟩ | ⟨hk,hs⟩ | ⟨hf,_⟩
 · have hkd:∀ a∈d,a.2.1≠key:=fun a ha q=>by
    have:=hds' a ha
    rw [q,hk] at this
    revert this
    cases s<;>simp
   rcases suffix_split hs with hs1 | ⟨c,hc,hcs,rfl⟩
   ·
    refine ⟨q,Cx.aside hl hj hq (hnn (hs1.trans (List.suffix_append _ _))),rfl,Nat.le_refl _,?_⟩
    rcases suffix_split hs1 with hs2 | ⟨c,hc,hcs,rfl⟩
    · exact .inr (.inl ⟨by rw [Bool.not_not]; exact hk,hs2.trans (List.suffix_append _ _)⟩)
    · exact .inr (.inr ⟨trivial,by rw [Bool.not_not]; exact hk,by
       obtain ⟨a,ha⟩:=hcs
       exact ⟨a,by rw [← List.append_assoc,ha]⟩⟩)
   ·
    rw [← List.append_assoc] at hcs
    obtain ⟨c0,rfl⟩:=suffix_last hcs hc
    have hn1:(hds (c0++e::(d++t))).Nodup:=by
     have h1:(c0++[e]++(d++t)).Sublist (u++(r0++[e])++v++(d++t)):=by
      rw [show u++(r0++[e])++v++(d++t)=(u++r0++[e])++(v++(d++t)) by simp]
      exact List.Sublist.append hcs.sublist (List.sublist_append_right _ _)
     rw [show c0++e::(d++t)=c0++[e]++(d++t) by simp]
     exact (h1.map _).nodup h.nd
    rw [show c0++[e]++(d++t)=c0++e::(d++t) by simp] at hq
    refine ⟨c0++e::t,Cx.relink hl hj c0 p hq hn1,?_,by simp,?_⟩
    · rw [show c0++e::t=(c0++[e])++t by simp,lk_skip hkd]
    · refine .inr (.inl ⟨by rw [Bool.not_not]; exact hk,?_⟩)
      obtain ⟨a,ha⟩:=hcs
      exact ⟨a,by rw [show u++(r0++[e])++t=(u++r0++[e])++t by simp,← ha]; simp⟩
 · refine ⟨q,Cx.aside hl hj hq (hnn hs),rfl,Nat.le_refl _,.inl ⟨hk,?_⟩⟩
   rw [List.append_assoc]
   exact hs
 · exact absurd hf id
end
end Go.Proofs.YtkogifmjbmnpgaaGreat.Zp
namespace Go.Proofs.YtkogifmjbmnpgaaGreat.Zp
open Go Hm Ar Mm Wk Pc Me Mq Pn Gt Qs
structure Wy where
 Pos:(Nat→Prop)→ByteArray→List Mq.Hp→Prop
 Cel:(Nat→Prop)→ByteArray→Nat→Prop
 few:Nat
 cap:Nat
 pub:Bool
structure Wy.Ok (Y:Wy) (L:Lm) (l:List Pr):Prop where
 k:1≤L.k∧L.k≤8
 wl:∀ w:Nat,(w:Int)<L.k→2+w<L.xs.length
 xb:∀ x∈L.xs,0≤x∧x≤18446744073709551615
 nexts:Nexts L.ss
 len:L.ss.length≤1024
 F:L.F=false
 p1:1≤Cl.nth L.xs 0
 tb:∀ i,(tab L.ds i).1≤65536∧(tab L.ds i).2≤4000000
 few:Y.few≤900∧Y.few≤Y.cap∧Y.cap≤1000000
 next:∀ {o:Nat→Prop} {key:ByteArray} {e:Mq.Hp} {q:List Mq.Hp},Y.Pos o key (e::q)→Y.Pos o key q
 mono:∀ {o o':Nat→Prop} {key:ByteArray} {q:List Mq.Hp},(∀ e,o e→o' e)→Y.Pos o key q→Y.Pos o' key q
 celm:∀ {o o':Nat→Prop} {key:ByteArray} {c:Nat},(∀ e,o e→o' e)→Y.Cel o key c→Y.Cel o' key c
 cel:∀ {o:Nat→Prop} {key:ByteArray} {c:Nat},Y.Cel o key c→c≤5000000∧∃ q,Cx L.ss (word L.xs c) q∧Y.Pos o key q∧Pc.lk (prs q) key=Pc.lk l key∧q.length≤Y.few
 now:∀ (o:Nat→Prop) (key:ByteArray),(Y.pub=false→∀ e,o e)→∃ c:Nat,Gt.cellOf (sm key) (Me.now L.xs L.ds)=(c:Int)∧Y.Cel o key c
section
variable {Y Y':Wy} {L L':Lm} {l:List Pr} {old old':Int→Nat→Prop} {w k:Nat} {key:ByteArray} {G:Gt.Ge}
inductive Rph (Y:Wy) (L:Lm) (l:List Pr) (old:Int→Nat→Prop) (key:ByteArray) (G:Gt.Ge):Nat→Prop
 | come:G.nx=1→G.C.at_=0→Rph Y L l old key G (Y.few+5)
 | put:G.nx=1→G.C.at_=1→Rph Y L l old key G (Y.few+4)
 | load:G.nx=2→Rph Y L l old key G (Y.few+3)
 | first (c:Nat):G.nx=3→G.W=new 0 (c:Int) (sm key) key→c≤5000000→Y.Cel (old G.C.period) key c→Rph Y L l old key G (Y.few+2)
 | look (q:List Mq.Hp):G.nx=3→G.W.nx=2→G.W.key=key→G.W.sum=sm key→G.W.found=0→G.W.nd.val=⟨#[]⟩→q≠[]→Cx L.ss G.W.at_ q→Y.Pos (old G.C.period) key q→
    Pc.lk (prs q) key=Pc.lk l key→G.W.read+q.length≤Y.cap→G.W.at_≤18446744073709551615→ -9223372036854775808≤G.W.cell∧G.W.cell≤9223372036854775807→Rph Y L l old key G (q.length+1)
 | leave:G.nx=4→Gt.Fits (Pc.lk l key) G.W→Rph Y L l old key G 1
structure Rok (Y:Wy) (L:Lm) (l:List Pr) (old:Int→Nat→Prop) (w:Nat) (key:ByteArray) (G:Gt.Ge) (k:Nat):Prop where
 ky:G.key=key
 sum:G.sum=sm key
 wk:G.C.worker=w
 gat:G.gat=0
 pd:0≤G.C.period∧G.C.period≤18446744073709551615
 cnt:Cl.nth L.xs (2+w)=if 2≤G.nx then G.C.period else 0
 pr:(G.nx=1∧G.C.at_=0)∨(1≤G.C.period∧G.C.period≤Cl.nth L.xs 0)
 ph:Rph Y L l old key G k
theorem Rok.to (h:Rok Y L l old w key G k) (hc:Cl.nth L'.xs (2+w)=Cl.nth L.xs (2+w)) (h0:Cl.nth L.xs 0≤Cl.nth L'.xs 0) (hs:L'.ss=L.ss) (hf:Y'.few=Y.few) (hcp:Y.cap≤Y'.cap)
 (hC:∀ c,2≤G.nx→Y.Cel (old G.C.period) key c→Y'.Cel (old' G.C.period) key c) (hP:∀ q,2≤G.nx→Y.Pos (old G.C.period) key q→Y'.Pos (old' G.C.period) key q):Rok Y' L' l old' w key G k:=by
 refine ⟨h.ky,h.sum,h.wk,h.gat,h.pd,by rw [hc]; exact h.cnt,h.pr.imp id (fun q=>⟨q.1,Int.le_trans q.2 h0⟩),?_⟩
 cases h.ph with
 | come a b=>rw [← hf]; exact .come a b
 | put a b=>rw [← hf]; exact .put a b
 | load a=>rw [← hf]; exact .load a
 | first c a b hcb q=>rw [← hf]; exact .first c a b hcb (hC c (by omega) q)
 | look q a1 a2 a3 a4 a5 a6 a7 a8 a9 a10 a11 a12 a13=>exact .look q a1 a2 a3 a4 a5 a6 a7 (by rw [hs]; exact a8) (hP q (by omega) a9) a10 (by omega) a12 a13
 | leave a b=>exact .leave a b
theorem Rok.moved (h:Rok Y L l old w key G k) (hc:Cl.nth L'.xs (2+w)=Cl.nth L.xs (2+w)) (h0:Cl.nth L.xs 0≤Cl.nth L'.xs 0) (hs:L'.ss=L.ss):Rok Y L' l old w key G k:=
 h.to hc h0 hs rfl (Nat.le_refl _) (fun _ _ q=>q) (fun _ _ q=>q)
theorem Rok.mono (hY:Y.Ok L l) (h:Rok Y L l old w key G k) (ho:2≤G.nx→∀ e,old G.C.period e→old' G.C.period e):Rok Y L l old' w key G k:=
 h.to rfl (Int.le_refl _) rfl rfl (Nat.le_refl _) (fun _ hx=>hY.celm (ho hx)) (fun _ hx=>hY.mono (ho hx))
end
end Go.Proofs.YtkogifmjbmnpgaaGreat.Zp
namespace Go.Proofs.YtkogifmjbmnpgaaGreat.Zp
open Go Hm Ar Mm Wk Pc Me Mq Pn Gt Qs
def oldW (W:Wt) (w:Nat) (p:Int) (_:Nat):Prop:=W.at_≤1∨(W.at_=2∧W.passed≤w∧p<W.period)
theorem oldW_over {W:Wt} (h:3≤W.at_) (w:Nat) (p:Int) (e:Nat):¬oldW W w p e:=by
 rintro (q | q)<;>omega
section
variable {Y:Wy} {L:Lm} {l:List Pr} {w k n:Nat} {key:ByteArray} {G:Gt.Ge} {W:Wt}
theorem sum64_in {x:Int} (h0:0≤x) (h1:x≤4611686018427387904):Cl.sum64 x 1=x+1:=by
 unfold Cl.sum64
 omega
theorem Rok.waits (hY:Y.Ok L l) (hb:Cl.nth L.xs 0≤4611686018427387904) (hr:readyB L.xs L.hs W=true) (hp0:W.at_≤1→W.passed=0) (h3:W.at_≤3) (hw:w<n) (hn:(n:Int)≤L.k) (h:Rok Y L l (oldW W w) w key G k):
 Rok Y {L with xs:=(wstep n L.xs L.hs W).1,hs:=(wstep n L.xs L.hs W).2.1} l (oldW (wstep n L.xs L.hs W).2.2 w) w key G k:=by
 have hk:=hY.k
 have hxl:=hY.wl 0 (by omega)
 have h0:=Cl.getD_bd hY.xb 0
 have hs:=sum64_in h0.1 hb
 unfold wstep
 split
 · have ho:2≤G.nx→∀ e,oldW W w G.C.period e→oldW {W with at_:=1} w G.C.period e:=fun _ _ _=>.inl (by simp)
   exact h.to (L':={L with hs:=L.hs.set 0 W.worker}) rfl (Int.le_refl _) rfl rfl (Nat.le_refl _) (fun _ hx=>hY.celm (ho hx)) (fun _ hx=>hY.mono (ho hx))
 split
 · rename_i h1
   have hn:∀ i,i≠0→Cl.nth (L.xs.set 0 (Cl.sum64 (Cl.nth L.xs 0) 1)) i=Cl.nth L.xs i:=fun i hi=>by
    rw [nth_set _ _ _ (by omega),if_neg hi]
   have ho:2≤G.nx→∀ e,oldW W w G.C.period e→oldW {W with period:=Cl.sum64 (Cl.nth L.xs 0) 1,at_:=2} w G.C.period e:=fun hx _ _=>by
    refine .inr ⟨rfl,?_,?_⟩
    · show W.passed≤w
      rw [hp0 (by omega)]
      exact Nat.zero_le _
    · show G.C.period<Cl.sum64 (Cl.nth L.xs 0) 1
      rw [hs]
      have:=h.pr.resolve_left (fun q=>by omega)
      omega
   refine h.to (L':={L with xs:=L.xs.set 0 (Cl.sum64 (Cl.nth L.xs 0) 1)}) (hn _ (by omega)) ?_ rfl rfl (Nat.le_refl _) (fun _ hx=>hY.celm (ho hx)) (fun _ hx=>hY.mono (ho hx))
   show _≤Cl.nth (L.xs.set 0 (Cl.sum64 (Cl.nth L.xs 0) 1)) 0
   rw [nth_set _ _ _ (by omega),if_pos rfl,hs]
   omega
 split
 · rename_i h2
   refine h.mono hY fun hx _ ho=>?_
   have hc:=h.cnt
   rw [if_pos hx] at hc
   have hp:=h.pr.resolve_left (fun q=>by omega)
   rcases ho with q | ⟨_,q1,q2⟩
   · omega
   unfold readyB passB at hr
   rw [if_neg (by omega),if_pos h2] at hr
   have hr:=of_decide_eq_true hr
   have hne:W.passed≠w:=by
    intro e
    rw [e,hc] at hr
    omega
   refine .inr ⟨?_,?_,q2⟩
   · show (if n≤W.passed+1 then 3 else 2)=2
     rw [if_neg (by omega)]
   · show W.passed+1≤w
     omega
 · have ho:2≤G.nx→∀ e,oldW W w G.C.period e→oldW {W with at_:=4} w G.C.period e:=fun _ _ ho=>by
    rcases ho with q | q<;>omega
   exact h.to (L':={L with hs:=L.hs.set 0 (-1)}) rfl (Int.le_refl _) rfl rfl (Nat.le_refl _) (fun _ hx=>hY.celm (ho hx)) (fun _ hx=>hY.mono (ho hx))
end
structure Rn where
 w:Nat
 keys:List ByteArray
 g:Option Gt.Ge
 n:Nat
def Rn.key (R:Rn):ByteArray:=R.keys.getD (R.n % R.keys.length) ⟨#[]⟩
def RnOk (Y:Wy) (L:Lm) (l:List Pr) (old:Nat→Int→Nat→Prop) (R:Rn) (k:Nat):Prop:=
 match R.g with
 | none=>Cl.nth L.xs (2+R.w)=0∧k=0
 | some G=>Rok Y L l (old R.w) R.w R.key G k
section
variable {Y Y':Wy} {L L':Lm} {l:List Pr} {old old':Nat→Int→Nat→Prop} {R O:Rn} {k k':Nat}
theorem RnOk.moved (h:RnOk Y L l old R k) (hc:Cl.nth L'.xs (2+R.w)=Cl.nth L.xs (2+R.w)) (h0:Cl.nth L.xs 0≤Cl.nth L'.xs 0) (hs:L'.ss=L.ss):RnOk Y L' l old R k:=by
 unfold RnOk at h ⊢
 split
 · rename_i q
   rw [q] at h
   exact ⟨hc.trans h.1,h.2⟩
 · rename_i G q
   rw [q] at h
   exact h.moved hc h0 hs
theorem RnOk.to {L':Lm} (h:RnOk Y L l old R k) (hc:Cl.nth L'.xs (2+R.w)=Cl.nth L.xs (2+R.w)) (h0:Cl.nth L.xs 0≤Cl.nth L'.xs 0) (hs:L'.ss=L.ss) (hf:Y'.few=Y.few) (hcp:Y.cap≤Y'.cap)
 (hC:∀ key c p,Y.Cel (old R.w p) key c→Y'.Cel (old' R.w p) key c) (hP:∀ key q p,Y.Pos (old R.w p) key q→Y'.Pos (old' R.w p) key q):RnOk Y' L' l old' R k:=by
 unfold RnOk at h ⊢
 split
 · rename_i q
   rw [q] at h
   exact ⟨hc.trans h.1,h.2⟩
 · rename_i G q
   rw [q] at h
   exact h.to hc h0 hs hf hcp (fun _ _=>hC _ _ _) (fun _ _=>hP _ _ _)
theorem RnOk.waits {n:Nat} {W:Wt} (hY:Y.Ok L l) (hb:Cl.nth L.xs 0≤4611686018427387904) (hr:readyB L.xs L.hs W=true) (hp0:W.at_≤1→W.passed=0) (h3:W.at_≤3) (hw:R.w<n) (hn:(n:Int)≤L.k) (h:RnOk Y L l (oldW W) R k):
 RnOk Y {L with xs:=(wstep n L.xs L.hs W).1,hs:=(wstep n L.xs L.hs W).2.1} l (oldW (wstep n L.xs L.hs W).2.2) R k:=by
 unfold RnOk at h ⊢
 split
 · rename_i q
   rw [q] at h
   refine ⟨?_,h.2⟩
   show Cl.nth (wstep n L.xs L.hs W).1 _=_
   unfold wstep
   split
   · exact h.1
   split
   · have hxl:=hY.wl R.w (by omega)
     show Cl.nth (L.xs.set 0 _) _=_
     rw [nth_set _ _ _ (by omega),if_neg (by omega)]
     exact h.1
   split<;>exact h.1
 · rename_i G q
   rw [q] at h
   exact Rok.waits hY hb hr hp0 h3 hw hn h
end
end Go.Proofs.YtkogifmjbmnpgaaGreat.Zp
namespace Go.Proofs.YtkogifmjbmnpgaaGreat.Zp
open Go Hm Ar Mm Wk Pc Me Mq Pu Pn Gt
def sd (n:Nat) (key:ByteArray):Bool:=decide (n≤bkt key (2*n))
theorem bkt_mod {n:Nat} (hp:FM.power n=true) (key:ByteArray):bkt key n=(sm key).toNat % n:=by
 have h:=sm_bd key
 have hn:=FM.power_bd hp
 unfold bkt FM.bucket
 rw [if_pos hp]
 obtain ⟨a,ha⟩:=Int.eq_ofNat_of_zero_le h.1
 rw [ha]
 simp only [Int.toNat_natCast]
 rw [← Int.natCast_emod,Int.toNat_natCast]
theorem bkt_two {n:Nat} (hp:FM.power n=true) (hp2:FM.power ((2*n:Nat):Int)=true) (key:ByteArray):bkt key (2*n) % n=bkt key n∧bkt key (2*n)<2*n∧bkt key (2*n)=bkt key n+(if sd n key=true then n else 0):=by
 have h1:=bkt_mod hp key
 have h2:=bkt_mod hp2 key
 have hn:=FM.power_bd hp
 have h3:bkt key (2*n) % n=bkt key n:=by
  rw [h1,h2,Nat.mod_mul_left_mod]
 have h4:bkt key (2*n)<2*n:=by rw [h2]; exact Nat.mod_lt _ (by omega)
 refine ⟨h3,h4,?_⟩
 have h5:bkt key n<n:=by rw [h1]; exact Nat.mod_lt _ (by omega)
 unfold sd
 by_cases q:n≤bkt key (2*n)
 · rw [if_pos (by simp [q])]
   have:bkt key (2*n) % n=bkt key (2*n)-n:=by
    rw [Nat.mod_eq_sub_mod q,Nat.mod_eq_of_lt (by omega)]
   omega
 · rw [if_neg (by simp [q])]
   rw [Nat.mod_eq_of_lt (by omega)] at h3
   omega
structure Zs where
 n:Nat
 B:Nat
 B2:Nat
 few:Nat
 cap:Nat
 pub:Bool
 All:Nat→List Mq.Hp
 s:Nat→Bool
 X:Nat→Nat
 Y:Nat→Nat
 u:Nat→List Mq.Hp
 r:Nat→List Mq.Hp
 v:Nat→List Mq.Hp
 rest:Nat→List Mq.Hp
def Zs.head (Z:Zs) (b:Nat):Nat:=if decide (Z.n≤b)=Z.s (b % Z.n) then Z.X (b % Z.n) else Z.Y (b % Z.n)
def Zs.fresh (Z:Zs) (e:Nat):Prop:=Z.u e=[]∧Z.v e=[]∧Z.All e=Z.r e++Z.rest e
structure Zs.Ok (Z:Zs) (L:Lm) (l:List Pr):Prop where
 pw:FM.power Z.n=true
 pw2:FM.power ((2*Z.n:Nat):Int)=true
 now:Me.now L.xs L.ds=if Z.pub=true then (2*Z.n,Z.B2) else (Z.n,Z.B)
 tb:∀ i,(tab L.ds i).1≤65536∧(tab L.ds i).2≤4000000
 k:1≤L.k∧L.k≤8
 kB:2+L.k≤Z.B
 xl:Z.B+Z.n≤L.xs.length∧Z.B+Z.n≤Z.B2∧(Z.pub=true→Z.B2+2*Z.n≤L.xs.length)
 bb:Z.B2≤4000000
 xb:∀ x∈L.xs,0≤x∧x≤18446744073709551615
 nexts:Nexts L.ss
 len:L.ss.length≤1024
 elder:∀ e,e<Z.n→Cl.nth L.xs (Z.B+e)=((hdH (Z.All e):Nat):Int)
 newer:Z.pub=true→∀ b,b<2*Z.n→Cl.nth L.xs (Z.B2+b)=((Z.head b:Nat):Int)
 zip:∀ e,e<Z.n→Zip L.ss (sd Z.n) (Z.All e) (Z.s e) (Z.X e) (Z.Y e) (Z.u e) (Z.r e) (Z.v e) (Z.rest e)
 lk:∀ key,Pc.lk l key=Pc.lk (prs (Z.All (bkt key Z.n))) key
 F:L.F=false
 p1:1≤Cl.nth L.xs 0
 few:(∀ e,e<Z.n→(Z.All e).length≤Z.few)∧Z.few≤900∧Z.few≤Z.cap∧Z.cap≤1000000
 fr:Z.pub=false→∀ e,e<Z.n→Z.fresh e
 dj:∀ e e',e<Z.n→e'<Z.n→e≠e'→∀ a∈hds (Z.All e),a∉hds (Z.All e')
theorem Zip.length {ss:List Sl} {σ:ByteArray→Bool} {All:List Mq.Hp} {s:Bool} {x y:Nat} {u r v rest:List Mq.Hp} (h:Zip ss σ All s x y u r v rest):u.length+r.length+v.length+rest.length=All.length:=by
 have hf:∀ (q:List Mq.Hp),(q.filter fun e=>σ e.2.1==s).length+(q.filter fun e=>σ e.2.1== !s).length=q.length:=by
  intro q
  induction q with
  | nil=>rfl
  | cons e t ih=>
    rw [List.filter_cons,List.filter_cons]
    cases σ e.2.1<;>cases s<;>simp at ih ⊢<;>omega
 have h1:=hf All
 have h2:=hf rest
 rw [h.fs,h.fv] at h1
 simp only [List.length_append] at h1
 omega
section
variable {Z:Zs} {L:Lm} {l:List Pr} {w:Nat}
theorem Zs.Ok.way (hZ:Z.Ok L l) (key:ByteArray):∃ q,Cx L.ss (Z.head (bkt key (2*Z.n))) q∧Std (sd Z.n) (Z.s (bkt key Z.n)) (Z.u (bkt key Z.n)) (Z.r (bkt key Z.n)) (Z.v (bkt key Z.n)) (Z.rest (bkt key Z.n)) False key q∧Pc.lk (prs q) key=Pc.lk l key∧q.length≤(Z.All (bkt key Z.n)).length:=by
 obtain ⟨h1,h2,h3⟩:=bkt_two hZ.pw hZ.pw2 key
 have he:bkt key Z.n<Z.n:=(bkt_lt hZ.pw key).1
 have hz:=hZ.zip _ he
 have hsd:decide (Z.n≤bkt key (2*Z.n))=sd Z.n key:=rfl
 have hlk:∀ (q:List Mq.Hp) (b:Bool),b=sd Z.n key→Pc.lk (prs (q.filter fun e=>sd Z.n e.2.1==b)) key=Pc.lk (prs q) key:=by
  intro q b hb
  induction q with
  | nil=>rfl
  | cons e t ih=>
    rw [List.filter_cons]
    by_cases hk:e.2.1=key
    · rw [if_pos (by rw [hk,hb]; simp)]
      simp only [prs,List.map_cons,Pc.lk,if_pos hk]
    · split
      · simp only [prs,List.map_cons,Pc.lk,if_neg hk] at ih ⊢
        exact ih
      · simp only [prs,List.map_cons,Pc.lk,if_neg hk] at ih ⊢
        exact ih
 have hall:=hZ.lk key
 unfold Zs.head
 rw [h1,hsd]
 by_cases hs:sd Z.n key=Z.s (bkt key Z.n)
 · rw [if_pos hs]
   refine ⟨_,hz.own,.inl ⟨hs,List.suffix_refl _⟩,?_,by have:=Zip.length hz; simp only [List.length_append]; omega⟩
   rw [hall,← hlk (Z.All (bkt key Z.n)) (Z.s (bkt key Z.n)) hs.symm,hz.fs,← hlk (Z.u (bkt key Z.n)++Z.r (bkt key Z.n)++Z.rest (bkt key Z.n)) (Z.s (bkt key Z.n)) hs.symm,List.filter_append,filter_all hz.su]
 · rw [if_neg hs]
   have hs':sd Z.n key= !(Z.s (bkt key Z.n)):=by
    revert hs
    cases sd Z.n key<;>cases Z.s (bkt key Z.n)<;>simp
   refine ⟨_,hz.oth,.inr (.inl ⟨hs',List.suffix_refl _⟩),?_,by have:=Zip.length hz; simp only [List.length_append]; omega⟩
   rw [hall,← hlk (Z.All (bkt key Z.n)) (!(Z.s (bkt key Z.n))) hs'.symm,hz.fv,← hlk (Z.v (bkt key Z.n)++Z.rest (bkt key Z.n)) (!(Z.s (bkt key Z.n))) hs'.symm,List.filter_append,filter_all hz.sv]
theorem Zs.Ok.elderWay (hZ:Z.Ok L l) (key:ByteArray) (hf:Z.fresh (bkt key Z.n)) {o:Prop} (ho:o):Cx L.ss (hdH (Z.All (bkt key Z.n))) (Z.All (bkt key Z.n))∧Std (sd Z.n) (Z.s (bkt key Z.n)) (Z.u (bkt key Z.n)) (Z.r (bkt key Z.n)) (Z.v (bkt key Z.n)) (Z.rest (bkt key Z.n)) o key (Z.All (bkt key Z.n)):=by
 have he:bkt key Z.n<Z.n:=(bkt_lt hZ.pw key).1
 have hz:=hZ.zip _ he
 obtain ⟨f1,f2,f3⟩:=hf
 have hc:Cx L.ss (Z.X (bkt key Z.n)) (Z.All (bkt key Z.n)):=by
  have:=hz.own
  rw [f1,List.nil_append,← f3] at this
  exact this
 refine ⟨by rw [← Cx.hd hc]; exact hc,?_⟩
 by_cases hs:sd Z.n key=Z.s (bkt key Z.n)
 · exact .inl ⟨hs,by rw [f1,List.nil_append,← f3]; exact List.suffix_refl _⟩
 · refine .inr (.inr ⟨ho,?_,by rw [← f3]; exact List.suffix_refl _⟩)
   revert hs
   cases sd Z.n key<;>cases Z.s (bkt key Z.n)<;>simp
def Zs.wy (Z:Zs):Wy:=⟨fun o key q=>Std (sd Z.n) (Z.s (bkt key Z.n)) (Z.u (bkt key Z.n)) (Z.r (bkt key Z.n)) (Z.v (bkt key Z.n)) (Z.rest (bkt key Z.n)) (o (bkt key Z.n)) key q,
 fun o key c=>(c=Z.B2+bkt key (2*Z.n)∧Z.pub=true)∨(c=Z.B+bkt key Z.n∧o (bkt key Z.n)∧Z.fresh (bkt key Z.n)),Z.few,Z.cap,Z.pub⟩
theorem Zs.Ok.wl (hZ:Z.Ok L l) (w:Nat) (hw:(w:Int)<L.k):2+w<L.xs.length:=by
 have hkB:=hZ.kB
 have hxl:=hZ.xl.1
 have hn:=FM.power_bd hZ.pw
 omega
theorem Zs.Ok.ways (hZ:Z.Ok L l):Z.wy.Ok L l:=by
 have hbd:=hZ.bb
 have hxl:=hZ.xl
 have hn1:=FM.power_bd hZ.pw
 refine ⟨hZ.k,hZ.wl,hZ.xb,hZ.nexts,hZ.len,hZ.F,hZ.p1,hZ.tb,hZ.few.2,fun h=>Std.next h,fun ho h=>Std.mono h (ho _),fun ho h=>h.imp id (fun q=>⟨q.1,ho _ q.2.1,q.2.2⟩),fun {o key c} hc=>?_,fun o key ho=>?_⟩
 · obtain ⟨t1,t2,t3⟩:=bkt_two hZ.pw hZ.pw2 key
   have he:bkt key Z.n<Z.n:=(bkt_lt hZ.pw key).1
   rcases hc with ⟨rfl,hp⟩ | ⟨rfl,ho,hf⟩
   · obtain ⟨q,q1,q2,q3,q4⟩:=hZ.way key
     have hw1:word L.xs ((Z.B2+bkt key (2*Z.n):Nat):Int)=Z.head (bkt key (2*Z.n)):=by
      unfold word
      rw [if_pos (by have:=hxl.2.2 hp; omega),Int.toNat_natCast,hZ.newer hp _ t2,Int.toNat_natCast]
     rw [hw1]
     exact ⟨by omega,q,q1,q2.mono (fun f=>absurd f id),q3,Nat.le_trans q4 (hZ.few.1 _ he)⟩
   · obtain ⟨q1,q2⟩:=hZ.elderWay key hf ho
     have hw1:word L.xs ((Z.B+bkt key Z.n:Nat):Int)=hdH (Z.All (bkt key Z.n)):=by
      unfold word
      rw [if_pos (by omega),Int.toNat_natCast,hZ.elder _ he,Int.toNat_natCast]
     rw [hw1]
     exact ⟨by omega,_,q1,q2,(hZ.lk key).symm,hZ.few.1 _ he⟩
 · have he:bkt key Z.n<Z.n:=(bkt_lt hZ.pw key).1
   have hnow:=hZ.now
   cases hp:Z.pub with
   | true=>
     rw [hp,if_pos rfl] at hnow
     refine ⟨Z.B2+bkt key (2*Z.n),?_,.inl ⟨rfl,hp⟩⟩
     rw [hnow]
     unfold Gt.cellOf
     simp only
     rw [if_neg (by omega),(bkt_lt hZ.pw2 key).2]
     simp
   | false=>
     rw [hp,if_neg (by simp)] at hnow
     refine ⟨Z.B+bkt key Z.n,?_,.inr ⟨rfl,ho hp _,hZ.fr hp _ he⟩⟩
     rw [hnow]
     unfold Gt.cellOf
     simp only
     rw [if_neg (by omega),(bkt_lt hZ.pw key).2]
     simp
end
end Go.Proofs.YtkogifmjbmnpgaaGreat.Zp
namespace Go.Proofs.YtkogifmjbmnpgaaGreat.Zp
open Go Hm Ar Mm Wk Pc Me Mq Pu Pn Gt Qs
theorem Zip.sub {ss:List Sl} {σ:ByteArray→Bool} {All:List Mq.Hp} {s:Bool} {x y:Nat} {u r v rest:List Mq.Hp} (h:Zip ss σ All s x y u r v rest):∀ a∈u++r++v++rest,a∈All:=by
 intro a ha
 have h1:∀ b,a∈All.filter (fun e=>σ e.2.1==b)→a∈All:=fun b q=>(List.mem_filter.1 q).1
 have ha:a∈u++r∨a∈v∨a∈rest:=by
  simp only [List.mem_append] at ha ⊢
  rcases ha with ((q | q) | q) | q
  · exact .inl (.inl q)
  · exact .inl (.inr q)
  · exact .inr (.inl q)
  · exact .inr (.inr q)
 rcases ha with q | q | q
 · exact h1 s (by rw [h.fs]; exact List.mem_append_left _ q)
 · exact h1 (!s) (by rw [h.fv]; exact List.mem_append_left _ q)
 · by_cases hs:σ a.2.1=s
   · exact h1 s (by rw [h.fs]; exact List.mem_append_right _ (List.mem_filter.2 ⟨q,by simp [hs]⟩))
   · exact h1 (!s) (by rw [h.fv]; exact List.mem_append_right _ (List.mem_filter.2 ⟨q,by revert hs; cases σ a.2.1<;>cases s<;>simp⟩))
theorem Zip.aside {ss:List Sl} {σ:ByteArray→Bool} {All:List Mq.Hp} {s:Bool} {x y:Nat} {u r v rest:List Mq.Hp} (h:Zip ss σ All s x y u r v rest) (hl:ss.length≤1024) {a z j:Nat} (hj:IsAt ss a j) (ha:a∉hds All):Zip (lnk ss a z) σ All s x y u r v rest:=by
 have hsub:∀ q:List Mq.Hp,(∀ b∈q,b∈u++r++v++rest)→a∉hds q:=fun q hq hm=>by
  obtain ⟨b,hb,rfl⟩:=List.mem_map.1 hm
  exact ha (List.mem_map.2 ⟨b,h.sub b (hq b hb),rfl⟩)
 exact {h with own:=Cx.aside hl hj h.own (hsub _ fun b hb=>by simp only [List.mem_append] at hb ⊢; rcases hb with (q | q) | q<;>simp [q]),oth:=Cx.aside hl hj h.oth (hsub _ fun b hb=>by simp only [List.mem_append] at hb ⊢; rcases hb with q | q<;>simp [q])}
def turnF {α:Type} (f:Nat→α) (e:Nat) (a:α) (i:Nat):α:=if i=e then a else f i
theorem turnF_at {α:Type} (f:Nat→α) (e:Nat) (a:α):turnF f e a e=a:=by simp [turnF]
theorem turnF_ne {α:Type} (f:Nat→α) {e i:Nat} (a:α) (h:i≠e):turnF f e a i=f i:=by simp [turnF,h]
def Zs.linked (Z:Zs) (e:Nat) (d t:List Mq.Hp):Zs:=
 {Z with s:=turnF Z.s e (!Z.s e),X:=turnF Z.X e (Z.Y e),Y:=turnF Z.Y e (Z.X e),u:=turnF Z.u e (Z.v e),r:=turnF Z.r e d,v:=turnF Z.v e (Z.u e++Z.r e),rest:=turnF Z.rest e t}
section
variable {Z:Zs} {L:Lm} {l:List Pr} {old old':Int→Nat→Prop} {oldn oldn':Nat→Int→Nat→Prop} {w k e:Nat} {key:ByteArray} {G:Gt.Ge} {r0 d t:List Mq.Hp} {a:Mq.Hp}
theorem Zs.linked_head (Z:Zs) (e:Nat) (d t:List Mq.Hp) (b:Nat):(Z.linked e d t).head b=Z.head b:=by
 unfold Zs.head Zs.linked
 simp only
 by_cases h:b % Z.n=e
 · rw [h,turnF_at,turnF_at,turnF_at]
   cases decide (Z.n≤b)<;>cases Z.s e<;>simp
 · rw [turnF_ne _ _ h,turnF_ne _ _ h,turnF_ne _ _ h]
theorem Zs.Ok.linked (hZ:Z.Ok L l) (hpub:Z.pub=true) (he:e<Z.n) (hr:Z.r e=r0++[a]) (hd:Z.rest e=d++t) (hd0:d≠[]) (hds':∀ b∈d,sd Z.n b.2.1= !Z.s e) (ht:∀ b t',t=b::t'→sd Z.n b.2.1=Z.s e) (hbt:hdH t≤18446744073709551615):
 (Z.linked e d t).Ok {L with ss:=lnk L.ss a.1 (hdH t)} l:=by
 have hz:=hZ.zip e he
 have hza:=hz.own
 rw [hr] at hza
 obtain ⟨j,_,hj,_⟩:=hza.at a (by simp)
 have ha:a.1∈hds (Z.All e):=List.mem_map.2 ⟨a,hz.sub a (by rw [hr]; simp),rfl⟩
 have hlink:=Zip.link hz hZ.len hr hd hd0 hds' ht
 refine {hZ with nexts:=?_,len:=?_,newer:=?_,zip:=?_,fr:=fun q=>by have q:Z.pub=false:=q; rw [hpub] at q; simp at q}
 · show Nexts (lnk L.ss a.1 (hdH t))
   unfold lnk
   by_cases hk:(a.1-1) % 65536<L.ss.length
   · exact hZ.nexts.set hk _ ⟨by simp only; omega,by simp only; omega⟩
   · rw [List.set_eq_of_length_le (by omega)]
     exact hZ.nexts
 · show (lnk L.ss a.1 (hdH t)).length≤_
   rw [lnk_len]
   exact hZ.len
 · intro hp b hb
   rw [Zs.linked_head]
   exact hZ.newer hp b hb
 · intro i hi
   show Zip (lnk L.ss a.1 (hdH t)) (sd Z.n) (Z.All i) (turnF Z.s e (!Z.s e) i) (turnF Z.X e (Z.Y e) i) (turnF Z.Y e (Z.X e) i) (turnF Z.u e (Z.v e) i) (turnF Z.r e d i) (turnF Z.v e (Z.u e++Z.r e) i) (turnF Z.rest e t i)
   by_cases hie:i=e
   · subst hie
     simp only [turnF_at]
     exact hlink
   · simp only [turnF_ne _ _ hie]
     exact Zip.aside (hZ.zip i hi) hZ.len hj (hZ.dj e i he hi (fun q=>hie q.symm) _ ha)
theorem Rok.linked (hZ:Z.Ok L l) (he:e<Z.n) (hr:Z.r e=r0++[a]) (hd:Z.rest e=d++t) (hds':∀ b∈d,sd Z.n b.2.1= !Z.s e) (hold:∀ p,¬old p e) (hold':∀ p,old' p e) (hke:∀ p i,i≠e→old p i→old' p i) (h:Rok Z.wy L l old w key G k):
 ∃ k',k'≤k∧Rok (Z.linked e d t).wy {L with ss:=lnk L.ss a.1 (hdH t)} l old' w key G k':=by
 have hz:=hZ.zip e he
 have hza:=hz.own
 rw [hr] at hza
 obtain ⟨j,_,hj,_⟩:=hza.at a (by simp)
 have ha:a.1∈hds (Z.All e):=List.mem_map.2 ⟨a,hz.sub a (by rw [hr]; simp),rfl⟩
 have mk:∀ k',k'≤k→Rph (Z.linked e d t).wy {L with ss:=lnk L.ss a.1 (hdH t)} l old' key G k'→∃ k',k'≤k∧Rok (Z.linked e d t).wy {L with ss:=lnk L.ss a.1 (hdH t)} l old' w key G k':=fun k' hk' hp=>⟨k',hk',⟨h.ky,h.sum,h.wk,h.gat,h.pd,h.cnt,h.pr,hp⟩⟩
 cases h.ph with
 | come a b=>exact mk _ (Nat.le_refl _) (.come a b)
 | put a b=>exact mk _ (Nat.le_refl _) (.put a b)
 | load a=>exact mk _ (Nat.le_refl _) (.load a)
 | first c a1 b hcb hc=>
   rcases hc with hc | ⟨hc,ho,hfr⟩
   · exact mk _ (Nat.le_refl _) (.first c a1 b hcb (.inl hc))
   · by_cases hie:bkt key Z.n=e
     · exact absurd (hie▸ho) (hold _)
     · refine mk _ (Nat.le_refl _) (.first c a1 b hcb (.inr ⟨hc,hke _ _ hie ho,?_⟩))
       obtain ⟨f1,f2,f3⟩:=hfr
       refine ⟨?_,?_,?_⟩
       · show turnF Z.u e (Z.v e) (bkt key Z.n)=[]
         rw [turnF_ne _ _ hie]; exact f1
       · show turnF Z.v e (Z.u e++Z.r e) (bkt key Z.n)=[]
         rw [turnF_ne _ _ hie]; exact f2
       · show Z.All (bkt key Z.n)=turnF Z.r e d (bkt key Z.n)++turnF Z.rest e t (bkt key Z.n)
         rw [turnF_ne _ _ hie,turnF_ne _ _ hie]; exact f3
 | look q a1 a2 a3 a4 a5 a6 a7 a8 a9 a10 a11 a12 a13=>
   have hpos:G.W.at_≠0:=fun q=>a7 (a8.pos.1 q)
   by_cases hie:bkt key Z.n=e
   · have a9':Std (sd Z.n) (Z.s e) (Z.u e) (Z.r e) (Z.v e) (Z.rest e) False key q:=by
      have a9:=Std.mono a9 (fun o=>hold _ (hie▸o))
      rw [hie] at a9
      exact a9
     obtain ⟨q',p1,p2,p3,p4⟩:=Std.link hz hZ.len hr hd hds' a8 a9'
     refine mk (q'.length+1) (by omega) (.look q' a1 a2 a3 a4 a5 a6 (fun e=>hpos (p1.pos.2 e)) p1 ?_ (p2.trans a10) (Nat.le_trans (Nat.add_le_add_left p3 _) a11) a12 a13)
     show Std (sd Z.n) (turnF Z.s e (!Z.s e) (bkt key Z.n)) (turnF Z.u e (Z.v e) (bkt key Z.n)) (turnF Z.r e d (bkt key Z.n)) (turnF Z.v e (Z.u e++Z.r e) (bkt key Z.n)) (turnF Z.rest e t (bkt key Z.n)) _ key q'
     rw [hie]
     simp only [turnF_at]
     exact p4.mono fun _=>by
      have:old' G.C.period (bkt key Z.n):=by rw [hie]; exact hold' _
      exact this
   · have hb:bkt key Z.n<Z.n:=(bkt_lt hZ.pw key).1
     have hzb:=hZ.zip _ hb
     have hna:a.1∉hds (Z.All (bkt key Z.n)):=hZ.dj e _ he hb (fun q=>hie q.symm) _ ha
     have hnq:a.1∉hds q:=fun hm=>by
      obtain ⟨b,hbq,hbe⟩:=List.mem_map.1 hm
      refine hna (List.mem_map.2 ⟨b,hzb.sub b ?_,hbe⟩)
      rcases a9 with ⟨_,s⟩ | ⟨_,s⟩ | ⟨_,_,s⟩
      · have:=s.subset hbq
        simp only [List.mem_append] at this ⊢
        rcases this with (q | q) | q<;>simp [q]
      · have:=s.subset hbq
        simp only [List.mem_append] at this ⊢
        rcases this with q | q<;>simp [q]
      · have:=s.subset hbq
        simp only [List.mem_append] at this ⊢
        rcases this with q | q<;>simp [q]
     refine mk (q.length+1) (Nat.le_refl _) (.look q a1 a2 a3 a4 a5 a6 a7 (Cx.aside hZ.len hj a8 hnq) ?_ a10 a11 a12 a13)
     show Std (sd Z.n) (turnF Z.s e (!Z.s e) (bkt key Z.n)) (turnF Z.u e (Z.v e) (bkt key Z.n)) (turnF Z.r e d (bkt key Z.n)) (turnF Z.v e (Z.u e++Z.r e) (bkt key Z.n)) (turnF Z.rest e t (bkt key Z.n)) _ key q
     simp only [turnF_ne _ _ hie]
     exact Std.mono a9 (hke _ _ hie)
 | leave a b=>exact mk _ (Nat.le_refl _) (.leave a b)
theorem Zs.Ok.cells (hZ:Z.Ok L l) {xs' hs':List Int} {ds':List (Nat×Nat)} {ws':List Nat} (h1:∀ i,Z.B≤i→i<Z.B+Z.n→Cl.nth xs' i=Cl.nth L.xs i) (h2:Z.pub=true→∀ b,b<2*Z.n→Cl.nth xs' (Z.B2+b)=Cl.nth L.xs (Z.B2+b)) (hl:L.xs.length≤xs'.length)
 (hxb:∀ x∈xs',0≤x∧x≤18446744073709551615) (hnow:Me.now xs' ds'=Me.now L.xs L.ds) (htb:∀ i,(tab ds' i).1≤65536∧(tab ds' i).2≤4000000) (hp1:1≤Cl.nth xs' 0):Z.Ok {L with xs:=xs',ds:=ds',hs:=hs',ws:=ws'} l:=
 {hZ with now:=by show Me.now xs' ds'=_; rw [hnow]; exact hZ.now,tb:=htb,xl:=by have:=hZ.xl; exact ⟨Nat.le_trans this.1 hl,this.2.1,fun p=>Nat.le_trans (this.2.2 p) hl⟩,xb:=hxb,elder:=fun i hi=>by show Cl.nth xs' _=_; rw [h1 _ (by omega) (by omega)]; exact hZ.elder i hi,newer:=fun p b hb=>by show Cl.nth xs' _=_; rw [h2 p b hb]; exact hZ.newer p b hb,p1:=hp1}
theorem Zs.Ok.publish (hZ:Z.Ok L l) (_hp:Z.pub=false) {xs':List Int} (h1:∀ i,i≠1→Cl.nth xs' i=Cl.nth L.xs i) (hl:xs'.length=L.xs.length) (hxb:∀ x∈xs',0≤x∧x≤18446744073709551615) (hnow:Me.now xs' L.ds=(2*Z.n,Z.B2)) (h2:Z.B2+2*Z.n≤L.xs.length) (hnew:∀ b,b<2*Z.n→Cl.nth L.xs (Z.B2+b)=((Z.head b:Nat):Int)):Zs.Ok {Z with pub:=true} {L with xs:=xs'} l:=by
 have hkB:=hZ.kB
 have hk:=hZ.k
 have hxl:=hZ.xl
 exact {hZ with now:=hnow,xl:=⟨by show _≤xs'.length; rw [hl]; exact hxl.1,hxl.2.1,fun _=>by show _≤xs'.length; rw [hl]; exact h2⟩,xb:=hxb,elder:=fun i hi=>by show Cl.nth xs' (Z.B+i)=_; rw [h1 _ (by omega)]; exact hZ.elder i hi,newer:=fun _ b hb=>by show Cl.nth xs' (Z.B2+b)=_; rw [h1 _ (by omega)]; exact hnew b hb,fr:=fun q=>by simp at q,p1:=by show 1≤Cl.nth xs' 0; rw [h1 _ (by omega)]; exact hZ.p1}
theorem RnOk.publish {R:Rn} (h:RnOk Z.wy L l oldn R k):RnOk {Z with pub:=true}.wy L l oldn R k:=
 h.to rfl (Int.le_refl _) rfl rfl (Nat.le_refl _) (fun _ _ _ q=>q.imp (fun q=>⟨q.1,rfl⟩) id) (fun _ _ _ q=>q)
theorem RnOk.mono {R:Rn} (hY:Z.wy.Ok L l) (h:RnOk Z.wy L l oldn R k) (ho:∀ p e,oldn R.w p e→oldn' R.w p e):RnOk Z.wy L l oldn' R k:=
 h.to rfl (Int.le_refl _) rfl rfl (Nat.le_refl _) (fun _ _ _=>hY.celm (ho _)) (fun _ _ _=>hY.mono (ho _))
theorem Zs.Ok.parted (hZ:Z.Ok L l) (hp:∀ e,e<Z.n→Z.rest e=[]) {b:Nat} (hb:b<2*Z.n):Cx L.ss (Z.head b) ((Z.All (b % Z.n)).filter fun a=>sd Z.n a.2.1==decide (Z.n≤b)):=by
 have hn:=FM.power_bd hZ.pw
 have he:b % Z.n<Z.n:=Nat.mod_lt _ (by omega)
 have hz:=hZ.zip _ he
 rw [hp _ he] at hz
 obtain ⟨h1,h2⟩:=hz.parted
 unfold Zs.head
 by_cases hs:decide (Z.n≤b)=Z.s (b % Z.n)
 · rw [if_pos hs,hs]
   exact h1
 · rw [if_neg hs]
   have:decide (Z.n≤b)= !(Z.s (b % Z.n)):=by
    revert hs
    cases decide (Z.n≤b)<;>cases Z.s (b % Z.n)<;>simp
   rw [this]
   exact h2
theorem RnOk.linked {R:Rn} (hZ:Z.Ok L l) (he:e<Z.n) (hr:Z.r e=r0++[a]) (hd:Z.rest e=d++t) (hds':∀ b∈d,sd Z.n b.2.1= !Z.s e) (hold:∀ p,¬oldn R.w p e) (hold':∀ p,oldn' R.w p e) (hke:∀ p i,i≠e→oldn R.w p i→oldn' R.w p i) (h:RnOk Z.wy L l oldn R k):
 ∃ k',k'≤k∧RnOk (Z.linked e d t).wy {L with ss:=lnk L.ss a.1 (hdH t)} l oldn' R k':=by
 unfold RnOk at h ⊢
 split
 · rename_i q
   rw [q] at h
   exact ⟨k,Nat.le_refl _,h⟩
 · rename_i G q
   rw [q] at h
   exact Rok.linked hZ he hr hd hds' hold hold' hke h
end
end Go.Proofs.YtkogifmjbmnpgaaGreat.Zp
namespace Go.Proofs.YtkogifmjbmnpgaaGreat.Zp
open Go Hm Ar Mm Wk Pc Me Mq Pu Pn Gt Qs
structure Js where
 n:Nat
 B:Nat
 B2:Nat
 few:Nat
 cap:Nat
 pub:Bool
 C:Nat→List Mq.Hp
 jn:Nat→Bool
def Js.two (J:Js) (e:Nat):List Mq.Hp:=J.C e++J.C (e+J.n)
def Js.way (J:Js) (b:Nat):List Mq.Hp:=if b<J.n∧J.jn b=true∧J.C b≠[] then J.two b else J.C b
structure Js.Ok (J:Js) (L:Lm) (l:List Pr):Prop where
 pw:FM.power J.n=true
 pw2:FM.power ((2*J.n:Nat):Int)=true
 now:Me.now L.xs L.ds=if J.pub=true then (J.n,J.B2) else (2*J.n,J.B)
 tb:∀ i,(tab L.ds i).1≤65536∧(tab L.ds i).2≤4000000
 k:1≤L.k∧L.k≤8
 kB:2+L.k≤J.B
 xl:J.B+2*J.n≤L.xs.length∧J.B+2*J.n≤J.B2∧(J.pub=true→J.B2+J.n≤L.xs.length)
 bb:J.B2≤4000000
 xb:∀ x∈L.xs,0≤x∧x≤18446744073709551615
 nexts:Nexts L.ss
 len:L.ss.length≤1024
 elder:∀ b,b<2*J.n→Cl.nth L.xs (J.B+b)=((hdH (J.C b):Nat):Int)
 newer:J.pub=true→∀ e,e<J.n→Cl.nth L.xs (J.B2+e)=((hdH (J.two e):Nat):Int)
 all:J.pub=true→∀ e,e<J.n→J.jn e=true
 chain:∀ b,b<2*J.n→Cx L.ss (hdH (J.C b)) (J.way b)
 lk:∀ key,Pc.lk l key=Pc.lk (prs (J.C (bkt key (2*J.n)))) key
 own:∀ b,b<2*J.n→∀ a∈J.C b,bkt a.2.1 (2*J.n)=b
 F:L.F=false
 p1:1≤Cl.nth L.xs 0
 few:(∀ e,e<J.n→(J.two e).length≤J.few)∧J.few≤900∧J.few≤J.cap∧J.cap≤1000000
 nd:∀ b,b<2*J.n→(hds (J.C b)).Nodup
 dj:∀ b b',b<2*J.n→b'<2*J.n→b≠b'→∀ a∈hds (J.C b),a∉hds (J.C b')
def Js.wy (J:Js):Wy:=⟨fun _ key q=>q<:+J.way (bkt key (2*J.n))∨(J.pub=true∧q<:+J.two (bkt key J.n)),
 fun o key c=>(c=J.B+bkt key (2*J.n)∧(J.pub=false∨o 0))∨(c=J.B2+bkt key J.n∧J.pub=true),J.few,J.cap,true⟩
section
variable {J:Js} {L:Lm} {l:List Pr} {old old':Int→Nat→Prop} {w k e:Nat} {key:ByteArray} {G:Gt.Ge}
theorem Js.Ok.bk (hJ:J.Ok L l) (key:ByteArray):bkt key J.n<J.n∧bkt key (2*J.n)<2*J.n∧(bkt key (2*J.n)=bkt key J.n∨bkt key (2*J.n)=bkt key J.n+J.n):=by
 obtain ⟨h1,h2,h3⟩:=bkt_two hJ.pw hJ.pw2 key
 refine ⟨(bkt_lt hJ.pw key).1,h2,?_⟩
 split at h3<;>omega
theorem Js.Ok.ne (hJ:J.Ok L l) {b:Nat} (hb:b<2*J.n) (hk:b≠bkt key (2*J.n)):∀ a∈J.C b,a.2.1≠key:=fun a ha q=>by
 have:=hJ.own b hb a ha
 rw [q] at this
 exact hk this.symm
theorem lk_back {a d:List Mq.Hp} {key:ByteArray} (hk:∀ e∈d,e.2.1≠key):Pc.lk (prs (a++d)) key=Pc.lk (prs a) key:=by
 have:=lk_skip (a:=a) (d:=d) (t:=[]) hk
 simpa using this
theorem lk_front {a d:List Mq.Hp} {key:ByteArray} (hk:∀ e∈a,e.2.1≠key):Pc.lk (prs (a++d)) key=Pc.lk (prs d) key:=by
 have:=lk_skip (a:=[]) (d:=a) (t:=d) hk
 simpa using this
theorem Js.Ok.way_lk (hJ:J.Ok L l) (key:ByteArray):Pc.lk (prs (J.way (bkt key (2*J.n)))) key=Pc.lk l key:=by
 obtain ⟨h1,h2,h3⟩:=hJ.bk key
 rw [hJ.lk key]
 unfold Js.way
 split
 · rename_i q
   exact lk_back (hJ.ne (by omega) (by omega))
 · rfl
theorem Js.Ok.two_lk (hJ:J.Ok L l) (key:ByteArray):Pc.lk (prs (J.two (bkt key J.n))) key=Pc.lk l key:=by
 obtain ⟨h1,h2,h3⟩:=hJ.bk key
 rw [hJ.lk key]
 unfold Js.two
 have hn:=FM.power_bd hJ.pw
 rcases h3 with q | q
 · rw [lk_back (hJ.ne (by omega) (by omega)),q]
 · rw [lk_front (hJ.ne (by omega) (by omega)),q]
theorem Js.Ok.way_few (hJ:J.Ok L l) {b:Nat} (hb:b<2*J.n):(J.way b).length≤J.few:=by
 have h:=hJ.few.1
 unfold Js.way
 split
 · rename_i q
   exact h b q.1
 · by_cases q:b<J.n
   · have:=h b q
     unfold Js.two at this
     rw [List.length_append] at this
     omega
   · have:=h (b-J.n) (by omega)
     unfold Js.two at this
     rw [List.length_append,show b-J.n+J.n=b by omega] at this
     omega
theorem Js.Ok.both (hJ:J.Ok L l) (hp:J.pub=true) (he:e<J.n):Cx L.ss (hdH (J.two e)) (J.two e):=by
 have h1:=hJ.chain e (by omega)
 by_cases hc:J.C e=[]
 · have h2:=hJ.chain (e+J.n) (by omega)
   unfold Js.way at h2
   rw [if_neg (by omega)] at h2
   unfold Js.two
   rw [hc,List.nil_append]
   exact h2
 · unfold Js.way at h1
   rw [if_pos ⟨he,hJ.all hp e he,hc⟩] at h1
   have:hdH (J.two e)=hdH (J.C e):=by
    unfold Js.two hdH
    cases hq:J.C e with
    | nil=>exact absurd hq hc
    | cons a t=>rfl
   rw [this]
   exact h1
theorem Js.Ok.ways (hJ:J.Ok L l):J.wy.Ok L l:=by
 have hbd:=hJ.bb
 have hxl:=hJ.xl
 have hkB:=hJ.kB
 have hn1:=FM.power_bd hJ.pw
 refine ⟨hJ.k,fun w hw=>by omega,hJ.xb,hJ.nexts,hJ.len,hJ.F,hJ.p1,hJ.tb,hJ.few.2,fun {o key e q} h=>h.imp (fun h=>(List.suffix_cons _ _).trans h) (fun h=>⟨h.1,(List.suffix_cons _ _).trans h.2⟩),fun _ h=>h,fun ho h=>h.imp (fun q=>⟨q.1,q.2.imp id (ho 0)⟩) id,fun {o key c} hc=>?_,fun o key _=>?_⟩
 · obtain ⟨h1,h2,h3⟩:=hJ.bk key
   rcases hc with ⟨rfl,_⟩ | ⟨rfl,hp⟩
   · have hw1:word L.xs ((J.B+bkt key (2*J.n):Nat):Int)=hdH (J.C (bkt key (2*J.n))):=by
      unfold word
      rw [if_pos (by omega),Int.toNat_natCast,hJ.elder _ h2,Int.toNat_natCast]
     rw [hw1]
     exact ⟨by omega,_,hJ.chain _ h2,.inl (List.suffix_refl _),hJ.way_lk key,hJ.way_few h2⟩
   · have hw1:word L.xs ((J.B2+bkt key J.n:Nat):Int)=hdH (J.two (bkt key J.n)):=by
      unfold word
      rw [if_pos (by have:=hxl.2.2 hp; omega),Int.toNat_natCast,hJ.newer hp _ h1,Int.toNat_natCast]
     rw [hw1]
     exact ⟨by omega,_,hJ.both hp h1,.inr ⟨hp,List.suffix_refl _⟩,hJ.two_lk key,hJ.few.1 _ h1⟩
 · obtain ⟨h1,h2,h3⟩:=hJ.bk key
   have hnow:=hJ.now
   cases hp:J.pub with
   | true=>
     rw [hp,if_pos rfl] at hnow
     refine ⟨J.B2+bkt key J.n,?_,.inr ⟨rfl,hp⟩⟩
     rw [hnow]
     unfold Gt.cellOf
     simp only
     rw [if_neg (by omega),(bkt_lt hJ.pw key).2]
     simp
   | false=>
     rw [hp,if_neg (by simp)] at hnow
     refine ⟨J.B+bkt key (2*J.n),?_,.inl ⟨rfl,.inl hp⟩⟩
     rw [hnow]
     unfold Gt.cellOf
     simp only
     rw [if_neg (by omega),(bkt_lt hJ.pw2 key).2]
     simp
def Js.linked (J:Js) (e:Nat):Js:={J with jn:=turnF J.jn e true,cap:=J.cap+(J.C (e+J.n)).length}
theorem Js.linked_way (J:Js) (e b:Nat) (h:b≠e):(J.linked e).way b=J.way b:=by
 unfold Js.way Js.linked Js.two
 simp only [turnF_ne _ _ h]
theorem Cx.hang {ss:List Sl} {j:Nat} {a:Mq.Hp} {t:List Mq.Hp} (hl:ss.length≤1024) (hj:IsAt ss a.1 j) (ht:Cx ss (hdH t) t) (ha:a.1∉hds t):∀ (pre:List Mq.Hp) (p:Nat),Cx ss p (pre++[a])→(hds (pre++[a])).Nodup→Cx (lnk ss a.1 (hdH t)) p (pre++a::t):=by
 intro pre
 induction pre with
 | nil=>
   intro p h _
   cases h with
   | @cons _ k z pp _ b c d=>
     refine .cons (lnk_live hl b b) (z:=hdH t) ?_ (Cx.aside hl b ht ha)
     rw [lnk_at hl b,if_pos rfl]
     simp only [c]
     rfl
 | cons e0 r ih=>
   intro p h hn
   have hn':=List.nodup_cons.1 hn
   cases h with
   | @cons _ k z pp _ b c d=>
     have hne:p≠a.1:=by
      rintro rfl
      exact hn'.1 (by simp [hds])
     have:=lnk_keep (y:=hdH t) hl hj b hne
     exact .cons this.1 (this.2.trans c) (ih _ d hn'.2)
theorem Js.Ok.linked (hJ:J.Ok L l) (hp:J.pub=false) (he:e<J.n) (hjn:J.jn e=false) {c0:List Mq.Hp} {a:Mq.Hp} (hc:J.C e=c0++[a]) (hcap:J.cap+(J.C (e+J.n)).length≤1000000):
 (J.linked e).Ok {L with ss:=lnk L.ss a.1 (hdH (J.C (e+J.n)))} l:=by
 have hch:=hJ.chain e (by omega)
 have hwe:J.way e=J.C e:=by unfold Js.way; rw [if_neg (by simp [hjn])]
 rw [hwe,hc] at hch
 obtain ⟨j,_,hj,_⟩:=hch.at a (by simp)
 have hae:a.1∈hds (J.C e):=by rw [hc]; simp
 have hways:∀ b,b<2*J.n→b≠e→a.1∉hds (J.way b):=by
  intro b hb hne
  unfold Js.way
  split
  · rename_i q
    unfold Js.two
    simp only [hds,List.map_append,List.mem_append]
    rintro (q1 | q1)
    · exact hJ.dj e b (by omega) hb (fun q=>hne q.symm) _ hae q1
    · exact hJ.dj e (b+J.n) (by omega) (by omega) (by omega) _ hae q1
  · exact hJ.dj e b (by omega) hb (fun q=>hne q.symm) _ hae
 have hb2:=hJ.chain (e+J.n) (by omega)
 have hw2:J.way (e+J.n)=J.C (e+J.n):=by unfold Js.way; rw [if_neg (by omega)]
 rw [hw2] at hb2
 have hzb:hdH (J.C (e+J.n))≤18446744073709551615:=by
  have:=hJ.elder (e+J.n) (by omega)
  have:=Cl.getD_bd hJ.xb (J.B+(e+J.n))
  omega
 refine {hJ with nexts:=?_,len:=?_,chain:=?_,newer:=fun q=>?_,all:=fun q=>?_,few:=⟨hJ.few.1,hJ.few.2.1,by have:=hJ.few.2.2.1; show J.few≤J.cap+_; omega,hcap⟩}
 · show Nexts (lnk L.ss a.1 (hdH (J.C (e+J.n))))
   unfold lnk
   by_cases hk:(a.1-1) % 65536<L.ss.length
   · exact hJ.nexts.set hk _ ⟨by simp only; omega,by simp only; omega⟩
   · rw [List.set_eq_of_length_le (by omega)]
     exact hJ.nexts
 · show (lnk L.ss a.1 _).length≤_
   rw [lnk_len]
   exact hJ.len
 · have q:J.pub=true:=q
   rw [hp] at q; simp at q
 · have q:J.pub=true:=q
   rw [hp] at q; simp at q
 · intro b hb
   have hb:b<2*J.n:=hb
   show Cx (lnk L.ss a.1 (hdH (J.C (e+J.n)))) (hdH (J.C b)) ((J.linked e).way b)
   by_cases hbe:b=e
   · subst hbe
     have:(J.linked b).way b=c0++a::J.C (b+J.n):=by
      unfold Js.way Js.linked Js.two
      simp only [turnF_at]
      rw [if_pos ⟨he,by simp,by rw [hc]; simp⟩,hc]
      simp
     rw [this]
     exact Cx.hang hJ.len hj hb2 (hJ.dj b (b+J.n) (by omega) (by omega) (by omega) _ hae) c0 _ (by rw [hc]; exact hch) (by rw [← hc]; exact hJ.nd b hb)
   · rw [Js.linked_way J e b hbe]
     exact Cx.aside hJ.len hj (hJ.chain b hb) (hways b hb hbe)
theorem Rok.joined (hJ:J.Ok L l) (hp:J.pub=false) (he:e<J.n) (hjn:J.jn e=false) {c0:List Mq.Hp} {a:Mq.Hp} (hc:J.C e=c0++[a]) (h:Rok J.wy L l old w key G k):
 ∃ k',k'≤k+(J.C (e+J.n)).length∧Rok (J.linked e).wy {L with ss:=lnk L.ss a.1 (hdH (J.C (e+J.n)))} l old w key G k':=by
 have hch:=hJ.chain e (by omega)
 have hwe:J.way e=J.C e:=by unfold Js.way; rw [if_neg (by simp [hjn])]
 rw [hwe,hc] at hch
 obtain ⟨j,_,hj,_⟩:=hch.at a (by simp)
 have hae:a.1∈hds (J.C e):=by rw [hc]; simp
 obtain ⟨b1,b2,b3⟩:=hJ.bk key
 have mk:∀ k',k'≤k+(J.C (e+J.n)).length→Rph (J.linked e).wy {L with ss:=lnk L.ss a.1 (hdH (J.C (e+J.n)))} l old key G k'→∃ k',k'≤k+(J.C (e+J.n)).length∧Rok (J.linked e).wy {L with ss:=lnk L.ss a.1 (hdH (J.C (e+J.n)))} l old w key G k':=fun k' hk' hp=>⟨k',hk',⟨h.ky,h.sum,h.wk,h.gat,h.pd,h.cnt,h.pr,hp⟩⟩
 cases h.ph with
 | come a b=>exact mk _ (Nat.le_add_right (J.few+5) _) (.come a b)
 | put a b=>exact mk _ (Nat.le_add_right (J.few+4) _) (.put a b)
 | load a=>exact mk _ (Nat.le_add_right (J.few+3) _) (.load a)
 | first c a1 b hcb q=>exact mk _ (Nat.le_add_right (J.few+2) _) (.first c a1 b hcb q)
 | look q a1 a2 a3 a4 a5 a6 a7 a8 a9 a10 a11 a12 a13=>
   have a11:G.W.read+q.length≤J.cap:=a11
   have hq:q<:+J.way (bkt key (2*J.n)):=by
    rcases a9 with q | ⟨q,_⟩
    · exact q
    · rw [hp] at q; simp at q
   by_cases hbe:bkt key (2*J.n)=e
   · rw [hbe,hwe,hc] at hq
     obtain ⟨q0,rfl⟩:=suffix_last hq a7
     obtain ⟨p0,hp0⟩:=hq
     have hnd:(hds (q0++[a])).Nodup:=by
      have:=hJ.nd e (by omega)
      rw [hc,← hp0] at this
      simp only [hds,List.map_append] at this ⊢
      exact (List.nodup_append.1 this).2.1
     have hb2:=hJ.chain (e+J.n) (by omega)
     have hw2:J.way (e+J.n)=J.C (e+J.n):=by unfold Js.way; rw [if_neg (by omega)]
     rw [hw2] at hb2
     have hx:=Cx.hang hJ.len hj hb2 (hJ.dj e (e+J.n) (by omega) (by omega) (by omega) _ hae) q0 _ a8 hnd
     rw [show q0++a::J.C (e+J.n)=(q0++[a])++J.C (e+J.n) by simp] at hx
     refine mk ((q0++[a]++J.C (e+J.n)).length+1) (by simp only [List.length_append]; omega) (.look (q0++[a]++J.C (e+J.n)) a1 a2 a3 a4 a5 a6 (by simp) hx (.inl ?_) ?_ ?_ a12 a13)
     · have:(J.linked e).way (bkt key (2*(J.linked e).n))=J.C e++J.C (e+J.n):=by
        show (J.linked e).way (bkt key (2*J.n))=_
        rw [hbe]
        unfold Js.way Js.linked Js.two
        simp only [turnF_at]
        rw [if_pos ⟨he,by simp,by rw [hc]; simp⟩]
       rw [this,hc,← hp0]
       exact ⟨p0,by simp⟩
     · rw [lk_back (hJ.ne (by omega) (by omega))]
       exact a10
     · show G.W.read+_≤J.cap+(J.C (e+J.n)).length
       simp only [List.length_append] at a11 ⊢
       omega
   · have hna:a.1∉hds q:=fun hm=>by
      have hm:=(hq.map (·.1)).subset hm
      unfold Js.way at hm
      split at hm
      · unfold Js.two at hm
        simp only [hds,List.map_append,List.mem_append] at hm
        rcases hm with hm | hm
        · exact hJ.dj e _ (by omega) b2 (fun q=>hbe q.symm) _ hae hm
        · exact hJ.dj e (bkt key (2*J.n)+J.n) (by omega) (by omega) (by omega) _ hae hm
      · exact hJ.dj e _ (by omega) b2 (fun q=>hbe q.symm) _ hae hm
     refine mk (q.length+1) (by omega) (.look q a1 a2 a3 a4 a5 a6 a7 (Cx.aside hJ.len hj a8 hna) (.inl ?_) a10 (by show _≤J.cap+_; omega) a12 a13)
     show q<:+(J.linked e).way (bkt key (2*J.n))
     rw [Js.linked_way J e _ hbe]
     exact hq
 | leave a b=>exact mk _ (by omega) (.leave a b)
end
end Go.Proofs.YtkogifmjbmnpgaaGreat.Zp
namespace Go.Proofs.YtkogifmjbmnpgaaGreat.Zp
open Go Hm Ar Mm Wk Pc Me Mq Pu Pn Gt Qs
section
variable {Z:Zs} {L:Lm} {l:List Pr} {n:Nat} {W:Wt}
theorem Zs.Ok.waits (hZ:Z.Ok L l) (hb:Cl.nth L.xs 0≤4611686018427387904):Z.Ok {L with xs:=(wstep n L.xs L.hs W).1,hs:=(wstep n L.xs L.hs W).2.1} l:=by
 have hkB:=hZ.kB
 have hk:=hZ.k
 have hxl:=hZ.xl
 have h0:=Cl.getD_bd hZ.xb 0
 have hs:=sum64_in h0.1 hb
 unfold wstep
 split
 · exact hZ.cells (fun _ _ _=>rfl) (fun _ _ _=>rfl) (Nat.le_refl _) hZ.xb rfl hZ.tb hZ.p1
 split
 · have hn:∀ i,i≠0→Cl.nth (L.xs.set 0 (Cl.sum64 (Cl.nth L.xs 0) 1)) i=Cl.nth L.xs i:=fun i hi=>by
    rw [nth_set _ _ _ (by omega),if_neg hi]
   refine hZ.cells (fun i h1 _=>hn i (by omega)) (fun _ b _=>hn _ (by omega)) (by simp) (fun x hx=>?_) ?_ hZ.tb ?_
   · rcases List.mem_or_eq_of_mem_set hx with q | rfl
     · exact hZ.xb x q
     · rw [hs]; omega
   · unfold Me.now
     rw [hn 1 (by omega)]
   · rw [nth_set _ _ _ (by omega),if_pos rfl,hs]
     have:=hZ.p1
     omega
 split
 · exact hZ.cells (fun _ _ _=>rfl) (fun _ _ _=>rfl) (Nat.le_refl _) hZ.xb rfl hZ.tb hZ.p1
 · exact hZ.cells (fun _ _ _=>rfl) (fun _ _ _=>rfl) (Nat.le_refl _) hZ.xb rfl hZ.tb hZ.p1
end
end Go.Proofs.YtkogifmjbmnpgaaGreat.Zp
namespace Go.Proofs.YtkogifmjbmnpgaaGreat.Mx
end Go.Proofs.YtkogifmjbmnpgaaGreat.Mx
namespace Go.Proofs.YtkogifmjbmnpgaaGreat.Zp
open Go Hm Ar Mm Wk Pc Me Mq Pu Pn Gt Qs Mx
def ZD (l:List Pr) (Z:Zs) (L:Lm):Prop:=Z.Ok L l∧Z.few≤35
def Beside (l:List Pr) (Z:Zs) (L:Lm) (old:Nat→Int→Nat→Prop) (Z':Zs) (L':Lm) (old':Nat→Int→Nat→Prop):Prop:=
 ∀ (R:Rn) (k:Nat),(R.w:Int)<L.k→RnOk Z.wy L l old R k→∃ k',k'≤k+0∧RnOk Z'.wy L' l old' R k'
section
variable {l:List Pr} {Z:Zs} {L:Lm} {old old':Nat→Int→Nat→Prop}
theorem ZD.ways (h:ZD l Z L):Z.wy.Ok L l:=h.1.ways
theorem Beside.olds (h:ZD l Z L) (ho:∀ w p e,old w p e→old' w p e):Beside l Z L old Z L old':=fun R k _ hR=>
 ⟨k,Nat.le_refl _,hR.mono h.ways (fun p e=>ho _ p e)⟩
theorem Beside.trans {Z' Z'':Zs} {L' L'':Lm} {old'':Nat→Int→Nat→Prop} (hk:L'.k=L.k) (h:Beside l Z L old Z' L' old') (h':Beside l Z' L' old' Z'' L'' old''):Beside l Z L old Z'' L'' old'':=fun R k hw hR=>by
 obtain ⟨k',h1,h2⟩:=h R k hw hR
 obtain ⟨k'',h3,h4⟩:=h' R k' (by rw [hk]; exact hw) h2
 exact ⟨k'',by omega,h4⟩
theorem beside_cells (h:ZD l Z L) {xs' hs':List Int} {ds':List (Nat×Nat)} {ws':List Nat} (h1:∀ i,2≤i→i<Z.B+Z.n→Cl.nth xs' i=Cl.nth L.xs i) (h2:Z.pub=true→∀ b,b<2*Z.n→Cl.nth xs' (Z.B2+b)=Cl.nth L.xs (Z.B2+b)) (hl:L.xs.length≤xs'.length)
 (hxb:∀ x∈xs',0≤x∧x≤18446744073709551615) (hnow:Me.now xs' ds'=Me.now L.xs L.ds) (htb:∀ i,(tab ds' i).1≤65536∧(tab ds' i).2≤4000000) (h0:Cl.nth L.xs 0≤Cl.nth xs' 0):
 ZD l Z {L with xs:=xs',ds:=ds',hs:=hs',ws:=ws'}∧Beside l Z L old Z {L with xs:=xs',ds:=ds',hs:=hs',ws:=ws'} old:=by
 have hkB:=h.1.kB
 have hk:=h.1.k
 have hp1:=h.1.p1
 refine ⟨⟨h.1.cells (fun i q1 q2=>h1 i (by omega) q2) h2 hl hxb hnow htb (by omega),h.2⟩,fun R k hw hR=>⟨k,Nat.le_refl _,hR.moved ?_ h0 rfl⟩⟩
 show Cl.nth xs' (2+R.w)=_
 exact h1 _ (by omega) (by omega)
theorem beside_publish (h:ZD l Z L) (hp:Z.pub=false) {t:Nat} (ht:t≤1000000) (hnow:Me.now (L.xs.set 1 (t:Int)) L.ds=(2*Z.n,Z.B2)) (h2:Z.B2+2*Z.n≤L.xs.length) (hnew:∀ b,b<2*Z.n→Cl.nth L.xs (Z.B2+b)=((Z.head b:Nat):Int)):
 ZD l {Z with pub:=true} {L with xs:=L.xs.set 1 (t:Int)}∧Beside l Z L old {Z with pub:=true} {L with xs:=L.xs.set 1 (t:Int)} old:=by
 have hkB:=h.1.kB
 have hk:=h.1.k
 have hxl:=h.1.xl
 have hn:∀ i,i≠1→Cl.nth (L.xs.set 1 (t:Int)) i=Cl.nth L.xs i:=fun i hi=>by rw [nth_set _ _ _ (by omega),if_neg hi]
 refine ⟨⟨h.1.publish hp hn (by simp) (fun x hx=>?_) hnow h2 hnew,h.2⟩,fun R k hw hR=>⟨k,Nat.le_refl _,?_⟩⟩
 · rcases List.mem_or_eq_of_mem_set hx with q | rfl
   · exact h.1.xb x q
   · omega
 · exact hR.publish.moved (hn _ (by omega)) (by show _≤Cl.nth (L.xs.set 1 (t:Int)) 0; rw [hn 0 (by omega)]; exact Int.le_refl _) rfl
theorem beside_wait {n:Nat} {W:Wt} (h:ZD l Z L) (hb:Cl.nth L.xs 0≤4611686018427387904) (hr:readyB L.xs L.hs W=true) (hp0:W.at_≤1→W.passed=0) (h3:W.at_≤3) (hn:(n:Int)=L.k):
 ZD l Z {L with xs:=(wstep n L.xs L.hs W).1,hs:=(wstep n L.xs L.hs W).2.1}∧Beside l Z L (oldW W) Z {L with xs:=(wstep n L.xs L.hs W).1,hs:=(wstep n L.xs L.hs W).2.1} (oldW (wstep n L.xs L.hs W).2.2):=
 ⟨⟨h.1.waits hb,h.2⟩,fun R k hw' hR=>⟨k,Nat.le_refl _,hR.waits h.ways hb hr hp0 h3 (by omega) (by omega)⟩⟩
theorem beside_link {e:Nat} {r0 d t:List Mq.Hp} {a:Mq.Hp} (h:ZD l Z L) (hp:Z.pub=true) (he:e<Z.n) (hr:Z.r e=r0++[a]) (hd:Z.rest e=d++t) (hd0:d≠[]) (hds':∀ b∈d,sd Z.n b.2.1= !Z.s e) (ht:∀ b t',t=b::t'→sd Z.n b.2.1=Z.s e)
 (hold:∀ w p,¬old w p e) (hold':∀ w p i,old' w p i↔i=e∨old w p i):
 ZD l (Z.linked e d t) {L with ss:=lnk L.ss a.1 (hdH t)}∧Beside l Z L old (Z.linked e d t) {L with ss:=lnk L.ss a.1 (hdH t)} old':=by
 have hz:=h.1.zip e he
 have hbt:hdH t≤18446744073709551615:=by
  cases t with
  | nil=>simp [hdH]
  | cons b t'=>
    have h1:=hz.oth
    rw [hd] at h1
    obtain ⟨j,_,hj,_⟩:=h1.at b (by simp)
    have hx:=hz.own
    obtain ⟨d1,g,hdl⟩:∃ d1 g,d=d1++[g]:=⟨d.dropLast,d.getLast hd0,(List.dropLast_concat_getLast hd0).symm⟩
    obtain ⟨gx,gp⟩:=g
    have h2:Cx L.ss gx ((gx,gp)::b::t'):=by
     have h3:Z.v e++(d++b::t')=(Z.v e++d1)++((gx,gp)::b::t'):=by rw [hdl]; simp
     rw [h3] at h1
     exact Cx.back _ h1
    obtain ⟨k,z,q1,q2,q3⟩:=h2.tail
    have hz2:=(h.1.nexts k).2
    rw [q2] at hz2
    unfold ndp at hz2
    simp only at hz2
    have:=Cx.hd q3
    omega
 refine ⟨⟨h.1.linked hp he hr hd hd0 hds' ht hbt,h.2⟩,fun R k _ hR=>?_⟩
 obtain ⟨k',h1,h2⟩:=RnOk.linked h.1 he hr hd hds' (fun p=>hold _ p) (fun p=>(hold' _ p e).2 (.inl rfl)) (fun p i _ q=>(hold' _ p i).2 (.inr q)) hR
 exact ⟨k',h1,h2⟩
end
end Go.Proofs.YtkogifmjbmnpgaaGreat.Zp
namespace Go.Proofs.YtkogifmjbmnpgaaGreat.Zp
open Go Hm Ar Mm Wk Pc Me Mq Pu Pn Gt Qs Mx
section
variable {J:Js} {L L':Lm} {l:List Pr} {old old':Nat→Int→Nat→Prop} {w k e n:Nat} {W:Wt} {R:Rn}
theorem Js.Ok.cells (hJ:J.Ok L l) {xs' hs':List Int} {ds':List (Nat×Nat)} {ws':List Nat} (h1:∀ i,J.B≤i→i<J.B+2*J.n→Cl.nth xs' i=Cl.nth L.xs i) (h2:J.pub=true→∀ b,b<J.n→Cl.nth xs' (J.B2+b)=Cl.nth L.xs (J.B2+b)) (hl:L.xs.length≤xs'.length)
 (hxb:∀ x∈xs',0≤x∧x≤18446744073709551615) (hnow:Me.now xs' ds'=Me.now L.xs L.ds) (htb:∀ i,(tab ds' i).1≤65536∧(tab ds' i).2≤4000000) (hp1:1≤Cl.nth xs' 0):J.Ok {L with xs:=xs',ds:=ds',hs:=hs',ws:=ws'} l:=
 {hJ with now:=by show Me.now xs' ds'=_; rw [hnow]; exact hJ.now,tb:=htb,xl:=by have:=hJ.xl; exact ⟨Nat.le_trans this.1 hl,this.2.1,fun p=>Nat.le_trans (this.2.2 p) hl⟩,xb:=hxb,elder:=fun i hi=>by show Cl.nth xs' _=_; rw [h1 _ (by omega) (by omega)]; exact hJ.elder i hi,newer:=fun p b hb=>by show Cl.nth xs' _=_; rw [h2 p b hb]; exact hJ.newer p b hb,p1:=hp1}
theorem Js.Ok.publish (hJ:J.Ok L l) (_hp:J.pub=false) (hall:∀ e,e<J.n→J.jn e=true) {xs':List Int} (h1:∀ i,i≠1→Cl.nth xs' i=Cl.nth L.xs i) (hl:xs'.length=L.xs.length) (hxb:∀ x∈xs',0≤x∧x≤18446744073709551615) (hnow:Me.now xs' L.ds=(J.n,J.B2)) (h2:J.B2+J.n≤L.xs.length) (hnew:∀ e,e<J.n→Cl.nth L.xs (J.B2+e)=((hdH (J.two e):Nat):Int)):Js.Ok {J with pub:=true} {L with xs:=xs'} l:=by
 have hkB:=hJ.kB
 have hk:=hJ.k
 have hxl:=hJ.xl
 have hpw:=FM.power_bd hJ.pw
 exact {hJ with now:=hnow,xl:=⟨by show _≤xs'.length; rw [hl]; exact hxl.1,hxl.2.1,fun _=>by show _≤xs'.length; rw [hl]; exact h2⟩,xb:=hxb,elder:=fun i hi=>by show Cl.nth xs' (J.B+i)=_; rw [h1 _ (by omega)]; exact hJ.elder i hi,newer:=fun _ b hb=>by show Cl.nth xs' (J.B2+b)=_; rw [h1 _ (by omega)]; exact hnew b hb,all:=fun _=>hall,p1:=by show 1≤Cl.nth xs' 0; rw [h1 _ (by omega)]; exact hJ.p1}
theorem Js.Ok.waits (hJ:J.Ok L l) (hb:Cl.nth L.xs 0≤4611686018427387904):J.Ok {L with xs:=(wstep n L.xs L.hs W).1,hs:=(wstep n L.xs L.hs W).2.1} l:=by
 have hkB:=hJ.kB
 have hk:=hJ.k
 have hxl:=hJ.xl
 have hpw:=FM.power_bd hJ.pw
 have h0:=Cl.getD_bd hJ.xb 0
 have hs:=sum64_in h0.1 hb
 unfold wstep
 split
 · exact hJ.cells (fun _ _ _=>rfl) (fun _ _ _=>rfl) (Nat.le_refl _) hJ.xb rfl hJ.tb hJ.p1
 split
 · have hn:∀ i,i≠0→Cl.nth (L.xs.set 0 (Cl.sum64 (Cl.nth L.xs 0) 1)) i=Cl.nth L.xs i:=fun i hi=>by
    rw [nth_set _ _ _ (by omega),if_neg hi]
   refine hJ.cells (fun i h1 _=>hn i (by omega)) (fun _ b _=>hn _ (by omega)) (by simp) (fun x hx=>?_) ?_ hJ.tb ?_
   · rcases List.mem_or_eq_of_mem_set hx with q | rfl
     · exact hJ.xb x q
     · rw [hs]; omega
   · unfold Me.now
     rw [hn 1 (by omega)]
   · rw [nth_set _ _ _ (by omega),if_pos rfl,hs]
     have:=hJ.p1
     omega
 split
 · exact hJ.cells (fun _ _ _=>rfl) (fun _ _ _=>rfl) (Nat.le_refl _) hJ.xb rfl hJ.tb hJ.p1
 · exact hJ.cells (fun _ _ _=>rfl) (fun _ _ _=>rfl) (Nat.le_refl _) hJ.xb rfl hJ.tb hJ.p1
theorem RnOk.joined (hJ:J.Ok L l) (hp:J.pub=false) (he:e<J.n) (hjn:J.jn e=false) {c0:List Mq.Hp} {a:Mq.Hp} (hc:J.C e=c0++[a]) (h:RnOk J.wy L l old R k):
 ∃ k',k'≤k+(J.C (e+J.n)).length∧RnOk (J.linked e).wy {L with ss:=lnk L.ss a.1 (hdH (J.C (e+J.n)))} l old R k':=by
 unfold RnOk at h ⊢
 split
 · rename_i q
   rw [q] at h
   exact ⟨k,Nat.le_add_right _ _,h⟩
 · rename_i G q
   rw [q] at h
   exact Rok.joined hJ hp he hjn hc h
theorem RnOk.pubJ (hp:J.pub=false) (ho:∀ p,old' R.w p 0) (h:RnOk J.wy L l old R k):RnOk (Js.wy {J with pub:=true}) L l old' R k:=
 h.to rfl (Int.le_refl _) rfl rfl (Nat.le_refl _) (fun key c p hq=>by
  rcases hq with ⟨hq,_⟩ | ⟨_,hq⟩
  · exact .inl ⟨hq,.inr (ho p)⟩
  · rw [hp] at hq; simp at hq) (fun key q p hq=>by
  rcases hq with hq | ⟨hq,_⟩
  · exact .inl hq
  · rw [hp] at hq; simp at hq)
end
end Go.Proofs.YtkogifmjbmnpgaaGreat.Zp
namespace Go.Proofs.YtkogifmjbmnpgaaGreat.Gw
open Go Hm Ar Mm Wk Pc Me Mq Pu Pn Gt Qs Zp
def sel (p:Nat×Nat) (h:Nat):Nat:=if h=0 then p.1 else p.2
def put (p:Nat×Nat) (h x:Nat):Nat×Nat:=if h=0 then (x,p.2) else (p.1,x)
theorem sel_put (p:Nat×Nat) (h x i:Nat) (hh:h≤1) (hi:i≤1):sel (put p h x) i=if i=h then x else sel p i:=by
 unfold sel put
 have:h=0∨h=1:=by omega
 have:i=0∨i=1:=by omega
 rcases ‹h=0∨h=1› with rfl | rfl<;>rcases ‹i=0∨i=1› with rfl | rfl<;>simp
structure Ch where
 fi:Nat×Nat
 la:Nat×Nat
 half:Nat
 met:List Nat
 lk:List (Nat×Nat)
def Ch.new:Ch:=⟨(0,0),(0,0),0,[],[]⟩
def Ch.add (C:Ch) (x h:Nat):Ch:=
 ⟨if sel C.fi h=0 then put C.fi h x else C.fi,put C.la h x,h,x::C.met,if sel C.fi h=0 then C.lk else if h≠C.half then C.lk++[(sel C.la h,x)] else C.lk⟩
def Ch.over (C:Ch):List (Nat×Nat):=if sel C.la (1-C.half)≠0 then C.lk++[(sel C.la (1-C.half),0)] else C.lk
def hf (b:Bool):Nat:=if b=true then 1 else 0
theorem hf_le (b:Bool):hf b≤1:=by cases b<;>simp [hf]
theorem hf_not (b:Bool):1-hf b=hf (!b):=by cases b<;>rfl
theorem hf_inj {a b:Bool}:hf a=hf b↔a=b:=by cases a<;>cases b<;>simp [hf]
def chn (σ:ByteArray→Bool) (q:List Mq.Hp):Ch:=q.foldl (fun C a=>C.add a.1 (hf (σ a.2.1))) .new
theorem chn_snoc (σ:ByteArray→Bool) (q:List Mq.Hp) (a:Mq.Hp):chn σ (q++[a])=(chn σ q).add a.1 (hf (σ a.2.1)):=by
 unfold chn
 rw [List.foldl_append]
 rfl
inductive Lnk (σ:ByteArray→Bool):List Mq.Hp→List Mq.Hp→List (Nat×Nat)→Prop
 | nil {r:List Mq.Hp}:Lnk σ r [] []
 | cons {r0 d t:List Mq.Hp} {a:Mq.Hp} {s:Bool} {ls:List (Nat×Nat)}:d≠[]→(∀ b∈d,σ b.2.1= !s)→(∀ b t',t=b::t'→σ b.2.1=s)→Lnk σ d t ls→Lnk σ (r0++[a]) (d++t) ((a.1,hdH t)::ls)
structure Gone (σ:ByteArray→Bool) (p:List Mq.Hp) (C:Ch):Prop where
 fi:∀ b,sel C.fi (hf b)=hdH (p.filter fun e=>σ e.2.1==b)
 met:C.met=(hds p).reverse
theorem hdH_append (p q:List Mq.Hp):hdH (p++q)=if p=[] then hdH q else hdH p:=by
 cases p<;>simp [hdH]
theorem hdH_pos {p:List Mq.Hp} (hp:∀ e∈p,e.1≠0):hdH p=0↔p=[]:=by
 cases p with
 | nil=>simp [hdH]
 | cons e t=>simp [hdH,hp e (by simp)]
theorem gone_chn (σ:ByteArray→Bool):∀ (n:Nat) (p:List Mq.Hp),p.length=n→(∀ e∈p,e.1≠0)→Gone σ p (chn σ p):=by
 intro n
 induction n with
 | zero=>
   intro p hl _
   have:p=[]:=List.eq_nil_of_length_eq_zero hl
   subst this
   exact ⟨fun b=>by cases b<;>rfl,rfl⟩
 | succ n ih=>
   intro p hl hp
   obtain ⟨q,a,rfl⟩:∃ q a,p=q++[a]:=⟨p.dropLast,p.getLast (by rintro rfl; simp at hl),(List.dropLast_concat_getLast _).symm⟩
   have hq:=ih q (by simp at hl; omega) (fun e he=>hp e (by simp [he]))
   rw [chn_snoc]
   generalize chn σ q=C at*
   have ha:=hp a (by simp)
   refine ⟨fun b=>?_,?_⟩
   · have h1:=hq.fi b
     have h2:=hq.fi (σ a.2.1)
     have hz:=hdH_pos (p:=q.filter fun e=>σ e.2.1==b) (fun e he=>hp e (by have:=(List.mem_filter.1 he).1; simp [this]))
     have hz2:=hdH_pos (p:=q.filter fun e=>σ e.2.1==σ a.2.1) (fun e he=>hp e (by have:=(List.mem_filter.1 he).1; simp [this]))
     rw [List.filter_append,hdH_append]
     show sel (if sel C.fi (hf (σ a.2.1))=0 then put C.fi (hf (σ a.2.1)) a.1 else C.fi) (hf b)=_
     by_cases hb:b=σ a.2.1
     · subst hb
       by_cases h0:sel C.fi (hf (σ a.2.1))=0
       · rw [if_pos h0,sel_put _ _ _ _ (hf_le _) (hf_le _),if_pos rfl,if_pos (hz2.1 (by rw [← h2]; exact h0))]
         simp [hdH]
       · rw [if_neg h0,if_neg (fun e=>h0 (by rw [h2]; exact hz2.2 e))]
         exact h1
     · have e1:sel (if sel C.fi (hf (σ a.2.1))=0 then put C.fi (hf (σ a.2.1)) a.1 else C.fi) (hf b)=sel C.fi (hf b):=by
        split
        · rw [sel_put _ _ _ _ (hf_le _) (hf_le _),if_neg (fun e=>hb (hf_inj.1 e))]
        · rfl
       rw [e1,h1]
       have e2:[a].filter (fun e=>σ e.2.1==b)=[]:=by
        rw [List.filter_cons,if_neg (by simpa using fun e=>hb e.symm)]; rfl
       rw [e2]
       split
       · rename_i q; rw [q]
       · rfl
   · show a.1::C.met=_
     rw [hq.met]
     simp [hds]
def more (σ:ByteArray→Bool) (C:Ch) (q:List Mq.Hp) (l:List (Nat×Nat)):Prop:=(q.foldl (fun C a=>C.add a.1 (hf (σ a.2.1))) C).over=C.lk++l
theorem more_two (σ:ByteArray→Bool):∀ (q:List Mq.Hp) (C:Ch) (r0 d:List Mq.Hp) (a:Mq.Hp) (s:Bool),C.half=hf s→a.1≠0→sel C.la (hf (!s))=a.1→sel C.fi (hf s)≠0→sel C.fi (hf (!s))≠0→(∃ d0 z,d=d0++[z]∧sel C.la (hf s)=z.1∧z.1≠0)→
 (∀ b∈d,σ b.2.1=s)→(∀ e∈q,e.1≠0)→∃ l,more σ C q l∧Lnk σ (r0++[a]) (d++q) l:=by
 intro q
 induction q with
 | nil=>
   intro C r0 d a s hh ha hl hf1 hf2 hd hds' hq
   obtain ⟨d0,z,rfl,hz,hz0⟩:=hd
   refine ⟨[(a.1,0)],?_,?_⟩
   · show C.over=_
     unfold Ch.over
     rw [hh,hf_not,hl,if_pos ha]
   · have:=Lnk.cons (σ:=σ) (r0:=r0) (d:=d0++[z]) (t:=[]) (a:=a) (s:= !s) (ls:=[]) (by simp) (by simpa using hds') (by simp) .nil
     simpa [hdH] using this
 | cons e q ih=>
   intro C r0 d a s hh ha hl hf1 hf2 hd hds' hq
   obtain ⟨d0,z,hdz,hz,hz0⟩:=hd
   have he:=hq e (by simp)
   by_cases hs:σ e.2.1=s
   · have hadd:(C.add e.1 (hf (σ e.2.1)))=⟨C.fi,put C.la (hf s) e.1,hf s,e.1::C.met,C.lk⟩:=by
      unfold Ch.add
      rw [hs,if_neg hf1,if_neg hf1,if_neg (by rw [hh]; simp)]
     have h1:s≠ !s:=by cases s<;>simp
     obtain ⟨l,h2,h3⟩:=ih ⟨C.fi,put C.la (hf s) e.1,hf s,e.1::C.met,C.lk⟩ r0 (d++[e]) a s rfl ha
      (by rw [sel_put _ _ _ _ (hf_le _) (hf_le _),if_neg (fun q=>h1 (hf_inj.1 q).symm)]; exact hl) hf1 hf2 ⟨d,e,rfl,by rw [sel_put _ _ _ _ (hf_le _) (hf_le _),if_pos rfl],he⟩
      (fun b hb=>by
        rcases List.mem_append.1 hb with q | q
        · exact hds' b q
        · have:b=e:=by simpa using q
          rw [this]; exact hs) (fun b hb=>hq b (List.mem_cons_of_mem _ hb))
     refine ⟨l,?_,by simpa using h3⟩
     unfold more at h2 ⊢
     rw [List.foldl_cons,hadd]
     exact h2
   · have hs':σ e.2.1= !s:=by revert hs; cases σ e.2.1<;>cases s<;>simp
     have h1:s≠ !s:=by cases s<;>simp
     have hadd:(C.add e.1 (hf (σ e.2.1)))=⟨C.fi,put C.la (hf (!s)) e.1,hf (!s),e.1::C.met,C.lk++[(a.1,e.1)]⟩:=by
      unfold Ch.add
      rw [hs',if_neg hf2,if_neg hf2,if_pos (by rw [hh]; exact fun q=>h1 (hf_inj.1 q).symm),hl]
     obtain ⟨l,h2,h3⟩:=ih ⟨C.fi,put C.la (hf (!s)) e.1,hf (!s),e.1::C.met,C.lk++[(a.1,e.1)]⟩ d0 [e] z (!s) rfl hz0
      (by rw [Bool.not_not,sel_put _ _ _ _ (hf_le _) (hf_le _),if_neg (fun q=>h1 (hf_inj.1 q))]; exact hz) hf2 (by rw [Bool.not_not]; exact hf1) ⟨[],e,rfl,by rw [sel_put _ _ _ _ (hf_le _) (hf_le _),if_pos rfl],he⟩
      (fun b hb=>by have:b=e:=by simpa using hb
                    rw [this]; exact hs') (fun b hb=>hq b (List.mem_cons_of_mem _ hb))
     refine ⟨(a.1,e.1)::l,?_,?_⟩
     · unfold more at h2 ⊢
       rw [List.foldl_cons,hadd,h2]
       simp
     · rw [← hdz] at h3
       exact Lnk.cons (σ:=σ) (r0:=r0) (d:=d) (t:=e::q) (a:=a) (s:= !s) (by rw [hdz]; simp) (by rw [Bool.not_not]; exact hds') (fun b t' q=>by
        injection q with q1 _
        rw [← q1]; exact hs') h3
theorem more_one (σ:ByteArray→Bool):∀ (q:List Mq.Hp) (C:Ch) (r0:List Mq.Hp) (z:Mq.Hp) (s:Bool),C.half=hf s→sel C.la (hf (!s))=0→sel C.fi (hf s)≠0→sel C.fi (hf (!s))=0→sel C.la (hf s)=z.1→z.1≠0→
 (∀ b∈r0++[z],σ b.2.1=s)→(∀ e∈q,e.1≠0)→∀ r rest,(r0++[z])++q=r++rest→(∀ b∈r,σ b.2.1=s)→(∀ b t',rest=b::t'→σ b.2.1= !s)→∃ l,more σ C q l∧Lnk σ r rest l:=by
 intro q
 induction q with
 | nil=>
   intro C r0 z s hh hl hf1 hf2 hz hz0 hr hq r rest he hr1 hr2
   have:rest=[]:=by
    cases rest with
    | nil=>rfl
    | cons b t=>
      exfalso
      have h1:=hr2 b t rfl
      have h2:=hr b (by rw [List.append_nil] at he; rw [he]; simp)
      rw [h2] at h1
      revert h1
      cases s<;>simp
   subst this
   refine ⟨[],?_,.nil⟩
   show C.over=_
   unfold Ch.over
   rw [hh,hf_not,hl,if_neg (by simp),List.append_nil]
 | cons e q ih=>
   intro C r0 z s hh hl hf1 hf2 hz hz0 hr hq r rest hx hr1 hr2
   have he:=hq e (by simp)
   have h1:s≠ !s:=by cases s<;>simp
   by_cases hs:σ e.2.1=s
   · have hadd:(C.add e.1 (hf (σ e.2.1)))=⟨C.fi,put C.la (hf s) e.1,hf s,e.1::C.met,C.lk⟩:=by
      unfold Ch.add
      rw [hs,if_neg hf1,if_neg hf1,if_neg (by rw [hh]; simp)]
     obtain ⟨l,h2,h3⟩:=ih ⟨C.fi,put C.la (hf s) e.1,hf s,e.1::C.met,C.lk⟩ (r0++[z]) e s rfl
      (by rw [sel_put _ _ _ _ (hf_le _) (hf_le _),if_neg (fun q=>h1 (hf_inj.1 q).symm)]; exact hl) hf1 hf2 (by rw [sel_put _ _ _ _ (hf_le _) (hf_le _),if_pos rfl]) he
      (fun b hb=>by
        rcases List.mem_append.1 hb with q | q
        · exact hr b q
        · have:b=e:=by simpa using q
          rw [this]; exact hs) (fun b hb=>hq b (List.mem_cons_of_mem _ hb)) r rest (by simpa using hx) hr1 hr2
     refine ⟨l,?_,h3⟩
     unfold more at h2 ⊢
     rw [List.foldl_cons,hadd]
     exact h2
   · have hs':σ e.2.1= !s:=by revert hs; cases σ e.2.1<;>cases s<;>simp
     have hrr:r=r0++[z]∧rest=e::q:=by
      rcases List.append_eq_append_iff.1 hx with ⟨c,p1,p2⟩ | ⟨c,p1,p2⟩
      · cases c with
        | nil=>exact ⟨by simpa using p1,by simpa using p2.symm⟩
        | cons b c=>
          exfalso
          injection p2 with p2 _
          have:=hr1 b (by rw [p1]; simp)
          rw [← p2,hs'] at this
          exact h1 this.symm
      · cases c with
        | nil=>exact ⟨by simpa using p1.symm,by simpa using p2⟩
        | cons b c=>
          exfalso
          have h2:=hr2 b (c++e::q) (by rw [p2]; simp)
          have h3:=hr b (by rw [p1]; simp)
          rw [h3] at h2
          exact h1 h2
     obtain ⟨rfl,rfl⟩:=hrr
     have hadd:(C.add e.1 (hf (σ e.2.1)))=⟨put C.fi (hf (!s)) e.1,put C.la (hf (!s)) e.1,hf (!s),e.1::C.met,C.lk⟩:=by
      unfold Ch.add
      rw [hs',if_pos hf2,if_pos hf2]
     obtain ⟨l,h2,h3⟩:=more_two σ q ⟨put C.fi (hf (!s)) e.1,put C.la (hf (!s)) e.1,hf (!s),e.1::C.met,C.lk⟩ r0 [e] z (!s) rfl hz0
      (by rw [Bool.not_not,sel_put _ _ _ _ (hf_le _) (hf_le _),if_neg (fun q=>h1 (hf_inj.1 q))]; exact hz) (by rw [sel_put _ _ _ _ (hf_le _) (hf_le _),if_pos rfl]; exact he)
      (by rw [Bool.not_not,sel_put _ _ _ _ (hf_le _) (hf_le _),if_neg (fun q=>h1 (hf_inj.1 q))]; exact hf1) ⟨[],e,rfl,by rw [sel_put _ _ _ _ (hf_le _) (hf_le _),if_pos rfl],he⟩
      (fun b hb=>by have:b=e:=by simpa using hb
                    rw [this]; exact hs') (fun b hb=>hq b (List.mem_cons_of_mem _ hb))
     refine ⟨l,?_,h3⟩
     unfold more at h2 ⊢
     rw [List.foldl_cons,hadd]
     exact h2
theorem lnk_whole (σ:ByteArray→Bool) {ss:List Sl} {All:List Mq.Hp} {s:Bool} {x y:Nat} {r rest:List Mq.Hp} (h:Zip ss σ All s x y [] r [] rest) (hA:All=r++rest) (h0:∀ e∈All,e.1≠0):Lnk σ r rest (chn σ All).over:=by
 cases hq:All with
 | nil=>
   have h1:=hA
   rw [hq] at h1
   have h2:=List.append_eq_nil_iff.1 h1.symm
   rw [h2.1,h2.2]
   exact .nil
 | cons e t=>
   have hrne:r≠[]:=by
    intro e0
    have h1:rest=[]:=by
     cases rest with
     | nil=>rfl
     | cons b t'=>exact absurd e0 (h.ne (by simp))
    rw [e0,h1,hq] at hA
    simp at hA
   obtain ⟨b,r',rfl⟩:∃ b r',r=b::r':=by
    cases r with
    | nil=>exact absurd rfl hrne
    | cons b r'=>exact ⟨b,r',rfl⟩
   rw [hq,List.cons_append] at hA
   injection hA with hb ht
   subst hb
   have hs:σ e.2.1=s:=h.su e (by simp)
   have he:e.1≠0:=h0 e (by rw [hq]; simp)
   obtain ⟨l,h2,h3⟩:=more_one σ t ⟨put (0,0) (hf s) e.1,put (0,0) (hf s) e.1,hf s,[e.1],[]⟩ [] e s rfl
    (by rw [sel_put _ _ _ _ (hf_le _) (hf_le _),if_neg (fun q=>by have:=hf_inj.1 q; revert this; cases s<;>simp)]; unfold sel; split<;>rfl)
    (by rw [sel_put _ _ _ _ (hf_le _) (hf_le _),if_pos rfl]; exact he)
    (by rw [sel_put _ _ _ _ (hf_le _) (hf_le _),if_neg (fun q=>by have:=hf_inj.1 q; revert this; cases s<;>simp)]; unfold sel; split<;>rfl)
    (by rw [sel_put _ _ _ _ (hf_le _) (hf_le _),if_pos rfl]) he (by simpa using hs) (fun b hb=>h0 b (by rw [hq]; exact List.mem_cons_of_mem _ hb)) (e::r') rest (by simpa using ht) (by simpa using h.su) h.hd
   unfold more at h2
   have e1:(chn σ (e::t)).over=(t.foldl (fun (C:Ch) (a:Mq.Hp)=>C.add a.1 (hf (σ a.2.1))) ⟨put (0,0) (hf s) e.1,put (0,0) (hf s) e.1,hf s,[e.1],[]⟩).over:=by
    unfold chn
    rw [List.foldl_cons,hs]
    have:Ch.new.add e.1 (hf s)=⟨put (0,0) (hf s) e.1,put (0,0) (hf s) e.1,hf s,[e.1],[]⟩:=by
     have hz:sel Ch.new.fi (hf s)=0:=by unfold sel Ch.new; split<;>rfl
     unfold Ch.add
     rw [if_pos hz,if_pos hz]
     rfl
    rw [this]
   rw [e1,h2]
   simpa using h3
theorem Lnk.le {σ:ByteArray→Bool} {r rest:List Mq.Hp} {l:List (Nat×Nat)} (h:Lnk σ r rest l):l.length≤rest.length:=by
 induction h with
 | nil=>simp
 | @cons r0 d t a s ls h1 _ _ _ ih=>
   have:1≤d.length:=List.length_pos_iff.2 h1
   simp only [List.length_cons,List.length_append]
   omega
theorem Lnk.none {σ:ByteArray→Bool} {r rest:List Mq.Hp} (h:Lnk σ r rest []):rest=[]:=by cases h; rfl
end Go.Proofs.YtkogifmjbmnpgaaGreat.Gw
