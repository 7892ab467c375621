/- Walks and plain mathematics, put together in their order: ZipF, GroN, GroO, GroP, GroQ, GroR, ShrH. -/
import Derived.Test.YtkogifmjbmnpgaaGreatPart5
import Derived.Test.YtkogifmjbmnpgaaGreatPairs
set_option linter.unusedVariables false
set_option linter.unusedSimpArgs false
namespace Go.Proofs.YtkogifmjbmnpgaaGreat.Zp
open Go Hm Ar Mm Wk Pc Me Mq Pu Pn Gt Qs
theorem Cn.cx {ss:List Sl} {x:Nat} {q:List Pr} (h:Cn ss x q):∃ c:List Mq.Hp,Cx ss x c∧prs c=q:=by
 induction h with
 | nil=>exact ⟨[],.nil,rfl⟩
 | @cons x k z p t a b _ ih=>
   obtain ⟨c,h1,h2⟩:=ih
   exact ⟨(x,p)::c,.cons a b h1,by simp [prs,← h2]⟩
theorem Cx.same {ss:List Sl} {x y:Nat} {q q':List Mq.Hp} (hl:ss.length≤1024) (h:Cx ss x q) (h':Cx ss y q') {a b:Mq.Hp} (ha:a∈q) (hb:b∈q') (e:a.1=b.1):a.2.1=b.2.1:=by
 obtain ⟨k,z,h1,h2⟩:=h.at a ha
 obtain ⟨k',z',h3,h4⟩:=h'.at b hb
 rw [e] at h1
 have:=h1.uniq hl h3
 subst this
 rw [h2] at h4
 exact congrArg Nd.key h4
theorem Cx.nodup {ss:List Sl} {x:Nat} {q:List Mq.Hp} (hl:ss.length≤1024) (h:Cx ss x q) (hk:(kys q).Nodup):(hds q).Nodup:=by
 induction h with
 | nil=>simp
 | @cons x k z p t a b c ih=>
   have hk':p.1∉kys t∧(kys t).Nodup:=List.nodup_cons.1 hk
   refine List.nodup_cons.2 ⟨fun hm=>?_,ih hk'.2⟩
   obtain ⟨e,he,hx⟩:=List.mem_map.1 hm
   have:=Cx.same hl (.cons a b c) c (a:=(x,p)) (b:=e) (by simp) he hx.symm
   exact hk'.1 (List.mem_map.2 ⟨e,he,this.symm⟩)
theorem bk_bkt {n e:Nat} (hp:FM.power n=true) (l:List Pr):bk n e l=l.filter fun p=>decide (bkt p.1 n=e):=by
 unfold bk
 apply List.filter_congr
 intro p _
 have:=(bkt_lt hp p.1).2
 rw [decide_eq_decide,this]
 omega
theorem zs_laid {L:Lm} {l:List Pr} {n B:Nat} (hpw:FM.power n=true) (hpw2:FM.power ((2*n:Nat):Int)=true) (hl:l.length≤60) (hk:(l.map (·.1)).Nodup) (hxb:∀ x∈L.xs,0≤x∧x≤18446744073709551615) (hxl:L.xs.length=B+n) (hB:B+n≤4000000) (hnx:Nexts L.ss) (hlen:L.ss.length≤1024) (hF:L.F=false)
 (hkk:1≤L.k∧L.k≤8) (hkB:2+L.k≤B) (hnow:Me.now L.xs L.ds=(n,B)) (htb:∀ i,(tab L.ds i).1≤65536∧(tab L.ds i).2≤4000000) (hp1:1≤Cl.nth L.xs 0) (hch:∀ b:Nat,b<n→Cn L.ss (Cl.nth L.xs (B+b)).toNat (bk n b l)):
 ∃ Z:Zs,Z.Ok L l∧Z.n=n∧Z.B=B∧Z.B2=L.xs.length∧Z.pub=false∧Z.few=l.length∧(∀ e,e<n→Z.fresh e)∧∀ e,e<n→prs (Z.All e)=l.filter fun p=>decide (bkt p.1 n=e):=by
 have h:∀ e:Nat,∃ z:List Mq.Hp×Bool×List Mq.Hp×List Mq.Hp,e<n→Cx L.ss (Cl.nth L.xs (B+e)).toNat z.1∧prs z.1=(l.filter fun p=>decide (bkt p.1 n=e))∧z.1=z.2.2.1++z.2.2.2∧Zip L.ss (sd n) z.1 z.2.1 (Cl.nth L.xs (B+e)).toNat (hdH z.2.2.2) [] z.2.2.1 [] z.2.2.2:=by
  intro e
  by_cases he:e<n
  · obtain ⟨c,h1,h2⟩:=Cn.cx (hch e he)
    rw [bk_bkt hpw] at h2
    have hkc:(kys c).Nodup:=by
     have h3:kys c=(prs c).map (·.1):=by simp [prs]
     rw [h3,h2]
     exact (List.filter_sublist.map _).nodup hk
    obtain ⟨s,r,rest,h4,h5⟩:=zip_new (σ:=sd n) h1 (Cx.nodup hlen h1 hkc)
    exact ⟨(c,s,r,rest),fun _=>⟨h1,h2,h4,h5⟩⟩
  · exact ⟨([],true,[],[]),fun q=>absurd q he⟩
 obtain ⟨f,hf⟩:=Classical.axiomOfChoice h
 have hn:=FM.power_bd hpw
 refine ⟨⟨n,B,L.xs.length,l.length,1000,false,fun e=>(f e).1,fun e=>(f e).2.1,fun e=>(Cl.nth L.xs (B+e)).toNat,fun e=>hdH (f e).2.2.2,fun _=>[],fun e=>(f e).2.2.1,fun _=>[],fun e=>(f e).2.2.2⟩,?_,rfl,rfl,rfl,rfl,rfl,fun e he=>⟨rfl,rfl,(hf e he).2.2.1⟩,fun e he=>(hf e he).2.1⟩
 refine ⟨hpw,hpw2,by rw [if_neg (by simp)]; exact hnow,htb,hkk,hkB,⟨by simp only; omega,by simp only; omega,fun q=>by simp at q⟩,by simp only; omega,hxb,hnx,hlen,fun e he=>?_,fun q=>by simp at q,fun e he=>(hf e he).2.2.2,fun key=>?_,hF,hp1,⟨fun e he=>?_,by simp only; omega,by simp only; omega,by simp only; omega⟩,fun _ e he=>⟨rfl,rfl,(hf e he).2.2.1⟩,?_⟩
 · have h1:=(hf e he).1
   have:=Cx.hd h1
   have hb:=Cl.getD_bd hxb (B+e)
   simp only
   rw [← this]
   omega
 · have he:=(bkt_lt hpw key).1
   simp only
   rw [(hf _ he).2.1,← bk_bkt hpw]
   have h2:=(bkt_lt hpw key).2
   rw [← h2]
   exact (lk_bk n l key).symm
 · have h1:=congrArg List.length (hf e he).2.1
   have h2:=List.length_filter_le (fun p:Pr=>decide (bkt p.1 n=e)) l
   simp only [prs,List.length_map] at h1
   simp only
   omega
 · intro e e' he he' hne a ha ha'
   obtain ⟨x,hx,rfl⟩:=List.mem_map.1 ha
   obtain ⟨y,hy,hxy⟩:=List.mem_map.1 ha'
   have hs:=Cx.same hlen (hf e he).1 (hf e' he').1 hx hy hxy.symm
   have mem:∀ e,e<n→∀ x∈(f e).1,bkt x.2.1 n=e:=fun e he x hx=>by
    have:x.2∈prs (f e).1:=List.mem_map.2 ⟨x,hx,rfl⟩
    rw [(hf e he).2.1] at this
    exact of_decide_eq_true (List.mem_filter.1 this).2
   have h1:=mem e he x hx
   have h2:=mem e' he' y hy
   rw [hs] at h1
   omega
theorem own_bk {n b:Nat} {c:List Mq.Hp} {l:List Pr} (hpw:FM.power n=true) (hpw2:FM.power ((2*n:Nat):Int)=true) (hb:b<2*n) (h:prs c=l.filter fun p=>decide (bkt p.1 n=b % n)):prs (c.filter fun a=>sd n a.2.1==decide (n≤b))=l.filter fun p=>decide (bkt p.1 (2*n)=b):=by
 have hn:=FM.power_bd hpw
 have h1:prs (c.filter fun a=>sd n a.2.1==decide (n≤b))=(prs c).filter fun p=>sd n p.1==decide (n≤b):=by
  simp only [prs,List.filter_map]
  rfl
 rw [h1,h,List.filter_filter]
 apply List.filter_congr
 intro p _
 obtain ⟨h2,h3,h4⟩:=bkt_two hpw hpw2 p.1
 rw [Bool.eq_iff_iff]
 simp only [Bool.and_eq_true,beq_iff_eq,decide_eq_true_eq]
 have h5:sd n p.1=decide (n≤bkt p.1 (2*n)):=rfl
 have hbm:b=b % n+(if n≤b then n else 0):=by
  split
  · rename_i q
    rw [Nat.mod_eq_sub_mod q,Nat.mod_eq_of_lt (by omega)]
    omega
  · rw [Nat.mod_eq_of_lt (by omega)]
    omega
 constructor
 · rintro ⟨q1,q2⟩
   rw [h4,hbm,q2,q1]
   by_cases hq:n≤b<;>simp [hq]
 · intro q
   subst q
   exact ⟨h5,h2.symm⟩
end Go.Proofs.YtkogifmjbmnpgaaGreat.Zp
namespace Go.Proofs.YtkogifmjbmnpgaaGreat.Gw
open Go Hm Ar Mm Wk Pc Me Mq Pu Pn Gt Qs Zp Mx
theorem nth_app {xs:List Int} {n:Nat} (i:Nat):Cl.nth (xs++List.replicate n 0) i=Cl.nth xs i:=by
 unfold Cl.nth
 simp only [List.getD_eq_getElem?_getD]
 by_cases h:i<xs.length
 · rw [List.getElem?_append_left h]
 · rw [List.getElem?_append_right (by omega),List.getElem?_replicate,List.getElem?_eq_none (by omega)]
   split<;>rfl
theorem nth_beyond {xs:List Int} {i:Nat} (h:xs.length≤i):Cl.nth xs i=0:=by unfold Cl.nth; simp [List.getD,h]
theorem tab_app {ds:List (Nat×Nat)} {d:Nat×Nat} (i:Nat):tab (ds++[d]) i=if i=ds.length then d else tab ds i:=by
 unfold tab
 simp only [List.getD_eq_getElem?_getD]
 by_cases h:i<ds.length
 · rw [List.getElem?_append_left h,if_neg (by omega)]
 · rw [List.getElem?_append_right (by omega)]
   by_cases e:i=ds.length
   · rw [if_pos e,e]; simp
   · rw [if_neg e,List.getElem?_eq_none (by simp; omega),List.getElem?_eq_none (by omega)]
theorem holset {hs:List Int} (h:0<hs.length) (v:Int):Lo.hol (hs.set 0 v) 0=v:=by unfold Lo.hol List.getD; simp [h]
inductive Wth (P:Nat→List (Nat×Nat)→Prop):List Nat→List (List (Nat×Nat))→Prop
 | nil:Wth P [] []
 | cons {e:Nat} {es:List Nat} {l:List (Nat×Nat)} {ls:List (List (Nat×Nat))}:P e l→Wth P es ls→Wth P (e::es) (l::ls)
section
variable {P P':Nat→List (Nat×Nat)→Prop} {es:List Nat} {ls:List (List (Nat×Nat))}
theorem Wth.snoc (h:Wth P es ls) {e:Nat} {l:List (Nat×Nat)} (hl:P e l):Wth P (es++[e]) (ls++[l]):=by
 induction h with
 | nil=>exact .cons hl .nil
 | cons a _ ih=>exact .cons a ih
theorem Wth.mono (h:Wth P es ls) (hp:∀ e∈es,∀ l,P e l→P' e l):Wth P' es ls:=by
 induction h with
 | nil=>exact .nil
 | cons a _ ih=>exact .cons (hp _ (by simp) _ a) (ih fun e he=>hp e (List.mem_cons_of_mem _ he))
theorem Wth.len (h:Wth P es ls):es.length=ls.length:=by
 induction h with
 | nil=>rfl
 | cons _ _ ih=>simp [ih]
end
def tot (ps:List (List (Nat×Nat))):Nat:=(ps.map List.length).sum
theorem tot_snoc (ps:List (List (Nat×Nat))) (l:List (Nat×Nat)):tot (ps++[l])=tot ps+l.length:=by unfold tot; simp
theorem tot_cons (ps:List (List (Nat×Nat))) (l:List (Nat×Nat)):tot (l::ps)=l.length+tot ps:=by unfold tot; simp
def Pt (Z:Zs) (e:Nat) (l:List (Nat×Nat)):Prop:=e<Z.n∧l≠[]∧Lnk (sd Z.n) (Z.r e) (Z.rest e) l
def wl (W:Wt):Nat:=if W.at_=0 then 11 else if W.at_=1 then 10 else if W.at_=2 then 9-W.passed else 1
def Cel (Z:Zs) (L:Lm) (b h:Nat):Prop:=∀ c,c<2*Z.n→Cl.nth L.xs (Z.B2+c)=if c % Z.n<b∨(c % Z.n=b∧c<Z.n*h) then ((Z.head c:Nat):Int) else 0
def Lst (Z:Zs) (G:Gr) (b:Nat):Prop:=∃ ids,Wth (Pt Z) ids G.pass∧ids.Nodup∧(∀ e∈ids,e<b)∧(∀ e,e<b→e∉ids→Z.rest e=[])∧(∀ l∈G.pass,l.length≤Z.few)∧tot G.pass≤b*Z.few
def mB (Z:Zs):Nat:=1+12*(Z.few+1)+Z.n*Z.few
theorem tabs_len {xs xs':List Int} {ds:List (Nat×Nat)} (h:Tabs xs ds) (e:xs'.length=xs.length):Tabs xs' ds:=fun i hi=>by have:=h i hi; omega
structure Jc (n0:Nat) (l:List Pr) (Z:Zs) (L:Lm) (G:Gr) (m:Nat):Prop where
 nn:Z.n=n0
 al:∀ e,e<Z.n→prs (Z.All e)=l.filter fun p=>decide (bkt p.1 Z.n=e)
 wk:0≤G.worker∧G.worker≤1000
 err:G.err=0
 el:G.nx≠1→G.el=(Z.n,Z.B)
 k:1≤L.k∧L.k≤8
 pd:Cl.nth L.xs 0+m≤4611686018427387904
 hl:0<L.hs.length
 hol:G.nx≠7→Lo.hol L.hs 0= -1
 xb:Z.B2+2*Z.n≤1048576
 xl:L.xs.length=if G.nx≤2 then Z.B2 else Z.B2+2*Z.n
 ds:L.ds.length≤800001∧(G.nx≤2→L.ds.length≤800000)
 nw:3≤G.nx→G.nw=(2*Z.n,Z.B2)∧∃ t:Nat,G.num=t∧t≤900000∧tab L.ds t=(2*Z.n,Z.B2)
 later:G.nx≠8→G.later=[]
 bk:G.bucket≤Z.n
 b5:4≤Z.B2
 pos:∀ e,e<Z.n→∀ a∈Z.All e,a.1≠0∧a.1≤18446744073709551615
 tabs:Tabs L.xs L.ds
inductive Jp (Z:Zs) (L:Lm) (G:Gr) (old:Nat→Int→Nat→Prop):Nat→Prop
 | p1 {m:Nat}:G.nx=1→Z.pub=false→(∀ w p e,old w p e)→G.bucket=0→G.pass=[]→2+Z.n*(Z.few+4)+mB Z≤m→Jp Z L G old m
 | p2 {m:Nat}:G.nx=2→Z.pub=false→(∀ w p e,old w p e)→G.bucket=0→G.pass=[]→1+Z.n*(Z.few+4)+mB Z≤m→Jp Z L G old m
 | p3 {m:Nat}:G.nx=3→Z.pub=false→(∀ w p e,old w p e)→G.bucket<Z.n→Cel Z L G.bucket 0→Lst Z G G.bucket→(Z.n-G.bucket)*(Z.few+4)+mB Z≤m→Jp Z L G old m
 | p4 {m:Nat} (p q:List Mq.Hp):G.nx=4→Z.pub=false→(∀ w p e,old w p e)→G.bucket<Z.n→Cel Z L G.bucket 0→Lst Z G G.bucket→Z.All G.bucket=p++q→q≠[]→G.at_=hdH q→G.C=chn (sd Z.n) p→
    q.length+3+(Z.n-G.bucket-1)*(Z.few+4)+mB Z≤m→Jp Z L G old m
 | p5 {m:Nat}:G.nx=5→Z.pub=false→(∀ w p e,old w p e)→G.bucket<Z.n→Cel Z L G.bucket G.half→Lst Z G (G.bucket+1)→(∀ b,sel G.C.fi (hf b)=hdH ((Z.All G.bucket).filter fun a=>sd Z.n a.2.1==b))→G.half≤1→
    (2-G.half)+(Z.n-G.bucket-1)*(Z.few+4)+mB Z≤m→Jp Z L G old m
 | p6 {m:Nat}:G.nx=6→Z.pub=false→(∀ w p e,old w p e)→Cel Z L Z.n 0→Lst Z G Z.n→mB Z≤m→Jp Z L G old m
 | p7 {m:Nat} (t:Nat) (ids:List Nat):G.nx=7→Z.pub=true→(∀ w p e,old w p e↔oldW G.W w p e)→Qs.Okw L.k.toNat L.xs L.hs G.W→0≤G.W.worker→(G.W.at_≤1→G.W.passed=0)→(G.W.at_=0→Lo.hol L.hs 0= -1)→Wth (Pt Z) ids G.pass→ids.Nodup→(∀ e,e<Z.n→e∉ids→Z.rest e=[])→
    (∀ l∈G.pass,l.length≤t)→wl G.W+12*t+tot G.pass≤m→Jp Z L G old m
 | p8 {m:Nat} (t:Nat) (ids ids':List Nat):G.nx=8→Z.pub=true→(∀ e∈ids,∀ w p,¬old w p e)→Wth (Pt Z) ids G.pass→Wth (Pt Z) ids' G.later→(ids++ids').Nodup→(∀ e,e<Z.n→e∉ids++ids'→Z.rest e=[])→G.pass≠[]→
    (∀ l∈G.pass,l.length≤t+1)→(∀ l∈G.later,l.length≤t)→G.later.length≤Z.n→12*(t+1)+tot G.pass+tot G.later≤m→Jp Z L G old m
def J (n0:Nat) (l:List Pr) (Z:Zs) (old:Nat→Int→Nat→Prop) (L:Lm) (G:Gr) (m _c:Nat):Prop:=Jc n0 l Z L G m∧Jp Z L G old m
section
variable {n0:Nat} {l:List Pr} {Z:Zs} {L:Lm} {G:Gr} {m c:Nat} {old:Nat→Int→Nat→Prop}
theorem Jp.pos (h:Jp Z L G old m):1≤m:=by
 cases h with
 | p1 _ _ _ _ _ h=>unfold mB at h; omega
 | p2 _ _ _ _ _ h=>unfold mB at h; omega
 | p3 _ _ _ _ _ _ h=>unfold mB at h; omega
 | p4 p q _ _ _ _ _ _ _ _ _ _ h=>unfold mB at h; omega
 | p5 _ _ _ _ _ _ _ _ h=>unfold mB at h; omega
 | p6 _ _ _ _ _ h=>unfold mB at h; omega
 | p7 t ids _ _ _ hk _ _ _ _ _ _ _ h=>
   have h1:=hk.at_
   have h2:=hk.passed
   have h3:=hk.n1
   unfold wl at h
   split at h
   · omega
   split at h
   · omega
   split at h
   · have:=h2.2 (by omega)
     omega
   · omega
 | p8 t ids ids' _ _ _ _ _ _ _ _ _ _ _ h=>omega
theorem Jp.pub (h:Jp Z L G old m) (hp:Z.pub=false) (w:Nat) (x:Int) (e:Nat):old w x e:=by
 cases h with
 | p1 _ _ h _ _ _=>exact h w x e
 | p2 _ _ h _ _ _=>exact h w x e
 | p3 _ _ h _ _ _ _=>exact h w x e
 | p4 p q _ _ h _ _ _ _ _ _ _ _=>exact h w x e
 | p5 _ _ h _ _ _ _ _ _=>exact h w x e
 | p6 _ _ h _ _ _=>exact h w x e
 | p7 t ids _ h _ _ _ _ _ _ _ _ _ _=>rw [h] at hp; simp at hp
 | p8 t ids ids' _ h _ _ _ _ _ _ _ _ _ _=>rw [h] at hp; simp at hp
theorem Jp.nx (h:Jp Z L G old m):1≤G.nx∧G.nx≤8:=by
 cases h<;>omega
end
end Go.Proofs.YtkogifmjbmnpgaaGreat.Gw
namespace Go.Proofs.YtkogifmjbmnpgaaGreat.Gw
open Go Hm Ar Mm Wk Pc Me Mq Pu Pn Gt Qs Zp Mx
theorem nodup_le:∀ (n:Nat) (l:List Nat),l.Nodup→(∀ x∈l,x<n)→l.length≤n:=by
 intro n
 induction n with
 | zero=>
   intro l _ h
   cases l with
   | nil=>simp
   | cons a t=>exact absurd (h a (by simp)) (by omega)
 | succ n ih=>
   intro l hn h
   by_cases hm:n∈l
   · have h1:=List.length_erase_of_mem hm
     have h2:=ih (l.erase n) (hn.erase n) fun x hx=>by
      have hx':=(hn.mem_erase_iff).1 hx
      have:=h x hx'.2
      have:=hx'.1
      omega
     have h3:0<l.length:=List.length_pos_of_mem hm
     omega
   · have:=ih l hn fun x hx=>by
      have h1:=h x hx
      have:x≠n:=fun e=>hm (e▸hx)
      omega
     omega
theorem chn_bd (σ:ByteArray→Bool):∀ (n:Nat) (p:List Mq.Hp),p.length=n→(chn σ p).half≤1∧(chn σ p).lk.length≤p.length∧(chn σ p).met=(hds p).reverse:=by
 intro n
 induction n with
 | zero=>
   intro p hl
   have:p=[]:=List.eq_nil_of_length_eq_zero hl
   subst this
   exact ⟨by simp [chn,Ch.new],by simp [chn,Ch.new],rfl⟩
 | succ n ih=>
   intro p hl
   obtain ⟨q,a,rfl⟩:∃ q a,p=q++[a]:=⟨p.dropLast,p.getLast (by rintro rfl; simp at hl),(List.dropLast_concat_getLast _).symm⟩
   obtain ⟨h1,h2,h3⟩:=ih q (by simp at hl; omega)
   rw [chn_snoc]
   generalize chn σ q=C at*
   refine ⟨hf_le _,?_,?_⟩
   · unfold Ch.add
     simp only [List.length_append,List.length_singleton]
     split
     · omega
     split
     · simp; omega
     · omega
   · show a.1::C.met=_
     rw [h3]
     simp [hds]
section
variable {n0:Nat} {l:List Pr} {Z:Zs} {L:Lm} {G:Gr} {m c:Nat} {old:Nat→Int→Nat→Prop}
theorem n_bd (hZ:ZD l Z L):1≤Z.n∧Z.n≤32768:=by
 have h1:=FM.power_bd hZ.1.pw
 have h2:=FM.power_bd hZ.1.pw2
 omega
theorem fresh_cx (hZ:ZD l Z L) (hp:Z.pub=false) {e:Nat} (he:e<Z.n):Cx L.ss (hdH (Z.All e)) (Z.All e)∧(hds (Z.All e)).Nodup∧Zip L.ss (sd Z.n) (Z.All e) (Z.s e) (Z.X e) (Z.Y e) [] (Z.r e) [] (Z.rest e)∧Z.All e=Z.r e++Z.rest e:=by
 obtain ⟨f1,f2,f3⟩:=hZ.1.fr hp e he
 have hz:=hZ.1.zip e he
 rw [f1,f2] at hz
 have h1:=hz.own
 have h2:=hz.nd
 rw [List.nil_append,← f3] at h1
 rw [List.nil_append,List.append_nil,← f3] at h2
 refine ⟨?_,h2,hz,f3⟩
 rw [← Cx.hd h1]
 exact h1
theorem fresh_head (hZ:ZD l Z L) (hp:Z.pub=false) {b:Nat} (hb:b<2*Z.n):Z.head b=hdH ((Z.All (b % Z.n)).filter fun a=>sd Z.n a.2.1==decide (Z.n≤b)):=by
 have hn:=n_bd hZ
 have he:b % Z.n<Z.n:=Nat.mod_lt _ (by omega)
 obtain ⟨h1,h2,h3,h4⟩:=fresh_cx hZ hp he
 have hfs:=h3.fs
 have hfv:=h3.fv
 rw [List.nil_append] at hfs hfv
 have hX:=Cx.hd h3.own
 have hY:=Cx.hd h3.oth
 rw [List.nil_append] at hX hY
 unfold Zs.head
 by_cases hs:decide (Z.n≤b)=Z.s (b % Z.n)
 · rw [if_pos hs,hs,hfs,hX]
   cases hr:Z.r (b % Z.n) with
   | nil=>
     have:Z.rest (b % Z.n)=[]:=by
      cases hq:Z.rest (b % Z.n) with
      | nil=>rfl
      | cons x t=>exact absurd hr (h3.ne (by rw [hq]; simp))
     rw [this]
     rfl
   | cons x t=>rfl
 · rw [if_neg hs]
   have hs':decide (Z.n≤b)= !(Z.s (b % Z.n)):=by
    revert hs
    cases decide (Z.n≤b)<;>cases Z.s (b % Z.n)<;>simp
   rw [hs',hfv,hY]
   cases hq:Z.rest (b % Z.n) with
   | nil=>rfl
   | cons x t=>
     have:=h3.hd x t hq
     rw [List.filter_cons,if_pos (by rw [this]; simp)]
     rfl
theorem hfs_eq (hZ:ZD l Z L) (h:Jc n0 l Z L G m) (h3:3≤G.nx) (key:ByteArray):hfs G (sm key)=hf (sd Z.n key):=by
 have hn:=n_bd hZ
 obtain ⟨t1,t2,t3⟩:=bkt_two hZ.1.pw hZ.1.pw2 key
 have h1:=(bkt_lt hZ.1.pw2 key).2
 have h2:=(bkt_lt hZ.1.pw key).1
 unfold hfs
 rw [(h.nw h3).1,h.el (by omega)]
 simp only
 rw [h1,t3]
 unfold hf
 split
 · rw [← Int.natCast_ediv,Int.toNat_natCast,Nat.add_div_right _ (by omega),Nat.div_eq_of_lt h2]
 · rw [← Int.natCast_ediv,Int.toNat_natCast,Nat.add_zero,Nat.div_eq_of_lt h2]
theorem p4_at (hZ:ZD l Z L) (h:Jc n0 l Z L G m) (hp:Z.pub=false) (hb:G.bucket<Z.n) {p q:List Mq.Hp} {e:Mq.Hp} (hA:Z.All G.bucket=p++e::q) (hat:G.at_=e.1):
 ∃ k,IsAt L.ss G.at_ k∧(G.at_-1) % 65536=k∧(at' L.ss k).nd=ndp e.2 (hdH q)∧hdH q∉G.at_::(hds p).reverse∧hdH q≤18446744073709551615:=by
 obtain ⟨h1,h2,h3,h4⟩:=fresh_cx hZ hp hb
 have hcx:Cx L.ss (hdH (e::q)) (e::q):=by
  have:Cx L.ss (hdH (Z.All G.bucket)) (p++e::q):=by rw [← hA]; exact h1
  exact Cx.back p this
 obtain ⟨ex,ep⟩:=e
 obtain ⟨k,z,a1,a2,a3⟩:=hcx.tail
 have hz:=Cx.hd a3
 subst hz
 simp only at hat
 rw [hat]
 refine ⟨k,a1,(isAt_parts hZ.1.len a1).1,a2,?_,?_⟩
 · rw [hA] at h2
   have hnd:(hds p++ex::hds q).Nodup:=by simpa [hds] using h2
   intro hm
   cases q with
   | nil=>
     rcases List.mem_cons.1 hm with e | hm
     · exact a1.pos e.symm
     · have hm:=List.mem_reverse.1 hm
       obtain ⟨y,hy,e⟩:=List.mem_map.1 hm
       exact (h.pos _ hb y (by rw [hA]; simp [hy])).1 e
   | cons e' q'=>
     have h5:=List.nodup_append.1 hnd
     have h6:=List.nodup_cons.1 h5.2.1
     rcases List.mem_cons.1 hm with e | hm
     · exact h6.1 (by rw [← e]; simp [hds,hdH])
     · have hm:=List.mem_reverse.1 hm
       exact h5.2.2 _ hm _ (by simp [hds,hdH]) rfl
 · cases q with
   | nil=>simp [hdH]
   | cons e' q'=>exact (h.pos _ hb e' (by rw [hA]; simp)).2
theorem wth_le (hZ:ZD l Z L) {ids:List Nat} {ls:List (List (Nat×Nat))} (h:Wth (Pt Z) ids ls) (hn:ids.Nodup):ls.length≤Z.n:=by
 rw [← h.len]
 refine nodup_le _ _ hn fun x hx=>?_
 clear hn
 induction h with
 | nil=>simp at hx
 | cons a _ ih=>
   rcases List.mem_cons.1 hx with rfl | hx
   · exact a.1
   · exact ih hx
theorem J.ok (h:J n0 l Z old L G m c) (hZ:ZD l Z L):Okgr L G:=by
 obtain ⟨hc,hp⟩:=h
 have hn:=n_bd hZ
 have hnx:=hp.nx
 have hkB:=hZ.1.kB
 have hbb:=hZ.1.bb
 have hxl:=hZ.1.xl
 have hk:=hc.k
 have hxb:=hc.xb
 have hlen:=hc.xl
 have hfew:=hZ.2
 have hn3:∀ (a2:G.pass.length≤100000∧G.later.length≤100000) (a3:G.nx=3→G.bucket<Z.n) (a4:G.nx=4→Okr L G) (a5:G.nx=5→G.bucket<Z.n∧G.half≤1∧sel G.C.fi G.half≤18446744073709551615) (a7:G.nx=7→Qs.Okw L.k.toNat L.xs L.hs G.W) (a8:G.nx=8→∃ x y ls t k,G.pass=((x,y)::ls)::t∧x≤18446744073709551615∧IsAt L.ss x k),Okgr L G:=fun a2 a3 a4 a5 a7 a8=>
  ⟨hnx,by omega,hc.hl,by have:=hc.ds.1; omega,fun q=>by rw [hc.el q]; simp only; omega,by have:=hc.bk; omega,a2,fun q=>hc.later (by omega),fun q=>by
   have:=a3 q
   rw [hc.el (by omega)]
   simp only
   omega,a4,fun q=>by
   obtain ⟨b1,b2,b3⟩:=a5 q
   refine ⟨b2,?_,b3,?_⟩
   · rw [(hc.nw (by omega)).1,hc.el (by omega),hlen,if_neg (by omega)]
     simp only
     have:G.half=0∨G.half=1:=by omega
     rcases this with e | e<;>rw [e]<;>omega
   · rw [(hc.nw (by omega)).1]
     simp only
     omega,fun q=>by
   obtain ⟨_,t,e,ht,_⟩:=hc.nw (by omega)
   rw [e]
   omega,fun q=>⟨by omega,a7 q⟩,a8⟩
 have lstl:∀ {b:Nat},b≤Z.n→Lst Z G b→G.pass.length≤100000:=fun {b} hb hL=>by
  obtain ⟨ids,h1,h2,_⟩:=hL
  have:=wth_le hZ h1 h2
  omega
 have hlat:G.nx≠8→G.later.length≤100000:=fun q=>by rw [hc.later q]; simp
 cases hp with
 | p1 e _ _ hb hps _=>exact hn3 ⟨by rw [hps]; simp,hlat (by omega)⟩ (by omega) (by omega) (by omega) (by omega) (by omega)
 | p2 e _ _ hb hps _=>exact hn3 ⟨by rw [hps]; simp,hlat (by omega)⟩ (by omega) (by omega) (by omega) (by omega) (by omega)
 | p3 e _ _ hb _ hL _=>exact hn3 ⟨lstl (by omega) hL,hlat (by omega)⟩ (fun _=>hb) (by omega) (by omega) (by omega) (by omega)
 | p4 p q e hpub _ hb _ hL hA hq hat hC _=>
   refine hn3 ⟨lstl (by omega) hL,hlat (by omega)⟩ (by omega) (fun _=>?_) (by omega) (by omega) (by omega)
   cases q with
   | nil=>exact absurd rfl hq
   | cons e0 q'=>
     have hat':G.at_=e0.1:=hat
     obtain ⟨k,a1,a2,a3,a4,a5⟩:=p4_at hZ hc hpub hb hA hat'
     obtain ⟨b1,b2,b3⟩:=chn_bd (sd Z.n) _ p rfl
     have hpl:p.length≤35:=by
      have:=hZ.1.few.1 _ hb
      rw [hA] at this
      simp at this
      omega
     have hsum:(at' L.ss k).nd.sum=sm e0.2.1:=by rw [a3]; rfl
     have hnext:(at' L.ss k).nd.next=((hdH q':Nat):Int):=by rw [a3]; rfl
     have hs:=sm_bd e0.2.1
     refine ⟨by rw [a2]; exact a1,by rw [hat']; exact (hc.pos _ hb e0 (by rw [hA]; simp)).2,by rw [a2,hsum]; exact hs,by rw [a2,hnext]; omega,?_,?_,by rw [hc.el (by omega),(hc.nw (by omega)).1]; simp only; omega,?_,by rw [hC]; exact b1,by rw [hC]; omega,lstl (by omega) hL,hc.later (by omega),by omega⟩
     · rw [a2,hnext,Int.toNat_natCast,hC,b3]
       exact a4
     · rw [a2,hsum,hfs_eq hZ hc (by omega)]
       exact hf_le _
     · rw [hC,b3]
       refine ⟨fun hm=>?_,by simp; omega⟩
       obtain ⟨y,hy,e⟩:=List.mem_map.1 (List.mem_reverse.1 hm)
       exact (hc.pos _ hb y (by rw [hA]; simp [hy])).1 e
 | p5 e hpub _ hb _ hL hfi hh _=>
   refine hn3 ⟨lstl (by omega) hL,hlat (by omega)⟩ (by omega) (by omega) (fun _=>⟨hb,hh,?_⟩) (by omega) (by omega)
   have h2:∀ b:Bool,hdH ((Z.All G.bucket).filter fun a=>sd Z.n a.2.1==b)≤18446744073709551615:=fun b=>by
    cases hq:(Z.All G.bucket).filter fun a=>sd Z.n a.2.1==b with
    | nil=>simp [hdH]
    | cons a t=>
      have:a∈Z.All G.bucket:=(List.mem_filter.1 (show a∈(Z.All G.bucket).filter fun a=>sd Z.n a.2.1==b by rw [hq]; simp)).1
      exact (hc.pos _ hb a this).2
   have:G.half=0∨G.half=1:=by omega
   rcases this with e | e
   · rw [e,show (0:Nat)=hf false from rfl,hfi]; exact h2 _
   · rw [e,show (1:Nat)=hf true from rfl,hfi]; exact h2 _
 | p6 e _ _ _ hL _=>exact hn3 ⟨lstl (Nat.le_refl _) hL,hlat (by omega)⟩ (by omega) (by omega) (by omega) (by omega) (by omega)
 | p7 t ids e hpub _ hok _ _ _ hw hnd _ _ _=>exact hn3 ⟨by have:=wth_le hZ hw hnd; omega,hlat (by omega)⟩ (by omega) (by omega) (by omega) (fun _=>hok) (by omega)
 | p8 t ids ids' e hpub hold hw hw' hnd _ hne _ _ hll _=>
   have h1:=wth_le hZ hw (List.nodup_append.1 hnd).1
   refine hn3 ⟨by omega,by omega⟩ (by omega) (by omega) (by omega) (by omega) (fun _=>?_)
   obtain ⟨ps,hps⟩:∃ ps,ps=G.pass:=⟨_,rfl⟩
   rw [← hps] at hw hne ⊢
   cases hw with
   | nil=>exact absurd rfl hne
   | @cons e0 es l0 ls0 hP _=>
     obtain ⟨he,hl0,hL⟩:=hP
     generalize hr:Z.r e0=r at hL
     generalize hq:Z.rest e0=rest at hL
     cases hL with
     | nil=>exact absurd rfl hl0
     | @cons r0 d t0 a s ls' _ _ _ _=>
       have hz:=hZ.1.zip e0 he
       have ho:=hz.own
       obtain ⟨k,_,hk,_⟩:=ho.at a (by rw [hr]; simp)
       exact ⟨a.1,hdH t0,ls',ls0,k,rfl,(hc.pos _ he a (hz.sub a (by rw [hr]; simp))).2,hk⟩
end
end Go.Proofs.YtkogifmjbmnpgaaGreat.Gw
namespace Go.Proofs.YtkogifmjbmnpgaaGreat.Gw
open Go Hm Ar Mm Wk Pc Me Mq Pu Pn Gt Qs Zp Mx
section
variable {n0:Nat} {l:List Pr} {Z:Zs} {L:Lm} {G:Gr} {m c:Nat} {old:Nat→Int→Nat→Prop}
theorem J.cells (h:J n0 l Z old L G m c) {xs':List Int} (hl:xs'.length=L.xs.length) (h0:Cl.nth xs' 0=Cl.nth L.xs 0) (hb:∀ i,Z.B2≤i→Cl.nth xs' i=Cl.nth L.xs i):J n0 l Z old {L with xs:=xs'} G m c:=by
 obtain ⟨hc,hp⟩:=h
 have hcel:∀ {b k:Nat},Cel Z L b k→Cel Z {L with xs:=xs'} b k:=fun q d hd=>by
  show Cl.nth xs' _=_
  rw [hb _ (by omega)]
  exact q d hd
 refine ⟨{hc with pd:=by show Cl.nth xs' 0+_≤_; rw [h0]; exact hc.pd,xl:=by show xs'.length=_; rw [hl]; exact hc.xl,tabs:=tabs_len hc.tabs hl},?_⟩
 cases hp with
 | p1 a b c d e f=>exact .p1 a b c d e f
 | p2 a b c d e f=>exact .p2 a b c d e f
 | p3 a b c d e f g=>exact .p3 a b c d (hcel e) f g
 | p4 p q a b c d e f g h i j k=>exact .p4 p q a b c d (hcel e) f g h i j k
 | p5 a b c d e f g h i=>exact .p5 a b c d (hcel e) f g h i
 | p6 a b c d e f=>exact .p6 a b c (hcel d) e f
 | p7 t ids a b c d e f g h i j k l=>exact .p7 t ids a b c ⟨d.n1,d.at_,d.wk,d.hl,by show _≤xs'.length; rw [hl]; exact d.xl,d.passed,d.own⟩ e f g h i j k l
 | p8 t ids ids' a b c d e f g h i j k l=>exact .p8 t ids ids' a b c d e f g h i j k l
theorem J.stays (h:J n0 l Z old L G m c) (hZ:ZD l Z L) (w:Nat) (p':Int) (hw:(w:Int)<L.k):J n0 l Z old {L with xs:=L.xs.set (2+w) p'} G m c:=by
 have hn:∀ i,i≠2+w→Cl.nth (L.xs.set (2+w) p') i=Cl.nth L.xs i:=fun i hi=>by
  by_cases hl:2+w<L.xs.length
  · rw [nth_set _ _ _ hl,if_neg hi]
  · rw [List.set_eq_of_length_le (by omega)]
 have hkB:=hZ.1.kB
 have hxl:=hZ.1.xl
 exact h.cells (by simp) (hn _ (by omega)) (fun i hi=>hn _ (by omega))
theorem gready_7 (h:gready L G=false):G.nx=7∧readyB L.xs L.hs G.W=false:=by
 unfold gready at h
 split at h
 · rename_i e; exact ⟨e,h⟩
 · simp at h
theorem J.wait (h:J n0 l Z old L G m c) (hr:gready L G=false):∃ i:Nat,(i:Int)<L.k∧Cl.nth L.xs (2+i)≠0:=by
 obtain ⟨hc,hp⟩:=h
 have hk:=hc.k
 obtain ⟨h7,hr⟩:=gready_7 hr
 cases hp with
 | p7 t ids a b c d e f g h i j k l=>
   unfold readyB at hr
   split at hr
   · rename_i h0
     unfold takeB at hr
     have:=of_decide_eq_false hr
     exact absurd ⟨e,g h0⟩ this
   split at hr
   · rename_i h2
     unfold passB at hr
     have hd:=of_decide_eq_false hr
     have hpp:=d.passed.2 (by omega)
     exact ⟨G.W.passed,by omega,fun q=>hd (.inl q)⟩
   · simp at hr
 | p1 a _ _ _ _ _=>omega
 | p2 a _ _ _ _ _=>omega
 | p3 a _ _ _ _ _ _=>omega
 | p4 p q a _ _ _ _ _ _ _ _ _ _=>omega
 | p5 a _ _ _ _ _ _ _ _=>omega
 | p6 a _ _ _ _ _=>omega
 | p8 t ids ids' a _ _ _ _ _ _ _ _ _ _ _=>omega
theorem J.fits (h:Jc n0 l Z L G m) (hZ:ZD l Z L) (h2:G.nx=2):FM.power ((2*G.el.1:Nat):Int)=true∧L.xs.length+2*G.el.1≤1048576:=by
 have hb:=h.xb
 have hl:=h.xl
 rw [if_pos (by omega)] at hl
 rw [h.el (by omega)]
 exact ⟨hZ.1.pw2,by simp only; omega⟩
theorem gstep7 (h7:G.nx=7):gstep L G=({L with xs:=(wstep L.k.toNat L.xs L.hs G.W).1,hs:=(wstep L.k.toNat L.xs L.hs G.W).2.1},{G with W:=(wstep L.k.toNat L.xs L.hs G.W).2.2,nx:=if G.W.at_=3 then (if G.pass=[] then 9 else 8) else 7}):=by
 unfold gstep; rw [if_neg (by omega),if_neg (by omega),if_neg (by omega),if_neg (by omega),if_neg (by omega),if_neg (by omega),if_pos h7]
def Goes (n0:Nat) (l:List Pr) (Z:Zs) (old:Nat→Int→Nat→Prop) (L:Lm) (G:Gr) (m c:Nat):Prop:=
 ∃ Z' old' m' c' j,m'+1≤m∧c'+j≤c∧J n0 l Z' old' (gstep L G).1 (gstep L G).2 m' c'∧ZD l Z' (gstep L G).1∧
   (∀ (R:Rn) (k:Nat),(R.w:Int)<L.k→RnOk Z.wy L l old R k→∃ k',k'≤k+j∧RnOk Z'.wy (gstep L G).1 l old' R k')∧(∀ i:Nat,(i:Int)<L.k→Cl.nth (gstep L G).1.xs (2+i)=Cl.nth L.xs (2+i))∧(gstep L G).1.k=L.k∧Z'.All=Z.All∧Z'.few=Z.few∧Z'.cap=Z.cap∧Z'.B2=Z.B2
theorem Goes.of {L':Lm} {G':Gr} {Z':Zs} {old':Nat→Int→Nat→Prop} {m':Nat} (e:gstep L G=(L',G')) (hm:m'+1≤m) (hJ:J n0 l Z' old' L' G' m' c) (hZ:ZD l Z' L') (hB:Beside l Z L old Z' L' old') (h3:∀ i:Nat,(i:Int)<L.k→Cl.nth L'.xs (2+i)=Cl.nth L.xs (2+i)) (hk:L'.k=L.k:=by rfl) (hA:Z'.All=Z.All∧Z'.few=Z.few∧Z'.cap=Z.cap∧Z'.B2=Z.B2:=by exact ⟨rfl,rfl,rfl,rfl⟩):Goes n0 l Z old L G m c:=by
 refine ⟨Z',old',m',c,0,hm,Nat.le_refl _,?_⟩
 rw [e]
 exact ⟨hJ,hZ,hB,h3,hk,hA.1,hA.2.1,hA.2.2.1,hA.2.2.2⟩
theorem Beside.refl (l:List Pr) (Z:Zs) (L:Lm) (old:Nat→Int→Nat→Prop):Beside l Z L old Z L old:=fun _ k _ h=>⟨k,Nat.le_refl _,h⟩
theorem J.go1 (h:J n0 l Z old L G m c) (hZ:ZD l Z L) (h1:G.nx=1):Goes n0 l Z old L G m c:=by
 obtain ⟨hc,hp⟩:=h
 cases hp with
 | p1 a b c d e f=>
   have hnow:=hZ.1.now
   rw [b,if_neg (by simp)] at hnow
   have es:gstep L G=(L,{G with el:=now L.xs L.ds,nx:=2}):=by unfold gstep; rw [if_pos h1]
   rw [hnow] at es
   refine Goes.of (m':=m-1) es (by omega) ⟨⟨hc.nn,hc.al,hc.wk,hc.err,fun _=>rfl,hc.k,?_,hc.hl,fun _=>hc.hol (by omega),hc.xb,?_,?_,fun q=>?_,fun _=>hc.later (by omega),hc.bk,hc.b5,hc.pos,hc.tabs⟩,?_⟩ hZ (Beside.refl _ _ _ _) (fun _ _=>rfl)
   · have:=hc.pd; omega
   · have:=hc.xl
     rw [if_pos (by omega)] at this
     rw [if_pos (by simp)]
     exact this
   · exact ⟨hc.ds.1,fun _=>hc.ds.2 (by omega)⟩
   · simp only at q; omega
   · exact .p2 rfl b c d e (by omega)
 | p2 a _ _ _ _ _=>omega
 | p3 a _ _ _ _ _ _=>omega
 | p4 p q a _ _ _ _ _ _ _ _ _ _=>omega
 | p5 a _ _ _ _ _ _ _ _=>omega
 | p6 a _ _ _ _ _=>omega
 | p7 t ids a _ _ _ _ _ _ _ _ _ _ _=>omega
 | p8 t ids ids' a _ _ _ _ _ _ _ _ _ _ _=>omega
theorem J.go2 (h:J n0 l Z old L G m c) (hZ:ZD l Z L) (h2:G.nx=2):Goes n0 l Z old L G m c:=by
 obtain ⟨hc,hp⟩:=h
 have hf:=J.fits hc hZ h2
 have hn:=n_bd hZ
 cases hp with
 | p2 a b cc d e f=>
   have hlen:=hc.xl
   rw [if_pos (by omega)] at hlen
   have es:gstep L G=({L with xs:=L.xs++List.replicate (2*Z.n) 0,ds:=L.ds++[(2*Z.n,Z.B2)]},{G with num:=L.ds.length,err:=0,nw:=(2*Z.n,Z.B2),nx:=3}):=by
    unfold gstep
    rw [if_neg (by omega),if_pos h2,if_pos hf,hc.el (by omega),hlen]
   have hb:=beside_cells (old:=old) hZ (xs':=L.xs++List.replicate (2*Z.n) 0) (hs':=L.hs) (ds':=L.ds++[(2*Z.n,Z.B2)]) (ws':=L.ws) (fun i _ _=>nth_app i) (fun q=>by rw [b] at q; simp at q) (by simp) (fun x hx=>by
    rcases List.mem_append.1 hx with q | q
    · exact hZ.1.xb x q
    · have:=(List.mem_replicate.1 q).2
      omega) (by
    have hnow:=hZ.1.now
    rw [b,if_neg (by simp)] at hnow
    unfold Me.now at hnow ⊢
    rw [nth_app,tab_app,if_neg]
    intro q
    rw [q,tab_none (Nat.le_refl _)] at hnow
    injection hnow with q1 _
    omega) (fun i=>by
    rw [tab_app]
    split
    · have:=hc.xb; simp only; omega
    · exact hZ.1.tb i) (by rw [nth_app]; exact Int.le_refl _)
   refine Goes.of (m':=m-1) es (by omega) ⟨⟨hc.nn,hc.al,hc.wk,rfl,fun _=>hc.el (by omega),hc.k,by show Cl.nth (L.xs++_) 0+_≤_; rw [nth_app]; have:=hc.pd; omega,hc.hl,fun _=>hc.hol (by omega),hc.xb,?_,?_,fun _=>⟨rfl,L.ds.length,rfl,by have:=hc.ds.1; omega,by show tab (L.ds++_) _=_; rw [tab_app,if_pos rfl]⟩,fun _=>hc.later (by omega),hc.bk,hc.b5,hc.pos,?_⟩,?_⟩ hb.1 hb.2 (fun _ _=>nth_app _)
   · rw [if_neg (by simp)]
     simp [hlen]
   · have:=hc.ds.2 (by omega)
     exact ⟨by simp only [List.length_append,List.length_singleton]; omega,fun q=>by simp only at q; omega⟩
   · intro i hi
     show 1≤(tab (L.ds++_) i).1∧(tab (L.ds++_) i).1≤65536∧(tab (L.ds++_) i).2+(tab (L.ds++_) i).1≤(L.xs++List.replicate (2*Z.n) 0).length
     have hpb:=FM.power_bd hZ.1.pw2
     rw [tab_app]
     split
     · simp only [List.length_append,List.length_replicate]
       omega
     · have hi':i<(L.ds++[(2*Z.n,Z.B2)]).length:=hi
       simp only [List.length_append,List.length_singleton] at hi'
       have:=hc.tabs i (by omega)
       simp only [List.length_append,List.length_replicate]
       omega
   · have hb0:({G with num:=L.ds.length,err:=0,nw:=(2*Z.n,Z.B2),nx:=3}:Gr).bucket=0:=d
     refine .p3 rfl b cc (by rw [hb0]; omega) (fun k hk=>?_) ⟨[],?_,List.nodup_nil,by simp,fun q hq=>by rw [hb0] at hq; omega,?_,?_⟩ ?_
     · show Cl.nth (L.xs++_) _=_
       rw [nth_app,nth_beyond (by omega),hb0,if_neg (by rintro (q | ⟨_,q⟩)<;>omega)]
     · show Wth _ [] G.pass
       rw [e]; exact .nil
     · show ∀ l∈G.pass,_
       rw [e]; simp
     · show tot G.pass≤_
       rw [e]; simp [tot]
     · rw [hb0]
       simp only [Nat.sub_zero]
       omega
 | p1 a _ _ _ _ _=>omega
 | p3 a _ _ _ _ _ _=>omega
 | p4 p q a _ _ _ _ _ _ _ _ _ _=>omega
 | p5 a _ _ _ _ _ _ _ _=>omega
 | p6 a _ _ _ _ _=>omega
 | p7 t ids a _ _ _ _ _ _ _ _ _ _ _=>omega
 | p8 t ids ids' a _ _ _ _ _ _ _ _ _ _ _=>omega
end
end Go.Proofs.YtkogifmjbmnpgaaGreat.Gw
namespace Go.Proofs.YtkogifmjbmnpgaaGreat.Gw
open Go Hm Ar Mm Wk Pc Me Mq Pu Pn Gt Qs Zp Mx
section
variable {n0:Nat} {l:List Pr} {Z:Zs} {L:Lm} {G G':Gr} {m m' c:Nat} {old:Nat→Int→Nat→Prop}
theorem Jc.to (h:Jc n0 l Z L G m) (h1:G'.worker=G.worker∧G'.err=G.err∧G'.el=G.el∧G'.nw=G.nw∧G'.num=G.num∧G'.later=G.later) (hb:G'.bucket≤Z.n) (h3:3≤G.nx∧G.nx≤6) (h3':3≤G'.nx∧G'.nx≤7) (hm:m'≤m):Jc n0 l Z L G' m':=by
 obtain ⟨e1,e2,e3,e4,e5,e6⟩:=h1
 have hpd:=h.pd
 have hxl:=h.xl
 rw [if_neg (by omega)] at hxl
 exact ⟨h.nn,h.al,by rw [e1]; exact h.wk,by rw [e2]; exact h.err,fun _=>by rw [e3]; exact h.el (by omega),h.k,by omega,h.hl,fun _=>h.hol (by omega),h.xb,by rw [if_neg (by omega)]; exact hxl,⟨h.ds.1,fun q=>by omega⟩,
  fun _=>by rw [e4,e5]; exact h.nw (by omega),fun _=>by rw [e6]; exact h.later (by omega),hb,h.b5,h.pos,h.tabs⟩
theorem Jc.cells (h:Jc n0 l Z L G m) {xs':List Int} (hl:xs'.length=L.xs.length) (h0:Cl.nth xs' 0=Cl.nth L.xs 0):Jc n0 l Z {L with xs:=xs'} G m:=
 {h with pd:=by show Cl.nth xs' 0+_≤_; rw [h0]; exact h.pd,xl:=by show xs'.length=_; rw [hl]; exact h.xl,tabs:=tabs_len h.tabs hl}
theorem half_bd {h:Nat} (hh:h≤2) (fi:Nat×Nat):h≤half2 h fi∧half2 h fi≤2∧∀ i,h≤i→i<half2 h fi→sel fi i=0:=by
 have:h=0∨h=1∨h=2:=by omega
 have z0:∀ i,i=0→fi.1=0→sel fi i=0:=fun i q h=>by unfold sel; rw [if_pos q]; exact h
 have z1:∀ i,i≠0→fi.2=0→sel fi i=0:=fun i q h=>by unfold sel; rw [if_neg q]; exact h
 by_cases h1:fi.1=0
 · by_cases h2:fi.2=0
   · rcases this with rfl | rfl | rfl
     · have e:half2 0 fi=2:=by simp [half2,half1,h1,h2]
       rw [e]
       exact ⟨by omega,by omega,fun i _ q=>by
        by_cases hi:i=0
        · exact z0 i hi h1
        · exact z1 i hi h2⟩
     · have e:half2 1 fi=2:=by simp [half2,half1,h2]
       rw [e]
       exact ⟨by omega,by omega,fun i _ q=>z1 i (by omega) h2⟩
     · have e:half2 2 fi=2:=by simp [half2,half1]
       rw [e]
       exact ⟨by omega,by omega,fun i _ q=>by omega⟩
   · rcases this with rfl | rfl | rfl
     · have e:half2 0 fi=1:=by simp [half2,half1,h1,h2]
       rw [e]
       exact ⟨by omega,by omega,fun i _ q=>z0 i (by omega) h1⟩
     · have e:half2 1 fi=1:=by simp [half2,half1,h2]
       rw [e]
       exact ⟨by omega,by omega,fun i _ q=>by omega⟩
     · have e:half2 2 fi=2:=by simp [half2,half1]
       rw [e]
       exact ⟨by omega,by omega,fun i _ q=>by omega⟩
 · rcases this with rfl | rfl | rfl
   · have e:half2 0 fi=0:=by simp [half2,half1,h1]
     rw [e]
     exact ⟨by omega,by omega,fun i _ q=>by omega⟩
   · by_cases h2:fi.2=0
     · have e:half2 1 fi=2:=by simp [half2,half1,h2]
       rw [e]
       exact ⟨by omega,by omega,fun i _ q=>z1 i (by omega) h2⟩
     · have e:half2 1 fi=1:=by simp [half2,half1,h2]
       rw [e]
       exact ⟨by omega,by omega,fun i _ q=>by omega⟩
   · have e:half2 2 fi=2:=by simp [half2,half1]
     rw [e]
     exact ⟨by omega,by omega,fun i _ q=>by omega⟩
theorem sto (hc:Jc n0 l Z L G m) (hZ:ZD l Z L) (hp:Z.pub=false) (ho:∀ w p e,old w p e) (hx:3≤G.nx∧G.nx≤5) (hb:G.bucket<Z.n) (hh:G.half≤2) (hcel:Cel Z L G.bucket G.half) (hlst:Lst Z G (G.bucket+1))
 (hfi:∀ b,sel G.C.fi (hf b)=hdH ((Z.All G.bucket).filter fun a=>sd Z.n a.2.1==b)) (hm:(2-G.half)+(Z.n-G.bucket-1)*(Z.few+4)+mB Z≤m') (hm':m'≤m):J n0 l Z old L (toStore G) m' c:=by
 obtain ⟨h1,h2,h3⟩:=half_bd hh G.C.fi
 have hn:=n_bd hZ
 have hc2:Cel Z L G.bucket (half2 G.half G.C.fi):=fun d hd=>by
  rw [hcel d hd]
  by_cases q:d % Z.n<G.bucket∨(d % Z.n=G.bucket∧d<Z.n*G.half)
  · rw [if_pos q,if_pos]
    refine q.imp id fun q=>⟨q.1,Nat.lt_of_lt_of_le q.2 (Nat.mul_le_mul_left _ h1)⟩
  · rw [if_neg q]
    split
    · rename_i q2
      rcases q2 with q2 | ⟨q2,q3⟩
      · exact absurd (.inl q2) q
      · have hd1:Z.n*G.half≤d:=by
         rcases Nat.lt_or_ge d (Z.n*G.half) with a | a
         · exact absurd (.inr ⟨q2,a⟩) q
         · exact a
        rw [fresh_head hZ hp hd,q2,← hfi,h3]
        · rfl
        · unfold hf
          split
          · rename_i q4
            have q4:=of_decide_eq_true q4
            rcases Nat.lt_or_ge G.half 2 with a | a
            · omega
            · have:G.half=2:=by omega
              rw [this] at hd1
              omega
          · rename_i q4
            have q4:¬Z.n≤d:=fun a=>q4 (decide_eq_true a)
            rcases Nat.eq_zero_or_pos G.half with a | a
            · omega
            · have:=Nat.mul_le_mul_left Z.n (show 1≤G.half from a)
              omega
        · unfold hf
          split
          · rename_i q4
            have q4:=of_decide_eq_true q4
            rcases Nat.lt_or_ge 1 (half2 G.half G.C.fi) with a | a
            · exact a
            · have:=Nat.mul_le_mul_left Z.n a
              omega
          · rcases Nat.eq_zero_or_pos (half2 G.half G.C.fi) with a | a
            · rw [a] at q3; omega
            · exact a
    · rfl
 unfold toStore
 split
 · rename_i hlt
   refine ⟨hc.to ⟨rfl,rfl,rfl,rfl,rfl,rfl⟩ (by simp only; omega) (by omega) ⟨by simp only; omega,by simp only; omega⟩ hm',.p5 rfl hp ho hb hc2 hlst hfi (by simp only; omega) ?_⟩
   simp only
   omega
 · rename_i hlt
   have he:half2 G.half G.C.fi=2:=by omega
   have hc3:Cel Z L (G.bucket+1) 0:=fun d hd=>by
    rw [hc2 d hd,he]
    have:(d % Z.n<G.bucket∨(d % Z.n=G.bucket∧d<Z.n*2))↔(d % Z.n<G.bucket+1∨(d % Z.n=G.bucket+1∧d<Z.n*0)):=by omega
    by_cases q:d % Z.n<G.bucket∨(d % Z.n=G.bucket∧d<Z.n*2)
    · rw [if_pos q,if_pos (this.1 q)]
    · rw [if_neg q,if_neg (fun a=>q (this.2 a))]
   have hel:G.el.1=Z.n:=by rw [hc.el (by omega)]
   rw [hel]
   by_cases hq:G.bucket+1=Z.n
   · rw [if_pos hq]
     refine ⟨hc.to ⟨rfl,rfl,rfl,rfl,rfl,rfl⟩ (by simp only; omega) (by omega) ⟨by simp only; omega,by simp only; omega⟩ hm',.p6 rfl hp ho (by rw [← hq]; exact hc3) (by rw [← hq]; exact hlst) (by omega)⟩
   · rw [if_neg hq]
     refine ⟨hc.to ⟨rfl,rfl,rfl,rfl,rfl,rfl⟩ (by simp only; omega) (by omega) ⟨by simp only; omega,by simp only; omega⟩ hm',.p3 rfl hp ho (by simp only; omega) hc3 hlst ?_⟩
     simp only
     rw [show Z.n-(G.bucket+1)=Z.n-G.bucket-1 by omega]
     omega
theorem com (hc:Jc n0 l Z L G m) (hZ:ZD l Z L) (hp:Z.pub=false) (ho:∀ w p e,old w p e) (hx:3≤G.nx∧G.nx≤4) (hb:G.bucket<Z.n) (hcel:Cel Z L G.bucket 0) (hlst:Lst Z G G.bucket)
 {p q:List Mq.Hp} (hA:Z.All G.bucket=p++q) (hC:G.C=chn (sd Z.n) p) (hm:q.length+3+(Z.n-G.bucket-1)*(Z.few+4)+mB Z≤m') (hm':m'≤m):J n0 l Z old L (comeTo G (hdH q)) m' c:=by
 have h0:∀ e∈Z.All G.bucket,e.1≠0:=fun e he=>(hc.pos _ hb e he).1
 unfold comeTo
 cases q with
 | cons e q'=>
   rw [if_neg (by rw [hA] at h0; exact h0 e (by simp))]
   exact ⟨hc.to ⟨rfl,rfl,rfl,rfl,rfl,rfl⟩ (by simp only; omega) (by omega) ⟨by simp only; omega,by simp only; omega⟩ hm',.p4 p (e::q') rfl hp ho hb hcel hlst hA (by simp) rfl hC hm⟩
 | nil=>
   rw [List.append_nil] at hA
   rw [if_pos (show hdH []=0 from rfl)]
   obtain ⟨f1,f2,f3,f4⟩:=fresh_cx hZ hp hb
   have hln:=lnk_whole (sd Z.n) f3 f4 h0
   have hgo:=gone_chn (sd Z.n) _ (Z.All G.bucket) rfl h0
   rw [hA,← hC] at hln hgo
   have hfew:=hZ.1.few.1 _ hb
   have hrl:(Z.rest G.bucket).length≤Z.few:=by
    have:=congrArg List.length f4
    rw [List.length_append] at this
    omega
   obtain ⟨ids,w1,w2,w3,w4,w5,w6⟩:=hlst
   have hmul:(G.bucket+1)*Z.few=G.bucket*Z.few+Z.few:=Nat.succ_mul _ _
   unfold endChain
   refine sto (G:={G with pass:=if G.C.over=[] then G.pass else G.pass++[G.C.over],half:=0}) (hc.to (m':=m) ⟨rfl,rfl,rfl,rfl,rfl,rfl⟩ (by simp only; omega) (by omega) ⟨by simp only; omega,by simp only; omega⟩ (Nat.le_refl _)) hZ hp ho (by simp only; omega) hb (by simp) hcel ?_ ?_ ?_ hm'
   · by_cases hov:G.C.over=[]
     · rw [hov] at hln
       have hre:=hln.none
       refine ⟨ids,?_,w2,fun e he=>?_,fun e he hne=>?_,?_,?_⟩
       · show Wth _ ids (if G.C.over=[] then _ else _)
         rw [if_pos hov]; exact w1
       · have:=w3 e he
         simp only
         omega
       · simp only at he
         by_cases hq:e=G.bucket
         · rw [hq]; exact hre
         · exact w4 e (by omega) hne
       · show ∀ l∈(if G.C.over=[] then _ else _),_
         rw [if_pos hov]; exact w5
       · show tot (if G.C.over=[] then _ else _)≤_
         rw [if_pos hov,hmul]; omega
     · refine ⟨ids++[G.bucket],?_,?_,fun e he=>?_,fun e he hne=>?_,?_,?_⟩
       · show Wth _ _ (if G.C.over=[] then _ else _)
         rw [if_neg hov]
         exact w1.snoc ⟨hb,hov,hln⟩
       · refine List.nodup_append.2 ⟨w2,by simp,fun a ha b hb' e=>?_⟩
         have:=w3 a ha
         have hbe:b=G.bucket:=by simpa using hb'
         omega
       · rcases List.mem_append.1 he with q | q
         · have:=w3 e q
           simp only
           omega
         · have:e=G.bucket:=by simpa using q
           simp only
           omega
       · simp only at he
         by_cases hq:e=G.bucket
         · exact absurd (by rw [hq]; simp) hne
         · exact w4 e (by omega) fun q=>hne (by simp [q])
       · show ∀ l∈(if G.C.over=[] then _ else _),_
         rw [if_neg hov]
         intro l hl
         rcases List.mem_append.1 hl with q | q
         · exact w5 l q
         · have:l=G.C.over:=by simpa using q
           rw [this]
           exact Nat.le_trans hln.le hrl
       · show tot (if G.C.over=[] then _ else _)≤_
         rw [if_neg hov,hmul,tot_snoc]
         have:=hln.le
         omega
   · intro b
     show sel G.C.fi (hf b)=_
     rw [hgo.fi b,hA]
   · simp only [List.length_nil] at hm ⊢
     omega
theorem J.go3 (h:J n0 l Z old L G m c) (hZ:ZD l Z L) (h3:G.nx=3):Goes n0 l Z old L G m c:=by
 obtain ⟨hc,hp⟩:=h
 cases hp with
 | p3 a b d e f g i=>
   have es:gstep L G=(L,comeTo {G with C:=.new} (hdH (Z.All G.bucket))):=by
    unfold gstep
    rw [if_neg (by omega),if_neg (by omega),if_pos h3,hc.el (by omega),hZ.1.elder _ e,Int.toNat_natCast]
   have hfew:=hZ.1.few.1 _ e
   have hmul:(Z.n-G.bucket)*(Z.few+4)=(Z.n-G.bucket-1)*(Z.few+4)+(Z.few+4):=by
    rw [← Nat.succ_mul]
    congr 1
    omega
   exact Goes.of (m':=m-1) es (by omega) (com (m:=m) (G:={G with C:=.new}) (hc.to ⟨rfl,rfl,rfl,rfl,rfl,rfl⟩ (by simp only; omega) (by omega) ⟨by simp only; omega,by simp only; omega⟩ (Nat.le_refl _)) hZ b d (by simp only; omega) e f g (p:=[]) rfl rfl (by simp only; omega) (by omega)) hZ (Beside.refl _ _ _ _) (fun _ _=>rfl)
 | p1 a _ _ _ _ _=>omega
 | p2 a _ _ _ _ _=>omega
 | p4 p q a _ _ _ _ _ _ _ _ _ _=>omega
 | p5 a _ _ _ _ _ _ _ _=>omega
 | p6 a _ _ _ _ _=>omega
 | p7 t ids a _ _ _ _ _ _ _ _ _ _ _=>omega
 | p8 t ids ids' a _ _ _ _ _ _ _ _ _ _ _=>omega
theorem J.go4 (h:J n0 l Z old L G m c) (hZ:ZD l Z L) (h4:G.nx=4):Goes n0 l Z old L G m c:=by
 obtain ⟨hc,hp⟩:=h
 cases hp with
 | p4 p q a b d e f g hA hq hat hC i=>
   cases q with
   | nil=>exact absurd rfl hq
   | cons e0 q'=>
     have hat':G.at_=e0.1:=hat
     obtain ⟨k,a1,a2,a3,a4,a5⟩:=p4_at hZ hc b e hA hat'
     have hsum:(at' L.ss k).nd.sum=sm e0.2.1:=by rw [a3]; rfl
     have hnext:(at' L.ss k).nd.next=((hdH q':Nat):Int):=by rw [a3]; rfl
     have es:gstep L G=(L,comeTo {G with C:=chn (sd Z.n) (p++[e0])} (hdH q')):=by
      unfold gstep
      rw [if_neg (by omega),if_neg (by omega),if_neg (by omega),if_pos h4,a2,hsum,hnext,Int.toNat_natCast,hfs_eq hZ hc (by omega),hC,hat',chn_snoc]
     have hl:(e0::q').length=q'.length+1:=rfl
     rw [hl] at i
     exact Goes.of (m':=m-1) es (by omega) (com (m:=m) (G:={G with C:=chn (sd Z.n) (p++[e0])}) (hc.to ⟨rfl,rfl,rfl,rfl,rfl,rfl⟩ (by simp only; omega) (by omega) ⟨by simp only; omega,by simp only; omega⟩ (Nat.le_refl _)) hZ b d (by simp only; omega) e f g (p:=p++[e0]) (q:=q') (by simp [hA]) rfl (by simp only; omega) (by omega)) hZ (Beside.refl _ _ _ _) (fun _ _=>rfl)
 | p1 a _ _ _ _ _=>omega
 | p2 a _ _ _ _ _=>omega
 | p3 a _ _ _ _ _ _=>omega
 | p5 a _ _ _ _ _ _ _ _=>omega
 | p6 a _ _ _ _ _=>omega
 | p7 t ids a _ _ _ _ _ _ _ _ _ _ _=>omega
 | p8 t ids ids' a _ _ _ _ _ _ _ _ _ _ _=>omega
theorem J.go5 (h:J n0 l Z old L G m c) (hZ:ZD l Z L) (h5:G.nx=5):Goes n0 l Z old L G m c:=by
 have hok:=(h.ok hZ)
 obtain ⟨hc,hp⟩:=h
 cases hp with
 | p5 a b d e f g hfi hh i=>
   have hn:=n_bd hZ
   have hxl:=hZ.1.xl
   have hb5:=hc.b5
   have hkB:=hZ.1.kB
   have hlen:=hc.xl
   rw [if_neg (by omega)] at hlen
   obtain ⟨v,hv⟩:∃ v:Int,v=((sel G.C.fi G.half:Nat):Int):=⟨_,rfl⟩
   obtain ⟨i0,hi0⟩:∃ i0,i0=G.bucket+G.half*Z.n:=⟨_,rfl⟩
   have hi1:i0<2*Z.n∧i0 % Z.n=G.bucket∧hf (decide (Z.n≤i0))=G.half∧i0=G.bucket+G.half*Z.n:=by
    have:G.half=0∨G.half=1:=by omega
    rcases this with q | q
    · rw [q] at hi0 ⊢
      refine ⟨by omega,?_,?_,hi0⟩
      · rw [hi0,Nat.zero_mul,Nat.add_zero,Nat.mod_eq_of_lt e]
      · rw [decide_eq_false (by omega)]; rfl
    · rw [q] at hi0 ⊢
      refine ⟨by omega,?_,?_,hi0⟩
      · rw [hi0,Nat.one_mul,Nat.add_mod_right,Nat.mod_eq_of_lt e]
      · rw [decide_eq_true (by omega)]; rfl
   obtain ⟨j1,j2,j3,j4⟩:=hi1
   have hvb:0≤v∧v≤18446744073709551615:=by
    have h2:sel G.C.fi G.half≤18446744073709551615:=by
     rw [← j3,hfi]
     cases hq:(Z.All G.bucket).filter fun a=>sd Z.n a.2.1==decide (Z.n≤i0) with
     | nil=>simp [hdH]
     | cons a t=>
       have:a∈Z.All G.bucket:=(List.mem_filter.1 (show a∈(Z.All G.bucket).filter fun a=>sd Z.n a.2.1==decide (Z.n≤i0) by rw [hq]; simp)).1
       exact (hc.pos _ e a this).2
    omega
   have es:gstep L G=({L with xs:=L.xs.set (Z.B2+i0) v},toStore {G with half:=G.half+1}):=by
    unfold gstep
    rw [if_neg (by omega),if_neg (by omega),if_neg (by omega),if_neg (by omega),if_pos h5,hc.el (by omega),(hc.nw (by omega)).1,← hv,hi0]
   have hnth:∀ j,j≠Z.B2+i0→Cl.nth (L.xs.set (Z.B2+i0) v) j=Cl.nth L.xs j:=fun j hj=>by rw [nth_set _ _ _ (by omega),if_neg hj]
   have hbe:=beside_cells (old:=old) hZ (xs':=L.xs.set (Z.B2+i0) v) (hs':=L.hs) (ds':=L.ds) (ws':=L.ws) (fun j _ _=>hnth j (by omega)) (fun q=>by rw [b] at q; simp at q) (by simp) (fun x hx=>by
    rcases List.mem_or_eq_of_mem_set hx with q | rfl
    · exact hZ.1.xb x q
    · exact hvb) (by
    unfold Me.now
    rw [hnth 1 (by omega)]) hZ.1.tb (by rw [hnth 0 (by omega)]; exact Int.le_refl _)
   refine Goes.of (m':=m-1) es (by omega) (sto (m:=m) (G:={G with half:=G.half+1}) ?_ hbe.1 b d (by first | omega | (simp only; omega)) e (by first | omega | (simp only; omega)) ?_ g hfi (by first | omega | (simp only; omega)) (by omega)) hbe.1 hbe.2 (fun _ _=>hnth _ (by omega))
   · have hj:Jc n0 l Z L {G with half:=G.half+1} m:=hc.to ⟨rfl,rfl,rfl,rfl,rfl,rfl⟩ (by simp only; omega) (by omega) ⟨by simp only; omega,by simp only; omega⟩ (Nat.le_refl _)
     exact hj.cells (by simp) (hnth _ (by omega))
   · intro x hx
     show Cl.nth (L.xs.set (Z.B2+i0) v) (Z.B2+x)=if x % Z.n<G.bucket∨(x % Z.n=G.bucket∧x<Z.n*(G.half+1)) then _ else _
     by_cases hq:x=i0
     · subst hq
       rw [nth_set _ _ _ (by omega),if_pos rfl,if_pos,hv,fresh_head hZ b hx,j2,← hfi,j3]
       refine .inr ⟨j2,?_⟩
       rw [j4,Nat.mul_add,Nat.mul_comm Z.n G.half]
       omega
     · rw [hnth _ (by omega),f x hx]
       have:(x % Z.n<G.bucket∨(x % Z.n=G.bucket∧x<Z.n*G.half))↔(x % Z.n<G.bucket∨(x % Z.n=G.bucket∧x<Z.n*(G.half+1))):=by
        refine or_congr Iff.rfl (and_congr_right fun q=>?_)
        have hd:=Nat.div_add_mod x Z.n
        have hdl:x / Z.n<2:=Nat.div_lt_of_lt_mul (by rw [Nat.mul_comm]; exact hx)
        generalize x / Z.n=dd at hd hdl
        have h01:dd=0∨dd=1:=by omega
        have h02:G.half=0∨G.half=1:=by omega
        rcases h01 with r | r<;>rcases h02 with s | s<;>rw [r] at hd<;>rw [s] at j4 ⊢<;>omega
       by_cases hq2:x % Z.n<G.bucket∨(x % Z.n=G.bucket∧x<Z.n*G.half)
       · rw [if_pos hq2,if_pos (this.1 hq2)]
       · rw [if_neg hq2,if_neg (fun a=>hq2 (this.2 a))]
 | p1 a _ _ _ _ _=>omega
 | p2 a _ _ _ _ _=>omega
 | p3 a _ _ _ _ _ _=>omega
 | p4 p q a _ _ _ _ _ _ _ _ _ _=>omega
 | p6 a _ _ _ _ _=>omega
 | p7 t ids a _ _ _ _ _ _ _ _ _ _ _=>omega
 | p8 t ids ids' a _ _ _ _ _ _ _ _ _ _ _=>omega
end
end Go.Proofs.YtkogifmjbmnpgaaGreat.Gw
namespace Go.Proofs.YtkogifmjbmnpgaaGreat.Gw
open Go Hm Ar Mm Wk Pc Me Mq Pu Pn Gt Qs Zp Mx
section
variable {n0:Nat} {l:List Pr} {Z:Zs} {L:Lm} {G G':Gr} {m m' c:Nat} {old:Nat→Int→Nat→Prop}
theorem oldW_new (k:Int) (w:Nat) (p:Int) (e:Nat):oldW ⟨k,0,0,0⟩ w p e:=.inl (Nat.zero_le _)
theorem J.go6 (h:J n0 l Z old L G m c) (hZ:ZD l Z L) (h6:G.nx=6):Goes n0 l Z old L G m c:=by
 obtain ⟨hc,hp⟩:=h
 cases hp with
 | p6 a b d e f i=>
   have hn:=n_bd hZ
   have hxl:=hZ.1.xl
   have hb5:=hc.b5
   have hkB:=hZ.1.kB
   have hkk:=hc.k
   have hwk:=hc.wk
   have hlen:=hc.xl
   rw [if_neg (by omega)] at hlen
   obtain ⟨hnw,t,ht1,ht2,ht3⟩:=hc.nw (by omega)
   obtain ⟨ids,w1,w2,w3,w4,w5,w6⟩:=f
   have es:gstep L G=({L with xs:=L.xs.set 1 (t:Int)},waitNew G):=by
    unfold gstep
    rw [if_neg (by omega),if_neg (by omega),if_neg (by omega),if_neg (by omega),if_neg (by omega),if_pos h6,ht1]
   have hnth:∀ j,j≠1→Cl.nth (L.xs.set 1 (t:Int)) j=Cl.nth L.xs j:=fun j hj=>by rw [nth_set _ _ _ (by omega),if_neg hj]
   have hbe:=beside_publish (old:=old) hZ b (t:=t) (by omega) (by
    unfold Me.now
    rw [nth_set _ _ _ (by omega),if_pos rfl,Int.toNat_natCast,ht3]) (by omega) (fun x hx=>by
    rw [e x hx,if_pos]
    exact .inl (Nat.mod_lt _ (by omega)))
   have hbo:Beside l {Z with pub:=true} {L with xs:=L.xs.set 1 (t:Int)} old {Z with pub:=true} {L with xs:=L.xs.set 1 (t:Int)} (oldW ⟨G.worker,0,0,0⟩):=Beside.olds hbe.1 fun w p e _=>oldW_new _ w p e
   have hj:Jc n0 l Z {L with xs:=L.xs.set 1 (t:Int)} (waitNew G) (m-1):=(hc.to (G':=waitNew G) ⟨rfl,rfl,rfl,rfl,rfl,rfl⟩ hc.bk (by omega) ⟨by show 3≤7; omega,by show 7≤7; omega⟩ (by omega)).cells (by simp) (hnth _ (by omega))
   refine Goes.of (m':=m-1) (Z':={Z with pub:=true}) (old':=oldW ⟨G.worker,0,0,0⟩) es (by unfold mB at i; omega) ⟨⟨hj.nn,hj.al,hj.wk,hj.err,hj.el,hj.k,hj.pd,hj.hl,hj.hol,hj.xb,hj.xl,hj.ds,hj.nw,hj.later,hj.bk,hj.b5,hj.pos,hj.tabs⟩,?_⟩ hbe.1 (Beside.trans (L':={L with xs:=L.xs.set 1 (t:Int)}) rfl hbe.2 hbo) (fun _ _=>hnth _ (by omega))
   refine .p7 Z.few ids rfl rfl (fun w p e=>Iff.rfl) ⟨by show L.k.toNat≤8; omega,by show 0≤3; omega,?_,hc.hl,by show L.k.toNat+2≤(L.xs.set 1 (t:Int)).length; rw [List.length_set]; omega,⟨by show 0≤1000; omega,fun _=>by show 0<L.k.toNat; omega⟩,fun q=>absurd rfl q⟩ hwk.1 (fun _=>rfl) (fun _=>hc.hol (by omega)) w1 w2 w4 w5 ?_
   · show 0≤G.worker∧G.worker≤_
     omega
   · show wl ⟨G.worker,0,0,0⟩+12*Z.few+tot G.pass≤_
     have:wl ⟨G.worker,0,0,0⟩=11:=by unfold wl; rw [if_pos rfl]
     rw [this]
     unfold mB at i
     omega
 | p1 a _ _ _ _ _=>omega
 | p2 a _ _ _ _ _=>omega
 | p3 a _ _ _ _ _ _=>omega
 | p4 p q a _ _ _ _ _ _ _ _ _ _=>omega
 | p5 a _ _ _ _ _ _ _ _=>omega
 | p7 t ids a _ _ _ _ _ _ _ _ _ _ _=>omega
 | p8 t ids ids' a _ _ _ _ _ _ _ _ _ _ _=>omega
theorem wstep_cells {n:Nat} {W:Wt} (hl:0<L.xs.length) (hh:Cl.nth L.xs 0≤4611686018427387904) (h0:0≤Cl.nth L.xs 0):(∀ j,j≠0→Cl.nth (wstep n L.xs L.hs W).1 j=Cl.nth L.xs j)∧(wstep n L.xs L.hs W).1.length=L.xs.length∧Cl.nth (wstep n L.xs L.hs W).1 0≤Cl.nth L.xs 0+1∧(wstep n L.xs L.hs W).2.1.length=L.hs.length∧(wstep n L.xs L.hs W).2.2.worker=W.worker:=by
 unfold wstep
 by_cases h0:W.at_=0
 · rw [if_pos h0]; exact ⟨fun _ _=>rfl,rfl,by simp only; omega,by simp,rfl⟩
 rw [if_neg h0]
 by_cases h1:W.at_=1
 · rw [if_pos h1]
   refine ⟨fun j hj=>by simp only; rw [nth_set _ _ _ hl,if_neg hj],by simp,?_,rfl,rfl⟩
   simp only
   rw [nth_set _ _ _ hl,if_pos rfl,sum64_in (by assumption) hh]
   exact Int.le_refl _
 rw [if_neg h1]
 by_cases h2:W.at_=2
 · rw [if_pos h2]; exact ⟨fun _ _=>rfl,rfl,by simp only; omega,rfl,rfl⟩
 · rw [if_neg h2]; exact ⟨fun _ _=>rfl,rfl,by simp only; omega,by simp,rfl⟩
theorem wl_step {n:Nat} {W:Wt} (hs:List Int) (xs:List Int) (hok:Qs.Okw n xs hs W) (h3:W.at_≠3):wl (wstep n xs hs W).2.2+1≤wl W:=by
 have h1:=hok.at_
 have h2:=hok.passed
 have h4:=hok.n1
 unfold wstep
 have:W.at_=0∨W.at_=1∨W.at_=2:=by omega
 rcases this with q | q | q
 · rw [if_pos q]
   simp [wl,q]
 · rw [if_neg (by omega),if_pos q]
   simp [wl,q]
 · rw [if_neg (by omega),if_neg (by omega),if_pos q]
   have hp:=h2.2 (by omega)
   by_cases hq:n≤W.passed+1
   · simp [wl,q,hq]
     omega
   · simp [wl,q,hq]
     omega
theorem J.go7 (h:J n0 l Z old L G m c) (hZ:ZD l Z L) (h7:G.nx=7) (hr:gready L G=true) (hd:gdone L G=false):Goes n0 l Z old L G m c:=by
 obtain ⟨hc,hp⟩:=h
 cases hp with
 | p7 t ids a b d e f g i w1 w2 w3 w4 w5=>
   have hn:=n_bd hZ
   have hxl:=hZ.1.xl
   have hkB:=hZ.1.kB
   have hkk:=hc.k
   have h01:=hZ.1.p1
   have hlen:=hc.xl
   rw [if_neg (by omega)] at hlen
   have hold:old=oldW G.W:=funext fun w=>funext fun p=>funext fun e=>propext (d w p e)
   subst hold
   have hrd:readyB L.xs L.hs G.W=true:=by unfold gready at hr; rw [if_pos h7] at hr; exact hr
   have hpd:=hc.pd
   have es:=gstep7 (L:=L) h7
   obtain ⟨c1,c2,c3,c4,c5⟩:=wstep_cells (n:=L.k.toNat) (L:=L) (W:=G.W) (by omega) (by omega) (by omega)
   have hbe:=beside_wait (n:=L.k.toNat) hZ (by omega) hrd g e.at_ (by omega)
   by_cases h3:G.W.at_=3
   · have hps:G.pass≠[]:=fun q=>by
      unfold gdone at hd
      rw [if_neg (by omega),if_pos h7,decide_eq_true ⟨h3,q⟩] at hd
      simp at hd
     rw [if_pos h3,if_neg hps] at es
     have hw:wstep L.k.toNat L.xs L.hs G.W=(L.xs,L.hs.set 0 (-1),{G.W with at_:=4}):=by
      unfold wstep; rw [if_neg (by omega),if_neg (by omega),if_neg (by omega)]
     rw [hw] at es hbe
     have hwl:wl G.W=1:=by simp [wl,h3]
     rw [hwl] at w5
     obtain ⟨l1,ps,hpe⟩:∃ l1 ps,G.pass=l1::ps:=by
      cases hq:G.pass with
      | nil=>exact absurd hq hps
      | cons x y=>exact ⟨x,y,rfl⟩
     have ht:1≤t:=by
      rw [hpe] at w1
      cases w1 with
      | cons q _=>
        have:=w4 l1 (by rw [hpe]; simp)
        have:=List.length_pos_iff.2 q.2.1
        omega
     refine Goes.of (m':=m-1) es (by omega) ⟨⟨hc.nn,hc.al,hc.wk,hc.err,fun _=>hc.el (by omega),hc.k,by show Cl.nth L.xs 0+_≤_; omega,by simpa using hc.hl,fun _=>holset hc.hl _,hc.xb,?_,⟨hc.ds.1,fun q=>by simp only at q; omega⟩,fun _=>hc.nw (by omega),fun q=>absurd rfl q,hc.bk,hc.b5,hc.pos,hc.tabs⟩,?_⟩ hbe.1 hbe.2 (fun _ _=>rfl)
     · rw [if_neg (by simp)]; exact hlen
     · refine .p8 (t-1) ids [] rfl b (fun x _ w p=>oldW_over (by simp) w p x) w1 ?_ (by rw [List.append_nil]; exact w2) (by rw [List.append_nil]; exact w3) hps ?_ ?_ ?_ ?_
       · show Wth _ [] G.later
         rw [hc.later (by omega)]; exact .nil
       · intro x hx
         have:=w4 x hx
         omega
       · show ∀ x∈G.later,_
         rw [hc.later (by omega)]; simp
       · show G.later.length≤_
         rw [hc.later (by omega)]; simp
       · show _+tot G.pass+tot G.later≤_
         rw [hc.later (by omega)]
         simp only [tot,List.map_nil,List.sum_nil] at w5 ⊢
         omega
   · rw [if_neg h3] at es
     have hok:=e.step hrd h3
     have hwl:=wl_step L.hs L.xs e h3
     obtain ⟨W',hW'⟩:∃ W',W'=(wstep L.k.toNat L.xs L.hs G.W).2.2:=⟨_,rfl⟩
     obtain ⟨xs',hxs'⟩:∃ xs',xs'=(wstep L.k.toNat L.xs L.hs G.W).1:=⟨_,rfl⟩
     obtain ⟨hs',hhs'⟩:∃ hs',hs'=(wstep L.k.toNat L.xs L.hs G.W).2.1:=⟨_,rfl⟩
     have hpass:(W'.at_≤1→W'.passed=0)∧W'.at_≠0:=by
      rw [hW']
      unfold wstep
      have h4:=e.at_
      have:G.W.at_=0∨G.W.at_=1∨G.W.at_=2:=by omega
      rcases this with q | q | q
      · rw [if_pos q]; exact ⟨fun _=>g (by omega),by simp⟩
      · rw [if_neg (by omega),if_pos q]; exact ⟨fun q2=>by simp only at q2; omega,by simp⟩
      · rw [if_neg (by omega),if_neg (by omega),if_pos q]
        simp only
        split
        · exact ⟨fun q2=>by omega,by omega⟩
        · exact ⟨fun q2=>by omega,by omega⟩
     rw [← hW',← hxs',← hhs'] at es hbe hok
     rw [← hW'] at hwl c5
     rw [← hxs'] at c1 c2 c3
     rw [← hhs'] at c4
     have hpos:1≤wl G.W:=by omega
     refine Goes.of (m':=m-1) es (by omega) ⟨⟨hc.nn,hc.al,hc.wk,hc.err,fun _=>hc.el (by omega),hc.k,by show Cl.nth xs' 0+_≤_; omega,by show 0<hs'.length; rw [c4]; exact hc.hl,fun q=>absurd rfl q,hc.xb,?_,⟨hc.ds.1,fun q=>by simp only at q; omega⟩,fun _=>hc.nw (by omega),fun _=>hc.later (by omega),hc.bk,hc.b5,hc.pos,tabs_len hc.tabs c2⟩,?_⟩ hbe.1 hbe.2 (fun _ _=>c1 _ (by omega))
     · show xs'.length=_
       rw [if_neg (by simp),c2]; exact hlen
     · exact .p7 t ids rfl b (fun w p e=>Iff.rfl) hok (by rw [c5]; exact f) hpass.1 (fun q=>absurd q hpass.2) w1 w2 w3 w4 (by simp only; omega)
 | p1 a _ _ _ _ _=>omega
 | p2 a _ _ _ _ _=>omega
 | p3 a _ _ _ _ _ _=>omega
 | p4 p q a _ _ _ _ _ _ _ _ _ _=>omega
 | p5 a _ _ _ _ _ _ _ _=>omega
 | p6 a _ _ _ _ _=>omega
 | p8 t ids ids' a _ _ _ _ _ _ _ _ _ _ _=>omega
theorem J.go8 (h:J n0 l Z old L G m c) (hZ:ZD l Z L) (h8:G.nx=8):Goes n0 l Z old L G m c:=by
 obtain ⟨hc,hp⟩:=h
 cases hp with
 | p8 t ids ids' a b d w1 w1' w2 w3 hne w4 w4' hll w5=>
   have hn:=n_bd hZ
   have hlen:=hc.xl
   rw [if_neg (by omega)] at hlen
   have hpd:=hc.pd
   have hkk:=hc.k
   have hwk:=hc.wk
   have hkB:=hZ.1.kB
   have hxl:=hZ.1.xl
   obtain ⟨ps,hps⟩:∃ ps,ps=G.pass:=⟨_,rfl⟩
   rw [← hps] at w1 w4 w5 hne
   cases w1 with
   | nil=>exact absurd rfl hne
   | @cons e0 es l0 ls0 hP hw=>
     obtain ⟨he,hl0,hL⟩:=hP
     generalize hr:Z.r e0=r at hL
     generalize hq:Z.rest e0=rest at hL
     cases hL with
     | nil=>exact absurd rfl hl0
     | @cons r0 dd t0 aa s ls' g1 g2 g3 g4=>
       have hz:=hZ.1.zip e0 he
       have hs:s=Z.s e0:=by
        cases dd with
        | nil=>exact absurd rfl g1
        | cons x y=>
          have h1:=hz.hd x (y++t0) (by rw [hq]; rfl)
          have h2:=g2 x (by simp)
          rw [h1] at h2
          revert h2
          cases s<;>cases Z.s e0<;>simp
       rw [hs] at g2 g3
       have hbe:=beside_link (old:=old) (old':=fun w p i=>i=e0∨old w p i) hZ b he hr hq g1 g2 g3 (fun w p=>d e0 (by simp) w p) (fun w p i=>Iff.rfl)
       have hnd:=List.nodup_append.1 w2
       have hnd1:=List.nodup_cons.1 hnd.1
       have hne0:e0∉ids':=fun q=>hnd.2.2 e0 (by simp) e0 q rfl
       obtain ⟨lat,hlat⟩:∃ lat,lat=if 1<((aa.1,hdH t0)::ls').length then G.later++[((aa.1,hdH t0)::ls').drop 1] else G.later:=⟨_,rfl⟩
       have hkeep:∀ (i:Nat) (y:List (Nat×Nat)),i≠e0→Pt Z i y→Pt (Z.linked e0 dd t0) i y:=fun i y hi h=>by
        refine ⟨h.1,h.2.1,?_⟩
        show Lnk (sd Z.n) (turnF Z.r e0 dd i) (turnF Z.rest e0 t0 i) y
        rw [turnF_ne _ _ hi,turnF_ne _ _ hi]
        exact h.2.2
       have hkeep':∀ i,i≠e0→(Z.linked e0 dd t0).rest i=Z.rest i:=fun i hi=>turnF_ne _ _ hi
       have hself:(Z.linked e0 dd t0).rest e0=t0:=turnF_at _ _ _
       have hes:Wth (Pt (Z.linked e0 dd t0)) es ls0:=hw.mono fun i hi y h=>hkeep i y (fun q=>hnd1.1 (q▸hi)) h
       have hla:Wth (Pt (Z.linked e0 dd t0)) ids' G.later:=w1'.mono fun i hi y h=>hkeep i y (fun q=>hne0 (q▸hi)) h
       obtain ⟨idn,i1,i2,i3,i4,i5⟩:∃ idn,Wth (Pt (Z.linked e0 dd t0)) idn lat∧(es++idn).Nodup∧(∀ i,i<Z.n→i∉es++idn→(Z.linked e0 dd t0).rest i=[])∧(∀ y∈lat,y.length≤t)∧tot lat+1≤tot G.later+((aa.1,hdH t0)::ls').length:=by
        by_cases h1:ls'=[]
        · subst h1
          rw [if_neg (by simp)] at hlat
          subst hlat
          refine ⟨ids',hla,?_,fun i hi hni=>?_,w4',by simp⟩
          · exact List.nodup_append.2 ⟨hnd1.2,hnd.2.1,fun x hx y hy=>hnd.2.2 x (List.mem_cons_of_mem _ hx) y hy⟩
          · by_cases hie:i=e0
            · rw [hie,hself]; exact g4.none
            · rw [hkeep' i hie]
              refine w3 i hi fun q=>hni ?_
              simp only [List.cons_append,List.mem_cons] at q
              rcases q with q | q
              · exact absurd q hie
              · exact q
        · rw [if_pos (by have:=List.length_pos_iff.2 h1; simp only [List.length_cons]; omega)] at hlat
          subst hlat
          refine ⟨ids'++[e0],hla.snoc ⟨he,h1,?_⟩,?_,fun i hi hni=>?_,fun y hy=>?_,?_⟩
          · show Lnk (sd Z.n) (turnF Z.r e0 dd e0) (turnF Z.rest e0 t0 e0) ls'
            rw [turnF_at,turnF_at]
            exact g4
          · refine List.nodup_append.2 ⟨hnd1.2,List.nodup_append.2 ⟨hnd.2.1,by simp,fun x hx y hy e=>?_⟩,fun x hx y hy e=>?_⟩
            · have hy':y=e0:=by simpa using hy
              exact hne0 (by rw [← hy',← e]; exact hx)
            · rcases List.mem_append.1 hy with q | q
              · exact hnd.2.2 x (List.mem_cons_of_mem _ hx) y q e
              · have hy':y=e0:=by simpa using q
                exact hnd1.1 (by rw [← hy',← e]; exact hx)
          · by_cases hie:i=e0
            · exact absurd (by rw [hie]; simp) hni
            · rw [hkeep' i hie]
              refine w3 i hi fun q=>hni ?_
              simp only [List.cons_append,List.mem_cons,List.mem_append] at q ⊢
              rcases q with q | q | q
              · exact absurd q hie
              · exact .inl q
              · exact .inr (.inl q)
          · rcases List.mem_append.1 hy with q | q
            · exact w4' y q
            · have hy':y=ls':=by simpa using q
              have:=w4 _ (List.mem_cons_self)
              simp only [List.length_cons] at this
              rw [hy']
              omega
          · rw [tot_snoc]
            simp only [List.drop_succ_cons,List.drop_zero,List.length_cons]
            omega
       rw [tot_cons] at w5
       have hst:gstep L G=({L with ss:=lnk L.ss aa.1 (hdH t0)},if ls0=[] then waitNew {G with pass:=lat,later:=[]} else {G with pass:=ls0,later:=lat}):=by
        unfold gstep
        rw [if_neg (by omega),if_neg (by omega),if_neg (by omega),if_neg (by omega),if_neg (by omega),if_neg (by omega),if_neg (by omega),← hps]
        simp only [← hlat]
        rfl
       by_cases hl:ls0=[]
       · rw [if_pos hl] at hst
         subst hl
         cases hw
         have hbo:Beside l (Z.linked e0 dd t0) {L with ss:=lnk L.ss aa.1 (hdH t0)} (fun w p i=>i=e0∨old w p i) (Z.linked e0 dd t0) {L with ss:=lnk L.ss aa.1 (hdH t0)} (oldW ⟨G.worker,0,0,0⟩):=Beside.olds hbe.1 fun w p e _=>oldW_new _ w p e
         refine Goes.of (m':=m-1) (Z':=Z.linked e0 dd t0) (old':=oldW ⟨G.worker,0,0,0⟩) hst (by omega) ⟨⟨hc.nn,hc.al,hc.wk,hc.err,fun _=>hc.el (by omega),hc.k,by show Cl.nth L.xs 0+_≤_; omega,hc.hl,fun q=>absurd rfl q,hc.xb,?_,⟨hc.ds.1,fun q=>by have q:7≤2:=q; omega⟩,fun _=>hc.nw (by omega),fun _=>rfl,hc.bk,hc.b5,hc.pos,hc.tabs⟩,?_⟩ hbe.1 (Beside.trans (L':={L with ss:=lnk L.ss aa.1 (hdH t0)}) rfl hbe.2 hbo) (fun _ _=>rfl)
         · exact hlen.trans (if_neg (show ¬(7≤2) by omega)).symm
         · refine .p7 t idn rfl b (fun w p e=>Iff.rfl) ⟨by show L.k.toNat≤8; omega,by show 0≤3; omega,?_,hc.hl,?_,⟨by show 0≤1000; omega,fun _=>by show 0<L.k.toNat; omega⟩,fun q=>absurd rfl q⟩ hwk.1 (fun _=>rfl) (fun _=>hc.hol (by omega)) i1 i2 i3 i4 ?_
           · show 0≤G.worker∧G.worker≤_
             omega
           · show L.k.toNat+2≤L.xs.length
             omega
           · show wl ⟨G.worker,0,0,0⟩+12*t+tot lat≤_
             have:wl ⟨G.worker,0,0,0⟩=11:=by unfold wl; rw [if_pos rfl]
             rw [this]
             omega
       · rw [if_neg hl] at hst
         refine Goes.of (m':=m-1) (Z':=Z.linked e0 dd t0) (old':=fun w p i=>i=e0∨old w p i) hst (by omega) ⟨⟨hc.nn,hc.al,hc.wk,hc.err,fun _=>hc.el (by omega),hc.k,by show Cl.nth L.xs 0+_≤_; omega,hc.hl,fun _=>hc.hol (by omega),hc.xb,?_,⟨hc.ds.1,fun q=>by have q:G.nx≤2:=q; omega⟩,fun _=>hc.nw (by omega),fun q=>absurd h8 q,hc.bk,hc.b5,hc.pos,hc.tabs⟩,?_⟩ hbe.1 hbe.2 (fun _ _=>rfl)
         · show L.xs.length=if G.nx≤2 then _ else _
           rw [if_neg (by omega)]; exact hlen
         · refine .p8 t es idn h8 b (fun x hx w p q=>?_) hes i1 i2 i3 hl (fun y hy=>w4 y (List.mem_cons_of_mem _ hy)) i4 ?_ ?_
           · rcases q with q | q
             · exact hnd1.1 (q▸hx)
             · exact d x (List.mem_cons_of_mem _ hx) w p q
           · exact wth_le (Z:=Z.linked e0 dd t0) hbe.1 i1 (List.nodup_append.1 i2).2.1
           · show 12*(t+1)+tot ls0+tot lat≤m-1
             omega
 | p1 a _ _ _ _ _=>omega
 | p2 a _ _ _ _ _=>omega
 | p3 a _ _ _ _ _ _=>omega
 | p4 p q a _ _ _ _ _ _ _ _ _ _=>omega
 | p5 a _ _ _ _ _ _ _ _=>omega
 | p6 a _ _ _ _ _=>omega
 | p7 t ids a _ _ _ _ _ _ _ _ _ _ _=>omega
theorem J.goes (h:J n0 l Z old L G m c) (hZ:ZD l Z L) (hr:gready L G=true) (hd:gdone L G=false):Goes n0 l Z old L G m c:=by
 have hnx:=h.2.nx
 have h8:G.nx=1∨G.nx=2∨G.nx=3∨G.nx=4∨G.nx=5∨G.nx=6∨G.nx=7∨G.nx=8:=by omega
 rcases h8 with q | q | q | q | q | q | q | q
 · exact h.go1 hZ q
 · exact h.go2 hZ q
 · exact h.go3 hZ q
 · exact h.go4 hZ q
 · exact h.go5 hZ q
 · exact h.go6 hZ q
 · exact h.go7 hZ q hr hd
 · exact h.go8 hZ q
end
end Go.Proofs.YtkogifmjbmnpgaaGreat.Gw
namespace Go.Proofs.YtkogifmjbmnpgaaGreat.Sw
open Go Hm Ar Mm Wk Pc Me Mq Pu Pn Gt Qs Zp Mx
def JD (l:List Pr) (Z:Js) (L:Lm):Prop:=Z.Ok L l∧Z.few≤35
def CelJ (Z:Js) (L:Lm) (b:Nat):Prop:=∀ e,e<Z.n→Cl.nth L.xs (Z.B2+e)=if e<b then ((hdH (Z.two e):Nat):Int) else 0
def Jnd (Z:Js) (b:Nat):Prop:=∀ e,e<Z.n→Z.jn e=decide (e<b)
structure Kc (n0:Nat) (Z:Js) (L:Lm) (G:Sh) (m c:Nat):Prop where
 nn:Z.n=n0
 wk:0≤G.worker∧G.worker≤1000
 err:G.err=0
 el:G.nx≠1→G.el=(2*Z.n,Z.B)
 k:1≤L.k∧L.k≤8
 pd:Cl.nth L.xs 0+m≤4611686018427387904
 hl:0<L.hs.length
 hol:G.nx≠9→Lo.hol L.hs 0= -1
 xb:Z.B2+Z.n≤1048576
 xl:L.xs.length=if G.nx≤2 then Z.B2 else Z.B2+Z.n
 ds:L.ds.length≤800001∧(G.nx≤2→L.ds.length≤800000)
 nw:G.nw=if G.nx≤2 then (0,0) else (Z.n,Z.B2)
 num:3≤G.nx→∃ t:Nat,G.num=t∧t≤900000∧tab L.ds t=(Z.n,Z.B2)
 bk:G.bucket≤Z.n
 b5:4≤Z.B2
 hb:G.fi≤18446744073709551615∧G.sec≤18446744073709551615
 pos:∀ b,b<2*Z.n→∀ a∈Z.C b,a.1≠0∧a.1≤18446744073709551615
 tabs:Tabs L.xs L.ds
 cap:Z.cap+c≤1000000
inductive Kp (Z:Js) (L:Lm) (G:Sh) (old:Nat→Int→Nat→Prop):Nat→Nat→Prop
 | p1 {m c:Nat}:G.nx=1→Z.pub=false→G.bucket=0→Jnd Z 0→2+Z.n*(Z.few+4)+12≤m→Z.n*Z.few≤c→Kp Z L G old m c
 | p2 {m c:Nat}:G.nx=2→Z.pub=false→G.bucket=0→Jnd Z 0→1+Z.n*(Z.few+4)+12≤m→Z.n*Z.few≤c→Kp Z L G old m c
 | p3 {m c:Nat}:G.nx=3→Z.pub=false→G.bucket<Z.n→Jnd Z G.bucket→CelJ Z L G.bucket→(Z.n-G.bucket)*(Z.few+4)+12≤m→(Z.n-G.bucket)*Z.few≤c→Kp Z L G old m c
 | p4 {m c:Nat}:G.nx=4→Z.pub=false→G.bucket<Z.n→Jnd Z G.bucket→CelJ Z L G.bucket→G.fi=hdH (Z.C G.bucket)→(Z.few+3)+(Z.n-G.bucket-1)*(Z.few+4)+12≤m→Z.few+(Z.n-G.bucket-1)*Z.few≤c→Kp Z L G old m c
 | p5 {m c:Nat} (p q:List Mq.Hp):G.nx=5→Z.pub=false→G.bucket<Z.n→Jnd Z G.bucket→CelJ Z L G.bucket→G.fi=hdH (Z.C G.bucket)→G.sec=hdH (Z.C (G.bucket+Z.n))→Z.C (G.bucket+Z.n)≠[]→Z.C G.bucket=p++q→q≠[]→G.at_=hdH q→G.met=(hds p).reverse→
    q.length+2+(Z.n-G.bucket-1)*(Z.few+4)+12≤m→Z.few+(Z.n-G.bucket-1)*Z.few≤c→Kp Z L G old m c
 | p6 {m c:Nat} (c0:List Mq.Hp) (a:Mq.Hp):G.nx=6→Z.pub=false→G.bucket<Z.n→Jnd Z G.bucket→CelJ Z L G.bucket→G.fi=hdH (Z.C G.bucket)→G.sec=hdH (Z.C (G.bucket+Z.n))→Z.C G.bucket=c0++[a]→G.la=a.1→
    2+(Z.n-G.bucket-1)*(Z.few+4)+12≤m→Z.few+(Z.n-G.bucket-1)*Z.few≤c→Kp Z L G old m c
 | p7 {m c:Nat}:G.nx=7→Z.pub=false→G.bucket<Z.n→Jnd Z (G.bucket+1)→CelJ Z L G.bucket→G.fi=hdH (Z.two G.bucket)→1+(Z.n-G.bucket-1)*(Z.few+4)+12≤m→(Z.n-G.bucket-1)*Z.few≤c→Kp Z L G old m c
 | p8 {m c:Nat}:G.nx=8→Z.pub=false→Jnd Z Z.n→CelJ Z L Z.n→12≤m→Kp Z L G old m c
 | p9 {m c:Nat}:G.nx=9→Z.pub=true→(∀ w p e,old w p e↔oldW G.W w p e)→Qs.Okw L.k.toNat L.xs L.hs G.W→0≤G.W.worker→(G.W.at_≤1→G.W.passed=0)→(G.W.at_=0→Lo.hol L.hs 0= -1)→Gw.wl G.W≤m→Kp Z L G old m c
def J (n0:Nat) (Z:Js) (old:Nat→Int→Nat→Prop) (L:Lm) (G:Sh) (m c:Nat):Prop:=Kc n0 Z L G m c∧Kp Z L G old m c
def Bsd (l:List Pr) (Z:Js) (L:Lm) (old:Nat→Int→Nat→Prop) (Z':Js) (L':Lm) (old':Nat→Int→Nat→Prop) (j:Nat):Prop:=
 ∀ (R:Rn) (k:Nat),(R.w:Int)<L.k→RnOk Z.wy L l old R k→∃ k',k'≤k+j∧RnOk Z'.wy L' l old' R k'
def Goes (n0:Nat) (l:List Pr) (Z:Js) (old:Nat→Int→Nat→Prop) (L:Lm) (G:Sh) (m c:Nat):Prop:=
 ∃ Z' old' m' c' j,m'+1≤m∧c'+j≤c∧J n0 Z' old' (sstep L G).1 (sstep L G).2 m' c'∧JD l Z' (sstep L G).1∧Bsd l Z L old Z' (sstep L G).1 old' j∧(∀ i:Nat,(i:Int)<L.k→Cl.nth (sstep L G).1.xs (2+i)=Cl.nth L.xs (2+i))∧(sstep L G).1.k=L.k∧Z'.few=Z.few∧Z'.C=Z.C∧Z'.cap+c'≤Z.cap+c∧Z'.B2=Z.B2
structure Over (n0:Nat) (Z:Js) (L:Lm) (G:Sh):Prop where
 nn:Z.n=n0
 pub:Z.pub=true
 err:G.err=0
 hol:Lo.hol L.hs 0= -1
 hl:0<L.hs.length
 xl:L.xs.length=Z.B2+Z.n
 xm:Z.B2+Z.n≤1048576
 tabs:Tabs L.xs L.ds
 pos:∀ b,b<2*Z.n→∀ a∈Z.C b,a.1≠0∧a.1≤18446744073709551615
section
variable {n0:Nat} {l:List Pr} {Z:Js} {L:Lm} {G:Sh} {m c:Nat} {old:Nat→Int→Nat→Prop}
theorem Kp.nx (h:Kp Z L G old m c):1≤G.nx∧G.nx≤9:=by
 cases h<;>omega
theorem Kp.pos (h:Kp Z L G old m c):1≤m:=by
 cases h with
 | p1 _ _ _ _ h _=>omega
 | p2 _ _ _ _ h _=>omega
 | p3 _ _ _ _ _ h _=>omega
 | p4 _ _ _ _ _ _ h _=>omega
 | p5 p q _ _ _ _ _ _ _ _ _ _ _ _ h _=>omega
 | p6 c0 a _ _ _ _ _ _ _ _ _ h _=>omega
 | p7 _ _ _ _ _ _ h _=>omega
 | p8 _ _ _ _ h=>omega
 | p9 _ _ _ hk _ _ _ h=>
   have h1:=hk.at_
   have h2:=hk.passed
   have h3:=hk.n1
   unfold Gw.wl at h
   split at h
   · omega
   split at h
   · omega
   split at h
   · have:=h2.2 (by omega)
     omega
   · omega
theorem n_bd (hZ:JD l Z L):1≤Z.n∧Z.n≤32768:=by
 have h1:=FM.power_bd hZ.1.pw
 have h2:=FM.power_bd hZ.1.pw2
 omega
theorem fresh_cx (hZ:JD l Z L) {e:Nat} (he:e<2*Z.n) (hj:e<Z.n→Z.jn e=false):Cx L.ss (hdH (Z.C e)) (Z.C e):=by
 have h:=hZ.1.chain e he
 unfold Js.way at h
 rw [if_neg] at h
 · exact h
 · rintro ⟨h1,h2,_⟩
   rw [hj h1] at h2
   simp at h2
theorem hd_bd (h:Kc n0 Z L G m c) {b:Nat} (hb:b<2*Z.n):hdH (Z.C b)≤18446744073709551615:=by
 cases hq:Z.C b with
 | nil=>simp [hdH]
 | cons a t=>exact (h.pos b hb a (by rw [hq]; simp)).2
theorem hd_zero (h:Kc n0 Z L G m c) {b:Nat} (hb:b<2*Z.n):hdH (Z.C b)=0↔Z.C b=[]:=by
 cases hq:Z.C b with
 | nil=>simp [hdH]
 | cons a t=>simp [hdH,(h.pos b hb a (by rw [hq]; simp)).1]
theorem p5_at (hZ:JD l Z L) (h:Kc n0 Z L G m c) (hb:G.bucket<Z.n) (hj:Z.jn G.bucket=false) {p q:List Mq.Hp} {e:Mq.Hp} (hA:Z.C G.bucket=p++e::q) (hat:G.at_=e.1):
 ∃ k,IsAt L.ss G.at_ k∧(G.at_-1) % 65536=k∧(at' L.ss k).nd=ndp e.2 (hdH q)∧hdH q∉G.at_::(hds p).reverse∧hdH q≤18446744073709551615:=by
 have h1:=fresh_cx hZ (show G.bucket<2*Z.n by omega) (fun _=>hj)
 have h2:=hZ.1.nd G.bucket (by omega)
 have hpos:=h.pos G.bucket (by omega)
 have hcx:Cx L.ss (hdH (e::q)) (e::q):=by
  have:Cx L.ss (hdH (Z.C G.bucket)) (p++e::q):=by rw [← hA]; exact h1
  exact Cx.back p this
 obtain ⟨ex,ep⟩:=e
 obtain ⟨k,z,a1,a2,a3⟩:=hcx.tail
 have hz:=Cx.hd a3
 subst hz
 simp only at hat
 rw [hat]
 refine ⟨k,a1,(isAt_parts hZ.1.len a1).1,a2,?_,?_⟩
 · rw [hA] at h2
   have hnd:(hds p++ex::hds q).Nodup:=by simpa [hds] using h2
   intro hm
   cases q with
   | nil=>
     rcases List.mem_cons.1 hm with e | hm
     · exact a1.pos e.symm
     · have hm:=List.mem_reverse.1 hm
       obtain ⟨y,hy,e⟩:=List.mem_map.1 hm
       exact (hpos y (by rw [hA]; simp [hy])).1 e
   | cons e' q'=>
     have h5:=List.nodup_append.1 hnd
     have h6:=List.nodup_cons.1 h5.2.1
     rcases List.mem_cons.1 hm with e | hm
     · exact h6.1 (by rw [← e]; simp [hds,hdH])
     · have hm:=List.mem_reverse.1 hm
       exact h5.2.2 _ hm _ (by simp [hds,hdH]) rfl
 · cases q with
   | nil=>simp [hdH]
   | cons e' q'=>exact (hpos e' (by rw [hA]; simp)).2
theorem J.ok (h:J n0 Z old L G m c) (hZ:JD l Z L):Oksh L G:=by
 obtain ⟨hc,hp⟩:=h
 have hn:=n_bd hZ
 have hnx:=hp.nx
 have hkB:=hZ.1.kB
 have hbb:=hZ.1.bb
 have hxl:=hZ.1.xl
 have hk:=hc.k
 have hxb:=hc.xb
 have hlen:=hc.xl
 have hnw:=hc.nw
 have hb5:=hc.b5
 have hx1:1<L.xs.length:=by rw [hlen]; split<;>omega
 have hw:G.nw.1≤65536∧G.nw.2≤4000000:=by
  rw [hnw]
  split
  · simp
  · simp only; omega
 have hmk:∀ (c3:G.nx=3→G.bucket<Z.n) (c4:G.nx=4→G.bucket<Z.n) (c5:G.nx=5→IsAt L.ss G.at_ ((G.at_-1) % 65536)∧G.at_≤18446744073709551615∧(0≤(at' L.ss ((G.at_-1) % 65536)).nd.next∧(at' L.ss ((G.at_-1) % 65536)).nd.next≤18446744073709551615)∧G.met.length≤100000)
  (c6:G.nx=6→G.la≤18446744073709551615∧∃ k,IsAt L.ss G.la k) (c7:G.nx=7→G.bucket<Z.n) (c9:G.nx=9→Qs.Okw L.k.toNat L.xs L.hs G.W),Oksh L G:=fun c3 c4 c5 c6 c7 c9=>by
  refine ⟨hnx,hx1,hc.hl,by have:=hc.ds.1; omega,fun q=>by rw [hc.el q]; simp only; omega,hw,by have:=hc.bk; omega,hc.hb,fun q=>?_,fun q=>?_,c5,c6,fun q=>?_,fun q=>?_,fun q=>⟨by omega,c9 q⟩⟩
  · have:=c3 q
    rw [hc.el (by omega),hlen,if_neg (by omega)]
    simp only
    omega
  · have:=c4 q
    rw [hc.el (by omega),hlen,if_neg (by omega),hnw,if_neg (by omega)]
    simp only
    omega
  · have:=c7 q
    rw [hlen,if_neg (by omega),hnw,if_neg (by omega)]
    simp only
    omega
  · obtain ⟨t,e,ht,_⟩:=hc.num (by omega)
    rw [e]
    omega
 cases hp with
 | p1 a _ _ _ _ _=>exact hmk (by omega) (by omega) (by omega) (by omega) (by omega) (by omega)
 | p2 a _ _ _ _ _=>exact hmk (by omega) (by omega) (by omega) (by omega) (by omega) (by omega)
 | p3 a _ b _ _ _ _=>exact hmk (fun _=>b) (by omega) (by omega) (by omega) (by omega) (by omega)
 | p4 a _ b _ _ _ _ _=>exact hmk (by omega) (fun _=>b) (by omega) (by omega) (by omega) (by omega)
 | p5 p q a _ b jd _ _ _ _ hA hq hat hmet _ _=>
   refine hmk (by omega) (by omega) (fun _=>?_) (by omega) (by omega) (by omega)
   cases q with
   | nil=>exact absurd rfl hq
   | cons e q'=>
     have hat':G.at_=e.1:=hat
     obtain ⟨k,a1,a2,a3,a4,a5⟩:=p5_at hZ hc b (by rw [jd _ b]; simp) hA hat'
     have hfew:=hZ.1.few.1 _ b
     have hf35:=hZ.2
     unfold Js.two at hfew
     rw [hA] at hfew
     simp only [List.length_append,List.length_cons] at hfew
     have hnext:(at' L.ss k).nd.next=((hdH q':Nat):Int):=by rw [a3]; rfl
     refine ⟨by rw [a2]; exact a1,by rw [hat']; exact (hc.pos G.bucket (by omega) e (by rw [hA]; simp)).2,by rw [a2,hnext]; omega,?_⟩
     rw [hmet]
     simp only [List.length_reverse,hds,List.length_map]
     omega
 | p6 c0 a e _ b jd _ _ _ hA hla _ _=>
   refine hmk (by omega) (by omega) (by omega) (fun _=>?_) (by omega) (by omega)
   have h1:=fresh_cx hZ (show G.bucket<2*Z.n by omega) (fun _=>by rw [jd _ b]; simp)
   obtain ⟨k,_,hk,_⟩:=h1.at a (by rw [hA]; simp)
   rw [hla]
   exact ⟨(hc.pos G.bucket (by omega) a (by rw [hA]; simp)).2,k,hk⟩
 | p7 a _ b _ _ _ _ _=>exact hmk (by omega) (by omega) (by omega) (by omega) (fun _=>b) (by omega)
 | p8 a _ _ _ _=>exact hmk (by omega) (by omega) (by omega) (by omega) (by omega) (by omega)
 | p9 a _ _ hok _ _ _ _=>exact hmk (by omega) (by omega) (by omega) (by omega) (by omega) (fun _=>hok)
theorem J.cells (h:J n0 Z old L G m c) {xs':List Int} (hl:xs'.length=L.xs.length) (h0:Cl.nth xs' 0=Cl.nth L.xs 0) (hb:∀ i,Z.B2≤i→Cl.nth xs' i=Cl.nth L.xs i):J n0 Z old {L with xs:=xs'} G m c:=by
 obtain ⟨hc,hp⟩:=h
 have hcel:∀ {b:Nat},CelJ Z L b→CelJ Z {L with xs:=xs'} b:=fun q d hd=>by
  show Cl.nth xs' _=_
  rw [hb _ (by omega)]
  exact q d hd
 refine ⟨{hc with pd:=by show Cl.nth xs' 0+_≤_; rw [h0]; exact hc.pd,xl:=by show xs'.length=_; rw [hl]; exact hc.xl,tabs:=Gw.tabs_len hc.tabs hl},?_⟩
 cases hp with
 | p1 a b d e f g=>exact .p1 a b d e f g
 | p2 a b d e f g=>exact .p2 a b d e f g
 | p3 a b d e f g i=>exact .p3 a b d e (hcel f) g i
 | p4 a b d e f g i j=>exact .p4 a b d e (hcel f) g i j
 | p5 p q a b d e f g i j k r s t u v=>exact .p5 p q a b d e (hcel f) g i j k r s t u v
 | p6 c0 a x b d e f g i j k r s=>exact .p6 c0 a x b d e (hcel f) g i j k r s
 | p7 a b d e f g i j=>exact .p7 a b d e (hcel f) g i j
 | p8 a b d e f=>exact .p8 a b d (hcel e) f
 | p9 a b d e f g i j=>exact .p9 a b d ⟨e.n1,e.at_,e.wk,e.hl,by show _≤xs'.length; rw [hl]; exact e.xl,e.passed,e.own⟩ f g i j
theorem J.stays (h:J n0 Z old L G m c) (hZ:JD l Z L) (w:Nat) (p':Int) (hw:(w:Int)<L.k):J n0 Z old {L with xs:=L.xs.set (2+w) p'} G m c:=by
 have hn:∀ i,i≠2+w→Cl.nth (L.xs.set (2+w) p') i=Cl.nth L.xs i:=fun i hi=>by
  by_cases hl:2+w<L.xs.length
  · rw [nth_set _ _ _ hl,if_neg hi]
  · rw [List.set_eq_of_length_le (by omega)]
 have hkB:=hZ.1.kB
 have hxl:=hZ.1.xl
 exact h.cells (by simp) (hn _ (by omega)) (fun i hi=>hn _ (by omega))
theorem sready_9 (h:sready L G=false):G.nx=9∧readyB L.xs L.hs G.W=false:=by
 unfold sready at h
 split at h
 · rename_i e; exact ⟨e,h⟩
 · simp at h
theorem J.wait (h:J n0 Z old L G m c) (hr:sready L G=false):∃ i:Nat,(i:Int)<L.k∧Cl.nth L.xs (2+i)≠0:=by
 obtain ⟨hc,hp⟩:=h
 obtain ⟨h9,hr⟩:=sready_9 hr
 have hk:=hc.k
 cases hp with
 | p9 a b d e f g i j=>
   unfold readyB at hr
   split at hr
   · rename_i h0
     unfold takeB at hr
     have:=of_decide_eq_false hr
     exact absurd ⟨f,i h0⟩ this
   split at hr
   · rename_i h2
     unfold passB at hr
     have hd:=of_decide_eq_false hr
     have hpp:=e.passed.2 (by omega)
     exact ⟨G.W.passed,by omega,fun q=>hd (.inl q)⟩
   · simp at hr
 | p1 a _ _ _ _ _=>omega
 | p2 a _ _ _ _ _=>omega
 | p3 a _ _ _ _ _ _=>omega
 | p4 a _ _ _ _ _ _ _=>omega
 | p5 p q a _ _ _ _ _ _ _ _ _ _ _ _ _=>omega
 | p6 c0 a e _ _ _ _ _ _ _ _ _ _=>omega
 | p7 a _ _ _ _ _ _ _=>omega
 | p8 a _ _ _ _=>omega
theorem J.fits (h:Kc n0 Z L G m c) (hZ:JD l Z L) (h2:G.nx=2):G.el.1 / 2=Z.n∧FM.power ((G.el.1 / 2:Nat):Int)=true∧L.xs.length+G.el.1 / 2≤1048576:=by
 have hb:=h.xb
 have hl:=h.xl
 rw [if_pos (by omega)] at hl
 have e:G.el.1 / 2=Z.n:=by rw [h.el (by omega)]; simp only; omega
 rw [e]
 exact ⟨rfl,hZ.1.pw,by omega⟩
theorem sstep9 (h9:G.nx=9):sstep L G=({L with xs:=(wstep L.k.toNat L.xs L.hs G.W).1,hs:=(wstep L.k.toNat L.xs L.hs G.W).2.1},{G with W:=(wstep L.k.toNat L.xs L.hs G.W).2.2}):=by
 unfold sstep; rw [if_neg (by omega),if_neg (by omega),if_neg (by omega),if_neg (by omega),if_neg (by omega),if_neg (by omega),if_neg (by omega),if_neg (by omega)]
theorem J.over (h:J n0 Z old L G m c) (hZ:JD l Z L) (hd:sdone L G=true):JD l Z (sstep L G).1∧Over n0 Z (sstep L G).1 (sstep L G).2∧(∀ w p e,¬old w p e)∧(sstep L G).1={L with hs:=L.hs.set 0 (-1)}∧Cl.nth L.xs 0+m≤4611686018427387904:=by
 obtain ⟨hc,hp⟩:=h
 have hnx:=hp.nx
 unfold sdone at hd
 split at hd
 · rename_i h2
   have:=(J.fits hc hZ h2).2
   rw [decide_eq_true this] at hd
   simp at hd
 split at hd
 · rename_i h9
   have h3:=of_decide_eq_true hd
   rw [sstep9 h9]
   have hw:wstep L.k.toNat L.xs L.hs G.W=(L.xs,L.hs.set 0 (-1),{G.W with at_:=4}):=by
    unfold wstep; rw [if_neg (by omega),if_neg (by omega),if_neg (by omega)]
   rw [hw]
   cases hp with
   | p9 a b d e f g i j=>
     have hxl:=hc.xl
     rw [if_neg (by omega)] at hxl
     exact ⟨⟨hZ.1.cells (fun _ _ _=>rfl) (fun _ _ _=>rfl) (Nat.le_refl _) hZ.1.xb rfl hZ.1.tb hZ.1.p1,hZ.2⟩,⟨hc.nn,b,hc.err,Gw.holset hc.hl _,by simpa using hc.hl,hxl,hc.xb,hc.tabs,hc.pos⟩,fun w p e q=>oldW_over (W:=G.W) (by omega) w p e ((d w p e).1 q),rfl,hc.pd⟩
   | p1 a _ _ _ _ _=>omega
   | p2 a _ _ _ _ _=>omega
   | p3 a _ _ _ _ _ _=>omega
   | p4 a _ _ _ _ _ _ _=>omega
   | p5 p q a _ _ _ _ _ _ _ _ _ _ _ _ _=>omega
   | p6 c0 a e _ _ _ _ _ _ _ _ _ _=>omega
   | p7 a _ _ _ _ _ _ _=>omega
   | p8 a _ _ _ _=>omega
 · have:=of_decide_eq_true hd
   omega
end
end Go.Proofs.YtkogifmjbmnpgaaGreat.Sw
