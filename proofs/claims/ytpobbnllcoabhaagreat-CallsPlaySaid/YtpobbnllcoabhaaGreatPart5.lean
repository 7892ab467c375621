/- Walks and plain mathematics, put together in their order: ZipD, JoinA, ZipE, ZipG, JoinB, GroA, GroB, GroC. -/
import Derived.Test.YtpobbnllcoabhaaGreatPart4
import Derived.Test.YtpobbnllcoabhaaGreatFrm
import Derived.Test.YtpobbnllcoabhaaGreatLm
import Derived.Laws.EntriesVeiled
import Derived.Maps.Own
import Derived.Maps.OwnOps
import Derived.Maps.OwnSet
import Derived.Maps.Views
import Derived.Deep.RegionHeld3
import Derived.StillTailTactics
set_option linter.unusedVariables false
set_option linter.unusedSimpArgs false
namespace Go.Proofs.YtpobbnllcoabhaaGreat.Zp
open Go Hm Ar Mm Wk Pc Me Mq Pu Pn Gt Qs
theorem Zip.sub {ss:List Sl} {σ:ByteArray→Bool} {All:List Mq.Hp} {s:Bool} {x y:Nat} {u r v rest:List Mq.Hp} (h:Zip ss σ All s x y u r v rest):∀ a∈u++r++v++rest,a∈All:=by
 intro a ha
 have h1:∀ b,a∈All.filter (fun e=>σ e.2.1==b)→a∈All:=fun b q=>(List.mem_filter.1 q).1
 have ha:a∈u++r∨a∈v∨a∈rest:=by
  simp only [List.mem_append] at ha ⊢
  rcases ha with ((q | q) | q) | q
  · exact .inl (.inl q)
  · exact .inl (.inr q)
  · exact .inr (.inl q)
  · exact .inr (.inr q)
 rcases ha with q | q | q
 · exact h1 s (by rw [h.fs]; exact List.mem_append_left _ q)
 · exact h1 (!s) (by rw [h.fv]; exact List.mem_append_left _ q)
 · by_cases hs:σ a.2.1=s
   · exact h1 s (by rw [h.fs]; exact List.mem_append_right _ (List.mem_filter.2 ⟨q,by simp [hs]⟩))
   · exact h1 (!s) (by rw [h.fv]; exact List.mem_append_right _ (List.mem_filter.2 ⟨q,by revert hs; cases σ a.2.1<;>cases s<;>simp⟩))
theorem Zip.aside {ss:List Sl} {σ:ByteArray→Bool} {All:List Mq.Hp} {s:Bool} {x y:Nat} {u r v rest:List Mq.Hp} (h:Zip ss σ All s x y u r v rest) (hl:ss.length≤1024) {a z j:Nat} (hj:IsAt ss a j) (ha:a∉hds All):Zip (lnk ss a z) σ All s x y u r v rest:=by
 have hsub:∀ q:List Mq.Hp,(∀ b∈q,b∈u++r++v++rest)→a∉hds q:=fun q hq hm=>by
  obtain ⟨b,hb,rfl⟩:=List.mem_map.1 hm
  exact ha (List.mem_map.2 ⟨b,h.sub b (hq b hb),rfl⟩)
 exact {h with own:=Cx.aside hl hj h.own (hsub _ fun b hb=>by simp only [List.mem_append] at hb ⊢; rcases hb with (q | q) | q<;>simp [q]),oth:=Cx.aside hl hj h.oth (hsub _ fun b hb=>by simp only [List.mem_append] at hb ⊢; rcases hb with q | q<;>simp [q])}
def turnF {α:Type} (f:Nat→α) (e:Nat) (a:α) (i:Nat):α:=if i=e then a else f i
theorem turnF_at {α:Type} (f:Nat→α) (e:Nat) (a:α):turnF f e a e=a:=by simp [turnF]
theorem turnF_ne {α:Type} (f:Nat→α) {e i:Nat} (a:α) (h:i≠e):turnF f e a i=f i:=by simp [turnF,h]
def Zs.linked (Z:Zs) (e:Nat) (d t:List Mq.Hp):Zs:=
 {Z with s:=turnF Z.s e (!Z.s e),X:=turnF Z.X e (Z.Y e),Y:=turnF Z.Y e (Z.X e),u:=turnF Z.u e (Z.v e),r:=turnF Z.r e d,v:=turnF Z.v e (Z.u e++Z.r e),rest:=turnF Z.rest e t}
section
variable {Z:Zs} {L:Lm} {l:List Pr} {old old':Int→Nat→Prop} {oldn oldn':Nat→Int→Nat→Prop} {w k e:Nat} {key:ByteArray} {G:Gt.Ge} {r0 d t:List Mq.Hp} {a:Mq.Hp}
theorem Zs.linked_head (Z:Zs) (e:Nat) (d t:List Mq.Hp) (b:Nat):(Z.linked e d t).head b=Z.head b:=by
 unfold Zs.head Zs.linked
 simp only
 by_cases h:b % Z.n=e
 · rw [h,turnF_at,turnF_at,turnF_at]
   cases decide (Z.n≤b)<;>cases Z.s e<;>simp
 · rw [turnF_ne _ _ h,turnF_ne _ _ h,turnF_ne _ _ h]
theorem Zs.Ok.linked (hZ:Z.Ok L l) (hpub:Z.pub=true) (he:e<Z.n) (hr:Z.r e=r0++[a]) (hd:Z.rest e=d++t) (hd0:d≠[]) (hds':∀ b∈d,sd Z.n b.2.1= !Z.s e) (ht:∀ b t',t=b::t'→sd Z.n b.2.1=Z.s e) (hbt:hdH t≤18446744073709551615):
 (Z.linked e d t).Ok {L with ss:=lnk L.ss a.1 (hdH t)} l:=by
 have hz:=hZ.zip e he
 have hza:=hz.own
 rw [hr] at hza
 obtain ⟨j,_,hj,_⟩:=hza.at a (by simp)
 have ha:a.1∈hds (Z.All e):=List.mem_map.2 ⟨a,hz.sub a (by rw [hr]; simp),rfl⟩
 have hlink:=Zip.link hz hZ.len hr hd hd0 hds' ht
 refine {hZ with nexts:=?_,len:=?_,newer:=?_,zip:=?_,fr:=fun q=>by have q:Z.pub=false:=q; rw [hpub] at q; simp at q}
 · show Nexts (lnk L.ss a.1 (hdH t))
   unfold lnk
   by_cases hk:(a.1-1) % 65536<L.ss.length
   · exact hZ.nexts.set hk _ ⟨by simp only; omega,by simp only; omega⟩
   · rw [List.set_eq_of_length_le (by omega)]
     exact hZ.nexts
 · show (lnk L.ss a.1 (hdH t)).length≤_
   rw [lnk_len]
   exact hZ.len
 · intro hp b hb
   rw [Zs.linked_head]
   exact hZ.newer hp b hb
 · intro i hi
   show Zip (lnk L.ss a.1 (hdH t)) (sd Z.n) (Z.All i) (turnF Z.s e (!Z.s e) i) (turnF Z.X e (Z.Y e) i) (turnF Z.Y e (Z.X e) i) (turnF Z.u e (Z.v e) i) (turnF Z.r e d i) (turnF Z.v e (Z.u e++Z.r e) i) (turnF Z.rest e t i)
   by_cases hie:i=e
   · subst hie
     simp only [turnF_at]
     exact hlink
   · simp only [turnF_ne _ _ hie]
     exact Zip.aside (hZ.zip i hi) hZ.len hj (hZ.dj e i he hi (fun q=>hie q.symm) _ ha)
theorem Rok.linked (hZ:Z.Ok L l) (he:e<Z.n) (hr:Z.r e=r0++[a]) (hd:Z.rest e=d++t) (hds':∀ b∈d,sd Z.n b.2.1= !Z.s e) (hold:∀ p,¬old p e) (hold':∀ p,old' p e) (hke:∀ p i,i≠e→old p i→old' p i) (h:Rok Z.wy L l old w key G k):
 ∃ k',k'≤k∧Rok (Z.linked e d t).wy {L with ss:=lnk L.ss a.1 (hdH t)} l old' w key G k':=by
 have hz:=hZ.zip e he
 have hza:=hz.own
 rw [hr] at hza
 obtain ⟨j,_,hj,_⟩:=hza.at a (by simp)
 have ha:a.1∈hds (Z.All e):=List.mem_map.2 ⟨a,hz.sub a (by rw [hr]; simp),rfl⟩
 have mk:∀ k',k'≤k→Rph (Z.linked e d t).wy {L with ss:=lnk L.ss a.1 (hdH t)} l old' key G k'→∃ k',k'≤k∧Rok (Z.linked e d t).wy {L with ss:=lnk L.ss a.1 (hdH t)} l old' w key G k':=fun k' hk' hp=>⟨k',hk',⟨h.ky,h.sum,h.wk,h.gat,h.pd,h.cnt,h.pr,hp⟩⟩
 cases h.ph with
 | come a b=>exact mk _ (Nat.le_refl _) (.come a b)
 | put a b=>exact mk _ (Nat.le_refl _) (.put a b)
 | load a=>exact mk _ (Nat.le_refl _) (.load a)
 | first c a1 b hcb hc=>
   rcases hc with hc | ⟨hc,ho,hfr⟩
   · exact mk _ (Nat.le_refl _) (.first c a1 b hcb (.inl hc))
   · by_cases hie:bkt key Z.n=e
     · exact absurd (hie▸ho) (hold _)
     · refine mk _ (Nat.le_refl _) (.first c a1 b hcb (.inr ⟨hc,hke _ _ hie ho,?_⟩))
       obtain ⟨f1,f2,f3⟩:=hfr
       refine ⟨?_,?_,?_⟩
       · show turnF Z.u e (Z.v e) (bkt key Z.n)=[]
         rw [turnF_ne _ _ hie]; exact f1
       · show turnF Z.v e (Z.u e++Z.r e) (bkt key Z.n)=[]
         rw [turnF_ne _ _ hie]; exact f2
       · show Z.All (bkt key Z.n)=turnF Z.r e d (bkt key Z.n)++turnF Z.rest e t (bkt key Z.n)
         rw [turnF_ne _ _ hie,turnF_ne _ _ hie]; exact f3
 | look q a1 a2 a3 a4 a5 a6 a7 a8 a9 a10 a11 a12 a13=>
   have hpos:G.W.at_≠0:=fun q=>a7 (a8.pos.1 q)
   by_cases hie:bkt key Z.n=e
   · have a9':Std (sd Z.n) (Z.s e) (Z.u e) (Z.r e) (Z.v e) (Z.rest e) False key q:=by
      have a9:=Std.mono a9 (fun o=>hold _ (hie▸o))
      rw [hie] at a9
      exact a9
     obtain ⟨q',p1,p2,p3,p4⟩:=Std.link hz hZ.len hr hd hds' a8 a9'
     refine mk (q'.length+1) (by omega) (.look q' a1 a2 a3 a4 a5 a6 (fun e=>hpos (p1.pos.2 e)) p1 ?_ (p2.trans a10) (Nat.le_trans (Nat.add_le_add_left p3 _) a11) a12 a13)
     show Std (sd Z.n) (turnF Z.s e (!Z.s e) (bkt key Z.n)) (turnF Z.u e (Z.v e) (bkt key Z.n)) (turnF Z.r e d (bkt key Z.n)) (turnF Z.v e (Z.u e++Z.r e) (bkt key Z.n)) (turnF Z.rest e t (bkt key Z.n)) _ key q'
     rw [hie]
     simp only [turnF_at]
     exact p4.mono fun _=>by
      have:old' G.C.period (bkt key Z.n):=by rw [hie]; exact hold' _
      exact this
   · have hb:bkt key Z.n<Z.n:=(bkt_lt hZ.pw key).1
     have hzb:=hZ.zip _ hb
     have hna:a.1∉hds (Z.All (bkt key Z.n)):=hZ.dj e _ he hb (fun q=>hie q.symm) _ ha
     have hnq:a.1∉hds q:=fun hm=>by
      obtain ⟨b,hbq,hbe⟩:=List.mem_map.1 hm
      refine hna (List.mem_map.2 ⟨b,hzb.sub b ?_,hbe⟩)
      rcases a9 with ⟨_,s⟩ | ⟨_,s⟩ | ⟨_,_,s⟩
      · have:=s.subset hbq
        simp only [List.mem_append] at this ⊢
        rcases this with (q | q) | q<;>simp [q]
      · have:=s.subset hbq
        simp only [List.mem_append] at this ⊢
        rcases this with q | q<;>simp [q]
      · have:=s.subset hbq
        simp only [List.mem_append] at this ⊢
        rcases this with q | q<;>simp [q]
     refine mk (q.length+1) (Nat.le_refl _) (.look q a1 a2 a3 a4 a5 a6 a7 (Cx.aside hZ.len hj a8 hnq) ?_ a10 a11 a12 a13)
     show Std (sd Z.n) (turnF Z.s e (!Z.s e) (bkt key Z.n)) (turnF Z.u e (Z.v e) (bkt key Z.n)) (turnF Z.r e d (bkt key Z.n)) (turnF Z.v e (Z.u e++Z.r e) (bkt key Z.n)) (turnF Z.rest e t (bkt key Z.n)) _ key q
     simp only [turnF_ne _ _ hie]
     exact Std.mono a9 (hke _ _ hie)
 | leave a b=>exact mk _ (Nat.le_refl _) (.leave a b)
theorem Zs.Ok.cells (hZ:Z.Ok L l) {xs' hs':List Int} {ds':List (Nat×Nat)} {ws':List Nat} (h1:∀ i,Z.B≤i→i<Z.B+Z.n→Cl.nth xs' i=Cl.nth L.xs i) (h2:Z.pub=true→∀ b,b<2*Z.n→Cl.nth xs' (Z.B2+b)=Cl.nth L.xs (Z.B2+b)) (hl:L.xs.length≤xs'.length)
 (hxb:∀ x∈xs',0≤x∧x≤18446744073709551615) (hnow:Me.now xs' ds'=Me.now L.xs L.ds) (htb:∀ i,(tab ds' i).1≤65536∧(tab ds' i).2≤4000000) (hp1:1≤Cl.nth xs' 0):Z.Ok {L with xs:=xs',ds:=ds',hs:=hs',ws:=ws'} l:=
 {hZ with now:=by show Me.now xs' ds'=_; rw [hnow]; exact hZ.now,tb:=htb,xl:=by have:=hZ.xl; exact ⟨Nat.le_trans this.1 hl,this.2.1,fun p=>Nat.le_trans (this.2.2 p) hl⟩,xb:=hxb,elder:=fun i hi=>by show Cl.nth xs' _=_; rw [h1 _ (by omega) (by omega)]; exact hZ.elder i hi,newer:=fun p b hb=>by show Cl.nth xs' _=_; rw [h2 p b hb]; exact hZ.newer p b hb,p1:=hp1}
theorem Zs.Ok.publish (hZ:Z.Ok L l) (_hp:Z.pub=false) {xs':List Int} (h1:∀ i,i≠1→Cl.nth xs' i=Cl.nth L.xs i) (hl:xs'.length=L.xs.length) (hxb:∀ x∈xs',0≤x∧x≤18446744073709551615) (hnow:Me.now xs' L.ds=(2*Z.n,Z.B2)) (h2:Z.B2+2*Z.n≤L.xs.length) (hnew:∀ b,b<2*Z.n→Cl.nth L.xs (Z.B2+b)=((Z.head b:Nat):Int)):Zs.Ok {Z with pub:=true} {L with xs:=xs'} l:=by
 have hkB:=hZ.kB
 have hk:=hZ.k
 have hxl:=hZ.xl
 exact {hZ with now:=hnow,xl:=⟨by show _≤xs'.length; rw [hl]; exact hxl.1,hxl.2.1,fun _=>by show _≤xs'.length; rw [hl]; exact h2⟩,xb:=hxb,elder:=fun i hi=>by show Cl.nth xs' (Z.B+i)=_; rw [h1 _ (by omega)]; exact hZ.elder i hi,newer:=fun _ b hb=>by show Cl.nth xs' (Z.B2+b)=_; rw [h1 _ (by omega)]; exact hnew b hb,fr:=fun q=>by simp at q,p1:=by show 1≤Cl.nth xs' 0; rw [h1 _ (by omega)]; exact hZ.p1}
theorem RnOk.publish {R:Rn} (h:RnOk Z.wy L l oldn R k):RnOk {Z with pub:=true}.wy L l oldn R k:=
 h.to rfl (Int.le_refl _) rfl rfl (Nat.le_refl _) (fun _ _ _ q=>q.imp (fun q=>⟨q.1,rfl⟩) id) (fun _ _ _ q=>q)
theorem RnOk.mono {R:Rn} (hY:Z.wy.Ok L l) (h:RnOk Z.wy L l oldn R k) (ho:∀ p e,oldn R.w p e→oldn' R.w p e):RnOk Z.wy L l oldn' R k:=
 h.to rfl (Int.le_refl _) rfl rfl (Nat.le_refl _) (fun _ _ _=>hY.celm (ho _)) (fun _ _ _=>hY.mono (ho _))
theorem Zs.Ok.parted (hZ:Z.Ok L l) (hp:∀ e,e<Z.n→Z.rest e=[]) {b:Nat} (hb:b<2*Z.n):Cx L.ss (Z.head b) ((Z.All (b % Z.n)).filter fun a=>sd Z.n a.2.1==decide (Z.n≤b)):=by
 have hn:=FM.power_bd hZ.pw
 have he:b % Z.n<Z.n:=Nat.mod_lt _ (by omega)
 have hz:=hZ.zip _ he
 rw [hp _ he] at hz
 obtain ⟨h1,h2⟩:=hz.parted
 unfold Zs.head
 by_cases hs:decide (Z.n≤b)=Z.s (b % Z.n)
 · rw [if_pos hs,hs]
   exact h1
 · rw [if_neg hs]
   have:decide (Z.n≤b)= !(Z.s (b % Z.n)):=by
    revert hs
    cases decide (Z.n≤b)<;>cases Z.s (b % Z.n)<;>simp
   rw [this]
   exact h2
theorem RnOk.linked {R:Rn} (hZ:Z.Ok L l) (he:e<Z.n) (hr:Z.r e=r0++[a]) (hd:Z.rest e=d++t) (hds':∀ b∈d,sd Z.n b.2.1= !Z.s e) (hold:∀ p,¬oldn R.w p e) (hold':∀ p,oldn' R.w p e) (hke:∀ p i,i≠e→oldn R.w p i→oldn' R.w p i) (h:RnOk Z.wy L l oldn R k):
 ∃ k',k'≤k∧RnOk (Z.linked e d t).wy {L with ss:=lnk L.ss a.1 (hdH t)} l oldn' R k':=by
 unfold RnOk at h ⊢
 split
 · rename_i q
   rw [q] at h
   exact ⟨k,Nat.le_refl _,h⟩
 · rename_i G q
   rw [q] at h
   exact Rok.linked hZ he hr hd hds' hold hold' hke h
end
end Go.Proofs.YtpobbnllcoabhaaGreat.Zp
namespace Go.Proofs.YtpobbnllcoabhaaGreat.Zp
open Go Hm Ar Mm Wk Pc Me Mq Pu Pn Gt Qs
structure Js where
 n:Nat
 B:Nat
 B2:Nat
 few:Nat
 cap:Nat
 pub:Bool
 C:Nat→List Mq.Hp
 jn:Nat→Bool
def Js.two (J:Js) (e:Nat):List Mq.Hp:=J.C e++J.C (e+J.n)
def Js.way (J:Js) (b:Nat):List Mq.Hp:=if b<J.n∧J.jn b=true∧J.C b≠[] then J.two b else J.C b
structure Js.Ok (J:Js) (L:Lm) (l:List Pr):Prop where
 pw:FM.power J.n=true
 pw2:FM.power ((2*J.n:Nat):Int)=true
 now:Me.now L.xs L.ds=if J.pub=true then (J.n,J.B2) else (2*J.n,J.B)
 tb:∀ i,(tab L.ds i).1≤65536∧(tab L.ds i).2≤4000000
 k:1≤L.k∧L.k≤8
 kB:2+L.k≤J.B
 xl:J.B+2*J.n≤L.xs.length∧J.B+2*J.n≤J.B2∧(J.pub=true→J.B2+J.n≤L.xs.length)
 bb:J.B2≤4000000
 xb:∀ x∈L.xs,0≤x∧x≤18446744073709551615
 nexts:Nexts L.ss
 len:L.ss.length≤1024
 elder:∀ b,b<2*J.n→Cl.nth L.xs (J.B+b)=((hdH (J.C b):Nat):Int)
 newer:J.pub=true→∀ e,e<J.n→Cl.nth L.xs (J.B2+e)=((hdH (J.two e):Nat):Int)
 all:J.pub=true→∀ e,e<J.n→J.jn e=true
 chain:∀ b,b<2*J.n→Cx L.ss (hdH (J.C b)) (J.way b)
 lk:∀ key,Pc.lk l key=Pc.lk (prs (J.C (bkt key (2*J.n)))) key
 own:∀ b,b<2*J.n→∀ a∈J.C b,bkt a.2.1 (2*J.n)=b
 F:L.F=false
 p1:1≤Cl.nth L.xs 0
 few:(∀ e,e<J.n→(J.two e).length≤J.few)∧J.few≤900∧J.few≤J.cap∧J.cap≤1000000
 nd:∀ b,b<2*J.n→(hds (J.C b)).Nodup
 dj:∀ b b',b<2*J.n→b'<2*J.n→b≠b'→∀ a∈hds (J.C b),a∉hds (J.C b')
def Js.wy (J:Js):Wy:=⟨fun _ key q=>q<:+J.way (bkt key (2*J.n))∨(J.pub=true∧q<:+J.two (bkt key J.n)),
 fun o key c=>(c=J.B+bkt key (2*J.n)∧(J.pub=false∨o 0))∨(c=J.B2+bkt key J.n∧J.pub=true),J.few,J.cap,true⟩
section
variable {J:Js} {L:Lm} {l:List Pr} {old old':Int→Nat→Prop} {w k e:Nat} {key:ByteArray} {G:Gt.Ge}
theorem Js.Ok.bk (hJ:J.Ok L l) (key:ByteArray):bkt key J.n<J.n∧bkt key (2*J.n)<2*J.n∧(bkt key (2*J.n)=bkt key J.n∨bkt key (2*J.n)=bkt key J.n+J.n):=by
 obtain ⟨h1,h2,h3⟩:=bkt_two hJ.pw hJ.pw2 key
 refine ⟨(bkt_lt hJ.pw key).1,h2,?_⟩
 split at h3<;>omega
theorem Js.Ok.ne (hJ:J.Ok L l) {b:Nat} (hb:b<2*J.n) (hk:b≠bkt key (2*J.n)):∀ a∈J.C b,a.2.1≠key:=fun a ha q=>by
 have:=hJ.own b hb a ha
 rw [q] at this
 exact hk this.symm
theorem lk_back {a d:List Mq.Hp} {key:ByteArray} (hk:∀ e∈d,e.2.1≠key):Pc.lk (prs (a++d)) key=Pc.lk (prs a) key:=by
 have:=lk_skip (a:=a) (d:=d) (t:=[]) hk
 simpa using this
theorem lk_front {a d:List Mq.Hp} {key:ByteArray} (hk:∀ e∈a,e.2.1≠key):Pc.lk (prs (a++d)) key=Pc.lk (prs d) key:=by
 have:=lk_skip (a:=[]) (d:=a) (t:=d) hk
 simpa using this
theorem Js.Ok.way_lk (hJ:J.Ok L l) (key:ByteArray):Pc.lk (prs (J.way (bkt key (2*J.n)))) key=Pc.lk l key:=by
 obtain ⟨h1,h2,h3⟩:=hJ.bk key
 rw [hJ.lk key]
 unfold Js.way
 split
 · rename_i q
   exact lk_back (hJ.ne (by omega) (by omega))
 · rfl
theorem Js.Ok.two_lk (hJ:J.Ok L l) (key:ByteArray):Pc.lk (prs (J.two (bkt key J.n))) key=Pc.lk l key:=by
 obtain ⟨h1,h2,h3⟩:=hJ.bk key
 rw [hJ.lk key]
 unfold Js.two
 have hn:=FM.power_bd hJ.pw
 rcases h3 with q | q
 · rw [lk_back (hJ.ne (by omega) (by omega)),q]
 · rw [lk_front (hJ.ne (by omega) (by omega)),q]
theorem Js.Ok.way_few (hJ:J.Ok L l) {b:Nat} (hb:b<2*J.n):(J.way b).length≤J.few:=by
 have h:=hJ.few.1
 unfold Js.way
 split
 · rename_i q
   exact h b q.1
 · by_cases q:b<J.n
   · have:=h b q
     unfold Js.two at this
     rw [List.length_append] at this
     omega
   · have:=h (b-J.n) (by omega)
     unfold Js.two at this
     rw [List.length_append,show b-J.n+J.n=b by omega] at this
     omega
theorem Js.Ok.both (hJ:J.Ok L l) (hp:J.pub=true) (he:e<J.n):Cx L.ss (hdH (J.two e)) (J.two e):=by
 have h1:=hJ.chain e (by omega)
 by_cases hc:J.C e=[]
 · have h2:=hJ.chain (e+J.n) (by omega)
   unfold Js.way at h2
   rw [if_neg (by omega)] at h2
   unfold Js.two
   rw [hc,List.nil_append]
   exact h2
 · unfold Js.way at h1
   rw [if_pos ⟨he,hJ.all hp e he,hc⟩] at h1
   have:hdH (J.two e)=hdH (J.C e):=by
    unfold Js.two hdH
    cases hq:J.C e with
    | nil=>exact absurd hq hc
    | cons a t=>rfl
   rw [this]
   exact h1
theorem Js.Ok.ways (hJ:J.Ok L l):J.wy.Ok L l:=by
 have hbd:=hJ.bb
 have hxl:=hJ.xl
 have hkB:=hJ.kB
 have hn1:=FM.power_bd hJ.pw
 refine ⟨hJ.k,fun w hw=>by omega,hJ.xb,hJ.nexts,hJ.len,hJ.F,hJ.p1,hJ.tb,hJ.few.2,fun {o key e q} h=>h.imp (fun h=>(List.suffix_cons _ _).trans h) (fun h=>⟨h.1,(List.suffix_cons _ _).trans h.2⟩),fun _ h=>h,fun ho h=>h.imp (fun q=>⟨q.1,q.2.imp id (ho 0)⟩) id,fun {o key c} hc=>?_,fun o key _=>?_⟩
 · obtain ⟨h1,h2,h3⟩:=hJ.bk key
   rcases hc with ⟨rfl,_⟩ | ⟨rfl,hp⟩
   · have hw1:word L.xs ((J.B+bkt key (2*J.n):Nat):Int)=hdH (J.C (bkt key (2*J.n))):=by
      unfold word
      rw [if_pos (by omega),Int.toNat_natCast,hJ.elder _ h2,Int.toNat_natCast]
     rw [hw1]
     exact ⟨by omega,_,hJ.chain _ h2,.inl (List.suffix_refl _),hJ.way_lk key,hJ.way_few h2⟩
   · have hw1:word L.xs ((J.B2+bkt key J.n:Nat):Int)=hdH (J.two (bkt key J.n)):=by
      unfold word
      rw [if_pos (by have:=hxl.2.2 hp; omega),Int.toNat_natCast,hJ.newer hp _ h1,Int.toNat_natCast]
     rw [hw1]
     exact ⟨by omega,_,hJ.both hp h1,.inr ⟨hp,List.suffix_refl _⟩,hJ.two_lk key,hJ.few.1 _ h1⟩
 · obtain ⟨h1,h2,h3⟩:=hJ.bk key
   have hnow:=hJ.now
   cases hp:J.pub with
   | true=>
     rw [hp,if_pos rfl] at hnow
     refine ⟨J.B2+bkt key J.n,?_,.inr ⟨rfl,hp⟩⟩
     rw [hnow]
     unfold Gt.cellOf
     simp only
     rw [if_neg (by omega),(bkt_lt hJ.pw key).2]
     simp
   | false=>
     rw [hp,if_neg (by simp)] at hnow
     refine ⟨J.B+bkt key (2*J.n),?_,.inl ⟨rfl,.inl hp⟩⟩
     rw [hnow]
     unfold Gt.cellOf
     simp only
     rw [if_neg (by omega),(bkt_lt hJ.pw2 key).2]
     simp
def Js.linked (J:Js) (e:Nat):Js:={J with jn:=turnF J.jn e true,cap:=J.cap+(J.C (e+J.n)).length}
theorem Js.linked_way (J:Js) (e b:Nat) (h:b≠e):(J.linked e).way b=J.way b:=by
 unfold Js.way Js.linked Js.two
 simp only [turnF_ne _ _ h]
theorem Cx.hang {ss:List Sl} {j:Nat} {a:Mq.Hp} {t:List Mq.Hp} (hl:ss.length≤1024) (hj:IsAt ss a.1 j) (ht:Cx ss (hdH t) t) (ha:a.1∉hds t):∀ (pre:List Mq.Hp) (p:Nat),Cx ss p (pre++[a])→(hds (pre++[a])).Nodup→Cx (lnk ss a.1 (hdH t)) p (pre++a::t):=by
 intro pre
 induction pre with
 | nil=>
   intro p h _
   cases h with
   | @cons _ k z pp _ b c d=>
     refine .cons (lnk_live hl b b) (z:=hdH t) ?_ (Cx.aside hl b ht ha)
     rw [lnk_at hl b,if_pos rfl]
     simp only [c]
     rfl
 | cons e0 r ih=>
   intro p h hn
   have hn':=List.nodup_cons.1 hn
   cases h with
   | @cons _ k z pp _ b c d=>
     have hne:p≠a.1:=by
      rintro rfl
      exact hn'.1 (by simp [hds])
     have:=lnk_keep (y:=hdH t) hl hj b hne
     exact .cons this.1 (this.2.trans c) (ih _ d hn'.2)
theorem Js.Ok.linked (hJ:J.Ok L l) (hp:J.pub=false) (he:e<J.n) (hjn:J.jn e=false) {c0:List Mq.Hp} {a:Mq.Hp} (hc:J.C e=c0++[a]) (hcap:J.cap+(J.C (e+J.n)).length≤1000000):
 (J.linked e).Ok {L with ss:=lnk L.ss a.1 (hdH (J.C (e+J.n)))} l:=by
 have hch:=hJ.chain e (by omega)
 have hwe:J.way e=J.C e:=by unfold Js.way; rw [if_neg (by simp [hjn])]
 rw [hwe,hc] at hch
 obtain ⟨j,_,hj,_⟩:=hch.at a (by simp)
 have hae:a.1∈hds (J.C e):=by rw [hc]; simp
 have hways:∀ b,b<2*J.n→b≠e→a.1∉hds (J.way b):=by
  intro b hb hne
  unfold Js.way
  split
  · rename_i q
    unfold Js.two
    simp only [hds,List.map_append,List.mem_append]
    rintro (q1 | q1)
    · exact hJ.dj e b (by omega) hb (fun q=>hne q.symm) _ hae q1
    · exact hJ.dj e (b+J.n) (by omega) (by omega) (by omega) _ hae q1
  · exact hJ.dj e b (by omega) hb (fun q=>hne q.symm) _ hae
 have hb2:=hJ.chain (e+J.n) (by omega)
 have hw2:J.way (e+J.n)=J.C (e+J.n):=by unfold Js.way; rw [if_neg (by omega)]
 rw [hw2] at hb2
 have hzb:hdH (J.C (e+J.n))≤18446744073709551615:=by
  have:=hJ.elder (e+J.n) (by omega)
  have:=Cl.getD_bd hJ.xb (J.B+(e+J.n))
  omega
 refine {hJ with nexts:=?_,len:=?_,chain:=?_,newer:=fun q=>?_,all:=fun q=>?_,few:=⟨hJ.few.1,hJ.few.2.1,by have:=hJ.few.2.2.1; show J.few≤J.cap+_; omega,hcap⟩}
 · show Nexts (lnk L.ss a.1 (hdH (J.C (e+J.n))))
   unfold lnk
   by_cases hk:(a.1-1) % 65536<L.ss.length
   · exact hJ.nexts.set hk _ ⟨by simp only; omega,by simp only; omega⟩
   · rw [List.set_eq_of_length_le (by omega)]
     exact hJ.nexts
 · show (lnk L.ss a.1 _).length≤_
   rw [lnk_len]
   exact hJ.len
 · have q:J.pub=true:=q
   rw [hp] at q; simp at q
 · have q:J.pub=true:=q
   rw [hp] at q; simp at q
 · intro b hb
   have hb:b<2*J.n:=hb
   show Cx (lnk L.ss a.1 (hdH (J.C (e+J.n)))) (hdH (J.C b)) ((J.linked e).way b)
   by_cases hbe:b=e
   · subst hbe
     have:(J.linked b).way b=c0++a::J.C (b+J.n):=by
      unfold Js.way Js.linked Js.two
      simp only [turnF_at]
      rw [if_pos ⟨he,by simp,by rw [hc]; simp⟩,hc]
      simp
     rw [this]
     exact Cx.hang hJ.len hj hb2 (hJ.dj b (b+J.n) (by omega) (by omega) (by omega) _ hae) c0 _ (by rw [hc]; exact hch) (by rw [← hc]; exact hJ.nd b hb)
   · rw [Js.linked_way J e b hbe]
     exact Cx.aside hJ.len hj (hJ.chain b hb) (hways b hb hbe)
theorem Rok.joined (hJ:J.Ok L l) (hp:J.pub=false) (he:e<J.n) (hjn:J.jn e=false) {c0:List Mq.Hp} {a:Mq.Hp} (hc:J.C e=c0++[a]) (h:Rok J.wy L l old w key G k):
 ∃ k',k'≤k+(J.C (e+J.n)).length∧Rok (J.linked e).wy {L with ss:=lnk L.ss a.1 (hdH (J.C (e+J.n)))} l old w key G k':=by
 have hch:=hJ.chain e (by omega)
 have hwe:J.way e=J.C e:=by unfold Js.way; rw [if_neg (by simp [hjn])]
 rw [hwe,hc] at hch
 obtain ⟨j,_,hj,_⟩:=hch.at a (by simp)
 have hae:a.1∈hds (J.C e):=by rw [hc]; simp
 obtain ⟨b1,b2,b3⟩:=hJ.bk key
 have mk:∀ k',k'≤k+(J.C (e+J.n)).length→Rph (J.linked e).wy {L with ss:=lnk L.ss a.1 (hdH (J.C (e+J.n)))} l old key G k'→∃ k',k'≤k+(J.C (e+J.n)).length∧Rok (J.linked e).wy {L with ss:=lnk L.ss a.1 (hdH (J.C (e+J.n)))} l old w key G k':=fun k' hk' hp=>⟨k',hk',⟨h.ky,h.sum,h.wk,h.gat,h.pd,h.cnt,h.pr,hp⟩⟩
 cases h.ph with
 | come a b=>exact mk _ (Nat.le_add_right (J.few+5) _) (.come a b)
 | put a b=>exact mk _ (Nat.le_add_right (J.few+4) _) (.put a b)
 | load a=>exact mk _ (Nat.le_add_right (J.few+3) _) (.load a)
 | first c a1 b hcb q=>exact mk _ (Nat.le_add_right (J.few+2) _) (.first c a1 b hcb q)
 | look q a1 a2 a3 a4 a5 a6 a7 a8 a9 a10 a11 a12 a13=>
   have a11:G.W.read+q.length≤J.cap:=a11
   have hq:q<:+J.way (bkt key (2*J.n)):=by
    rcases a9 with q | ⟨q,_⟩
    · exact q
    · rw [hp] at q; simp at q
   by_cases hbe:bkt key (2*J.n)=e
   · rw [hbe,hwe,hc] at hq
     obtain ⟨q0,rfl⟩:=suffix_last hq a7
     obtain ⟨p0,hp0⟩:=hq
     have hnd:(hds (q0++[a])).Nodup:=by
      have:=hJ.nd e (by omega)
      rw [hc,← hp0] at this
      simp only [hds,List.map_append] at this ⊢
      exact (List.nodup_append.1 this).2.1
     have hb2:=hJ.chain (e+J.n) (by omega)
     have hw2:J.way (e+J.n)=J.C (e+J.n):=by unfold Js.way; rw [if_neg (by omega)]
     rw [hw2] at hb2
     have hx:=Cx.hang hJ.len hj hb2 (hJ.dj e (e+J.n) (by omega) (by omega) (by omega) _ hae) q0 _ a8 hnd
     rw [show q0++a::J.C (e+J.n)=(q0++[a])++J.C (e+J.n) by simp] at hx
     refine mk ((q0++[a]++J.C (e+J.n)).length+1) (by simp only [List.length_append]; omega) (.look (q0++[a]++J.C (e+J.n)) a1 a2 a3 a4 a5 a6 (by simp) hx (.inl ?_) ?_ ?_ a12 a13)
     · have:(J.linked e).way (bkt key (2*(J.linked e).n))=J.C e++J.C (e+J.n):=by
        show (J.linked e).way (bkt key (2*J.n))=_
        rw [hbe]
        unfold Js.way Js.linked Js.two
        simp only [turnF_at]
        rw [if_pos ⟨he,by simp,by rw [hc]; simp⟩]
       rw [this,hc,← hp0]
       exact ⟨p0,by simp⟩
     · rw [lk_back (hJ.ne (by omega) (by omega))]
       exact a10
     · show G.W.read+_≤J.cap+(J.C (e+J.n)).length
       simp only [List.length_append] at a11 ⊢
       omega
   · have hna:a.1∉hds q:=fun hm=>by
      have hm:=(hq.map (·.1)).subset hm
      unfold Js.way at hm
      split at hm
      · unfold Js.two at hm
        simp only [hds,List.map_append,List.mem_append] at hm
        rcases hm with hm | hm
        · exact hJ.dj e _ (by omega) b2 (fun q=>hbe q.symm) _ hae hm
        · exact hJ.dj e (bkt key (2*J.n)+J.n) (by omega) (by omega) (by omega) _ hae hm
      · exact hJ.dj e _ (by omega) b2 (fun q=>hbe q.symm) _ hae hm
     refine mk (q.length+1) (by omega) (.look q a1 a2 a3 a4 a5 a6 a7 (Cx.aside hJ.len hj a8 hna) (.inl ?_) a10 (by show _≤J.cap+_; omega) a12 a13)
     show q<:+(J.linked e).way (bkt key (2*J.n))
     rw [Js.linked_way J e _ hbe]
     exact hq
 | leave a b=>exact mk _ (by omega) (.leave a b)
end
end Go.Proofs.YtpobbnllcoabhaaGreat.Zp
namespace Go.Proofs.YtpobbnllcoabhaaGreat.Zp
open Go Hm Ar Mm Wk Pc Me Mq Pu Pn Gt Qs
section
variable {Z:Zs} {L:Lm} {l:List Pr} {n:Nat} {W:Wt}
theorem Zs.Ok.waits (hZ:Z.Ok L l) (hb:Cl.nth L.xs 0≤4611686018427387904):Z.Ok {L with xs:=(wstep n L.xs L.hs W).1,hs:=(wstep n L.xs L.hs W).2.1} l:=by
 have hkB:=hZ.kB
 have hk:=hZ.k
 have hxl:=hZ.xl
 have h0:=Cl.getD_bd hZ.xb 0
 have hs:=sum64_in h0.1 hb
 unfold wstep
 split
 · exact hZ.cells (fun _ _ _=>rfl) (fun _ _ _=>rfl) (Nat.le_refl _) hZ.xb rfl hZ.tb hZ.p1
 split
 · have hn:∀ i,i≠0→Cl.nth (L.xs.set 0 (Cl.sum64 (Cl.nth L.xs 0) 1)) i=Cl.nth L.xs i:=fun i hi=>by
    rw [nth_set _ _ _ (by omega),if_neg hi]
   refine hZ.cells (fun i h1 _=>hn i (by omega)) (fun _ b _=>hn _ (by omega)) (by simp) (fun x hx=>?_) ?_ hZ.tb ?_
   · rcases List.mem_or_eq_of_mem_set hx with q | rfl
     · exact hZ.xb x q
     · rw [hs]; omega
   · unfold Me.now
     rw [hn 1 (by omega)]
   · rw [nth_set _ _ _ (by omega),if_pos rfl,hs]
     have:=hZ.p1
     omega
 split
 · exact hZ.cells (fun _ _ _=>rfl) (fun _ _ _=>rfl) (Nat.le_refl _) hZ.xb rfl hZ.tb hZ.p1
 · exact hZ.cells (fun _ _ _=>rfl) (fun _ _ _=>rfl) (Nat.le_refl _) hZ.xb rfl hZ.tb hZ.p1
end
end Go.Proofs.YtpobbnllcoabhaaGreat.Zp
namespace Go.Proofs.YtpobbnllcoabhaaGreat.Mx
end Go.Proofs.YtpobbnllcoabhaaGreat.Mx
namespace Go.Proofs.YtpobbnllcoabhaaGreat.Zp
open Go Hm Ar Mm Wk Pc Me Mq Pu Pn Gt Qs Mx
def ZD (l:List Pr) (Z:Zs) (L:Lm):Prop:=Z.Ok L l∧Z.few≤35
def Beside (l:List Pr) (Z:Zs) (L:Lm) (old:Nat→Int→Nat→Prop) (Z':Zs) (L':Lm) (old':Nat→Int→Nat→Prop):Prop:=
 ∀ (R:Rn) (k:Nat),(R.w:Int)<L.k→RnOk Z.wy L l old R k→∃ k',k'≤k+0∧RnOk Z'.wy L' l old' R k'
section
variable {l:List Pr} {Z:Zs} {L:Lm} {old old':Nat→Int→Nat→Prop}
theorem ZD.ways (h:ZD l Z L):Z.wy.Ok L l:=h.1.ways
theorem Beside.olds (h:ZD l Z L) (ho:∀ w p e,old w p e→old' w p e):Beside l Z L old Z L old':=fun R k _ hR=>
 ⟨k,Nat.le_refl _,hR.mono h.ways (fun p e=>ho _ p e)⟩
theorem Beside.trans {Z' Z'':Zs} {L' L'':Lm} {old'':Nat→Int→Nat→Prop} (hk:L'.k=L.k) (h:Beside l Z L old Z' L' old') (h':Beside l Z' L' old' Z'' L'' old''):Beside l Z L old Z'' L'' old'':=fun R k hw hR=>by
 obtain ⟨k',h1,h2⟩:=h R k hw hR
 obtain ⟨k'',h3,h4⟩:=h' R k' (by rw [hk]; exact hw) h2
 exact ⟨k'',by omega,h4⟩
theorem beside_cells (h:ZD l Z L) {xs' hs':List Int} {ds':List (Nat×Nat)} {ws':List Nat} (h1:∀ i,2≤i→i<Z.B+Z.n→Cl.nth xs' i=Cl.nth L.xs i) (h2:Z.pub=true→∀ b,b<2*Z.n→Cl.nth xs' (Z.B2+b)=Cl.nth L.xs (Z.B2+b)) (hl:L.xs.length≤xs'.length)
 (hxb:∀ x∈xs',0≤x∧x≤18446744073709551615) (hnow:Me.now xs' ds'=Me.now L.xs L.ds) (htb:∀ i,(tab ds' i).1≤65536∧(tab ds' i).2≤4000000) (h0:Cl.nth L.xs 0≤Cl.nth xs' 0):
 ZD l Z {L with xs:=xs',ds:=ds',hs:=hs',ws:=ws'}∧Beside l Z L old Z {L with xs:=xs',ds:=ds',hs:=hs',ws:=ws'} old:=by
 have hkB:=h.1.kB
 have hk:=h.1.k
 have hp1:=h.1.p1
 refine ⟨⟨h.1.cells (fun i q1 q2=>h1 i (by omega) q2) h2 hl hxb hnow htb (by omega),h.2⟩,fun R k hw hR=>⟨k,Nat.le_refl _,hR.moved ?_ h0 rfl⟩⟩
 show Cl.nth xs' (2+R.w)=_
 exact h1 _ (by omega) (by omega)
theorem beside_publish (h:ZD l Z L) (hp:Z.pub=false) {t:Nat} (ht:t≤1000000) (hnow:Me.now (L.xs.set 1 (t:Int)) L.ds=(2*Z.n,Z.B2)) (h2:Z.B2+2*Z.n≤L.xs.length) (hnew:∀ b,b<2*Z.n→Cl.nth L.xs (Z.B2+b)=((Z.head b:Nat):Int)):
 ZD l {Z with pub:=true} {L with xs:=L.xs.set 1 (t:Int)}∧Beside l Z L old {Z with pub:=true} {L with xs:=L.xs.set 1 (t:Int)} old:=by
 have hkB:=h.1.kB
 have hk:=h.1.k
 have hxl:=h.1.xl
 have hn:∀ i,i≠1→Cl.nth (L.xs.set 1 (t:Int)) i=Cl.nth L.xs i:=fun i hi=>by rw [nth_set _ _ _ (by omega),if_neg hi]
 refine ⟨⟨h.1.publish hp hn (by simp) (fun x hx=>?_) hnow h2 hnew,h.2⟩,fun R k hw hR=>⟨k,Nat.le_refl _,?_⟩⟩
 · rcases List.mem_or_eq_of_mem_set hx with q | rfl
   · exact h.1.xb x q
   · omega
 · exact hR.publish.moved (hn _ (by omega)) (by show _≤Cl.nth (L.xs.set 1 (t:Int)) 0; rw [hn 0 (by omega)]; exact Int.le_refl _) rfl
theorem beside_wait {n:Nat} {W:Wt} (h:ZD l Z L) (hb:Cl.nth L.xs 0≤4611686018427387904) (hr:readyB L.xs L.hs W=true) (hp0:W.at_≤1→W.passed=0) (h3:W.at_≤3) (hn:(n:Int)=L.k):
 ZD l Z {L with xs:=(wstep n L.xs L.hs W).1,hs:=(wstep n L.xs L.hs W).2.1}∧Beside l Z L (oldW W) Z {L with xs:=(wstep n L.xs L.hs W).1,hs:=(wstep n L.xs L.hs W).2.1} (oldW (wstep n L.xs L.hs W).2.2):=
 ⟨⟨h.1.waits hb,h.2⟩,fun R k hw' hR=>⟨k,Nat.le_refl _,hR.waits h.ways hb hr hp0 h3 (by omega) (by omega)⟩⟩
theorem beside_link {e:Nat} {r0 d t:List Mq.Hp} {a:Mq.Hp} (h:ZD l Z L) (hp:Z.pub=true) (he:e<Z.n) (hr:Z.r e=r0++[a]) (hd:Z.rest e=d++t) (hd0:d≠[]) (hds':∀ b∈d,sd Z.n b.2.1= !Z.s e) (ht:∀ b t',t=b::t'→sd Z.n b.2.1=Z.s e)
 (hold:∀ w p,¬old w p e) (hold':∀ w p i,old' w p i↔i=e∨old w p i):
 ZD l (Z.linked e d t) {L with ss:=lnk L.ss a.1 (hdH t)}∧Beside l Z L old (Z.linked e d t) {L with ss:=lnk L.ss a.1 (hdH t)} old':=by
 have hz:=h.1.zip e he
 have hbt:hdH t≤18446744073709551615:=by
  cases t with
  | nil=>simp [hdH]
  | cons b t'=>
    have h1:=hz.oth
    rw [hd] at h1
    obtain ⟨j,_,hj,_⟩:=h1.at b (by simp)
    have hx:=hz.own
    obtain ⟨d1,g,hdl⟩:∃ d1 g,d=d1++[g]:=⟨d.dropLast,d.getLast hd0,(List.dropLast_concat_getLast hd0).symm⟩
    obtain ⟨gx,gp⟩:=g
    have h2:Cx L.ss gx ((gx,gp)::b::t'):=by
     have h3:Z.v e++(d++b::t')=(Z.v e++d1)++((gx,gp)::b::t'):=by rw [hdl]; simp
     rw [h3] at h1
     exact Cx.back _ h1
    obtain ⟨k,z,q1,q2,q3⟩:=h2.tail
    have hz2:=(h.1.nexts k).2
    rw [q2] at hz2
    unfold ndp at hz2
    simp only at hz2
    have:=Cx.hd q3
    omega
 refine ⟨⟨h.1.linked hp he hr hd hd0 hds' ht hbt,h.2⟩,fun R k _ hR=>?_⟩
 obtain ⟨k',h1,h2⟩:=RnOk.linked h.1 he hr hd hds' (fun p=>hold _ p) (fun p=>(hold' _ p e).2 (.inl rfl)) (fun p i _ q=>(hold' _ p i).2 (.inr q)) hR
 exact ⟨k',h1,h2⟩
end
end Go.Proofs.YtpobbnllcoabhaaGreat.Zp
namespace Go.Proofs.YtpobbnllcoabhaaGreat.Zp
open Go Hm Ar Mm Wk Pc Me Mq Pu Pn Gt Qs Mx
section
variable {J:Js} {L L':Lm} {l:List Pr} {old old':Nat→Int→Nat→Prop} {w k e n:Nat} {W:Wt} {R:Rn}
theorem Js.Ok.cells (hJ:J.Ok L l) {xs' hs':List Int} {ds':List (Nat×Nat)} {ws':List Nat} (h1:∀ i,J.B≤i→i<J.B+2*J.n→Cl.nth xs' i=Cl.nth L.xs i) (h2:J.pub=true→∀ b,b<J.n→Cl.nth xs' (J.B2+b)=Cl.nth L.xs (J.B2+b)) (hl:L.xs.length≤xs'.length)
 (hxb:∀ x∈xs',0≤x∧x≤18446744073709551615) (hnow:Me.now xs' ds'=Me.now L.xs L.ds) (htb:∀ i,(tab ds' i).1≤65536∧(tab ds' i).2≤4000000) (hp1:1≤Cl.nth xs' 0):J.Ok {L with xs:=xs',ds:=ds',hs:=hs',ws:=ws'} l:=
 {hJ with now:=by show Me.now xs' ds'=_; rw [hnow]; exact hJ.now,tb:=htb,xl:=by have:=hJ.xl; exact ⟨Nat.le_trans this.1 hl,this.2.1,fun p=>Nat.le_trans (this.2.2 p) hl⟩,xb:=hxb,elder:=fun i hi=>by show Cl.nth xs' _=_; rw [h1 _ (by omega) (by omega)]; exact hJ.elder i hi,newer:=fun p b hb=>by show Cl.nth xs' _=_; rw [h2 p b hb]; exact hJ.newer p b hb,p1:=hp1}
theorem Js.Ok.publish (hJ:J.Ok L l) (_hp:J.pub=false) (hall:∀ e,e<J.n→J.jn e=true) {xs':List Int} (h1:∀ i,i≠1→Cl.nth xs' i=Cl.nth L.xs i) (hl:xs'.length=L.xs.length) (hxb:∀ x∈xs',0≤x∧x≤18446744073709551615) (hnow:Me.now xs' L.ds=(J.n,J.B2)) (h2:J.B2+J.n≤L.xs.length) (hnew:∀ e,e<J.n→Cl.nth L.xs (J.B2+e)=((hdH (J.two e):Nat):Int)):Js.Ok {J with pub:=true} {L with xs:=xs'} l:=by
 have hkB:=hJ.kB
 have hk:=hJ.k
 have hxl:=hJ.xl
 have hpw:=FM.power_bd hJ.pw
 exact {hJ with now:=hnow,xl:=⟨by show _≤xs'.length; rw [hl]; exact hxl.1,hxl.2.1,fun _=>by show _≤xs'.length; rw [hl]; exact h2⟩,xb:=hxb,elder:=fun i hi=>by show Cl.nth xs' (J.B+i)=_; rw [h1 _ (by omega)]; exact hJ.elder i hi,newer:=fun _ b hb=>by show Cl.nth xs' (J.B2+b)=_; rw [h1 _ (by omega)]; exact hnew b hb,all:=fun _=>hall,p1:=by show 1≤Cl.nth xs' 0; rw [h1 _ (by omega)]; exact hJ.p1}
theorem Js.Ok.waits (hJ:J.Ok L l) (hb:Cl.nth L.xs 0≤4611686018427387904):J.Ok {L with xs:=(wstep n L.xs L.hs W).1,hs:=(wstep n L.xs L.hs W).2.1} l:=by
 have hkB:=hJ.kB
 have hk:=hJ.k
 have hxl:=hJ.xl
 have hpw:=FM.power_bd hJ.pw
 have h0:=Cl.getD_bd hJ.xb 0
 have hs:=sum64_in h0.1 hb
 unfold wstep
 split
 · exact hJ.cells (fun _ _ _=>rfl) (fun _ _ _=>rfl) (Nat.le_refl _) hJ.xb rfl hJ.tb hJ.p1
 split
 · have hn:∀ i,i≠0→Cl.nth (L.xs.set 0 (Cl.sum64 (Cl.nth L.xs 0) 1)) i=Cl.nth L.xs i:=fun i hi=>by
    rw [nth_set _ _ _ (by omega),if_neg hi]
   refine hJ.cells (fun i h1 _=>hn i (by omega)) (fun _ b _=>hn _ (by omega)) (by simp) (fun x hx=>?_) ?_ hJ.tb ?_
   · rcases List.mem_or_eq_of_mem_set hx with q | rfl
     · exact hJ.xb x q
     · rw [hs]; omega
   · unfold Me.now
     rw [hn 1 (by omega)]
   · rw [nth_set _ _ _ (by omega),if_pos rfl,hs]
     have:=hJ.p1
     omega
 split
 · exact hJ.cells (fun _ _ _=>rfl) (fun _ _ _=>rfl) (Nat.le_refl _) hJ.xb rfl hJ.tb hJ.p1
 · exact hJ.cells (fun _ _ _=>rfl) (fun _ _ _=>rfl) (Nat.le_refl _) hJ.xb rfl hJ.tb hJ.p1
theorem RnOk.joined (hJ:J.Ok L l) (hp:J.pub=false) (he:e<J.n) (hjn:J.jn e=false) {c0:List Mq.Hp} {a:Mq.Hp} (hc:J.C e=c0++[a]) (h:RnOk J.wy L l old R k):
 ∃ k',k'≤k+(J.C (e+J.n)).length∧RnOk (J.linked e).wy {L with ss:=lnk L.ss a.1 (hdH (J.C (e+J.n)))} l old R k':=by
 unfold RnOk at h ⊢
 split
 · rename_i q
   rw [q] at h
   exact ⟨k,Nat.le_add_right _ _,h⟩
 · rename_i G q
   rw [q] at h
   exact Rok.joined hJ hp he hjn hc h
theorem RnOk.pubJ (hp:J.pub=false) (ho:∀ p,old' R.w p 0) (h:RnOk J.wy L l old R k):RnOk (Js.wy {J with pub:=true}) L l old' R k:=
 h.to rfl (Int.le_refl _) rfl rfl (Nat.le_refl _) (fun key c p hq=>by
  rcases hq with ⟨hq,_⟩ | ⟨_,hq⟩
  · exact .inl ⟨hq,.inr (ho p)⟩
  · rw [hp] at hq; simp at hq) (fun key q p hq=>by
  rcases hq with hq | ⟨hq,_⟩
  · exact .inl hq
  · rw [hp] at hq; simp at hq)
end
end Go.Proofs.YtpobbnllcoabhaaGreat.Zp
namespace Go.Proofs.YtpobbnllcoabhaaGreat.Gw
open Go Hm Ar Mm Wk Pc Me Mq Pu Pn Gt Qs Zp
def sel (p:Nat×Nat) (h:Nat):Nat:=if h=0 then p.1 else p.2
def put (p:Nat×Nat) (h x:Nat):Nat×Nat:=if h=0 then (x,p.2) else (p.1,x)
theorem sel_put (p:Nat×Nat) (h x i:Nat) (hh:h≤1) (hi:i≤1):sel (put p h x) i=if i=h then x else sel p i:=by
 unfold sel put
 have:h=0∨h=1:=by omega
 have:i=0∨i=1:=by omega
 rcases ‹h=0∨h=1› with rfl | rfl<;>rcases ‹i=0∨i=1› with rfl | rfl<;>simp
structure Ch where
 fi:Nat×Nat
 la:Nat×Nat
 half:Nat
 met:List Nat
 lk:List (Nat×Nat)
def Ch.new:Ch:=⟨(0,0),(0,0),0,[],[]⟩
def Ch.add (C:Ch) (x h:Nat):Ch:=
 ⟨if sel C.fi h=0 then put C.fi h x else C.fi,put C.la h x,h,x::C.met,if sel C.fi h=0 then C.lk else if h≠C.half then C.lk++[(sel C.la h,x)] else C.lk⟩
def Ch.over (C:Ch):List (Nat×Nat):=if sel C.la (1-C.half)≠0 then C.lk++[(sel C.la (1-C.half),0)] else C.lk
def hf (b:Bool):Nat:=if b=true then 1 else 0
theorem hf_le (b:Bool):hf b≤1:=by cases b<;>simp [hf]
theorem hf_not (b:Bool):1-hf b=hf (!b):=by cases b<;>rfl
theorem hf_inj {a b:Bool}:hf a=hf b↔a=b:=by cases a<;>cases b<;>simp [hf]
def chn (σ:ByteArray→Bool) (q:List Mq.Hp):Ch:=q.foldl (fun C a=>C.add a.1 (hf (σ a.2.1))) .new
theorem chn_snoc (σ:ByteArray→Bool) (q:List Mq.Hp) (a:Mq.Hp):chn σ (q++[a])=(chn σ q).add a.1 (hf (σ a.2.1)):=by
 unfold chn
 rw [List.foldl_append]
 rfl
inductive Lnk (σ:ByteArray→Bool):List Mq.Hp→List Mq.Hp→List (Nat×Nat)→Prop
 | nil {r:List Mq.Hp}:Lnk σ r [] []
 | cons {r0 d t:List Mq.Hp} {a:Mq.Hp} {s:Bool} {ls:List (Nat×Nat)}:d≠[]→(∀ b∈d,σ b.2.1= !s)→(∀ b t',t=b::t'→σ b.2.1=s)→Lnk σ d t ls→Lnk σ (r0++[a]) (d++t) ((a.1,hdH t)::ls)
structure Gone (σ:ByteArray→Bool) (p:List Mq.Hp) (C:Ch):Prop where
 fi:∀ b,sel C.fi (hf b)=hdH (p.filter fun e=>σ e.2.1==b)
 met:C.met=(hds p).reverse
theorem hdH_append (p q:List Mq.Hp):hdH (p++q)=if p=[] then hdH q else hdH p:=by
 cases p<;>simp [hdH]
theorem hdH_pos {p:List Mq.Hp} (hp:∀ e∈p,e.1≠0):hdH p=0↔p=[]:=by
 cases p with
 | nil=>simp [hdH]
 | cons e t=>simp [hdH,hp e (by simp)]
theorem gone_chn (σ:ByteArray→Bool):∀ (n:Nat) (p:List Mq.Hp),p.length=n→(∀ e∈p,e.1≠0)→Gone σ p (chn σ p):=by
 intro n
 induction n with
 | zero=>
   intro p hl _
   have:p=[]:=List.eq_nil_of_length_eq_zero hl
   subst this
   exact ⟨fun b=>by cases b<;>rfl,rfl⟩
 | succ n ih=>
   intro p hl hp
   obtain ⟨q,a,rfl⟩:∃ q a,p=q++[a]:=⟨p.dropLast,p.getLast (by rintro rfl; simp at hl),(List.dropLast_concat_getLast _).symm⟩
   have hq:=ih q (by simp at hl; omega) (fun e he=>hp e (by simp [he]))
   rw [chn_snoc]
   generalize chn σ q=C at*
   have ha:=hp a (by simp)
   refine ⟨fun b=>?_,?_⟩
   · have h1:=hq.fi b
     have h2:=hq.fi (σ a.2.1)
     have hz:=hdH_pos (p:=q.filter fun e=>σ e.2.1==b) (fun e he=>hp e (by have:=(List.mem_filter.1 he).1; simp [this]))
     have hz2:=hdH_pos (p:=q.filter fun e=>σ e.2.1==σ a.2.1) (fun e he=>hp e (by have:=(List.mem_filter.1 he).1; simp [this]))
     rw [List.filter_append,hdH_append]
     show sel (if sel C.fi (hf (σ a.2.1))=0 then put C.fi (hf (σ a.2.1)) a.1 else C.fi) (hf b)=_
     by_cases hb:b=σ a.2.1
     · subst hb
       by_cases h0:sel C.fi (hf (σ a.2.1))=0
       · rw [if_pos h0,sel_put _ _ _ _ (hf_le _) (hf_le _),if_pos rfl,if_pos (hz2.1 (by rw [← h2]; exact h0))]
         simp [hdH]
       · rw [if_neg h0,if_neg (fun e=>h0 (by rw [h2]; exact hz2.2 e))]
         exact h1
     · have e1:sel (if sel C.fi (hf (σ a.2.1))=0 then put C.fi (hf (σ a.2.1)) a.1 else C.fi) (hf b)=sel C.fi (hf b):=by
        split
        · rw [sel_put _ _ _ _ (hf_le _) (hf_le _),if_neg (fun e=>hb (hf_inj.1 e))]
        · rfl
       rw [e1,h1]
       have e2:[a].filter (fun e=>σ e.2.1==b)=[]:=by
        rw [List.filter_cons,if_neg (by simpa using fun e=>hb e.symm)]; rfl
       rw [e2]
       split
       · rename_i q; rw [q]
       · rfl
   · show a.1::C.met=_
     rw [hq.met]
     simp [hds]
def more (σ:ByteArray→Bool) (C:Ch) (q:List Mq.Hp) (l:List (Nat×Nat)):Prop:=(q.foldl (fun C a=>C.add a.1 (hf (σ a.2.1))) C).over=C.lk++l
theorem more_two (σ:ByteArray→Bool):∀ (q:List Mq.Hp) (C:Ch) (r0 d:List Mq.Hp) (a:Mq.Hp) (s:Bool),C.half=hf s→a.1≠0→sel C.la (hf (!s))=a.1→sel C.fi (hf s)≠0→sel C.fi (hf (!s))≠0→(∃ d0 z,d=d0++[z]∧sel C.la (hf s)=z.1∧z.1≠0)→
 (∀ b∈d,σ b.2.1=s)→(∀ e∈q,e.1≠0)→∃ l,more σ C q l∧Lnk σ (r0++[a]) (d++q) l:=by
 intro q
 induction q with
 | nil=>
   intro C r0 d a s hh ha hl hf1 hf2 hd hds' hq
   obtain ⟨d0,z,rfl,hz,hz0⟩:=hd
   refine ⟨[(a.1,0)],?_,?_⟩
   · show C.over=_
     unfold Ch.over
     rw [hh,hf_not,hl,if_pos ha]
   · have:=Lnk.cons (σ:=σ) (r0:=r0) (d:=d0++[z]) (t:=[]) (a:=a) (s:= !s) (ls:=[]) (by simp) (by simpa using hds') (by simp) .nil
     simpa [hdH] using this
 | cons e q ih=>
   intro C r0 d a s hh ha hl hf1 hf2 hd hds' hq
   obtain ⟨d0,z,hdz,hz,hz0⟩:=hd
   have he:=hq e (by simp)
   by_cases hs:σ e.2.1=s
   · have hadd:(C.add e.1 (hf (σ e.2.1)))=⟨C.fi,put C.la (hf s) e.1,hf s,e.1::C.met,C.lk⟩:=by
      unfold Ch.add
      rw [hs,if_neg hf1,if_neg hf1,if_neg (by rw [hh]; simp)]
     have h1:s≠ !s:=by cases s<;>simp
     obtain ⟨l,h2,h3⟩:=ih ⟨C.fi,put C.la (hf s) e.1,hf s,e.1::C.met,C.lk⟩ r0 (d++[e]) a s rfl ha
      (by rw [sel_put _ _ _ _ (hf_le _) (hf_le _),if_neg (fun q=>h1 (hf_inj.1 q).symm)]; exact hl) hf1 hf2 ⟨d,e,rfl,by rw [sel_put _ _ _ _ (hf_le _) (hf_le _),if_pos rfl],he⟩
      (fun b hb=>by
        rcases List.mem_append.1 hb with q | q
        · exact hds' b q
        · have:b=e:=by simpa using q
          rw [this]; exact hs) (fun b hb=>hq b (List.mem_cons_of_mem _ hb))
     refine ⟨l,?_,by simpa using h3⟩
     unfold more at h2 ⊢
     rw [List.foldl_cons,hadd]
     exact h2
   · have hs':σ e.2.1= !s:=by revert hs; cases σ e.2.1<;>cases s<;>simp
     have h1:s≠ !s:=by cases s<;>simp
     have hadd:(C.add e.1 (hf (σ e.2.1)))=⟨C.fi,put C.la (hf (!s)) e.1,hf (!s),e.1::C.met,C.lk++[(a.1,e.1)]⟩:=by
      unfold Ch.add
      rw [hs',if_neg hf2,if_neg hf2,if_pos (by rw [hh]; exact fun q=>h1 (hf_inj.1 q).symm),hl]
     obtain ⟨l,h2,h3⟩:=ih ⟨C.fi,put C.la (hf (!s)) e.1,hf (!s),e.1::C.met,C.lk++[(a.1,e.1)]⟩ d0 [e] z (!s) rfl hz0
      (by rw [Bool.not_not,sel_put _ _ _ _ (hf_le _) (hf_le _),if_neg (fun q=>h1 (hf_inj.1 q))]; exact hz) hf2 (by rw [Bool.not_not]; exact hf1) ⟨[],e,rfl,by rw [sel_put _ _ _ _ (hf_le _) (hf_le _),if_pos rfl],he⟩
      (fun b hb=>by have:b=e:=by simpa using hb
                    rw [this]; exact hs') (fun b hb=>hq b (List.mem_cons_of_mem _ hb))
     refine ⟨(a.1,e.1)::l,?_,?_⟩
     · unfold more at h2 ⊢
       rw [List.foldl_cons,hadd,h2]
       simp
     · rw [← hdz] at h3
       exact Lnk.cons (σ:=σ) (r0:=r0) (d:=d) (t:=e::q) (a:=a) (s:= !s) (by rw [hdz]; simp) (by rw [Bool.not_not]; exact hds') (fun b t' q=>by
        injection q with q1 _
        rw [← q1]; exact hs') h3
theorem more_one (σ:ByteArray→Bool):∀ (q:List Mq.Hp) (C:Ch) (r0:List Mq.Hp) (z:Mq.Hp) (s:Bool),C.half=hf s→sel C.la (hf (!s))=0→sel C.fi (hf s)≠0→sel C.fi (hf (!s))=0→sel C.la (hf s)=z.1→z.1≠0→
 (∀ b∈r0++[z],σ b.2.1=s)→(∀ e∈q,e.1≠0)→∀ r rest,(r0++[z])++q=r++rest→(∀ b∈r,σ b.2.1=s)→(∀ b t',rest=b::t'→σ b.2.1= !s)→∃ l,more σ C q l∧Lnk σ r rest l:=by
 intro q
 induction q with
 | nil=>
   intro C r0 z s hh hl hf1 hf2 hz hz0 hr hq r rest he hr1 hr2
   have:rest=[]:=by
    cases rest with
    | nil=>rfl
    | cons b t=>
      exfalso
      have h1:=hr2 b t rfl
      have h2:=hr b (by rw [List.append_nil] at he; rw [he]; simp)
      rw [h2] at h1
      revert h1
      cases s<;>simp
   subst this
   refine ⟨[],?_,.nil⟩
   show C.over=_
   unfold Ch.over
   rw [hh,hf_not,hl,if_neg (by simp),List.append_nil]
 | cons e q ih=>
   intro C r0 z s hh hl hf1 hf2 hz hz0 hr hq r rest hx hr1 hr2
   have he:=hq e (by simp)
   have h1:s≠ !s:=by cases s<;>simp
   by_cases hs:σ e.2.1=s
   · have hadd:(C.add e.1 (hf (σ e.2.1)))=⟨C.fi,put C.la (hf s) e.1,hf s,e.1::C.met,C.lk⟩:=by
      unfold Ch.add
      rw [hs,if_neg hf1,if_neg hf1,if_neg (by rw [hh]; simp)]
     obtain ⟨l,h2,h3⟩:=ih ⟨C.fi,put C.la (hf s) e.1,hf s,e.1::C.met,C.lk⟩ (r0++[z]) e s rfl
      (by rw [sel_put _ _ _ _ (hf_le _) (hf_le _),if_neg (fun q=>h1 (hf_inj.1 q).symm)]; exact hl) hf1 hf2 (by rw [sel_put _ _ _ _ (hf_le _) (hf_le _),if_pos rfl]) he
      (fun b hb=>by
        rcases List.mem_append.1 hb with q | q
        · exact hr b q
        · have:b=e:=by simpa using q
          rw [this]; exact hs) (fun b hb=>hq b (List.mem_cons_of_mem _ hb)) r rest (by simpa using hx) hr1 hr2
     refine ⟨l,?_,h3⟩
     unfold more at h2 ⊢
     rw [List.foldl_cons,hadd]
     exact h2
   · have hs':σ e.2.1= !s:=by revert hs; cases σ e.2.1<;>cases s<;>simp
     have hrr:r=r0++[z]∧rest=e::q:=by
      rcases List.append_eq_append_iff.1 hx with ⟨c,p1,p2⟩ | ⟨c,p1,p2⟩
      · cases c with
        | nil=>exact ⟨by simpa using p1,by simpa using p2.symm⟩
        | cons b c=>
          exfalso
          injection p2 with p2 _
          have:=hr1 b (by rw [p1]; simp)
          rw [← p2,hs'] at this
          exact h1 this.symm
      · cases c with
        | nil=>exact ⟨by simpa using p1.symm,by simpa using p2⟩
        | cons b c=>
          exfalso
          have h2:=hr2 b (c++e::q) (by rw [p2]; simp)
          have h3:=hr b (by rw [p1]; simp)
          rw [h3] at h2
          exact h1 h2
     obtain ⟨rfl,rfl⟩:=hrr
     have hadd:(C.add e.1 (hf (σ e.2.1)))=⟨put C.fi (hf (!s)) e.1,put C.la (hf (!s)) e.1,hf (!s),e.1::C.met,C.lk⟩:=by
      unfold Ch.add
      rw [hs',if_pos hf2,if_pos hf2]
     obtain ⟨l,h2,h3⟩:=more_two σ q ⟨put C.fi (hf (!s)) e.1,put C.la (hf (!s)) e.1,hf (!s),e.1::C.met,C.lk⟩ r0 [e] z (!s) rfl hz0
      (by rw [Bool.not_not,sel_put _ _ _ _ (hf_le _) (hf_le _),if_neg (fun q=>h1 (hf_inj.1 q))]; exact hz) (by rw [sel_put _ _ _ _ (hf_le _) (hf_le _),if_pos rfl]; exact he)
      (by rw [Bool.not_not,sel_put _ _ _ _ (hf_le _) (hf_le _),if_neg (fun q=>h1 (hf_inj.1 q))]; exact hf1) ⟨[],e,rfl,by rw [sel_put _ _ _ _ (hf_le _) (hf_le _),if_pos rfl],he⟩
      (fun b hb=>by have:b=e:=by simpa using hb
                    rw [this]; exact hs') (fun b hb=>hq b (List.mem_cons_of_mem _ hb))
     refine ⟨l,?_,h3⟩
     unfold more at h2 ⊢
     rw [List.foldl_cons,hadd]
     exact h2
theorem lnk_whole (σ:ByteArray→Bool) {ss:List Sl} {All:List Mq.Hp} {s:Bool} {x y:Nat} {r rest:List Mq.Hp} (h:Zip ss σ All s x y [] r [] rest) (hA:All=r++rest) (h0:∀ e∈All,e.1≠0):Lnk σ r rest (chn σ All).over:=by
 cases hq:All with
 | nil=>
   have h1:=hA
   rw [hq] at h1
   have h2:=List.append_eq_nil_iff.1 h1.symm
   rw [h2.1,h2.2]
   exact .nil
 | cons e t=>
   have hrne:r≠[]:=by
    intro e0
    have h1:rest=[]:=by
     cases rest with
     | nil=>rfl
     | cons b t'=>exact absurd e0 (h.ne (by simp))
    rw [e0,h1,hq] at hA
    simp at hA
   obtain ⟨b,r',rfl⟩:∃ b r',r=b::r':=by
    cases r with
    | nil=>exact absurd rfl hrne
    | cons b r'=>exact ⟨b,r',rfl⟩
   rw [hq,List.cons_append] at hA
   injection hA with hb ht
   subst hb
   have hs:σ e.2.1=s:=h.su e (by simp)
   have he:e.1≠0:=h0 e (by rw [hq]; simp)
   obtain ⟨l,h2,h3⟩:=more_one σ t ⟨put (0,0) (hf s) e.1,put (0,0) (hf s) e.1,hf s,[e.1],[]⟩ [] e s rfl
    (by rw [sel_put _ _ _ _ (hf_le _) (hf_le _),if_neg (fun q=>by have:=hf_inj.1 q; revert this; cases s<;>simp)]; unfold sel; split<;>rfl)
    (by rw [sel_put _ _ _ _ (hf_le _) (hf_le _),if_pos rfl]; exact he)
    (by rw [sel_put _ _ _ _ (hf_le _) (hf_le _),if_neg (fun q=>by have:=hf_inj.1 q; revert this; cases s<;>simp)]; unfold sel; split<;>rfl)
    (by rw [sel_put _ _ _ _ (hf_le _) (hf_le _),if_pos rfl]) he (by simpa using hs) (fun b hb=>h0 b (by rw [hq]; exact List.mem_cons_of_mem _ hb)) (e::r') rest (by simpa using ht) (by simpa using h.su) h.hd
   unfold more at h2
   have e1:(chn σ (e::t)).over=(t.foldl (fun (C:Ch) (a:Mq.Hp)=>C.add a.1 (hf (σ a.2.1))) ⟨put (0,0) (hf s) e.1,put (0,0) (hf s) e.1,hf s,[e.1],[]⟩).over:=by
    unfold chn
    rw [List.foldl_cons,hs]
    have:Ch.new.add e.1 (hf s)=⟨put (0,0) (hf s) e.1,put (0,0) (hf s) e.1,hf s,[e.1],[]⟩:=by
     have hz:sel Ch.new.fi (hf s)=0:=by unfold sel Ch.new; split<;>rfl
     unfold Ch.add
     rw [if_pos hz,if_pos hz]
     rfl
    rw [this]
   rw [e1,h2]
   simpa using h3
theorem Lnk.le {σ:ByteArray→Bool} {r rest:List Mq.Hp} {l:List (Nat×Nat)} (h:Lnk σ r rest l):l.length≤rest.length:=by
 induction h with
 | nil=>simp
 | @cons r0 d t a s ls h1 _ _ _ ih=>
   have:1≤d.length:=List.length_pos_iff.2 h1
   simp only [List.length_cons,List.length_append]
   omega
theorem Lnk.none {σ:ByteArray→Bool} {r rest:List Mq.Hp} (h:Lnk σ r rest []):rest=[]:=by cases h; rfl
end Go.Proofs.YtpobbnllcoabhaaGreat.Gw
namespace Go.Proofs.YtpobbnllcoabhaaGreat.Gw
open Go Go.RowKit Hp K Fl Rw Hm Ar Mm Me Qs Wk Pn
set_option maxRecDepth 100000
/-! ### a map of handles to halves-/
abbrev DHg:=DataW Unit
abbrev GKey (x:Nat):Lit:=.int .u64 x
abbrev GVal (v:Int):DHg:=.lit (.int .i64 v)
def Mth (w:World) (B:Nat) (ms:List Nat):Prop:=∃ (n:Nat) (D:DHg),w.ownsMap Tryz.prog 73 (plainElem Tryz.prog 3) B n D∧n≤ms.length∧∀ x,x≤18446744073709551615→Maps.has D (GKey x)=decide (x∈ms)
theorem gkeyed:Maps.Keyed Tryz.prog 73:=Maps.int_keyed Tryz.underlying73
theorem zeroI (w:World):(zeroValue 3).run Tryz.prog w=.ok (.int .i64 0) w:=by kernel_rfl
theorem glit_u64 {x:Nat} (hx:x≤18446744073709551615):(Lit.int .u64 (x:Int)).wf=true:=by
 simp [Lit.wf,IntKind.min,IntKind.max,IntKind.signed,IntKind.bits]; omega
theorem glit_i64 {x:Nat} (hx:x≤1):(Lit.int .i64 (x:Int)).wf=true:=by
 simp [Lit.wf,IntKind.min,IntKind.max,IntKind.signed,IntKind.bits]; omega
theorem gkey {x:Nat} (hx:x≤18446744073709551615):keyOf Tryz.prog 73 (.int .u64 x)=some (GKey x):=Maps.keyOf_int_mk Tryz.underlying73 (glit_u64 hx)
theorem gkey_lit {x:Nat} (hx:x≤18446744073709551615):WideAt.IsKeyLit (GKey x):=gkeyed.key (gkey hx)
section
variable {w w':World} {B:Nat} {ms:List Nat}
theorem Mth.made (w:World):Mth (w.alloc (.map #[] 0)) w.heap.size []:=⟨0,.map [],World.ownsMap_made _ _ _ _,Nat.le_refl _,fun x _=>by simp [Maps.has_eq]⟩
theorem Mth.lt (h:Mth w B ms):B<w.heap.size:=by obtain ⟨n,D,hm,r⟩:=h; exact hm.lt
theorem Mth.only {S:Nat→Prop} (h:Mth w B ms) (ho:Only S w w') (hn:¬S B):Mth w' B ms:=by
 obtain ⟨n,D,hm,r⟩:=h
 have hlt:=hm.lt
 obtain ⟨es,clock,hb,F,hs,hD⟩:=hm
 exact ⟨n,D,⟨es,clock,(ho.block B hlt hn).trans hb,F,hs,hD⟩,r⟩
theorem Mth.no (h:Mth w B ms) {ts:List TypeId} (ht:Ty w B ts):False:=by
 obtain ⟨n,D,hm,r⟩:=h
 obtain ⟨es,clock,hb,_⟩:=hm
 obtain ⟨t,cs,hb',_⟩:=ht
 have e:=hb.symm.trans hb'
 injection e with e
 injection e
theorem Mth.look (h:Mth w B ms) {x:Nat} (hx:x≤18446744073709551615):∃ c:Int,(Instr.lookup 229 (.map (some B)) (.int .u64 x) true).run Tryz.prog w=.ok (.tuple #[.int .i64 c,.bool (decide (x∈ms))]) w:=by
 obtain ⟨n,D,hm,_,hat⟩:=h
 obtain ⟨v,ps,hrun,hv⟩:=hm.look_ok gkeyed Tryz.underlying229 (zeroI w) (plainElem_int Tryz.underlying3 (by decide)) (gkey hx)
 obtain ⟨c,rfl,_,_⟩:=plainElem_int_inv Tryz.underlying3 hv
 exact ⟨c,by rw [hrun,hat x hx]⟩
theorem wpList_mth {ops:Array Oper} {rest:List Oper} {o:Oper} {a:Act} {Q:Exit→Act→World→Prop} (hgd:o.guard=none) (m x v:Operand)
 (hop:o.op=Op.mapUpdate 229 m x v) (h:Mth w B ms) (hl:ms.length≤1000000) (y:Nat) (hy:y≤18446744073709551615) (z:Nat) (hz:z≤1)
 (hm:a.eval m=.map (some B)) (hx:a.eval x=.int .u64 y) (hv:a.eval v=.int .i64 z)
 (hK:∀ w',Mth w' B (y::ms)→Only (·=B) w w'→wpList Tryz.prog ops Q rest (a.put o.dst undef) w'):wpList Tryz.prog ops Q (o::rest) a w:=by
 obtain ⟨n,D,hM,hn,hat⟩:=h
 refine wpList_mapUpdate_own w hgd m x v 229 hop 73 3 gkeyed Tryz.underlying229 _ B n D hm hM (by unfold maxLen; omega) _ _ _ hx hv (gkey hy) (GVal z) [] (plainElem_int Tryz.underlying3 (glit_i64 hz)) ?_
 intro w' hM' hg
 refine hK w' ⟨n+1,_,hM',by simp; omega,fun u hu=>?_⟩ ((Only.refl (·=B) w).grown hg (fun z hz=>.inl (by injection hz with hz; exact hz.symm)))
 by_cases e:u=y
 · subst e
   rw [Maps.has_put_same hM.isMap (gkey_lit hu)]
   simp
 · have hne:GKey u≠GKey y:=fun h=>by
    injection h with _ h
    exact e (by omega)
   rw [Maps.has_put_other hne,hat u hu]
   simp [e]
end
/-! ### rows of links,rows of such rows-/
structure El where
 A:Option Addr
 n:Nat
 cap:Nat
def elv (x:El):List Value:=[.slice x.A x.n x.cap]
theorem elv_len (x:El):(elv x).length=1:=rfl
def lkv (p:Nat×Nat):List Value:=[.int .u64 p.1,.int .u64 p.2]
theorem lkv_len (p:Nat×Nat):(lkv p).length=2:=rfl
def nlk (l:List (Nat×Nat)) (i:Nat):Nat×Nat:=l.getD i (0,0)
def nel (l:List El) (i:Nat):El:=l.getD i ⟨none,0,0⟩
structure LkAt (w:World) (x:El) (l:List (Nat×Nat)):Prop where
 n:x.n=l.length
 ne:l≠[]
 cap:x.n≤x.cap∧x.cap≤maxLen
 at_:∃ b o cs,x.A=some ⟨b,o,none⟩∧Blk w b 249 cs∧∀ i,i<l.length→cs[o+i*2]?=some (.int .u64 (nlk l i).1)∧cs[o+i*2+1]?=some (.int .u64 (nlk l i).2)
def PlAt (w:World) (A:Option Addr) (l:List El):Prop:=l=[]∨∃ b o cs,A=some ⟨b,o,none⟩∧Blk w b 231 cs∧∀ i,i<l.length→cs[o+i]?=some (.slice (nel l i).A (nel l i).n (nel l i).cap)
abbrev PsRow (w:World) (A:Option Addr) (cap:Nat) (l:List El):Prop:=Row w 231 1 elv A cap l
abbrev LkRow (w:World) (A:Option Addr) (cap:Nat) (l:List (Nat×Nat)):Prop:=Row w 249 2 lkv A cap l
section
variable {w w':World} {x:El} {l:List (Nat×Nat)} {A:Option Addr} {cap:Nat} {es:List El}
theorem LkAt.only {S:Nat→Prop} (h:LkAt w x l) (ho:Only S w w') (hn:∀ b,In x.A b→¬S b):LkAt w' x l:=by
 obtain ⟨h1,h2,h3,b,o,cs,h4,h5,h6⟩:=h
 exact ⟨h1,h2,h3,b,o,cs,h4,h5.only ho (hn b (by rw [h4]; rfl)),h6⟩
theorem LkAt.ty (h:LkAt w x l) {b:Nat} (hb:In x.A b):Ty w b [249]:=by
 obtain ⟨h1,h2,h3,b',o,cs,h4,h5,h6⟩:=h
 rw [h4] at hb
 have:b'=b:=by simpa [In] using hb
 subst this
 exact ⟨_,cs,h5,by simp⟩
theorem PlAt.only {S:Nat→Prop} (h:PlAt w A es) (ho:Only S w w') (hn:∀ b,In A b→¬S b):PlAt w' A es:=by
 rcases h with h | ⟨b,o,cs,h1,h2,h3⟩
 · exact .inl h
 · exact .inr ⟨b,o,cs,h1,h2.only ho (hn b (by rw [h1]; rfl)),h3⟩
theorem PsRow.pl (h:PsRow w A cap es):PlAt w A es:=by
 by_cases h0:es=[]
 · exact .inl h0
 · obtain ⟨b,e,hb,hc⟩:=h.cells elv_len 0 (List.length_pos_iff.2 h0)
   obtain ⟨cs,hB⟩:=row_blk h (x:=b) (by rw [e]; rfl)
   refine .inr ⟨b,0,cs,e,hB,fun i hi=>?_⟩
   obtain ⟨b',e',_,hc'⟩:=h.cells elv_len i hi
   have:b'=b:=by rw [e] at e'; simpa using e'.symm
   subst this
   have:=(hc' 0 (by omega)).1
   rw [hB.cell] at this
   rw [Nat.zero_add,show i=i*1+0 by omega,this]
   simp [elv,nel,List.getD,hi]
theorem LkRow.at (h:LkRow w A cap l) (hl:l≠[]):LkAt w ⟨A,l.length,cap⟩ l:=by
 obtain ⟨b,e,hb,hc⟩:=h.cells lkv_len 0 (List.length_pos_iff.2 hl)
 obtain ⟨cs,hB⟩:=row_blk h (x:=b) (by rw [e]; rfl)
 refine ⟨rfl,hl,h.capLe,b,0,cs,e,hB,fun i hi=>?_⟩
 obtain ⟨b',e',_,hc'⟩:=h.cells lkv_len i hi
 have:b'=b:=by rw [e] at e'; simpa using e'.symm
 subst this
 have h0:=(hc' 0 (by omega)).1
 have h1:=(hc' 1 (by omega)).1
 rw [hB.cell] at h0 h1
 rw [Nat.zero_add]
 exact ⟨h0.trans (by simp [lkv,nlk,List.getD,hi]),h1.trans (by simp [lkv,nlk,List.getD,hi])⟩
end
inductive Each (w:World):List El→List (List (Nat×Nat))→Prop
 | nil:Each w [] []
 | cons {x:El} {l:List (Nat×Nat)} {es:List El} {ls:List (List (Nat×Nat))}:LkAt w x l→Each w es ls→Each w (x::es) (l::ls)
section
variable {w w':World} {es:List El} {ls:List (List (Nat×Nat))}
theorem Each.len (h:Each w es ls):es.length=ls.length:=by
 induction h with
 | nil=>rfl
 | cons _ _ ih=>simp [ih]
theorem Each.only {S:Nat→Prop} (h:Each w es ls) (ho:Only S w w') (hn:∀ e∈es,∀ b,In e.A b→¬S b):Each w' es ls:=by
 induction h with
 | nil=>exact .nil
 | cons a _ ih=>exact .cons (a.only ho (hn _ (by simp))) (ih fun e he=>hn e (List.mem_cons_of_mem _ he))
theorem Each.ty (h:Each w es ls):∀ e∈es,∀ b,In e.A b→Ty w b [249]:=by
 induction h with
 | nil=>simp
 | cons a _ ih=>
   intro e he b hb
   rcases List.mem_cons.1 he with rfl | he
   · exact a.ty hb
   · exact ih e he b hb
theorem Each.snoc (h:Each w es ls) {x:El} {l:List (Nat×Nat)} (hx:LkAt w x l):Each w (es++[x]) (ls++[l]):=by
 induction h with
 | nil=>exact .cons hx .nil
 | cons a _ ih=>exact .cons a ih
end
/-! ### a grow-/
structure Gr where
 worker:Int
 nx:Nat
 err:Int
 el:Nat×Nat
 nw:Nat×Nat
 num:Int
 bucket:Nat
 C:Ch
 at_:Nat
 half:Nat
 W:Wt
 pass:List (List (Nat×Nat))
 later:List (List (Nat×Nat))
structure Gl where
 f:Nat
 cv:Value
 wv:Value
 c:Nat
 B:Nat
 LA:Option Addr
 lcap:Nat
 w:Nat
 PA:Option Addr
 pcap:Nat
 ps:List El
 QA:Option Addr
 qcap:Nat
 qs:List El
def grv (a:Gl) (nx:Nat):Value:=if nx=7 then wfm 214 (ptr a.w) else wf0 118
def gnv (f nx:Nat):Value:=if nx=1 then wfm 92 (ptr f) else if nx=2 then wfm 119 (ptr f) else if nx=3 then wfm 150 (ptr f)
 else if nx=4 then wfm 189 (ptr f) else if nx=5 then wfm 209 (ptr f) else if nx=6 then wfm 210 (ptr f)
 else if nx=7 then wfm 216 (ptr f) else if nx=8 then wfm 221 (ptr f) else wf0 171
def grc (a:Gl) (G:Gr):Array Value:=#[.int .i64 G.worker,grv a G.nx,gnv a.f G.nx,.int .i64 G.err,.int .i64 G.el.1,.int .i64 G.el.2,.int .i64 G.nw.1,.int .i64 G.nw.2,.int .i64 G.num,.int .i64 G.bucket,a.cv,.int .u64 G.at_,.int .i64 G.half,a.wv,
 .slice a.PA a.ps.length a.pcap,.slice a.QA a.qs.length a.qcap]
def chc (a:Gl) (C:Ch):Array Value:=#[.int .u64 C.fi.1,.int .u64 C.fi.2,.int .u64 C.la.1,.int .u64 C.la.2,.int .i64 C.half,.map (some a.B),.slice a.LA C.lk.length a.lcap]
abbrev Own (w:World) (a:Gl) (G:Gr):Prop:=Blk w a.f 175 (grc a G)
def Fst (w:World) (c:Nat) (fi:Nat×Nat):Prop:=∃ cs,Blk w c 233 cs∧cs[0]?=some (.int .u64 fi.1)∧cs[1]?=some (.int .u64 fi.2)
structure Mid (w:World) (a:Gl) (C:Ch):Prop where
 cv:a.cv=ptr a.c
 cb:Blk w a.c 233 (chc a C)
 mt:Mth w a.B C.met
 lr:LkRow w a.LA a.lcap C.lk
 ap:∀ x∈a.ps,∀ b,In a.LA b→¬In x.A b
structure Rws (w:World) (a:Gl) (p q:List (List (Nat×Nat))) (grows:Bool):Prop where
 ps:Each w a.ps p
 qs:Each w a.qs q
 pr:grows=true→PsRow w a.PA a.pcap a.ps
 pl:PlAt w a.PA a.ps
 pc:a.ps.length≤a.pcap∧a.pcap≤maxLen
 qr:PsRow w a.QA a.qcap a.qs
 pq:∀ b,In a.PA b→(a.ps≠[]∨grows=true)→¬In a.QA b
structure GrAt (w:World) (a:Gl) (G:Gr):Prop where
 blk:Own w a G
 c4:G.nx=4→Mid w a G.C
 c5:G.nx=5→a.cv=ptr a.c∧Fst w a.c G.C.fi
 wt:G.nx=7→a.wv=ptr a.w∧WtAt w a.w G.W
 rw_:Rws w a G.pass G.later (decide (G.nx≤6))
def rfoot (a:Gl) (g:Bool) (x:Nat):Prop:=((a.ps≠[]∨g=true)∧In a.PA x)∨In a.QA x∨(∃ e∈a.ps,In e.A x)∨∃ e∈a.qs,In e.A x
def gfoot (a:Gl) (G:Gr) (x:Nat):Prop:=x=a.f∨((G.nx=4∨G.nx=5)∧x=a.c)∨(G.nx=4∧(x=a.B∨In a.LA x))∨(G.nx=7∧x=a.w)∨rfoot a (decide (G.nx≤6)) x
abbrev grL:Lay Gl Gr:=⟨Gl.f,GrAt,gfoot⟩
section
variable {w w':World} {M:Mo} {a:Gl} {G:Gr} {p q:List (List (Nat×Nat))} {g:Bool} {C:Ch}
abbrev growTypes:List TypeId:=[175,233,249,231,153]
theorem Rws.ty (h:Rws w a p q g) {x:Nat} (hx:rfoot a g x):Ty w x [249,231]:=by
 rcases hx with ⟨hg,hx⟩ | hx | ⟨e,he,hx⟩ | ⟨e,he,hx⟩
 · rcases hg with hg | hg
   · rcases h.pl with h1 | ⟨b,o,cs,h1,h2,_⟩
     · exact absurd h1 hg
     · rw [h1] at hx
       have:b=x:=by simpa [In] using hx
       subst this
       exact ⟨_,cs,h2,by simp⟩
   · exact (row_ty (h.pr hg) hx).mono (by simp)
 · exact (row_ty h.qr hx).mono (by simp)
 · exact (h.ps.ty e he x hx).mono (by simp)
 · exact (h.qs.ty e he x hx).mono (by simp)
theorem Rws.only {S:Nat→Prop} (h:Rws w a p q g) (ho:Only S w w') (hn:∀ x,rfoot a g x→¬S x):Rws w' a p q g where
 ps:=h.ps.only ho fun e he b hb=>hn b (.inr (.inr (.inl ⟨e,he,hb⟩)))
 qs:=h.qs.only ho fun e he b hb=>hn b (.inr (.inr (.inr ⟨e,he,hb⟩)))
 pr hg:=(h.pr hg).only ho fun b hb=>hn b (.inl ⟨.inr hg,hb⟩)
 pl:=by
  by_cases h0:a.ps=[]
  · exact .inl h0
  · exact h.pl.only ho fun b hb=>hn b (.inl ⟨.inl h0,hb⟩)
 pc:=h.pc
 qr:=h.qr.only ho fun b hb=>hn b (.inr (.inl hb))
 pq:=h.pq
theorem Mid.only {S:Nat→Prop} (h:Mid w a C) (ho:Only S w w') (h1:¬S a.c) (h2:¬S a.B) (h3:∀ b,In a.LA b→¬S b):Mid w' a C:=
 ⟨h.cv,h.cb.only ho h1,h.mt.only ho h2,h.lr.only ho h3,h.ap⟩
theorem GrAt.ty (h:GrAt w a G) {x:Nat} (hx:gfoot a G x):Ty w x growTypes∨∃ ms,Mth w x ms:=by
 rcases hx with rfl | ⟨hn,rfl⟩ | ⟨hn,hx⟩ | ⟨hn,rfl⟩ | hx
 · exact .inl ((blk_ty h.blk).mono (by simp))
 · rcases hn with hn | hn
   · exact .inl ((blk_ty (h.c4 hn).cb).mono (by simp))
   · obtain ⟨cs,hb,_⟩:=(h.c5 hn).2
     exact .inl ((blk_ty hb).mono (by simp))
 · rcases hx with rfl | hx
   · exact .inr ⟨_,(h.c4 hn).mt⟩
   · exact .inl ((row_ty (h.c4 hn).lr hx).mono (by simp))
 · exact .inl ((blk_ty (h.wt hn).2).mono (by simp))
 · exact .inl ((h.rw_.ty hx).mono (by simp))
theorem GrAt.lt (h:GrAt w a G) {x:Nat} (hx:gfoot a G x):x<w.heap.size:=by
 rcases h.ty hx with q | ⟨ms,q⟩
 · exact q.lt
 · exact q.lt
theorem GrAt.far (h:GrAt w a G) (hM:MemAt w M) {x:Nat} (hx:gfoot a G x):¬mfoot M x:=fun hm=>by
 rcases h.ty hx with q | ⟨ms,q⟩
 · exact (hM.ty hm).apart q (by decide)
 · exact q.no (hM.ty hm)
theorem GrAt.only {S:Nat→Prop} (h:GrAt w a G) (ho:Only S w w') (hn:∀ x,gfoot a G x→¬S x):GrAt w' a G where
 blk:=h.blk.only ho (hn _ (.inl rfl))
 c4 q:=(h.c4 q).only ho (hn _ (.inr (.inl ⟨.inl q,rfl⟩))) (hn _ (.inr (.inr (.inl ⟨q,.inl rfl⟩)))) (fun b hb=>hn _ (.inr (.inr (.inl ⟨q,.inr hb⟩))))
 c5 q:=by
  obtain ⟨h1,cs,h2,h3⟩:=h.c5 q
  exact ⟨h1,cs,h2.only ho (hn _ (.inr (.inl ⟨.inr q,rfl⟩))),h3⟩
 wt q:=⟨(h.wt q).1,(h.wt q).2.only ho (hn _ (.inr (.inr (.inr (.inl ⟨q,rfl⟩)))))⟩
 rw_:=h.rw_.only ho fun x hx=>hn x (.inr (.inr (.inr (.inr hx))))
theorem GrAt.below (h:GrAt w a G) (hb:Below w.heap.size w w'):GrAt w' a G:=h.only (Only.ofBelow hb (fun _=>False)) (by simp)
theorem own_hd (h:Own w a G):w.cell? ⟨a.f,0,none⟩=some (.int .i64 G.worker)∧w.cell? ⟨a.f,1,none⟩=some (grv a G.nx)∧w.cell? ⟨a.f,2,none⟩=some (gnv a.f G.nx)∧w.cell? ⟨a.f,3,none⟩=some (.int .i64 G.err)∧
 w.cell? ⟨a.f,4,none⟩=some (.int .i64 G.el.1)∧w.cell? ⟨a.f,5,none⟩=some (.int .i64 G.el.2)∧w.cell? ⟨a.f,6,none⟩=some (.int .i64 G.nw.1)∧w.cell? ⟨a.f,7,none⟩=some (.int .i64 G.nw.2)∧
 w.cell? ⟨a.f,8,none⟩=some (.int .i64 G.num)∧w.cell? ⟨a.f,9,none⟩=some (.int .i64 G.bucket)∧w.cell? ⟨a.f,10,none⟩=some a.cv∧w.cell? ⟨a.f,11,none⟩=some (.int .u64 G.at_)∧
 w.cell? ⟨a.f,12,none⟩=some (.int .i64 G.half)∧w.cell? ⟨a.f,13,none⟩=some a.wv∧w.cell? ⟨a.f,14,none⟩=some (.slice a.PA a.ps.length a.pcap)∧w.cell? ⟨a.f,15,none⟩=some (.slice a.QA a.qs.length a.qcap):=
 ⟨h.cell 0,h.cell 1,h.cell 2,h.cell 3,h.cell 4,h.cell 5,h.cell 6,h.cell 7,h.cell 8,h.cell 9,h.cell 10,h.cell 11,h.cell 12,h.cell 13,h.cell 14,h.cell 15⟩
theorem Rws.self (h:Rws w a p q g) (hf:Own w a G):∀ x,rfoot a g x→x≠a.f:=by
 rintro x hx rfl
 exact (h.ty hx).apart (blk_ty hf) (by decide)
theorem Rws.chain (h:Rws w a p q g) {c:Nat} {cs:Array Value} (hc:Blk w c 233 cs):∀ x,rfoot a g x→x≠c:=by
 rintro x hx rfl
 exact (h.ty hx).apart (blk_ty hc) (by decide)
end
theorem info_link:(Tryz.prog.info? 249).map (fun i=>(i.zero,i.size,i.bytes))=some (some (.agg #[.int .u64 0,.int .u64 0]),2,16):=by kernel_rfl
theorem info_row:(Tryz.prog.info? 231).map (fun i=>(i.zero,i.size,i.bytes))=some (some (.slice none 0 0),1,24):=by kernel_rfl
/-! ### its steps as plain data-/
def half1 (h:Nat) (fi:Nat×Nat):Nat:=if h=0∧fi.1=0 then 1 else h
def half2 (h:Nat) (fi:Nat×Nat):Nat:=if half1 h fi=1∧fi.2=0 then 2 else half1 h fi
def toStore (G:Gr):Gr:=
 if half2 G.half G.C.fi<2 then {G with half:=half2 G.half G.C.fi,nx:=5} else {G with half:=half2 G.half G.C.fi,bucket:=G.bucket+1,nx:=if G.bucket+1=G.el.1 then 6 else 3}
def endChain (G:Gr):Gr:=toStore {G with pass:=if G.C.over=[] then G.pass else G.pass++[G.C.over],half:=0}
def comeTo (G:Gr) (x:Nat):Gr:=if x=0 then endChain G else {G with at_:=x,nx:=4}
def waitNew (G:Gr):Gr:={G with W:=⟨G.worker,0,0,0⟩,nx:=7}
def hfs (G:Gr) (s:Int):Nat:=(FM.bucket s G.nw.1 / G.el.1).toNat
def gstep (L:Lm) (G:Gr):Lm×Gr:=
 if G.nx=1 then (L,{G with el:=now L.xs L.ds,nx:=2})
 else if G.nx=2 then
  (if FM.power ((2*G.el.1:Nat):Int)=true∧L.xs.length+2*G.el.1≤1048576 then
    ({L with xs:=L.xs++List.replicate (2*G.el.1) 0,ds:=L.ds++[(2*G.el.1,L.xs.length)]},{G with num:=L.ds.length,err:=0,nw:=(2*G.el.1,L.xs.length),nx:=3})
  else (L,{G with num:= -1,err:=if FM.power ((2*G.el.1:Nat):Int)=true then 2 else 5,nx:=9}))
 else if G.nx=3 then (L,comeTo {G with C:=.new} (Cl.nth L.xs (G.el.2+G.bucket)).toNat)
 else if G.nx=4 then
  (L,comeTo {G with C:=G.C.add G.at_ (hfs G (at' L.ss ((G.at_-1) % 65536)).nd.sum)} (at' L.ss ((G.at_-1) % 65536)).nd.next.toNat)
 else if G.nx=5 then ({L with xs:=L.xs.set (G.nw.2+(G.bucket+G.half*G.el.1)) ((sel G.C.fi G.half:Nat):Int)},toStore {G with half:=G.half+1})
 else if G.nx=6 then ({L with xs:=L.xs.set 1 G.num},waitNew G)
 else if G.nx=7 then ({L with xs:=(wstep L.k.toNat L.xs L.hs G.W).1,hs:=(wstep L.k.toNat L.xs L.hs G.W).2.1},
  {G with W:=(wstep L.k.toNat L.xs L.hs G.W).2.2,nx:=if G.W.at_=3 then (if G.pass=[] then 9 else 8) else 7})
 else match G.pass with
  | []=>(L,G)
  | l::t=>
    ({L with ss:=Pu.lnk L.ss (nlk l 0).1 (nlk l 0).2},
      if t=[] then waitNew {G with pass:=if 1<l.length then G.later++[l.drop 1] else G.later,later:=[]} else {G with pass:=t,later:=if 1<l.length then G.later++[l.drop 1] else G.later})
def gready (L:Lm) (G:Gr):Bool:=if G.nx=7 then readyB L.xs L.hs G.W else true
def gdone (L:Lm) (G:Gr):Bool:=
 if G.nx=2 then !decide (FM.power ((2*G.el.1:Nat):Int)=true∧L.xs.length+2*G.el.1≤1048576) else if G.nx=7 then decide (G.W.at_=3∧G.pass=[]) else decide (9≤G.nx)
end Go.Proofs.YtpobbnllcoabhaaGreat.Gw
namespace Go.Proofs.YtpobbnllcoabhaaGreat.Gw
open Go Go.RowKit Hp K Fl Rw Hm Ar Mm Me Qs Wk Pn
set_option maxRecDepth 100000
section
variable {w w':World} {a:Gl} {C:Ch}
theorem chain_new (w:World):Calls Tryz.prog 172 #[] w fun e w'=>∃ c B,e=.returned (ptr c)∧Blk w' c 233 #[.int .u64 0,.int .u64 0,.int .u64 0,.int .u64 0,.int .i64 0,.map (some B),.slice none 0 0]∧Mth w' B []∧
 w.heap.size≤B∧w.heap.size≤c∧Below w.heap.size w w':=by
 have hmm:=@run_makeMap Tryz.prog
 go_enter Tryz.func172,Tryz.ntmps172
 go_wp2_with fail
 go_ret
 refine ⟨_,_,rfl,by simpa using Blk.made (w.alloc (.map #[] 0)) _ _,?_,Nat.le_refl _,by simp,((Below.refl _ _).alloc (Nat.le_refl _) _).alloc (by simp) _⟩
 exact (Mth.made w).only ((Only.refl (fun _=>False) _).alloc _) (by simp)
theorem met_any (h:Mid w a C) {x:Nat} (hx:x≤18446744073709551615):Calls Tryz.prog 187 #[ptr a.c,.int .u64 x] w fun e w'=>e=.returned (.bool (decide (x∈C.met)))∧w=w':=by
 obtain ⟨z,hl⟩:=h.mt.look hx
 have c5:w.cell? ⟨a.c,5,none⟩=some (.map (some a.B)):=h.cb.cell 5
 generalize decide (x∈C.met)=b at*
 clear h
 go_enter Tryz.func187,Tryz.ntmps187
 go_wp2
 go_ret
 exact ⟨rfl,rfl⟩
def Mids (w:World) (a:Gl) (C':Ch) (w':World):Prop:=∃ LA lcap,Mid w' {a with LA:=LA,lcap:=lcap} C'∧(∀ b,In LA b→In a.LA b∨w.heap.size≤b)∧Only (fun x=>x=a.c∨x=a.B∨In a.LA x) w w'
theorem hd_chain (h:Blk w a.c 233 (chc a C)):w.cell? ⟨a.c,0,none⟩=some (.int .u64 C.fi.1)∧w.cell? ⟨a.c,1,none⟩=some (.int .u64 C.fi.2)∧w.cell? ⟨a.c,2,none⟩=some (.int .u64 C.la.1)∧w.cell? ⟨a.c,3,none⟩=some (.int .u64 C.la.2)∧
 w.cell? ⟨a.c,4,none⟩=some (.int .i64 C.half)∧w.cell? ⟨a.c,5,none⟩=some (.map (some a.B))∧w.cell? ⟨a.c,6,none⟩=some (.slice a.LA C.lk.length a.lcap):=
 ⟨h.cell 0,h.cell 1,h.cell 2,h.cell 3,h.cell 4,h.cell 5,h.cell 6⟩
theorem Mid.c_B (h:Mid w a C):a.B≠a.c:=fun e=>h.mt.no (by rw [e]; exact blk_ty h.cb)
theorem Mid.c_LA (h:Mid w a C) {b:Nat} (hb:In a.LA b):b≠a.c∧b≠a.B:=by
 refine ⟨fun e=>?_,fun e=>h.mt.no (by rw [← e]; exact row_ty h.lr hb)⟩
 subst e
 exact (row_ty h.lr hb).apart (blk_ty h.cb) (by decide)
theorem Mid.turned {w1:World} {C1:Ch} {y:Nat} (h:Mid w a C) (hb:Blk w1 a.c 233 (chc a C1)) (ho:Only (·=a.c) w w1) (em:C1.met=y::C.met) (el:C1.lk=C.lk):∀ w2,Mth w2 a.B (y::C.met)→Only (·=a.B) w1 w2→Mids w a C1 w2:=by
 intro w2 hm ho2
 refine ⟨a.LA,a.lcap,⟨h.cv,hb.only ho2 h.c_B.symm,by rw [em]; exact hm,?_,h.ap⟩,fun b hb=>.inl hb,(ho.mono (fun x _ q=>.inl q)).trans' ho2 (fun x _ q=>.inr (.inl q))⟩
 rw [el]
 exact (h.lr.only ho (fun b hb=>(h.c_LA hb).1)).only ho2 (fun b hb=>(h.c_LA hb).2)
theorem Mid.linked {w2 w3:World} {C1:Ch} {y:Nat} {A2:Option Addr} {cap2:Nat} (h:Mid w a C) (hlt:∀ e∈a.ps,∀ b,In e.A b→b<w.heap.size) (hR:LkRow w2 A2 cap2 C1.lk) (hO:Only (In a.LA) w w2) (hA:∀ b,In A2 b→In a.LA b∨w.heap.size≤b)
 (hb:Blk w3 a.c 233 (chc {a with LA:=A2,lcap:=cap2} C1)) (ho:Only (·=a.c) w2 w3) (em:C1.met=y::C.met):∀ w4,Mth w4 a.B (y::C.met)→Only (·=a.B) w3 w4→Mids w a C1 w4:=by
 intro w4 hm ho4
 have hc2:=h.cb.only hO (fun q=>(h.c_LA q).1 rfl)
 have hm2:=h.mt.only hO (fun q=>(h.c_LA q).2 rfl)
 have h1:∀ b,In A2 b→b≠a.c∧b≠a.B:=fun b hb=>⟨fun e=>(row_ty hR hb).apart (e▸blk_ty hc2:Ty w2 b [233]) (by decide),fun e=>hm2.no (e▸row_ty hR hb:Ty w2 a.B [249])⟩
 refine ⟨A2,cap2,⟨h.cv,hb.only ho4 h.c_B.symm,by rw [em]; exact hm,(hR.only ho (fun b hb=>(h1 b hb).1)).only ho4 (fun b hb=>(h1 b hb).2),fun e he b hb hx=>?_⟩,hA,?_⟩
 · rcases hA b hb with q | q
   · exact h.ap e he b q hx
   · have:=hlt e he b hx
     omega
 · exact ((hO.mono (fun x _ q=>(.inr (.inr q):x=a.c∨x=a.B∨In a.LA x))).trans' ho (fun x _ q=>.inl q)).trans' ho4 (fun x _ q=>.inr (.inl q))
theorem only3 {c:Nat} (w:World) (i j k:Nat) (u v y:Value):Only (·=c) w (((w.setCell ⟨c,i,none⟩ u).setCell ⟨c,j,none⟩ v).setCell ⟨c,k,none⟩ y):=
 (((Only.refl (·=c) w).setCell (p:=⟨c,i,none⟩) (.inl rfl) _).setCell (p:=⟨c,j,none⟩) (.inl rfl) _).setCell (p:=⟨c,k,none⟩) (.inl rfl) _
theorem only2 {c:Nat} (w:World) (i j:Nat) (u v:Value):Only (·=c) w ((w.setCell ⟨c,i,none⟩ u).setCell ⟨c,j,none⟩ v):=
 ((Only.refl (·=c) w).setCell (p:=⟨c,i,none⟩) (.inl rfl) _).setCell (p:=⟨c,j,none⟩) (.inl rfl) _
set_option maxHeartbeats 2000000 in
theorem add_first0 (h:Mid w a C) {x:Nat} (hx:x≤18446744073709551615) (hm:C.met.length≤1000000) (h0:C.fi.1=0):Calls Tryz.prog 202 #[ptr a.c,.int .u64 x,.int .i64 0] w fun e w'=>e=.returned (.tuple #[])∧Mids w a (C.add x 0) w':=by
 obtain ⟨k0,k1,k2,k3,k4,k5,k6⟩:=hd_chain h.cb
 have z0:=h.cb.frozen 0
 have z2:=h.cb.frozen 2
 have z4:=h.cb.frozen 4
 have hO:=Lib.hid (fun u v y=>only3 (c:=a.c) w 0 2 4 u v y)
 have e:C.add x 0=⟨(x,C.fi.2),(x,C.la.2),0,x::C.met,C.lk⟩:=by
  unfold Ch.add sel put
  simp [h0]
 rw [e]
 have hE:=Lib.hid (h.turned (C1:=⟨(x,C.fi.2),(x,C.la.2),0,x::C.met,C.lk⟩) (y:=x) (((h.cb.store 0 (.int .u64 x)).store 2 (.int .u64 x)).store 4 (.int .i64 0)) (hO.out _ _ _) rfl rfl)
 rw [h0] at k0
 have hB2:=Lib.hid h.c_B
 have H:=Lib.hid h.mt
 clear h e
 go_enter Tryz.func202,Tryz.ntmps202
 go_wp2_with (at_mapUpdate
              refine wpList_mth (B:=a.B) (ms:=C.met) rfl (.tmp 57) (.tmp 58) (.tmp 59) rfl (H.out.only (hO.out _ _ _) hB2.out) hm x hx 0 (by omega) rfl rfl rfl ?_
              intro w2 hM2 hO2)
 go_end0
 exact ⟨rfl,hE.out w2 hM2 hO2⟩
set_option maxHeartbeats 2000000 in
theorem add_next0 (h:Mid w a C) {x:Nat} (hx:x≤18446744073709551615) (hm:C.met.length≤1000000) (h0:C.fi.1≠0) (hh:C.half=0):Calls Tryz.prog 202 #[ptr a.c,.int .u64 x,.int .i64 0] w fun e w'=>e=.returned (.tuple #[])∧Mids w a (C.add x 0) w':=by
 obtain ⟨k0,k1,k2,k3,k4,k5,k6⟩:=hd_chain h.cb
 have z2:=h.cb.frozen 2
 have z4:=h.cb.frozen 4
 have hO:=Lib.hid (fun u v=>only2 (c:=a.c) w 2 4 u v)
 have e:C.add x 0=⟨C.fi,(x,C.la.2),0,x::C.met,C.lk⟩:=by
  unfold Ch.add sel put
  simp [h0,hh]
 rw [e]
 have hE:=Lib.hid (h.turned (C1:=⟨C.fi,(x,C.la.2),0,x::C.met,C.lk⟩) (y:=x) ((h.cb.store 2 (.int .u64 x)).store 4 (.int .i64 0)) (hO.out _ _) rfl rfl)
 rw [hh] at k4
 have q0:((C.fi.1:Int)==0)=false:=by simp; omega
 have hB2:=Lib.hid h.c_B
 have H:=Lib.hid h.mt
 clear h e hh h0
 generalize C.fi.1=fi0 at*
 go_enter Tryz.func202,Tryz.ntmps202
 go_wp2_with (at_mapUpdate
              refine wpList_mth (B:=a.B) (ms:=C.met) rfl (.tmp 57) (.tmp 58) (.tmp 59) rfl (H.out.only (hO.out _ _) hB2.out) hm x hx 0 (by omega) rfl rfl rfl ?_
              intro w2 hM2 hO2)
 go_end0
 exact ⟨rfl,hE.out w2 hM2 hO2⟩
set_option maxHeartbeats 2000000 in
theorem add_link0 (h:Mid w a C) {x:Nat} (hx:x≤18446744073709551615) (hm:C.met.length≤1000000) (h0:C.fi.1≠0) (hh:C.half=1) (hl:C.lk.length≤100000) (hlt:∀ e∈a.ps,∀ b,In e.A b→b<w.heap.size):Calls Tryz.prog 202 #[ptr a.c,.int .u64 x,.int .i64 0] w fun e w'=>e=.returned (.tuple #[])∧Mids w a (C.add x 0) w':=by
 obtain ⟨k0,k1,k2,k3,k4,k5,k6⟩:=hd_chain h.cb
 have z2:=h.cb.frozen 2
 have z4:=h.cb.frozen 4
 have z6:=h.cb.frozen 6
 have e:C.add x 0=⟨C.fi,(x,C.la.2),0,x::C.met,C.lk++[(C.la.1,x)]⟩:=by
  unfold Ch.add sel put
  simp [h0,hh]
 rw [e]
 rw [hh] at k4
 have q0:((C.fi.1:Int)==0)=false:=by simp; omega
 have H:=Lib.hid h
 have lc:a.c<w.drew.heap.size:=h.cb.lt
 obtain ⟨i0,hi0,hz0,hz1,hz2⟩:=info_parts info_link
 generalize hln:C.lk.length=n at*
 replace hln:=Lib.hid hln
 generalize hll:C.la.1=l0 at*
 replace hll:=Lib.hid hll
 clear h e hh h0
 generalize C.fi.1=fi0 at*
 go_enter Tryz.func202,Tryz.ntmps202
 go_upto_region 3 with (fail)
 have r0:w.drew.cell? ⟨a.c,6,none⟩=some (.slice a.LA n a.lcap)∧w.drew.cell? ⟨a.c,2,none⟩=some (.int .u64 l0):=⟨k6,k2⟩
 refine wp_region_noPanic ?_
 refine Rn.wp_region_N (fun w'=>w'.cell? ⟨a.c,6,none⟩=some (.slice a.LA n a.lcap)∧w'.cell? ⟨a.c,2,none⟩=some (.int .u64 l0)) (fun j=>j==15) (by kernel_rfl) ?_
 refine Rn.wpN_take0 (i:=0) (oi:=⟨some 27,_,_,_,_,_⟩) (v:=ptr a.c) (by rfl) (by kernel_rfl) (by kernel_rfl) (by kernel_rfl) rfl (fun _ _ _ h=>h.elim) (Or.inl ⟨by rfl,by intro w' _; go_simp⟩) r0 ?_
 try simp only [Act.put,List.setIfInBounds_toArray,List.set_cons_zero,List.set_cons_succ]
 refine Rn.wpN_take0 (i:=1) (oi:=⟨some 28,_,_,_,_,_⟩) (v:=ptr a.c) (by rfl) (by kernel_rfl) (by kernel_rfl) (by kernel_rfl) rfl (fun _ _ _ h=>h.elim) (Or.inl ⟨by rfl,by intro w' _; go_simp⟩) r0 ?_
 try simp only [Act.put,List.setIfInBounds_toArray,List.set_cons_zero,List.set_cons_succ]
 refine Rn.wpN_take0 (i:=2) (oi:=⟨some 29,_,_,_,_,_⟩) (v:=.pointer (some ⟨a.c,0,none⟩)) (by rfl) (by kernel_rfl) (by kernel_rfl) (by kernel_rfl) rfl (fun _ _ _ h=>h.elim) (Or.inl ⟨by rfl,by intro w' _; go_simp⟩) r0 ?_
 try simp only [Act.put,List.setIfInBounds_toArray,List.set_cons_zero,List.set_cons_succ]
 refine Rn.wpN_take0 (i:=3) (oi:=⟨some 30,_,_,_,_,_⟩) (v:=.pointer (some ⟨a.c,6,none⟩)) (by rfl) (by kernel_rfl) (by kernel_rfl) (by kernel_rfl) rfl (fun _ _ _ h=>h.elim) (Or.inl ⟨by rfl,by intro w' _; go_simp⟩) r0 ?_
 try simp only [Act.put,List.setIfInBounds_toArray,List.set_cons_zero,List.set_cons_succ]
 refine Rn.wpN_take (i:=4) (oi:=⟨some 31,_,_,_,_,_⟩) (v:=.slice a.LA n a.lcap) (by rfl) (by kernel_rfl) (by kernel_rfl) (by kernel_rfl) rfl (by intro j hj; rw [show j=15 from by simpa using hj]; kernel_rfl) (fun _ _ _ h=>h.elim) (Or.inl ⟨by rfl,by intro w' hSw; go_simp⟩) r0 ?_
 try simp only [Act.put,List.setIfInBounds_toArray,List.set_cons_zero,List.set_cons_succ]
 refine Rn.wpN_take0 (i:=5) (oi:=⟨some 32,_,_,_,_,_⟩) (v:=ptr a.c) (by rfl) (by kernel_rfl) (by kernel_rfl) (by kernel_rfl) rfl (fun _ _ _ h=>h.elim) (Or.inl ⟨by rfl,by intro w' _; go_simp⟩) r0 ?_
 try simp only [Act.put,List.setIfInBounds_toArray,List.set_cons_zero,List.set_cons_succ]
 refine Rn.wpN_take0 (i:=6) (oi:=⟨some 33,_,_,_,_,_⟩) (v:=.int .i64 0) (by rfl) (by kernel_rfl) (by kernel_rfl) (by kernel_rfl) rfl (fun _ _ _ h=>h.elim) (Or.inl ⟨by rfl,by intro w' _; go_simp⟩) r0 ?_
 try simp only [Act.put,List.setIfInBounds_toArray,List.set_cons_zero,List.set_cons_succ]
 refine Rn.wpN_take0 (i:=7) (oi:=⟨some 34,_,_,_,_,_⟩) (v:=.pointer (some ⟨a.c,0,none⟩)) (by rfl) (by kernel_rfl) (by kernel_rfl) (by kernel_rfl) rfl (fun _ _ _ h=>h.elim) (Or.inl ⟨by rfl,by intro w' _; go_simp⟩) r0 ?_
 try simp only [Act.put,List.setIfInBounds_toArray,List.set_cons_zero,List.set_cons_succ]
 refine Rn.wpN_take0 (i:=8) (oi:=⟨some 35,_,_,_,_,_⟩) (v:=.pointer (some ⟨a.c,2,none⟩)) (by rfl) (by kernel_rfl) (by kernel_rfl) (by kernel_rfl) rfl (fun _ _ _ h=>h.elim) (Or.inl ⟨by rfl,by intro w' _; go_simp⟩) r0 ?_
 try simp only [Act.put,List.setIfInBounds_toArray,List.set_cons_zero,List.set_cons_succ]
 refine Rn.wpN_take0 (i:=9) (oi:=⟨some 36,_,_,_,_,_⟩) (v:=.pointer (some ⟨a.c,2,none⟩)) (by rfl) (by kernel_rfl) (by kernel_rfl) (by kernel_rfl) rfl (fun _ _ _ h=>h.elim) (Or.inl ⟨by rfl,by intro w' _; go_simp⟩) r0 ?_
 try simp only [Act.put,List.setIfInBounds_toArray,List.set_cons_zero,List.set_cons_succ]
 refine Rn.wpN_take (i:=10) (oi:=⟨some 37,_,_,_,_,_⟩) (v:=.int .u64 l0) (by rfl) (by kernel_rfl) (by kernel_rfl) (by kernel_rfl) rfl (by intro j hj; rw [show j=15 from by simpa using hj]; kernel_rfl) (fun _ _ _ h=>h.elim) (Or.inl ⟨by rfl,by intro w' hSw; go_simp⟩) r0 ?_
 try simp only [Act.put,List.setIfInBounds_toArray,List.set_cons_zero,List.set_cons_succ]
 refine Rn.wpN_take0 (i:=11) (oi:=⟨some 38,_,_,_,_,_⟩) (v:=.int .u64 x) (by rfl) (by kernel_rfl) (by kernel_rfl) (by kernel_rfl) rfl (fun _ _ _ h=>h.elim) (Or.inl ⟨by rfl,by intro w' _; go_simp⟩) r0 ?_
 try simp only [Act.put,List.setIfInBounds_toArray,List.set_cons_zero,List.set_cons_succ]
 refine Rn.wpN_take0 (i:=12) (oi:=⟨some 39,_,_,_,_,_⟩) (v:=.agg #[.int .u64 l0,.int .u64 x]) (by rfl) (by kernel_rfl) (by kernel_rfl) (by kernel_rfl) rfl (fun _ _ _ h=>h.elim) (Or.inl ⟨by rfl,by intro w' _; go_simp⟩) r0 ?_
 try simp only [Act.put,List.setIfInBounds_toArray,List.set_cons_zero,List.set_cons_succ]
 refine Rn.wpN_one (i:=13) (o:=⟨some 40,_,_,_,_,_⟩) (by kernel_rfl) (by rfl) rfl ?_
 intro K hK
 go_simp
 have r1:(w.drew.alloc (.cells #[.int .u64 l0,.int .u64 x] 249)).cell? ⟨a.c,6,none⟩=some (.slice a.LA n a.lcap)∧(w.drew.alloc (.cells #[.int .u64 l0,.int .u64 x] 249)).cell? ⟨a.c,2,none⟩=some (.int .u64 l0):=
  ⟨(Only.cell ((Only.refl (fun _=>False) w.drew).alloc _) (p:=⟨a.c,6,none⟩) lc (by simp)).trans k6,(Only.cell ((Only.refl (fun _=>False) w.drew).alloc _) (p:=⟨a.c,2,none⟩) lc (by simp)).trans k2⟩
 refine hK _ _ r1 ?_
 clear hK
 try simp only [Act.put,List.setIfInBounds_toArray,List.set_cons_zero,List.set_cons_succ]
 have hL1:LkRow (w.drew.alloc (.cells #[.int .u64 l0,.int .u64 x] 249)) a.LA a.lcap C.lk:=H.out.lr.only (((Only.refl (fun _=>False) w).drew).alloc _) (by simp)
 have hN1:=Blk.made w.drew 249 #[.int .u64 l0,.int .u64 x]
 obtain ⟨A2,cap2,w2,hrun,hR2,hO2,hA2⟩:=run_one (P:=Tryz.prog) (w.drew.alloc (.cells #[.int .u64 l0,.int .u64 x] 249)) 231 231 249 i0 _ 2 16 Tryz.underlying231 hi0 hz0 hz1 hz2 rfl (by omega) lkv lkv_len
  (by intro x u hu; simp [lkv] at hu; rcases hu with rfl | rfl<;>rfl) hln.out hL1 (l0,x) ⟨w.drew.heap.size,0,none⟩ 1 (by
    intro j u hu
    rw [Addr.add_lit,Nat.zero_add,hN1.cell]
    simpa [lkv] using hu) (by simp only [maxLen]; omega) (by omega)
 refine Rn.wpN_one (i:=14) (o:=⟨some 41,_,_,_,_,_⟩) (by kernel_rfl) (by rfl) rfl ?_
 intro K hK
 refine step_app rfl (.tmp 31) (.tmp 40) 231 rfl (.slice a.LA n a.lcap) (.slice (some ⟨w.drew.heap.size,0,none⟩) 1 1) rfl rfl hrun ?_
 have hc2:Blk w2 a.c 233 (chc a C):=(H.out.cb.only (((Only.refl (fun _=>False) w).drew).alloc _) (by simp)).only hO2 (fun q=>(H.out.c_LA q).1 rfl)
 have p6:=hc2.cell 6
 have p2:=hc2.cell 2
 have p4:=hc2.cell 4
 have p5:=hc2.cell 5
 have hcc:chc a C=#[.int .u64 C.fi.1,.int .u64 C.fi.2,.int .u64 C.la.1,.int .u64 C.la.2,.int .i64 C.half,.map (some a.B),.slice a.LA n a.lcap]:=by unfold chc; rw [hln.out]
 rw [hcc] at p6 p2 p4 p5
 simp only [List.getElem?_toArray,List.getElem?_cons_succ,List.getElem?_cons_zero,hll.out] at p6 p2 p4 p5
 refine hK _ _ ⟨p6,p2⟩ ?_
 clear hK
 try simp only [Act.put,List.setIfInBounds_toArray,List.set_cons_zero,List.set_cons_succ]
 refine Rn.wpN_tail 15 (by rfl) (by kernel_rfl) (by rfl) ?_
 dsimp only [List.drop]
 have hO02:Only (In a.LA) w w2:=(((Only.refl (In a.LA) w).drew).alloc _).trans' hO2 (fun x _ q=>q)
 have y6:=hc2.frozen 6
 have y2:=hc2.frozen 2
 have y4:=hc2.frozen 4
 have hO3:=Lib.hid (fun u v y=>only3 (c:=a.c) w2 6 2 4 u v y)
 have hE:=Lib.hid (H.out.linked (C1:=⟨C.fi,(x,C.la.2),0,x::C.met,C.lk++[(l0,x)]⟩) (y:=x) hlt hR2 hO02 (fun b hb=>by
  rcases hA2 b hb with q | q
  · exact .inl q
  · refine .inr (Nat.le_trans ?_ q)
    simp) (by
  have hb:=((hc2.store 6 (.slice A2 ((n+1:Nat)) cap2)).store 2 (.int .u64 x)).store 4 (.int .i64 0)
  rw [hcc] at hb
  simp only [chc,List.length_append,List.length_singleton,hln.out]
  exact hb) (hO3.out _ _ _) rfl)
 have hm2:=Lib.hid (H.out.mt.only hO02 (fun q=>(H.out.c_LA q).2 rfl))
 have hB2:=Lib.hid H.out.c_B
 clear k0 k1 k2 k3 k4 k5 k6 z2 z4 z6 r0 r1 hL1 hN1 hrun hR2 hO2 hA2 hcc hO02 hc2 hlt
 go_wp2_with fail
 refine NoPanic.normal ?_
 go_wp2_with (at_mapUpdate
              refine wpList_mth (B:=a.B) (ms:=C.met) rfl (.tmp 57) (.tmp 58) (.tmp 59) rfl (hm2.out.only (hO3.out _ _ _) hB2.out) hm x hx 0 (by omega) rfl rfl rfl ?_
              intro w5 hM5 hO5)
 go_end0
 exact ⟨rfl,hE.out w5 hM5 hO5⟩
set_option maxHeartbeats 2000000 in
theorem add_first1 (h:Mid w a C) {x:Nat} (hx:x≤18446744073709551615) (hm:C.met.length≤1000000) (h0:C.fi.2=0):Calls Tryz.prog 202 #[ptr a.c,.int .u64 x,.int .i64 1] w fun e w'=>e=.returned (.tuple #[])∧Mids w a (C.add x 1) w':=by
 obtain ⟨k0,k1,k2,k3,k4,k5,k6⟩:=hd_chain h.cb
 have z0:=h.cb.frozen 1
 have z2:=h.cb.frozen 3
 have z4:=h.cb.frozen 4
 have hO:=Lib.hid (fun u v y=>only3 (c:=a.c) w 1 3 4 u v y)
 have e:C.add x 1=⟨(C.fi.1,x),(C.la.1,x),1,x::C.met,C.lk⟩:=by
  unfold Ch.add sel put
  simp [h0]
 rw [e]
 have hE:=Lib.hid (h.turned (C1:=⟨(C.fi.1,x),(C.la.1,x),1,x::C.met,C.lk⟩) (y:=x) (((h.cb.store 1 (.int .u64 x)).store 3 (.int .u64 x)).store 4 (.int .i64 1)) (hO.out _ _ _) rfl rfl)
 rw [h0] at k1
 have hB2:=Lib.hid h.c_B
 have H:=Lib.hid h.mt
 clear h e
 go_enter Tryz.func202,Tryz.ntmps202
 go_wp2_with (at_mapUpdate
              refine wpList_mth (B:=a.B) (ms:=C.met) rfl (.tmp 57) (.tmp 58) (.tmp 59) rfl (H.out.only (hO.out _ _ _) hB2.out) hm x hx 1 (by omega) rfl rfl rfl ?_
              intro w2 hM2 hO2)
 go_end0
 exact ⟨rfl,hE.out w2 hM2 hO2⟩
set_option maxHeartbeats 2000000 in
theorem add_next1 (h:Mid w a C) {x:Nat} (hx:x≤18446744073709551615) (hm:C.met.length≤1000000) (h0:C.fi.2≠0) (hh:C.half=1):Calls Tryz.prog 202 #[ptr a.c,.int .u64 x,.int .i64 1] w fun e w'=>e=.returned (.tuple #[])∧Mids w a (C.add x 1) w':=by
 obtain ⟨k0,k1,k2,k3,k4,k5,k6⟩:=hd_chain h.cb
 have z2:=h.cb.frozen 3
 have z4:=h.cb.frozen 4
 have hO:=Lib.hid (fun u v=>only2 (c:=a.c) w 3 4 u v)
 have e:C.add x 1=⟨C.fi,(C.la.1,x),1,x::C.met,C.lk⟩:=by
  unfold Ch.add sel put
  simp [h0,hh]
 rw [e]
 have hE:=Lib.hid (h.turned (C1:=⟨C.fi,(C.la.1,x),1,x::C.met,C.lk⟩) (y:=x) ((h.cb.store 3 (.int .u64 x)).store 4 (.int .i64 1)) (hO.out _ _) rfl rfl)
 rw [hh] at k4
 have q0:((C.fi.2:Int)==0)=false:=by simp; omega
 have hB2:=Lib.hid h.c_B
 have H:=Lib.hid h.mt
 clear h e hh h0
 generalize C.fi.2=fi0 at*
 go_enter Tryz.func202,Tryz.ntmps202
 go_wp2_with (at_mapUpdate
              refine wpList_mth (B:=a.B) (ms:=C.met) rfl (.tmp 57) (.tmp 58) (.tmp 59) rfl (H.out.only (hO.out _ _) hB2.out) hm x hx 1 (by omega) rfl rfl rfl ?_
              intro w2 hM2 hO2)
 go_end0
 exact ⟨rfl,hE.out w2 hM2 hO2⟩
set_option maxHeartbeats 2000000 in
theorem add_link1 (h:Mid w a C) {x:Nat} (hx:x≤18446744073709551615) (hm:C.met.length≤1000000) (h0:C.fi.2≠0) (hh:C.half=0) (hl:C.lk.length≤100000) (hlt:∀ e∈a.ps,∀ b,In e.A b→b<w.heap.size):Calls Tryz.prog 202 #[ptr a.c,.int .u64 x,.int .i64 1] w fun e w'=>e=.returned (.tuple #[])∧Mids w a (C.add x 1) w':=by
 obtain ⟨k0,k1,k2,k3,k4,k5,k6⟩:=hd_chain h.cb
 have z2:=h.cb.frozen 3
 have z4:=h.cb.frozen 4
 have z6:=h.cb.frozen 6
 have e:C.add x 1=⟨C.fi,(C.la.1,x),1,x::C.met,C.lk++[(C.la.2,x)]⟩:=by
  unfold Ch.add sel put
  simp [h0,hh]
 rw [e]
 rw [hh] at k4
 have q0:((C.fi.2:Int)==0)=false:=by simp; omega
 have H:=Lib.hid h
 have lc:a.c<w.drew.heap.size:=h.cb.lt
 obtain ⟨i0,hi0,hz0,hz1,hz2⟩:=info_parts info_link
 generalize hln:C.lk.length=n at*
 replace hln:=Lib.hid hln
 generalize hll:C.la.2=l0 at*
 replace hll:=Lib.hid hll
 clear h e hh h0
 generalize C.fi.2=fi0 at*
 go_enter Tryz.func202,Tryz.ntmps202
 go_upto_region 3 with (fail)
 have r0:w.drew.cell? ⟨a.c,6,none⟩=some (.slice a.LA n a.lcap)∧w.drew.cell? ⟨a.c,3,none⟩=some (.int .u64 l0):=⟨k6,k3⟩
 refine wp_region_noPanic ?_
 refine Rn.wp_region_N (fun w'=>w'.cell? ⟨a.c,6,none⟩=some (.slice a.LA n a.lcap)∧w'.cell? ⟨a.c,3,none⟩=some (.int .u64 l0)) (fun j=>j==15) (by kernel_rfl) ?_
 refine Rn.wpN_take0 (i:=0) (oi:=⟨some 27,_,_,_,_,_⟩) (v:=ptr a.c) (by rfl) (by kernel_rfl) (by kernel_rfl) (by kernel_rfl) rfl (fun _ _ _ h=>h.elim) (Or.inl ⟨by rfl,by intro w' _; go_simp⟩) r0 ?_
 try simp only [Act.put,List.setIfInBounds_toArray,List.set_cons_zero,List.set_cons_succ]
 refine Rn.wpN_take0 (i:=1) (oi:=⟨some 28,_,_,_,_,_⟩) (v:=ptr a.c) (by rfl) (by kernel_rfl) (by kernel_rfl) (by kernel_rfl) rfl (fun _ _ _ h=>h.elim) (Or.inl ⟨by rfl,by intro w' _; go_simp⟩) r0 ?_
 try simp only [Act.put,List.setIfInBounds_toArray,List.set_cons_zero,List.set_cons_succ]
 refine Rn.wpN_take0 (i:=2) (oi:=⟨some 29,_,_,_,_,_⟩) (v:=.pointer (some ⟨a.c,0,none⟩)) (by rfl) (by kernel_rfl) (by kernel_rfl) (by kernel_rfl) rfl (fun _ _ _ h=>h.elim) (Or.inl ⟨by rfl,by intro w' _; go_simp⟩) r0 ?_
 try simp only [Act.put,List.setIfInBounds_toArray,List.set_cons_zero,List.set_cons_succ]
 refine Rn.wpN_take0 (i:=3) (oi:=⟨some 30,_,_,_,_,_⟩) (v:=.pointer (some ⟨a.c,6,none⟩)) (by rfl) (by kernel_rfl) (by kernel_rfl) (by kernel_rfl) rfl (fun _ _ _ h=>h.elim) (Or.inl ⟨by rfl,by intro w' _; go_simp⟩) r0 ?_
 try simp only [Act.put,List.setIfInBounds_toArray,List.set_cons_zero,List.set_cons_succ]
 refine Rn.wpN_take (i:=4) (oi:=⟨some 31,_,_,_,_,_⟩) (v:=.slice a.LA n a.lcap) (by rfl) (by kernel_rfl) (by kernel_rfl) (by kernel_rfl) rfl (by intro j hj; rw [show j=15 from by simpa using hj]; kernel_rfl) (fun _ _ _ h=>h.elim) (Or.inl ⟨by rfl,by intro w' hSw; go_simp⟩) r0 ?_
 try simp only [Act.put,List.setIfInBounds_toArray,List.set_cons_zero,List.set_cons_succ]
 refine Rn.wpN_take0 (i:=5) (oi:=⟨some 32,_,_,_,_,_⟩) (v:=ptr a.c) (by rfl) (by kernel_rfl) (by kernel_rfl) (by kernel_rfl) rfl (fun _ _ _ h=>h.elim) (Or.inl ⟨by rfl,by intro w' _; go_simp⟩) r0 ?_
 try simp only [Act.put,List.setIfInBounds_toArray,List.set_cons_zero,List.set_cons_succ]
 refine Rn.wpN_take0 (i:=6) (oi:=⟨some 33,_,_,_,_,_⟩) (v:=.int .i64 1) (by rfl) (by kernel_rfl) (by kernel_rfl) (by kernel_rfl) rfl (fun _ _ _ h=>h.elim) (Or.inl ⟨by rfl,by intro w' _; go_simp⟩) r0 ?_
 try simp only [Act.put,List.setIfInBounds_toArray,List.set_cons_zero,List.set_cons_succ]
 refine Rn.wpN_take0 (i:=7) (oi:=⟨some 34,_,_,_,_,_⟩) (v:=.pointer (some ⟨a.c,0,none⟩)) (by rfl) (by kernel_rfl) (by kernel_rfl) (by kernel_rfl) rfl (fun _ _ _ h=>h.elim) (Or.inl ⟨by rfl,by intro w' _; go_simp⟩) r0 ?_
 try simp only [Act.put,List.setIfInBounds_toArray,List.set_cons_zero,List.set_cons_succ]
 refine Rn.wpN_take0 (i:=8) (oi:=⟨some 35,_,_,_,_,_⟩) (v:=.pointer (some ⟨a.c,2,none⟩)) (by rfl) (by kernel_rfl) (by kernel_rfl) (by kernel_rfl) rfl (fun _ _ _ h=>h.elim) (Or.inl ⟨by rfl,by intro w' _; go_simp⟩) r0 ?_
 try simp only [Act.put,List.setIfInBounds_toArray,List.set_cons_zero,List.set_cons_succ]
 refine Rn.wpN_take0 (i:=9) (oi:=⟨some 36,_,_,_,_,_⟩) (v:=.pointer (some ⟨a.c,3,none⟩)) (by rfl) (by kernel_rfl) (by kernel_rfl) (by kernel_rfl) rfl (fun _ _ _ h=>h.elim) (Or.inl ⟨by rfl,by intro w' _; go_simp⟩) r0 ?_
 try simp only [Act.put,List.setIfInBounds_toArray,List.set_cons_zero,List.set_cons_succ]
 refine Rn.wpN_take (i:=10) (oi:=⟨some 37,_,_,_,_,_⟩) (v:=.int .u64 l0) (by rfl) (by kernel_rfl) (by kernel_rfl) (by kernel_rfl) rfl (by intro j hj; rw [show j=15 from by simpa using hj]; kernel_rfl) (fun _ _ _ h=>h.elim) (Or.inl ⟨by rfl,by intro w' hSw; go_simp⟩) r0 ?_
 try simp only [Act.put,List.setIfInBounds_toArray,List.set_cons_zero,List.set_cons_succ]
 refine Rn.wpN_take0 (i:=11) (oi:=⟨some 38,_,_,_,_,_⟩) (v:=.int .u64 x) (by rfl) (by kernel_rfl) (by kernel_rfl) (by kernel_rfl) rfl (fun _ _ _ h=>h.elim) (Or.inl ⟨by rfl,by intro w' _; go_simp⟩) r0 ?_
 try simp only [Act.put,List.setIfInBounds_toArray,List.set_cons_zero,List.set_cons_succ]
 refine Rn.wpN_take0 (i:=12) (oi:=⟨some 39,_,_,_,_,_⟩) (v:=.agg #[.int .u64 l0,.int .u64 x]) (by rfl) (by kernel_rfl) (by kernel_rfl) (by kernel_rfl) rfl (fun _ _ _ h=>h.elim) (Or.inl ⟨by rfl,by intro w' _; go_simp⟩) r0 ?_
 try simp only [Act.put,List.setIfInBounds_toArray,List.set_cons_zero,List.set_cons_succ]
 refine Rn.wpN_one (i:=13) (o:=⟨some 40,_,_,_,_,_⟩) (by kernel_rfl) (by rfl) rfl ?_
 intro K hK
 go_simp
 have r1:(w.drew.alloc (.cells #[.int .u64 l0,.int .u64 x] 249)).cell? ⟨a.c,6,none⟩=some (.slice a.LA n a.lcap)∧(w.drew.alloc (.cells #[.int .u64 l0,.int .u64 x] 249)).cell? ⟨a.c,3,none⟩=some (.int .u64 l0):=
  ⟨(Only.cell ((Only.refl (fun _=>False) w.drew).alloc _) (p:=⟨a.c,6,none⟩) lc (by simp)).trans k6,(Only.cell ((Only.refl (fun _=>False) w.drew).alloc _) (p:=⟨a.c,3,none⟩) lc (by simp)).trans k3⟩
 refine hK _ _ r1 ?_
 clear hK
 try simp only [Act.put,List.setIfInBounds_toArray,List.set_cons_zero,List.set_cons_succ]
 have hL1:LkRow (w.drew.alloc (.cells #[.int .u64 l0,.int .u64 x] 249)) a.LA a.lcap C.lk:=H.out.lr.only (((Only.refl (fun _=>False) w).drew).alloc _) (by simp)
 have hN1:=Blk.made w.drew 249 #[.int .u64 l0,.int .u64 x]
 obtain ⟨A2,cap2,w2,hrun,hR2,hO2,hA2⟩:=run_one (P:=Tryz.prog) (w.drew.alloc (.cells #[.int .u64 l0,.int .u64 x] 249)) 231 231 249 i0 _ 2 16 Tryz.underlying231 hi0 hz0 hz1 hz2 rfl (by omega) lkv lkv_len
  (by intro x u hu; simp [lkv] at hu; rcases hu with rfl | rfl<;>rfl) hln.out hL1 (l0,x) ⟨w.drew.heap.size,0,none⟩ 1 (by
    intro j u hu
    rw [Addr.add_lit,Nat.zero_add,hN1.cell]
    simpa [lkv] using hu) (by simp only [maxLen]; omega) (by omega)
 refine Rn.wpN_one (i:=14) (o:=⟨some 41,_,_,_,_,_⟩) (by kernel_rfl) (by rfl) rfl ?_
 intro K hK
 refine step_app rfl (.tmp 31) (.tmp 40) 231 rfl (.slice a.LA n a.lcap) (.slice (some ⟨w.drew.heap.size,0,none⟩) 1 1) rfl rfl hrun ?_
 have hc2:Blk w2 a.c 233 (chc a C):=(H.out.cb.only (((Only.refl (fun _=>False) w).drew).alloc _) (by simp)).only hO2 (fun q=>(H.out.c_LA q).1 rfl)
 have p6:=hc2.cell 6
 have p3:=hc2.cell 3
 have p4:=hc2.cell 4
 have p5:=hc2.cell 5
 have hcc:chc a C=#[.int .u64 C.fi.1,.int .u64 C.fi.2,.int .u64 C.la.1,.int .u64 C.la.2,.int .i64 C.half,.map (some a.B),.slice a.LA n a.lcap]:=by unfold chc; rw [hln.out]
 rw [hcc] at p6 p3 p4 p5
 simp only [List.getElem?_toArray,List.getElem?_cons_succ,List.getElem?_cons_zero,hll.out] at p6 p3 p4 p5
 refine hK _ _ ⟨p6,p3⟩ ?_
 clear hK
 try simp only [Act.put,List.setIfInBounds_toArray,List.set_cons_zero,List.set_cons_succ]
 refine Rn.wpN_tail 15 (by rfl) (by kernel_rfl) (by rfl) ?_
 dsimp only [List.drop]
 have hO02:Only (In a.LA) w w2:=(((Only.refl (In a.LA) w).drew).alloc _).trans' hO2 (fun x _ q=>q)
 have y6:=hc2.frozen 6
 have y3:=hc2.frozen 3
 have y4:=hc2.frozen 4
 have hO3:=Lib.hid (fun u v y=>only3 (c:=a.c) w2 6 3 4 u v y)
 have hE:=Lib.hid (H.out.linked (C1:=⟨C.fi,(C.la.1,x),1,x::C.met,C.lk++[(l0,x)]⟩) (y:=x) hlt hR2 hO02 (fun b hb=>by
  rcases hA2 b hb with q | q
  · exact .inl q
  · refine .inr (Nat.le_trans ?_ q)
    simp) (by
  have hb:=((hc2.store 6 (.slice A2 ((n+1:Nat)) cap2)).store 3 (.int .u64 x)).store 4 (.int .i64 1)
  rw [hcc] at hb
  simp only [chc,List.length_append,List.length_singleton,hln.out]
  exact hb) (hO3.out _ _ _) rfl)
 have hm2:=Lib.hid (H.out.mt.only hO02 (fun q=>(H.out.c_LA q).2 rfl))
 have hB2:=Lib.hid H.out.c_B
 clear k0 k1 k2 k3 k4 k5 k6 z2 z4 z6 r0 r1 hL1 hN1 hrun hR2 hO2 hA2 hcc hO02 hc2 hlt
 go_wp2_with fail
 refine NoPanic.normal ?_
 go_wp2_with (at_mapUpdate
              refine wpList_mth (B:=a.B) (ms:=C.met) rfl (.tmp 57) (.tmp 58) (.tmp 59) rfl (hm2.out.only (hO3.out _ _ _) hB2.out) hm x hx 1 (by omega) rfl rfl rfl ?_
              intro w5 hM5 hO5)
 go_end0
 exact ⟨rfl,hE.out w5 hM5 hO5⟩
end
end Go.Proofs.YtpobbnllcoabhaaGreat.Gw
