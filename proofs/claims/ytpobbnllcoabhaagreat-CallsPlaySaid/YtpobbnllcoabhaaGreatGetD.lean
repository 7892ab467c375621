/- Layer 10 (get): behind mem.Finish; along a chain of pairs. -/
import Derived.Test.YtpobbnllcoabhaaGreatGetC
import Derived.Test.YtpobbnllcoabhaaGreatPairs
import Derived.Test.YtpobbnllcoabhaaGreatFinishN
set_option linter.unusedVariables false
set_option linter.unusedSimpArgs false
namespace Go.Proofs.YtpobbnllcoabhaaGreat.Gt
open Go Go.RowKit Hp K Fl Rw Hm Ar Mm Me Qs Wk Pc
set_option maxRecDepth 100000
theorem cellOf_bd {s:Int} (hs:0≤s) (d:Nat×Nat) (hd:d.1≤65536∧d.2≤4000000): -1≤cellOf s d∧cellOf s d≤5000000:=by
 have hb:=bucket_bd s d.1 hs
 unfold cellOf
 split<;>omega
theorem Okg.step {r:Nat} {ds:List (Nat×Nat)} {ss:List Sl} {s:Gs} (hx:∀ x∈s.1,0≤x∧x≤18446744073709551615) (h:Okg (r+1) ds ss s.1 s.2.2) (hg:s.2.2.gat=0) (hd:ggdn s.2.2=false):
 Okg r ds ss (ggst ds ss s).1 (ggst ds ss s).2.2∧(ggst ds ss s).2.2.gat=0∧∀ x∈(ggst ds ss s).1,0≤x∧x≤18446744073709551615:=by
 obtain ⟨xs,F,G⟩:=s
 simp only at hx h hg hd
 obtain ⟨h1,h2,h3,h4,h5,h6,h7,h8,h9,h10⟩:=h
 unfold ggst
 simp only
 split
 · rename_i e
   have ha:=h2 e
   have p0:=Cl.getD_bd hx 0
   unfold cstep
   split
   · rename_i e0
     refine ⟨⟨by simp only; split<;>omega,fun _=>by simp,h3,p0,h5,h6,h7,by omega,fun e3=>by simp only [e0] at e3; simp at e3,fun e3=>hg⟩,hg,hx⟩
   · refine ⟨⟨by simp only; split<;>omega,fun e3=>?_,by simpa using h3,h4,h5,h6,h7,by omega,fun e3=>?_,fun e3=>hg⟩,hg,?_⟩
     · simp only at e3; split at e3<;>omega
     · simp only at e3; split at e3<;>omega
     · intro x hxm
       rcases List.mem_or_eq_of_mem_set hxm with q | rfl
       · exact hx x q
       · exact h4
 split
 · have hc:=cellOf_bd h5.1 (now xs ds) (h6 _)
   exact ⟨⟨by simp,fun e=>by simp at e,h3,h4,h5,h6,h7,by omega,fun _=>⟨by simp [new]; omega,by simp [new],by simp [new]; omega,by simp [new]⟩,fun e=>by simp at e⟩,hg,hx⟩
 split
 · rename_i e
   refine ⟨⟨by simp only; split<;>omega,fun e=>?_,h3,h4,h5,h6,h7,by omega,fun e3=>(h9 e).step hx h7,fun _=>hg⟩,hg,hx⟩
   simp only at e; split at e<;>omega
 · unfold ggdn at hd
   simp at hd
   omega
theorem mrGt (a:Addr) (w:World) (f:Nat):(method (f+1) 156 (.pointer (some a)) "Ready").run Tryz.prog w=.ok (271,.pointer (some a)) w:=by kernel_rfl
theorem msGt (a:Addr) (w:World) (f:Nat):(method (f+1) 156 (.pointer (some a)) "Step").run Tryz.prog w=.ok (272,.pointer (some a)) w:=by kernel_rfl
theorem erGt (args:Array Value) (w:World):(callFunc 271 args).run Tryz.prog w=.ok (.enter 271 args) w:=by kernel_rfl
theorem esGt (args:Array Value) (w:World):(callFunc 272 args).run Tryz.prog w=.ok (.enter 272 args) w:=by kernel_rfl
abbrev gfin (ds:List (Nat×Nat)) (ss:List Sl) (K:Nat) (s:Gs):=fin (fun _=>true) (ggst ds ss) (fun s=>ggdn s.2.2) K s
def InvG (M:Mo) (a:Ga) (B:Nat) (w0:World) (s:Gs) (w:World):Prop:=
 ∃ a':Ga,a'.f=a.f∧(∀ x,gfoot a' x→gfoot a x∨B≤x)∧MemAt w {M with xs:=s.1,F:=s.2.1}∧GeAt w a' s.2.2∧Only (fun x=>mfoot M x∨gfoot a x) w0 w
section
variable {w:World} {M:Mo} {a:Ga} {G:Ge}
theorem Moved.far {w0 w1:World} {a a' a1:Ga} {B:Nat} (h:Moved w1 a1 a') (h1:∀ x,gfoot a1 x→gfoot a x∨B≤x) (hB:B≤w1.heap.size):∀ x,gfoot a' x→gfoot a x∨B≤x:=by
 obtain ⟨e1,e2,e3,e4⟩:=h
 rintro x (q | q | q | q)
 · exact h1 x (.inl (q.trans e1))
 · exact h1 x (.inr (.inl (q.trans e2)))
 · exact h1 x (.inr (.inr (.inl (q.trans e3))))
 · rcases e4 with e | e
   · exact h1 x (.inr (.inr (.inr (q.trans e))))
   · exact .inr (by omega)
theorem invG_step {w0 w1:World} {s:Gs} {r:Nat} (h:InvG M a w0.heap.size w0 s w1) (ok:Okg (r+1) M.ds M.ss s.1 s.2.2):
 Calls Tryz.prog 272 #[ptr a.f,ptr M.m] w1 fun e w'=>e=.returned (.bool (ggdn s.2.2))∧InvG M a w0.heap.size w0 (ggst M.ds M.ss s) w':=by
 obtain ⟨a',e,hf,hM,hG,hO⟩:=h
 have hs:=get_step (M:={M with xs:=s.1,F:=s.2.1}) hM hG ok
 rw [e] at hs
 refine hs.mono fun e1 w' q=>⟨q.1,?_⟩
 obtain ⟨a2,m2,hM2,hG2,hO2⟩:=q.2
 refine ⟨a2,m2.1.trans e,m2.far (w0:=w0) hf hO.size,hM2,hG2,hO.trans' hO2 ?_⟩
 rintro x hx (q | q)
 · exact .inl q
 · rcases hf x q with q | q
   · exact .inr q
   · omega
theorem finish_get (hM:MemAt w M) (hG:GeAt w a G) (K:Nat) (hK:K≤1000000) (ok:Okg K M.ds M.ss M.xs G) (hg:G.gat=0):
 Calls Tryz.prog 21 #[ptr M.m,.iface 156 (ptr a.f),.int .i64 K] w fun e w'=>e=.returned (.tuple #[.int .i64 (gfin M.ds M.ss K (M.xs,M.F,G)).1,.bool (gfin M.ds M.ss K (M.xs,M.F,G)).2.1])∧
  InvG M a w.heap.size w (gfin M.ds M.ss K (M.xs,M.F,G)).2.2 w':=by
 refine finish_n 156 271 272 a.f (ptr M.m) (InvG M a w.heap.size w) (fun k s=>Okg k M.ds M.ss s.1 s.2.2∧s.2.2.gat=0∧∀ x∈s.1,0≤x∧x≤18446744073709551615) (fun _=>true) (ggst M.ds M.ss) (fun s=>ggdn s.2.2)
  (mrGt _) (msGt _) erGt esGt ?_ ?_ ?_ K hK (M.xs,M.F,G) ⟨ok,hg,hM.2.1.2.2.1⟩ w ⟨a,rfl,fun x h=>.inl h,hM,hG,Only.refl _ _⟩
 · rintro k s w1 h ok
   exact (ready_any _ _ w1).mono fun e w' q=>⟨q.1,by rw [← q.2]; exact h⟩
 · rintro k s w1 h ok _
   exact invG_step h ok.1
 · rintro k s ok _ hd
   exact ok.1.step ok.2.2 ok.2.1 hd
end
/-! ### along a chain of pairs-/
structure Ev where
 ds:List (Nat×Nat)
 ss:List Sl
 xs:List Int
 F:Bool
 key:ByteArray
 k:Nat
 q:List Pr
 L:Nat
abbrev Ev.cell (E:Ev):Int:=cellOf (sm E.key) (now E.xs E.ds)
structure Ev.Ok (E:Ev):Prop where
 len:E.ss.length≤1024
 nexts:Nexts E.ss
 tb:∀ i,(tab E.ds i).1≤65536∧(tab E.ds i).2≤4000000
 wk:2+E.k<E.xs.length∧E.k≤1000
 xb:∀ x∈E.xs,0≤x∧x≤18446744073709551615
 out:Cl.nth E.xs (2+E.k)=0
 far:E.cell≠((2+E.k:Nat):Int)
 ch:Cn E.ss (word E.xs E.cell) E.q
 qL:E.q.length≤E.L
 L:E.L≤2000
def Fits (o:Option ByteArray) (W:Wa):Prop:=W.nd.val=o.getD ⟨#[]⟩∧decide (W.found≠0)=o.isSome
inductive Gph (E:Ev) (G:Ge):Nat→Bool→Prop
 | come:G.nx=1→G.C.at_=0→Gph E G 0 false
 | put:G.nx=1→G.C.at_=1→G.C.period=Cl.nth E.xs 0→Gph E G 1 false
 | load:G.nx=2→Gph E G 2 false
 | first:G.nx=3→G.W=new 0 E.cell (sm E.key) E.key→Gph E G 3 false
 | look (q:List Pr):G.nx=3→G.W.nx=2→G.W.key=E.key→G.W.sum=sm E.key→G.W.found=0→G.W.nd.val=⟨#[]⟩→q≠[]→Cn E.ss G.W.at_ q→lk q E.key=lk E.q E.key→G.W.read+q.length≤E.L→ -9223372036854775808≤G.W.cell∧G.W.cell≤9223372036854775807→G.W.at_≤18446744073709551615→Gph E G (4+G.W.read) false
 | leave:G.nx=4→G.W.read≤E.L→Fits (lk E.q E.key) G.W→Gph E G (4+G.W.read) false
 | over:G.W.read≤E.L→Fits (lk E.q E.key) G.W→Gph E G (5+G.W.read) true
structure Gv (E:Ev) (n:Nat) (d:Bool) (s:Gs):Prop where
 F:s.2.1=E.F
 key:s.2.2.key=E.key
 sum:s.2.2.sum=sm E.key
 wk:s.2.2.C.worker=E.k
 gat:d=false→s.2.2.gat=0
 pd:0≤s.2.2.C.period∧s.2.2.C.period≤18446744073709551615
 xs:s.1=if 2≤n∧d=false then E.xs.set (2+E.k) (Cl.nth E.xs 0) else E.xs
 ph:Gph E s.2.2 n d
section
variable {E:Ev} {n:Nat} {s:Gs}
theorem Gv.begin (hE:E.Ok):Gv E 0 false (E.xs,E.F,newGet E.k E.key):=
 ⟨rfl,rfl,rfl,rfl,fun _=>rfl,⟨by simp [newGet],by simp [newGet]⟩,by simp,.come rfl rfl⟩
theorem Gv.le (h:Gv E n false s):n≤4+E.L:=by
 have:=h.ph
 cases this<;>omega
theorem Gv.over (h:Gv E n true s):n=5+s.2.2.W.read∧Fits (lk E.q E.key) s.2.2.W∧s.2.1=E.F∧s.1=E.xs∧s.2.2.W.read≤E.L:=by
 have h1:=h.ph
 have h2:=h.xs
 simp at h2
 generalize hb:true=d at h1
 generalize hm:n=m at h1
 cases h1<;>first | (simp at hb; done) | exact ⟨rfl,by assumption,h.F,h2,by assumption⟩
theorem Ev.Ok.back (hE:E.Ok):(E.xs.set (2+E.k) (Cl.nth E.xs 0)).set (2+E.k) 0=E.xs:=by
 rw [List.set_set]
 apply List.ext_getElem
 · simp
 · intro i h1 h2
   rw [List.getElem_set]
   split
   · rename_i e
     subst e
     have:=hE.out
     unfold Cl.nth at this
     rw [List.getD_eq_getElem?_getD,List.getElem?_eq_getElem h2] at this
     exact this.symm
   · rfl
theorem Ev.Ok.now_in (hE:E.Ok):now (E.xs.set (2+E.k) (Cl.nth E.xs 0)) E.ds=now E.xs E.ds:=by
 unfold now
 rw [nth_set _ _ _ hE.wk.1,if_neg (by omega)]
theorem Ev.Ok.word_in (hE:E.Ok):word (E.xs.set (2+E.k) (Cl.nth E.xs 0)) E.cell=word E.xs E.cell:=by
 have hf:=hE.far
 unfold word
 rw [List.length_set,nth_set _ _ _ hE.wk.1]
 split
 · rename_i h
   rw [if_neg (by omega)]
 · rfl
theorem Gv.ok (hE:E.Ok) (h:Gv E n false s) (r:Nat) (hr:r≤4000000000000000000):Okg r E.ds E.ss s.1 s.2.2:=by
 have hsm:=sm_bd E.key
 have hxl:s.1.length=E.xs.length:=by rw [h.xs]; split<;>simp
 have hw:=hE.wk
 have hL:=hE.L
 have hph:=h.ph
 have hcb: -1≤E.cell∧E.cell≤5000000:=cellOf_bd hsm.1 (now E.xs E.ds) (hE.tb _)
 generalize hn:n=m at hph
 generalize hb:false=d at hph
 have hs:=h.sum
 have hwk:=h.wk
 have hg:=h.gat rfl
 have mk:∀ (a1:1≤s.2.2.nx∧s.2.2.nx≤4) (a2:s.2.2.nx=1→s.2.2.C.at_≤1) (a3:s.2.2.nx=3→Okw r s.2.2.W),Okg r E.ds E.ss s.1 s.2.2:=fun a1 a2 a3=>
  ⟨a1,a2,by rw [hxl,hwk]; exact hw,h.pd,by rw [hs]; exact hsm,hE.tb,hE.nexts,by omega,a3,fun _=>hg⟩
 cases hph with
 | come a b=>exact mk (by omega) (by omega) (by omega)
 | put a b c=>exact mk (by omega) (by omega) (by omega)
 | load a=>exact mk (by omega) (by omega) (by omega)
 | first a b=>exact mk (by omega) (by omega) (fun _=>by rw [b]; exact ⟨by simp only [new]; omega,by simp [new],by simp only [new]; omega,by simp [new]⟩)
 | look q a1 a2 a3 a4 a5 a6 a7 a8 a9 a10 a11 a12=>exact mk (by omega) (by omega) (fun _=>⟨a11,a12,by omega,by omega⟩)
 | leave a b c=>exact mk (by omega) (by omega) (by omega)
 | over a b=>cases hb
theorem Gv.step (hE:E.Ok) (h:Gv E n false s):Gv E (n+1) (ggdn s.2.2) (ggst E.ds E.ss s):=by
 obtain ⟨xs,F,G⟩:=s
 obtain ⟨h1,h2,h3,h4,h5,h6,h7,h8⟩:=h
 dsimp only at h1 h2 h3 h4 h5 h6 h7 h8
 have h5:=h5 rfl
 have hw:=hE.wk
 have hL:=hE.L
 generalize hn:n=m at h8
 generalize hb:false=d at h8
 cases h8 with
 | come a b=>
   have e:ggst E.ds E.ss (xs,F,G)=(xs,F,{G with C:={G.C with period:=Cl.nth xs 0,at_:=1}}):=by
    unfold ggst cstep
    simp only
    rw [if_pos a,if_pos b,if_neg (by omega)]
    cases G; simp only at a; subst a; rfl
   rw [if_neg (by intro q; omega)] at h7
   rw [e,show ggdn G=false by unfold ggdn; simp; omega]
   subst h7
   exact ⟨h1,h2,h3,h4,fun _=>h5,Cl.getD_bd hE.xb 0,by simp,.put a rfl rfl⟩
 | put a b c=>
   have e:ggst E.ds E.ss (xs,F,G)=(xs.set (2+G.C.worker) G.C.period,F,{G with C:={G.C with at_:=2},nx:=2}):=by
    unfold ggst cstep
    simp only
    rw [if_pos a,if_neg (by omega),if_pos b]
   rw [if_neg (by intro q; omega)] at h7
   rw [e,show ggdn G=false by unfold ggdn; simp; omega,h4,c]
   subst h7
   exact ⟨h1,h2,h3,h4,fun _=>h5,by simp only; rw [c]; exact Cl.getD_bd hE.xb 0,by simp,.load rfl⟩
 | load a=>
   have e:ggst E.ds E.ss (xs,F,G)=(xs,F,{G with W:=new 0 (cellOf G.sum (now xs E.ds)) G.sum G.key,nx:=3}):=by
    unfold ggst
    simp only
    rw [if_neg (by omega),if_pos a]
   rw [if_pos ⟨by omega,rfl⟩] at h7
   rw [e,show ggdn G=false by unfold ggdn; simp; omega]
   subst h7
   exact ⟨h1,h2,h3,h4,fun _=>h5,h6,by simp,.first rfl (by simp only; rw [hE.now_in,h3,h2])⟩
 | first a b=>
   rw [if_pos ⟨by omega,rfl⟩] at h7
   have e:ggst E.ds E.ss (xs,F,G)=(xs,F,{G with W:=goTo {new 0 E.cell (sm E.key) E.key with first:=word E.xs E.cell} (word E.xs E.cell),nx:=if word E.xs E.cell=0 then 4 else 3}):=by
    unfold ggst
    simp only
    rw [if_neg (by omega),if_neg (by omega),if_pos a]
    have hg:Wk.gstep xs E.ss (F,G.W)=(F,goTo {new 0 E.cell (sm E.key) E.key with first:=word E.xs E.cell} (word E.xs E.cell)):=by
     unfold Wk.gstep
     simp only
     rw [b,if_pos (show (new 0 E.cell (sm E.key) E.key).nx=1 from rfl),show (new 0 E.cell (sm E.key) E.key).cell=E.cell from rfl,h7,hE.word_in]
    have hdn:Wk.gdone xs E.ss (F,G.W)=decide (word E.xs E.cell=0):=by
     unfold Wk.gdone
     rw [hg]
     exact goTo_nx _ _
    rw [hg,hdn]
    simp
   rw [e,show ggdn G=false by unfold ggdn; simp; omega]
   have hch:=hE.ch
   have hwb:=word_bd hE.xb E.cell
   have hqL:=hE.qL
   have hcb: -1≤E.cell∧E.cell≤5000000:=cellOf_bd (sm_bd E.key).1 (now E.xs E.ds) (hE.tb _)
   by_cases h0:word E.xs E.cell=0
   · rw [if_pos h0]
     have hq:=hch.pos.1 h0
     refine ⟨h1,h2,h3,h4,fun _=>h5,h6,by rw [if_pos ⟨by omega,rfl⟩]; exact h7,?_⟩
     unfold goTo
     rw [if_pos h0]
     exact .leave (G:={G with W:={new 0 E.cell (sm E.key) E.key with first:=word E.xs E.cell,nx:=3},nx:=4}) rfl (Nat.zero_le _) (by rw [hq]; exact ⟨rfl,rfl⟩)
   · rw [if_neg h0]
     refine ⟨h1,h2,h3,h4,fun _=>h5,h6,by rw [if_pos ⟨by omega,rfl⟩]; exact h7,?_⟩
     unfold goTo
     rw [if_neg h0]
     exact .look (G:={G with W:={new 0 E.cell (sm E.key) E.key with first:=word E.xs E.cell,at_:=word E.xs E.cell,nx:=2},nx:=3}) E.q rfl rfl rfl rfl rfl rfl (fun q=>h0 (hch.pos.2 q)) hch rfl (by simp only [new]; omega) (by simp only [new]; omega) hwb
 | look q a1 a2 a3 a4 a5 a6 a7 a8 a9 a10 a11 a12=>
   rw [if_pos ⟨by omega,rfl⟩] at h7
   generalize hat:G.W.at_=wat at a8
   cases a8 with
   | nil=>exact absurd rfl a7
   | @cons _ k z p t c1 c2 c3=>
     rw [← hat] at c1
     have hp:=(pl_some hE.len).2 c1
     have hst:Wk.gstep xs E.ss (F,G.W)=(F,looks G.W (ndp p z)):=by
      unfold Wk.gstep
      simp only
      rw [if_neg (by omega),if_pos a2,hp]
      show (F,looks G.W (at' E.ss k).nd)=_
      rw [c2]
     have hit_iff:hit G.W (ndp p z)=decide (p.1=E.key):=by
      unfold hit ndp
      simp only [a3,a4,decide_eq_decide]
      exact ⟨fun q=>q.2,fun q=>⟨by rw [q],q⟩⟩
     have hz:z≤18446744073709551615:=by
      have:=(hE.nexts k).2
      rw [c2] at this
      unfold ndp at this
      simp only at this
      omega
     have hdn:Wk.gdone xs E.ss (F,G.W)=(decide (p.1=E.key)||decide (z=0)):=by
      unfold Wk.gdone
      rw [hst]
      show decide (3≤(looks G.W (ndp p z)).nx)=_
      rw [looks_nx]
      unfold lookD
      rw [hit_iff]
      rfl
     have e:ggst E.ds E.ss (xs,F,G)=(xs,F,{G with W:=looks G.W (ndp p z),nx:=if (decide (p.1=E.key)||decide (z=0))=true then 4 else 3}):=by
      unfold ggst
      simp only
      rw [if_neg (by omega),if_neg (by omega),if_pos a1,hst,hdn]
     rw [e,show ggdn G=false by unfold ggdn; simp; omega]
     have hc0:G.W.at_≠0:=fun e=>by have:=c1.pos; omega
     simp only [List.length_cons] at a10
     by_cases hk:p.1=E.key
     · rw [if_pos (by simp [hk])]
       have hl:looks G.W (ndp p z)={G.W with read:=G.W.read+1,found:=G.W.at_,nd:=ndp p z,nx:=3}:=by
        unfold looks
        rw [hit_iff,if_pos (by simp [hk])]
       rw [hl]
       refine ⟨h1,h2,h3,h4,fun _=>h5,h6,by rw [if_pos ⟨by omega,rfl⟩]; exact h7,?_⟩
       refine .leave (G:={G with W:={G.W with read:=G.W.read+1,found:=G.W.at_,nd:=ndp p z,nx:=3},nx:=4}) rfl (by simp only; omega) ?_
       rw [← a9]
       unfold lk
       rw [if_pos hk]
       exact ⟨rfl,by simp [hc0]⟩
     · have hl:looks G.W (ndp p z)=goTo {G.W with read:=G.W.read+1,prev:=G.W.at_} z:=by
        unfold looks
        rw [hit_iff,if_neg (by simp [hk])]
        rfl
       rw [hl]
       have a9:lk t E.key=lk E.q E.key:=by rw [← a9]; simp [lk,hk]
       by_cases h0:z=0
       · rw [if_pos (by simp [h0])]
         have ht:=c3.pos.1 h0
         refine ⟨h1,h2,h3,h4,fun _=>h5,h6,by rw [if_pos ⟨by omega,rfl⟩]; exact h7,?_⟩
         unfold goTo
         rw [if_pos h0]
         refine .leave (G:={G with W:={G.W with read:=G.W.read+1,prev:=G.W.at_,nx:=3},nx:=4}) rfl (by simp only; omega) ?_
         rw [← a9,ht]
         exact ⟨a6,by simp [a5,lk]⟩
       · rw [if_neg (by simp [h0,hk])]
         refine ⟨h1,h2,h3,h4,fun _=>h5,h6,by rw [if_pos ⟨by omega,rfl⟩]; exact h7,?_⟩
         unfold goTo
         rw [if_neg h0]
         exact .look (G:={G with W:={G.W with read:=G.W.read+1,prev:=G.W.at_,at_:=z,nx:=2},nx:=3}) t rfl rfl a3 a4 a5 a6 (fun q=>h0 (c3.pos.2 q)) c3 a9 (by simp only; omega) a11 hz
 | leave a b c=>
   have e:ggst E.ds E.ss (xs,F,G)=(xs.set (2+G.C.worker) 0,F,{G with gat:=1}):=by
    unfold ggst
    simp only
    rw [if_neg (by omega),if_neg (by omega),if_neg (by omega)]
   rw [if_pos ⟨by omega,rfl⟩] at h7
   rw [e,show ggdn G=true by unfold ggdn; simp; omega,h4]
   subst h7
   refine ⟨h1,h2,h3,h4,(fun q=>by cases q),h6,by simpa using hE.back,?_⟩
   rw [show 4+G.W.read+1=5+G.W.read by omega]
   exact .over (G:={G with gat:=1}) b c
 | over a b=>cases hb
theorem Gv.fin (hE:E.Ok) (K:Nat):∀ n s,Gv E n false s→5+E.L≤n+K→∃ m s',gfin E.ds E.ss K s=(m,true,s')∧Gv E (n+m) true s':=by
 induction K with
 | zero=>intro n s h hK; have:=h.le; omega
 | succ K ih=>
   intro n s h hK
   have hs:=h.step hE
   unfold gfin Me.fin
   rw [if_pos rfl]
   cases hd:ggdn s.2.2 with
   | true=>
     rw [hd] at hs
     exact ⟨1,_,by simp,hs⟩
   | false=>
     rw [hd] at hs
     obtain ⟨m,s',e,hv⟩:=ih (n+1) _ hs (by omega)
     refine ⟨m+1,s',?_,by rw [show n+(m+1)=n+1+m by omega]; exact hv⟩
     unfold gfin at e
     rw [if_neg (by simp),e]
end
def Got (M:Mo) (a:Ga) (key:ByteArray) (q:List Pr) (L:Nat) (w0:World) (e:Ending) (w:World):Prop:=
 ∃ (n:Nat) (G:Ge) (a':Ga),e=.returned (.tuple #[.int .i64 n,.bool true])∧n=5+G.W.read∧G.W.read≤L∧Fits (lk q key) G.W∧MemAt w M∧GeAt w a' G∧a'.f=a.f∧(∀ x,gfoot a' x→gfoot a x∨w0.heap.size≤x)∧Only (fun x=>mfoot M x∨gfoot a x) w0 w
theorem get_ends {w:World} {M:Mo} {a:Ga} {k:Nat} {key:ByteArray} {q:List Pr} {L:Nat} (hM:MemAt w M) (hG:GeAt w a (newGet k key)) (hE:Ev.Ok ⟨M.ds,M.ss,M.xs,M.F,key,k,q,L⟩) (K:Nat) (hK:5+L≤K∧K≤1000000):
 Calls Tryz.prog 21 #[ptr M.m,.iface 156 (ptr a.f),.int .i64 K] w (Got M a key q L w):=by
 have h0:=Gv.begin hE
 have hf:=finish_get hM hG K hK.2 (h0.ok hE K (by omega)) rfl
 obtain ⟨n,s,e,hv⟩:=h0.fin hE K 0 _ (by simp only; omega)
 simp only at e
 rw [e] at hf
 refine hf.mono fun e1 w1 q=>?_
 obtain ⟨q1,a',q2,q3,q4,q5,q6⟩:=q
 obtain ⟨o1,o2,o3,o4,o5⟩:=hv.over
 simp only at q4 q5 o3 o4
 rw [o3,o4] at q4
 exact ⟨n,s.2.2,a',q1,by omega,o5,o2,q4,q5,q2,q3,q6⟩
end Go.Proofs.YtpobbnllcoabhaaGreat.Gt
