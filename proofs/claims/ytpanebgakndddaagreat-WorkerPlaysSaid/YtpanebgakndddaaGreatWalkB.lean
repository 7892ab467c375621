/- A part. -/
import Derived.Test.YtpanebgakndddaaGreatWalkA
import Derived.Deep.DeepCutAuto
set_option linter.unusedVariables false
set_option linter.unusedSimpArgs false
namespace Go.Proofs.YtpanebgakndddaaGreat.Wk
open Go Go.RowKit Hp K Fl Rw Hm Ar Mm Me
set_option maxRecDepth 100000
def pl (ss:List Sl) (x:Nat):Option Nat:=if x≠0/\(x-1) % 65536<ss.length/\(aj ss ((x-1) % 65536)).taken=true/\(aj ss ((x-1) % 65536)).gen=(x-1) / 65536 then some ((x-1) % 65536) else none
theorem zt {ss:List Sl} {x k:Nat} (hl:ss.length<=1024):pl ss x=some k↔bj ss x k:=by
 unfold pl
 constructor
 ·intro h
  split at h
  ·rename_i q
   injection h with h
   obtain ⟨k',mo⟩:=(BC hl q.1).2 q.2
   rw [(nO hl mo).1] at h
   subst h
   exact mo
  ·simp at h
 ·intro h
  have h2:=nO hl h
  rw [if_pos ⟨h.pos,(BC hl h.pos).1 ⟨k,h⟩⟩,h2.1]
theorem Vg {ss:List Sl} {x:Nat} (hl:ss.length<=1024) (h:pl ss x=none):∃ c,oH ss x c:=by
 rcases F3 ss x with ⟨k,hk⟩ | h'
 ·rw [(zt hl).2 hk] at h; simp at h
 ·exact h'
section
variable {w w':World} {M:Mo} {W:Wa}
theorem sM:∀ x,fo M.ar M.sb M.fb x->aq M x:=fun _ h=>.inr (.inr (.inr (.inl h)))
def Ad (w wx:World) (M':Mo) (W:Wa) (nd:Nd) (c:Int) (S:Nat->Prop) (p e:Value):Prop:=
 ∃ b,p=ptr b/\e=.int .i64 c/\w.heap.size<=b/\af wx b 67 #[.string nd.key,.string nd.val,.int .u32 nd.sum,.int .u64 nd.next]/\ah wx M'/\b8 wx W/\ab S w wx
theorem J6 {w w2:World} {M':Mo} {nd:Nd} {c:Int} {S:Nat->Prop} (hM:ah w2 M') (hW:b8 w2 W) (hO:ab S w w2):
 Ad w (w2.alloc (.cells #[.string nd.key,.string nd.val,.int .u32 nd.sum,.int .u64 nd.next] 67)) M' W nd c S (ptr w2.heap.size) (.int .i64 c):=
 ⟨_,rfl,rfl,hO.size,af.made w2 _ _,hM.alloc _,hW.only ((ab.refl (fun _=>False) _).alloc _) (by simp),hO.alloc _⟩
theorem J7 {w w2 w3:World} {M':Mo} {nd:Nd} {c:Int} {S:Nat->Prop} {b:Nat} {cs:Array Value} (hM:ah w2 M') (hW:b8 w2 W) (hO:ab S w w2) (hb:w.heap.size<=b) (hB:af w2 b 67 cs) (bo:cs.size=4)
 (hw:w3=(((w2.setCell ⟨b,0,none⟩ (.string nd.key)).setCell ⟨b,1,none⟩ (.string nd.val)).setCell ⟨b,2,none⟩ (.int .u32 nd.sum)).setCell ⟨b,3,none⟩ (.int .u64 nd.next)):
 Ad w w3 M' W nd c S (ptr b) (.int .i64 c):=by
 have ae:ab (·=b) w2 w3:=by
  rw [hw]
  exact ((((ab.refl (·=b) w2).setCell (p:=⟨b,0,none⟩) (.inl rfl) _).setCell (p:=⟨b,1,none⟩) (.inl rfl) _).setCell (p:=⟨b,2,none⟩) (.inl rfl) _).setCell (p:=⟨b,3,none⟩) (.inl rfl) _
 refine ⟨_,rfl,rfl,hb,?_,hM.only ae (fun x hx e=>(hM.ty hx).apart (bm (e▸hB)) (by decide)),hW.only ae (fun e=>(bm hW).apart (bm (e▸hB)) (by decide)),hO.trans' ae (fun x hx e=>absurd hx (by omega))⟩
 rw [hw]
 have h4:=(((hB.store 0 (.string nd.key)).store 1 (.string nd.val)).store 2 (.int .u32 nd.sum)).store 3 (.int .u64 nd.next)
 obtain ⟨l⟩:=cs
 match l,bo with
 | [_,_,_,_],_=>exact h4
set_option maxHeartbeats 2000000 in
theorem Vh (hM:ah w M) (hW:b8 w W) (hx:W.at_<=18446744073709551615) {c:Int} (hb:oH M.ss W.at_ c):
 Calls Tryz.prog 223 #[ptr W.f,ptr M.m] w fun e w'=>e=.returned (.bool true)/\ah w' {M with F:=true}/\b8 w' {W with nx:=3}/\ab (fun x=>aq M x\/x=W.f) w w':=by
 have hR:=Lib.hid (fun (w1:World) (av:Below w.heap.size w w1)=>(Mf (hM.below av).2.2.2.1 hx hb).mono fun e w2 h=>
  show e=.returned (.tuple #[.agg #[.string ⟨#[]⟩,.string ⟨#[]⟩,.int .u32 0,.int .u64 0],.int .i64 c])/\(ah w2 {M with F:=true}/\b8 w2 W/\ab (aq M) w w2/\ab (aq M) w1 w2) from
   ⟨h.1,(hM.below av).wM h.2.1 h.2.2,(hW.below av).only h.2.2 (fun q=>hW.aB hM (sM _ q)),(ab.aA av _).trans (h.2.2.mono fun x _ q=>sM _ q),h.2.2.mono fun x _ q=>sM _ q⟩)
 have c4:=hW.hd.2.2.2.2.1
 have d2:=hM.hd.2.2.1
 have lW:=hW.lt
 have lM:=hM.1.lt
 have XF:=Lib.hid (fun x (q:aq M x)=>hM.lt q)
 have hc:(c==0)=false/\(c != 0)=true:=by rcases hb.code with rfl | rfl<;>simp
 obtain ⟨oe,ev⟩:=hc
 replace hb:=Lib.hid hb
 have HW:=Lib.hid hW
 have nm:=World.new_ne w ⟨M.m,2,none⟩ d2
 have nw:=World.new_ne w ⟨W.f,4,none⟩ c4
 clear hM hW hx
 go_enter Tryz.func223,Tryz.ntmps223
 go_upto_region 1 with (fail)
 go_cut [5,6] (fun p e wx=>Ad w wx {M with F:=true} W .zero c (aq M) p e)
 case first=>
  go_region_held3 (fun w'=>w'.cell? ⟨M.m,2,none⟩=some (ptr M.ar)/\w'.cell? ⟨W.f,4,none⟩=some (.int .u64 W.at_)) (go_keep)
   (first
     | (go_at_call 156
        refine (hR.out w.drew ⟨rfl,rfl,rfl,Nat.le_refl _,fun _ _=>rfl⟩).mono ?_
        rintro e w2 ⟨rfl,aI,fk,ae,_⟩
        have d2':=aI.hd.2.2.1
        have c4':=fk.hd.2.2.2.2.1
        simp only at d2'
        have fU:=ae.size
        replace aI:=Lib.hid aI
        replace fk:=Lib.hid fk
        replace ae:=Lib.hid ae)
     | (go_at_call 156
        refine (hR.out (w.alloc (.cells #[.string ⟨#[]⟩,.string ⟨#[]⟩,.int .u32 0,.int .u64 0] 67)).drew (((Below.refl w.heap.size w).alloc (Nat.le_refl _) _).trans ⟨rfl,rfl,rfl,by simp,fun _ _=>rfl⟩)).mono ?_
        rintro e w2 ⟨rfl,aI,fk,ae,an⟩
        have ag:af w2 w.heap.size 67 #[.string ⟨#[]⟩,.string ⟨#[]⟩,.int .u32 0,.int .u64 0]:=af.only (w:=(w.alloc (.cells #[.string ⟨#[]⟩,.string ⟨#[]⟩,.int .u32 0,.int .u64 0] 67)).drew) (af.made w _ _) an (fun q=>Nat.lt_irrefl _ (XF.out _ q))
        have d2':=aI.hd.2.2.1
        have c4':=fk.hd.2.2.2.2.1
        simp only at d2'
        have fU:=ae.size
        have k0:=ag.cell 0
        have k1:=ag.cell 1
        have k2:=ag.cell 2
        have k3:=ag.cell 3
        simp at k0 k1 k2 k3
        have y0:=ag.frozen 0
        have y1:=ag.frozen 1
        have y2:=ag.frozen 2
        have y3:=ag.frozen 3
        replace aI:=Lib.hid aI
        replace fk:=Lib.hid fk
        replace ae:=Lib.hid ae
        replace ag:=Lib.hid ag))
  all_goals
   go_wp2_with fail
   go_meet
   first
    | exact J6 (nd:=.zero) aI.out fk.out ae.out
    | exact J7 (nd:=.zero) aI.out fk.out ae.out (Nat.le_refl _) ag.out rfl rfl
 case rest=>
  obtain ⟨b,rfl,rfl,bW,hB,aw,jz,ax⟩:=hcut
  have hE:=Lib.hid (nY jz)
  have hK:=Lib.hid (fun (w3:World) (ho:ab (·=W.f) wc w3)=>(⟨aw.only ho (fun x hx e=>jz.aB aw (e▸hx)),(ax.mono (fun _ _ q=>.inl q)).trans' ho (fun _ _ q=>.inr q)⟩:ah w3 {M with F:=true}/\ab (fun x=>aq M x\/x=W.f) w w3))
  clear hB aw jz ax bW c4 d2 hR
  go_wp2_with fail
  refine hE.out.mono ?_
  rintro e w3 ⟨rfl,dw,an⟩
  have vH:=Lib.hid (hK.out w3 an)
  replace dw:=Lib.hid dw
  clear hE an hK
  go_wp2_with fail
  go_ret
  exact ⟨rfl,vH.out.1,dw.out,vH.out.2⟩
end
end Go.Proofs.YtpanebgakndddaaGreat.Wk
