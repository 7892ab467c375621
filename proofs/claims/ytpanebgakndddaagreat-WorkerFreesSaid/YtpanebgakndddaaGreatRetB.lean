/- A part. -/
import Derived.Test.YtpanebgakndddaaGreatRetA
set_option linter.unusedVariables false
set_option linter.unusedSimpArgs false
namespace Go.Proofs.YtpanebgakndddaaGreat.Re
open Go Go.RowKit Hp K Fl Rw Hm Ar Mm Me Qs
set_option maxRecDepth 100000
theorem SO {w:World} {A:Option Addr} {cap:Nat} {l:List Nat} (h:pJ w A cap l):nH w A l:=by
 by_cases e:l=[]
 ·exact .inl e
 ·have hp:0<l.length:=List.length_pos_iff.2 e
  obtain ⟨b,hA,_⟩:=HZ h 0 hp
  obtain ⟨cs,hb⟩:=vF h (x:=b) (by rw [hA]; rfl)
  refine .inr ⟨b,0,cs,hA,hb,fun i hi=>?_⟩
  obtain ⟨b',dt,_,hc,_⟩:=HZ h i hi
  have:b'=b:=by rw [hA] at dt; injection dt with q; injection q with q; exact q.symm
  subst this
  rw [hb.cell] at hc
  rw [Nat.zero_add]
  exact hc
theorem df.ty {w:World} {D:Dr} (h:df w D) {x:Nat} (hx:gD D x):Ty w x [127,157,40]:=by
 rcases hx with rfl | rfl | ⟨hl,hx⟩
 ·exact (aV h.an).mono (by simp)
 ·exact (aV h.wt).mono (by simp)
 ·rcases h.jV with q | ⟨b,o,cs,hA,hb,_⟩
  ·exact absurd q hl
  ·rw [hA] at hx
   have:b=x:=by simpa [In] using hx
   subst this
   exact (aV hb).mono (by simp)
theorem df.lt {w:World} {D:Dr} (h:df w D) {x:Nat} (hx:gD D x):x<w.heap.size:=(h.ty hx).lt
section
variable {w:World} {M:Mo} {D:Dr}
theorem SP (hM:ah w M) (hD:df w D) (hl:M.ws≠[]) (h0:D.left=[]):
 Calls Tryz.prog 73 #[ptr D.f,ptr M.m] w fun e w'=>e=.returned (.bool true)/\ah w' {M with V:=none,capV:=0,ws:=[]}/\
  df w' {D with A:=M.V,cap:=M.capV,left:=M.ws}/\ab (fun x=>x=M.m\/x=D.f) w w':=by
 have hT:=Lib.hid (Ru hM)
 have HM:=Lib.hid hM
 have HD:=Lib.hid hD
 have hlen:=uf hM.2.2.2.2.2
 have cO:=hM.2.2.2.2.2.rX
 have o7:0<M.ws.length:=List.length_pos_iff.2 hl
 have oT:=hD.aA hM
 have aH:=hD.ne
 have lts:=hD.an.lt
 clear hM hD
 replace hl:=Lib.hid hl
 replace h0:=Lib.hid h0
 generalize hn:M.ws.length=n at*
 go_enter Tryz.func73,Tryz.ntmps73
 go_wp2_with fail
 refine hT.out.mono ?_
 rintro e w1 ⟨rfl,av,aw⟩
 have pa:df w1 D:=HD.out.only aw (fun x hx q=>(HD.out.ty hx).apart (by subst q; exact aV HM.out.1) (by decide))
 have gd:nH w1 M.V M.ws:=(SO HM.out.2.2.2.2.2).only aw (fun x _ hx q=>(b9 HM.out.2.2.2.2.2 hx).apart (by subst q; exact aV HM.out.1) (by decide))
 have KL:∀ x,M.ws≠[]->In M.V x->x≠D.f:=fun x _ hx q=>(b9 HM.out.2.2.2.2.2 hx).apart (by subst q; exact aV HD.out.an) (by decide)
 have s2:=pa.hd.2.2
 have z2:=pa.an.frozen 2
 have hO:=(ab.refl (·=D.f) w1).setCell (p:=⟨D.f,2,none⟩) (.inl rfl) (.slice M.V n M.capV)
 have br:=Lib.hid (av.only hO (fun x hx e=>by
  subst e
  have zO:ao M D.f:=by
   rcases hx with q | q | q | q | q | q
   ·exact .inl q
   ·exact .inr (.inl q)
   ·exact .inr (.inr (.inl q))
   ·exact .inr (.inr (.inr (.inl q)))
   ·exact .inr (.inr (.inr (.inr (.inl q))))
   ·simp [In] at q
  exact oT.1 zO))
 have Au:Hid (df (w1.setCell ⟨D.f,2,none⟩ (.slice M.V n M.capV)) {D with A:=M.V,cap:=M.capV,left:=M.ws}):=Lib.hid ⟨by
  have:=pa.an.store 2 (.slice M.V n M.capV)
  rw [<-hn] at this ⊢
  exact this,pa.wt.only hO (fun e=>aH e.symm),gd.only hO (fun x hx hi=>KL x hx hi),by show M.ws.length<=M.capV; have:=cO.1; omega,cO.2⟩
 have aq:=Lib.hid ((aw.mono (S':=fun x=>x=M.m\/x=D.f) (fun x _ q=>.inl q)).setCell (p:=⟨D.f,2,none⟩) (.inl (.inr rfl)) (.slice M.V n M.capV))
 clear hT av aw pa gd KL hO hn
 go_wp2_with fail
 go_ret
 exact ⟨rfl,br.out,Au.out,aq.out⟩
end
end Go.Proofs.YtpanebgakndddaaGreat.Re
