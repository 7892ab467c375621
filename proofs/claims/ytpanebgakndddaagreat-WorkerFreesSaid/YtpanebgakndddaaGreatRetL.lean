/- A part. -/
import Derived.Test.YtpanebgakndddaaGreatRetB
set_option linter.unusedVariables false
set_option linter.unusedSimpArgs false
namespace Go.Proofs.YtpanebgakndddaaGreat.Re
open Go Go.RowKit Hp K Fl Rw Hm Ar Mm Me Qs
set_option maxRecDepth 100000
theorem SW (v:Value) (n:Nat):(madeCells #[v] n).toList=List.replicate n v:=by
 apply List.ext_getElem?
 intro j
 by_cases h:j<n
 ·simp [madeCells,h,Nat.mod_one]
 ·simp [madeCells,h]
def SX (w w':World) (l:List Nat) (e:Ending):Prop:=∃ A cap,e=.returned (.slice A l.length cap)/\nH w' A l/\Below w.heap.size w w'
section
variable {w:World} {D:Dr}
theorem On (hD:df w D) (hn:D.left.length<=1000000):Calls Tryz.prog 37 #[ptr D.f] w fun e w'=>SX w w' D.left e:=by
 have c2:=hD.hd.2.2
 have lf:=hD.an.lt
 obtain ⟨i0,cW,cQ,cT,dh⟩:=info_parts CD
 have KO:=Lib.hid hD.jV
 have HD:=Lib.hid hD
 clear hD
 generalize hl:D.left=l at*
 generalize nr:l.length=n at*
 generalize fD:D.cap=cap at*
 replace nr:=Lib.hid nr
 replace hl:=Lib.hid hl
 replace fD:=Lib.hid fD
 go_enter Tryz.func37,Tryz.ntmps37
 go_upto_region 2 with (at_make
                        refine wpList_make_full _ rfl (.tmp 8) (.tmp 8) 61 rfl w.heap.size 40 i0 _ 1 Tryz.underlying61 cW cQ cT .i64 .i64 n n n rfl rfl rfl rfl (by rw [dh]; omega) (by simp only [maxLen]; omega) (Nat.le_refl _) ?_
                        intro w2 dZ hg
                        have iW:=(Ci dZ).1
                        rw [show (Value.int IntKind.u64 0).cells=#[.int .u64 0] from rfl,SW,Nat.mul_one] at iW
                        have au:Below w.heap.size w w2:=((ab.refl (fun _=>False) w).grown hg (by simp)).toBelow (Nat.le_refl _) (by simp)
                        have dH:=HD.out.below au
                        have s2:=dH.hd.2.2
                        rw [hl.out,nr.out,fD.out] at s2
                        have fu:=KO.out.only (ab.aD au (fun _=>False)) (by simp)
                        replace fu:=Lib.hid fu
                        replace au:=Lib.hid au
                        clear dZ hg dH)
 have oU:0<(l.map fun x=>Value.int .u64 (x:Nat)).length->∃ ad,D.A=some ad/\∀ j v,(l.map fun x=>Value.int .u64 (x:Nat))[j]?=some v->w2.cell? (ad.add j)=some v:=by
  intro hp
  rcases fu.out with q | ⟨b,o,cs,hA,hb,bg⟩
  ·rw [q] at hp; simp at hp
  ·refine ⟨⟨b,o,none⟩,hA,fun j v hv=>?_⟩
   have hj:j<l.length:=by
    have:=(List.getElem?_eq_some_iff.1 hv).1
    simpa using this
   rw [Addr.add_lit,hb.cell,bg j hj,<-hv]
   simp [nth,List.getD,hj]
 have hlen:(l.map fun x=>Value.int .u64 (x:Nat)).length=n:=by simpa using nr.out
 replace oU:=Lib.hid oU
 replace hlen:=Lib.hid hlen
 have Ey:w2.heap[w.heap.size]?=some (.cells (List.replicate n (Value.int .u64 0)).toArray 40 (0,0)):=iW
 replace Ey:=Lib.hid Ey
 replace iW:=Lib.hid iW
 have xN:(l.map fun x=>Value.int .u64 (x:Nat)).length=Nat.min n n:=by rw [hlen.out]; exact (Nat.min_self n).symm
 have od:0+(l.map fun x=>Value.int .u64 (x:Nat)).length<=(List.replicate n (Value.int .u64 0)).length:=by rw [hlen.out]; simp
 have na:∀ v∈(l.map fun x=>Value.int .u64 (x:Nat)),v.oneCell'=true:=by
  intro v hv; obtain ⟨x,_,rfl⟩:=List.mem_map.1 hv; rfl
 replace xN:=Lib.hid xN
 replace od:=Lib.hid od
 replace na:=Lib.hid na
 have cO:(Tryz.prog.info? 40).map (·.size)=some 1:=by rw [cW]; simp [cT]
 go_wp2_with (with_reducible refine wpList_copy_splice rfl (.tmp 10) (.tmp 14) 61 61 rfl 40 Tryz.underlying61 cO (some ⟨w.heap.size,0,none⟩) D.A n n n cap rfl rfl w.heap.size 0 (List.replicate n (Value.int .u64 0)) 40 Ey.out (l.map fun x=>Value.int .u64 (x:Nat)) xN.out (fun h=>⟨rfl,oU.out h⟩) od.out na.out w.heap.size w au.out (Nat.le_refl _) ?_
              intro w3 WI ba
              replace ba:=Lib.hid ba)
 go_ret
 refine ⟨some ⟨w.heap.size,0,none⟩,n,by rw [nr.out]; rfl,?_,ba.out⟩
 by_cases e:l=[]
 ·exact .inl e
 ·have hs:splice (List.replicate n (Value.int .u64 0)) 0 (l.map fun x=>Value.int .u64 (x:Nat))=l.map fun x=>Value.int .u64 (x:Nat):=by
   have:=hlen.out
   simp only [splice,List.take_zero,List.nil_append,Nat.zero_add]
   rw [List.drop_of_length_le (by rw [hlen.out]; simp),List.append_nil]
  refine .inr ⟨w.heap.size,0,_,rfl,WI.out,fun i hi=>?_⟩
  rw [hs,Nat.zero_add]
  simp [nth,List.getD,hi]
end
end Go.Proofs.YtpanebgakndddaaGreat.Re
