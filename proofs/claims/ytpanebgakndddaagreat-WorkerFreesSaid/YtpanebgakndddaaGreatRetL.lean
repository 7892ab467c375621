/- A part. -/
import Derived.Test.YtpanebgakndddaaGreatRetB
set_option linter.unusedVariables false
set_option linter.unusedSimpArgs false
namespace Go.Proofs.YtpanebgakndddaaGreat.Re
open Go Go.RowKit Hp K Fl Rw Hm Ar Mm Me Qs
set_option maxRecDepth 100000
theorem SI (v:Value) (n:Nat):(madeCells #[v] n).toList=List.replicate n v:=by
 apply List.ext_getElem?
 intro j
 by_cases h:j<n
 ·simp [madeCells,h,Nat.mod_one]
 ·simp [madeCells,h]
def SJ (w w':World) (l:List Nat) (e:Ending):Prop:=∃ A cap,e=.returned (.slice A l.length cap)/\nE w' A l/\Below w.heap.size w w'
section
variable {w:World} {D:Dr}
theorem Oc (hD:df w D) (hn:D.left.length<=1000000):Calls Tryz.prog 37 #[ptr D.f] w fun e w'=>SJ w w' D.left e:=by
 have c2:=hD.hd.2.2
 have lf:=hD.an.lt
 obtain ⟨i0,cW,cP,cT,dh⟩:=info_parts Cj
 have KE:=Lib.hid hD.jT
 have HD:=Lib.hid hD
 clear hD
 generalize hl:D.left=l at*
 generalize nj:l.length=n at*
 generalize fB:D.cap=cap at*
 replace nj:=Lib.hid nj
 replace hl:=Lib.hid hl
 replace fB:=Lib.hid fB
 go_enter Tryz.func37,Tryz.ntmps37
 go_upto_region 2 with (at_make
                        refine wpList_make_full _ rfl (.tmp 8) (.tmp 8) 61 rfl w.heap.size 40 i0 _ 1 Tryz.underlying61 cW cP cT .i64 .i64 n n n rfl rfl rfl rfl (by rw [dh]; omega) (by simp only [maxLen]; omega) (Nat.le_refl _) ?_
                        intro w2 dY hg
                        have iQ:=(B6 dY).1
                        rw [show (Value.int IntKind.u64 0).cells=#[.int .u64 0] from rfl,SI,Nat.mul_one] at iQ
                        have au:Below w.heap.size w w2:=((ab.refl (fun _=>False) w).grown hg (by simp)).toBelow (Nat.le_refl _) (by simp)
                        have dL:=HD.out.below au
                        have s2:=dL.hd.2.2
                        rw [hl.out,nj.out,fB.out] at s2
                        have fp:=KE.out.only (ab.aD au (fun _=>False)) (by simp)
                        replace fp:=Lib.hid fp
                        replace au:=Lib.hid au
                        clear dY hg dL)
 have oQ:0<(l.map fun x=>Value.int .u64 (x:Nat)).length->∃ ad,D.A=some ad/\∀ j v,(l.map fun x=>Value.int .u64 (x:Nat))[j]?=some v->w2.cell? (ad.add j)=some v:=by
  intro hp
  rcases fp.out with q | ⟨b,o,cs,hA,hb,bf⟩
  ·rw [q] at hp; simp at hp
  ·refine ⟨⟨b,o,none⟩,hA,fun j v hv=>?_⟩
   have hj:j<l.length:=by
    have:=(List.getElem?_eq_some_iff.1 hv).1
    simpa using this
   rw [Addr.add_lit,hb.cell,bf j hj,<-hv]
   simp [nth,List.getD,hj]
 have hlen:(l.map fun x=>Value.int .u64 (x:Nat)).length=n:=by simpa using nj.out
 replace oQ:=Lib.hid oQ
 replace hlen:=Lib.hid hlen
 have Ek:w2.heap[w.heap.size]?=some (.cells (List.replicate n (Value.int .u64 0)).toArray 40 (0,0)):=iQ
 replace Ek:=Lib.hid Ek
 replace iQ:=Lib.hid iQ
 have xE:(l.map fun x=>Value.int .u64 (x:Nat)).length=Nat.min n n:=by rw [hlen.out]; exact (Nat.min_self n).symm
 have n7:0+(l.map fun x=>Value.int .u64 (x:Nat)).length<=(List.replicate n (Value.int .u64 0)).length:=by rw [hlen.out]; simp
 have m8:∀ v∈(l.map fun x=>Value.int .u64 (x:Nat)),v.oneCell'=true:=by
  intro v hv; obtain ⟨x,_,rfl⟩:=List.mem_map.1 hv; rfl
 replace xE:=Lib.hid xE
 replace n7:=Lib.hid n7
 replace m8:=Lib.hid m8
 have cQ:(Tryz.prog.info? 40).map (·.size)=some 1:=by rw [cW]; simp [cT]
 go_wp2_with (with_reducible refine wpList_copy_splice rfl (.tmp 10) (.tmp 14) 61 61 rfl 40 Tryz.underlying61 cQ (some ⟨w.heap.size,0,none⟩) D.A n n n cap rfl rfl w.heap.size 0 (List.replicate n (Value.int .u64 0)) 40 Ek.out (l.map fun x=>Value.int .u64 (x:Nat)) xE.out (fun h=>⟨rfl,oQ.out h⟩) n7.out m8.out w.heap.size w au.out (Nat.le_refl _) ?_
              intro w3 Wm aZ
              replace aZ:=Lib.hid aZ)
 go_ret
 refine ⟨some ⟨w.heap.size,0,none⟩,n,by rw [nj.out]; rfl,?_,aZ.out⟩
 by_cases e:l=[]
 ·exact .inl e
 ·have hs:splice (List.replicate n (Value.int .u64 0)) 0 (l.map fun x=>Value.int .u64 (x:Nat))=l.map fun x=>Value.int .u64 (x:Nat):=by
   have:=hlen.out
   simp only [splice,List.take_zero,List.nil_append,Nat.zero_add]
   rw [List.drop_of_length_le (by rw [hlen.out]; simp),List.append_nil]
  refine .inr ⟨w.heap.size,0,_,rfl,Wm.out,fun i hi=>?_⟩
  rw [hs,Nat.zero_add]
  simp [nth,List.getD,hi]
end
end Go.Proofs.YtpanebgakndddaaGreat.Re
