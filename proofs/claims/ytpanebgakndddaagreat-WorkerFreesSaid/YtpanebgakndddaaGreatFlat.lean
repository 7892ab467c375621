/- A part. -/
namespace Go.Proofs.YtpanebgakndddaaGreat.Fl
section
variable {α β:Type} {f:α->List β} {c:Nat} {xs:List α}
theorem lX (hf:∀ x,(f x).length=c) (xs:List α):(xs.flatMap f).length=xs.length*c:=by
 induction xs with
 | nil=>simp
 | cons x r ih=>simp [List.flatMap_cons,ih,hf,Nat.add_mul,Nat.add_comm]
theorem oh (hf:∀ x,(f x).length=c) (xs:List α) (i j:Nat) (hj:j<c):(xs.flatMap f)[i*c+j]?=xs[i]?.bind fun x=>(f x)[j]?:=by
 induction xs generalizing i with
 | nil=>simp
 | cons x r ih=>
   rw [List.flatMap_cons]
   cases i with
   | zero=>simp [List.getElem?_append,hf,hj]
   | succ k=>
     rw [List.getElem?_append_right (by rw [hf,Nat.add_mul]; omega),hf,show (k+1)*c+j-c=k*c+j from by rw [Nat.add_mul]; omega,ih]
     simp
theorem rK (hf:∀ x,(f x).length=c) (xs:List α) (i j:Nat) (hj:j<c) (x y:α) (v:β) (hx:xs[i]?=some x) (hy:f y=(f x).set j v):(xs.set i y).flatMap f=(xs.flatMap f).set (i*c+j) v:=by
 induction xs generalizing i with
 | nil=>simp at hx
 | cons z r ih=>
   cases i with
   | zero=>
     simp at hx
     subst hx
     simp [List.flatMap_cons,hy,hf,hj]
   | succ k=>
     simp at hx
     rw [List.set_cons_succ,List.flatMap_cons,List.flatMap_cons,List.set_append,if_neg (by rw [hf,Nat.add_mul]; omega),hf,show (k+1)*c+j-c=k*c+j from by rw [Nat.add_mul]; omega,ih k hx]
theorem NS (hf:∀ x,(f x).length=2) (xs:List α) (i:Nat) (x y:α) (u v:β) (hx:xs[i]?=some x) (hy:f y=[u,v]):(xs.set i y).flatMap f=((xs.flatMap f).set (i*2) u).set (i*2+1) v:=by
 have hz:f x=[(f x)[0]'(by simp [hf]),(f x)[1]'(by simp [hf])]:=by
  apply List.ext_getElem
  ·simp [hf]
  ·intro n h1 h2
   simp [hf] at h1
   match n,h1 with
   | 0,_=>rfl
   | 1,_=>rfl
 have hi:i<xs.length:=(List.getElem?_eq_some_iff.1 hx).1
 induction xs generalizing i with
 | nil=>simp at hx
 | cons w r ih=>
   cases i with
   | zero=>
     simp at hx
     subst hx
     rw [List.set_cons_zero,List.flatMap_cons,List.flatMap_cons,hy,hz]
     rfl
   | succ k=>
     simp at hx
     have hi:k<r.length:=by simpa using hi
     have h2:=hf w
     rw [List.set_cons_succ,List.flatMap_cons,List.flatMap_cons,List.set_append,if_neg (by rw [hf]; omega),List.set_append,if_neg (by rw [hf]; omega),ih k hx hi,hf,
      show (k+1)*2-2=k*2 from by omega,show (k+1)*2+1-2=k*2+1 from by omega]
end
end Go.Proofs.YtpanebgakndddaaGreat.Fl
