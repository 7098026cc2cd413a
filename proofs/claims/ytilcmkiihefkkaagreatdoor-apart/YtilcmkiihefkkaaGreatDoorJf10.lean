import Derived.Test.YtilcmkiihefkkaaGreatDoorJf5
import Derived.Test.YtilcmkiihefkkaaGreatDoorJf8
set_option linter.unusedVariables false
set_option linter.unusedSimpArgs false
set_option maxRecDepth 1000000
set_option maxHeartbeats 64000000
open Go.Value renaming int→I
open Go.IntKind renaming i64→J
namespace Go.Proofs.YtilcmkiihefkkaaGreatDoor
namespace Mn
section
open Go.RowKit
def A9 (L:List (Int×Int)):List Value:=L.flatMap fun x=>[I J x.1,I J x.2]
theorem J2 (E F:List (Int×Int)):A9 (E++F)=A9 E++A9 F:=by simp[A9]
theorem M0 (E:List (Int×Int)):(A9 E).length=E.length*2:=by
 induction E with
 |nil=>rfl
 |cons x E a=>
  show(I J x.1::I J x.2::A9 E).length=_;simp only[List.length_cons,a];omega
theorem N5 (E:List (Int×Int)):∀j (h:j<E.length),(A9 E)[2*j]?=some (I J E[j].1)∧(A9 E)[2*j+1]?=some (I J E[j].2):=by
 induction E with
 |nil=>intro j h;exact absurd h Zs
 |cons x E a=>
  intro j h;cases j with
  |zero=>exact⟨rfl,rfl⟩
  |succ j=>
   have:=a j (by simpa using h);show(I J x.1::I J x.2::A9 E)[2*(j+1)]?=_∧(I J x.1::I J x.2::A9 E)[2*(j+1)+1]?=_;rw[show 2*(j+1)=2*j+1+1 by omega];simpa using this
theorem A07 (X:List (Int×Int))(cur:Array Value)(o:Nat):(∀i u,(A9 X)[i]?=some u→cur[o+i]?=some u)↔∀q (h:q<X.length),cur[o+2*q]?=some (I J X[q].1)∧cur[o+(2*q+1)]?=some (I J X[q].2):=by
 constructor
 ·intro h q a;have:=N5 X q a;exact⟨h _ _ this.1,h _ _ this.2⟩
 ·intro h i u hi;have d:i<X.length*2:=by
   rcases Nat.lt_or_ge i (A9 X).length with b|b
   ·rwa [M0]at b
   ·rw[List.getElem?_eq_none b]at hi;exact absurd hi Zs
  have a:i/2<X.length:=O;have h1:=N5 X (i/2) a;have c:=h (i/2) a;rcases (show i=2*(i/2)∨i=2*(i/2)+1 by omega) with he|he
  ·rw[he]at hi⊢;rw[h1.1]at hi;rw[c.1];exact hi
  ·rw[he]at hi⊢;rw[h1.2]at hi;rw[c.2];exact hi
theorem A3.ans {w:World}{t:TypeId}{base g o cap n:Nat}{L:List (Int×Int)}(h:A3 w base t 2 (.slice (some ⟨g,o,none⟩) n cap) n (A9 L)) :
 ∀j (a:j<L.length),w.cell? ⟨g,o+j*2,none⟩=some (I J L[j].1)∧w.cell? ⟨g,o+j*2+1,none⟩=some (I J L[j].2):=by
 rcases h.2 with⟨h,_⟩|⟨_,_,_,cur,he,h1,b,d,f,i,c⟩
 ·simp at h
 ·simp only[Value.slice.injEq,Option.some.injEq,Addr.mk.injEq,and_true,true_and]at he;obtain⟨⟨rfl,rfl⟩,rfl⟩:=he;intro j a;have:=N5 L j a;rw[Nat.mul_comm];exact⟨A1 b (c _ _ this.1),A1 b (c _ _ this.2)⟩
theorem A3.setA {w:World}{t:TypeId}{base g o n cap:Nat}{X:List (Int×Int)}(h:A3 w base t 2 (.slice (some ⟨g,o,none⟩) n cap) n (A9 X))(s:X.length=n)(j:Nat)(u:j<n)(y:(Int×Int)) :
 A3 ((w.setCell ⟨g,o+j*2,none⟩ (I J y.1)).setCell ⟨g,o+j*2+1,none⟩ (I J y.2)) base t 2 (.slice (some ⟨g,o,none⟩) n cap) n (A9 (X.set j y)):=by
 obtain⟨a,h⟩:=h;refine⟨by rw[M0]at a⊢;rw[List.length_set];exact a,?_⟩;rcases h with⟨h,_⟩|⟨g',o',cap',cur,he,h1,k,b,l,c,d⟩
 ·simp at h
 ·simp only[Value.slice.injEq,Option.some.injEq,Addr.mk.injEq,and_true,true_and]at he;obtain⟨⟨rfl,rfl⟩,rfl⟩:=he;have m:=(D7.of_setCell (i:=o+j*2) (I J y.1) k).setCell (i:=o+j*2+1) (I J y.2);refine Or.inr ⟨g,o,cap,_,rfl,h1,m.here,b,l,by simpa using c,?_⟩;rw[A07]at d⊢;intro q p;rw[List.length_set]at p;have v:o+n*2≤cur.size:=Nat.le_trans (Nat.add_le_add_left (Nat.mul_le_mul_right 2 b) o) c;by_cases f:q=j
  ·subst f;simp only[List.getElem_set_self];refine⟨?_,?_⟩
   ·rw[Array.getElem?_setIfInBounds_ne O,show o+2*q=o+q*2 by omega,Array.getElem?_setIfInBounds_self_of_lt O]
   ·rw[show o+(2*q+1)=o+q*2+1 by omega,Array.getElem?_setIfInBounds_self_of_lt Zo]
  ·have r:j≠q:=fun h=>f h.symm;have:=d q O;rw[List.getElem_set_ne r];refine⟨?_,?_⟩
   ·rw[Array.getElem?_setIfInBounds_ne O,Array.getElem?_setIfInBounds_ne O];exact this.1
   ·rw[Array.getElem?_setIfInBounds_ne O,Array.getElem?_setIfInBounds_ne O];exact this.2
end
end Mn
end Go.Proofs.YtilcmkiihefkkaaGreatDoor
