import Derived.Lib.BitFns
import Derived.Test.YtilcmkiihefkkaaGreatDoorJl1
set_option linter.unusedVariables false
set_option linter.unusedSimpArgs false
set_option maxRecDepth 1000000
set_option maxHeartbeats 64000000
namespace Go.Proofs.YtilcmkiihefkkaaGreatDoor
namespace Mn
def bef (a b:Int×Int):Prop:=a.2<b.2∨(a.2=b.2∧a.1<b.1)
def A3C (a b:Int×Int):Bool:=decide (a.2<b.2)||(decide (a.2=b.2)&&decide (a.1<b.1))
theorem A19 (a b:Int×Int):A3C a b=true↔bef a b:=by
 unfold A3C bef;simp only[Bool.or_eq_true,Bool.and_eq_true,decide_eq_true_iff]
theorem X0 (a b:Int×Int):A3C a b=false↔¬bef a b:=by
 rw[←A19];simp
theorem A2K (a:Int×Int):¬bef a a:=by unfold bef;omega
theorem V8 {a b c:Int×Int}(h1:bef a b)(d:bef b c):bef a c:=by unfold bef at *;omega
theorem A2q {a b:Int×Int}(h1:bef a b):¬bef b a:=by unfold bef at *;omega
theorem Z1 (a b:Int×Int):bef a b∨a=b∨bef b a:=by
 unfold bef;by_cases h1:a.2<b.2
 ·exact Or.inl (Or.inl h1)
 ·by_cases d:b.2<a.2
  ·exact Or.inr (Or.inr (Or.inl d))
  ·have c:a.2=b.2:=O;by_cases f:a.1<b.1
   ·exact Or.inl (Or.inr ⟨c,f⟩)
   ·by_cases g:b.1<a.1
    ·exact Or.inr (Or.inr (Or.inr ⟨c.symm,g⟩))
    ·exact Or.inr (Or.inl (Prod.ext O c))
theorem A24:∀(L M:List (Int×Int)),L.Pairwise bef→M.Pairwise bef→(∀x,x∈L↔x∈M)→L=M
 |[],[],_,_,_=>rfl
 |[],b::M,_,_,h=>by have:=(h b).2 Zs;simp at this
 |a::L,[],_,_,h=>by have:=(h a).1 Zs;simp at this
 |a::L,b::M,d,f,h=>by
  rw[List.pairwise_cons]at d f
  have g:a=b:=by
   rcases Z1 a b with h1|h1|h1
   ·have:=(h a).1 Zs
    rcases List.mem_cons.1 this with e|e
    ·exact e
    ·exact absurd h1 (A2q (f.1 a e))
   ·exact h1
   ·have:=(h b).2 Zs
    rcases List.mem_cons.1 this with e|e
    ·exact e.symm
    ·exact absurd h1 (A2q (d.1 b e))
  subst g
  have:=A24 L M d.2 f.2 (fun x=>by
   constructor
   ·intro c
    rcases List.mem_cons.1 ((h x).1 (List.mem_cons_of_mem _ c)) with e|e
    ·subst e;exact absurd (d.1 x c) (A2K x)
    ·exact e
   ·intro c
    rcases List.mem_cons.1 ((h x).2 (List.mem_cons_of_mem _ c)) with e|e
    ·subst e;exact absurd (f.1 x c) (A2K x)
    ·exact e)
  rw[this]
def uniq:List (Int×Int)→List (Int×Int)
 |[]=>[]
 |[a]=>[a]
 |a::b::t=>if a=b then uniq (b::t) else a::uniq (b::t)
theorem A1G:∀(L:List (Int×Int)) (x:Int×Int),x∈uniq L↔x∈L
 |[],x=>by simp[uniq]
 |[a],x=>by simp[uniq]
 |a::b::t,x=>by
  unfold uniq
  split
  ·rename_i h;subst h
   rw[A1G (a::t) x];simp
  ·rw[List.mem_cons,A1G (b::t) x,List.mem_cons (a:=x) (b:=a)]
theorem A5Y:∀(L:List (Int×Int)),L.Pairwise (fun a b=>¬bef b a)→(uniq L).Pairwise bef
 |[],_=>by simp[uniq]
 |[a],_=>by simp[uniq]
 |a::b::t,h=>by
  unfold uniq
  have g:=A5Y (b::t) (List.pairwise_cons.1 h).2
  split
  ·exact g
  ·rename_i i
   rw[List.pairwise_cons]
   refine⟨fun y f=>?_,g⟩
   rw[A1G]at f
   have j:=(List.pairwise_cons.1 h).1
   rcases Z1 a y with c|c|c
   ·exact c
   ·subst c
    rcases List.mem_cons.1 f with e|e
    ·exact absurd e i
    ·have k:=(List.pairwise_cons.1 (List.pairwise_cons.1 h).2).1 a e
     have l:=j b Zs
     rcases Z1 a b with d|d|d
     ·exact absurd d k
     ·exact absurd d i
     ·exact absurd d l
   ·exact absurd c (j y f)
theorem A0P:∀(L:List (Int×Int)),(uniq L).length≤L.length
 |[]=>by simp[uniq]
 |[a]=>by simp[uniq]
 |a::b::t=>by
  unfold uniq
  have:=A0P (b::t)
  split
  ·simp only[List.length_cons]at *;omega
  ·simp only[List.length_cons]at *;omega
def leB (x y:Int×Int):Bool:=!A3C y x
def canon (L:List (Int×Int)):List (Int×Int):=uniq (L.mergeSort leB)
theorem A4M (L:List (Int×Int)):(L.mergeSort leB).Pairwise (fun a b=>¬bef b a):=by
 have:=List.pairwise_mergeSort (le:=leB) (fun a b c h1 f=>by
  unfold leB at *;simp only[Bool.not_eq_true',X0]at *;rcases Z1 a b with h|h|h
  ·rcases Z1 b c with d|d|d
   ·exact fun g=>A2K a (V8 (V8 h d) g)
   ·subst d;exact h1
   ·exact absurd d f
  ·subst h;exact f
  ·exact absurd h h1) (fun a b=>by
  unfold leB;simp only[Bool.or_eq_true,Bool.not_eq_true',X0];by_cases h:bef b a
  ·exact Or.inr (A2q h)
  ·exact Or.inl h) L
 refine this.imp ?_;intro a b h;unfold leB at h;rw[Bool.not_eq_true',X0]at h;exact h
theorem A9L (L:List (Int×Int)):(canon L).Pairwise bef:=A5Y _ (A4M L)
theorem A0j (L:List (Int×Int))(x:Int×Int):x∈canon L↔x∈L:=by
 unfold canon;rw[A1G];exact List.mem_mergeSort
theorem U8 (L:List (Int×Int)):(canon L).length≤L.length:=by
 unfold canon;have:=A0P (L.mergeSort leB);rwa [List.length_mergeSort]at this
theorem A4P (L M:List (Int×Int))(h:M.Pairwise bef)(hm:∀x,x∈M↔x∈L):M=canon L:=
 A24 M (canon L) h (A9L L) (fun x=>by rw[hm,A0j])
theorem A0N (L:List (Int×Int))(h:L≠[]):0<(canon L).length:=by
 cases L with
 |nil=>exact absurd rfl h
 |cons a t=>
  have:a∈canon (a::t):=(A0j _ _).2 Zs;exact List.length_pos_of_mem this
def lst (a b k:Int):Int:=min (min a b) k
def apt (a b:Int):Int:=max a b-min a b
def qtr (x y:Int×Int)(k:Int):Int:=
 4*lst (y.2-x.2) (y.1-x.1) k-apt (y.2-x.2) (y.1-x.1)-2*(Go.Lib.bitLen (apt (y.2-x.2) (y.1-x.1)).toNat:Nat)
structure Lk where
 a:Int×Int
 q:Int
 p:Int
def F8:Lk:=⟨(0,0),0,0⟩
def fol (x y:Int×Int):Prop:=x.2<y.2∧x.1<y.1
def A47 (x y:Int×Int):Bool:=decide (x.2<y.2)&&decide (x.1<y.1)
theorem A6G (a b:Int×Int):A47 a b=true↔fol a b:=by
 unfold A47 fol;simp only[Bool.and_eq_true,decide_eq_true_iff]
def L9 (k:Int)(x:Int×Int)(T:List Lk):Nat→Int×Int
 |0=>(4*k,-1)
 |j+1=>if ((T.getD j F8).a.2<x.2∧(T.getD j F8).a.1<x.1)∧(L9 k x T j).1<(T.getD j F8).q+qtr (T.getD j F8).a x k then ((T.getD j F8).q+qtr (T.getD j F8).a x k,j) else L9 k x T j
def tb (k:Int)(S:List (Int×Int)):Nat→List Lk
 |0=>[]
 |i+1=>tb k S i++[⟨S.getD i (0,0),(L9 k (S.getD i (0,0)) (tb k S i) i).1,(L9 k (S.getD i (0,0)) (tb k S i) i).2⟩]
def mxi (T:List Lk):Nat→Nat
 |0=>0
 |i+1=>if (T.getD (mxi T i) F8).q<(T.getD i F8).q then i else mxi T i
def bk (T:List Lk):Nat→Int→List (Int×Int)
 |0,_=>[]
 |f+1,p=>if p<0 then [] else (T.getD p.toNat F8).a::bk T f (T.getD p.toNat F8).p
theorem R6 (k:Int)(S:List (Int×Int)):∀i,(tb k S i).length=i
 |0=>rfl
 |i+1=>by simp[tb,R6 k S i]
theorem P6 (k:Int)(S:List (Int×Int))(i:Nat):∀n,i<n→(tb k S n).getD i F8=⟨S.getD i (0,0),(L9 k (S.getD i (0,0)) (tb k S i) i).1,(L9 k (S.getD i (0,0)) (tb k S i) i).2⟩
 |0,h=>O
 |n+1,h=>by
  by_cases hi:i<n
  ·rw[←P6 k S i n hi]
   simp only[tb]
   rw[List.getD_eq_getElem?_getD,List.getElem?_append_left (by rw[R6];exact hi),←List.getD_eq_getElem?_getD]
  ·have:i=n:=O
   subst this
   simp only[tb]
   rw[List.getD_eq_getElem?_getD,List.getElem?_append_right (by rw[R6];exact Nat.le_refl _),R6]
   simp
theorem A7x (k:Int)(x:Int×Int)(T:List Lk):∀j,4*k≤(L9 k x T j).1
 |0=>by simp[L9]
 |j+1=>by
  have:=A7x k x T j
  unfold L9
  split
  ·rename_i h;simp only;omega
  ·exact this
theorem A6o (k:Int)(x:Int×Int)(T:List Lk):∀j,-1≤(L9 k x T j).2∧(L9 k x T j).2<j
 |0=>by simp[L9]
 |j+1=>by
  have:=A6o k x T j
  unfold L9
  split
  ·simp only;omega
  ·omega
theorem A5k (x y:Int×Int)(k:Int):qtr x y k≤4*k:=by
 unfold qtr lst apt;omega
theorem B0v (k:Int)(hk:0≤k)(x:Int×Int)(T:List Lk)(n:Nat)(b:∀j,j<n→(T.getD j F8).q≤4*k*(j+1)):∀j,j≤n→(L9 k x T j).1≤4*k*(j+1)
 |0,_=>by simp[L9]
 |j+1,h=>by
  have h1:=B0v k hk x T n b j O
  have c:=b j O
  have d:=A5k (T.getD j F8).a x k
  have f:4*k*((j+1:Nat)+1:Int)=4*k*(j+1)+4*k:=by
   rw[Int.mul_add,Int.mul_one];simp
  unfold L9
  split
  ·simp only;omega
  ·omega
theorem W7 (k:Int)(hk:0≤k)(S:List (Int×Int))(n:Nat):∀i,i<n→4*k≤((tb k S n).getD i F8).q∧((tb k S n).getD i F8).q≤4*k*(i+1)∧-1≤((tb k S n).getD i F8).p∧((tb k S n).getD i F8).p<i:=by
 intro i;induction i using Nat.strongRecOn with
 |_ i b=>
  intro hi;rw[P6 k S i n hi];refine⟨A7x ..,?_,(A6o ..).1,(A6o ..).2⟩;refine B0v k hk _ _ i (fun j a=>?_) i (Nat.le_refl _);have:=(b j a O).2.1;rw[P6 k S j n O]at this;rw[P6 k S j i a];exact this
theorem A2f (k:Int)(x:Int×Int)(T a:List Lk):∀j,(∀i,i<j→T.getD i F8=a.getD i F8)→L9 k x T j=L9 k x a j
 |0,_=>rfl
 |j+1,h=>by
  unfold L9
  rw[h j O,A2f k x T a j (fun i hi=>h i O)]
theorem A0l (T:List Lk):∀i,0<i→mxi T i<i
 |0,h=>O
 |i+1,_=>by
  unfold mxi
  split
  ·omega
  ·by_cases h:0<i
   ·have:=A0l T i h;omega
   ·have:i=0:=O
    subst this;simp[mxi]
theorem A72 (T:List Lk)(n:Nat)(c:∀i,i<n→(T.getD i F8).p<i):∀(f:Nat) (p:Int),p<n→p<f→bk T (f+1) p=bk T f p
 |0,p,h1,d=>by
  have g:p<0:=by simpa using d
  simp[bk,g]
 |f+1,p,h1,d=>by
  by_cases b:p<0
  ·simp[bk,b]
  ·have k:=c p.toNat O
   have h:bk T (f+1) (T.getD p.toNat F8).p=bk T f (T.getD p.toNat F8).p:=A72 T n c f _ O O
   have e1:bk T (f+1+1) p=(T.getD p.toNat F8).a::bk T (f+1) (T.getD p.toNat F8).p:=by
    show(if p<0 then [] else _)=_
    rw[if_neg b]
   have j:bk T (f+1) p=(T.getD p.toNat F8).a::bk T f (T.getD p.toNat F8).p:=by
    show(if p<0 then [] else _)=_
    rw[if_neg b]
   rw[e1,j,h]
def chT (k:Int)(L:List (Int×Int)):List Lk:=tb k (canon L) (canon L).length
def chM (k:Int)(L:List (Int×Int)):Nat:=mxi (chT k L) (canon L).length
def N5 (k:Int)(L:List (Int×Int)):List (Int×Int):=(bk (chT k L) (canon L).length (chM k L)).reverse
def chQ (k:Int)(L:List (Int×Int)):Int:=((chT k L).getD (chM k L) F8).q
def Y6 (o:List (Int×Int))(k:Nat)(y:Int×Int):List (Int×Int):=o.take k++y::o.drop k
theorem P1 (o:List (Int×Int))(k:Nat)(y:Int×Int):(Y6 o k y).length=o.length+1:=by
 unfold Y6;simp only[List.length_append,List.length_take,List.length_cons,List.length_drop];omega
theorem B0I (o:List (Int×Int))(y:Int×Int):Y6 o o.length y=o++[y]:=by
 unfold Y6;simp
theorem A6C (o:List (Int×Int))(k:Nat)(y z:Int×Int)(h:k≤o.length):(Y6 o k y).set k z=Y6 o k z:=by
 unfold Y6;rw[List.set_append_right _ _ Zo,List.length_take,Nat.min_eq_left h,Nat.sub_self,List.set_cons_zero]
theorem A9J (o:List (Int×Int))(k:Nat)(h:k+1≤o.length)(z:Int×Int)(a:z=o[k]'O):Y6 o (k+1) z=Y6 o k z:=by
 unfold Y6;rw[List.take_succ_eq_append_getElem O,List.append_assoc,List.drop_eq_getElem_cons (show k<o.length by omega),←a];rfl
theorem B0c (o:List (Int×Int))(k j:Nat)(y:Int×Int)(h:k≤o.length)(a:j<k):(Y6 o k y)[j]'(by rw[P1];omega)=o[j]'O:=by
 unfold Y6;rw[List.getElem_append_left Zo];simp
theorem B01 (o:List (Int×Int))(k:Nat)(y x:Int×Int):x∈Y6 o k y↔x∈o∨x=y:=by
 unfold Y6;rw[List.mem_append,List.mem_cons];conv=>rhs;rw[←List.take_append_drop k o,List.mem_append]
 constructor
 ·rintro (h|h|h)
  ·exact Or.inl (Or.inl h)
  ·exact Or.inr h
  ·exact Or.inl (Or.inr h)
 ·rintro ((h|h)|h)
  ·exact Or.inl h
  ·exact Or.inr (Or.inr h)
  ·exact Or.inr (Or.inl h)
theorem B04 (o:List (Int×Int))(hs:o.Pairwise bef)(k:Nat)(x:Int×Int)(hk:k≤o.length)(h1:∀h:0<k,bef (o[k-1]'O) x)(l:∀j (c:j<o.length),k≤j→¬bef o[j] x)(m:∀j (c:j<o.length),k≤j→o[j]≠x):(Y6 o k x).Pairwise bef:=by
 unfold Y6;rw[List.pairwise_iff_getElem]at hs;have f:∀y∈o.take k,bef y x:=by
  intro y d;obtain⟨j,c,rfl⟩:=List.getElem_of_mem d;rw[List.length_take]at c;have p:j<k:=O;rw[List.getElem_take];have:=h1 O;by_cases he:j=k-1
  ·subst he;exact this
  ·exact V8 (hs j (k-1) O O O) this
 have g:∀y∈o.drop k,bef x y:=by
  intro y d;obtain⟨j,c,rfl⟩:=List.getElem_of_mem d;rw[List.length_drop]at c;rw[List.getElem_drop];rcases Z1 x (o[k+j]'O) with h|h|h
  ·exact h
  ·exact absurd h.symm (m _ _ O)
  ·exact absurd h (l _ _ O)
 rw[List.pairwise_append];refine⟨?_,?_,?_⟩
 ·exact List.Pairwise.sublist (List.take_sublist k o) (List.pairwise_iff_getElem.2 hs)
 ·rw[List.pairwise_cons];exact⟨g,List.Pairwise.sublist (List.drop_sublist k o) (List.pairwise_iff_getElem.2 hs)⟩
 ·intro a i b n;rcases List.mem_cons.1 n with e|e
  ·subst e;exact f a i
  ·exact V8 (f a i) (g b e)
theorem A1k (L:List (Int×Int))(i:Nat)(h:i<L.length)(x:Int×Int):x∈L.take (i+1)↔x∈L.take i∨x=L[i]:=by
 rw[List.take_succ_eq_append_getElem h,List.mem_append,List.mem_singleton]
end Mn
end Go.Proofs.YtilcmkiihefkkaaGreatDoor
