import Derived.Test.YtilcmkiihefkkaaGreatDoorProg
import Derived.Test.YtilcmkiihefkkaaGreatDoorJl1
set_option linter.unusedVariables false
set_option linter.unusedSimpArgs false
set_option maxRecDepth 1000000
set_option maxHeartbeats 64000000
namespace Go.Proofs.YtilcmkiihefkkaaGreatDoor
structure C3 where
 m:Int
 i:Int
 d:Int
def aM (c:C3):Int:=min c.m (min c.i c.d)
def aI (c:C3):Int:=min (c.m+4) (min c.i (c.d+4))
def aD (c:C3):Int:=min (c.m+4) (min (c.i+4) c.d)
def A7K (N:Int):Nat→C3
 |0=>⟨0,N,N⟩
 |j+1=>⟨N,N,aD (A7K N j)+2⟩
def B3p (N:Int)(u:Nat→Int)(p:Nat→C3):Nat→C3
 |0=>⟨N,aI (p 0)+2,N⟩
 |j+1=>⟨aM (p j)+u j,aI (p (j+1))+2,aD (B3p N u p j)+2⟩
def cel (N:Int)(u:Nat→Nat→Int):Nat→Nat→C3
 |0=>A7K N
 |i+1=>B3p N (u i) (cel N u i)
theorem B3W (N:Int)(u:Nat→Nat→Int):cel N u 0 0=⟨0,N,N⟩:=rfl
theorem A7R (N:Int)(u:Nat→Nat→Int)(j:Nat):cel N u 0 (j+1)=⟨N,N,aD (cel N u 0 j)+2⟩:=rfl
theorem A8a (N:Int)(u:Nat→Nat→Int)(i:Nat):cel N u (i+1) 0=⟨N,aI (cel N u i 0)+2,N⟩:=rfl
theorem A6q (N:Int)(u:Nat→Nat→Int)(i j:Nat):cel N u (i+1) (j+1)=⟨aM (cel N u i j)+u i j,aI (cel N u i (j+1))+2,aD (cel N u (i+1) j)+2⟩:=rfl
def okC (N:Int)(c:C3)(i j:Nat):Prop:=
 0≤c.m∧0≤c.i∧0≤c.d∧(c.m≤6*((i:Int)+j)∨c.i≤6*((i:Int)+j)∨c.d≤6*((i:Int)+j))∧(i=0→c.i=N)∧(j=0→c.d=N)∧(0<i→c.i≤6*((i:Int)+j))∧(0<j→c.d≤6*((i:Int)+j))∧
 (0<i→0<j→c.m≤6*((i:Int)+j))∧(i=0→0<j→c.m=N)∧(0<i→j=0→c.m=N)∧(i=0→j=0→c.m=0)
theorem G6 (N:Int)(C:10000≤N)(u:Nat→Nat→Int)(hu:∀i j,0≤u i j∧u i j≤4):∀i j,i≤300→j≤600→okC N (cel N u i j) i j:=by
 intro i;induction i with
 |zero=>
  intro j;induction j with
  |zero=>
   intro _ _;rw[B3W];unfold okC;simp;omega
  |succ j y=>
   intro hi g;have h:=y hi O;rw[A7R];generalize cel N u 0 j=c at h⊢;obtain⟨m,i,d⟩:=c;unfold okC at *;simp only[aD]at *;obtain⟨t,a2,a3,a4,a5,k,l,n,a9,o,p,a12⟩:=h;have q:=a5 trivial;have b:0<j→d≤6*(((0:Nat):Int)+j):=n;have f:j=0→m=0:=a12 trivial;have r:j=0∨0<j:=O;have z:d+2≤6*(((0:Nat):Int)+j)+6∨m+6≤6*(((0:Nat):Int)+j)+6:=by
    rcases r with h|h
    ·right;rw[f h];omega
    ·left;have:=b h;omega
   clear a4 a5 k l n a9 o p a12 b f;refine⟨?_,?_,?_,?_,?_,?_,?_,?_,?_,?_,?_,?_⟩<;>(try intros)<;>first|rfl|omega|(exfalso;omega)|(rename_i h;exact absurd h Zs)|(rename_i h a;exact absurd h Zs)|(rename_i h a;exact absurd a Zs)
 |succ i s=>
  intro j;induction j with
  |zero=>
   intro hi g;have h:=s 0 O g;rw[A8a];generalize cel N u i 0=c at h⊢;obtain⟨m,x,d⟩:=c;unfold okC at *;simp only[aI]at *;obtain⟨t,a2,a3,a4,a5,k,l,n,a9,o,p,a12⟩:=h;have q:=k trivial;have b:0<i→x≤6*((i:Int)+((0:Nat):Int)):=l;have f:i=0→m=0:=fun h=>a12 h trivial;have r:i=0∨0<i:=O;have z:x+2≤6*((i:Int)+((0:Nat):Int))+6∨m+6≤6*((i:Int)+((0:Nat):Int))+6:=by
    rcases r with h|h
    ·right;rw[f h];omega
    ·left;have:=b h;omega
   clear a4 a5 k l n a9 o p a12 b f;refine⟨?_,?_,?_,?_,?_,?_,?_,?_,?_,?_,?_,?_⟩<;>(try intros)<;>first|rfl|omega|(exfalso;omega)|(rename_i h;exact absurd h Zs)|(rename_i h a;exact absurd h Zs)|(rename_i h a;exact absurd a Zs)
  |succ j A=>
   intro hi g;have h1:=s j O O;have v:=s (j+1) O g;have w:=A hi O;have B:=hu i j;rw[A6q];generalize u i j=x at B⊢;generalize cel N u i j=c1 at h1⊢;generalize cel N u i (j+1)=c2 at v⊢;generalize cel N u (i+1) j=c3 at w⊢;obtain⟨m1,D,d1⟩:=c1;obtain⟨m2,i2,d2⟩:=c2;obtain⟨m3,i3,d3⟩:=c3;unfold okC at *;simp only[aI,aD,aM]at *;obtain⟨t,a2,a3,a4,-⟩:=h1;obtain⟨b1,b2,b3,b4,-,-,-,q,-⟩:=v;obtain⟨c1,c2,c3,c4,-,-,c5,-⟩:=w;have E:=q O;have F:=c5 O;refine⟨?_,?_,?_,?_,?_,?_,?_,?_,?_,?_,?_,?_⟩<;>(try intros)<;>first|rfl|omega|(exfalso;omega)|(rename_i h;exact absurd h Zs)|(rename_i h a;exact absurd h Zs)|(rename_i h a;exact absurd a Zs)
def V5 (N:Int)(u:Nat→Nat→Int)(i j:Nat):Nat→Int
 |0=>N
 |n+1=>min (V5 N u i j n) (min (cel N u (i-(n+1)) j).m (cel N u (i-(n+1)) j).d+4+2*((n:Int)+1))
def A1b (N:Int)(u:Nat→Nat→Int)(i j:Nat):Nat→Int
 |0=>N
 |n+1=>min (A1b N u i j n) (min (cel N u i (j-(n+1))).m (cel N u i (j-(n+1))).i+4+2*((n:Int)+1))
theorem A3S (N:Int)(u:Nat→Nat→Int)(i j:Nat):∀n,min (V5 N u (i+1) j (n+1)) (N+2)=min N (min (min (cel N u i j).m (cel N u i j).d+6) (V5 N u i j n+2))
 |0=>by
  show min (min N (min (cel N u (i+1-(0+1)) j).m (cel N u (i+1-(0+1)) j).d+4+2*(((0:Nat):Int)+1))) (N+2)=min N (min (min (cel N u i j).m (cel N u i j).d+6) (N+2))
  rw[show i+1-(0+1)=i by omega]
  generalize min (cel N u i j).m (cel N u i j).d=x
  omega
 |n+1=>by
  have h:=A3S N u i j n
  have e:i+1-(n+1+1)=i-(n+1):=O
  have e1:V5 N u i j (n+1)=min (V5 N u i j n) (min (cel N u (i-(n+1)) j).m (cel N u (i-(n+1)) j).d+4+2*((n:Int)+1)):=rfl
  have c:V5 N u (i+1) j (n+1+1)=min (V5 N u (i+1) j (n+1)) (min (cel N u (i-(n+1)) j).m (cel N u (i-(n+1)) j).d+4+2*(((n+1:Nat):Int)+1)):=by
   rw[←e];rfl
  rw[c,e1]
  generalize min (cel N u (i-(n+1)) j).m (cel N u (i-(n+1)) j).d=y at *
  generalize min (cel N u i j).m (cel N u i j).d=x at *
  generalize V5 N u (i+1) j (n+1)=a at *
  generalize V5 N u i j n=b at *
  push_cast
  omega
theorem A4j (N:Int)(u:Nat→Nat→Int)(i j:Nat):∀n,min (A1b N u i (j+1) (n+1)) (N+2)=min N (min (min (cel N u i j).m (cel N u i j).i+6) (A1b N u i j n+2))
 |0=>by
  show min (min N (min (cel N u i (j+1-(0+1))).m (cel N u i (j+1-(0+1))).i+4+2*(((0:Nat):Int)+1))) (N+2)=min N (min (min (cel N u i j).m (cel N u i j).i+6) (N+2))
  rw[show j+1-(0+1)=j by omega]
  generalize min (cel N u i j).m (cel N u i j).i=x
  omega
 |n+1=>by
  have h:=A4j N u i j n
  have e:j+1-(n+1+1)=j-(n+1):=O
  have e1:A1b N u i j (n+1)=min (A1b N u i j n) (min (cel N u i (j-(n+1))).m (cel N u i (j-(n+1))).i+4+2*((n:Int)+1)):=rfl
  have c:A1b N u i (j+1) (n+1+1)=min (A1b N u i (j+1) (n+1)) (min (cel N u i (j-(n+1))).m (cel N u i (j-(n+1))).i+4+2*(((n+1:Nat):Int)+1)):=by
   rw[←e];rfl
  rw[c,e1]
  generalize min (cel N u i (j-(n+1))).m (cel N u i (j-(n+1))).i=y at *
  generalize min (cel N u i j).m (cel N u i j).i=x at *
  generalize A1b N u i (j+1) (n+1)=a at *
  generalize A1b N u i j n=b at *
  push_cast
  omega
theorem A8m (N:Int)(u:Nat→Nat→Int)(i j:Nat):∀n,V5 N u i j n≤N
 |0=>Int.le_refl _
 |n+1=>Int.le_trans (Int.min_le_left _ _) (A8m N u i j n)
theorem A7Z (N:Int)(u:Nat→Nat→Int)(i j:Nat):∀n,A1b N u i j n≤N
 |0=>Int.le_refl _
 |n+1=>Int.le_trans (Int.min_le_left _ _) (A7Z N u i j n)
theorem A1P (N:Int)(b:10000≤N)(u:Nat→Nat→Int)(hu:∀i j,0≤u i j∧u i j≤4)(j:Nat)(f:j≤600):∀i,i≤300→V5 N u i j i=(cel N u i j).i
 |0,hi=>by
  have h:=(G6 N b u hu 0 j hi f).2.2.2.2.1 rfl
  rw[h];rfl
 |i+1,hi=>by
  have h:=A3S N u i j i
  have k:=A8m N u (i+1) j (i+1)
  rw[A1P N b u hu j f i O]at h
  have g:=G6 N b u hu i j O f
  have e:(cel N u (i+1) j).i=aI (cel N u i j)+2:=by
   cases j with
   |zero=>rw[A8a]
   |succ j=>rw[A6q]
  rw[e]
  generalize V5 N u (i+1) j (i+1)=a at *
  generalize cel N u i j=c at *
  obtain⟨m,x,d⟩:=c
  unfold okC at g
  simp only[aI]at *
  omega
theorem A1Z (N:Int)(b:10000≤N)(u:Nat→Nat→Int)(hu:∀i j,0≤u i j∧u i j≤4)(i:Nat)(hi:i≤300):∀j,j≤600→A1b N u i j j=(cel N u i j).d
 |0,f=>by
  have h:=(G6 N b u hu i 0 hi f).2.2.2.2.2.1 rfl
  rw[h];rfl
 |j+1,f=>by
  have h:=A4j N u i j j
  have k:=A7Z N u i (j+1) (j+1)
  rw[A1Z N b u hu i hi j O]at h
  have g:=G6 N b u hu i j hi O
  have e:(cel N u i (j+1)).d=aD (cel N u i j)+2:=by
   cases i with
   |zero=>rw[A7R]
   |succ i=>rw[A6q]
  rw[e]
  generalize A1b N u i (j+1) (j+1)=a at *
  generalize cel N u i j=c at *
  obtain⟨m,x,d⟩:=c
  unfold okC at g
  simp only[aD]at *
  omega
def lt3 (a b c:Int):Nat:=if a≤b∧a≤c then 0 else if b≤c then 1 else 2
def nx (c:C3):Nat→Nat
 |0=>lt3 c.m c.i c.d
 |1=>lt3 (c.m+4) c.i (c.d+4)
 |_=>lt3 (c.m+4) (c.i+4) c.d
def path (N:Int)(u:Nat→Nat→Int):Nat→Nat→Nat→Nat→List Nat
 |0,_,_,_=>[]
 |f+1,i,j,x=>if i+j=0 then [] else
  nx (cel N u i j) x::path N u f (if nx (cel N u i j) x=2 then i else i-1) (if nx (cel N u i j) x=1 then j else j-1) (nx (cel N u i j) x)
def B1u (c c':C3)(i j:Nat):Prop:=(0<i→c.i=c'.i)∧(0<j→c.d=c'.d)∧(0<i→0<j→c.m=c'.m)
theorem W6 (N o:Int)(G:10000≤N)(H:10000≤o)(i j:Nat)(hi:i≤300)(K:j≤600)(c f:C3)(h:okC N c i j)(l:okC o f i j)(hs:B1u c f i j) :
 aM c=aM f∧aI c=aI f∧aD c=aD f∧(0<i+j→∀x,nx c x=nx f x):=by
 obtain⟨m,y,d⟩:=c;obtain⟨L,M,P⟩:=f;unfold okC at h l;unfold B1u at hs;simp only at h l hs;obtain⟨Q,a2,a3,a4,a5,p,u,v,a9,w,z,a12⟩:=h;obtain⟨b1,b2,b3,b4,q,r,A,B,R,C,D,E⟩:=l;obtain⟨s1,s2,F⟩:=hs;by_cases a:i=0
 ·by_cases h1:j=0
  ·have e1:=a5 a;have s:=p h1;have t:=a12 a h1;have f1:=q a;have f2:=r h1;have f3:=E a h1;simp only[aM,aI,aD];refine⟨O,O,O,fun n=>absurd n O⟩
  ·have b:0<j:=O;have e1:=a5 a;have s:=v b;have t:=w a b;have f1:=q a;have f2:=B b;have f3:=C a b;have g:=s2 b;simp only[aM,aI,aD];refine⟨O,O,O,fun n x=>?_⟩;rcases x with _|_|x<;>simp only[nx,lt3]<;>(repeat' split)<;>omega
 ·have k:0<i:=O;by_cases h1:j=0
  ·have e1:=u k;have s:=p h1;have t:=z k h1;have f1:=A k;have f2:=r h1;have f3:=D k h1;have g:=s1 k;simp only[aM,aI,aD];refine⟨O,O,O,fun n x=>?_⟩;rcases x with _|_|x<;>simp only[nx,lt3]<;>(repeat' split)<;>omega
  ·have b:0<j:=O;have g1:=s1 k;have g2:=s2 b;have g3:=F k b;subst g1 g2 g3;exact⟨rfl,rfl,rfl,fun _ _=>rfl⟩
theorem A9W (N a:Int)(b:10000≤N)(c:10000≤a)(u:Nat→Nat→Int)(hu:∀i j,0≤u i j∧u i j≤4):∀i j,i≤300→j≤600→B1u (cel N u i j) (cel a u i j) i j:=by
 intro i;induction i with
 |zero=>
  intro j;induction j with
  |zero=>intro _ _;exact⟨fun h=>absurd h Zs,fun h=>absurd h Zs,fun h=>absurd h Zs⟩
  |succ j g=>
   intro hi d;have h:=W6 N a b c 0 j hi O _ _ (G6 N b u hu 0 j hi O) (G6 a c u hu 0 j hi O) (g hi O);refine⟨fun h=>absurd h Zs,fun _=>?_,fun h=>absurd h Zs⟩;rw[A7R,A7R];show aD _+2=aD _+2;rw[h.2.2.1]
 |succ i f=>
  intro j;induction j with
  |zero=>
   intro hi d;have h:=W6 N a b c i 0 O d _ _ (G6 N b u hu i 0 O d) (G6 a c u hu i 0 O d) (f 0 O d);refine⟨fun _=>?_,fun h=>absurd h Zs,fun _ h=>absurd h Zs⟩;rw[A8a,A8a];show aI _+2=aI _+2;rw[h.2.1]
  |succ j k=>
   intro hi d;have h1:=W6 N a b c i j O O _ _ (G6 N b u hu i j O O) (G6 a c u hu i j O O) (f j O O);have l:=W6 N a b c i (j+1) O d _ _ (G6 N b u hu i (j+1) O d) (G6 a c u hu i (j+1) O d) (f (j+1) O d);have m:=W6 N a b c (i+1) j hi O _ _ (G6 N b u hu (i+1) j hi O) (G6 a c u hu (i+1) j hi O) (k hi O);rw[A6q,A6q];refine⟨fun _=>?_,fun _=>?_,fun _ _=>?_⟩
   ·show aI _+2=aI _+2;rw[l.2.1]
   ·show aD _+2=aD _+2;rw[m.2.2.1]
   ·show aM _+_=aM _+_;rw[h1.1]
theorem A32 (N a:Int)(b:10000≤N)(c:10000≤a)(u:Nat→Nat→Int)(hu:∀i j,0≤u i j∧u i j≤4):∀f i j x,i≤300→j≤600→path N u f i j x=path a u f i j x
 |0,_,_,_,_,_=>rfl
 |f+1,i,j,x,hi,d=>by
  unfold path
  by_cases g:i+j=0
  ·rw[if_pos g,if_pos g]
  ·rw[if_neg g,if_neg g]
   have h:=(W6 N a b c i j hi d _ _ (G6 N b u hu i j hi d) (G6 a c u hu i j hi d) (A9W N a b c u hu i j hi d)).2.2.2 O x
   rw[h]
   rw[A32 N a b c u hu f _ _ _ (by split<;>omega) (by split<;>omega)]
def pv (c:C3):Nat→Int
 |0=>c.m
 |1=>c.i
 |_=>c.d
theorem I4 (a b c:Int):(lt3 a b c=0∧a≤b∧a≤c)∨(lt3 a b c=1∧¬(a≤b∧a≤c)∧b≤c)∨(lt3 a b c=2∧¬(a≤b∧a≤c)∧¬b≤c):=by
 unfold lt3;split
 ·exact Or.inl ⟨rfl,‹_›⟩
 ·split
  ·exact Or.inr (Or.inl ⟨rfl,‹_›,‹_›⟩)
  ·exact Or.inr (Or.inr ⟨rfl,‹_›,‹_›⟩)
theorem A12 (c:C3)(x:Nat):nx c x≤2:=by
 rcases x with _|_|x<;>simp only[nx]
 ·rcases I4 c.m c.i c.d with h|h|h<;>omega
 ·rcases I4 (c.m+4) c.i (c.d+4) with h|h|h<;>omega
 ·rcases I4 (c.m+4) (c.i+4) c.d with h|h|h<;>omega
theorem A0d (N:Int)(s:10000≤N)(c:C3)(i j:Nat)(hi:i≤300)(t:j≤600)(h:okC N c i j)(u:0<i+j)(x:Nat) :
 (nx c x=0→0<i∧0<j)∧(nx c x=1→0<i)∧(nx c x=2→0<j):=by
 obtain⟨m,y,d⟩:=c;unfold okC at h;simp only at h;obtain⟨v,a2,a3,a4,a5,k,l,n,a9,o,p,a12⟩:=h;by_cases g:i=0
 ·have a:0<j:=O;have e1:=a5 g;have q:=n a;have r:=o g a;have f:nx ⟨m,y,d⟩ x=2:=by
   rcases x with _|_|x<;>simp only[nx]
   ·rcases I4 m y d with h|h|h<;>omega
   ·rcases I4 (m+4) y (d+4) with h|h|h<;>omega
   ·rcases I4 (m+4) (y+4) d with h|h|h<;>omega
  rw[f];exact⟨fun h=>absurd h Z,fun h=>absurd h Z,fun _=>a⟩
 ·have b:0<i:=O;by_cases h1:j=0
  ·have e1:=l b;have q:=k h1;have r:=p b h1;have f:nx ⟨m,y,d⟩ x=1:=by
    rcases x with _|_|x<;>simp only[nx]
    ·rcases I4 m y d with h|h|h<;>omega
    ·rcases I4 (m+4) y (d+4) with h|h|h<;>omega
    ·rcases I4 (m+4) (y+4) d with h|h|h<;>omega
   rw[f];exact⟨fun h=>absurd h Z,fun _=>b,fun h=>absurd h Z⟩
  ·have a:0<j:=O;exact⟨fun _=>⟨b,a⟩,fun _=>b,fun _=>a⟩
theorem nx0 (c:C3):(if c.m=aM c then 0 else if c.i=aM c then 1 else 2)=nx c 0∧pv c (nx c 0)=aM c:=by
 have b:aM c=min c.m (min c.i c.d):=rfl;have f:nx c 0=lt3 c.m c.i c.d:=rfl;rw[f];generalize aM c=a at b⊢;rcases I4 c.m c.i c.d with⟨h,h1⟩|⟨h,h1,g⟩|⟨h,h1,g⟩
 ·rw[h,if_pos O];exact⟨rfl,by show c.m=a;omega⟩
 ·rw[h,if_neg O,if_pos O];exact⟨rfl,by show c.i=a;omega⟩
 ·rw[h,if_neg O,if_neg O];exact⟨rfl,by show c.d=a;omega⟩
theorem nx1 (c:C3):(c.m+6=aI c+2∧nx c 1=0∧aI c+2-6=pv c 0)∨(¬c.m+6=aI c+2∧c.i+2=aI c+2∧nx c 1=1∧aI c+2-2=pv c 1)∨(¬c.m+6=aI c+2∧¬c.i+2=aI c+2∧nx c 1=2∧aI c+2-6=pv c 2):=by
 obtain⟨m,y,d⟩:=c;simp only[nx,aI,pv];rcases I4 (m+4) y (d+4) with⟨h,h1⟩|⟨h,h1,a⟩|⟨h,h1,a⟩
 ·left;refine⟨O,h,O⟩
 ·right;left;refine⟨O,O,h,O⟩
 ·right;right;refine⟨O,O,h,O⟩
theorem nx2 (c:C3):(c.m+6=aD c+2∧nx c 2=0∧aD c+2-6=pv c 0)∨(¬c.m+6=aD c+2∧c.i+6=aD c+2∧nx c 2=1∧aD c+2-6=pv c 1)∨(¬c.m+6=aD c+2∧¬c.i+6=aD c+2∧nx c 2=2∧aD c+2-2=pv c 2):=by
 obtain⟨m,y,d⟩:=c;simp only[nx,aD,pv];rcases I4 (m+4) (y+4) d with⟨h,h1⟩|⟨h,h1,a⟩|⟨h,h1,a⟩
 ·left;refine⟨O,h,O⟩
 ·right;left;refine⟨O,O,h,O⟩
 ·right;right;refine⟨O,O,h,O⟩
def ends:List Nat→Nat→Nat→Prop
 |[],i,j=>i=0∧j=0
 |l::t,i,j=>l≤2∧(l≠2→0<i)∧(l≠1→0<j)∧ends t (if l=2 then i else i-1) (if l=1 then j else j-1)
theorem A1a (N:Int)(a:10000≤N)(u:Nat→Nat→Int)(hu:∀i j,0≤u i j∧u i j≤4):∀f i j x,i≤300→j≤600→i+j≤f→ends (path N u f i j x) i j
 |0,i,j,x,_,_,o=>by
  unfold path
  exact⟨O,O⟩
 |f+1,i,j,x,hi,c,o=>by
  unfold path
  by_cases d:i+j=0
  ·rw[if_pos d];exact⟨O,O⟩
  ·rw[if_neg d]
   have g:=A0d N a _ i j hi c (G6 N a u hu i j hi c) O x
   have k:=A12 (cel N u i j) x
   generalize nx (cel N u i j) x=l at k g⊢
   obtain⟨b,m,n⟩:=g
   refine⟨k,fun h=>?_,fun h=>?_,A1a N a u hu f _ _ _ (by split<;>omega) (by split<;>omega) ?_⟩
   ·rcases (show l=0∨l=1 by omega) with h|h
    ·exact(b h).1
    ·exact m h
   ·rcases (show l=0∨l=2 by omega) with h|h
    ·exact(b h).2
    ·exact n h
   ·rcases (show l=0∨l=1∨l=2 by omega) with h|h|h
    ·have:=b h;subst h;simp;omega
    ·have:=m h;subst h;simp;omega
    ·have:=n h;subst h;simp;omega
def stF (p:Nat×Nat)(l:Nat):Nat×Nat:=(if l=2 then p.1 else p.1+1,if l=1 then p.2 else p.2+1)
theorem A3D:∀(t:List Nat) (i j:Nat),ends t i j→t.reverse.foldl stF (0,0)=(i,j)
 |[],i,j,h=>by rw[h.1,h.2];rfl
 |l::t,i,j,h=>by
  obtain⟨h1,a,b,c⟩:=h
  rw[List.reverse_cons,List.foldl_append,A3D t _ _ c]
  show stF _ l=_
  unfold stF
  rcases (show l=0∨l=1∨l=2 by omega) with h|h|h<;>subst h<;>simp at a b⊢<;>omega
def A1e (s:Nat→Nat→Bool):List Nat→Nat→Nat→Nat
 |[],_,_=>0
 |l::t,i,j=>(if l=0∧s (i-1) (j-1)=true then 1 else 0)+A1e s t (if l=2 then i else i-1) (if l=1 then j else j-1)
def A2a (s:Nat→Nat→Bool):List Nat→Nat×Nat→Nat
 |[],_=>0
 |l::t,p=>(if l=0∧s p.1 p.2=true then 1 else 0)+A2a s t (stF p l)
theorem A2Q (s:Nat→Nat→Bool)(l:Nat):∀(a:List Nat) (p:Nat×Nat),A2a s (a++[l]) p=A2a s a p+(if l=0∧s (a.foldl stF p).1 (a.foldl stF p).2=true then 1 else 0)
 |[],p=>by
  show(if l=0∧s p.1 p.2=true then 1 else 0)+0=0+(if l=0∧s p.1 p.2=true then 1 else 0)
  rw[Nat.add_comm]
 |x::a,p=>by
  show(if x=0∧s p.1 p.2=true then 1 else 0)+A2a s (a++[l]) (stF p x)=(if x=0∧s p.1 p.2=true then 1 else 0)+A2a s a (stF p x)+_
  rw[A2Q s l a (stF p x),Nat.add_assoc]
  rfl
theorem A5s (s:Nat→Nat→Bool):∀(t:List Nat) (i j:Nat),ends t i j→A2a s t.reverse (0,0)=A1e s t i j
 |[],_,_,_=>rfl
 |l::t,i,j,h=>by
  obtain⟨h1,d,f,b⟩:=h
  rw[List.reverse_cons,A2Q,A3D t _ _ b,A5s s t _ _ b,Nat.add_comm]
  show _=(if l=0∧s (i-1) (j-1)=true then 1 else 0)+A1e s t (if l=2 then i else i-1) (if l=1 then j else j-1)
  congr 1
  by_cases a:l=0
  ·subst a;rfl
  ·have e1:¬(l=0∧s (i-1) (j-1)=true):=fun h=>a h.1
   have c:¬(l=0∧s (if l=2 then i else i-1,if l=1 then j else j-1).1 (if l=2 then i else i-1,if l=1 then j else j-1).2=true):=fun h=>a h.1
   rw[if_neg e1,if_neg c]
def rl (L:List Nat):Nat→Nat×List (Nat×Nat)
 |0=>(0,[])
 |k+1=>if k+1=L.length∨L.getD (k+1) 9≠L.getD k 9 then (k+1,(rl L k).2++[(k+1-(rl L k).1,L.getD k 9)]) else rl L k
theorem Y8 (L:List Nat):∀k,(rl L k).1≤k∧(k<L.length→∀t,(rl L k).1≤t→t≤k→L.getD t 9=L.getD (rl L k).1 9)
 |0=>⟨Nat.le_refl _,fun _ t h1 b=>by
  have:t=0:=O
  subst this;rfl⟩
 |k+1=>by
  have c:=Y8 L k
  have e:rl L (k+1)=if k+1=L.length∨L.getD (k+1) 9≠L.getD k 9 then (k+1,(rl L k).2++[(k+1-(rl L k).1,L.getD k 9)]) else rl L k:=rfl
  by_cases a:k+1=L.length∨L.getD (k+1) 9≠L.getD k 9
  ·rw[e,if_pos a]
   refine⟨Nat.le_refl _,fun _ t h1 b=>?_⟩
   have:t=k+1:=by
    have g:k+1≤t:=h1
    omega
   subst this;rfl
  ·rw[e,if_neg a]
   refine⟨O,fun hk t h1 b=>?_⟩
   have d:k<L.length:=O
   have i2:=c.2 d
   by_cases ht:t≤k
   ·exact i2 t h1 ht
   ·have:t=k+1:=O
    subst this
    have f:L.getD (k+1) 9=L.getD k 9:=Classical.byContradiction fun h=>a (Or.inr h)
    rw[f]
    exact i2 k c.1 (Nat.le_refl _)
theorem B2i (L:List Nat)(k:Nat)(hk:k<L.length):(k+1<L.length∧L.getD (k+1) 9=L.getD (rl L k).1 9)↔¬(k+1=L.length∨L.getD (k+1) 9≠L.getD k 9):=by
 have b:=Y8 L k;have e:L.getD k 9=L.getD (rl L k).1 9:=b.2 hk k b.1 (Nat.le_refl _);rw[e];constructor
 ·rintro⟨h1,c⟩ (h|h)
  ·omega
  ·exact h c
 ·intro h;refine⟨?_,Classical.byContradiction fun a=>h (Or.inr a)⟩;have:k+1≠L.length:=fun a=>h (Or.inl a);omega
theorem A8G (L:List Nat)(k:Nat)(hk:k<L.length):L.getD k 9=L.getD (rl L k).1 9:=(Y8 L k).2 hk k (Y8 L k).1 (Nat.le_refl _)
theorem A2c (L:List Nat)(n:Nat)(d:L.length≤n)(b:∀x∈L,x≤2):∀k,k≤L.length→∀p∈(rl L k).2,0<p.1∧p.1≤n∧p.2≤2
 |0,_,p,a=>by simp[rl]at a
 |k+1,hk,p,a=>by
  have e:rl L (k+1)=if k+1=L.length∨L.getD (k+1) 9≠L.getD k 9 then (k+1,(rl L k).2++[(k+1-(rl L k).1,L.getD k 9)]) else rl L k:=rfl
  rw[e]at a
  have c:=A2c L n d b k O
  split at a
  ·rw[List.mem_append,List.mem_singleton]at a
   rcases a with a|rfl
   ·exact c p a
   ·have h1:=(Y8 L k).1
    have f:L.getD k 9=L[k]:=by simp[show k<L.length by omega]
    refine⟨by show 0<k+1-_;omega,by show k+1-_≤n;omega,?_⟩
    show L.getD k 9≤2
    rw[f];exact b _ (List.getElem_mem _)
  ·exact c p a
end Go.Proofs.YtilcmkiihefkkaaGreatDoor
