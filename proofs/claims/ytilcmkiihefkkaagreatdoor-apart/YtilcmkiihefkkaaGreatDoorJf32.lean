import Derived.Test.YtilcmkiihefkkaaGreatDoorJf31
set_option linter.unusedVariables false
set_option linter.unusedSimpArgs false
set_option maxRecDepth 1000000
set_option maxHeartbeats 64000000
open Go.Value renaming int→I
open Go.IntKind renaming i64→J
namespace Go.Proofs.YtilcmkiihefkkaaGreatDoor
section
open Go.RowKit Go.Shelf
theorem A88 (read ref:ByteArray)(A:read.size≤300)(hm:ref.size≤600)(w wr:World)(G S oM cM T oI cI V oD cD:Nat)(bM bI bD:Nat→Nat)(X:∀W,Below w.heap.size w W→GL read ref W G (.slice (some ⟨S,oM,none⟩) (read.size+1) cM) (.slice (some ⟨T,oI,none⟩) (read.size+1) cI) (.slice (some ⟨V,oD,none⟩) (read.size+1) cD) S oM T oI V oD bM bI bD)
 (i j:Nat)(c:Int)(o:ByteArray)(Y:LtI read ref w wr i j 2 c o)(C:0<i+j)(D:Act)(ab:Fr 206 [(0,.pointer (some ⟨G,0,none⟩)),(1,undef),(2,.string ⟨#[]⟩),(3,I J i),(4,I J j),(5,I J c),(6,.string ⟨#[Y8 2]⟩),(7,.string o)] D)(E:Exit→Act→World→Prop)(hQ0:∀(c:List PanicEntry) (a:Act) (d:Option Tmp) (v:Value) (w:World),E (.panic c) (a.put d v) w→E (.panic c) a w)(B:Code)(hB:Tryz.f125.body.bind B0=some B) :
 Code.wp Tryz.prog B (Exit.then (fun a' w'=>LI read ref w G a' w'∧Lmu a' w'<Lmu D wr) E) D wr:=by
 have s:=hB
 conv at s=>lhs;whnf
 injection s with s
 subst s
 clear hB
 obtain⟨f0,rfl,F⟩:=ab
 simp only[Hs]at F
 simp only[fr,Y7,Nat.reduceAdd,F]
 clear F
 have H:=A4 Y
 have cU:=fun x y W=>T6 x y W
 have ac:=A4 X
 clear X
 obtain⟨L,f,x,h1,h2,h3,h4,h5,h6,h7,h8,h9⟩:=Y
 have ag:o.size≤900:=by rw[h7,L5];omega
 have ah:¬9223372036854775807<o.size+1:=O
 have ai:¬(9223372036854775807:Int)<(o.size:Int)+1:=O
 have aj:o.size+1≤9223372036854775807:=O
 have ak:IntKind.i64.wrap ((i:Int)+(j:Int))=(i:Int)+j:=Zw
 have K:=A4 h9
 have al:(0:Int)<(i:Int)+j:=O
 have M:=X9 1000000000 O (cel 1000000000 (uR read ref) i j) i j O O (F6 1000000000 O (uR read ref) (P0 read ref) i j O O) C x
 have hle:=A1m (cel 1000000000 (uR read ref) i j) x
 rw[←h5]at M hle
 obtain⟨z0,z1,z2,z3,z4,zr,zc⟩:=ac.o wr h9
 have ad:=M.2.2 rfl
 rw[show Y8 2=(68:UInt8) from rfl]
 have am:(i:Int)<(read.size:Int)+1:=O
 obtain⟨b,N⟩:∃b,j=b+1:=⟨j - 1,O⟩
 have an:IntKind.i64.wrap ((j:Int) - 1)=(b:Int):=Zw
 have ao:(b:Int)<(ref.size:Int)+1:=O
 obtain⟨r1,r2,r3⟩:=zr i O
 obtain⟨s1,s2,P⟩:=zc i b O O
 have t:=U9 read ref i b O O
 have u:c=aD (cel 1000000000 (uR read ref) i b)+2:=by
  rw[h6,N]
  cases i<;>rfl
 have z:=nx2 (cel 1000000000 (uR read ref) i b)
 rw[←u]at z
 obtain⟨cc,Q⟩:=A8 (cel 1000000000 (uR read ref) i b)
 have l:=A4 Q
 rw[←Q]at s1 s2 P t z u
 obtain⟨g,ci,m⟩:=cc
 unfold okB at t
 have ae:aM ⟨g,ci,m⟩=min g (min ci m):=rfl
 have af:aI ⟨g,ci,m⟩=min (g+4) (min ci (m+4)):=rfl
 have aa:aD ⟨g,ci,m⟩=min (g+4) (min (ci+4) m):=rfl
 rw[aa]at u
 simp only at s1 s2 P t z
 have ap:0≤c∧c≤1600000000:=O
 have w6:IntKind.i64.wrap (g+6)=g+6:=Zw
 have wi:IntKind.i64.wrap (ci+6)=ci+6:=Zw
 have c6:IntKind.i64.wrap (c - 6)=c - 6:=Zw
 have c2:IntKind.i64.wrap (c - 2)=c - 2:=Zw
 have R:=A4 C
 have n:=A4 N
 clear h7 C ad h1 h2 h3 h4 N zr zc Q t u h5 h6 h8 M ae af aa z4 r3 P z0 z1
 rcases z with ⟨n1,h,k⟩ | ⟨n1,h,k,p⟩ | ⟨n1,h,k,p⟩
 ·have q1:((g+6:Int)==c)=true:=by rw[beq_iff_eq];exact n1
  have q:=A4 h
  have r:=A4 k
  clear n1 h k
  go_wp2_with fail
  refine⟨?_,?_⟩
  ·refine⟨i,b,0,c - 6,_,?_,Fr.of _ rfl ⟨rfl,rfl,rfl,rfl,rfl,rfl,rfl,rfl,trivial⟩⟩
   exact LtI.step A hm H.o R.o (K.o) i b 0 (c - 6) (by first | (have:=HI1.o;simp;omega) | simp) (by first | (have:=n.o;simp;omega) | simp) (by rw[←l.o];exact q.o.symm) (by rw[←l.o];exact r.o)
  ·(try have m1:=HI1.o);(try have m2:=n.o);simp[Lmu,intOf];omega
 ·have q1:((g+6:Int)==c)=false:=by rw[beq_eq_false_iff_ne];exact n1
  have q2:((ci+6:Int)==c)=true:=by rw[beq_iff_eq];exact h
  have q:=A4 k
  have r:=A4 p
  clear n1 h k p
  go_wp2_with fail
  refine⟨?_,?_⟩
  ·refine⟨i,b,1,c - 6,_,?_,Fr.of _ rfl ⟨rfl,rfl,rfl,rfl,rfl,rfl,rfl,rfl,trivial⟩⟩
   exact LtI.step A hm H.o R.o (K.o) i b 1 (c - 6) (by first | (have:=HI1.o;simp;omega) | simp) (by first | (have:=n.o;simp;omega) | simp) (by rw[←l.o];exact q.o.symm) (by rw[←l.o];exact r.o)
  ·(try have m1:=HI1.o);(try have m2:=n.o);simp[Lmu,intOf];omega
 ·have q1:((g+6:Int)==c)=false:=by rw[beq_eq_false_iff_ne];exact n1
  have q2:((ci+6:Int)==c)=false:=by rw[beq_eq_false_iff_ne];exact h
  have q:=A4 k
  have r:=A4 p
  clear n1 h k p
  go_wp2_with fail
  refine⟨?_,?_⟩
  ·refine⟨i,b,2,c - 2,_,?_,Fr.of _ rfl ⟨rfl,rfl,rfl,rfl,rfl,rfl,rfl,rfl,trivial⟩⟩
   exact LtI.step A hm H.o R.o (K.o) i b 2 (c - 2) (by first | (have:=HI1.o;simp;omega) | simp) (by first | (have:=n.o;simp;omega) | simp) (by rw[←l.o];exact q.o.symm) (by rw[←l.o];exact r.o)
  ·(try have m1:=HI1.o);(try have m2:=n.o);simp[Lmu,intOf];omega
def LX (read ref:ByteArray)(w:World)(G:Nat)(a:Act)(wx:World):Prop:=Below w.heap.size w wx∧Fr 206 [(0,.pointer (some ⟨G,0,none⟩)),(1,undef),(2,.string ⟨#[]⟩),(7,.string (lets (path 1000000000 (uR read ref) (read.size+ref.size) read.size ref.size 0)))] a
theorem B1W (read ref:ByteArray)(w wr:World)(G:Nat)(l:Nat)(c:Int)(o:ByteArray)(r:LtI read ref w wr 0 0 l c o)(g:Act)(s:Fr 206 [(0,.pointer (some ⟨G,0,none⟩)),(1,undef),(2,.string ⟨#[]⟩),(3,I J ((0:Nat):Int)),(4,I J ((0:Nat):Int)),(5,I J c),(6,.string ⟨#[Y8 l]⟩),(7,.string o)] g)(t:Act→World→Prop)(h:Exit→Act→World→Prop)(i:∀j k,LX read ref w G j k→h (.exit 0) j k)(B:Code)(m:Tryz.f125.body.bind B0=some B) :
 Code.wp Tryz.prog B (Exit.then t h) g wr:=by
 have a:=m
 conv at a=>lhs;whnf
 injection a with a
 subst a
 clear m
 obtain⟨f0,rfl,b⟩:=s
 simp only[Hs]at b
 simp only[fr,Y7,Nat.reduceAdd,b]
 clear b
 obtain⟨L,f,x,h1,u,v,y,z,A,n,d,p⟩:=r
 have q:path 1000000000 (uR read ref) f 0 0 x=[]:=by
  cases f with
  | zero=>rfl
  | succ f=>rw[path];rfl
 rw[q,List.append_nil]at d
 have C:Hd (o=lets (path 1000000000 (uR read ref) (read.size+ref.size) read.size ref.size 0)):=by rw[n,d];exact rfl
 have D:=A4 p
 have E:=A4 i
 clear h1 u v y z A n d p q i
 go_wp2_with fail
 refine E.o _ _ ?_
 rw[C.o]
 exact⟨D.o,Fr.of _ rfl ⟨rfl,rfl,rfl,rfl,trivial⟩⟩
theorem A9q (read ref:ByteArray)(C:read.size≤300)(hm:ref.size≤600)(w:World)(G h oM q k oI r m oD s:Nat)(t u y:Nat→Nat)(D:∀W,Below w.heap.size w W→GL read ref W G (.slice (some ⟨h,oM,none⟩) (read.size+1) q) (.slice (some ⟨k,oI,none⟩) (read.size+1) r) (.slice (some ⟨m,oD,none⟩) (read.size+1) s) h oM k oI m oD t u y)
 (g:Exit→Act→World→Prop)(hQ0:∀(c:List PanicEntry) (a:Act) (d:Option Tmp) (v:Value) (w:World),g (.panic c) (a.put d v) w→g (.panic c) a w)(H:∀n F,LX read ref w G n F→g (.exit 0) n F)(B:Code)(z:Tryz.f125.body.bind B0=some B)(a:Act)(wx:World)(b:LI read ref w G a wx) :
 Code.wp Tryz.prog B (Exit.then (fun n w'=>LI read ref w G n w'∧Lmu n w'<Lmu a wx) g) a wx:=by
 unfold LI at b
 obtain⟨i,b⟩:=b
 obtain⟨j,b⟩:=b
 obtain⟨l,b⟩:=b
 obtain⟨c,b⟩:=b
 obtain⟨o,b⟩:=b
 obtain⟨p,A⟩:=b
 by_cases E:0<i+j
 ·have M:l≤2:=by
   obtain⟨L,f,x,h1,N,P,Q,K,_⟩:=p
   rw[K];exact A1m _ _
  rcases (show l=0∨l=1∨l=2 by omega) with rfl | rfl | rfl
  ·exact A92 read ref C hm w wx G h oM q k oI r m oD s t u y D i j c o p E a A g hQ0 B z
  ·exact B0w read ref C hm w wx G h oM q k oI r m oD s t u y D i j c o p E a A g hQ0 B z
  ·exact A88 read ref C hm w wx G h oM q k oI r m oD s t u y D i j c o p E a A g hQ0 B z
 ·obtain rfl:i=0:=O
  obtain rfl:j=0:=O
  exact B1W read ref w wx G l c o p a A _ g H B z
theorem B1q (read ref:ByteArray)(x:read.size≤300)(hm:ref.size≤600)(w:World)(G f oM k g oI m h oD n:Nat)(p q r:Nat→Nat)(y:∀W,Below w.heap.size w W→GL read ref W G (.slice (some ⟨f,oM,none⟩) (read.size+1) k) (.slice (some ⟨g,oI,none⟩) (read.size+1) m) (.slice (some ⟨h,oD,none⟩) (read.size+1) n) f oM g oI h oD p q r)
 (b:Exit→Act→World→Prop)(hQ0:∀(c:List PanicEntry) (a:Act) (d:Option Tmp) (v:Value) (w:World),b (.panic c) (a.put d v) w→b (.panic c) a w)(z:∀s t,LX read ref w G s t→b (.exit 0) s t)(B:Code)(A:Tryz.f125.body.bind B0=some B)(i j l:Nat)(c:Int)(o:ByteArray)(u:Act)(C:Fr 206 [(0,.pointer (some ⟨G,0,none⟩)),(1,undef),(2,.string ⟨#[]⟩),(3,I J i),(4,I J j),(5,I J c),(6,.string ⟨#[Y8 l]⟩),(7,.string o)] u)(wx:World)(D:LtI read ref w wx i j l c o) :
 Code.wp Tryz.prog (Code.loop B) b u wx:=by
 refine wp_loop (LI read ref w G) Lmu ?_ (fun a E F=>A9q read ref x hm w G f oM k g oI m h oD n p q r y b hQ0 z B A a E F)
 unfold LI
 exact⟨i,j,l,c,o,D,C⟩
theorem A4x (read ref:ByteArray)(S:read.size≤300)(hm:ref.size≤600)(w0 w:World)(G:Nat)(T:TbI read ref w0 w G (read.size+1)) :
 Calls Tryz.prog 125 #[.pointer (some ⟨G,0,none⟩)] w fun e w'=>e=.returned (.string (lets (path 1000000000 (uR read ref) (read.size+ref.size) read.size ref.size 0)))∧Below w.heap.size w w':=by
 obtain⟨j,oM,t,k,oI,u,z,oD,V,m,n,A,B⟩:=T.gl;have X:=A4 B;obtain⟨z0,z1,z2,z3,z4,Y,zc⟩:=B w (Below.refl _ _);obtain⟨C,D,r3⟩:=Y read.size (Nat.le_refl _);obtain⟨s1,s2,r⟩:=zc read.size ref.size (Nat.le_refl _) (Nat.le_refl _);have s:=U9 read ref read.size ref.size S hm;have p:=B2k (cel 1000000000 (uR read ref) read.size ref.size) _ rfl;obtain⟨cc,E⟩:=A8 (cel 1000000000 (uR read ref) read.size ref.size);have aa:=A4 E;rw[←E]at s1 s2 r s p;obtain⟨f,ci,i⟩:=cc;unfold okB at s;simp only at s1 s2 r s;have ha:aM ⟨f,ci,i⟩=min f (min ci i):=rfl;rw[ha]at p;have F:=fun a b W=>U4 a b W;have ah:(read.size:Int)<(read.size:Int)+1:=O;have ai:(ref.size:Int)<(ref.size:Int)+1:=O;clear B Y zc E T ha;go_enter Tryz.func125,Tryz.ntmps125;go_wp2_with fail;refine A5 33 (fun W=>W.cell? ⟨G,2,none⟩=some (.slice (some ⟨j,oM,none⟩) (read.size+1) t)∧W.cell? ⟨G,3,none⟩=some (.slice (some ⟨k,oI,none⟩) (read.size+1) u)∧W.cell? ⟨G,4,none⟩=some (.slice (some ⟨z,oD,none⟩) (read.size+1) V)∧W.cell? ⟨j,oM+read.size,none⟩=some (.slice (some ⟨m read.size,0,none⟩) (ref.size+1) (ref.size+1))∧W.cell? ⟨k,oI+read.size,none⟩=some (.slice (some ⟨n read.size,0,none⟩) (ref.size+1) (ref.size+1))∧W.cell? ⟨z,oD+read.size,none⟩=some (.slice (some ⟨A read.size,0,none⟩) (ref.size+1) (ref.size+1))∧W.cell? ⟨m read.size,ref.size,none⟩=some (I J f)∧W.cell? ⟨n read.size,ref.size,none⟩=some (I J ci)∧W.cell? ⟨A read.size,ref.size,none⟩=some (I J i)) U ⟨z2,z3,z4,C,D,r3,s1,s2,r⟩ (fun hH=>?_);refine A2 0 ?_;refine A2 1 ?_;refine A2 2 ?_;refine A2 3 ?_;refine A2 4 ?_;refine A2 5 ?_;refine A2 6 ?_;refine A2 7 ?_;refine A2 8 ?_;refine A2 9 ?_;refine A2 10 ?_;refine A2 11 ?_;refine A2 12 ?_;refine A2 13 ?_;refine A2 14 ?_;refine A2 15 ?_;refine A2 16 ?_;refine A2 17 ?_;refine A2 18 ?_;refine A2 19 ?_;refine A2 20 ?_;refine A2 21 ?_;refine A2 22 ?_;refine A2 23 ?_;refine A2 24 ?_;refine A2 25 ?_;refine A2 26 ?_;refine A2 27 ?_;refine A2 28 ?_;refine A2 29 ?_;refine wpS 30 fun K q=>?_;go_simp;go_at_call 169;refine(F _ _ _).mono ?_;rintro e w1 ⟨rfl,rfl⟩;refine E0 q hH ?_;clear q K;refine wpS 31 fun K q=>?_;go_simp;go_at_call 169;refine(F _ _ _).mono ?_;rintro e w1 ⟨rfl,rfl⟩;refine E0 q hH ?_;clear q K;refine A2 32 ?_;refine J5 ?_;clear hH;obtain⟨a,ab⟩:=A8 (min f (min ci i));rw[←ab]at p⊢;have aj:0≤a∧a≤1500000000:=O;clear ab;have H:Hd (∀l,l=nx (cel 1000000000 (uR read ref) read.size ref.size) 0→a=pv (cel 1000000000 (uR read ref) read.size ref.size) l→LtI read ref w w.drew read.size ref.size l a ⟨#[]⟩):=by
  intro l h1 h2;exact⟨[],read.size+ref.size,0,Nat.le_refl _,Nat.le_refl _,Nat.le_refl _,Zs,h1,h2,rfl,rfl,B3 (Below.refl _ _) 1⟩
 rw[←aa.o]at H;have d0:w.drew.cell? ⟨G,2,none⟩=some (.slice (some ⟨j,oM,none⟩) (read.size+1) t):=z2;have d1:w.drew.cell? ⟨G,3,none⟩=some (.slice (some ⟨k,oI,none⟩) (read.size+1) u):=z3;have d2:w.drew.cell? ⟨j,oM+read.size,none⟩=some (.slice (some ⟨m read.size,0,none⟩) (ref.size+1) (ref.size+1)):=C;have d3:w.drew.cell? ⟨k,oI+read.size,none⟩=some (.slice (some ⟨n read.size,0,none⟩) (ref.size+1) (ref.size+1)):=D;have d4:w.drew.cell? ⟨m read.size,ref.size,none⟩=some (I J f):=s1;have d5:w.drew.cell? ⟨n read.size,ref.size,none⟩=some (I J ci):=s2;have L:=A4 p;clear p z2 z3 z4 C D r3 s1 s2 r z0 z1;go_upto_if 61 with fail;go_cut [6] from 8 (fun M wc=>wc=w.drew∧∃l,M=.string ⟨#[Y8 l]⟩∧((ci=a∧l=1)∨(¬ci=a∧l=2)));case first=>
  by_cases h1:ci=a
  ·have N:(ci==a)=true:=by rw[beq_iff_eq];exact h1
   have H1:=A4 h1;clear h1;go_wp2_with fail;go_meet;case rel=>exact⟨rfl,1,rfl,Or.inl ⟨H1.o,rfl⟩⟩
  ·have N:(ci==a)=false:=by rw[beq_eq_false_iff_ne];exact h1
   have H1:=A4 h1;clear h1;go_wp2_with fail;go_meet;case rel=>exact⟨rfl,2,rfl,Or.inr ⟨H1.o,rfl⟩⟩
 case rest=>
  obtain⟨rfl,l0,rfl,ac⟩:=hcut;have P:=A4 ac;clear ac;go_upto_if 73 with fail;go_cut [6] from 8 (fun M wc=>wc=w.drew∧∃l,M=.string ⟨#[Y8 l]⟩∧l=nx ⟨f,ci,i⟩ 0∧a=pv ⟨f,ci,i⟩ l);case first=>
   by_cases h1:f=a
   ·have N:(f==a)=true:=by rw[beq_iff_eq];exact h1
    have H1:=A4 h1;clear h1;go_wp2_with fail;go_meet;case rel=>
     rcases L.o with h|h|h
     ·exact⟨rfl,0,rfl,h.2.1.symm,h.2.2⟩
     ·exact absurd H1.o h.1
     ·exact absurd H1.o h.1
   ·have N:(f==a)=false:=by rw[beq_eq_false_iff_ne];exact h1
    have H1:=A4 h1;clear h1;go_wp2_with fail;go_meet;case rel=>
     refine⟨rfl,l0,rfl,?_⟩;rcases L.o with h|h|h
     ·exact absurd h.1 H1.o
     ·rcases P.o with g|g
      ·rw[g.2];exact⟨h.2.2.1.symm,h.2.2.2⟩
      ·exact absurd h.2.1 g.1
     ·rcases P.o with g|g
      ·exact absurd g.1 h.2.1
      ·rw[g.2];exact⟨h.2.2.1.symm,h.2.2.2⟩
  case rest=>
   obtain⟨rfl,Q,rfl,ad,ae⟩:=hcut;have af:Hd (LtI read ref w w.drew read.size ref.size Q a ⟨#[]⟩):=H.o Q ad ae;have cU:=fun x y W=>T6 x y W;clear ad ae P L H aa d0 d1 d2 d3 d4 d5 s F;go_wp2_with fail;refine B1q read ref S hm w G j oM t k oI u z oD V m n A X.o _ ?_ ?_ _ rfl read.size ref.size Q a ⟨#[]⟩ _ (Fr.of _ rfl ⟨rfl,rfl,rfl,rfl,rfl,rfl,rfl,rfl,trivial⟩) _ af.o
   ·intro c a d v w h;cases d<;>exact h
   ·intro a' w2 hX;unfold LX at hX;obtain⟨hB,ag⟩:=hX;obtain⟨f0,rfl,R⟩:=ag;simp only[Hs]at R;simp only[fr,Y7,Nat.reduceAdd,R];clear R;have HB:=A4 hB;clear hB af X;go_wp2_with fail;go_ret;exact⟨rfl,HB.o⟩
def NgC (read ref:ByteArray):Prop:=∀w:World,Calls Tryz.prog 124 #[.string read,.string ref] w fun e w'=>∃G,e=.returned (.pointer (some ⟨G,0,none⟩))∧TbI read ref w w' G (read.size+1)
def RlC (read ref:ByteArray):Prop:=∀(w0 w:World) (G:Nat),TbI read ref w0 w G (read.size+1)→Calls Tryz.prog 125 #[.pointer (some ⟨G,0,none⟩)] w fun e w'=>e=.returned (.string (lets (path 1000000000 (uR read ref) (read.size+ref.size) read.size ref.size 0)))∧Below w.heap.size w w'
theorem A4R (read ref:ByteArray)(hn:read.size≤300)(hm:ref.size≤600)(ab:NgC read ref)(ac:RlC read ref)(w:World) :
 Calls Tryz.prog 96 #[.string read,.string ref] w fun e w'=>e=.returned (.tuple #[.string (lets (fwd read ref)),I J (A1E (sR read ref) (fwd read ref) (0,0):Nat)])∧Below w.heap.size w w':=by
 have ad:Hd (∀k,k<(fwd read ref).length→(stF (((fwd read ref).take k).foldl stF (0,0)) ((fwd read ref).getD k 9)).1≤read.size∧(stF (((fwd read ref).take k).foldl stF (0,0)) ((fwd read ref).getD k 9)).2≤ref.size):=fun k hk=>B13 read ref hn hm k hk;have ae:Hd (∀x∈fwd read ref,x≤2):=fun x E=>A1D _ _ _ _ _ _ x (List.mem_reverse.1 E);have hlen:(fwd read ref).length≤900:=by
  have:=A0x 1000000000 (uR read ref) (read.size+ref.size) read.size ref.size 0;unfold fwd;rw[List.length_reverse];omega
 have u:=fun w0 W G h=>ac w0 W G h;have hP:path 1000000000 (uR read ref) (read.size+ref.size) read.size ref.size 0=(fwd read ref).reverse:=by unfold fwd;rw[List.reverse_reverse]
 rw[hP]at u;obtain⟨Q,hQ⟩:=A8 (fwd read ref);rw[←hQ]at ad ae hlen u⊢;obtain⟨n,F⟩:=A8 Q.length;have v:=A4 F;obtain⟨s,hs⟩:=A8 (lets Q.reverse);have aD:s.size=n:=by rw[hs,L5,List.length_reverse,F]
 have af:Hd (∀k (h:k<s.size),s[k]=Y8 (Q.reverse.getD k 9)):=by
  subst hs;exact A2Y Q.reverse
 rw[←hs]at u;rw[←F]at hlen;have an:=A4 ab;have HR:=A4 u;have cS:=fun a b W=>A2d a b W;clear ab ac u hP hQ F hs;go_enter Tryz.func96,Tryz.ntmps96;go_wp2_with fail;refine(an.o w).mono ?_;rintro e w1 ⟨G,rfl,N⟩;have ag:Below w.heap.size w w1:=by obtain⟨_,_,_,_,_,_,_,_,m,_⟩:=N;exact m
 have HT:=A4 N;have P:=A4 ag;clear N ag;go_wp2_with fail;refine(HR.o w w1 G HT.o).mono ?_;rintro e w2 ⟨rfl,ah⟩;have ai:Hd (Below w.heap.size w w2):=P.o.trans (ah.mono P.o.size);clear ah P HT;go_wp2_with fail;go_loopw [7,8] (fun ov y wx=>∃k:Nat,k≤n∧y=I J k∧ov=.string (lets (Q.reverse.take k).reverse)∧Below w.heap.size w wx) (fun _ y _=>n-(intOf y).toNat);case atStart=>exact⟨0,Nat.zero_le _,rfl,rfl,ai.o⟩
 case round=>
  clear ai;obtain⟨k,hk,rfl,rfl,z⟩:=hrel;have c:=A4 z;clear z;obtain⟨o,ho⟩:=A8 (lets (Q.reverse.take k).reverse);have R:=A4 ho;have aE:o.size≤900:=by rw[ho,L5,List.length_reverse,List.length_take];omega
  rw[←ho];clear ho;by_cases ao:k<n
  ·have ap:(k:Int)<n:=O;have aj:k<s.size:=O;have E:=A2o s k aj;rw[af.o k aj]at E;have aq:k<Q.reverse.length:=by rw[List.length_reverse,←v.o];exact ao
   have S:=A3r Q.reverse k aq;obtain⟨l,A⟩:=A8 (Q.reverse.getD k 9);rw[←A]at E S;have ar:=A4 S;have aF:IntKind.i64.wrap ((k:Int)+1)=(k:Int)+1:=Zw;have aG:((k:Int)+1).toNat=k+1:=O;have aH:(0:Int)≤(k:Int)+1:=O;have aI:(k:Int)+1≤n:=O;have aJ:(k:Int)≤(k:Int)+1:=O;have aK:¬9223372036854775807<1+o.size:=O;clear A S;go_wp2_with fail;go_roundw;case rel=>
    refine⟨k+1,O,Zn,?_,c.o⟩;rw[ar.o,A8P,←R.o]
   case measure=>simp[intOf];omega
  ·have au:k=n:=O;subst au;have ap:¬(k:Int)<k:=O;have T:Hd (o=lets Q):=by
    show _=_;rw[R.o,List.take_of_length_le (by rw[List.length_reverse,v.o];exact Nat.le_refl _),List.reverse_reverse]
   have aL:o.size=k:=by rw[T.o,L5,←v.o]
   have av:Hd (∀t (h:t<o.size),o[t]=Y8 (Q.getD t 9)):=by
    intro t h;have e:=T.o;subst e;exact A2Y Q t h
   clear af R;go_wp2_with fail;go_loopw [9,10,11,12] (fun nv y jv V wx=>∃t:Nat,t≤k∧V=I J t∧nv=I J (A1E (sR read ref) (Q.take t) (0,0):Nat)∧y=I J (((Q.take t).foldl stF (0,0)).1:Nat)∧jv=I J (((Q.take t).foldl stF (0,0)).2:Nat)∧A1E (sR read ref) (Q.take t) (0,0)≤t∧Below w.heap.size w wx) (fun _ _ _ V _=>k-(intOf V).toNat);case atStart=>exact⟨0,Nat.zero_le _,rfl,rfl,rfl,rfl,Nat.le_refl _,c.o⟩
   case round=>
    clear c;obtain⟨t,ht,rfl,rfl,rfl,rfl,aw,z⟩:=hrel;have c:=A4 z;clear z;by_cases ax:t<k
    ·have ay:(t:Int)<k:=O;have H:t<Q.length:=by rw[←v.o];exact ax
     have az:t<o.size:=O;have r:=ad.o t H;have aA:Q.getD t 9≤2:=ae.o _ (by simp[H]);have q:=av.o t az;have X:Q.take (t+1)=Q.take t++[Q.getD t 9]:=by
      rw[List.take_succ_eq_append_getElem H];simp[H]
     have B:A1E (sR read ref) (Q.take (t+1)) (0,0)=A1E (sR read ref) (Q.take t) (0,0)+if Q.getD t 9=0∧sR read ref ((Q.take t).foldl stF (0,0)).1 ((Q.take t).foldl stF (0,0)).2=true then 1 else 0:=by rw[X,A2J]
     have L:(Q.take (t+1)).foldl stF (0,0)=stF ((Q.take t).foldl stF (0,0)) (Q.getD t 9):=by rw[X,List.foldl_append];rfl
     obtain⟨cn,ak⟩:=A8 (A1E (sR read ref) (Q.take t) (0,0));obtain⟨p,al⟩:=A8 ((Q.take t).foldl stF (0,0));rw[←ak]at B aw⊢;rw[←al]at r B L⊢;obtain⟨l,A⟩:=A8 (Q.getD t 9);rw[←A]at r aA q B L;have d:=A4 B;have f:=A4 L;have aM:IntKind.i64.wrap ((cn:Int)+1)=(cn:Int)+1:=Zw;clear B L ak al A X;obtain⟨i,j⟩:=p;have aN:IntKind.i64.wrap ((i:Int)+1)=(i:Int)+1:=by
      have:i≤read.size:=by have:=r.1;unfold stF at this;simp only at this;split at this<;>omega
      rw[IntKind.wrap_i64];omega
     have aO:IntKind.i64.wrap ((j:Int)+1)=(j:Int)+1:=by
      have:j≤ref.size:=by have:=r.2;unfold stF at this;simp only at this;split at this<;>omega
      rw[IntKind.wrap_i64];omega
     simp only at d⊢;rcases (show l=0∨l=1∨l=2 by omega) with rfl|rfl|rfl
     ·have hi:i<read.size:=r.1;have hj:j<ref.size:=r.2;have aP:(i:Int)<read.size:=O;have aQ:(j:Int)<ref.size:=O;have Y:=B2y read ref i j hi hj;have C:=fun W=>A2d read[i] ref[j] W;rw[Y]at C;rw[show Y8 0=(77:UInt8) from rfl]at q;have am:((o[t].toNat:Int))=77:=by rw[q];rfl
      by_cases m:sR read ref i j=true
      ·rw[m]at C;have M:=A4 m;clear m Y cS;go_upto_region 14 with fail;refine A5 8 (fun _=>True) U trivial (fun hH=>?_);refine A2 0 ?_;refine A2 1 ?_;refine A2 2 ?_;refine A2 3 ?_;refine A2 4 ?_;refine A2 5 ?_;refine wpS 6 fun K D=>?_;go_simp;go_at_call 126;refine(C _).mono ?_;rintro e w9 ⟨rfl,rfl⟩;refine E0 D trivial ?_;clear D K;refine A2 7 ?_;refine J5 ?_;clear hH;go_wp2_with fail;go_roundw;case rel=>
        refine⟨t+1,O,Zn,?_,?_,?_,?_,B3 c.o 1⟩
        ·rw[d.o,if_pos ⟨rfl,M.o⟩];go_num
        ·rw[f.o];show _=I J ((i+1:Nat):Int);go_num
        ·rw[f.o];show _=I J ((j+1:Nat):Int);go_num
        ·rw[d.o,if_pos ⟨rfl,M.o⟩];omega
       case measure=>simp[intOf];omega
      ·have aa:sR read ref i j=false:=by simpa using m
       rw[aa]at C;have M:=A4 aa;clear m aa Y cS;go_upto_region 14 with fail;refine A5 8 (fun _=>True) U trivial (fun hH=>?_);refine A2 0 ?_;refine A2 1 ?_;refine A2 2 ?_;refine A2 3 ?_;refine A2 4 ?_;refine A2 5 ?_;refine wpS 6 fun K D=>?_;go_simp;go_at_call 126;refine(C _).mono ?_;rintro e w9 ⟨rfl,rfl⟩;refine E0 D trivial ?_;clear D K;refine A2 7 ?_;refine J5 ?_;clear hH;go_wp2_with fail;go_roundw;case rel=>
        have g:¬(0=0∧sR read ref i j=true):=fun h=>by have:=h.2;rw[M.o]at this;cases this
        refine⟨t+1,O,Zn,?_,?_,?_,?_,B3 c.o 1⟩
        ·rw[d.o,if_neg g];rfl
        ·rw[f.o];show _=I J ((i+1:Nat):Int);go_num
        ·rw[f.o];show _=I J ((j+1:Nat):Int);go_num
        ·rw[d.o,if_neg g];omega
       case measure=>simp[intOf];omega
     ·rw[show Y8 1=(73:UInt8) from rfl]at q;have am:((o[t].toNat:Int))=73:=by rw[q];rfl
      go_wp2_with fail;go_roundw;case rel=>
       have g:¬(1=0∧sR read ref i j=true):=fun h=>absurd h.1 Z;refine⟨t+1,O,Zn,?_,?_,?_,?_,c.o⟩
       ·rw[d.o,if_neg g];rfl
       ·rw[f.o];show _=I J ((i+1:Nat):Int);go_num
       ·rw[f.o];rfl
       ·rw[d.o,if_neg g];omega
      case measure=>simp[intOf];omega
     ·rw[show Y8 2=(68:UInt8) from rfl]at q;have am:((o[t].toNat:Int))=68:=by rw[q];rfl
      go_wp2_with fail;go_roundw;case rel=>
       have g:¬(2=0∧sR read ref i j=true):=fun h=>absurd h.1 Z;refine⟨t+1,O,Zn,?_,?_,?_,?_,c.o⟩
       ·rw[d.o,if_neg g];rfl
       ·rw[f.o];rfl
       ·rw[f.o];show _=I J ((j+1:Nat):Int);go_num
       ·rw[d.o,if_neg g];omega
      case measure=>simp[intOf];omega
    ·have aB:t=k:=O;subst aB;have ay:¬(t:Int)<t:=O;have aC:Q.take t=Q:=List.take_of_length_le (by rw[v.o];exact Nat.le_refl _);rw[aC];go_wp2_with fail;go_ret2;refine⟨?_,c.o⟩;rw[←T.o];rfl
def loops:Code→List Code
 |.loop c=>[c]
 |.seq a b=>loops a++loops b
 |.block _ c=>loops c
 |.scope c=>loops c
 |.cond _ a b=>loops a++loops b
 |_=>[]
def A9t (read ref:ByteArray)(w4:World)(p q r i j:Nat)(xM:Int)(k:Nat)(wx:World):Prop:=k≤i∧G7 w4 wx p q r∧RX wx p (ref.size+1) j (fun k=>(cel 1000000000 (uR read ref) i k).m) xM∧RX wx q (ref.size+1) j (fun k=>(cel 1000000000 (uR read ref) i k).i) (S3 1000000000 (uR read ref) i j k)∧RX wx r (ref.size+1) j (fun k=>(cel 1000000000 (uR read ref) i k).d) 1000000000
def A7Y (read ref:ByteArray)(w4:World)(G p q r i j:Nat)(xM:Int)(a:Act)(wx:World):Prop:=∃k:Nat,A9t read ref w4 p q r i j xM k wx∧Fr 277 [(0,.string read),(1,.string ref),(5,.pointer (some ⟨G,0,none⟩)),(6,I J i),(7,I J j),(8,I J ((k:Int)+1))] a
def IMu (i j:Nat)(a:Act)(_:World):Nat:=i+1-(intOf (a.tmps.getD 8 undef)).toNat
def A6J (read ref:ByteArray)(w4:World)(G p q r i j:Nat)(xM:Int)(a:Act)(wx:World):Prop:=A9t read ref w4 p q r i j xM i wx∧Fr 277 [(0,.string read),(1,.string ref),(5,.pointer (some ⟨G,0,none⟩)),(6,I J i),(7,I J j)] a
def A4S (read ref:ByteArray)(w4:World)(p q r i j:Nat)(xM xI:Int)(k:Nat)(wx:World):Prop:=k≤j∧G7 w4 wx p q r∧RX wx p (ref.size+1) j (fun k=>(cel 1000000000 (uR read ref) i k).m) xM∧RX wx q (ref.size+1) j (fun k=>(cel 1000000000 (uR read ref) i k).i) xI∧RX wx r (ref.size+1) j (fun k=>(cel 1000000000 (uR read ref) i k).d) (A0T 1000000000 (uR read ref) i j k)
def A7F (read ref:ByteArray)(w4:World)(G p q r i j:Nat)(xM xI:Int)(a:Act)(wx:World):Prop:=∃k:Nat,A4S read ref w4 p q r i j xM xI k wx∧Fr 277 [(0,.string read),(1,.string ref),(5,.pointer (some ⟨G,0,none⟩)),(6,I J i),(7,I J j),(9,I J ((k:Int)+1))] a
def DMu (i j:Nat)(a:Act)(_:World):Nat:=j+1-(intOf (a.tmps.getD 9 undef)).toNat
def A6b (read ref:ByteArray)(w4:World)(G p q r i j:Nat)(xM xI:Int)(a:Act)(wx:World):Prop:=A4S read ref w4 p q r i j xM xI j wx∧Fr 277 [(0,.string read),(1,.string ref),(5,.pointer (some ⟨G,0,none⟩)),(6,I J i),(7,I J j)] a
theorem B2i (read ref:ByteArray)(hn:read.size≤300)(hm:ref.size≤600)(g:World)(G i h oM R l oI S m oD T p q r:Nat)(n V s:Nat→Nat)(hi:i≤read.size)(X:∀W,G7 g W p q r→GF read ref W G i (.slice (some ⟨h,oM,none⟩) (i+1) R) (.slice (some ⟨l,oI,none⟩) (i+1) S) (.slice (some ⟨m,oD,none⟩) (i+1) T) h oM l oI m oD n V s)(ab:n i=p∧V i=q∧s i=r)(ac:p≠q)(am:p≠r)(ad:q≠r)(j:Nat)(hj:j≤ref.size)(Y:Int)(k:Nat)(hk:k<i)(wr:World)(hR:A9t read ref g p q r i j Y k wr)(C:Act)(ae:Fr 277 [(0,.string read),(1,.string ref),(5,.pointer (some ⟨G,0,none⟩)),(6,I J i),(7,I J j),(8,I J ((k:Int)+1))] C)(D:Exit→Act→World→Prop)(hQ0:∀(c:List PanicEntry) (a:Act) (d:Option Tmp) (v:Value) (w:World),D (.panic c) (a.put d v) w→D (.panic c) a w)(B:Code)(hB:((((Tryz.f124.body.bind B0).bind B0).map loops).getD [])[0]?=some B) :
 Code.wp Tryz.prog B (Exit.then (fun a' w'=>A7Y read ref g G p q r i j Y a' w'∧IMu i j a' w'<IMu i j C wr) D) C wr:=by
 have t:=hB
 conv at t=>lhs;whnf
 injection t with t
 subst t
 clear hB
 obtain⟨f0,rfl,E⟩:=ae
 simp only[Hs]at E
 simp only[fr,Y7,Nat.reduceAdd,E]
 clear E
 obtain⟨_,F,xp,u,xr⟩:=hR
 obtain⟨g2,g3,g4,H,gc⟩:=X wr F
 obtain⟨d,hd⟩:=A8 (i - (k+1))
 obtain⟨r1,r2,r3⟩:=H i (Nat.le_refl _)
 rw[ab.2.1]at r2
 obtain⟨s1,s2,s3⟩:=H d O
 obtain⟨t1,t2,t3⟩:=gc d j O hj
 have y:=U9 read ref d j O O
 obtain⟨cc,L⟩:=A8 (cel 1000000000 (uR read ref) d j)
 rw[←L]at t1 t3 y
 have M:=u.2
 obtain⟨x,N⟩:=A8 (S3 1000000000 (uR read ref) i j k)
 rw[←N]at M
 obtain⟨A,c1,b1⟩:=cc
 have P:Hd (S3 1000000000 (uR read ref) i j (k+1)=min x (min A b1+4+2*((k:Int)+1))):=by
  show _=_
  rw[S3,←N,←hd,←L]
 try simp only at t1 t3
 have an:(d:Int)<(i:Int)+1:=O
 unfold okB at y
 simp only at y
 have af:(i:Int) - ((k:Int)+1)=(d:Int):=O
 have ao:IntKind.i64.wrap ((i:Int) - ((k:Int)+1))=(d:Int):=Zw
 have ap:IntKind.i64.wrap (d:Int)=(d:Int):=Zw
 obtain⟨b,Q⟩:=A8 (min A b1)
 have ag:0≤b∧b≤1500000000:=O
 have w1:IntKind.i64.wrap (b+4)=b+4:=Zw
 have w2:IntKind.i64.wrap (2*((k:Int)+1))=2*((k:Int)+1):=Zw
 have w3:IntKind.i64.wrap (b+4+2*((k:Int)+1))=b+4+2*((k:Int)+1):=Zw
 have wk:IntKind.i64.wrap ((k:Int)+1+1)=(k:Int)+1+1:=Zw
 have cA:=fun W=>U4 A b1 W
 rw[←Q]at cA
 have cB:=fun W=>U4 x (b+4+2*((k:Int)+1)) W
 rw[←Q]at P
 have aq:(k:Int)+1≤i:=O
 have ar:(i:Int)<(i:Int)+1:=O
 have au:(j:Int)<(ref.size:Int)+1:=O
 obtain⟨z,hz⟩:=A8 (min x (b+4+2*((k:Int)+1)))
 rw[←hz]at cB P
 have ah:=A4 xp
 have ai:=A4 u
 have aj:=A4 xr
 have ak:=A4 F
 have fz:wr.drew.frozen? ⟨q,j,none⟩=false:=(u.1.any j O).2
 have fy:wr.drew.cell? ⟨q,j,none⟩=some (I J x):=M
 have aa:=A4 hk
 clear af hd L N Q hz F xp u xr H gc X y ag
 go_upto_region 21 with fail
 refine A5 49 (fun W=>W.cell? ⟨G,2,none⟩=some (.slice (some ⟨h,oM,none⟩) (i+1) R)∧W.cell? ⟨G,3,none⟩=some (.slice (some ⟨l,oI,none⟩) (i+1) S)∧W.cell? ⟨G,4,none⟩=some (.slice (some ⟨m,oD,none⟩) (i+1) T)∧W.cell? ⟨l,oI+i,none⟩=some (.slice (some ⟨q,0,none⟩) (ref.size+1) (ref.size+1))∧W.cell? ⟨h,oM+d,none⟩=some (.slice (some ⟨n d,0,none⟩) (ref.size+1) (ref.size+1))∧W.cell? ⟨m,oD+d,none⟩=some (.slice (some ⟨s d,0,none⟩) (ref.size+1) (ref.size+1))∧W.cell? ⟨q,j,none⟩=some (I J x)∧W.cell? ⟨n d,j,none⟩=some (I J A)∧W.cell? ⟨s d,j,none⟩=some (I J b1)) U ⟨g2,g3,g4,r2,s1,s3,M,t1,t3⟩ (fun hH=>?_)
 refine A2 0 ?_
 refine A2 1 ?_
 refine A2 2 ?_
 refine A2 3 ?_
 refine A2 4 ?_
 refine A2 5 ?_
 refine A2 6 ?_
 refine A2 7 ?_
 refine A2 8 ?_
 refine A2 9 ?_
 refine A2 10 ?_
 refine A2 11 ?_
 refine A2 12 ?_
 refine A2 13 ?_
 refine A2 14 ?_
 refine A2 15 ?_
 refine A2 16 ?_
 refine A2 17 ?_
 refine A2 18 ?_
 refine A2 19 ?_
 refine A2 20 ?_
 refine A2 21 ?_
 refine A2 22 ?_
 refine A2 23 ?_
 refine A2 24 ?_
 refine A2 25 ?_
 refine A2 26 ?_
 refine A2 27 ?_
 refine A2 28 ?_
 refine A2 29 ?_
 refine A2 30 ?_
 refine A2 31 ?_
 refine A2 32 ?_
 refine A2 33 ?_
 refine A2 34 ?_
 refine A2 35 ?_
 refine A2 36 ?_
 refine A2 37 ?_
 refine A2 38 ?_
 refine A2 39 ?_
 refine A2 40 ?_
 refine A2 41 ?_
 refine A2 44 ?_
 refine A2 45 ?_
 refine wpS 42 fun K f=>?_
 go_simp
 go_at_call 169
 refine (cA _).mono ?_
 rintro e wz ⟨rfl,rfl⟩
 refine E0 f hH ?_
 clear f K
 refine A2 43 ?_
 refine A2 46 ?_
 refine wpS 47 fun K f=>?_
 go_simp
 go_at_call 169
 refine (cB _).mono ?_
 rintro e wz ⟨rfl,rfl⟩
 refine E0 f hH ?_
 clear f K
 refine A2 48 ?_
 refine B6 (i:=49) U rfl U U (fun K f=>?_)
 go_simp
 refine f.out _ _ ?_
 clear f K hH
 try simp only[Act.put,zA0,zZ0,zS0]
 go_wp2_with fail
 refine⟨?_,?_⟩
 ·refine⟨k+1,?_,Fr.of _ rfl ⟨rfl,rfl,rfl,rfl,rfl,rfl,trivial⟩⟩
  have al:G7 g (wr.drew.setCell ⟨q,j,none⟩ (I J z)) p q r:=(ak.o.drewN 1).set _ _ _ (Or.inr (Or.inl rfl))
  refine⟨aa.o,al,?_,?_,?_⟩
  ·exact ah.o.other (heap_setCell_other wr.drew _ p _ ac)
  ·rw[P.o]
   exact (ai.o.1.other (w':=wr.drew) rfl).set O z
  ·exact aj.o.other (heap_setCell_other wr.drew _ r _ (Ne.symm ad))
 ·have:=aa.o
  simp[IMu,intOf];omega
theorem B2s (read ref:ByteArray)(c:World)(G p q r i j:Nat)(hi:i≤read.size)(v:j≤ref.size)(w:read.size≤300)(hm:ref.size≤600)(d:Int)(wr:World)(f:A9t read ref c p q r i j d i wr)(g:Act)(n:Fr 277 [(0,.string read),(1,.string ref),(5,.pointer (some ⟨G,0,none⟩)),(6,I J i),(7,I J j),(8,I J ((i:Int)+1))] g)(s:Act→World→Prop)(h:Exit→Act→World→Prop)(k:∀l w',A6J read ref c G p q r i j d l w'→h (.exit 4) l w')(B:Code)(m:((((Tryz.f124.body.bind B0).bind B0).map loops).getD [])[0]?=some B) :
 Code.wp Tryz.prog B (Exit.then s h) g wr:=by
 have a:=m
 conv at a=>lhs;whnf
 injection a with a
 subst a
 clear m
 obtain⟨f0,rfl,b⟩:=n
 simp only[Hs]at b
 simp only[fr,Y7,Nat.reduceAdd,b]
 clear b
 have t:=A4 k
 have u:=A4 f
 have x:¬(i:Int)+1≤i:=O
 clear k f
 go_wp2_with fail
 refine t.o _ _ ?_
 exact⟨u.o,Fr.of _ rfl ⟨rfl,rfl,rfl,rfl,rfl,trivial⟩⟩
theorem B1H (read ref:ByteArray)(y:read.size≤300)(hm:ref.size≤600)(b:World)(G i m oM z n oI A o oD C p q r:Nat)(s t u:Nat→Nat)(hi:i≤read.size)(H:∀W,G7 b W p q r→GF read ref W G i (.slice (some ⟨m,oM,none⟩) (i+1) z) (.slice (some ⟨n,oI,none⟩) (i+1) A) (.slice (some ⟨o,oD,none⟩) (i+1) C) m oM n oI o oD s t u)(K:s i=p∧t i=q∧u i=r)(L:p≠q)(M:p≠r)(N:q≠r)(j:Nat)(D:j≤ref.size)(g:Int)(f:Exit→Act→World→Prop)(hQ0:∀(c:List PanicEntry) (a:Act) (d:Option Tmp) (v:Value) (w:World),f (.panic c) (a.put d v) w→f (.panic c) a w)(P:∀h w',A6J read ref b G p q r i j g h w'→f (.exit 4) h w')(B:Code)(E:((((Tryz.f124.body.bind B0).bind B0).map loops).getD [])[0]?=some B)(a:Act)(wx:World)(l:A7Y read ref b G p q r i j g a wx) :
 Code.wp Tryz.prog B (Exit.then (fun h w'=>A7Y read ref b G p q r i j g h w'∧IMu i j h w'<IMu i j a wx) f) a wx:=by
 unfold A7Y at l
 obtain⟨k,l⟩:=l
 obtain⟨x,F⟩:=l
 have hk:=x.1
 by_cases Q:k<i
 ·exact B2i read ref y hm b G i m oM z n oI A o oD C p q r s t u hi H K L M N j D g k Q wx x a F f hQ0 B E
 ·obtain rfl:k=i:=O
  exact B2s read ref b G p q r k j hi D y hm g wx x a F _ f P B E
theorem A4H (read ref:ByteArray)(z:read.size≤300)(hm:ref.size≤600)(b:World)(G i h oM s k oI t l oD u p q r:Nat)(m n o:Nat→Nat)(hi:i≤read.size)(A:∀W,G7 b W p q r→GF read ref W G i (.slice (some ⟨h,oM,none⟩) (i+1) s) (.slice (some ⟨k,oI,none⟩) (i+1) t) (.slice (some ⟨l,oD,none⟩) (i+1) u) h oM k oI l oD m n o)(C:m i=p∧n i=q∧o i=r)(D:p≠q)(E:p≠r)(F:q≠r)(j:Nat)(H:j≤ref.size)(g:Int)(f:Exit→Act→World→Prop)(hQ0:∀(c:List PanicEntry) (a:Act) (d:Option Tmp) (v:Value) (w:World),f (.panic c) (a.put d v) w→f (.panic c) a w)(K:∀x w',A6J read ref b G p q r i j g x w'→f (.exit 4) x w')(B:Code)(L:((((Tryz.f124.body.bind B0).bind B0).map loops).getD [])[0]?=some B)(y:Act)(M:Fr 277 [(0,.string read),(1,.string ref),(5,.pointer (some ⟨G,0,none⟩)),(6,I J i),(7,I J j),(8,I J (1))] y)(wx:World)(N:A9t read ref b p q r i j g 0 wx) :
 Code.wp Tryz.prog (Code.loop B) f y wx:=by
 refine wp_loop (A7Y read ref b G p q r i j g) (IMu i j) ?_ (fun a P Q=>B1H read ref z hm b G i h oM s k oI t l oD u p q r m n o hi A C D E F j H g f hQ0 K B L a P Q)
 unfold A7Y
 exact⟨0,N,M⟩
theorem B1Z (read ref:ByteArray)(hn:read.size≤300)(hm:ref.size≤600)(g:World)(G i h oM R l oI S m oD T p q r:Nat)(V X Y:Nat→Nat)(hi:i≤read.size)(aa:∀W,G7 g W p q r→GF read ref W G i (.slice (some ⟨h,oM,none⟩) (i+1) R) (.slice (some ⟨l,oI,none⟩) (i+1) S) (.slice (some ⟨m,oD,none⟩) (i+1) T) h oM l oI m oD V X Y)(y:V i=p∧X i=q∧Y i=r)(am:p≠q)(ac:p≠r)(ad:q≠r)(j:Nat)(hj:j≤ref.size)(xM xI:Int)(k:Nat)(hk:k<j)(wr:World)(hR:A4S read ref g p q r i j xM xI k wr)(A:Act)(ae:Fr 277 [(0,.string read),(1,.string ref),(5,.pointer (some ⟨G,0,none⟩)),(6,I J i),(7,I J j),(9,I J ((k:Int)+1))] A)(C:Exit→Act→World→Prop)(hQ0:∀(c:List PanicEntry) (a:Act) (d:Option Tmp) (v:Value) (w:World),C (.panic c) (a.put d v) w→C (.panic c) a w)(B:Code)(hB:((((Tryz.f124.body.bind B0).bind B0).map loops).getD [])[1]?=some B) :
 Code.wp Tryz.prog B (Exit.then (fun a' w'=>A7F read ref g G p q r i j xM xI a' w'∧DMu i j a' w'<DMu i j A wr) C) A wr:=by
 have n:=hB
 conv at n=>lhs;whnf
 injection n with n
 subst n
 clear hB
 obtain⟨f0,rfl,D⟩:=ae
 simp only[Hs]at D
 simp only[fr,Y7,Nat.reduceAdd,D]
 clear D
 obtain⟨_,E,F,H,s⟩:=hR
 obtain⟨g2,g3,g4,gr,gc⟩:=aa wr E
 obtain⟨d,hd⟩:=A8 (j - (k+1))
 obtain⟨r1,r2,r3⟩:=gr i (Nat.le_refl _)
 rw[y.1]at r1
 rw[y.2.1]at r2
 rw[y.2.2]at r3
 have t1:=F.1.cell d O
 have t3:=H.1.cell d O
 have t:=U9 read ref i d O O
 obtain⟨cc,L⟩:=A8 (cel 1000000000 (uR read ref) i d)
 try simp only at t1 t3
 rw[←L]at t1 t3 t
 have M:=s.2
 obtain⟨x,N⟩:=A8 (A0T 1000000000 (uR read ref) i j k)
 rw[←N]at M
 obtain⟨u,b1,c1⟩:=cc
 have P:Hd (A0T 1000000000 (uR read ref) i j (k+1)=min x (min u b1+4+2*((k:Int)+1))):=by
  show _=_
  rw[A0T,←N,←hd,←L]
 try simp only at t1 t3
 have an:(d:Int)<(ref.size:Int)+1:=O
 unfold okB at t
 simp only at t
 have af:(j:Int) - ((k:Int)+1)=(d:Int):=O
 have ao:IntKind.i64.wrap ((j:Int) - ((k:Int)+1))=(d:Int):=Zw
 have ap:IntKind.i64.wrap (d:Int)=(d:Int):=Zw
 obtain⟨b,Q⟩:=A8 (min u b1)
 have ag:0≤b∧b≤1500000000:=O
 have w1:IntKind.i64.wrap (b+4)=b+4:=Zw
 have w2:IntKind.i64.wrap (2*((k:Int)+1))=2*((k:Int)+1):=Zw
 have w3:IntKind.i64.wrap (b+4+2*((k:Int)+1))=b+4+2*((k:Int)+1):=Zw
 have wk:IntKind.i64.wrap ((k:Int)+1+1)=(k:Int)+1+1:=Zw
 have cA:=fun W=>U4 u b1 W
 rw[←Q]at cA
 have cB:=fun W=>U4 x (b+4+2*((k:Int)+1)) W
 rw[←Q]at P
 have aq:(k:Int)+1≤j:=O
 have ar:(i:Int)<(i:Int)+1:=O
 have au:(j:Int)<(ref.size:Int)+1:=O
 obtain⟨z,hz⟩:=A8 (min x (b+4+2*((k:Int)+1)))
 rw[←hz]at cB P
 have ah:=A4 F
 have ai:=A4 H
 have aj:=A4 s
 have ak:=A4 E
 have fz:wr.drew.frozen? ⟨r,j,none⟩=false:=(s.1.any j O).2
 have fy:wr.drew.cell? ⟨r,j,none⟩=some (I J x):=M
 have ab:=A4 hk
 clear af hd L N Q hz E F H s gr gc aa t ag
 go_upto_region 25 with fail
 refine A5 49 (fun W=>W.cell? ⟨G,2,none⟩=some (.slice (some ⟨h,oM,none⟩) (i+1) R)∧W.cell? ⟨G,3,none⟩=some (.slice (some ⟨l,oI,none⟩) (i+1) S)∧W.cell? ⟨G,4,none⟩=some (.slice (some ⟨m,oD,none⟩) (i+1) T)∧W.cell? ⟨m,oD+i,none⟩=some (.slice (some ⟨r,0,none⟩) (ref.size+1) (ref.size+1))∧W.cell? ⟨h,oM+i,none⟩=some (.slice (some ⟨p,0,none⟩) (ref.size+1) (ref.size+1))∧W.cell? ⟨l,oI+i,none⟩=some (.slice (some ⟨q,0,none⟩) (ref.size+1) (ref.size+1))∧W.cell? ⟨r,j,none⟩=some (I J x)∧W.cell? ⟨p,d,none⟩=some (I J u)∧W.cell? ⟨q,d,none⟩=some (I J b1)) U ⟨g2,g3,g4,r3,r1,r2,M,t1,t3⟩ (fun hH=>?_)
 refine A2 0 ?_
 refine A2 1 ?_
 refine A2 2 ?_
 refine A2 3 ?_
 refine A2 4 ?_
 refine A2 5 ?_
 refine A2 6 ?_
 refine A2 7 ?_
 refine A2 8 ?_
 refine A2 9 ?_
 refine A2 10 ?_
 refine A2 11 ?_
 refine A2 12 ?_
 refine A2 13 ?_
 refine A2 14 ?_
 refine A2 15 ?_
 refine A2 16 ?_
 refine A2 17 ?_
 refine A2 18 ?_
 refine A2 19 ?_
 refine A2 20 ?_
 refine A2 21 ?_
 refine A2 22 ?_
 refine A2 23 ?_
 refine A2 24 ?_
 refine A2 25 ?_
 refine A2 26 ?_
 refine A2 27 ?_
 refine A2 28 ?_
 refine A2 29 ?_
 refine A2 30 ?_
 refine A2 31 ?_
 refine A2 32 ?_
 refine A2 33 ?_
 refine A2 34 ?_
 refine A2 35 ?_
 refine A2 36 ?_
 refine A2 37 ?_
 refine A2 38 ?_
 refine A2 39 ?_
 refine A2 40 ?_
 refine A2 41 ?_
 refine A2 44 ?_
 refine A2 45 ?_
 refine wpS 42 fun K f=>?_
 go_simp
 go_at_call 169
 refine (cA _).mono ?_
 rintro e wz ⟨rfl,rfl⟩
 refine E0 f hH ?_
 clear f K
 refine A2 43 ?_
 refine A2 46 ?_
 refine wpS 47 fun K f=>?_
 go_simp
 go_at_call 169
 refine (cB _).mono ?_
 rintro e wz ⟨rfl,rfl⟩
 refine E0 f hH ?_
 clear f K
 refine A2 48 ?_
 refine B6 (i:=49) U rfl U U (fun K f=>?_)
 go_simp
 refine f.out _ _ ?_
 clear f K hH
 try simp only[Act.put,zA0,zZ0,zS0]
 go_wp2_with fail
 refine⟨?_,?_⟩
 ·refine⟨k+1,?_,Fr.of _ rfl ⟨rfl,rfl,rfl,rfl,rfl,rfl,trivial⟩⟩
  have al:G7 g (wr.drew.setCell ⟨r,j,none⟩ (I J z)) p q r:=(ak.o.drewN 1).set _ _ _ (Or.inr (Or.inr rfl))
  refine⟨ab.o,al,?_,?_,?_⟩
  ·exact ah.o.other (heap_setCell_other wr.drew _ p _ ac)
  ·exact ai.o.other (heap_setCell_other wr.drew _ q _ ad)
  ·rw[P.o]
   exact (aj.o.1.other (w':=wr.drew) rfl).set O z
 ·have:=ab.o
  simp[DMu,intOf];omega
theorem B2t (read ref:ByteArray)(c:World)(G p q r i j:Nat)(hi:i≤read.size)(w:j≤ref.size)(x:read.size≤300)(hm:ref.size≤600)(d f:Int)(wr:World)(g:A4S read ref c p q r i j d f j wr)(h:Act)(s:Fr 277 [(0,.string read),(1,.string ref),(5,.pointer (some ⟨G,0,none⟩)),(6,I J i),(7,I J j),(9,I J ((j:Int)+1))] h)(t:Act→World→Prop)(k:Exit→Act→World→Prop)(l:∀m w',A6b read ref c G p q r i j d f m w'→k (.exit 6) m w')(B:Code)(n:((((Tryz.f124.body.bind B0).bind B0).map loops).getD [])[1]?=some B) :
 Code.wp Tryz.prog B (Exit.then t k) h wr:=by
 have a:=n
 conv at a=>lhs;whnf
 injection a with a
 subst a
 clear n
 obtain⟨f0,rfl,b⟩:=s
 simp only[Hs]at b
 simp only[fr,Y7,Nat.reduceAdd,b]
 clear b
 have u:=A4 l
 have v:=A4 g
 have y:¬(j:Int)+1≤j:=O
 clear l g
 go_wp2_with fail
 refine u.o _ _ ?_
 exact⟨v.o,Fr.of _ rfl ⟨rfl,rfl,rfl,rfl,rfl,trivial⟩⟩
theorem B1B (read ref:ByteArray)(z:read.size≤300)(hm:ref.size≤600)(b:World)(G i n oM A o oI C s oD D p q r:Nat)(t u x:Nat→Nat)(hi:i≤read.size)(K:∀W,G7 b W p q r→GF read ref W G i (.slice (some ⟨n,oM,none⟩) (i+1) A) (.slice (some ⟨o,oI,none⟩) (i+1) C) (.slice (some ⟨s,oD,none⟩) (i+1) D) n oM o oI s oD t u x)(L:t i=p∧u i=q∧x i=r)(M:p≠q)(N:p≠r)(P:q≠r)(j:Nat)(E:j≤ref.size)(g h:Int)(f:Exit→Act→World→Prop)(hQ0:∀(c:List PanicEntry) (a:Act) (d:Option Tmp) (v:Value) (w:World),f (.panic c) (a.put d v) w→f (.panic c) a w)(Q:∀l w',A6b read ref b G p q r i j g h l w'→f (.exit 6) l w')(B:Code)(F:((((Tryz.f124.body.bind B0).bind B0).map loops).getD [])[1]?=some B)(a:Act)(wx:World)(m:A7F read ref b G p q r i j g h a wx) :
 Code.wp Tryz.prog B (Exit.then (fun l w'=>A7F read ref b G p q r i j g h l w'∧DMu i j l w'<DMu i j a wx) f) a wx:=by
 unfold A7F at m
 obtain⟨k,m⟩:=m
 obtain⟨y,H⟩:=m
 have hk:=y.1
 by_cases R:k<j
 ·exact B1Z read ref z hm b G i n oM A o oI C s oD D p q r t u x hi K L M N P j E g h k R wx y a H f hQ0 B F
 ·obtain rfl:k=j:=O
  exact B2t read ref b G p q r i k hi E z hm g h wx y a H _ f Q B F
theorem A4o (read ref:ByteArray)(A:read.size≤300)(hm:ref.size≤600)(b:World)(G i k oM t l oI u m oD x p q r:Nat)(n o s:Nat→Nat)(hi:i≤read.size)(C:∀W,G7 b W p q r→GF read ref W G i (.slice (some ⟨k,oM,none⟩) (i+1) t) (.slice (some ⟨l,oI,none⟩) (i+1) u) (.slice (some ⟨m,oD,none⟩) (i+1) x) k oM l oI m oD n o s)(D:n i=p∧o i=q∧s i=r)(E:p≠q)(F:p≠r)(H:q≠r)(j:Nat)(K:j≤ref.size)(g h:Int)(f:Exit→Act→World→Prop)(hQ0:∀(c:List PanicEntry) (a:Act) (d:Option Tmp) (v:Value) (w:World),f (.panic c) (a.put d v) w→f (.panic c) a w)(L:∀y w',A6b read ref b G p q r i j g h y w'→f (.exit 6) y w')(B:Code)(M:((((Tryz.f124.body.bind B0).bind B0).map loops).getD [])[1]?=some B)(z:Act)(N:Fr 277 [(0,.string read),(1,.string ref),(5,.pointer (some ⟨G,0,none⟩)),(6,I J i),(7,I J j),(9,I J (1))] z)(wx:World)(P:A4S read ref b p q r i j g h 0 wx) :
 Code.wp Tryz.prog (Code.loop B) f z wx:=by
 refine wp_loop (A7F read ref b G p q r i j g h) (DMu i j) ?_ (fun a Q R=>B1B read ref A hm b G i k oM t l oI u m oD x p q r n o s hi C D E F H j K g h f hQ0 L B M a Q R)
 unfold A7F
 exact⟨0,P,N⟩
def A2v (read ref:ByteArray)(w4:World)(p q r i j:Nat)(wx:World):Prop:=G7 w4 wx p q r∧RP wx p (ref.size+1) j (fun k=>(cel 1000000000 (uR read ref) i k).m)∧RP wx q (ref.size+1) j (fun k=>(cel 1000000000 (uR read ref) i k).i)∧RP wx r (ref.size+1) j (fun k=>(cel 1000000000 (uR read ref) i k).d)
def A4Q (read ref:ByteArray)(w4:World)(G p q r i:Nat)(a:Act)(wx:World):Prop:=∃j:Nat,(j≤ref.size+1∧A2v read ref w4 p q r i j wx)∧Fr 277 [(0,.string read),(1,.string ref),(5,.pointer (some ⟨G,0,none⟩)),(6,I J i),(7,I J ((j:Nat)))] a
def JMu (m:Nat)(a:Act)(_:World):Nat:=m+1-(intOf (a.tmps.getD 7 undef)).toNat
def B0S (read ref:ByteArray)(w4:World)(G p q r i:Nat)(a:Act)(wx:World):Prop:=A2v read ref w4 p q r i (ref.size+1) wx∧Fr 277 [(0,.string read),(1,.string ref),(5,.pointer (some ⟨G,0,none⟩)),(6,I J i)] a
theorem B1r (read ref:ByteArray)(hn:read.size≤300)(hm:ref.size≤600)(b:World)(G i H oM X K oI Y L oD cD p q r:Nat)(M N P:Nat→Nat)(hi:i≤read.size)(aa:∀W,G7 b W p q r→GF read ref W G i (.slice (some ⟨H,oM,none⟩) (i+1) X) (.slice (some ⟨K,oI,none⟩) (i+1) Y) (.slice (some ⟨L,oD,none⟩) (i+1) cD) H oM K oI L oD M N P)(ab:M i=p∧N i=q∧P i=r)(y:p≠q)(z:p≠r)(Q:q≠r)(j:Nat)(hj:j≤ref.size)(A:i=0)(C:j=0)(g:World)(hR:A2v read ref b p q r i j g)(fa:Act)(D:Fr 277 [(0,.string read),(1,.string ref),(5,.pointer (some ⟨G,0,none⟩)),(6,I J i),(7,I J ((j:Nat)))] fa)(Q0:Exit→Act→World→Prop)(hQ0:∀(c:List PanicEntry) (a:Act) (d:Option Tmp) (v:Value) (w:World),Q0 (.panic c) (a.put d v) w→Q0 (.panic c) a w)(B:Code)(hB:((Tryz.f124.body.bind B0).bind B0)=some B) :
 Code.wp Tryz.prog B (Exit.then (fun R w'=>A4Q read ref b G p q r i R w'∧JMu ref.size R w'<JMu ref.size fa g) Q0) fa g:=by
 have S:=hB
 conv at S=>lhs;whnf
 injection S with S
 subst S
 clear hB
 obtain⟨f0,rfl,f⟩:=D
 simp only[Hs]at f
 simp only[fr,Y7,Nat.reduceAdd,f]
 clear f
 obtain⟨ac,ad,aq,ar⟩:=hR
 have T:=A4 aa
 have V:=A4 ab
 have bd:(j:Int)≤ref.size:=O
 have be:(j:Int)<(ref.size:Int)+1:=O
 have bf:(i:Int)<(i:Int)+1:=O
 have au:=A4 A
 have ae:=A4 C
 clear A C
 have af:=T.o g ac
 have av:=(af.2.2.2.1 i (Nat.le_refl _)).1
 rw[V.o.1]at av
 have aN:=af.1
 obtain⟨⟨y0,aO⟩,aP⟩:=ad.any j O
 clear af
 go_upto_region 12 with fail
 obtain⟨l,s⟩:=A8 (g.setCell ⟨p,j,none⟩ (I J 1000000000))
 have ag:G7 b l p q r:=by rw[s];exact ac.set _ _ _ (by exact Or.inl rfl)
 have ah:=ad.set O 1000000000
 rw[←s]at ah
 have ai:RP l q (ref.size+1) j (fun k=>(cel 1000000000 (uR read ref) i k).i):=aq.other (by rw[s];exact heap_setCell_other g _ q _ (Ne.symm y))
 have aw:RP l r (ref.size+1) j (fun k=>(cel 1000000000 (uR read ref) i k).d):=ar.other (by rw[s];exact heap_setCell_other g _ r _ (Ne.symm z))
 rw[←s]
 clear s ac ad aq ar av aN aO aP
 have aj:=T.o l ag
 have ax:=(aj.2.2.2.1 i (Nat.le_refl _)).2.1
 rw[V.o.2.1]at ax
 have aQ:=aj.2.1
 obtain⟨⟨y1,aR⟩,aS⟩:=ai.any j O
 clear aj
 go_upto_region 13 with fail
 obtain⟨w7,t⟩:=A8 (l.setCell ⟨q,j,none⟩ (I J 1000000000))
 have ak:G7 b w7 p q r:=by rw[t];exact ag.set _ _ _ (by exact Or.inr (Or.inl rfl))
 have al:=ai.set O 1000000000
 rw[←t]at al
 have ay:=ah.other (w':=w7) (by rw[t];exact heap_setCell_other l _ p _ y)
 have am:RP w7 r (ref.size+1) j (fun k=>(cel 1000000000 (uR read ref) i k).d):=aw.other (by rw[t];exact heap_setCell_other l _ r _ (Ne.symm Q))
 rw[←t]
 clear t ag ah ai aw ax aQ aR aS
 have an:=T.o w7 ak
 have az:=(an.2.2.2.1 i (Nat.le_refl _)).2.2
 rw[V.o.2.2]at az
 have aT:=an.2.2.1
 obtain⟨⟨y2,aU⟩,aV⟩:=am.any j O
 clear an
 go_upto_region 14 with fail
 obtain⟨n,u⟩:=A8 (w7.setCell ⟨r,j,none⟩ (I J 1000000000))
 have aA:G7 b n p q r:=by rw[u];exact ak.set _ _ _ (by exact Or.inr (Or.inr rfl))
 have ao:=am.set O 1000000000
 rw[←u]at ao
 have aB:=ay.other (w':=n) (by rw[u];exact heap_setCell_other w7 _ p _ z)
 have aC:=al.other (w':=n) (by rw[u];exact heap_setCell_other w7 _ q _ Q)
 rw[←u]
 have aW:=A4 aC
 have aX:=A4 ao
 have ap:=A4 aB
 have aD:=A4 aA
 clear u ak ay al am az aT aU aV aC ao aB aA
 have A:=au.o
 have C:=ae.o
 have bg:((i:Int)==0)=true:=by rw[beq_iff_eq];omega
 have bh:((j:Int)==0)=true:=by rw[beq_iff_eq];omega
 have bi:¬(0:Int)<i:=O
 have bj:¬(0:Int)<j:=O
 have gf:=T.o n aD.o
 have s0:=(gf.2.2.2.1 i (Nat.le_refl _)).1
 rw[V.o.1,A,Nat.add_zero]at s0
 have g2:=gf.1
 have fy:=ap.o.2
 have fz:=(ap.o.1.any j O).2
 rw[C]at fy fz
 have bk:(0:Int)<(i:Int)+1:=O
 have bl:(0:Int)<(ref.size:Int)+1:=O
 clear gf A C
 go_upto_region 16 with fail
 obtain⟨E,x⟩:=A8 (n.setCell ⟨p,0,none⟩ (I J 0))
 have aY:G7 b E p q r:=by rw[x];exact aD.o.set _ _ _ (Or.inl rfl)
 have aZ:RX E p (ref.size+1) j (fun k=>(cel 1000000000 (uR read ref) i k).m) 0:=by
  have h:=ap.o.1.set O 0
  rw[x]
  rw[ae.o]at h ⊢
  exact h
 have ba:RX E q (ref.size+1) j (fun k=>(cel 1000000000 (uR read ref) i k).i) 1000000000:=aW.o.other (by rw[x];exact heap_setCell_other n _ q _ (Ne.symm y))
 have bb:RX E r (ref.size+1) j (fun k=>(cel 1000000000 (uR read ref) i k).d) 1000000000:=aX.o.other (by rw[x];exact heap_setCell_other n _ r _ (Ne.symm z))
 rw[←x]
 clear x g2 s0 fy fz
 go_wp2_with fail
 refine A4H read ref hn hm b G i H oM X K oI Y L oD cD p q r M N P hi aa ab y z Q j hj 0 _ ?_ ?_ _ rfl _ (Fr.of _ rfl ⟨rfl,rfl,rfl,rfl,rfl,rfl,trivial⟩) E ⟨Nat.zero_le _,aY,aZ,ba,bb⟩
 ·exact fun c a d v w h=>hQ0 c a d v w h
 intro R wI F
 unfold A6J at F
 obtain⟨⟨_,aE,aF,aG,aH⟩,D⟩:=F
 obtain⟨f0,rfl,f⟩:=D
 simp only[Hs]at f
 simp only[fr,Y7,Nat.reduceAdd,f]
 clear f
 have aI:Hd (A4S read ref b p q r i j (0) (S3 1000000000 (uR read ref) i j i) 0 wI):=⟨Nat.zero_le _,aE,aF,aG,aH⟩
 clear aE aF aG aH
 go_wp2_with fail
 refine A4o read ref hn hm b G i H oM X K oI Y L oD cD p q r M N P hi aa ab y z Q j hj (0) (S3 1000000000 (uR read ref) i j i) _ ?_ ?_ _ rfl _ (Fr.of _ rfl ⟨rfl,rfl,rfl,rfl,rfl,rfl,trivial⟩) wI aI.o
 ·exact fun c a d v w h=>hQ0 c a d v w h
 intro R wD F
 unfold A6b at F
 obtain⟨⟨_,aJ,aK,aL,aM⟩,D⟩:=F
 obtain⟨f0,rfl,f⟩:=D
 simp only[Hs]at f
 simp only[fr,Y7,Nat.reduceAdd,f]
 clear f
 have bc:Hd (A2v read ref b p q r i (j+1) wD):=⟨aJ,aK.next (by rw[au.o,ae.o];exact rfl),aL.next (A1Q 1000000000 O (uR read ref) (P0 read ref) j O i O),aM.next (A1O 1000000000 O (uR read ref) (P0 read ref) i O j O)⟩
 have bm:IntKind.i64.wrap ((j:Int)+1)=((j+1:Nat):Int):=Zw
 have bn:j≤ref.size:=hj
 clear aJ aK aL aM aI
 go_wp2_with fail
 refine⟨?_,?_⟩
 ·exact⟨j+1,⟨O,bc.o⟩,Fr.of _ rfl ⟨rfl,rfl,rfl,rfl,rfl,trivial⟩⟩
 ·simp[JMu,intOf];omega
theorem B1c (read ref:ByteArray)(hn:read.size≤300)(hm:ref.size≤600)(f:World)(G i x oM Q y oI R z oD S p q r:Nat)(A C D:Nat→Nat)(hi:i≤read.size)(T:∀W,G7 f W p q r→GF read ref W G i (.slice (some ⟨x,oM,none⟩) (i+1) Q) (.slice (some ⟨y,oI,none⟩) (i+1) R) (.slice (some ⟨z,oD,none⟩) (i+1) S) x oM y oI z oD A C D)(V:A i=p∧C i=q∧D i=r)(E:p≠q)(F:p≠r)(H:q≠r)(j:Nat)(X:j≤ref.size)(K:i=0)(L:0<j)(g:World)(hR:A2v read ref f p q r i j g)(Y:Act)(t:Fr 277 [(0,.string read),(1,.string ref),(5,.pointer (some ⟨G,0,none⟩)),(6,I J i),(7,I J ((j:Nat)))] Y)(Q0:Exit→Act→World→Prop)(hQ0:∀(c:List PanicEntry) (a:Act) (d:Option Tmp) (v:Value) (w:World),Q0 (.panic c) (a.put d v) w→Q0 (.panic c) a w)(B:Code)(hB:((Tryz.f124.body.bind B0).bind B0)=some B) :
 Code.wp Tryz.prog B (Exit.then (fun M w'=>A4Q read ref f G p q r i M w'∧JMu ref.size M w'<JMu ref.size Y g) Q0) Y g:=by
 have N:=hB
 conv at N=>lhs;whnf
 injection N with N
 subst N
 clear hB
 obtain⟨f0,rfl,b⟩:=t
 simp only[Hs]at b
 simp only[fr,Y7,Nat.reduceAdd,b]
 clear b
 obtain⟨aa,ab,ao,ap⟩:=hR
 have ac:=A4 T
 have ad:=A4 V
 have ba:(j:Int)≤ref.size:=O
 have bb:(j:Int)<(ref.size:Int)+1:=O
 have bc:(i:Int)<(i:Int)+1:=O
 have aq:=A4 K
 have ar:=A4 L
 clear K L
 have ae:=ac.o g aa
 have au:=(ae.2.2.2.1 i (Nat.le_refl _)).1
 rw[ad.o.1]at au
 have aL:=ae.1
 obtain⟨⟨y0,aM⟩,aN⟩:=ab.any j O
 clear ae
 go_upto_region 12 with fail
 obtain⟨l,m⟩:=A8 (g.setCell ⟨p,j,none⟩ (I J 1000000000))
 have af:G7 f l p q r:=by rw[m];exact aa.set _ _ _ (by exact Or.inl rfl)
 have ag:=ab.set O 1000000000
 rw[←m]at ag
 have ah:RP l q (ref.size+1) j (fun k=>(cel 1000000000 (uR read ref) i k).i):=ao.other (by rw[m];exact heap_setCell_other g _ q _ (Ne.symm E))
 have av:RP l r (ref.size+1) j (fun k=>(cel 1000000000 (uR read ref) i k).d):=ap.other (by rw[m];exact heap_setCell_other g _ r _ (Ne.symm F))
 rw[←m]
 clear m aa ab ao ap au aL aM aN
 have ai:=ac.o l af
 have aw:=(ai.2.2.2.1 i (Nat.le_refl _)).2.1
 rw[ad.o.2.1]at aw
 have aO:=ai.2.1
 obtain⟨⟨y1,aP⟩,aQ⟩:=ah.any j O
 clear ai
 go_upto_region 13 with fail
 obtain⟨w7,n⟩:=A8 (l.setCell ⟨q,j,none⟩ (I J 1000000000))
 have aj:G7 f w7 p q r:=by rw[n];exact af.set _ _ _ (by exact Or.inr (Or.inl rfl))
 have ak:=ah.set O 1000000000
 rw[←n]at ak
 have ax:=ag.other (w':=w7) (by rw[n];exact heap_setCell_other l _ p _ E)
 have al:RP w7 r (ref.size+1) j (fun k=>(cel 1000000000 (uR read ref) i k).d):=av.other (by rw[n];exact heap_setCell_other l _ r _ (Ne.symm H))
 rw[←n]
 clear n af ag ah av aw aO aP aQ
 have am:=ac.o w7 aj
 have ay:=(am.2.2.2.1 i (Nat.le_refl _)).2.2
 rw[ad.o.2.2]at ay
 have aR:=am.2.2.1
 obtain⟨⟨y2,aS⟩,aT⟩:=al.any j O
 clear am
 go_upto_region 14 with fail
 obtain⟨P,s⟩:=A8 (w7.setCell ⟨r,j,none⟩ (I J 1000000000))
 have az:G7 f P p q r:=by rw[s];exact aj.set _ _ _ (by exact Or.inr (Or.inr rfl))
 have an:=al.set O 1000000000
 rw[←s]at an
 have aA:=ax.other (w':=P) (by rw[s];exact heap_setCell_other w7 _ p _ F)
 have aB:=ak.other (w':=P) (by rw[s];exact heap_setCell_other w7 _ q _ H)
 rw[←s]
 have aU:=A4 aB
 have aV:=A4 an
 have aW:=A4 aA
 have aX:=A4 az
 clear s aj ax ak al ay aR aS aT aB an aA az
 have K:=aq.o
 have L:=ar.o
 have bd:((i:Int)==0)=true:=by rw[beq_iff_eq];omega
 have be:((j:Int)==0)=false:=by rw[beq_eq_false_iff_ne];omega
 have bf:¬(0:Int)<i:=O
 have bg:(0:Int)<j:=O
 clear K L
 go_wp2_with fail
 refine A4H read ref hn hm f G i x oM Q y oI R z oD S p q r A C D hi T V E F H j X 1000000000 _ ?_ ?_ _ rfl _ (Fr.of _ rfl ⟨rfl,rfl,rfl,rfl,rfl,rfl,trivial⟩) P ⟨Nat.zero_le _,aX.o,aW.o,aU.o,aV.o⟩
 ·exact fun c a d v w h=>hQ0 c a d v w h
 intro M wI u
 unfold A6J at u
 obtain⟨⟨_,aC,aD,aE,aF⟩,t⟩:=u
 obtain⟨f0,rfl,b⟩:=t
 simp only[Hs]at b
 simp only[fr,Y7,Nat.reduceAdd,b]
 clear b
 have aG:Hd (A4S read ref f p q r i j (1000000000) (S3 1000000000 (uR read ref) i j i) 0 wI):=⟨Nat.zero_le _,aC,aD,aE,aF⟩
 clear aC aD aE aF
 go_wp2_with fail
 refine A4o read ref hn hm f G i x oM Q y oI R z oD S p q r A C D hi T V E F H j X (1000000000) (S3 1000000000 (uR read ref) i j i) _ ?_ ?_ _ rfl _ (Fr.of _ rfl ⟨rfl,rfl,rfl,rfl,rfl,rfl,trivial⟩) wI aG.o
 ·exact fun c a d v w h=>hQ0 c a d v w h
 intro M wD u
 unfold A6b at u
 obtain⟨⟨_,aH,aI,aJ,aK⟩,t⟩:=u
 obtain⟨f0,rfl,b⟩:=t
 simp only[Hs]at b
 simp only[fr,Y7,Nat.reduceAdd,b]
 clear b
 have aY:Hd (A2v read ref f p q r i (j+1) wD):=⟨aH,aI.next (by obtain⟨j1,aZ⟩:∃j1,j=j1+1:=⟨j - 1,by have:=ar.o;omega⟩;rw[aq.o,aZ];exact rfl),aJ.next (A1Q 1000000000 O (uR read ref) (P0 read ref) j O i O),aK.next (A1O 1000000000 O (uR read ref) (P0 read ref) i O j O)⟩
 have bh:IntKind.i64.wrap ((j:Int)+1)=((j+1:Nat):Int):=Zw
 have bi:j≤ref.size:=X
 clear aH aI aJ aK aG
 go_wp2_with fail
 refine⟨?_,?_⟩
 ·exact⟨j+1,⟨O,aY.o⟩,Fr.of _ rfl ⟨rfl,rfl,rfl,rfl,rfl,trivial⟩⟩
 ·simp[JMu,intOf];omega
end
end Go.Proofs.YtilcmkiihefkkaaGreatDoor
