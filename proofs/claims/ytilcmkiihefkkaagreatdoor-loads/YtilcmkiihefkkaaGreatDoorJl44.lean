import Derived.Test.YtilcmkiihefkkaaGreatDoorJl33
import Derived.Test.YtilcmkiihefkkaaGreatDoorJl43
set_option linter.unusedVariables false
set_option linter.unusedSimpArgs false
set_option maxRecDepth 1000000
set_option maxHeartbeats 64000000
open Go.Value renaming int→I
open Go.IntKind renaming i64→J
namespace Go.Proofs.YtilcmkiihefkkaaGreatDoor
namespace Mn
def N8 (G:Int×Bool→List (Int×Int))(t:Int)(a:Cd):Prop:=G (sd a)≠[]∧tw (sd a)<t
structure M5 (G:Int×Bool→List (Int×Int))(k:Int)(t:Int)(a0:Cd)(oth:Int):Prop where
 mem:N8 G t a0
 fst:∀b,N8 G t b→b=a0∨ltC (fun q=>D5 (G q) k) a0 b
 up:∀b,N8 G t b→b≠a0→D5 (G (sd b)) k≤oth
 at':(oth=0∧∀b,N8 G t b→b=a0)∨∃b,N8 G t b∧b≠a0∧D5 (G (sd b)) k=oth
section
variable {G:Int×Bool→List (Int×Int)} {k t:Int} {a a0:Cd} {oth:Int}
theorem K7 (d:tw (sd a)=t){b:Cd}(c:N8 G (t+1) b):b=a∨N8 G t b:=by
 by_cases h:tw (sd b)=t
 ·left;exact A44 b a (h.trans d.symm)
 ·right;exact⟨c.1,by have:=c.2;omega⟩
theorem A41 (d:tw (sd a)=t){b:Cd}(c:N8 G t b):b≠a:=fun e=>by have:=c.2;rw[e]at this;omega
theorem A07 {b:Cd}(a:N8 G t b):N8 G (t+1) b:=⟨a.1,by have:=a.2;omega⟩
theorem A87 (d:tw (sd a)=t)(he:G (sd a)=[])(h:∀b,¬N8 G t b):∀b,¬N8 G (t+1) b:=fun b c=>by
 rcases K7 d c with rfl|c
 ·exact c.1 he
 ·exact h b c
theorem A6R (d:tw (sd a)=t)(he:G (sd a)≠[])(h:∀b,¬N8 G t b):M5 G k (t+1) a 0:=by
 have all:∀b,N8 G (t+1) b→b=a:=fun b c=>by
  rcases K7 d c with e|c
  ·exact e
  ·exact absurd c (h b)
 exact⟨⟨he,O⟩,fun b c=>Or.inl (all b c),fun b c f=>absurd (all b c) f,Or.inl ⟨rfl,all⟩⟩
theorem M5.skip (f:tw (sd a)=t)(he:G (sd a)=[])(h:M5 G k t a0 oth):M5 G k (t+1) a0 oth:=by
 have all:∀b,N8 G (t+1) b→N8 G t b:=fun b c=>by
  rcases K7 f c with rfl|c
  ·exact absurd he c.1
  ·exact c
 refine⟨A07 h.mem,fun b c=>h.fst b (all b c),fun b c=>h.up b (all b c),?_⟩;rcases h.at' with⟨h1,d⟩|⟨b,h1,d⟩
 ·exact Or.inl ⟨h1,fun b c=>d b (all b c)⟩
 ·exact Or.inr ⟨b,A07 h1,d⟩
theorem M5.better (d:tw (sd a)=t)(he:G (sd a)≠[])(h:M5 G k t a0 oth)(g:D5 (G (sd a0)) k<D5 (G (sd a)) k):M5 G k (t+1) a (D5 (G (sd a0)) k):=by
 have hle:∀b,N8 G t b→D5 (G (sd b)) k≤D5 (G (sd a0)) k:=fun b c=>by
  rcases h.fst b c with e|h1
  ·rw[e];exact Int.le_refl _
  ·unfold ltC at h1;dsimp only at h1;omega
 refine⟨⟨he,O⟩,fun b c=>?_,fun b c f=>?_,Or.inr ⟨a0,A07 h.mem,A41 d h.mem,rfl⟩⟩
 ·rcases K7 d c with e|c
  ·exact Or.inl e
  ·right;have:=hle b c;unfold ltC;dsimp only;omega
 ·rcases K7 d c with e|c
  ·exact absurd e f
  ·exact hle b c
theorem M5.second (d:tw (sd a)=t)(he:G (sd a)≠[])(h:M5 G k t a0 oth)(g:D5 (G (sd a)) k≤D5 (G (sd a0)) k)(ho:oth<D5 (G (sd a)) k):M5 G k (t+1) a0 (D5 (G (sd a)) k):=by
 have i:=h.mem.2;refine⟨A07 h.mem,fun b c=>?_,fun b c f=>?_,Or.inr ⟨a,⟨he,O⟩,fun e=>A41 d h.mem e.symm,rfl⟩⟩
 ·rcases K7 d c with e|c
  ·right;rw[e];unfold ltC;dsimp only;omega
  ·exact h.fst b c
 ·rcases K7 d c with e|c
  ·rw[e];exact Int.le_refl _
  ·have:=h.up b c f;omega
theorem M5.less (d:tw (sd a)=t)(he:G (sd a)≠[])(h:M5 G k t a0 oth)(i:D5 (G (sd a)) k≤D5 (G (sd a0)) k)(ho:D5 (G (sd a)) k≤oth):M5 G k (t+1) a0 oth:=by
 have j:=h.mem.2;refine⟨A07 h.mem,fun b c=>?_,fun b c g=>?_,?_⟩
 ·rcases K7 d c with e|c
  ·right;rw[e];unfold ltC;dsimp only;omega
  ·exact h.fst b c
 ·rcases K7 d c with e|c
  ·rw[e];exact ho
  ·exact h.up b c g
 ·right;rcases h.at' with⟨h1,f⟩|⟨b,h1,f⟩
  ·exact⟨a,⟨he,O⟩,fun e=>A41 d h.mem e.symm,by have:=(S9 (G (sd a)) k).1;omega⟩
  ·exact⟨b,A07 h1,f⟩
theorem M5.done {C:List Cd}(h:M5 G k t a0 oth)(n:∀b,G (sd b)≠[]→tw (sd b)<t)(g:IsC G k C):∃tl,C=a0::tl∧A9X G k C=oth:=by
 have hm:a0∈C:=(g.2 a0).2 h.mem.1;have hs:∀b∈C,N8 G t b:=fun b a=>⟨(g.2 b).1 a,n b ((g.2 b).1 a)⟩;cases C with
 |nil=>cases hm
 |cons c tl=>
  have i:=List.pairwise_cons.1 g.1;have e:c=a0:=by
   rcases List.mem_cons.1 hm with e|hm
   ·exact e.symm
   ·have h1:=i.1 a0 hm;rcases h.fst c (hs c (List.mem_cons_self)) with e|f
    ·exact e
    ·unfold ltC at h1 f;dsimp only at h1 f;omega
  subst e;refine⟨tl,rfl,?_⟩;cases tl with
  |nil=>
   show(0:Int)=oth;rcases h.at' with⟨h1,_⟩|⟨b,h1,f,_⟩
   ·exact h1.symm
   ·have:=(g.2 b).2 h1.1;rw[List.mem_singleton]at this;exact absurd this f
  |cons d r=>
   show D5 (G (sd d)) k=oth;have j:d≠c:=fun e=>by
    have:=i.1 d (List.mem_cons_self);rw[e]at this;unfold ltC at this;omega
   have l:=hs d (List.mem_cons_of_mem _ (List.mem_cons_self));have h1:=h.up d l j;rcases h.at' with⟨_,f⟩|⟨b,f,o,m⟩
   ·exact absurd (f d l) j
   ·have a:=(g.2 b).2 f.1;rcases List.mem_cons.1 a with e|a
    ·exact absurd e o
    ·rcases List.mem_cons.1 a with e|a
     ·rw[e]at m;exact m
     ·have:=(List.pairwise_cons.1 i.2).1 b a;unfold ltC at this;dsimp only at this;omega
theorem A9l {C:List Cd}(h:∀b,¬N8 G t b)(a:∀b,G (sd b)≠[]→tw (sd b)<t)(d:IsC G k C):C=[]:=by
 cases C with
 |nil=>rfl
 |cons c tl=>
  have:=(d.2 c).1 (List.mem_cons_self);exact absurd ⟨this,a c this⟩ (h c)
end
def O4 (R:List S2)(k W sc:Nat)(rn rb:ByteArray)(res:Option FD):Prop:=
 (300<rb.size∧res=none)∨(rb.size≤300∧400<(T9 k W R rb).1∧res=none)∨(rb.size≤300∧(T9 k W R rb).1≤400∧∀C,IsC (T9 k W R rb).2 k C→res=A3y R k sc rn rb (T9 k W R rb).2 C)
theorem A9M {R:List S2}{k W sc:Nat}{rn rb:ByteArray}{a b:Option FD}(h:A5W R k W sc rn rb a)(c:O4 R k W sc rn rb b):a=b:=by
 rcases h with⟨h1,rfl⟩|⟨h1,d,rfl⟩|⟨h1,d,C,f,rfl⟩<;>rcases c with⟨k1,rfl⟩|⟨k1,k2,rfl⟩|⟨k1,k2,g⟩<;>first|rfl|omega|exact(g C f).symm
section
open Go.RowKit Go.Shelf Go.Lib
attribute [local go_sem] C0
def G4:Nat→Code→Option Code
 |0,c=>some c
 |n+1,.seq _ b=>G4 n b
 |n+1,.scope c=>G4 (n+1) c
 |_+1,_=>none
theorem rt3 (Y k W sc i d or F g sn:Nat)(S:Value)(rn rb fn l f:ByteArray)(f1 f2 f5 f6:Int)(bk:Bool)(sq oq:Int)(a w:World)
 (G:a.heap[Y]?=some (.cells (ixC k W sc (.slice (some ⟨d,or,none⟩) g F) S) 93 (0,0)))(T:a.cell? ⟨d,or+i*2,none⟩=some (.string fn))(aj:d<a.heap.size)(ax:i<g)(ay:g<100000)
 (V:Below a.heap.size a w)(X:w.heap[a.heap.size]?=some (.cells #[.string rn,.string rb] 88 (0,0)))(h1:w.heap[a.heap.size+1]?=some (.cells #[.string ⟨#[]⟩,I J 0,I J 0,.bool false,.string ⟨#[]⟩,I J 0,I J 0,.float .f64 0,.float .f64 0,I J 0,.string ⟨#[]⟩,I J 0,.float .f64 0] 71 (0,0)))
 (h:w.heap[a.heap.size+2]?=some (.cells #[.string ⟨#[]⟩,I J f1,I J f2,.bool bk,.string ⟨#[]⟩,I J f5,I J f6,.float .f64 (fq sq),.float .f64 (fq oq),I J 0,.string f,I J sn,.float .f64 0] 71 (0,0)))(az:a.heap.size+3≤w.heap.size)
 (ak:sn≤l.size)(al:0<l.size)(aA:l.size≤900)(aa:0≤oq)(ab:oq≤sq)(ac:0<sq)(ad:sq≤100000)
 (fa:Act)(am:Fr 273 [(0,.pointer (some ⟨Y,0,none⟩)),(3,.pointer (some ⟨a.heap.size,0,none⟩)),(4,.pointer (some ⟨a.heap.size+1,0,none⟩)),(6,.pointer (some ⟨a.heap.size+2,0,none⟩)),(13,I J i),(23,.string l),(24,I J sn)] fa)(Q:Ending→World→Prop)
 (H:∀w',Below a.heap.size a w'→Q (.returned (.tuple #[.agg #[.string rn,I J f1,I J f2,.bool bk,.string fn,I J f5,I J f6,.float .f64 (fq sq),.float .f64 (fq oq),I J (A0E sq oq),.string f,I J sn,.float .f64 (shr sn l.size)],.bool true])) w')(B:Code)(hB:Tryz.f71.body.bind (G4 24)=some B) :
 Code.wp Tryz.prog B (bodyPost Tryz.prog Tryz.f71 Q) fa w:=by
 have s:=hB;conv at s=>lhs;whnf
 injection s with s;subst s;clear hB;obtain⟨f0,rfl,K⟩:=am;simp only[Hs]at K;simp only[fr,Y5,Nat.reduceAdd,K];clear K;obtain⟨A,B1,u,m,hA,L,M,ae,aB,hle,af⟩:=B1O sq oq aa ab ac ad;rw[fq4]at L;rw[B3b]at M;have q1:∀W t,(binOp .quo t (.float .f64 (fq oq)) (.float .f64 (fq sq))).run Tryz.prog W=.ok (.float .f64 A) W:=fun W t=>run_float_arith W .quo t .f64 _ _ _ hA;have q2:∀W t,(binOp .sub t (.float .f64 4607182418800017408) (.float .f64 A)).run Tryz.prog W=.ok (.float .f64 B1) W:=fun W t=>run_float_arith W .sub t .f64 _ _ _ L;have q3:∀W t,(binOp .mul t (.float .f64 B1) (.float .f64 4633641066610819072)).run Tryz.prog W=.ok (.float .f64 u) W:=fun W t=>run_float_arith W .mul t .f64 _ _ _ M;have aC:(1048576:Nat)≤2^50:=Z;have an:∀x t,(binOp .quo t (.float .f64 (fq (4*(sn:Int)))) (.float .f64 (fq (4*(l.size:Int))))).run Tryz.prog x=.ok (.float .f64 (shr sn l.size)) x:=fun x t=>run_float_arith x .quo t .f64 _ _ _ (A2t sn l.size ak al O).1;have fs:floatOfInt .f64 (sn:Int)=fq (4*(sn:Int)):=N9 sn O;have fl:floatOfInt .f64 (l.size:Int)=fq (4*(l.size:Int)):=N9 l.size O;have ao:Hd (∀n:Nat,n<m→FloatKind.f64.format.order (fq (4*((n:Int)+1))) u=some .lt∨FloatKind.f64.format.order (fq (4*((n:Int)+1))) u=some .eq):=fun n hn=>hle (n+1) hn;have ap:Hd (FloatKind.f64.format.order (fq (4*((m:Int)+1))) u=some .gt):=af;rw[ae]at H;have HQ:=A4 H;have HY:Hd (a.heap[Y]?=some (.cells (ixC k W sc (.slice (some ⟨d,or,none⟩) g F) S) 93 (0,0))):=G;have aq:Hd (a.cell? ⟨d,or+i*2,none⟩=some (.string fn)):=T;have ar:=lt_of_block G;have N:Hd (Below a.heap.size a w):=V;have H0:Hd (w.heap[a.heap.size]?=some (.cells #[.string rn,.string rb] 88 (0,0))):=X;have H1:=A4 h1;have H2:=A4 h;generalize fq sq=q at *;generalize fq oq=r at *;obtain⟨y,ag⟩:=A8 (shr sn l.size);rw[←ag]at an HQ;clear H G T V X h1 hA L M hle af ae ag aa ab ac ad;have c8:=A1 h (i:=8) rfl;have c7:=A1 h (i:=7) rfl;have c9:=A1 h (i:=9) rfl;have cz:∀off,w.frozen? ⟨a.heap.size+2,off,none⟩=false:=fun off=>frozen_of_row _ _ _ _ _ h;clear h;have au:Hd (E1 w (w.setCell ⟨a.heap.size+2,9,none⟩ (I J 0)) (a.heap.size+2) (.cells #[.string ⟨#[]⟩,I J f1,I J f2,.bool bk,.string ⟨#[]⟩,I J f5,I J f6,.float .f64 q,.float .f64 r,I J ((0:Nat):Int),.string f,I J sn,.float .f64 0] 71 (0,0))):=by
  have:=E1.of_setCell (i:=9) (I J 0) H2.o;simp only[List.setIfInBounds_toArray,List.set_cons_zero,List.set_cons_succ]at this;exact this
 go_wp2_with fail;go_loopw [243] (fun v wr=>∃n:Nat,n≤m∧E1 w wr (a.heap.size+2) (.cells #[.string ⟨#[]⟩,I J f1,I J f2,.bool bk,.string ⟨#[]⟩,I J f5,I J f6,.float .f64 q,.float .f64 r,I J n,.string f,I J sn,.float .f64 0] 71 (0,0))) (fun _ wr=>m-(RowKit.intOf ((wr.cell? ⟨a.heap.size+2,9,none⟩).getD undef)).toNat);case atStart=>exact⟨0,Nat.zero_le _,au.o⟩
 case round=>
  obtain⟨n,hn,z⟩:=hrel;have p:=A4 z;have c9:=A1 z.here (i:=9) rfl;have cz:∀off,wr.frozen? ⟨a.heap.size+2,off,none⟩=false:=fun off=>frozen_of_row _ _ _ _ _ z.here;have hw:IntKind.i64.wrap ((n:Int)+1)=(n:Int)+1:=Zw;have aD:floatOfInt .f64 ((n:Int)+1)=fq (4*((n:Int)+1)):=N9 _ O;clear z;by_cases av:n<m
  ·have C:=ao.o n av;have D:Hd (E1 w (wr.setCell ⟨a.heap.size+2,9,none⟩ (I J ((n:Int)+1))) (a.heap.size+2) (.cells #[.string ⟨#[]⟩,I J f1,I J f2,.bool bk,.string ⟨#[]⟩,I J f5,I J f6,.float .f64 q,.float .f64 r,I J ((n+1:Nat):Int),.string f,I J sn,.float .f64 0] 71 (0,0))):=by
    have:=p.o.setCell (i:=9) (I J ((n:Int)+1));simp only[List.setIfInBounds_toArray,List.set_cons_zero,List.set_cons_succ]at this;exact this
   generalize fq (4*((n:Int)+1))=fN at *;rcases C with C|C
   ·go_wp2_with fail;go_roundw;case rel=>exact⟨n+1,O,D.o⟩
    case measure=>
     have e1:=A1 D.o.here (i:=9) rfl;rw[c9,e1];simp[RowKit.intOf];omega
   ·go_wp2_with fail;go_roundw;case rel=>exact⟨n+1,O,D.o⟩
    case measure=>
     have e1:=A1 D.o.here (i:=9) rfl;rw[c9,e1];simp[RowKit.intOf];omega
  ·have aw:n=m:=O;subst aw;have C:=ap.o;generalize fq (4*((n:Int)+1))=fN at *;have E:∀j,j≠a.heap.size+2→wr.heap[j]?=w.heap[j]?:=p.o.other;have d0:wr.cell? ⟨a.heap.size,0,none⟩=some (.string rn):=A1 ((E _ O).trans H0.o) rfl;have d3:wr.cell? ⟨Y,3,none⟩=some (.slice (some ⟨d,or,none⟩) g F):=A1 ((E _ O).trans ((N.o.block Y ar).trans HY.o)) rfl;have ah:wr.heap[d]?=a.heap[d]?:=(E d O).trans (N.o.block d aj);have d4:wr.cell? ⟨d,or+i*2,none⟩=some (.string fn):=(World.cell?_of_block ah).trans aq.o;have f12:=A1 p.o.here (i:=12) rfl;have f0:=A1 p.o.here (i:=0) rfl;have f4:=A1 p.o.here (i:=4) rfl;have aE:(i:Int)<(g:Int):=O;go_upto_region 61 with fail;obtain⟨wX,P⟩:=A8 (((wr.setCell ⟨a.heap.size+2,12,none⟩ (.float .f64 y)).setCell ⟨a.heap.size+2,0,none⟩ (.string rn)).setCell ⟨a.heap.size+2,4,none⟩ (.string fn));have R:E1 w wX (a.heap.size+2) (.cells #[.string rn,I J f1,I J f2,.bool bk,.string fn,I J f5,I J f6,.float .f64 q,.float .f64 r,I J n,.string f,I J sn,.float .f64 y] 71 (0,0)):=by
    have:=((p.o.setCell (i:=12) (.float .f64 y)).setCell (i:=0) (.string rn)).setCell (i:=4) (.string fn);simp only[List.setIfInBounds_toArray,List.set_cons_zero,List.set_cons_succ]at this;rw[P];exact this
   rw[←P];clear P c9 cz f12 f0 f4 d0 d3 d4 ah E;have c:=R.here;have v0:=A1 c (i:=0) rfl;have v1:=A1 c (i:=1) rfl;have v2:=A1 c (i:=2) rfl;have v3:=A1 c (i:=3) rfl;have v4:=A1 c (i:=4) rfl;have v5:=A1 c (i:=5) rfl;have v6:=A1 c (i:=6) rfl;have v7:=A1 c (i:=7) rfl;have v8:=A1 c (i:=8) rfl;have v9:=A1 c (i:=9) rfl;have v10:=A1 c (i:=10) rfl;have v11:=A1 c (i:=11) rfl;have v12:=A1 c (i:=12) rfl;have b:=(R.other (a.heap.size+1) O).trans H1.o;have z0:=A1 b (i:=0) rfl;have z1:=A1 b (i:=1) rfl;have z2:=A1 b (i:=2) rfl;have z3:=A1 b (i:=3) rfl;have z4:=A1 b (i:=4) rfl;have z5:=A1 b (i:=5) rfl;have z6:=A1 b (i:=6) rfl;have z7:=A1 b (i:=7) rfl;have z8:=A1 b (i:=8) rfl;have z9:=A1 b (i:=9) rfl;have aF:=A1 b (i:=10) rfl;have aG:=A1 b (i:=11) rfl;have z12:=A1 b (i:=12) rfl;have zz:∀off,wX.frozen? ⟨a.heap.size+1,off,none⟩=false:=fun off=>frozen_of_row _ _ _ _ _ b;go_wp2_with fail;have ai:=Y0 (.string rn) (I J f1) (I J f2) (.bool bk) (.string fn) (I J f5) (I J f6) (.float .f64 q) (.float .f64 r) (I J n) (.string f) (I J sn) (.float .f64 y) b;refine bodyPost_ret (D1 rfl _ _ (a.heap.size+1) 71 _ _ _ rfl ai.here Tryz.underlying71 rfl U) rfl ?_;exact HQ.o _ (N.o.trans ((R.below O).trans (ai.below O)))
def U5:Nat→Code→Code→Option Code
 |0,C,_=>some C
 |n+1,C,.seq a b=>match U5 n C b with
  |some d=>some (.seq a d)
  |none=>none
 |n+1,C,.scope c=>U5 (n+1) C c
 |_+1,_,_=>none
def LtF (a b:ByteArray):Prop:=scE a.data.toList b.data.toList=0∧∃l:ByteArray,l.size=A0o a.data.toList b.data.toList∧(∀W,Calls Tryz.prog 96 #[.string a,.string b] W fun e w'=>e=.returned (.tuple #[.string l,I J (scN a.data.toList b.data.toList:Nat)])∧Below W.heap.size W w')∧(∀W,Calls Tryz.prog 97 #[.string l] W fun e w'=>e=.returned (.string ⟨(scT a.data.toList b.data.toList).toArray⟩)∧Below W.heap.size W w')
theorem rt1 (p:Bool)(Y k W sc i g o cp m h n c f t or cr G:Nat)(lv:Value)(rn rb fn q:ByteArray)(sq oq:Int)(b w:World)
 (hY:b.heap[Y]?=some (.cells (ixC k W sc (.slice (some ⟨t,or,none⟩) G cr) lv) 93 (0,0)))(aD:b.cell? ⟨t,or+i*2,none⟩=some (.string fn))(aE:b.cell? ⟨t,or+i*2+1,none⟩=some (.string q))(aF:t<b.heap.size)(ba:i<G)(bc:G<100000)
 (hb:Below b.heap.size b w)(h0:w.heap[b.heap.size]?=some (.cells #[.string rn,.string rb] 88 (0,0)))(h1:w.heap[b.heap.size+1]?=some (.cells #[.string ⟨#[]⟩,I J 0,I J 0,.bool false,.string ⟨#[]⟩,I J 0,I J 0,.float .f64 0,.float .f64 0,I J 0,.string ⟨#[]⟩,I J 0,.float .f64 0] 71 (0,0)))
 (h2:w.heap[b.heap.size+2]?=some (.cells #[.string ⟨#[]⟩,I J 0,I J 0,.bool p,.string ⟨#[]⟩,I J 0,I J 0,.float .f64 (fq sq),.float .f64 (fq oq),I J 0,.string ⟨#[]⟩,I J 0,.float .f64 0] 71 (0,0)))(bd:b.heap.size+3≤w.heap.size)
 (be:g≠b.heap.size+1)(bf:g≠b.heap.size+2)(bD:0<m)(bE:m≤400)
 (aG:w.cell? ⟨g,o,none⟩=some (I J h)∧w.cell? ⟨g,o+1,none⟩=some (I J n))(aH:w.cell? ⟨g,o+(m-1)*2,none⟩=some (I J c)∧w.cell? ⟨g,o+(m-1)*2+1,none⟩=some (I J f))
 (hk:k≤12)(bF:h<c+k)(bG:c+k≤rb.size)(bH:n≤f+k)(bI:f+k≤q.size)(bJ:rb.size≤300)(bK:q.size≤100000)(aI:good rb)(hL:(q.extract n (f+k)).size≤600→LtF ((R8 p rb).extract h (c+k)) (q.extract n (f+k)))
 (aJ:0≤oq)(aK:oq≤sq)(aL:0<sq)(aM:sq≤100000)
 (fa:Act)(bg:Fr 273 [(0,.pointer (some ⟨Y,0,none⟩)),(3,.pointer (some ⟨b.heap.size,0,none⟩)),(4,.pointer (some ⟨b.heap.size+1,0,none⟩)),(6,.pointer (some ⟨b.heap.size+2,0,none⟩)),(7,I J rb.size),(11,.bool true),(12,.slice (some ⟨g,o,none⟩) m cp),(13,I J i)] fa)(Q:Ending→World→Prop)
 (hQ:∀res w',res=(if FloatKind.f64.format.order (fq sq) sc=some .lt then none else if fnE k rb q p h n c f=0 then some (A2H k rn rb fn q p h n c f sq oq) else none)→Below b.heap.size b w'→Q (.returned (.tuple (A0Z res))) w')
 (C:Code)(hC:Tryz.f71.body.bind (G4 24)=some C)(B:Code)(hB:(Tryz.f71.body.bind (G4 10)).bind (U5 14 C)=some B) :
 Code.wp Tryz.prog B (bodyPost Tryz.prog Tryz.f71 Q) fa w:=by
 have z:=hB;conv at z=>lhs;whnf
 injection z with z;subst z;clear hB;obtain⟨f0,rfl,al⟩:=bg;simp only[Hs]at al;simp only[fr,Y5,Nat.reduceAdd,al];clear al;have bh:=lt_of_block hY;have HY:=A4 hY;have am:Hd (b.cell? ⟨t,or+i*2,none⟩=some (.string fn)∧b.cell? ⟨t,or+i*2+1,none⟩=some (.string q)):=⟨aD,aE⟩;have HQ:=A4 hQ;have bi:=A4 aI;have HL:=A4 hL;have ac:Hd ((0≤oq∧oq≤sq)∧0<sq∧sq≤100000):=⟨⟨aJ,aK⟩,aL,aM⟩;have bj:=A4 hC;have aN:=A4 aG;have aO:=A4 aH;obtain⟨u,ad⟩:=A8 (fq sq);obtain⟨H,an⟩:=A8 (fq oq);rw[←ad]at HQ;rw[←ad,←an]at h2;have bk:Hd (u=fq sq∧H=fq oq):=⟨ad,an⟩;clear ad an hQ hY aD aE aI hL aJ aK aL aM hC aG aH;have keep:∀d:World,(∀j,j≠b.heap.size+1→j≠b.heap.size+2→d.heap[j]?=w.heap[j]?)→d.cell? ⟨g,o,none⟩=some (I J h)∧d.cell? ⟨g,o+1,none⟩=some (I J n)∧d.cell? ⟨g,o+(m-1)*2,none⟩=some (I J c)∧d.cell? ⟨g,o+(m-1)*2+1,none⟩=some (I J f)∧d.cell? ⟨Y,0,none⟩=some (I J k)∧d.cell? ⟨Y,2,none⟩=some (.float .f64 sc)∧d.cell? ⟨Y,3,none⟩=some (.slice (some ⟨t,or,none⟩) G cr)∧d.cell? ⟨t,or+i*2,none⟩=some (.string fn)∧d.cell? ⟨t,or+i*2+1,none⟩=some (.string q)∧d.cell? ⟨b.heap.size,1,none⟩=some (.string rb):=by
  intro d hW;have eg:=hW g be bf;have eY:=(hW Y O O).trans ((hb.block Y bh).trans HY.o);have er:=(hW t O O).trans (hb.block t aF);have e0:=(hW b.heap.size O O).trans h0;exact⟨(World.cell?_of_block eg).trans aN.o.1,(World.cell?_of_block eg).trans aN.o.2,(World.cell?_of_block eg).trans aO.o.1,(World.cell?_of_block eg).trans aO.o.2,A1 eY rfl,A1 eY rfl,A1 eY rfl,(World.cell?_of_block er).trans am.o.1,(World.cell?_of_block er).trans am.o.2,A1 e0 rfl⟩
 have V:=A4 keep;have N:=keep w (fun _ _ _=>rfl);clear keep;go_wp2_with fail;rename_i K1 ae;have c7:=A1 h2 (i:=7) rfl;by_cases X:FloatKind.f64.format.order u sc=some .lt
 ·have hO:(FloatKind.f64.format.order u sc==some Ordering.lt)=true:=by rw[X];rfl
  refine A5 12 (fun d=>d.cell? ⟨b.heap.size+2,7,none⟩=some (.float .f64 u)∧d.cell? ⟨Y,2,none⟩=some (.float .f64 sc)) U ⟨c7,N.2.2.2.2.2.1⟩ (fun hH=>?_);refine A2 0 ?_;refine A2 1 ?_;refine A2 2 ?_;refine A2 3 ?_;refine A2 4 ?_;refine A2 5 ?_;refine A2 6 ?_;refine A2 7 ?_;refine A2 8 ?_;refine A2 9 ?_;refine A2 10 ?_;refine A2 11 ?_;refine M7 ?_;refine ae _ _ ?_;clear ae hH;have z0:=A1 h1 (i:=0) rfl;have z1:=A1 h1 (i:=1) rfl;have z2:=A1 h1 (i:=2) rfl;have z3:=A1 h1 (i:=3) rfl;have z4:=A1 h1 (i:=4) rfl;have z5:=A1 h1 (i:=5) rfl;have z6:=A1 h1 (i:=6) rfl;have z7:=A1 h1 (i:=7) rfl;have z8:=A1 h1 (i:=8) rfl;have z9:=A1 h1 (i:=9) rfl;have bl:=A1 h1 (i:=10) rfl;have bm:=A1 h1 (i:=11) rfl;have z12:=A1 h1 (i:=12) rfl;have zz:∀off,w.frozen? ⟨b.heap.size+1,off,none⟩=false:=fun off=>frozen_of_row _ _ _ _ _ h1;go_wp2_with fail;have aa:=(Y0 (.string ⟨#[]⟩) (I J 0) (I J 0) (.bool false) (.string ⟨#[]⟩) (I J 0) (I J 0) (.float .f64 0) (.float .f64 0) (I J 0) (.string ⟨#[]⟩) (I J 0) (.float .f64 0) h1).drew;refine bodyPost_ret (D1 rfl _ _ (b.heap.size+1) 71 _ _ _ rfl aa.here Tryz.underlying71 rfl U) rfl ?_;exact HQ.o none _ (by rw[if_pos X]) (hb.trans (aa.below O))
 ·have hO:(FloatKind.f64.format.order u sc==some Ordering.lt)=false:=by rw[beq_eq_false_iff_ne];exact X
  have aP:=A4 X;refine A5 12 (fun d=>d.cell? ⟨b.heap.size+2,7,none⟩=some (.float .f64 u)∧d.cell? ⟨Y,2,none⟩=some (.float .f64 sc)) U ⟨c7,N.2.2.2.2.2.1⟩ (fun hH=>?_);refine A2 0 ?_;refine A2 1 ?_;refine A2 2 ?_;refine A2 3 ?_;refine A2 4 ?_;refine A2 5 ?_;refine A2 6 ?_;refine A2 7 ?_;refine A2 8 ?_;refine A2 9 ?_;refine A2 10 ?_;refine A2 11 ?_;refine M7 ?_;refine ae _ _ ?_;clear ae hH N c7 X;have ao:w.drew.heap[b.heap.size+2]?=_:=h2;have N:=V.o w.drew (fun _ _ _=>rfl);have c1:=A1 ao (i:=1) rfl;have A:∀off,w.drew.frozen? ⟨b.heap.size+2,off,none⟩=false:=fun off=>frozen_of_row _ _ _ _ _ ao;have bL:(0:Int)<(m:Int):=O;have bn:=N.1;go_upto_region 35 with fail;rename_i K2 aQ;have bM:IntKind.i64.wrap ((m:Int)-1)=((m-1:Nat):Int):=Zw;have bN:((m-1:Nat):Int)<(m:Int):=O;have bO:IntKind.i64.wrap ((c:Int)+k)=(c:Int)+k:=Zw;have bP:IntKind.i64.wrap ((f:Int)+k)=(f:Int)+k:=Zw;obtain⟨wB,ap⟩:=A8 ((w.setCell ⟨b.heap.size+2,1,none⟩ (I J h)).drew);have UB:E1 w wB (b.heap.size+2) (.cells #[.string ⟨#[]⟩,I J h,I J 0,.bool p,.string ⟨#[]⟩,I J 0,I J 0,.float .f64 u,.float .f64 H,I J 0,.string ⟨#[]⟩,I J 0,.float .f64 0] 71 (0,0)):=by
   have:=(E1.of_setCell (i:=1) (I J (h:Int)) h2).drew;simp only[List.setIfInBounds_toArray,List.set_cons_zero,List.set_cons_succ]at this;rw[ap];exact this
  rw[←ap];clear ap c1 A bn N ao;have kB:=V.o wB (fun j _ x=>UB.other j x);have z:=UB.here;have c2:=A1 z (i:=2) rfl;have A:∀off,wB.frozen? ⟨b.heap.size+2,off,none⟩=false:=fun off=>frozen_of_row _ _ _ _ _ z;refine A5 14 (fun d=>d.cell? ⟨g,o+(m-1)*2,none⟩=some (I J c)∧d.cell? ⟨Y,0,none⟩=some (I J k)) U ⟨kB.2.2.1,kB.2.2.2.2.1⟩ (fun hH=>?_);refine A2 0 ?_;refine A2 1 ?_;refine A2 2 ?_;refine A2 3 ?_;refine A2 4 ?_;refine A2 5 ?_;refine A2 6 ?_;refine A2 7 ?_;refine A2 8 ?_;refine A2 9 ?_;refine A2 10 ?_;refine A2 11 ?_;refine A2 12 ?_;refine A2 13 ?_;refine C1 (i:=14) U rfl U U (fun K hK=>?_);go_simp;refine hK.out _ _ ?_;clear hK K hH;refine aQ _ _ ?_;clear aQ;obtain⟨wC,aq⟩:=A8 ((wB.setCell ⟨b.heap.size+2,2,none⟩ (I J ((c:Int)+k))).drew);have af:E1 w wC (b.heap.size+2) (.cells #[.string ⟨#[]⟩,I J h,I J ((c:Int)+k),.bool p,.string ⟨#[]⟩,I J 0,I J 0,.float .f64 u,.float .f64 H,I J 0,.string ⟨#[]⟩,I J 0,.float .f64 0] 71 (0,0)):=by
   have:=(UB.setCell (i:=2) (I J ((c:Int)+k))).drew;simp only[List.setIfInBounds_toArray,List.set_cons_zero,List.set_cons_succ]at this;rw[aq];exact this
  rw[←aq];clear aq c2 A kB z;have kC:=V.o wC (fun j _ x=>af.other j x);have ar:=af.here;have c5:=A1 ar (i:=5) rfl;have A:∀off,wC.frozen? ⟨b.heap.size+2,off,none⟩=false:=fun off=>frozen_of_row _ _ _ _ _ ar;have bo:=kC.2.1;go_upto_region 37 with fail;rename_i K3 aR;obtain⟨wD,au⟩:=A8 (wC.setCell ⟨b.heap.size+2,5,none⟩ (I J n));have ag:E1 w wD (b.heap.size+2) (.cells #[.string ⟨#[]⟩,I J h,I J ((c:Int)+k),.bool p,.string ⟨#[]⟩,I J n,I J 0,.float .f64 u,.float .f64 H,I J 0,.string ⟨#[]⟩,I J 0,.float .f64 0] 71 (0,0)):=by
   have:=af.setCell (i:=5) (I J (n:Int));simp only[List.setIfInBounds_toArray,List.set_cons_zero,List.set_cons_succ]at this;rw[au];exact this
  rw[←au];clear au c5 A kC bo ar af UB;have kD:=V.o wD (fun j _ x=>ag.other j x);have av:=ag.here;have c6:=A1 av (i:=6) rfl;have A:∀off,wD.frozen? ⟨b.heap.size+2,off,none⟩=false:=fun off=>frozen_of_row _ _ _ _ _ av;refine A5 14 (fun d=>d.cell? ⟨g,o+(m-1)*2+1,none⟩=some (I J f)∧d.cell? ⟨Y,0,none⟩=some (I J k)) U ⟨kD.2.2.2.1,kD.2.2.2.2.1⟩ (fun hH=>?_);refine A2 0 ?_;refine A2 1 ?_;refine A2 2 ?_;refine A2 3 ?_;refine A2 4 ?_;refine A2 5 ?_;refine A2 6 ?_;refine A2 7 ?_;refine A2 8 ?_;refine A2 9 ?_;refine A2 10 ?_;refine A2 11 ?_;refine A2 12 ?_;refine A2 13 ?_;refine C1 (i:=14) U rfl U U (fun K hK=>?_);go_simp;refine hK.out _ _ ?_;clear hK K hH;refine aR _ _ ?_;clear aR;obtain⟨v,aw⟩:=A8 ((wD.setCell ⟨b.heap.size+2,6,none⟩ (I J ((f:Int)+k))).drew);have P:E1 w v (b.heap.size+2) (.cells #[.string ⟨#[]⟩,I J h,I J ((c:Int)+k),.bool p,.string ⟨#[]⟩,I J n,I J ((f:Int)+k),.float .f64 u,.float .f64 H,I J 0,.string ⟨#[]⟩,I J 0,.float .f64 0] 71 (0,0)):=by
   have:=(ag.setCell (i:=6) (I J ((f:Int)+k))).drew;simp only[List.setIfInBounds_toArray,List.set_cons_zero,List.set_cons_succ]at this;rw[aw];exact this
  rw[←aw];clear aw c6 A kD av ag;have kE:=V.o v (fun j _ x=>P.other j x);have R:=P.here;have c1:=A1 R (i:=1) rfl;have c2:=A1 R (i:=2) rfl;have c3:=A1 R (i:=3) rfl;have c5:=A1 R (i:=5) rfl;have c6:=A1 R (i:=6) rfl;have bp:=kE.2.2.2.2.2.2.2.2.2;have aS:=A4 kE;clear kE;rcases Bool.eq_false_or_eq_true p with y|y;focus
   go_wp2_with fail;refine(A2w rb v O).mono ?_;rintro e wT ⟨⟨_,rfl⟩|⟨bq,_⟩,aT⟩;rotate_left
   ·exact absurd bi.o bq
   rw[aT];clear aT;go_upto_region 41 with fail;obtain⟨bs,ax⟩:=A8 (⟨(J2 rb.data.toList).toArray⟩:ByteArray);have ay:R8 p rb=bs:=by rw[y,ax];rfl
   have br:bs.size=rb.size:=by rw[←ay];exact W2 _ _
   rw[←ax];have i1:(h:Int)≤(c:Int)+k:=O;have i2:(c:Int)+k≤bs.size:=O;have i7:(0:Int)≤(c:Int)+k:=O;have t1:((c:Int)+k).toNat=c+k:=O;clear ax;go_wp2_with fail;obtain⟨a,L⟩:=A8 (bs.extract h (c+k):ByteArray);rw[←L];have S:Hd ((R8 p rb).extract h (c+k)=a):=by rw[ay];exact L.symm
   clear L ay br i1 i2 i7 t1
  rotate_left;focus
   go_wp2_with fail;obtain⟨a,L⟩:=A8 (rb.extract h (c+k):ByteArray);rw[←L];have S:Hd ((R8 p rb).extract h (c+k)=a):=by rw[y];exact L.symm
   clear L
  all_goals
   have aU:=S.o;rw[aU]at HL;have bt:=A4 y;clear aU y;rename_i K4 aV;obtain⟨s,ah⟩:=A8 (q.extract n (f+k):ByteArray);have bQ:(i:Int)<(G:Int):=O;have i3:(n:Int)≤(f:Int)+k:=O;have i4:(f:Int)+k≤q.size:=O;have i8:(0:Int)≤(f:Int)+k:=O;have t2:((f:Int)+k).toNat=f+k:=O;refine A5 14 (fun d=>d.cell? ⟨Y,3,none⟩=some (.slice (some ⟨t,or,none⟩) G cr)∧d.cell? ⟨t,or+i*2+1,none⟩=some (.string q)∧d.cell? ⟨b.heap.size+2,5,none⟩=some (I J n)∧d.cell? ⟨b.heap.size+2,6,none⟩=some (I J ((f:Int)+k))) U ⟨aS.o.2.2.2.2.2.2.1,aS.o.2.2.2.2.2.2.2.2.1,c5,c6⟩ (fun hH=>?_);refine A2 0 ?_;refine A2 1 ?_;refine A2 2 ?_;refine A2 3 ?_;refine A2 4 ?_;refine A2 5 ?_;refine A2 6 ?_;refine A2 7 ?_;refine A2 8 ?_;refine A2 9 ?_;refine A2 10 ?_;refine A2 11 ?_;refine A2 12 ?_;refine A2 13 ?_;refine M7 ?_;refine aV _ _ ?_;clear aV hH i3 i4 i8 t2;rw[←ah];rw[←ah]at HL;have az:=A4 ah;clear ah;have r:=(P.other (b.heap.size+1) O).trans h1;have M:Below b.heap.size b v:=hb.trans (P.below O);have bR:b.heap.size+3≤v.heap.size:=by rw[P.size];exact bd
   have bu:=(P.other b.heap.size O).trans h0;have aW:Hd (fnE k rb q p h n c f=scE a.data.toList s.data.toList):=by show _=_;unfold fnE;rw[S.o,az.o]
   by_cases h6:s.size≤600
   ·have bv:¬(600:Int)<(s.size:Int):=O;obtain⟨he,l,aX,cL,cR⟩:=HL.o h6;obtain⟨sn,aA⟩:=A8 (scN a.data.toList s.data.toList);obtain⟨D,aB⟩:=A8 (⟨(scT a.data.toList s.data.toList).toArray⟩:ByteArray);rw[←aA]at cL;rw[←aB]at cR;have bw:Hd (l.size=A0o a.data.toList s.data.toList∧sn=scN a.data.toList s.data.toList∧D=⟨(scT a.data.toList s.data.toList).toArray⟩∧scE a.data.toList s.data.toList=0):=⟨aX,aA,aB,he⟩;clear aX aA aB he HL;go_wp2_with fail;refine(cL _).mono ?_;rintro e wF ⟨rfl,ai⟩;go_wp2_with fail;refine(cR _).mono ?_;rintro e E ⟨rfl,aj⟩;have aY:∀j,j<b.heap.size+3→wF.heap[j]?=v.heap[j]?:=fun j x=>ai.block j (by show j<v.heap.size;omega);have bS:b.heap.size+3≤wF.heap.size:=by have h3:=ai.size;have h4:v.drew.heap.size=v.heap.size:=rfl;omega
    have ak:∀j,j<b.heap.size+3→E.heap[j]?=v.heap[j]?:=fun j x=>(aj.block j O).trans (aY j x);have aC:Below b.heap.size b v.drew:=⟨M.os,M.tape,M.output,M.size,M.block⟩;have aZ:Below b.heap.size b E:=(aC.trans (ai.mono aC.size)).trans (aj.mono O);have bx:b.heap.size+3≤E.heap.size:=by have h3:=aj.size;omega
    have bz:=(ak b.heap.size O).trans bu;have bA:=(ak (b.heap.size+1) O).trans r;have F:=(ak (b.heap.size+2) O).trans R;have bB:=A4 aZ;clear c1 c2 c3 c5 c6 aY ak ai aj M aC aZ cL cR bp;have bT:=A1 F (i:=10) rfl;have bU:=A1 F (i:=11) rfl;have c1:=A1 F (i:=1) rfl;have c2:=A1 F (i:=2) rfl;have c3:=A1 F (i:=3) rfl;have A:∀off,E.frozen? ⟨b.heap.size+2,off,none⟩=false:=fun off=>frozen_of_row _ _ _ _ _ F;have y:=bt.o;go_wp2_with fail;first
     |(have hV:p=false:=y;obtain⟨wH,ab⟩:=A8 ((E.setCell ⟨b.heap.size+2,10,none⟩ (.string D)).setCell ⟨b.heap.size+2,11,none⟩ (I J sn));have T:E1 E wH (b.heap.size+2) (.cells #[.string ⟨#[]⟩,I J h,I J ((c:Int)+k),.bool p,.string ⟨#[]⟩,I J n,I J ((f:Int)+k),.float .f64 u,.float .f64 H,I J 0,.string D,I J sn,.float .f64 0] 71 (0,0)):=(by have:=(E1.of_setCell (i:=10) (.string D) F).setCell (i:=11) (I J (sn:Int));simp only[List.setIfInBounds_toArray,List.set_cons_zero,List.set_cons_succ]at this;rw[ab];exact this))
     |(have hV:p=true:=y;obtain⟨wH,ab⟩:=A8 ((((E.setCell ⟨b.heap.size+2,10,none⟩ (.string D)).setCell ⟨b.heap.size+2,11,none⟩ (I J sn)).setCell ⟨b.heap.size+2,2,none⟩ (I J ((rb.size:Int)-h))).setCell ⟨b.heap.size+2,1,none⟩ (I J ((rb.size:Int)-((c:Int)+k))));have T:E1 E wH (b.heap.size+2) (.cells #[.string ⟨#[]⟩,I J ((rb.size:Int)-((c:Int)+k)),I J ((rb.size:Int)-h),.bool p,.string ⟨#[]⟩,I J n,I J ((f:Int)+k),.float .f64 u,.float .f64 H,I J 0,.string D,I J sn,.float .f64 0] 71 (0,0)):=(by have:=(((E1.of_setCell (i:=10) (.string D) F).setCell (i:=11) (I J (sn:Int))).setCell (i:=2) (I J ((rb.size:Int)-h))).setCell (i:=1) (I J ((rb.size:Int)-((c:Int)+k)));simp only[List.setIfInBounds_toArray,List.set_cons_zero,List.set_cons_succ]at this;rw[ab];exact this))
    rw[←ab];clear ab;obtain⟨e1,e2,e3,e4⟩:=bw.o;obtain⟨l1,l2,l3,l4,l5⟩:=A2M _ _ e4;have bV:0<a.data.toList.length:=by
     have h3:a.data.toList.length=a.size:=Array.length_toList;rw[h3,←S.o,ByteArray.size_extract,W2];omega
    obtain⟨rfl,rfl⟩:=bk.o;subst y;refine rt3 Y k W sc i t or cr G sn lv rn rb fn l D _ _ n ((f:Int)+k) _ sq oq b wH HY.o am.o.1 aF ba bc (bB.o.trans (T.below O)) ((T.other _ O).trans bz) ((T.other _ O).trans bA) T.here (by rw[T.size];exact bx) (by rw[e1,e2];exact l3) (by rw[e1];omega) (by rw[e1];exact l1) ac.o.1.1 ac.o.1.2 ac.o.2.1 ac.o.2.2 _ (Fr.of _ rfl ⟨rfl,rfl,rfl,rfl,rfl,rfl,rfl,trivial⟩) Q ?_ C bj.o;intro w' bC;have hq:=HQ.o (some (A2H k rn rb fn q _ h n c f sq oq)) w' (by rw[if_neg aP.o,if_pos (aW.o.trans e4)]) bC;unfold A0Z at hq;dsimp only at hq;first|rw[B3G k rn rb fn q h n c f sq oq a.data.toList s.data.toList (by rw[S.o]) (by rw[az.o])]at hq|rw[B3M k rn rb fn q h n c f sq oq a.data.toList s.data.toList (by rw[S.o]) (by rw[az.o])]at hq
    rw[e1,e2,e3];exact hq
   ·have bv:(600:Int)<(s.size:Int):=O;have z0:=A1 r (i:=0) rfl;have z1:=A1 r (i:=1) rfl;have z2:=A1 r (i:=2) rfl;have z3:=A1 r (i:=3) rfl;have z4:=A1 r (i:=4) rfl;have z5:=A1 r (i:=5) rfl;have z6:=A1 r (i:=6) rfl;have z7:=A1 r (i:=7) rfl;have z8:=A1 r (i:=8) rfl;have z9:=A1 r (i:=9) rfl;have bl:=A1 r (i:=10) rfl;have bm:=A1 r (i:=11) rfl;have z12:=A1 r (i:=12) rfl;have zz:∀off,v.frozen? ⟨b.heap.size+1,off,none⟩=false:=fun off=>frozen_of_row _ _ _ _ _ r;go_wp2_with fail;have aa:=(Y0 (.string ⟨#[]⟩) (I J 0) (I J 0) (.bool false) (.string ⟨#[]⟩) (I J 0) (I J 0) (.float .f64 0) (.float .f64 0) (I J 0) (.string ⟨#[]⟩) (I J 0) (.float .f64 0) r).drew;refine bodyPost_ret (D1 rfl _ _ (b.heap.size+1) 71 _ _ _ rfl aa.here Tryz.underlying71 rfl U) rfl ?_;exact HQ.o none _ (by rw[if_neg aP.o,if_neg (by rw[aW.o];unfold scE;rw[if_pos (Or.inr (by show 600<s.data.toList.length;rw[show s.data.toList.length=s.size from Array.length_toList];omega))];decide)]) (M.trans (aa.below O))
end
section
open Go.RowKit Go.Shelf Go.Lib
theorem B0F {t a b:ByteArray}{X Y c V:List UInt8}(h1:t=⟨X.toArray⟩)(d:a=⟨Y.toArray⟩)(f:b=⟨c.toArray⟩)(h:V=X++(Y++c)):(t++a)++b=⟨V.toArray⟩:=by
 rw[h1,d,f,F9,F9,h,List.append_assoc]
theorem B2E (L:List (Int×W3))(base Y k W sc:Nat)(rv lv:Value)(s:ByteArray)(w0 w:World)(hY:w0.heap[Y]?=some (.cells (ixC k W sc rv lv) 93 (0,0)))(hL:A3 w0 base 101 4 lv L.length (I1 L))(hl:L.length≤4000)
 (hh:∀p∈L,(0≤p.1∧p.1<16777216)∧(0≤p.2.h∧p.2.h<100000)∧0≤p.2.p∧p.2.p<100000)(hs:s.size≤500000000)(hb:Below w0.heap.size w0 w)
 (fa:Act)(bp:Fr 176 [(0,.pointer (some ⟨Y,0,none⟩)),(3,.string s)] fa)(Q:Ending→World→Prop)(hQ:∀A w',HsP (P5 L) A→Below w0.heap.size w0 w'→Q (.returned (.string ((s++⟨(B8 A.length 2).toArray⟩)++⟨(S3 (P5 L) 0 A).toArray⟩))) w')
 (C:Code)(hC:Tryz.f12.body.bind (G4 3)=some C) :
 Code.wp Tryz.prog C (bodyPost Tryz.prog Tryz.f12 Q) fa w:=by
 have aJ:=hC;conv at aJ=>lhs;whnf
 injection aJ with aJ;subst aJ;clear hC;obtain⟨f0,rfl,aP⟩:=bp;simp only[Hs]at aP;simp only[fr,Y5,Nat.reduceAdd,aP];clear aP;obtain⟨n,hn⟩:=A8 L.length;have HN:=A4 hn;rw[←hn]at hL hl;obtain⟨la,lc,rfl⟩:=hL.form;have HO:=A4 hL;have HY:=A4 hY;have bc:=lt_of_block hY;have HH:=A4 hh;have HQ:=A4 hQ;have bd:=A4 hb;have be:Hd (SvI L [] (-1)):=SvI.nil L (fun p hp=>(hh p hp).1.1);have G:Hd (∀k n W,n≤9223372036854775807→k≤8→Calls Tryz.prog 39 #[I J (n:Nat),I J (k:Nat)] W fun e w'=>e=.returned (.string ⟨(B8 n k).toArray⟩)∧Below W.heap.size W w'):=fun k n W h1 h2=>M8 k n W h1 h2;have bf:∀a b:Nat,(⟨(B8 a b).toArray⟩:ByteArray).size=b:=fun a b=>by show(B8 a b).toArray.size=b;rw[List.size_toArray,B2]
 have ae:=A4 bf;clear hY hL hn hh hQ hb bf;go_wp2_with fail;go_loopw [6,7,8] (fun tv lv nv wr=>∃(A:List Int) (last:Int),tv=.string ⟨(S3 (P5 L) 0 A).toArray⟩∧lv=I J last∧nv=I J A.length∧SvI L A last∧Below w0.heap.size w0 wr) (fun _ lv _ _=>A2u L (RowKit.intOf lv));case atStart=>exact⟨[],-1,rfl,rfl,rfl,be.o,bd.o⟩
 case round=>
  obtain⟨A,last,rfl,rfl,rfl,hS,H⟩:=hrel;have HS:=A4 hS;have y:=A4 H;have bq:=hS.ge (fun p hp=>(HH.o p hp).1);have bg:=hS.len;obtain⟨z,aK⟩:=A8 (⟨(S3 (P5 L) 0 A).toArray⟩:ByteArray);have ay:=A4 aK;have bh:=A1Q (P5 L) (fun h=>Nat.le_trans (A5i L h) (by rw[←HN.o];exact hl)) A 0;have bH:z.size≤80000000:=by
   rw[aK];show(S3 (P5 L) 0 A).toArray.size≤_;rw[List.size_toArray];have:=Nat.mul_le_mul_right 20000 (show A.length≤4000 by rw[←HN.o]at bg;omega);omega
  obtain⟨na,aL⟩:=A8 A.length;have aQ:=A4 aL;have bI:na≤4000:=by rw[aL];have:=HN.o;omega
  obtain⟨bJ,bK,bi⟩:=bq;have bj:=A4 bi;rw[←aK,←aL];clear hS H aK bh bg aL bi be bd;go_wp2_with fail;go_loopw [9,10] (fun bv K az=>∃(j:Nat) (d:Int),j≤n∧K=I J j∧bv=I J d∧NxI last d (L.take j)∧Below w0.heap.size w0 az∧-1≤d∧d<16777216) (fun _ K _=>n-(RowKit.intOf K).toNat);case atStart=>exact⟨0,-1,Nat.zero_le _,rfl,rfl,NxI.nil last,y.o,O,O⟩
  case round=>
   clear y;obtain⟨j,d,hj,rfl,rfl,hX,H,bk,bl⟩:=hrel;have HX:=A4 hX;have y:=A4 H;have y4:wr.cell? ⟨Y,4,none⟩=some (.slice la n lc):=A1 ((H.block Y bc).trans HY.o) rfl;clear hX;by_cases bL:j<n
   ·have bm:j<L.length:=by have:=HN.o;omega
    obtain⟨g,o,cur,rfl,r,aA,F⟩:=A2h HO.o O;have aR:=(A0v L j bm).1;obtain⟨p,hp⟩:=A8 (L[j]);have bn:=HH.o p (by rw[hp];exact List.getElem_mem _);have ad:Hd (L.take (j+1)=L.take j++[p]):=by show _=_;rw[List.take_add_one,List.getElem?_eq_getElem bm,hp];rfl
    rw[←hp]at aR;have d0:wr.cell? ⟨g,o+j*4,none⟩=some (I J p.1):=A1 ((H.block g aA).trans r) (by have:=F _ _ aR;rwa [Nat.mul_comm]at this);obtain⟨x,u⟩:=A8 p.1;have N:=A4 u;obtain⟨aB,aS⟩:=bn.1;rw[←u]at d0 aB aS;clear hp aR r F H bn u;by_cases c1:last<x
    ·by_cases c2:d<0
     ·go_wp2_with fail;go_roundw;case rel=>exact⟨j+1,x,O,Zn,rfl,by rw[ad.o,N.o];exact HX.o.take p (by rw[←N.o];exact aB) (by rw[←N.o];exact c1) (Or.inl c2),y.o,O,aS⟩
      case measure=>simp[RowKit.intOf];omega
     ·by_cases c3:x<d
      ·go_wp2_with fail;go_roundw;case rel=>exact⟨j+1,x,O,Zn,rfl,by rw[ad.o,N.o];exact HX.o.take p (by rw[←N.o];exact aB) (by rw[←N.o];exact c1) (Or.inr (by rw[←N.o];exact c3)),y.o,O,aS⟩
       case measure=>simp[RowKit.intOf];omega
      ·go_wp2_with fail;go_roundw;case rel=>exact⟨j+1,d,O,Zn,rfl,by rw[ad.o];exact HX.o.leave p (by rw[←N.o];exact aB) (by rw[←N.o];omega),y.o,bk,bl⟩
       case measure=>simp[RowKit.intOf];omega
    ·go_wp2_with fail;go_roundw;case rel=>exact⟨j+1,d,O,Zn,rfl,by rw[ad.o];exact HX.o.leave p (by rw[←N.o];exact aB) (by rw[←N.o];omega),y.o,bk,bl⟩
     case measure=>simp[RowKit.intOf];omega
   ·have br:j=n:=O;have aw:Hd (NxI last d L):=by have:=HX.o;rw[br,HN.o,List.take_length]at this;exact this
    clear HX;by_cases c2:d<0
    ·have HD:=A4 (HS.o.done aw.o c2);have cw:=G.o 2 na;obtain⟨wn,ax⟩:=A8 (⟨(B8 na 2).toArray⟩:ByteArray);have bM:wn.size=2:=by rw[ax];exact ae.o na 2
     have bs:=A4 ax;rw[←ax]at cw;have t1:¬9223372036854775807<s.size+wn.size:=O;have t2:¬9223372036854775807<s.size+wn.size+z.size:=O;have t3:¬9223372036854775807<(s++wn).size+z.size:=by rw[ByteArray.size_append];omega
     clear ax;go_wp2_with fail;refine(cw _ O O).mono ?_;rintro e w1 ⟨rfl,aM⟩;dsimp only;go_wp2_with fail;have:=HQ.o A w1 HD.o (y.o.trans (aM.mono y.o.size));rw[←aQ.o,←bs.o,←ay.o]at this;exact this
    ·have aN:0≤d:=O;have aT:Hd (∀x∈P5 L d,(0≤x.h∧x.h<100000)∧0≤x.p∧x.p<100000):=by
      intro x u;unfold P5 at u;obtain⟨p,hp,rfl⟩:=List.mem_map.1 u;exact(HH.o p (List.mem_filter.1 hp).1).2
     have bo:(P5 L d).length≤n:=by rw[HN.o];exact A5i L d
     have cK:=A2D L base Y k W sc rv (.slice la n lc) d wr ((H.block Y bc).trans HY.o) (by rw[←HN.o];exact HO.o.other (fun g _ r=>H.block g r)) (by rw[←HN.o];omega);obtain⟨D,hD⟩:=A8 (P5 L d);have HD:=A4 hD;rw[←hD]at cK bo aT;have bN:=H.size;clear hD H;go_wp2_with fail;refine cK.mono ?_;rintro e w1 ⟨v,rfl,aM,hv⟩;dsimp only;have aO:=A4 aM;obtain⟨m,hm⟩:=A8 D.length;have HM:=A4 hm;rw[←hm]at hv bo;obtain⟨va,vc,rfl⟩:=hv.form;have HV:=A4 hv;clear cK aM hv hm;have bh:last<d:=by
      rcases aw.o with⟨h,_⟩|⟨h,_⟩
      ·omega
      ·exact h
     by_cases c4:last<0
     ·have aU:Hd (A.getLastD 0=0):=by have:=bj.o;rw[if_pos c4]at this;exact this
      obtain⟨f,aV⟩:∃f:Nat,d-0=f:=⟨(d-0).toNat,O⟩;have aW:Hd ((d-A.getLastD 0).toNat=f):=by show _=_;rw[aU.o];omega
      have al:∀c,Calls Tryz.prog 39 #[I J d,I J 3] c fun e w'=>e=.returned (.string ⟨(B8 f 3).toArray⟩)∧Below c.heap.size c w':=fun c=>by rw[show d=((f:Nat):Int) by omega];exact G.o 3 f c O O
      have am:=G.o 2 m;obtain⟨B,af⟩:=A8 (⟨(B8 f 3).toArray⟩:ByteArray);obtain⟨s2,ag⟩:=A8 (⟨(B8 m 2).toArray⟩:ByteArray);have bt:B.size=3:=by rw[af];exact ae.o f 3
      have bu:s2.size=2:=by rw[ag];exact ae.o m 2
      have ah:Hd (B=⟨(B8 f 3).toArray⟩∧s2=⟨(B8 m 2).toArray⟩):=⟨af,ag⟩;rw[←af]at al;rw[←ag]at am;have t1:¬9223372036854775807<z.size+B.size:=O;have t2:¬9223372036854775807<z.size+B.size+s2.size:=O;have t3:¬9223372036854775807<(z++B).size+s2.size:=by rw[ByteArray.size_append];omega
      clear af ag aV;go_wp2_with fail;refine(al _).mono ?_;rintro e w2 ⟨rfl,an⟩;dsimp only;have ao:Hd (Below wr.heap.size wr w2):=aO.o.trans (an.mono aO.o.size);have aC:Hd (A3 w2 wr.heap.size 99 3 (.slice va m vc) m (A6 D)):=HV.o.other (fun g _ r=>an.block g r);clear an al;go_wp2_with fail;refine(am _ O O).mono ?_;rintro e w3 ⟨rfl,ap⟩;dsimp only;have aD:Hd (Below wr.heap.size wr w3):=ao.o.trans (ap.mono ao.o.size);have aX:Hd (A3 w3 wr.heap.size 99 3 (.slice va m vc) m (A6 D)):=aC.o.other (fun g _ r=>ap.block g r);clear ap am ao aC;obtain⟨M,hM⟩:=A8 (S3 (P5 L) 0 A++(B8 f 3++B8 m 2));obtain⟨tB,P⟩:=A8 ((z++B)++s2:ByteArray);have bw:M.length=z.size+5:=by
       have:M.length=tB.size:=by
        rw[P,ay.o,ah.o.1,ah.o.2,F9,F9,hM];show _=(_:List UInt8).toArray.size;rw[List.size_toArray];simp
       rw[this,P,ByteArray.size_append,ByteArray.size_append];omega
      have aY:Hd (tB=⟨(M++(D.take 0).flatMap O3).toArray⟩):=by
       show _=_;rw[P,ay.o,ah.o.1,ah.o.2,F9,F9,hM];simp
      have aZ:=A4 hM;go_upto_region 23 with fail;rw[←P];clear P hM t1 t2 t3;go_wp2_with fail;go_loopw [6,13] (fun tv K az=>∃q:Nat,q≤m∧K=I J q∧tv=.string ⟨(M++(D.take q).flatMap O3).toArray⟩∧Below w3.heap.size w3 az) (fun _ K _=>m-(RowKit.intOf K).toNat);case atStart=>exact⟨0,Nat.zero_le _,rfl,by rw[aY.o],Below.refl _ _⟩
      case round=>
       obtain⟨q,hq,rfl,rfl,ai⟩:=hrel;have R:=A4 ai;by_cases bx:q<m
       ·have aE:q<D.length:=by have:=HM.o;omega
        obtain⟨g,o,cur,rfl,r,aA,F⟩:=A2h aX.o O;have S:=J3 D q aE;obtain⟨x,u⟩:=A8 (D[q]);have bz:=aT.o x (by rw[u];exact List.getElem_mem _);have ad:Hd ((D.take (q+1)).flatMap O3=(D.take q).flatMap O3++O3 x):=by
         show _=_;rw[show D.take (q+1)=D.take q++[D[q]] by rw[List.take_add_one,List.getElem?_eq_getElem aE];rfl,List.flatMap_append,u];simp
        rw[←u]at S;have T:=(ai.block g aA).trans r;have e0:wr.cell? ⟨g,o+q*3,none⟩=some (I J x.h):=A1 T (by have:=F _ _ S.1;rwa [Nat.mul_comm]at this);have e1:wr.cell? ⟨g,o+q*3+1,none⟩=some (I J x.p):=A1 T (by have:=F _ _ S.2.1;rwa [Nat.mul_comm,←Nat.add_assoc]at this);have e2:wr.cell? ⟨g,o+q*3+2,none⟩=some (.bool x.b):=A1 T (by have:=F _ _ S.2.2;rwa [Nat.mul_comm,←Nat.add_assoc]at this);obtain⟨i,aF⟩:∃i:Nat,x.h=i:=⟨x.h.toNat,O⟩;obtain⟨l,t⟩:=A8 (2*x.p.toNat+(if x.b=true then 1 else 0):Nat);have aG:Hd (O3 x=B8 i 2++B8 l 2):=by show _=_;unfold O3;rw[t,aF];rfl
        have aq:=G.o 2 i;obtain⟨V,aj⟩:=A8 (⟨(B8 i 2).toArray⟩:ByteArray);obtain⟨sp,ar⟩:=A8 (⟨(B8 l 2).toArray⟩:ByteArray);have bA:V.size=2:=by rw[aj];exact ae.o i 2
        have bB:sp.size=2:=by rw[ar];exact ae.o l 2
        have E:Hd (V=⟨(B8 i 2).toArray⟩∧sp=⟨(B8 l 2).toArray⟩):=⟨aj,ar⟩;rw[←aj]at aq;obtain⟨tQ,ak⟩:=A8 (⟨(M++(D.take q).flatMap O3).toArray⟩:ByteArray);have aH:=A4 ak;have bC:tQ.size≤80100000:=by
         rw[ak];show(M++(D.take q).flatMap O3).toArray.size≤_;rw[List.size_toArray,List.length_append,A0f,List.length_take];omega
        have t1:¬9223372036854775807<tQ.size+V.size:=O;have t2:¬9223372036854775807<tQ.size+V.size+sp.size:=O;have t3:¬9223372036854775807<(tQ++V).size+sp.size:=by rw[ByteArray.size_append];omega
        have bD:IntKind.i64.wrap (2*x.p)=2*x.p:=Zw;have bE:l≤200001:=by rw[t];split<;>omega
        have bF:i≤100000:=O;rw[aF]at e0;rw[←ak];have bG:Hd (∀c:World,Below wr.heap.size wr c→c.cell? ⟨g,o+q*3,none⟩=some (I J i)):=fun c h'=>(World.cell?_of_block (h'.block g (lt_of_block T))).trans e0;clear u S F r aj ar ak T ai;cases aI:x.b
        ·rw[aI]at e2 t;have X:2*x.p=(l:Int):=by simp at t;omega
         have au:∀c,Calls Tryz.prog 39 #[I J (2*x.p),I J 2] c fun e w'=>e=.returned (.string sp)∧Below c.heap.size c w':=fun c=>by rw[X,E.o.2];exact G.o 2 l c O O
         clear X t;go_wp2_with fail;refine(aq _ O O).mono ?_;rintro e w5 ⟨rfl,aa⟩;dsimp only;have ab:=A4 aa;clear aa;go_wp2_with fail;refine(au _).mono ?_;rintro e w6 ⟨rfl,ac⟩;dsimp only;have av:Hd (Below wr.heap.size wr w6):=ab.o.trans (ac.mono ab.o.size);clear ac;go_wp2_with fail;go_roundw;case rel=>exact⟨q+1,O,Zn,congrArg Value.string (B0F aH.o E.o.1 E.o.2 (by rw[ad.o,aG.o];simp only[List.append_assoc])),R.o.trans (av.o.mono R.o.size)⟩
         case measure=>simp[RowKit.intOf];omega
        ·rw[aI]at e2 t;have X:2*x.p+1=(l:Int):=by simp at t;omega
         have au:∀c,Calls Tryz.prog 39 #[I J (2*x.p+1),I J 2] c fun e w'=>e=.returned (.string sp)∧Below c.heap.size c w':=fun c=>by rw[X,E.o.2];exact G.o 2 l c O O
         clear X t;go_wp2_with fail;refine(aq _ O O).mono ?_;rintro e w5 ⟨rfl,aa⟩;dsimp only;have ab:=A4 aa;clear aa;go_wp2_with fail;refine(au _).mono ?_;rintro e w6 ⟨rfl,ac⟩;dsimp only;have av:Hd (Below wr.heap.size wr w6):=ab.o.trans (ac.mono ab.o.size);clear ac;go_wp2_with fail;go_roundw;case rel=>exact⟨q+1,O,Zn,congrArg Value.string (B0F aH.o E.o.1 E.o.2 (by rw[ad.o,aG.o];simp only[List.append_assoc])),R.o.trans (av.o.mono R.o.size)⟩
         case measure=>simp[RowKit.intOf];omega
       ·have ba:q=m:=O;have bb:Hd ((⟨(M++(D.take q).flatMap O3).toArray⟩:ByteArray)=⟨(S3 (P5 L) 0 (A++[d])).toArray⟩):=by
         show _=_;rw[ba,HM.o,List.take_length,A1U,aW.o,aZ.o,←HD.o];unfold A1M;rw[←HM.o,List.append_assoc,List.append_assoc]
        have ax:IntKind.i64.wrap ((na:Int)+1)=((na+1:Nat):Int):=Zw;rw[bb.o];clear ai;go_wp2_with fail;go_roundw;case rel=>exact⟨A++[d],d,rfl,rfl,by rw[List.length_append,←aQ.o];rfl,HS.o.more aw.o aN,y.o.trans ((aD.o.trans (R.o.mono aD.o.size)).mono y.o.size)⟩
        case measure=>exact A53 aw.o aN
     ·have aU:Hd (A.getLastD 0=last):=by have:=bj.o;rw[if_neg c4]at this;exact this
      obtain⟨f,aV⟩:∃f:Nat,d-last=f:=⟨(d-last).toNat,O⟩;have aW:Hd ((d-A.getLastD 0).toNat=f):=by show _=_;rw[aU.o];omega
      have al:∀c,Calls Tryz.prog 39 #[I J (d-last),I J 3] c fun e w'=>e=.returned (.string ⟨(B8 f 3).toArray⟩)∧Below c.heap.size c w':=fun c=>by rw[show(d-last)=((f:Nat):Int) by omega];exact G.o 3 f c O O
      have am:=G.o 2 m;obtain⟨B,af⟩:=A8 (⟨(B8 f 3).toArray⟩:ByteArray);obtain⟨s2,ag⟩:=A8 (⟨(B8 m 2).toArray⟩:ByteArray);have bt:B.size=3:=by rw[af];exact ae.o f 3
      have bu:s2.size=2:=by rw[ag];exact ae.o m 2
      have ah:Hd (B=⟨(B8 f 3).toArray⟩∧s2=⟨(B8 m 2).toArray⟩):=⟨af,ag⟩;rw[←af]at al;rw[←ag]at am;have t1:¬9223372036854775807<z.size+B.size:=O;have t2:¬9223372036854775807<z.size+B.size+s2.size:=O;have t3:¬9223372036854775807<(z++B).size+s2.size:=by rw[ByteArray.size_append];omega
      clear af ag aV;go_wp2_with fail;refine(al _).mono ?_;rintro e w2 ⟨rfl,an⟩;dsimp only;have ao:Hd (Below wr.heap.size wr w2):=aO.o.trans (an.mono aO.o.size);have aC:Hd (A3 w2 wr.heap.size 99 3 (.slice va m vc) m (A6 D)):=HV.o.other (fun g _ r=>an.block g r);clear an al;go_wp2_with fail;refine(am _ O O).mono ?_;rintro e w3 ⟨rfl,ap⟩;dsimp only;have aD:Hd (Below wr.heap.size wr w3):=ao.o.trans (ap.mono ao.o.size);have aX:Hd (A3 w3 wr.heap.size 99 3 (.slice va m vc) m (A6 D)):=aC.o.other (fun g _ r=>ap.block g r);clear ap am ao aC;obtain⟨M,hM⟩:=A8 (S3 (P5 L) 0 A++(B8 f 3++B8 m 2));obtain⟨tB,P⟩:=A8 ((z++B)++s2:ByteArray);have bw:M.length=z.size+5:=by
       have:M.length=tB.size:=by
        rw[P,ay.o,ah.o.1,ah.o.2,F9,F9,hM];show _=(_:List UInt8).toArray.size;rw[List.size_toArray];simp
       rw[this,P,ByteArray.size_append,ByteArray.size_append];omega
      have aY:Hd (tB=⟨(M++(D.take 0).flatMap O3).toArray⟩):=by
       show _=_;rw[P,ay.o,ah.o.1,ah.o.2,F9,F9,hM];simp
      have aZ:=A4 hM;go_upto_region 23 with fail;rw[←P];clear P hM t1 t2 t3;go_wp2_with fail;go_loopw [6,13] (fun tv K az=>∃q:Nat,q≤m∧K=I J q∧tv=.string ⟨(M++(D.take q).flatMap O3).toArray⟩∧Below w3.heap.size w3 az) (fun _ K _=>m-(RowKit.intOf K).toNat);case atStart=>exact⟨0,Nat.zero_le _,rfl,by rw[aY.o],Below.refl _ _⟩
      case round=>
       obtain⟨q,hq,rfl,rfl,ai⟩:=hrel;have R:=A4 ai;by_cases bx:q<m
       ·have aE:q<D.length:=by have:=HM.o;omega
        obtain⟨g,o,cur,rfl,r,aA,F⟩:=A2h aX.o O;have S:=J3 D q aE;obtain⟨x,u⟩:=A8 (D[q]);have bz:=aT.o x (by rw[u];exact List.getElem_mem _);have ad:Hd ((D.take (q+1)).flatMap O3=(D.take q).flatMap O3++O3 x):=by
         show _=_;rw[show D.take (q+1)=D.take q++[D[q]] by rw[List.take_add_one,List.getElem?_eq_getElem aE];rfl,List.flatMap_append,u];simp
        rw[←u]at S;have T:=(ai.block g aA).trans r;have e0:wr.cell? ⟨g,o+q*3,none⟩=some (I J x.h):=A1 T (by have:=F _ _ S.1;rwa [Nat.mul_comm]at this);have e1:wr.cell? ⟨g,o+q*3+1,none⟩=some (I J x.p):=A1 T (by have:=F _ _ S.2.1;rwa [Nat.mul_comm,←Nat.add_assoc]at this);have e2:wr.cell? ⟨g,o+q*3+2,none⟩=some (.bool x.b):=A1 T (by have:=F _ _ S.2.2;rwa [Nat.mul_comm,←Nat.add_assoc]at this);obtain⟨i,aF⟩:∃i:Nat,x.h=i:=⟨x.h.toNat,O⟩;obtain⟨l,t⟩:=A8 (2*x.p.toNat+(if x.b=true then 1 else 0):Nat);have aG:Hd (O3 x=B8 i 2++B8 l 2):=by show _=_;unfold O3;rw[t,aF];rfl
        have aq:=G.o 2 i;obtain⟨V,aj⟩:=A8 (⟨(B8 i 2).toArray⟩:ByteArray);obtain⟨sp,ar⟩:=A8 (⟨(B8 l 2).toArray⟩:ByteArray);have bA:V.size=2:=by rw[aj];exact ae.o i 2
        have bB:sp.size=2:=by rw[ar];exact ae.o l 2
        have E:Hd (V=⟨(B8 i 2).toArray⟩∧sp=⟨(B8 l 2).toArray⟩):=⟨aj,ar⟩;rw[←aj]at aq;obtain⟨tQ,ak⟩:=A8 (⟨(M++(D.take q).flatMap O3).toArray⟩:ByteArray);have aH:=A4 ak;have bC:tQ.size≤80100000:=by
         rw[ak];show(M++(D.take q).flatMap O3).toArray.size≤_;rw[List.size_toArray,List.length_append,A0f,List.length_take];omega
        have t1:¬9223372036854775807<tQ.size+V.size:=O;have t2:¬9223372036854775807<tQ.size+V.size+sp.size:=O;have t3:¬9223372036854775807<(tQ++V).size+sp.size:=by rw[ByteArray.size_append];omega
        have bD:IntKind.i64.wrap (2*x.p)=2*x.p:=Zw;have bE:l≤200001:=by rw[t];split<;>omega
        have bF:i≤100000:=O;rw[aF]at e0;rw[←ak];have bG:Hd (∀c:World,Below wr.heap.size wr c→c.cell? ⟨g,o+q*3,none⟩=some (I J i)):=fun c h'=>(World.cell?_of_block (h'.block g (lt_of_block T))).trans e0;clear u S F r aj ar ak T ai;cases aI:x.b
        ·rw[aI]at e2 t;have X:2*x.p=(l:Int):=by simp at t;omega
         have au:∀c,Calls Tryz.prog 39 #[I J (2*x.p),I J 2] c fun e w'=>e=.returned (.string sp)∧Below c.heap.size c w':=fun c=>by rw[X,E.o.2];exact G.o 2 l c O O
         clear X t;go_wp2_with fail;refine(aq _ O O).mono ?_;rintro e w5 ⟨rfl,aa⟩;dsimp only;have ab:=A4 aa;clear aa;go_wp2_with fail;refine(au _).mono ?_;rintro e w6 ⟨rfl,ac⟩;dsimp only;have av:Hd (Below wr.heap.size wr w6):=ab.o.trans (ac.mono ab.o.size);clear ac;go_wp2_with fail;go_roundw;case rel=>exact⟨q+1,O,Zn,congrArg Value.string (B0F aH.o E.o.1 E.o.2 (by rw[ad.o,aG.o];simp only[List.append_assoc])),R.o.trans (av.o.mono R.o.size)⟩
         case measure=>simp[RowKit.intOf];omega
        ·rw[aI]at e2 t;have X:2*x.p+1=(l:Int):=by simp at t;omega
         have au:∀c,Calls Tryz.prog 39 #[I J (2*x.p+1),I J 2] c fun e w'=>e=.returned (.string sp)∧Below c.heap.size c w':=fun c=>by rw[X,E.o.2];exact G.o 2 l c O O
         clear X t;go_wp2_with fail;refine(aq _ O O).mono ?_;rintro e w5 ⟨rfl,aa⟩;dsimp only;have ab:=A4 aa;clear aa;go_wp2_with fail;refine(au _).mono ?_;rintro e w6 ⟨rfl,ac⟩;dsimp only;have av:Hd (Below wr.heap.size wr w6):=ab.o.trans (ac.mono ab.o.size);clear ac;go_wp2_with fail;go_roundw;case rel=>exact⟨q+1,O,Zn,congrArg Value.string (B0F aH.o E.o.1 E.o.2 (by rw[ad.o,aG.o];simp only[List.append_assoc])),R.o.trans (av.o.mono R.o.size)⟩
         case measure=>simp[RowKit.intOf];omega
       ·have ba:q=m:=O;have bb:Hd ((⟨(M++(D.take q).flatMap O3).toArray⟩:ByteArray)=⟨(S3 (P5 L) 0 (A++[d])).toArray⟩):=by
         show _=_;rw[ba,HM.o,List.take_length,A1U,aW.o,aZ.o,←HD.o];unfold A1M;rw[←HM.o,List.append_assoc,List.append_assoc]
        have ax:IntKind.i64.wrap ((na:Int)+1)=((na+1:Nat):Int):=Zw;rw[bb.o];clear ai;go_wp2_with fail;go_roundw;case rel=>exact⟨A++[d],d,rfl,rfl,by rw[List.length_append,←aQ.o];rfl,HS.o.more aw.o aN,y.o.trans ((aD.o.trans (R.o.mono aD.o.size)).mono y.o.size)⟩
        case measure=>exact A53 aw.o aN
end
section
open Go.RowKit
def gL (k W:Nat)(R:List S2)(s:ByteArray)(q:Int×Bool):List (Int×Int):=anL s.size k (D6 k W R R.length) q (Q8 k W s)
theorem A65 {k W:Nat}{R:List S2}{s:ByteArray}(h:(T9 k W R s).1≤400):(T9 k W R s).2=gL k W R s:=funext fun q=>B3w k W R s h q
theorem A4q {k W:Nat}{R:List S2}{s:ByteArray}{q:Int×Bool}{a:Int×Int}(h:a∈gL k W R s q):A3n k W R s q a:=by
 unfold gL anL at h;obtain⟨x,c,hm⟩:=List.mem_flatMap.1 h;unfold anW at hm;obtain⟨y,b,rfl⟩:=List.mem_map.1 hm;obtain⟨b,he⟩:=List.mem_filter.1 b;obtain⟨i,hi,z,d,f,rfl⟩:=A08 k W R R.length x.h y b;have e:=(S8 _ _).1 he;exact⟨x,c,i,hi,z,d,f.symm,e,rfl⟩
def cS (f:Int×Bool→Nat):Nat→Nat
 |0=>0
 |t+1=>cS f t+f (((t/2:Nat):Int),decide (t%2=1))
theorem A71 (f:Int×Bool→Nat):∀n,cS f (2*n)=sS f n
 |0=>rfl
 |n+1=>by
  show cS f (2*n)+f (((2*n/2:Nat):Int),decide (2*n%2=1))+f ((((2*n+1)/2:Nat):Int),decide ((2*n+1)%2=1))=_
  rw[A71 f n,show 2*n/2=n by omega,show(2*n+1)/2=n by omega,decide_eq_false (show ¬2*n%2=1 by omega),decide_eq_true (show(2*n+1)%2=1 by omega)]
  rfl
theorem A8k (f:Int×Bool→Nat){a b:Nat}(h:a≤b):cS f a≤cS f b:=by
 induction b with
 |zero=>rw[show a=0 by omega];exact Nat.le_refl _
 |succ b c=>
  rcases Nat.lt_or_ge a (b+1) with h1|h1
  ·have:=c O;show _≤cS f b+_;omega
  ·rw[show a=b+1 by omega];exact Nat.le_refl _
theorem A7S (f:Int×Bool→Nat)(i q:Nat)(a:Bool)(b:q<2)(ht:a=decide (q=1)):cS f (2*i+q+1)=cS f (2*i+q)+f ((i:Int),a):=by
 show cS f (2*i+q)+f (((((2*i+q)/2:Nat):Int)),decide ((2*i+q)%2=1))=_;rw[show(2*i+q)/2=i by omega,show(2*i+q)%2=q by omega,←ht]
def cG (k W:Nat)(R:List S2)(s:ByteArray)(t:Nat):Nat:=cS (fun q=>(gL k W R s q).length) t
theorem A2g (k W:Nat)(R:List S2)(s:ByteArray):cG k W R s (2*R.length)=(T9 k W R s).1:=by
 unfold cG;rw[A71,B2O];rfl
section
variable {R:List S2} {k W sc:Nat} {rn rb:ByteArray}
theorem B23 (d:1≤k)(f:k≤12)(g:1≤W)(c:∀x∈R,good x.b∧x.b.size≤4000)(i:good rb)(m:rb.size≤300)(q:Int×Bool):∀a∈gL k W R rb q,okA a:=by
 intro a j;have h:=(A4q j).bounds d f g (fun x l=>(c x l).1) i;have:=(c _ (T4 R q.1.toNat O)).2;unfold okA;omega
theorem B3e (a:1≤k)(c:k≤12)(d:1≤W)(f:∀x∈R,good x.b∧x.b.size≤4000)(g:good rb)(i:rb.size≤300)(q:Int×Bool)(j:gL k W R rb q≠[])(m:(gL k W R rb q).length≤400):Q5 (gL k W R rb q) k=0:=by
 unfold Q5;have l:(gL k W R rb q).length≠0:=fun h=>j (List.eq_nil_of_length_eq_zero h);have ho:(gL k W R rb q).any A0V=false:=by
  rw[Bool.eq_false_iff];intro h;rw[A3g]at h;exact h (B23 a c d f g i q)
 rw[if_neg O,if_neg O,if_neg l,ho];rfl
theorem B2z (h:300<rb.size):O4 R k W sc rn rb none:=Or.inl ⟨h,rfl⟩
theorem B2Y {t:Nat}(h:rb.size≤300)(ht:t≤2*R.length)(a:400<cG k W R rb t):O4 R k W sc rn rb none:=by
 refine Or.inr (Or.inl ⟨h,?_,rfl⟩);rw[←A2g];have:=A8k (fun q=>(gL k W R rb q).length) ht;unfold cG at *;omega
theorem A8n (c:1≤k)(d:k≤12)(f:1≤W)(g:∀x∈R,good x.b∧x.b.size≤4000)(i:good rb){t:Int}(ht:t=2*R.length)(b:Cd)(j:gL k W R rb (sd b)≠[]):tw (sd b)<t:=by
 obtain⟨a,l⟩:=List.exists_mem_of_ne_nil _ j;have h:=(A4q l).bounds c d f (fun x m=>(g x m).1) i;unfold tw;have:(sd b).1=(b.1.val:Int):=rfl;split<;>omega
theorem A8p {t:Nat}(c:1≤k)(d:k≤12)(f:1≤W)(g:∀x∈R,good x.b∧x.b.size≤4000)(i:good rb)(h:rb.size≤300)(ht:t=2*R.length)(a:cG k W R rb t≤400)(j:∀b,¬N8 (gL k W R rb) (t:Int) b):O4 R k W sc rn rb none:=by
 subst ht;rw[A2g]at a;refine Or.inr (Or.inr ⟨h,a,?_⟩);rw[A65 a];intro C l;have:=A9l j (fun b m=>A8n c d f g i O b m) l;rw[this];rfl
theorem B1i (c:1≤k)(d:k≤12)(f:1≤W)(g:∀x∈R,good x.b∧x.b.size≤4000)(i:good rb)(h:rb.size<k):O4 R k W sc rn rb none:=by
 by_cases j:(T9 k W R rb).1≤400
 ·refine A8p c d f g i O rfl (by rw[A2g];exact j) ?_;intro b l;obtain⟨a,m⟩:=List.exists_mem_of_ne_nil _ l.1;have h:=(A4q m).bounds c d f (fun x n=>(g x n).1) i;omega
 ·exact Or.inr (Or.inl ⟨O,O,rfl⟩)
theorem B16 {t:Nat}{a:Cd}{oq:Int}{c d f g:Nat}(j:1≤k)(l:k≤12)(m:1≤W)(o:∀x∈R,good x.b∧x.b.size≤4000)(p:good rb)(h:rb.size≤300)(ht:t=2*R.length)(i:cG k W R rb t≤400)(q:M5 (gL k W R rb) k (t:Int) a oq)
 (e0:c0 (N5 k (gL k W R rb (sd a)))=((c:Int),(d:Int)))(e1:c1 (N5 k (gL k W R rb (sd a)))=((f:Int),(g:Int))) :
 O4 R k W sc rn rb (if FloatKind.f64.format.order (fq (D5 (gL k W R rb (sd a)) k)) sc=some .lt then none else if fnE k rb (R.getD a.1.val S0).b a.2 c d f g=0 then some (A2H k rn rb (R.getD a.1.val S0).n (R.getD a.1.val S0).b a.2 c d f g (D5 (gL k W R rb (sd a)) k) oq) else none):=by
 subst ht;rw[A2g]at i;refine Or.inr (Or.inr ⟨h,i,?_⟩);rw[A65 i];intro C r;obtain⟨tl,rfl,ho⟩:=q.done (fun b s=>A8n j l m o p O b s) r;unfold A3y;dsimp only;rw[e0,e1,ho];rfl
theorem B1L {t:Nat}{a:Cd}{oq:Int}(d:1≤k)(f:k≤12)(g:1≤W)(i:∀x∈R,good x.b∧x.b.size≤4000)(j:good rb)(h:rb.size≤300)(ht:t=2*R.length)(l:cG k W R rb t≤400)(m:M5 (gL k W R rb) k (t:Int) a oq) :
 ∃n o p r:Nat,CdF k R rb (sd a) (gL k W R rb (sd a)) n o p r:=by
 subst ht;rw[A2g]at l;have e:=A65 l;have s:((T9 k W R rb).2 (sd a)).length≤400:=by
  rw[e];obtain⟨x,c⟩:=List.exists_mem_of_ne_nil _ m.mem.1;have w:=(A4q c).bounds d f g (fun x c=>(i x c).1) j;have y:(sd a).1=(a.1.val:Int):=rfl;have h1:=A7S (fun q=>(gL k W R rb q).length) a.1.val (if a.2=true then 1 else 0) a.2 (by split<;>omega) (by cases a.2<;>rfl);have z:=A8k (fun q=>(gL k W R rb q).length) (a:=2*a.1.val+(if a.2=true then 1 else 0)+1) (b:=2*R.length) (by split<;>omega);have u:=A2g k W R rb;unfold cG at u;have v:(gL k W R rb (sd a)).length≤400:=by
   have:(gL k W R rb (sd a)).length=(gL k W R rb ((a.1.val:Int),a.2)).length:=rfl;omega
  exact v
 have:=A1A k W R rb (sd a) d f g i j h (by rw[e];exact m.mem.1) s;rw[e]at this;exact this
theorem A79 {G:Int×Bool→List (Int×Int)}{k t:Int}{a:Cd}{oq:Int}(c:M5 G k t a oq):0≤oq∧oq≤D5 (G (sd a)) k:=by
 rcases c.at' with⟨rfl,_⟩|⟨b,h1,f,rfl⟩
 ·exact⟨Int.le_refl _,(S9 _ _).1⟩
 ·refine⟨(S9 _ _).1,?_⟩;rcases c.fst b h1 with e|d
  ·exact absurd e f
  ·unfold ltC at d;dsimp only at d;omega
end
def oC (bk:Bool)(fS fO:Nat):Array Value:=#[.string ⟨#[]⟩,I J 0,I J 0,.bool bk,.string ⟨#[]⟩,I J 0,I J 0,.float .f64 fS,.float .f64 fO,I J 0,.string ⟨#[]⟩,I J 0,.float .f64 0]
def RfS (G:Int×Bool→List (Int×Int))(k t:Nat)(fd bk:Bool)(fS fO ref:Nat)(C:List (Int×Int)):Prop:=
 (fd=false∧bk=false∧fS=0∧fO=0∧ref=0∧C=[]∧∀b,¬N8 G (t:Int) b)∨
 (fd=true∧∃(a:Cd) (oq:Int),M5 G k (t:Int) a oq∧bk=a.2∧ref=a.1.val∧fS=fq (D5 (G (sd a)) k)∧fO=fq oq∧C=N5 k (G (sd a)))
theorem B24 (a b:Int)(d:0≤a)(f:a≤100000)(g:0≤b)(i:b≤100000):(FloatKind.f64.format.order (fq a) (fq b)==some .gt)=decide (b<a):=by
 have e:FloatKind.f64.format.order (fq a) (fq b)=some (compare a b):=A0O a b O O;rw[e];by_cases h:b<a
 ·rw[decide_eq_true h,Int.compare_eq_gt.2 h];rfl
 ·rw[decide_eq_false h,beq_eq_false_iff_ne];intro c;exact h (Int.compare_eq_gt.1 (Option.some.inj c))
section
variable {G:Int×Bool→List (Int×Int)} {k i q:Nat} {fd bk tn:Bool} {fS fO ref:Nat} {C:List (Int×Int)}
theorem B1e (hi:i<100000)(a:q<2)(ht:tn=decide (q=1)):tw (sd ((⟨i,hi⟩,tn):Cd))=((2*i+q:Nat):Int):=by
 subst ht;unfold tw sd;dsimp only;by_cases h:q=1
 ·subst h;simp
 ·have:q=0:=O;subst this;simp
theorem A9m (n:Nat):((n+1:Nat):Int)=(n:Int)+1:=O
theorem RfS.skip (h:RfS G k (2*i+q) fd bk fS fO ref C)(hi:i<100000)(f:q<2)(ht:tn=decide (q=1))(he:G ((i:Int),tn)=[]):RfS G k (2*i+q+1) fd bk fS fO ref C:=by
 have d:=B1e hi f ht;rcases h with⟨h1,b,c,g,j,l,m⟩|⟨h1,a,oq,b,c⟩
 ·refine Or.inl ⟨h1,b,c,g,j,l,?_⟩;rw[A9m];exact A87 (a:=((⟨i,hi⟩,tn):Cd)) d he m
 ·refine Or.inr ⟨h1,a,oq,?_,c⟩;rw[A9m];exact M5.skip (a:=((⟨i,hi⟩,tn):Cd)) d he b
theorem RfS.first (h:RfS G k (2*i+q) false bk fS fO ref C)(hi:i<100000)(b:q<2)(ht:tn=decide (q=1))(he:G ((i:Int),tn)≠[]):RfS G k (2*i+q+1) true tn (fq (D5 (G ((i:Int),tn)) k)) fO i (N5 k (G ((i:Int),tn))):=by
 have c:=B1e hi b ht;rcases h with⟨_,g,j,d,l,m,f⟩|⟨h1,_⟩
 ·refine Or.inr ⟨rfl,((⟨i,hi⟩,tn):Cd),0,?_,rfl,rfl,rfl,d.trans fq0.symm,rfl⟩;rw[A9m];exact A6R (a:=((⟨i,hi⟩,tn):Cd)) c he f
 ·exact absurd h1 Z
theorem RfS.step (h:RfS G k (2*i+q) true bk fS fO ref C)(hi:i<100000)(d:q<2)(ht:tn=decide (q=1))(he:G ((i:Int),tn)≠[]) :
 ((FloatKind.f64.format.order (fq (D5 (G ((i:Int),tn)) k)) fS==some .gt)=true∧RfS G k (2*i+q+1) true tn (fq (D5 (G ((i:Int),tn)) k)) fS i (N5 k (G ((i:Int),tn))))∨
 ((FloatKind.f64.format.order (fq (D5 (G ((i:Int),tn)) k)) fS==some .gt)=false∧(FloatKind.f64.format.order (fq (D5 (G ((i:Int),tn)) k)) fO==some .gt)=true∧RfS G k (2*i+q+1) true bk fS (fq (D5 (G ((i:Int),tn)) k)) ref C)∨
 ((FloatKind.f64.format.order (fq (D5 (G ((i:Int),tn)) k)) fS==some .gt)=false∧(FloatKind.f64.format.order (fq (D5 (G ((i:Int),tn)) k)) fO==some .gt)=false∧RfS G k (2*i+q+1) true bk fS fO ref C):=by
 have c:=B1e hi d ht;rcases h with⟨h1,_⟩|⟨_,a,oq,b,rfl,rfl,rfl,rfl,rfl⟩
 ·exact absurd h1 Z
 have bd:=A79 b;have b1:=S9 (G (sd a)) k;have b2:=S9 (G ((i:Int),tn)) k;rw[B24 _ _ b2.1 b2.2 b1.1 b1.2,B24 _ _ b2.1 b2.2 bd.1 O];by_cases g1:D5 (G (sd a)) k<D5 (G ((i:Int),tn)) k
 ·refine Or.inl ⟨decide_eq_true g1,Or.inr ⟨rfl,((⟨i,hi⟩,tn):Cd),D5 (G (sd a)) k,?_,rfl,rfl,rfl,rfl,rfl⟩⟩;rw[A9m];exact M5.better (a:=((⟨i,hi⟩,tn):Cd)) c he b g1
 ·by_cases g2:oq<D5 (G ((i:Int),tn)) k
  ·refine Or.inr (Or.inl ⟨decide_eq_false g1,decide_eq_true g2,Or.inr ⟨rfl,a,_,?_,rfl,rfl,rfl,rfl,rfl⟩⟩);rw[A9m];exact M5.second (a:=((⟨i,hi⟩,tn):Cd)) c he b (Int.not_lt.1 g1) g2
  ·refine Or.inr (Or.inr ⟨decide_eq_false g1,decide_eq_false g2,Or.inr ⟨rfl,a,oq,?_,rfl,rfl,rfl,rfl,rfl⟩⟩);rw[A9m];exact M5.less (a:=((⟨i,hi⟩,tn):Cd)) c he b (Int.not_lt.1 g1) (Int.not_lt.1 g2)
theorem RfS.zero:RfS G k 0 false false 0 0 0 []:=Or.inl ⟨rfl,rfl,rfl,rfl,rfl,rfl,fun b a=>by
 have h1:=a.2
 have:0≤tw (sd b):=by unfold tw sd;dsimp only;split<;>omega
 omega⟩
end
theorem A3.addr {w:World}{base:Nat}{e:TypeId}{size:Nat}{v:Value}{n:Nat}{xs:List Value}(h:A3 w base e size v n xs)(c:0<n):∃g o cap,v=.slice (some ⟨g,o,none⟩) n cap∧base≤g∧g<w.heap.size:=by
 rcases h.2 with⟨_,d⟩|⟨g,o,cap,cur,h1,a,b,_⟩
 ·omega
 ·exact⟨g,o,cap,h1,a,lt_of_block b⟩
theorem A3.cellAt {w:World}{base:Nat}{e:TypeId}{size:Nat}{g o n cap:Nat}{xs:List Value}(h:A3 w base e size (.slice (some ⟨g,o,none⟩) n cap) n xs){j:Nat}{u:Value}(a:xs[j]?=some u):w.cell? ⟨g,o+j,none⟩=some u:=by
 rcases h.2 with⟨b,_⟩|⟨g1,o1,f,cur,h1,_,c,_,_,_,d⟩
 ·cases b
 ·simp only[Value.slice.injEq,Option.some.injEq,Addr.mk.injEq,and_true,true_and]at h1;obtain⟨⟨rfl,rfl⟩,_⟩:=h1;exact A1 c (d _ _ a)
structure RfI (w0 wr:World)(R:List S2)(k W:Nat)(rn rb:ByteArray)(wv cv:Value)(t all ref:Nat)(fd bk:Bool)(fS fO:Nat)(C:List (Int×Int)):Prop where
 bl:Below w0.heap.size w0 wr
 b0:wr.heap[w0.heap.size]?=some (.cells #[.string rn,.string rb] 88 (0,0))
 b1:wr.heap[w0.heap.size+1]?=some (.cells (oC false 0 0) 71 (0,0))
 b2:wr.heap[w0.heap.size+2]?=some (.cells (oC bk fS fO) 71 (0,0))
 sz:w0.heap.size+3≤wr.heap.size
 wo:A3 wr w0.heap.size 114 3 wv (Q8 k W rb).length (A6 (Q8 k W rb))
 co:A3 wr w0.heap.size 119 2 cv C.length (A9 C)
 ac:all=cG k W R rb t
 a4:all≤400
 st:RfS (gL k W R rb) k t fd bk fS fO ref C
section
variable {w0 wr w':World} {R:List S2} {k W:Nat} {rn rb:ByteArray} {wv cv:Value} {t all ref:Nat} {fd bk:Bool} {fS fO:Nat} {C:List (Int×Int)}
theorem RfI.keep (h:RfI w0 wr R k W rn rb wv cv t all ref fd bk fS fO C)(a:Below wr.heap.size wr w'):RfI w0 w' R k W rn rb wv cv t all ref fd bk fS fO C:=
 have hs:=h.sz
 {bl:=h.bl.trans (a.mono h.bl.size),b0:=(a.block _ O).trans h.b0,b1:=(a.block _ O).trans h.b1,b2:=(a.block _ O).trans h.b2,sz:=Nat.le_trans h.sz a.size
  wo:=h.wo.other (fun g _ b=>a.block g b),co:=h.co.other (fun g _ b=>a.block g b),ac:=h.ac,a4:=h.a4,st:=h.st}
theorem RfI.set {m:Value}{c d n:Nat}{o f:Bool}{i j:Nat}{b:List (Int×Int)}(h:RfI w0 wr R k W rn rb wv cv t all ref fd bk fS fO C)(a:E1 wr w' (w0.heap.size+2) (.cells (oC f i j) 71 (0,0)))(p:A3 wr w0.heap.size 119 2 m b.length (A9 b))(q:d=cG k W R rb c)(r:d≤400)(hs:RfS (gL k W R rb) k c o f i j n b) :
 RfI w0 w' R k W rn rb wv m c d n o f i j b:=
 {bl:=h.bl.trans (a.below O),b0:=(a.other _ O).trans h.b0,b1:=(a.other _ O).trans h.b1,b2:=a.here,sz:=by rw[a.size];exact h.sz
  wo:=h.wo.other (fun g l _=>a.other g (fun e=>h.wo.tag Z h.b2 (e▸l))),co:=p.other (fun g l _=>a.other g (fun e=>p.tag Z h.b2 (e▸l))),ac:=q,a4:=r,st:=hs}
theorem RfI.same {d:Value}{b c f:Nat}{g:Bool}{a:List (Int×Int)}(h:RfI w0 wr R k W rn rb wv cv t all ref fd bk fS fO C)(i:A3 wr w0.heap.size 119 2 d a.length (A9 a))(j:c=cG k W R rb b)(l:c≤400)(hs:RfS (gL k W R rb) k b g bk fS fO f a) :
 RfI w0 wr R k W rn rb wv d b c f g bk fS fO a:=
 {bl:=h.bl,b0:=h.b0,b1:=h.b1,b2:=h.b2,sz:=h.sz,wo:=h.wo,co:=i,ac:=j,a4:=l,st:=hs}
end
end
end Mn
end Go.Proofs.YtilcmkiihefkkaaGreatDoor
