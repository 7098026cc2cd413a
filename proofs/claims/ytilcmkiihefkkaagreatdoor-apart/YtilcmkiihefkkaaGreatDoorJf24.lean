import Derived.Test.YtilcmkiihefkkaaGreatDoorJf6
import Derived.Test.YtilcmkiihefkkaaGreatDoorJf14
import Derived.Test.YtilcmkiihefkkaaGreatDoorJf22
set_option linter.unusedVariables false
set_option linter.unusedSimpArgs false
set_option maxRecDepth 1000000
set_option maxHeartbeats 64000000
open Go.Value renaming int→I
open Go.IntKind renaming i64→J
namespace Go.Proofs.YtilcmkiihefkkaaGreatDoor
namespace Mn
section
open Go.RowKit Go.Maps
def P1 (k W:Nat)(s:ByteArray):List W3:=(D2 k W s.data.toList s.size).M
def J7 (w w':World):Prop:=∀(g:Nat) (cs:Array Value),w.heap[g]?=some (Obj.cells cs 114 (0,0))→w'.heap[g]?=w.heap[g]?
theorem J7.trans {a b c:World}(h:J7 a b)(k:J7 b c):J7 a c:=fun g cs d=>(k g cs ((h g cs d).trans d)).trans (h g cs d)
theorem J7.below {a b:World}(h:Below a.heap.size a b):J7 a b:=fun g cs c=>h.block g (lt_of_block c)
theorem A06 (L:List W3)(g o:Nat)(cur:Array Value)(w:World)(a:w.heap[g]?=some (.cells cur 114 (0,0)))(c:∀j u,(A6 L)[j]?=some u→cur[o+j]?=some u)(j:Nat)(d:j<L.length) :
 w.cell? ⟨g,o+j*3,none⟩=some (I J L[j].h)∧w.cell? ⟨g,o+j*3+1,none⟩=some (I J L[j].p)∧w.cell? ⟨g,o+j*3+2,none⟩=some (.bool L[j].b):=by
 have:=I1 L j d;rw[Nat.mul_comm 3 j]at this;exact⟨A1 a (c _ _ this.1),A1 a (c _ _ this.2.1),A1 a (c _ _ this.2.2)⟩
def ixC (k W:Nat)(sc:Nat)(rv mv:Value):Array Value:=#[I J k,I J W,.float .f64 sc,rv,mv]
theorem A1N (F:Nat)(hF:∀args w,(callFunc F args).run Tryz.prog w=.ok (.enter F args) w)(r:Value)(s:ByteArray)(X k W sc:Nat)(rv mv:Value)(w:World)(hs:s.size≤4398046510000)(af:1≤k)(l:k≤12)(hW:1≤W)(ag:W≤20)(v:good s)
 (y:w.heap[X]?=some (.cells (ixC k W sc rv mv) 147 (0,0)))(a:Nat→World→Prop)
 (E:∀i (hi:i<(P1 k W s).length) wr,a i wr→Calls Tryz.prog F #[r,.agg #[I J (P1 k W s)[i].h,I J (P1 k W s)[i].p,.bool (P1 k W s)[i].b]] wr fun e w'=>e=.returned (.tuple #[])∧a (i+1) w'∧J7 wr w')
 (G:∀i wr w',a i wr→Below wr.heap.size wr w'→a i w')(f:a 0 w)(hlen:(P1 k W s).length<4398046511104) :
 Calls Tryz.prog 60 #[.pointer (some ⟨X,0,none⟩),.string s,.func (.func F) #[r] #[]] w fun e w'=>e=.returned (.tuple #[])∧a (P1 k W s).length w':=by
 have c0:w.cell? ⟨X,0,none⟩=some (I J k):=A1 y rfl;have c1:w.cell? ⟨X,1,none⟩=some (I J W):=A1 y rfl;have H:Hd (∀i (hi:i<(P1 k W s).length) wr,a i wr→Calls Tryz.prog F #[r,.agg #[I J (P1 k W s)[i].h,I J (P1 k W s)[i].p,.bool (P1 k W s)[i].b]] wr fun e w'=>e=.returned (.tuple #[])∧a (i+1) w'∧J7 wr w'):=E;have N:Hd (∀i wr w',a i wr→Below wr.heap.size wr w'→a i w'):=G;have H0:Hd (a 0 w):=f;clear E G f y;obtain⟨L,z⟩:=A8 (P1 k W s);rw[←z]at H hlen⊢;have HL:Hd ((D2 k W s.data.toList s.size).M=L):=z.symm;clear z;go_enter Tryz.func60,Tryz.ntmps60;refine wp_seq ?_;refine A5 17 (fun P=>P.cell? ⟨X,0,none⟩=some (I J k)∧P.cell? ⟨X,1,none⟩=some (I J W)) U ⟨c0,c1⟩ (fun hH=>?_);refine A2 0 ?_;refine A2 1 ?_;refine A2 2 ?_;refine A2 3 ?_;refine A2 4 ?_;refine A2 5 ?_;refine A2 6 ?_;refine A2 7 ?_;refine A2 8 ?_;refine A2 9 ?_;refine A2 10 ?_;refine wpS 11 fun K Q=>?_;go_simp;go_at_call 86;refine(A73 s k W _ hs af l hW ag).mono ?_;rintro e w1 ⟨⟨_,pv,rfl,m⟩|⟨ah,_⟩,d⟩;rotate_left
 ·exact absurd v ah
 rw[HL.o]at m;have c:Below w.heap.size w w1:=⟨d.os,d.tape,d.output,d.size,d.block⟩;have q:X<w.heap.size:=by
  rcases Nat.lt_or_ge X w.heap.size with h|h
  ·exact h
  ·simp[World.cell?,Array.getElem?_eq_none h]at c0
 refine Q.out _ _ ⟨(World.cell?_of_block (c.block X q)).trans c0,(World.cell?_of_block (c.block X q)).trans c1⟩ ?_;clear Q K hH;have hH:w1.cell? ⟨X,0,none⟩=some (I J k)∧w1.cell? ⟨X,1,none⟩=some (I J W):=⟨(World.cell?_of_block (c.block X q)).trans c0,(World.cell?_of_block (c.block X q)).trans c1⟩;try simp only[Act.put,zA0,zZ0,zS0]
 refine A2 12 ?_;refine A2 13 ?_;refine A2 14 ?_;refine A2 15 ?_;refine A2 16 ?_;refine J5 ?_;show Code.wp _ _ _ _ _;obtain⟨n,A⟩:=A8 L.length;have HN:Hd (n=L.length):=A;rw[←A]at hlen m⊢;obtain⟨t,R,rfl,S⟩:∃t R,pv=.slice t n R∧(n≠0→∃g o cur,t=some ⟨g,o,none⟩∧w1.heap[g]?=some (.cells cur 114 (0,0))∧∀j u,(A6 L)[j]?=some u→cur[o+j]?=some u):=by
  rcases m.2 with⟨h,f⟩|⟨g,o,cap,cur,h,_,v,_,_,_,hc⟩
  ·exact⟨none,0,by rw[h,f],fun h'=>absurd f h'⟩
  ·exact⟨_,_,h,fun _=>⟨g,o,cur,rfl,v,hc⟩⟩
 have HS:Hd (n≠0→∃g o cur,t=some ⟨g,o,none⟩∧w1.heap[g]?=some (Obj.cells cur 114 (0,0))∧∀j u,(A6 L)[j]?=some u→cur[o+j]?=some u):=S;have ai:Hd (a 0 w1):=N.o 0 w w1 H0.o c;have an:Hd (Below w.heap.size w w1):=c;clear S m A hH c0 c1 d c;go_wp2;go_loopw [27] (fun i wr=>∃j:Nat,j≤n∧i=I J j∧a j wr∧J7 w1 wr) (fun i _=>n-(intOf i).toNat);case atStart=>exact⟨0,Nat.zero_le _,rfl,ai.o,fun _ _ _=>rfl⟩
 case round=>
  obtain⟨j,hj,rfl,T,V⟩:=hrel;have Y:Hd (J7 w1 wr):=V;have aa:Hd (a j wr):=T;clear V T;by_cases ap:j<n
  ·obtain⟨g,o,cur,rfl,ab,aj⟩:=HS.o O;have ac:wr.heap[g]?=some (Obj.cells cur 114 (0,0)):=(Y.o g cur ab).trans ab;have ad:j<L.length:=by have:=HN.o;omega
   obtain⟨x,B⟩:=A8 (L[j]);obtain⟨d0,d1,d2⟩:=A06 L g o cur wr ac aj j ad;rw[←B]at d0 d1 d2;have HX:Hd (x=L[j]):=B;clear B;go_wp2_with fail;have C:Below wr.heap.size wr (wr.alloc (Obj.cells #[I J x.h,I J x.p,Value.bool x.b] 114)):=(Below.refl _ _).alloc (Nat.le_refl _) _;have D:=H.o j ad _ (N.o j wr _ aa.o C);rw[←HX.o]at D;refine D.mono ?_;rintro e w2 ⟨rfl,ae,l⟩;have ak:Hd (a (j+1) w2):=ae;have al:Hd (J7 w1 w2):=Y.o.trans ((J7.below C).trans l);clear ae l D C d0 d1 d2 ac;go_wp2;go_roundw;case rel=>exact⟨j+1,O,Zn,ak.o,al.o⟩
   case measure=>simp[intOf];omega
  ·have am:j=n:=O;go_wp2;go_end0;exact⟨rfl,am▸aa.o⟩
end
end Mn
end Go.Proofs.YtilcmkiihefkkaaGreatDoor
