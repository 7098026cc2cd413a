import Derived.Test.YtilcmkiihefkkaaGreatDoorJf25
import Derived.Test.YtilcmkiihefkkaaGreatDoorJf27
set_option linter.unusedVariables false
set_option linter.unusedSimpArgs false
set_option maxRecDepth 1000000
set_option maxHeartbeats 64000000
open Go.Value renaming int→I
open Go.IntKind renaming i64→J
namespace Go.Proofs.YtilcmkiihefkkaaGreatDoor
namespace Mn
section
open Go.RowKit Go.Maps Go.MapKept Go.ChangeMaps
def TOK (T:Int→List W3):Prop:=∀h,∀y∈T h,0≤y.h∧y.h<100000∧0≤y.p∧y.p≤100000
def P6 (len k:Int)(T:Int→List W3)(st:Nat×(Int×Bool→List (Int×Int)))(x:W3):Nat×(Int×Bool→List (Int×Int)):=
 if 400<st.1+(T x.h).length then(st.1+(T x.h).length,st.2) else(st.1+(T x.h).length,(T x.h).foldl (fun A y=>Y2 len k A x y) st.2)
def gtC (X:Nat)(len:Int)(c:Nat)(Gb:Nat):Array Value:=#[.pointer (some ⟨X,0,none⟩),I J len,I J c,.map (some Gb)]
structure GwI (w0:World)(X Gt Gb:Nat)(len:Int)(c:Nat)(A:Int×Bool→List (Int×Int))(wr:World):Prop where
 gt:wr.heap[Gt]?=some (.cells (gtC X len c Gb) 214 (0,0))
 sd:∃V n,SdP wr w0.heap.size Gb n V A∧n≤c∧n≤400∧∀s,(A s).length≤n
 bl:Below w0.heap.size w0 wr
 lo:w0.heap.size≤Gb
 lt:w0.heap.size≤Gt
theorem GwI.kept {b:World}{X d f:Nat}{len:Int}{c:Nat}{A:Int×Bool→List (Int×Int)}{wr w':World}(h:GwI b X d f len c A wr)(a:Below wr.heap.size wr w'):GwI b X d f len c A w':=by
 obtain⟨V,n,i,h1⟩:=h.sd;exact⟨(a.block _ (lt_of_block h.gt)).trans h.gt,⟨V,n,i.kept (fun g j=>a.block g j),h1⟩,h.bl.trans (a.mono h.bl.size),h.lo,h.lt⟩
theorem A3f (len k:Int)(A:Int×Bool→List (Int×Int))(x y:W3)(n:Nat)(h:∀s,(A s).length≤n):∀s,(Y2 len k A x y s).length≤n+1:=by
 intro s;unfold Y2 G4;split
 ·have:=h (X3 x y);simp;omega
 ·have:=h s;omega
theorem A6B (x y:W3)(h:0≤y.h∧y.h<100000):okS (X3 x y):=by
 unfold okS X3;exact WalkArith.wf_i64 O
theorem A7a {w:World}{base a n:Nat}{V:Int×Bool→Value}{A:Int×Bool→List (Int×Int)}(h:SdP w base a n V A){g:Nat}{cs:Array Value}{t:TypeId}(b:w.heap[g]?=some (.cells cs t (0,0))):g≠a:=by
 obtain⟨D,⟨es,clock,c,_⟩,_⟩:=h.map;intro e;rw[e,c]at b;cases b
theorem GwI.step {a:World}{X i f:Nat}{len:Int}{c:Nat}{A:Int×Bool→List (Int×Int)}{wr:World}{j o q:Nat}{r u:Value}(v:a.heap[X]?=some (.cells (ixC j o q r u) 147 (0,0)))
 (l:wr.heap[i]?=some (.cells (gtC X len c f) 214 (0,0)))(V:Int×Bool→Value)(n:Nat)(k:SdP wr a.heap.size f n V A)(H:n<400)(z:∀s,(A s).length≤n)(bl:Below a.heap.size a wr)(lo:a.heap.size≤f)(lt:a.heap.size≤i)
 (x y:W3)(hlen:0≤len∧len≤1000000)(B:j≤12)(C:0≤x.p∧x.p≤1000000)(m:0≤y.h∧y.h<100000) :
 Calls Tryz.prog 142 #[.pointer (some ⟨i,0,none⟩),.agg #[I J x.h,I J x.p,.bool x.b],.agg #[I J y.h,I J y.p,.bool y.b]] wr fun e w'=>e=.returned (.tuple #[])∧
  w'.heap[i]?=some (.cells (gtC X len c f) 214 (0,0))∧(∃D,SdP w' a.heap.size f (n+1) D (Y2 len j A x y))∧Below a.heap.size a w'∧J7 wr w':=by
 have E:=(bl.block X (lt_of_block v)).trans v;refine(A5U x y len j c j o q r u i X f a.heap.size n V A wr (A6B x y m) O (by have:=z (X3 x y);omega) bl.size hlen rfl B C l E k).mono ?_;rintro e w' ⟨rfl,F,hs,hk,ho,ht,hu⟩;have w:∀g cs t,wr.heap[g]?=some (Obj.cells cs t (0,0))→t≠119→w'.heap[g]?=wr.heap[g]?:=fun g cs t d G=>hk g (lt_of_block d) (A7a k d) ((k.own _ (A6B x y m)).tag G d);refine⟨rfl,(w _ _ _ l Z).trans l,F,⟨ho.trans bl.os,ht.trans bl.tape,hu.trans bl.output,Nat.le_trans bl.size hs,fun g d=>?_⟩,fun g cs d=>w g cs _ d Z⟩;rw[hk g (Nat.lt_of_lt_of_le d bl.size) O (fun e=>by have:=((k.own _ (A6B x y m)).lt e).1;omega)];exact bl.block g d
theorem GwI.count {d:World}{X i a:Nat}{len:Int}{c j:Nat}{A:Int×Bool→List (Int×Int)}{wr w':World}(h:GwI d X i a len c A wr)(hu:D7 wr w' i (.cells (gtC X len j a) 214 (0,0)))(o:c≤j):GwI d X i a len j A w'∧J7 wr w'∧∀V n,SdP wr d.heap.size a n V A→SdP w' d.heap.size a n V A:=by
 obtain⟨V,n,b,h1,k,l⟩:=h.sd;have key:∀V n,SdP wr d.heap.size a n V A→SdP w' d.heap.size a n V A:=by
  intro V n b;obtain⟨D,m,r⟩:=b.map;exact⟨⟨D,ownsMap_at m (hu.other _ (Ne.symm (A7a b h.gt))),r⟩,fun s hs=>(b.own s hs).other (fun g f _=>hu.other g (fun e=>(b.own s hs).tag Z h.gt (e▸f))),b.apart⟩
 refine⟨⟨hu.here,⟨V,n,key V n b,O,k,l⟩,h.bl.trans (hu.below h.lt),h.lo,h.lt⟩,?_,key⟩
 ·intro g cs f;refine hu.other g (fun e=>?_);rw[e,h.gt]at f;simp at f
theorem A7G {r:World}{X l v:Nat}{len:Int}{c:Nat}{A:Int×Bool→List (Int×Int)}{d:World}{f Wn aM D base n0:Nat}{rv:Value}{Q:Int→Value}{T:Int→List W3}(hX:r.heap[X]?=some (.cells (ixC f Wn aM rv (.map (some D))) 147 (0,0)))
 (hT:HtP r base D n0 Q T)(ag:TOK T)(h:GwI r X l v len c A d)(x:W3)(Y:okI x.h)(hlen:0≤len∧len≤1000000)(aN:f≤12)(hp:0≤x.p∧x.p≤1000000)(hc:c<1000000000)(aX:(T x.h).length<1000000) :
 Calls Tryz.prog 106 #[.pointer (some ⟨l,0,none⟩),.agg #[I J x.h,I J x.p,.bool x.b]] d fun e w'=>e=.returned (.tuple #[])∧GwI r X l v len (P6 len f T (c,A) x).1 (P6 len f T (c,A) x).2 w'∧J7 d w':=by
 have ah:=A4 hT;have HX:=A4 hX;have HH:=A4 h;have aO:=A4 ag;have aY:l<d.heap.size:=lt_of_block h.gt;clear hX hT h ag;go_enter Tryz.func106,Tryz.ntmps106;go_wp2_with fail;rename_i Q0 K0 ai;obtain⟨k,F⟩:=A8 (d.alloc (Obj.cells #[I J x.h,I J x.p,Value.bool x.b] 114));have aa:Below d.heap.size d k:=by rw[F];exact(Below.refl _ _).alloc (Nat.le_refl _) _
 have ab:k.heap[d.heap.size]?=some (.cells #[I J x.h,I J x.p,Value.bool x.b] 114 (0,0)):=by rw[F];exact heap_alloc_new d _
 have aZ:k.heap.size=d.heap.size+1:=by rw[F];simp
 rw[←F];clear F;have z:Hd (GwI r X l v len c A k):=HH.o.kept aa;have aj:k.heap[X]?=_:=(z.o.bl.block X (lt_of_block HX.o)).trans HX.o;have f0:k.drew.cell? ⟨l,0,none⟩=some (.pointer (some ⟨X,0,none⟩)):=A1 z.o.gt rfl;have f1:k.drew.cell? ⟨X,4,none⟩=some (.map (some D)):=A1 aj rfl;have f2:k.drew.cell? ⟨d.heap.size,0,none⟩=some (I J x.h):=A1 ab rfl;have ak:HtP k.drew base D n0 Q T:=ah.o.kept (fun g G=>z.o.bl.block g G);have f3:=ak.look (t:=145) A4M Tryz.underlying145 (A20 _) Y (A8l x.h Y);refine A5 11 (fun H=>H.cell? ⟨l,0,none⟩=some (.pointer (some ⟨X,0,none⟩))∧H.cell? ⟨X,4,none⟩=some (.map (some D))∧H.cell? ⟨d.heap.size,0,none⟩=some (I J x.h)∧(Instr.lookup 145 (.map (some D)) (I J x.h) false).run Tryz.prog H=.ok (Q x.h) H) U ⟨f0,f1,f2,f3⟩ (fun hH=>?_);refine A2 0 ?_;refine A2 1 ?_;refine A2 2 ?_;refine A2 3 ?_;refine A2 4 ?_;refine A2 5 ?_;refine A2 6 ?_;refine A2 7 ?_;refine A2 8 ?_;refine A2 9 ?_;refine A2 10 ?_;refine J5 ?_;refine ai _ _ ?_;clear ai hH f0 f1 f2 f3 ak;obtain⟨m,hm⟩:=A8 ((T x.h).length);have E:=A4 hm;obtain⟨ao,cp,hv,al⟩:∃ao cp,Q x.h=.slice ao m cp∧(m≠0→∃g o cur,ao=some ⟨g,o,none⟩∧r.heap[g]?=some (Obj.cells cur 99 (0,0))∧∀j u,(A6 (T x.h))[j]?=some u→cur[o+j]?=some u):=by
  rcases (ah.o.own x.h Y).2 with⟨h,h0⟩|⟨g,o,cap,cur,h,_,G,_,_,_,hc⟩
  ·exact⟨none,0,by rw[h,hm,h0],fun h'=>absurd (hm.trans h0) h'⟩
  ·exact⟨_,_,by rw[hm];exact h,fun _=>⟨g,o,cur,rfl,G,hc⟩⟩
 rw[hv];have aP:=A4 al;have ba:m<1000000:=O;have bb:IntKind.i64.wrap ((c:Int)+m)=(c:Int)+m:=Zw;have q2:k.drew.cell? ⟨l,2,none⟩=some (I J c):=A1 z.o.gt rfl;have qf:k.drew.frozen? ⟨l,2,none⟩=false:=frozen_of_row _ _ _ _ _ z.o.gt;obtain⟨B,ac⟩:=A8 ((k.setCell ⟨l,2,none⟩ (I J ((c:Int)+m))).drew);have R:D7 k B l (.cells (gtC X len (c+m) v) 214 (0,0)):=by
  rw[ac];have:=D7.of_setCell (w:=k) (i:=2) (I J ((c:Int)+m)) z.o.gt;refine⟨this.os,this.tape,this.output,this.size,?_,this.other⟩;rw[show gtC X len (c+m) v=(gtC X len c v).setIfInBounds 2 (I J ((c:Int)+m)) from rfl];exact this.here
 have q3:B.cell? ⟨l,2,none⟩=some (I J ((c:Int)+m)):=A1 R.here rfl;obtain⟨am,an,ap⟩:=z.o.count R O;obtain⟨V,n,aq,bc,bd,ar⟩:=z.o.sd;have aQ:Hd (SdP B r.heap.size v n V A):=ap V n aq;have au:=A4 ar;have C:=A4 am;have av:Hd (J7 d B):=(J7.below aa).trans an;have aw:B.heap[d.heap.size]?=some (.cells #[I J x.h,I J x.p,Value.bool x.b] 114 (0,0)):=(R.other _ O).trans ab;have ax:=A4 aw;clear am an ap aq ar R al hm hv aj aa ab aw;go_upto_region 3 with fail;rw[←ac];clear ac q2 qf;by_cases ay:400<c+m
 ·have HR:Hd (P6 len f T (c,A) x=(c+m,A)):=by show _=_;unfold P6;rw[←E.o,if_pos ay]
  have aR:(400:Int)<(c:Int)+m:=O;go_wp2_with fail;refine bodyPost_ret (results_none rfl _ _ _) rfl ?_;rw[HR.o];exact⟨rfl,C.o,av.o⟩
 ·have aR:¬(400:Int)<(c:Int)+m:=O;go_wp2_with fail;have HR:Hd (P6 len f T (c,A) x=(c+m,(T x.h).foldl (fun A y=>Y2 len f A x y) A)):=by show _=_;unfold P6;rw[←E.o,if_neg ay]
  go_loopw [33] (fun i wx=>∃j:Nat,j≤m∧i=I J j∧wx.heap[l]?=some (.cells (gtC X len (c+m) v) 214 (0,0))∧(∃K,SdP wx r.heap.size v (n+j) K (((T x.h).take j).foldl (fun A y=>Y2 len f A x y) A))∧Below r.heap.size r wx∧J7 B wx) (fun i _=>m-(intOf i).toNat);case atStart=>exact⟨0,Nat.zero_le _,rfl,C.o.gt,⟨V,aQ.o⟩,C.o.bl,fun _ _ _=>rfl⟩
  case round=>
   obtain⟨j,hj,rfl,az,⟨K,aA⟩,aB,aC⟩:=hrel;have ad:=A4 az;have aD:Hd (SdP wr r.heap.size v (n+j) K (((T x.h).take j).foldl (fun A y=>Y2 len f A x y) A)):=aA;have S:=A4 aB;have ae:=A4 aC;clear az aA aB aC;by_cases be:j<m
   ·obtain⟨g,o,cur,rfl,aE,af⟩:=aP.o O;have M:wr.heap[g]?=some (Obj.cells cur 99 (0,0)):=(S.o.block g (lt_of_block aE)).trans aE;have aF:j<(T x.h).length:=by have:=E.o;omega
    obtain⟨y,W⟩:=A8 ((T x.h)[j]);have hw:=I1 (T x.h) j aF;rw[Nat.mul_comm 3 j,←W]at hw;have d0:wr.cell? ⟨g,o+j*3,none⟩=some (I J y.h):=A1 M (af _ _ hw.1);have d1:wr.cell? ⟨g,o+j*3+1,none⟩=some (I J y.p):=A1 M (af _ _ hw.2.1);have d2:wr.cell? ⟨g,o+j*3+2,none⟩=some (.bool y.b):=A1 M (af _ _ hw.2.2);have N:wr.heap[d.heap.size]?=some (.cells #[I J x.h,I J x.p,Value.bool x.b] 114 (0,0)):=(ae.o _ _ ax.o).trans ax.o;have e0:=A1 N (i:=0) rfl;have e1:=A1 N (i:=1) rfl;have e2:=A1 N (i:=2) rfl;have aG:=aO.o x.h y (by rw[W];exact List.getElem_mem _);have HY:=A4 W;have bf:d.heap.size<wr.heap.size:=lt_of_block N;have bg:g<wr.heap.size:=lt_of_block M;clear hw W N M;go_wp2_with fail;have P:Below wr.heap.size wr (wr.alloc (Obj.cells #[I J y.h,I J y.p,Value.bool y.b] 99)):=(Below.refl _ _).alloc (Nat.le_refl _) _;have aH:∀(L:List W3) (A:Int×Bool→List (Int×Int)) (q:Nat),(∀s,(A s).length≤q)→∀s,(L.foldl (fun A y=>Y2 len f A x y) A s).length≤q+L.length:=by
     intro L;induction L with
     |nil=>intro A q h s;exact h s
     |cons a t ih=>intro A q h s;have:=ih (Y2 len f A x a) (q+1) (A3f len f A x a q h) s;simp only[List.foldl_cons,List.length_cons];omega
    refine(GwI.step (c:=c+m) HX.o ((P.block _ (lt_of_block ad.o)).trans ad.o) K (n+j) (aD.o.kept (fun g G=>P.block g G)) O (fun s=>by have:=aH ((T x.h).take j) A n au.o s;simp only[List.length_take]at this;omega) (S.o.trans (P.mono S.o.size)) C.o.lo C.o.lt x y hlen aN hp ⟨aG.1,aG.2.1⟩).mono ?_;rintro e w2 ⟨rfl,aI,⟨V2,aJ⟩,aK,aL⟩;have aS:=A4 aI;have aT:Hd (SdP w2 r.heap.size v (n+(j+1)) V2 (((T x.h).take (j+1)).foldl (fun A y=>Y2 len f A x y) A)):=by
     show SdP _ _ _ _ _ _;rw[List.take_add_one,List.getElem?_eq_getElem aF,List.foldl_append,←HY.o];exact aJ
    have aU:=A4 aK;have aV:Hd (J7 B w2):=ae.o.trans ((J7.below P).trans aL);clear aI aJ aK aL P aH d0 d1 d2 e0 e1 e2;go_wp2;go_roundw;case rel=>exact⟨j+1,O,Zn,aS.o,⟨V2,aT.o⟩,aU.o,aV.o⟩
    case measure=>simp[intOf];omega
   ·have aW:j=m:=O;subst aW;go_wp2;go_end0;rw[HR.o];refine⟨rfl,⟨ad.o,⟨K,n+j,?_,O,O,?_⟩,S.o,C.o.lo,C.o.lt⟩,av.o.trans ae.o⟩
    ·have:=aD.o;rw[E.o,List.take_length]at this;rw[E.o];exact this
    ·intro s;have:∀(L:List W3) (A:Int×Bool→List (Int×Int)) (q:Nat),(∀s,(A s).length≤q)→∀s,(L.foldl (fun A y=>Y2 len f A x y) A s).length≤q+L.length:=by
      intro L;induction L with
      |nil=>intro A q h s;exact h s
      |cons a t ih=>intro A q h s;have:=ih (Y2 len f A x a) (q+1) (A3f len f A x a q h) s;simp only[List.foldl_cons,List.length_cons];omega
     have:=this (T x.h) A n au.o s;rw[E.o];exact this
theorem A60 (args:Array Value)(w:World):(callFunc 106 args).run Tryz.prog w=.ok (.enter 106 args) w:=O3 Tryz.func106 U rfl args w
def R3 (k W:Nat)(R:List S2)(s:ByteArray):Nat×(Int×Bool→List (Int×Int)):=(P1 k W s).foldl (P6 s.size k (F3 k W R R.length)) (0,fun _=>[])
theorem A1G (len k:Int)(T:Int→List W3)(st:Nat×(Int×Bool→List (Int×Int)))(x:W3):(P6 len k T st x).1=st.1+(T x.h).length:=by
 unfold P6;split<;>rfl
theorem A5N (len k:Int)(T:Int→List W3)(M:Nat)(a:∀h,(T h).length≤M):∀(L:List W3) (st:Nat×(Int×Bool→List (Int×Int))),(L.foldl (P6 len k T) st).1≤st.1+L.length*M
 |[],st=>Zs
 |x::t,st=>by
  have:=A5N len k T M a t (P6 len k T st x)
  rw[A1G]at this
  have b:=a x.h
  simp only[List.foldl_cons,List.length_cons,Nat.add_mul]
  omega
theorem B2a {k W:Nat}(f:1≤k)(g:k≤12)(i:1≤W)(R:List S2)(l:∀x∈R,good x.b)(hs:C7 R R.length≤4000)(q:R.length<100000):∀j,j≤R.length→TOK (F3 k W R j):=by
 intro j;induction j with
 |zero=>intro _ h y c;simp[F3]at c
 |succ j m=>
  intro n;have hm:R.getD j S0∈R:=by rw[C1 _ _ _ O];exact List.getElem_mem _
  have r:(R.getD j S0).b.size≤4000:=by
   have:=T0 R (j+1) R.length n;have e:C7 R (j+1)=C7 R j+(R.getD j S0).b.size:=rfl;omega
  have key:∀(L:List W3) (T:Int→List W3),(∀x∈L,0≤x.p∧x.p≤100000)→TOK T→TOK (A2f j T L):=by
   intro L;induction L with
   |nil=>intro T _ h;exact h
   |cons x t o=>
    intro T d h;refine o (A1j j T x) (fun y c=>d y (List.mem_cons_of_mem _ c)) ?_;intro a y c;unfold A1j G4 at c;split at c
    ·rcases List.mem_append.1 c with c|c
     ·exact h _ y c
     ·simp at c;subst c;have:=d x (List.mem_cons_self);exact⟨by show(0:Int)≤(j:Nat);omega,by show((j:Nat):Int)<100000;omega,this.1,this.2⟩
    ·exact h _ y c
  refine key _ _ (fun x d=>?_) (m O);have:=Z8 f g i (l _ hm) d;omega
def AnP (w:World)(k W:Nat)(R:List S2)(s:ByteArray)(e:Ending)(w':World):Prop:=
 Below w.heap.size w w'∧((400<(R3 k W R s).1∧e=.returned (.map none))∨((R3 k W R s).1≤400∧∃Gb V n,e=.returned (.map (some Gb))∧SdP w' w.heap.size Gb n V (R3 k W R s).2∧n≤400∧(∀q,((R3 k W R s).2 q).length≤400)∧w.heap.size≤Gb))
theorem A5v (R:List S2)(base X k W sc:Nat)(s:ByteArray)(w:World)(c:1≤k)(a:k≤12)(d:1≤W)(M:W≤20)(v:∀x∈R,good x.b)(N:R.length<100000)(y:C7 R R.length≤4000)(Q:IxP w base X R k W sc)(hs:s.size≤100000)(l:good s) :
 Calls Tryz.prog 78 #[.pointer (some ⟨X,0,none⟩),.string s] w fun e w'=>AnP w k W R s e w':=by
 obtain⟨S,T,V0,m,hO,z,_,_⟩:=Q;have af:∀A,_:=fun A=>run_makeMap (P:=Tryz.prog) 175 A;have B:=Y5 c a d R v R.length (Nat.le_refl _);have C:=B2a c a d R v y N R.length (Nat.le_refl _);have ag:=Z6 c a d l (W:=W) (k:=k);have D:=A4 m;have Y:=A4 z;have aa:X<w.heap.size:=lt_of_block m;have E:=A4 B;have ab:=A4 C;clear m z hO B C;go_enter Tryz.func78,Tryz.ntmps78;go_wp2_with fail;obtain⟨p,f⟩:=A8 ((w.alloc (Obj.map #[] 0)).alloc (Obj.cells #[Value.pointer (some {block:=X,off:=0}),I J ↑s.size,I J 0,Value.map (some w.heap.size)] 214));rw[←f];have r:Below w.heap.size w p:=by rw[f];exact((Below.refl _ _).alloc (Nat.le_refl _) _).alloc Zs _
 have F:GwI w X (w.heap.size+1) w.heap.size s.size 0 (fun _=>[]) p:=by
  refine⟨?_,⟨fun _=>A0X,0,?_,Nat.le_refl _,O,fun _=>Nat.le_refl _⟩,r,Nat.le_refl _,O⟩
  ·have:=heap_alloc_new (w.alloc (Obj.map #[] 0)) (Obj.cells #[Value.pointer (some {block:=X,off:=0}),I J ↑s.size,I J 0,Value.map (some w.heap.size)] 214);have e1:(w.alloc (Obj.map #[] 0)).heap.size=w.heap.size+1:=Zs;rw[e1]at this;rw[f];exact this
  ·have h1:=GrP.made w Tryz.prog kS okS A9 rfl 178 119 2 w.heap.size;rw[f];exact h1.kept (fun j hj=>Below.heap_alloc _ _ j hj)
 have G:=(r.block X aa).trans D.o;clear f;have H:=A1N 106 A60 (.pointer (some ⟨w.heap.size+1,0,none⟩)) s X k W sc S (.map (some T)) p O c a d M l G
  (fun i wr=>GwI w X (w.heap.size+1) w.heap.size s.size (((P1 k W s).take i).foldl (P6 s.size k (F3 k W R R.length)) (0,fun _=>[])).1 (((P1 k W s).take i).foldl (P6 s.size k (F3 k W R R.length)) (0,fun _=>[])).2 wr)
  (fun i hi wr t=>by
   have K:=Z8 c a d l (List.getElem_mem hi)
   have ac:=A5N s.size k (F3 k W R R.length) _ E.o ((P1 k W s).take i) (0,fun _=>[])
   rw[List.take_add_one,List.getElem?_eq_getElem hi,List.foldl_append]
   refine A7G D.o Y.o ab.o t (P1 k W s)[i] (A2X K.1 K.2.1) O a O ?_ (by have:=E.o (P1 k W s)[i].h;omega)
   simp only[List.length_take]at ac
   have h4:min i (P1 k W s).length*C7 R R.length≤100000*4000:=Nat.mul_le_mul O y
   omega)
  (fun i wr w' t hb=>t.kept hb) F O
 refine H.mono ?_;rintro e w2 ⟨rfl,u⟩;rw[List.take_length]at u;have g:=A4 u;have q2:w2.cell? ⟨w.heap.size+1,2,none⟩=some (I J ((R3 k W R s).1:Nat)):=A1 g.o.gt rfl;have q3:w2.cell? ⟨w.heap.size+1,3,none⟩=some (.map (some w.heap.size)):=A1 g.o.gt rfl;clear u H G F r;by_cases ad:400<(R3 k W R s).1
 ·have ae:(400:Int)<((R3 k W R s).1:Nat):=O;go_wp2;go_ret;exact⟨g.o.bl,Or.inl ⟨ad,rfl⟩⟩
 ·have ae:¬(400:Int)<((R3 k W R s).1:Nat):=O;go_wp2;go_ret;obtain⟨V,n,hV,h1,L,h3⟩:=g.o.sd;exact⟨g.o.bl,Or.inr ⟨O,w.heap.size,V,n,rfl,hV,L,fun q=>Nat.le_trans (h3 q) L,Nat.le_refl _⟩⟩
end
section
open Go.RowKit
def A22 (k W:Nat)(R:List S2)(s:ByteArray)(q:Int×Bool)(a:Int×Int):Prop:=
 ∃x∈P1 k W s,∃i:Nat,i<R.length∧∃y∈P1 k W (R.getD i S0).b,x.h=y.h∧q=((i:Int),x.b !=y.b)∧a=(if (x.b !=y.b)=true then(s.size:Int)-k-x.p else x.p,y.p)
theorem A5K (i:Nat):∀(L:List W3) (T:Int→List W3) (h:Int) (z:W3),z∈A2f i T L h→z∈T h∨∃y∈L,y.h=h∧z=⟨i,y.p,y.b⟩
 |[],T,h,z,a=>Or.inl a
 |x::t,T,h,z,a=>by
  rcases A5K i t (A1j i T x) h z a with hm|⟨y,c,e⟩
  ·unfold A1j G4 at hm
   split at hm
   ·rename_i he
    have he:=(O2 _ _).1 he
    rcases List.mem_append.1 hm with hm|hm
    ·left;rw[he];exact hm
    ·right
     simp at hm
     exact⟨x,List.mem_cons_self,he.symm,hm⟩
   ·exact Or.inl hm
  ·exact Or.inr ⟨y,List.mem_cons_of_mem _ c,e⟩
theorem A0G (k W:Nat)(R:List S2):∀(j:Nat) (h:Int) (z:W3),z∈F3 k W R j h→∃i,i<j∧∃y∈P1 k W (R.getD i S0).b,y.h=h∧z=⟨i,y.p,y.b⟩
 |0,h,z,a=>by simp[F3]at a
 |j+1,h,z,a=>by
  rcases A5K j _ _ h z a with hm|⟨y,c,e⟩
  ·obtain⟨i,hi,r⟩:=A0G k W R j h z hm
   exact⟨i,O,r⟩
  ·exact⟨j,O,y,c,e⟩
theorem A67 (k W:Nat)(R:List S2)(s:ByteArray)(q:Int×Bool)(a:Int×Int)(h:a∈(R3 k W R s).2 q):A22 k W R s q a:=by
 have key:∀(L:List W3) (st:Nat×(Int×Bool→List (Int×Int))),(∀x∈L,x∈P1 k W s)→(∀q a,a∈st.2 q→A22 k W R s q a)→∀q a,a∈(L.foldl (P6 s.size k (F3 k W R R.length)) st).2 q→A22 k W R s q a:=by
  intro L;induction L with
  |nil=>intro st _ h q a b;exact h q a b
  |cons x t j=>
   intro st d h;refine j (P6 s.size k (F3 k W R R.length) st x) (fun y c=>d y (List.mem_cons_of_mem _ c)) ?_;intro q a b;unfold P6 at b;split at b
   ·exact h q a b
   ·have inner:∀(M:List W3) (A:Int×Bool→List (Int×Int)),(∀y∈M,y∈F3 k W R R.length x.h)→(∀q a,a∈A q→A22 k W R s q a)→∀q a,a∈(M.foldl (fun A y=>Y2 s.size k A x y) A) q→A22 k W R s q a:=by
     intro M;induction M with
     |nil=>intro A _ h q a b;exact h q a b
     |cons y u l=>
      intro A c g;refine l (Y2 s.size k A x y) (fun z f=>c z (List.mem_cons_of_mem _ f)) ?_;intro q a b;unfold Y2 G4 at b;split at b
      ·rename_i he;have he:=(Q4 _ _).1 he;rcases List.mem_append.1 b with b|b
       ·rw[he];exact g _ a b
       ·simp at b;obtain⟨i,hi,z,f,m,rfl⟩:=A0G k W R _ _ _ (c y (List.mem_cons_self));exact⟨x,d x (List.mem_cons_self),i,hi,z,f,m.symm,he,b⟩
      ·exact g q a b
    exact inner _ _ (fun y c=>c) h q a b
 exact key (P1 k W s) (0,fun _=>[]) (fun x d=>d) (fun q a b=>by simp at b) q a h
theorem R5 (R:List S2)(i:Nat)(h:i<R.length):R.getD i S0∈R:=by rw[C1 _ _ _ h];exact List.getElem_mem _
theorem A22.bounds {k W:Nat}{R:List S2}{s:ByteArray}{q:Int×Bool}{a:Int×Int}(h:A22 k W R s q a)(d:1≤k)(f:k≤12)(g:1≤W)(l:∀x∈R,good x.b)(m:good s) :
 0≤q.1∧q.1<R.length∧0≤a.1∧a.1+k≤s.size∧0≤a.2∧a.2+k≤(R.getD q.1.toNat S0).b.size:=by
 obtain⟨x,n,i,hi,y,o,r,rfl,rfl⟩:=h;have h1:=Z8 d f g m n;have j:=Z8 d f g (l _ (R5 R i hi)) o;refine⟨by show(0:Int)≤(i:Nat);omega,by show((i:Nat):Int)<_;omega,?_,?_,j.2.2.1,by simpa using j.2.2.2⟩
 ·show 0≤(if _ then _ else _:Int);split
  ·have c:(0:Int)≤(s.size:Int)-k-x.p:=O;exact c
  ·omega
 ·show(if _ then _ else _:Int)+_≤_;split
  ·have c:(s.size:Int)-k-x.p+k≤s.size:=O;exact c
  ·omega
theorem A22.same {k W:Nat}{R:List S2}{s:ByteArray}{q:Int×Bool}{a:Int×Int}(h:A22 k W R s q a)(f:1≤k)(g:k≤12)(n:1≤W)(o:∀x∈R,good x.b)(t:good s) :
 M4 (nums (if q.2=true then F9 s.data.toList else s.data.toList)) a.1.toNat k=M4 (nums (R.getD q.1.toNat S0).b.data.toList) a.2.toNat k∧(∀m∈M4 (nums (R.getD q.1.toNat S0).b.data.toList) a.2.toNat k,m<4):=by
 obtain⟨x,u,i,hi,y,v,w,rfl,rfl⟩:=h;obtain⟨p,c⟩:=A4K f g n t u;obtain⟨r,j⟩:=A4K f g n (o _ (R5 R i hi)) v;have hm:=A6f f g c j w;have e1:=(Q7 c).1;have z:=(Q7 j).1;have B:=(A0J (G0 c)).1;have en:(nums s.data.toList).length=s.size:=by simp[nums]
 have A:((i:Nat):Int).toNat=i:=Zs;simp only[A,z];refine⟨?_,by simpa using (A0J (G0 j)).2.1⟩;by_cases d:x.b=y.b
 ·have l:(x.b !=y.b)=false:=by simp[d]
  rw[l,e1];simp only[Bool.false_eq_true,if_false];simpa using (hm.1 d).symm
 ·have l:(x.b !=y.b)=true:=by simpa using d
  rw[l,e1];simp only[if_true];rw[A1b,show((s.size:Int)-k-(p:Nat)).toNat=(nums s.data.toList).length-k-p by rw[en];omega,A6r _ k p (G0 c)];simpa using (hm.2 d).symm
theorem A5X {α:Type}(r:α→α→Prop)(has:∀a b,r a b→¬r b a):∀(A B:List α),A.Pairwise r→B.Pairwise r→(∀x,x∈A↔x∈B)→A=B
 |[],[],_,_,_=>rfl
 |[],b::B,_,_,h=>by have:=(h b).2 (List.mem_cons_self);cases this
 |a::A,[],_,_,h=>by have:=(h a).1 (List.mem_cons_self);cases this
 |a::A,b::B,d,f,h=>by
  rw[List.pairwise_cons]at d f
  have e:a=b:=by
   rcases List.mem_cons.1 ((h a).1 (List.mem_cons_self)) with h1|h1
   ·exact h1
   ·rcases List.mem_cons.1 ((h b).2 (List.mem_cons_self)) with c|c
    ·exact c.symm
    ·exact absurd (d.1 _ c) (has _ _ (f.1 _ h1))
  subst e
  rw[A5X r has A B d.2 f.2]
  intro x
  have g:=h x
  simp only[List.mem_cons]at g
  constructor
  ·intro h1
   rcases g.1 (Or.inr h1) with c|c
   ·subst c;exact absurd (d.1 _ h1) (has _ _ (d.1 _ h1))
   ·exact c
  ·intro h1
   rcases g.2 (Or.inr h1) with c|c
   ·subst c;exact absurd (f.1 _ h1) (has _ _ (f.1 _ h1))
   ·exact c
def E5:Nat→Nat→List UInt8
 |_,0=>[]
 |n,k+1=>E5 (n/256) k++[(n%256).toUInt8]
theorem C8:∀k n,(E5 n k).length=k
 |0,_=>rfl
 |k+1,n=>by rw[E5,List.length_append,C8 k];rfl
theorem B0s:∀k n,E5 n (k+1)=(n/256^k%256).toUInt8::E5 n k
 |0,n=>by simp[E5]
 |k+1,n=>by
  rw[E5,B0s k (n/256),Nat.div_div_eq_div_mul,←Nat.pow_succ']
  rfl
def O1 (x:S2):List UInt8:=E5 x.n.size 1++x.n.data.toList++E5 x.b.size 2++x.b.data.toList
def M3 (x:W3):List UInt8:=E5 x.h.toNat 2++E5 (2*x.p.toNat+if x.b=true then 1 else 0) 2
def A1I (L:List W3):List UInt8:=E5 L.length 2++L.flatMap M3
def R9 (T:Int→List W3):Int→List Int→List UInt8
 |_,[]=>[]
 |last,h::t=>E5 (h-last).toNat 3++A1I (T h)++R9 T h t
def A0q (k W sc:Nat):List UInt8:=E5 k 1++E5 W 1++E5 sc 8
def A1v:List UInt8:=[80,76,71,82]
def M8 (k W sc:Nat)(R:List S2):List UInt8:=A1v++A0q k W sc++E5 R.length 2++R.flatMap O1
def A2N (k W sc:Nat)(R:List S2)(H:List Int):List UInt8:=M8 k W sc R++E5 H.length 2++R9 (F3 k W R R.length) 0 H
def HsP (T:Int→List W3)(H:List Int):Prop:=H.Pairwise (·<·)∧∀h,h∈H↔T h≠[]
theorem HsP.uniq {T:Int→List W3}{A B:List Int}(h:HsP T A)(c:HsP T B):A=B:=
 A5X _ (fun a b h1 d=>O) A B h.1 c.1 (fun x=>by rw[h.2,c.2])
theorem A1U (T:Int→List W3):∀(A:List Int) (last h:Int),R9 T last (A++[h])=R9 T last A++(E5 (h-A.getLastD last).toNat 3++A1I (T h))
 |[],last,h=>by simp[R9]
 |a::A,last,h=>by
  simp only[List.cons_append,R9,A1U T A a h,List.getLastD_cons,List.append_assoc]
theorem A13 {w w':World}{base:Nat}{e:TypeId}{size:Nat}{v:Value}{n:Nat}{xs:List Value}(h:w.ownsRow base e size v n xs)(b:∀g,v.ownBlock=some g→w'.heap[g]?=w.heap[g]?):w'.ownsRow base e size v n xs:=by
 obtain⟨a,h⟩:=h;rcases h with⟨rfl,h1⟩|⟨g,cap,cur,rfl,h1,c,d⟩
 ·exact⟨a,Or.inl ⟨rfl,h1⟩⟩
 ·exact⟨a,Or.inr ⟨g,cap,cur,rfl,h1,(b g rfl).trans c,d⟩⟩
theorem A2P {w:World}{base:Nat}{e:TypeId}{size:Nat}{v:Value}{n:Nat}{xs:List Value}(h:w.ownsRow base e size v n xs):∃a b,v=.slice a n b:=by
 obtain⟨c,h⟩:=h;rcases h with⟨rfl,rfl⟩|⟨g,cap,cur,rfl,h1,d,f⟩
 ·exact⟨_,_,rfl⟩
 ·exact⟨_,_,rfl⟩
def WrP (w:World)(base B:Nat)(L:List UInt8):Prop:=∃v,w.heap[B]?=some (.cells #[v] 153 (0,0))∧w.ownsRow base 5 1 v L.length (Lib.byteCells L)∧base≤B
def WrK (w w':World):Prop:=∀j,(∀cs,w.heap[j]?≠some (.cells cs 5 (0,0)))→(∀cs,w.heap[j]?≠some (.cells cs 153 (0,0)))→j<w.heap.size→w'.heap[j]?=w.heap[j]?
structure H5 (base B:Nat)(L:List UInt8)(w w':World):Prop where
 wp:WrP w' base B L
 bl:Below base w w'
 kp:WrK w w'
theorem WrK.refl (w:World):WrK w w:=fun _ _ _ _=>rfl
theorem WrK.trans {a b c:World}(h:WrK a b)(g:WrK b c)(hs:a.heap.size≤b.heap.size):WrK a c:=fun j h1 f i=>by
 have e:=h j h1 f i
 rw[g j (fun cs d=>h1 cs (e▸d)) (fun cs d=>f cs (e▸d)) O]
 exact e
theorem WrK.below {a b:World}(h:Below a.heap.size a b):WrK a b:=fun j _ _ c=>h.block j c
theorem WrP.lt {w:World}{base B:Nat}{L:List UInt8}(h:WrP w base B L):base<w.heap.size:=by
 obtain⟨v,h1,_,a⟩:=h;have:=lt_of_block h1;omega
theorem WrP.kept {w w':World}{base B:Nat}{L:List UInt8}(h:WrP w base B L)(a:Below w.heap.size w w'):WrP w' base B L:=by
 obtain⟨v,h1,b,c⟩:=h;exact⟨v,(a.block _ (lt_of_block h1)).trans h1,A13 b (fun g d=>a.block g (b.lt g d).2),c⟩
theorem H5.trans {base B:Nat}{L M:List UInt8}{a b c:World}(h:H5 base B L a b)(d:H5 base B M b c):H5 base B M a c:=⟨d.wp,h.bl.trans d.bl,h.kp.trans d.kp h.bl.size⟩
theorem H5.refl {base B:Nat}{L:List UInt8}{w:World}(h:WrP w base B L):H5 base B L w w:=⟨h,Below.refl _ _,WrK.refl _⟩
theorem H5.more {base B:Nat}{L:List UInt8}{a b c:World}(h:H5 base B L a b)(d:Below b.heap.size b c):H5 base B L a c:=
 ⟨h.wp.kept d,h.bl.trans (d.mono (Nat.le_of_lt h.wp.lt)),h.kp.trans (WrK.below d) h.bl.size⟩
theorem A0Z (A B:List UInt8):Lib.byteCells (A++B)=Lib.byteCells A++Lib.byteCells B:=by unfold Lib.byteCells;rw[List.map_append]
theorem A4U {w w1:World}{base B n:Nat}{L M:List UInt8}{v v':Value}(b:w.heap[B]?=some (.cells #[v] 153 (0,0)))(f:w.ownsRow base 5 1 v n (Lib.byteCells L))(p:base≤B)(a:w.grownBy w1 v.ownBlock)(ho:w1.ownsRow base 5 1 v' M.length (Lib.byteCells M)) :
 (w1.heap[B]?=some (.cells #[v] 153 (0,0)))∧H5 base B M w (w1.setCell ⟨B,0,none⟩ v'):=by
 have m:∀{W:World} {u:Value} {k:Nat} {xs:List Value},W.ownsRow base 5 1 u k xs→W.heap[B]?=some (.cells #[v] 153 (0,0))→u.ownBlock≠some B:=by
  intro W u k xs h q e;obtain⟨_,h⟩:=h;rcases h with⟨rfl,_⟩|⟨g,cap,cur,rfl,_,d,_⟩
  ·cases e
  ·simp only[Value.ownBlock,Option.some.injEq]at e;rw[e,q]at d;simp at d
 have l:w1.heap[B]?=some (.cells #[v] 153 (0,0)):=(a.block B (lt_of_block b) (fun e=>m f b e.symm)).trans b;have c:=D7.of_setCell (i:=0) v' l;refine⟨l,⟨⟨v',c.here,A13 ho (fun g o=>c.other g (fun e=>m ho l (by rw[o,e]))),p⟩,⟨a.os,a.tape,a.output,?_,fun g o=>?_⟩,fun j h1 d r=>?_⟩⟩
 ·rw[c.size];exact a.size
 ·rw[c.other g O];exact a.block g (by have:=lt_of_block b;omega) (fun e=>by have:=(f.lt g e.symm).1;omega)
 ·rw[c.other j (fun e=>d _ (by rw[e];exact b))];refine a.block j r (fun e=>?_);obtain⟨_,h⟩:=f;rcases h with⟨rfl,_⟩|⟨g,cap,cur,rfl,_,s,_⟩
  ·cases e
  ·simp only[Value.ownBlock,Option.some.injEq]at e;exact h1 cur (by rw[←s,e])
theorem Tryz.info5x:(Tryz.prog.info? 5).map (fun i=>(i.zero,i.size,i.bytes))=some (some (.int .u8 0),1,1):=U
theorem A18 (s:ByteArray)(L:List UInt8)(base B:Nat)(w:World)(h:WrP w base B L)(j:L.length+s.size≤1000000000) :
 Calls Tryz.prog 62 #[.pointer (some ⟨B,0,none⟩),.string s] w fun e w'=>e=.returned (.tuple #[])∧H5 base B (L++s.data.toList) w w':=by
 obtain⟨i0,hi,k,l,m⟩:=info_parts Tryz.info5x;have p:=h.lt;obtain⟨v,b,c,q⟩:=h;have c0:w.cell? ⟨B,0,none⟩=some v:=A1 b rfl;have r:=A4 b;obtain⟨n,d⟩:=A8 L.length;rw[←d]at c j;have t:=A4 d;clear b d;go_enter Tryz.func62,Tryz.ntmps62;go_wp2_with (at_builtin;refine Lib.wpList_append_own_string _ rfl (.tmp 8) (.tmp 9) 63 9 rfl base 5 i0 Tryz.underlying63 Tryz.underlying9 hi k l m v n (Lib.byteCells L) rfl c s rfl (by unfold maxLen;omega) O (Nat.le_of_lt p) ?_;intro v' w1 f g _;obtain⟨x,y,rfl⟩:=A2P f;have a:=A4U r.o c q g (M:=L++s.data.toList) (by rw[A0Z,List.length_append,←t.o];exact f);have c1:=A1 a.1 (i:=0) rfl;have f1:w1.frozen? ⟨B,0,none⟩=false:=frozen_of_row _ _ _ _ _ a.1;have u:Hd _:=a.2;clear a g f);go_end0;exact⟨rfl,u.o⟩
theorem A8g {P:Program}{ops:Array Oper}{o:Oper}{a:Act}{w:World}{K:Act→World→Prop}{Q:Exit→Act→World→Prop}{E:Prop}(b:o.guard=none)(s x:Operand)(t u:TypeId)
 (c:o.op=Op.call {callee:=Callee.builtin Builtin.append,args:=#[s,x],argTypes:=#[t,u]})(v1 v2 v':Value)(w':World)(hs:a.eval s=v1)(d:a.eval x=v2)
 (f:(Builtin.append_ #[t,u] o.type #[v1,v2]).run P w=.ok v' w')(g:K (a.put o.dst v') w'):if Region.wanted o (yielded ops a.tmps)=true then Oper.wp P o a w K Q else E:=by
 have hw:Region.wanted o (yielded ops a.tmps)=true:=by simp[Region.wanted,b]
 rw[if_pos hw];unfold Oper.wp;simp[execOp,c,resolve,invoke,builtin,hs,d,f,Result.andThen];exact g
theorem B2U (n j:Nat):(n:Int)/2^(8*(j:Int)).toNat=((n/256^j:Nat):Int):=by
 rw[show(8*(j:Int)).toNat=8*j by omega,show(256:Nat)=2^8 from rfl,←Nat.pow_mul];simp
theorem A1z (n k:Nat)(L:List UInt8)(base B:Nat)(w:World)(h:WrP w base B L)(hn:n<18446744073709551616)(hk:k≤8)(hl:L.length+k≤1000000000) :
 Calls Tryz.prog 87 #[.pointer (some ⟨B,0,none⟩),.int .u64 n,I J k] w fun e w'=>e=.returned (.tuple #[])∧H5 base B (L++E5 n k) w w':=by
 obtain⟨i0,hi,X,Y,aa⟩:=info_parts Tryz.info5x;have HP:=A4 h;clear h;go_enter Tryz.func87,Tryz.ntmps87;go_wp2;go_loopw [2] (fun sz wr=>∃(j:Nat) (M:List UInt8),j≤k∧sz=I J j∧H5 base B M w wr∧M++E5 n j=L++E5 n k∧M.length+j=L.length+k) (fun sz _=>(intOf sz).toNat);case atStart=>exact⟨k,L,Nat.le_refl _,rfl,H5.refl HP.o,rfl,rfl⟩
 case round=>
  obtain⟨j,M,hj,rfl,p,F,ab⟩:=hrel;have G:=A4 p;have H:=A4 F;clear F;by_cases c:j=0
  ·subst c;go_wp2;go_end0;have:=H.o;simp only[E5,List.append_nil]at this;rw[←this];exact⟨rfl,G.o⟩
  ·obtain⟨i,rfl⟩:∃i,j=i+1:=⟨j-1,O⟩;have ah:=p.wp.lt;obtain⟨v,t,d,ac⟩:=p.wp;obtain⟨m,hm⟩:=A8 M.length;rw[←hm]at d ab;have N:=A4 hm;have Q:=A4 t;have HV:=A4 d;have c0:wr.drew.cell? ⟨B,0,none⟩=some v:=A1 t rfl;have e1:((i+1:Nat):Int)-1=i:=O;have e2:IntKind.i64.wrap (8*(i:Int))=((8*i:Nat):Int):=Zw;clear t hm p;go_wp2;refine A5 14 (fun W=>W.cell? ⟨B,0,none⟩=some v) U c0 (fun hH=>?_);refine A2 0 ?_;refine A2 1 ?_;refine A2 2 ?_;refine A2 3 ?_;refine A2 4 ?_;refine A2 5 ?_;refine A2 6 ?_;refine A2 7 ?_;refine A2 8 ?_;rw[B2U];obtain⟨y,x⟩:=A8 (n/256^i);have HY:=A4 x;rw[←x];clear x;refine A2 9 ?_;obtain⟨b,z⟩:=A8 ((y%256).toUInt8);have R:IntKind.u8.wrap (y:Int)=(b.toNat:Int):=by
    rw[z,Nat.toUInt8_eq,UInt8.toNat_ofNat',IntKind.wrap_u8];omega
   rw[R];have ad:Hd (M++b::E5 n i=L++E5 n k):=by
    have:=H.o;rw[B0s,←HY.o,←z]at this;exact this
   clear z R;obtain⟨f,r⟩:=A8 ((wr.alloc (Obj.cells #[Value.int IntKind.u8 b.toNat] 5)).drew);have S:f.heap[wr.heap.size]?=some (.cells #[Value.int IntKind.u8 b.toNat] 5 (0,0)):=by rw[r];exact heap_alloc_new wr _
   have l:Below wr.heap.size wr f:=by
    have c:=(Below.refl wr.heap.size wr).alloc (Nat.le_refl _) (Obj.cells #[Value.int IntKind.u8 b.toNat] 5);rw[r];exact⟨c.os,c.tape,c.output,c.size,c.block⟩
   have ae:=A4 l;have af:=lt_of_block Q.o;have A:=(l.block B af).trans Q.o;have C:f.ownsRow base 5 1 v m (Lib.byteCells M):=A13 d (fun g hg=>l.block g (d.lt g hg).2);obtain⟨v',w1,T,D,V,_⟩:=run_append_own (P:=Tryz.prog) f base 63 63 5 i0 _ 1 1 Tryz.underlying63 hi X Y aa rfl Z v m (Lib.byteCells M) C ⟨wr.heap.size,0,none⟩ 1 1 [.int .u8 b.toNat] rfl (fun q u E=>by
    rw[Addr.add_lit,Nat.zero_add];match q,E with
    |0,E=>exact A1 S (by simpa using E)) (fun u hu=>by simp at hu;subst hu;rfl) (by unfold maxLen;omega) O (by have:=l.size;omega)
   obtain⟨ai,aj,rfl⟩:=A2P D;have s:=A4U A C ac V (M:=M++[b]) (by rw[A0Z,List.length_append,←N.o];exact D);have c1:w1.cell? ⟨B,0,none⟩=some v:=A1 s.1 (i:=0) rfl;have f1:w1.frozen? ⟨B,0,none⟩=false:=frozen_of_row _ _ _ _ _ s.1;have ag:Hd _:=s.2;have cA:f.cell? ⟨B,0,none⟩=some v:=A1 A rfl;clear s V D C A S l d;refine wpS 10 fun K a=>?_;go_simp;rw[←r];refine E0 a cA ?_;clear a K r hH;refine wpS 11 fun K a=>?_;refine A8g rfl (.tmp 14) (.tmp 20) 63 63 rfl v _ _ w1 (by simp[Act.eval]) (by simp[Act.eval]) T ?_;refine E0 a c1 ?_;clear a K T;have hH:=c1;refine wpS 12 fun K a=>?_;go_simp;refine E0 a hH ?_;clear a K;refine wpS 13 fun K a=>?_;go_simp;refine E0 a hH ?_;clear a K;refine B6 (i:=14) U rfl U U (fun K a=>?_);go_simp;refine a.out _ _ ?_;clear a K;go_wp2_with fail;go_roundw;case rel=>
    refine⟨i,M++[b],O,rfl,?_,by rw[List.append_assoc];exact ad.o,by rw[List.length_append,←N.o,List.length_singleton];omega⟩;exact(G.o.more ae.o).trans ag.o
   case measure=>simp[intOf]
theorem F7 (n k:Nat)(L:List UInt8)(base B:Nat)(w:World)(h:WrP w base B L)(d:n≤1000000000)(hk:k≤8)(a:L.length+k≤1000000000) :
 Calls Tryz.prog 64 #[.pointer (some ⟨B,0,none⟩),I J n,I J k] w fun e w'=>e=.returned (.tuple #[])∧H5 base B (L++E5 n k) w w':=by
 have b:=A1z n k L base B w h O hk a;have e1:IntKind.u64.wrap (n:Int)=n:=by rw[IntKind.wrap_u64];omega
 go_enter Tryz.func64,Tryz.ntmps64;go_wp2_with fail;refine b.mono ?_;rintro e w1 ⟨rfl,c⟩;go_wp2;go_end0;exact⟨rfl,c⟩
theorem A8m (sc:Nat)(w:World):(callFunc 88 #[.float .f64 sc]).run Tryz.prog w=.ok (.value (.int .u64 sc)) w:=by
 rw[run_callFunc_extern (e:=Extern.MathFloatBits.float64bits) Tryz.func88 U U U U];rfl
theorem A4D (k W sc:Nat)(L:List UInt8)(base B:Nat)(w:World)(h:WrP w base B L)(hk:k≤1000)(v:W≤1000)(hs:sc<18446744073709551616)(x:L.length+10≤1000000000) :
 Calls Tryz.prog 63 #[.pointer (some ⟨B,0,none⟩),.agg #[I J k,I J W,.float .f64 sc]] w fun e w'=>e=.returned (.tuple #[])∧H5 base B (L++A0q k W sc) w w':=by
 have y:=fun q=>A8m sc q;obtain⟨b,d⟩:=nm (w.alloc (Obj.cells #[I J k,I J W,.float .f64 sc] 24));have l:Below w.heap.size w b:=by rw[d];exact (Below.refl _ _).alloc (Nat.le_refl _) _
 have a:b.heap[w.heap.size]?=some (.cells #[I J k,I J W,.float .f64 sc] 24 (0,0)):=by rw[d];exact heap_alloc_new w _
 have g:=(H5.refl h).more l;have m:∀{w':World},WrK b w'→w'.heap[w.heap.size]?=some (.cells #[I J k,I J W,.float .f64 sc] 24 (0,0)):=fun r=>(r _ (fun cs c=>by rw[a]at c;simp at c) (fun cs c=>by rw[a]at c;simp at c) (lt_of_block a)).trans a;have c1:=F7 k 1 L base B b g.wp O O O;have q0:b.cell? ⟨w.heap.size,0,none⟩=some (I J k):=A1 a rfl;have n:=(show Hid _ from @m);have s:Hid _:=g;clear m l a g h;go_enter Tryz.func63,Tryz.ntmps63;go_wp2_with fail;rw[←d];clear d;refine c1.mono ?_;rintro e w1 ⟨rfl,f⟩;have z:w1.cell? ⟨w.heap.size,1,none⟩=some (I J W):=A1 (n.out f.kp) rfl;have c2:=F7 W 1 (L++E5 k 1) base B w1 f.wp O O (by rw[List.length_append,C8];omega);have o:Hid _:=f;clear f c1;go_wp2_with fail;refine c2.mono ?_;rintro e w2 ⟨rfl,i⟩;have j:=o.out.trans i;have A:w2.cell? ⟨w.heap.size,2,none⟩=some (.float .f64 sc):=A1 (n.out j.kp) rfl;have c3:=A1z sc 8 (L++E5 k 1++E5 W 1) base B w2 i.wp hs O (by rw[List.length_append,List.length_append,C8,C8];omega);have t:Hid _:=j;clear i j c2 o;go_wp2_with fail;refine c3.mono ?_;rintro e C ⟨rfl,p⟩;have u:Hid _:=s.out.trans (t.out.trans p);clear p c3;go_wp2;go_end0;refine⟨rfl,?_⟩;have:=u.out;rw[List.append_assoc,List.append_assoc,←List.append_assoc (E5 k 1)]at this;exact this
theorem A2D (x:S2)(L:List UInt8)(base B:Nat)(w:World)(h:WrP w base B L)(D:L.length+x.n.size+x.b.size+3≤1000000000) :
 Calls Tryz.prog 65 #[.pointer (some ⟨B,0,none⟩),.agg #[.string x.n,.string x.b]] w fun e w'=>e=.returned (.tuple #[])∧H5 base B (L++O1 x) w w':=by
 obtain⟨c,f⟩:=nm (w.alloc (Obj.cells #[.string x.n,.string x.b] 88));have q:Below w.heap.size w c:=by rw[f];exact (Below.refl _ _).alloc (Nat.le_refl _) _
 have a:c.heap[w.heap.size]?=some (.cells #[.string x.n,.string x.b] 88 (0,0)):=by rw[f];exact heap_alloc_new w _
 have i:=(H5.refl h).more q;have r:∀{w':World},WrK c w'→w'.heap[w.heap.size]?=some (.cells #[.string x.n,.string x.b] 88 (0,0)):=fun y=>(y _ (fun cs d=>by rw[a]at d;simp at d) (fun cs d=>by rw[a]at d;simp at d) (lt_of_block a)).trans a;have c1:=F7 x.n.size 1 L base B c i.wp O O O;have q0:c.cell? ⟨w.heap.size,0,none⟩=some (.string x.n):=A1 a rfl;have j:=(show Hid _ from @r);have z:Hid _:=i;clear r q a i h;go_enter Tryz.func65,Tryz.ntmps65;go_wp2_with fail;rw[←f];clear f;refine c1.mono ?_;rintro e w1 ⟨rfl,g⟩;have E:w1.cell? ⟨w.heap.size,0,none⟩=some (.string x.n):=A1 (j.out g.kp) rfl;have c2:=A18 x.n (L++E5 x.n.size 1) base B w1 g.wp (by rw[List.length_append,C8];omega);have s:Hid _:=g;clear g c1;go_wp2_with fail;refine c2.mono ?_;rintro e w2 ⟨rfl,k⟩;have l:=s.out.trans k;have F:w2.cell? ⟨w.heap.size,1,none⟩=some (.string x.b):=A1 (j.out l.kp) rfl;have m:x.n.data.toList.length=x.n.size:=rfl;have c3:=F7 x.b.size 2 (L++E5 x.n.size 1++x.n.data.toList) base B w2 k.wp O O (by rw[List.length_append,List.length_append,C8,m];omega);have t:Hid _:=l;clear k l c2 s;go_wp2_with fail;refine c3.mono ?_;rintro e u ⟨rfl,o⟩;have p:=t.out.trans o;have G:u.cell? ⟨w.heap.size,1,none⟩=some (.string x.b):=A1 (j.out p.kp) rfl;have c4:=A18 x.b (L++E5 x.n.size 1++x.n.data.toList++E5 x.b.size 2) base B u o.wp (by rw[List.length_append,List.length_append,List.length_append,C8,C8,m];omega);have A:Hid _:=p;clear o p c3 t m;go_wp2_with fail;refine c4.mono ?_;rintro e H ⟨rfl,v⟩;have C:Hid _:=z.out.trans (A.out.trans v);clear v c4;go_wp2;go_end0;refine⟨rfl,?_⟩;have e1:L++O1 x=L++E5 x.n.size 1++x.n.data.toList++E5 x.b.size 2++x.b.data.toList:=by unfold O1;simp only[List.append_assoc]
 rw[e1];exact C.out
def anW (len k:Int)(T:Int→List W3)(q:Int×Bool)(x:W3):List (Int×Int):=((T x.h).filter fun y=>eqS q (X3 x y)).map (A3p len k x)
def anL (len k:Int)(T:Int→List W3)(q:Int×Bool)(ws:List W3):List (Int×Int):=ws.flatMap (anW len k T q)
theorem A7E (len k:Int)(x:W3)(q:Int×Bool):∀(M:List W3) (A:Int×Bool→List (Int×Int)),(M.foldl (fun A y=>Y2 len k A x y) A) q=A q++(M.filter fun y=>eqS q (X3 x y)).map (A3p len k x)
 |[],A=>Zs
 |y::M,A=>by
  rw[List.foldl_cons,A7E len k x q M,List.filter_cons]
  unfold Y2 G4
  by_cases h:eqS q (X3 x y)=true
  ·rw[if_pos h,if_pos h,(Q4 _ _).1 h]
   simp
  ·rw[if_neg h,if_neg h]
theorem A3W (len k:Int)(T:Int→List W3):∀(ws:List W3) (st:Nat×(Int×Bool→List (Int×Int))),st.1≤(ws.foldl (P6 len k T) st).1
 |[],st=>Nat.le_refl _
 |x::t,st=>by
  have:=A3W len k T t (P6 len k T st x)
  rw[A1G]at this
  rw[List.foldl_cons]
  omega
theorem A7b (len k:Int)(T:Int→List W3)(q:Int×Bool):∀(ws:List W3) (st:Nat×(Int×Bool→List (Int×Int))),(ws.foldl (P6 len k T) st).1≤400→(ws.foldl (P6 len k T) st).2 q=st.2 q++anL len k T q ws
 |[],st,_=>by simp[anL]
 |x::t,st,h=>by
  rw[List.foldl_cons]at h⊢
  rw[A7b len k T q t _ h]
  have h1:=A3W len k T t (P6 len k T st x)
  rw[A1G]at h1
  have a:¬400<st.1+(T x.h).length:=O
  have e:(P6 len k T st x).2 q=st.2 q++anW len k T q x:=by
   unfold P6
   rw[if_neg a]
   exact A7E len k x q _ _
  rw[e,List.append_assoc]
  rfl
theorem B2j (k W:Nat)(R:List S2)(s:ByteArray)(h:(R3 k W R s).1≤400)(q:Int×Bool):(R3 k W R s).2 q=anL s.size k (F3 k W R R.length) q (P1 k W s):=by
 have:=A7b s.size k (F3 k W R R.length) q (P1 k W s) (0,fun _=>[]) h;rw[List.nil_append]at this;exact this
def sS (f:Int×Bool→Nat):Nat→Nat
 |0=>0
 |j+1=>sS f j+f ((j:Int),false)+f ((j:Int),true)
theorem A6R (f g:Int×Bool→Nat):∀n,sS (fun q=>f q+g q) n=sS f n+sS g n
 |0=>rfl
 |n+1=>by simp only[sS,A6R f g n];omega
theorem A4B:∀n,sS (fun _=>0) n=0
 |0=>rfl
 |n+1=>by simp only[sS,A4B n]
theorem A4V (f g:Int×Bool→Nat)(h:∀q,f q=g q)(n:Nat):sS f n=sS g n:=by rw[show f=g from funext h]
theorem B0l (i:Int)(t:Bool)(hi:0≤i):∀n:Nat,sS (fun q=>if eqS q (i,t)=true then 1 else 0) n=if i<n then 1 else 0
 |0=>by rw[if_neg O];rfl
 |n+1=>by
  simp only[sS]
  rw[B0l i t hi n]
  by_cases h:(n:Int)=i
  ·subst h
   have hs:∀b,(if eqS ((n:Int),b) ((n:Int),t)=true then 1 else 0)=if b=t then 1 else 0:=fun b=>by
    by_cases a:b=t
    ·rw[if_pos a,a,if_pos ((Q4 _ _).2 rfl)]
    ·rw[if_neg a,if_neg (fun h=>by have:=(Q4 _ _).1 h;simp at this;exact a this)]
   rw[hs,hs,if_neg (show ¬((n:Int)<(n:Nat)) by omega),if_pos (show(n:Int)<((n+1:Nat):Int) by omega)]
   cases t<;>rfl
  ·have c:∀b,eqS ((n:Int),b) (i,t)=false:=fun b=>by
    cases f:eqS ((n:Int),b) (i,t)
    ·rfl
    ·have:=(Q4 _ _).1 f;simp at this;exact absurd this.1 h
   rw[c,c]
   simp only[Bool.false_eq_true,if_false,Nat.add_zero]
   by_cases d:i<n
   ·rw[if_pos d,if_pos O]
   ·rw[if_neg d,if_neg O]
theorem A7q (x:W3)(n:Nat):∀M:List W3,(∀y∈M,0≤y.h∧y.h<n)→sS (fun q=>(M.filter fun y=>eqS q (X3 x y)).length) n=M.length
 |[],_=>A4B n
 |y::M,h=>by
  have a:=h y (List.mem_cons_self)
  have c:=A7q x n M (fun z d=>h z (List.mem_cons_of_mem _ d))
  have e:∀q,((y::M).filter fun y=>eqS q (X3 x y)).length=(if eqS q (X3 x y)=true then 1 else 0)+(M.filter fun y=>eqS q (X3 x y)).length:=by
   intro q
   rw[List.filter_cons]
   split
   ·rw[List.length_cons];omega
   ·omega
  rw[A4V _ _ e,A6R,c,show X3 x y=(y.h,x.b !=y.b) from rfl,B0l _ _ a.1,if_pos a.2,List.length_cons]
  omega
theorem A7z (len k:Int)(T:Int→List W3)(n:Nat)(a:∀h,∀y∈T h,0≤y.h∧y.h<n):∀(ws:List W3) (st:Nat×(Int×Bool→List (Int×Int))),(ws.foldl (P6 len k T) st).1=st.1+sS (fun q=>(anL len k T q ws).length) n
 |[],st=>by
  have:sS (fun q=>(anL len k T q []).length) n=0:=A4B n
  rw[this];rfl
 |x::t,st=>by
  rw[List.foldl_cons,A7z len k T n a t,A1G]
  have e:∀q,(anL len k T q (x::t)).length=((T x.h).filter fun y=>eqS q (X3 x y)).length+(anL len k T q t).length:=by
   intro q
   unfold anL
   rw[List.flatMap_cons,List.length_append]
   congr 1
   unfold anW
   rw[List.length_map]
  rw[A4V _ _ e,A6R,A7q x n _ (a x.h)]
  omega
theorem B0X (k W:Nat)(R:List S2)(s:ByteArray):(R3 k W R s).1=sS (fun q=>(anL s.size k (F3 k W R R.length) q (P1 k W s)).length) R.length:=by
 have:=A7z s.size k (F3 k W R R.length) R.length (fun h y a=>by
  obtain⟨i,hi,z,_,_,rfl⟩:=A0G k W R R.length h y a;exact⟨by show(0:Int)≤(i:Nat);omega,by show((i:Nat):Int)<_;omega⟩) (P1 k W s) (0,fun _=>[])
 rw[Nat.zero_add]at this;exact this
end
section
open Go.RowKit Go.Maps
def inB (q:Int×Bool)(x:W3)(p:Int×W3):Bool:=eqI x.h p.1&&eqS q (X3 x p.2)
def inW (len k:Int)(q:Int×Bool)(x:W3)(L:List (Int×W3)):List (Int×Int):=(L.filter (inB q x)).map fun p=>A3p len k x p.2
theorem A7A (len k:Int)(q:Int×Bool)(x:W3)(L:List (Int×W3)):inW len k q x L=anW len k (N6 L) q x:=by
 unfold inW anW N6;rw[List.filter_map,List.map_map,List.filter_filter];congr 1;apply List.filter_congr;intro p _;unfold inB;simp[Bool.and_comm]
theorem A9a (len k:Int)(q:Int×Bool)(x:W3)(L:List (Int×W3))(j:Nat)(a:j<L.length):inW len k q x (L.take (j+1))=inW len k q x (L.take j)++(if inB q x L[j]=true then [A3p len k x L[j].2] else []):=by
 unfold inW;rw[List.take_add_one,List.getElem?_eq_getElem a,List.filter_append,List.map_append];congr 1;by_cases h:inB q x L[j]=true<;>simp[h]
theorem A66 (len k:Int)(q:Int×Bool)(x:W3)(L:List (Int×W3)):(inW len k q x L).length≤L.length:=by
 unfold inW;rw[List.length_map];exact List.length_filter_le _ _
theorem A4n (len k:Int)(q:Int×Bool)(L:List (Int×W3)):∀ws:List W3,(anL len k (N6 L) q ws).length≤ws.length*L.length
 |[]=>by simp[anL]
 |x::t=>by
  have h1:=A4n len k q L t
  have a:=A66 len k q x L
  rw[A7A]at a
  unfold anL at h1⊢
  rw[List.flatMap_cons,List.length_append,List.length_cons,Nat.add_mul]
  omega
theorem B0d (len k:Int)(q:Int×Bool)(L:List (Int×W3))(ws:List W3)(i:Nat)(hi:i<ws.length):anL len k (N6 L) q (ws.take (i+1))=anL len k (N6 L) q (ws.take i)++inW len k q ws[i] L:=by
 rw[A7A];unfold anL;rw[List.take_add_one,List.getElem?_eq_getElem hi,List.flatMap_append];simp
def B2G (len k:Int)(L:List (Int×W3))(q:Int×Bool)(ws:List W3)(w:World)(e:Ending)(w':World):Prop:=
 ∃v,e=.returned v∧Below w.heap.size w w'∧A3 w' w.heap.size 119 2 v (anL len k (N6 L) q ws).length (A9 (anL len k (N6 L) q ws))
theorem A1Y {w:World}{base e size:Nat}{a:Option Addr}{n c:Nat}{xs:List Value}(h:A3 w base e size (.slice a n c) n xs)(d:n≠0):∃g o cur,a=some ⟨g,o,none⟩∧w.heap[g]?=some (.cells cur e (0,0))∧g<w.heap.size∧∀j u,xs[j]?=some u→cur[o+j]?=some u:=by
 rcases h.2 with⟨_,f⟩|⟨g,o,cap,cur,h,_,b,_,_,_,i⟩
 ·exact absurd f d
 ·simp only[Value.slice.injEq]at h;exact⟨g,o,cur,h.1,b,lt_of_block b,i⟩
theorem A4I (L:List (Int×W3))(ws:List W3)(ref:Nat)(a:Bool)(base aB Y k W sc len:Nat)(rv lv wv:Value)(w:World)(hY:w.heap[Y]?=some (.cells (ixC k W sc rv lv) 93 (0,0)))(T:A3 w base 101 4 lv L.length (G5 L))(V:A3 w aB 114 3 wv ws.length (A6 ws))(hl:L.length≤100000)(aC:ws.length≤1000)(hk:k≤12)(hlen:len≤1000000)(hp:∀x∈ws,0≤x.p∧x.p≤1000000) :
 Calls Tryz.prog 93 #[.pointer (some ⟨Y,0,none⟩),wv,I J len,I J ref,.bool a] w fun e w'=>B2G len k L ((ref:Int),a) ws w e w':=by
 obtain⟨i0,hi,al,am,an⟩:=info_parts Tryz.info119;obtain⟨n,hn⟩:=A8 L.length;obtain⟨m,hm⟩:=A8 ws.length;have X:=A4 hn;have HM:=A4 hm;rw[←hn]at T hl;rw[←hm]at V aC;obtain⟨la,lc,rfl⟩:=T.form;obtain⟨wa,wc,rfl⟩:=V.form;have HO:=A4 T;have aD:=A4 V;have HY:=A4 hY;have ao:=lt_of_block hY;have HP:=A4 hp;clear hn hm T V hY hp;go_enter Tryz.func93,Tryz.ntmps93;go_wp2;go_loopw [11,12] (fun v i wr=>∃j:Nat,j≤m∧i=I J j∧A3 wr w.heap.size 119 2 v (anL len k (N6 L) ((ref:Int),a) (ws.take j)).length (A9 (anL len k (N6 L) ((ref:Int),a) (ws.take j)))∧Below w.heap.size w wr) (fun _ i _=>m-(RowKit.intOf i).toNat);case atStart=>exact⟨0,Nat.zero_le _,rfl,A3.nil _ _ _ _,Below.refl _ _⟩
 case round=>
  obtain⟨j,hj,rfl,hv,hb⟩:=hrel;have E:=A4 hb;have N:=A4 hv;obtain⟨va,vc,P⟩:=hv.form;clear hv hb;by_cases aN:j<m
  ·have ap:j<ws.length:=by have:=HM.o;omega
   obtain⟨z,ow,aE,rfl,aq,aF,ar⟩:=A1Y aD.o O;obtain⟨x,hx⟩:=A8 (ws[j]);have au:Hd (anL len k (N6 L) ((ref:Int),a) (ws.take (j+1))=anL len k (N6 L) ((ref:Int),a) (ws.take j)++inW len k ((ref:Int),a) x L):=by rw[hx];exact B0d _ _ _ _ _ _ ap
   have av:Hd (∀r:World,(∀g,g<w.heap.size→r.heap[g]?=w.heap[g]?)→r.cell? ⟨z,ow+j*3,none⟩=some (I J x.h)∧r.cell? ⟨z,ow+j*3+1,none⟩=some (I J x.p)∧r.cell? ⟨z,ow+j*3+2,none⟩=some (.bool x.b)):=by
    intro r h';rw[hx];exact A06 ws z ow aE r ((h' z aF).trans aq) ar j ap
   obtain⟨B,hB⟩:=A8 (anL len k (N6 L) ((ref:Int),a) (ws.take j));have aO:B.length≤1000*100000:=by
    have h1:=A4n len k ((ref:Int),a) L (ws.take j);rw[List.length_take]at h1;have h2:=Nat.mul_le_mul (show min j ws.length≤1000 by omega) (show L.length≤100000 by have:=X.o;omega);rw[hB];omega
   have aP:=HP.o x (by rw[hx];exact List.getElem_mem _);rw[←hB]at N au P;clear hx hB aq ar;go_wp2;go_loopw [11,13] (fun v i aw=>∃q:Nat,q≤n∧i=I J q∧A3 aw w.heap.size 119 2 v (B++inW len k ((ref:Int),a) x (L.take q)).length (A9 (B++inW len k ((ref:Int),a) x (L.take q)))∧Below w.heap.size w aw) (fun _ i _=>n-(RowKit.intOf i).toNat);case atStart=>exact⟨0,Nat.zero_le _,rfl,by simpa[inW] using N.o,E.o⟩
   case round=>
    clear P N E;obtain⟨q,hq,rfl,G,aa⟩:=hrel;have E:=A4 aa;have N:=A4 G;obtain⟨C,hC⟩:=A8 (B++inW len k ((ref:Int),a) x (L.take q));rw[←hC]at G;have aG:C.length≤100100000:=by
     have h1:=A66 len k ((ref:Int),a) x (L.take q);rw[List.length_take]at h1;rw[hC,List.length_append];have:=X.o;omega
    have H:=A4 hC;obtain⟨c,Q⟩:=A8 C.length;rw[←Q]at G aG;have K:=A4 Q;obtain⟨va,vc,P⟩:=G.form;subst P;have ax:=A4 G;have aH:=aa.size;have y4:wr.cell? ⟨Y,4,none⟩=some (.slice la n lc):=A1 ((aa.block Y ao).trans HY.o) rfl;clear G aa hC Q;by_cases aQ:q<n
    ·have ay:q<L.length:=by have:=X.o;omega
     obtain⟨gl,ol,aR,rfl,az,aI,R⟩:=A1Y HO.o O;obtain⟨y,hy⟩:=A8 (L[q]);have M:=Z5 L q ay;rw[←hy]at M;have S:Hd (inW len k ((ref:Int),a) x (L.take (q+1))=inW len k ((ref:Int),a) x (L.take q)++(if inB ((ref:Int),a) x y=true then [A3p len k x y.2] else [])):=by rw[hy];exact A9a _ _ _ _ _ _ ay
     have ag:Hd (∀r:World,(∀g,g<w.heap.size→r.heap[g]?=w.heap[g]?)→r.cell? ⟨gl,ol+q*4,none⟩=some (I J y.1)∧r.cell? ⟨gl,ol+q*4+1,none⟩=some (I J y.2.h)∧r.cell? ⟨gl,ol+q*4+1+1,none⟩=some (I J y.2.p)∧r.cell? ⟨gl,ol+q*4+1+2,none⟩=some (.bool y.2.b)∧r.cell? ⟨Y,4,none⟩=some (.slice (some ⟨gl,ol,none⟩) n lc)∧r.cell? ⟨Y,0,none⟩=some (I J k)):=by
      intro r h';have f:=(h' gl aI).trans az;have aA:=(h' Y ao).trans HY.o;refine⟨A1 f (by have:=R _ _ M.1;rwa [Nat.mul_comm]at this),A1 f (by have:=R _ _ M.2.1;rwa [Nat.mul_comm,←Nat.add_assoc]at this),A1 f (by have:=R _ _ M.2.2.1;rwa [Nat.mul_comm,←Nat.add_assoc]at this),A1 f (by have:=R _ _ M.2.2.2;rwa [Nat.mul_comm,←Nat.add_assoc]at this),A1 aA rfl,A1 aA rfl⟩
     obtain⟨d0,d1,d2,d3,_,_⟩:=ag.o wr E.o.block;obtain⟨l,ab⟩:=A8 (wr.alloc (Obj.cells #[I J y.2.h,I J y.2.p,.bool y.2.b] 99));have ac:Below wr.heap.size wr l:=by rw[ab];exact(Below.refl _ _).alloc (Nat.le_refl _) _
     have ad:l.heap[wr.heap.size]?=some (.cells #[I J y.2.h,I J y.2.p,.bool y.2.b] 99 (0,0)):=by rw[ab];exact heap_alloc_new wr _
     have ae:Below w.heap.size w l:=E.o.trans (ac.mono aH);have s:=av.o l ae.block;have u:=ag.o l ae.block;have b0:l.cell? ⟨wr.heap.size,0,none⟩=some (I J y.2.h):=A1 ad rfl;have b1:l.cell? ⟨wr.heap.size,1,none⟩=some (I J y.2.p):=A1 ad rfl;have b2:l.cell? ⟨wr.heap.size,2,none⟩=some (.bool y.2.b):=A1 ad rfl;have aS:=A4 ac;have d:=A4 ae;have F:Hd (A3 l w.heap.size 119 2 (.slice va c vc) c (A9 C)):=ax.o.other (fun g _ f=>ac.block g f);clear hy M az R ac ad ae;go_wp2_with fail;rw[←ab];clear ab d0 d1 d2 d3;by_cases e1:x.h=y.1
     ·have f1:(y.1==x.h)=true:=by rw[beq_iff_eq];exact e1.symm
      by_cases e2:y.2.h=(ref:Int)
      ·have f2:(y.2.h==(ref:Int))=true:=by rw[beq_iff_eq];exact e2
       refine A5 32 (fun W=>W.cell? ⟨Y,4,none⟩=some (.slice (some ⟨gl,ol,none⟩) n lc)∧W.cell? ⟨gl,ol+q*4,none⟩=some (I J y.1)∧W.cell? ⟨z,ow+j*3,none⟩=some (I J x.h)∧W.cell? ⟨z,ow+j*3+2,none⟩=some (.bool x.b)∧W.cell? ⟨wr.heap.size,0,none⟩=some (I J y.2.h)∧W.cell? ⟨wr.heap.size,2,none⟩=some (.bool y.2.b)) U ⟨u.2.2.2.2.1,u.1,s.1,s.2.2,b0,b2⟩ (fun hH=>?_);refine A2 0 ?_;refine A2 1 ?_;refine A2 2 ?_;refine A2 3 ?_;refine A2 4 ?_;refine A2 5 ?_;refine A2 6 ?_;refine A2 7 ?_;refine A2 8 ?_;refine A2 9 ?_;refine A2 10 ?_;refine A2 11 ?_;refine A2 12 ?_;refine A2 13 ?_;refine A2 14 ?_;refine A2 15 ?_;refine A2 16 ?_;refine A2 17 ?_;refine A2 18 ?_;refine A2 19 ?_;refine A2 20 ?_;refine A2 21 ?_;refine A2 22 ?_;refine A2 23 ?_;refine A2 24 ?_;refine A2 25 ?_;refine A2 26 ?_;refine A2 27 ?_;refine A2 28 ?_;refine A2 29 ?_;refine A2 30 ?_;refine A2 31 ?_;refine J5 ?_;clear hH;have ah:Hd (inB ((ref:Int),a) x y=((!x.b==y.2.b)==a)):=by
        show _=_;unfold inB eqS X3;rw[(O2 _ _).2 e1];simp only[e2,bne];cases x.b<;>cases y.2.b<;>cases a<;>simp[O2]
       obtain⟨t,ht⟩:=A8 ((!x.b==y.2.b)==a);rw[←ht]at ah⊢;have aJ:=A4 ht;clear ht s u;cases t
       ·have D:=A4 ah.o;go_wp2_with fail;go_roundw;case rel=>
         refine⟨q+1,O,Zn,?_,?_⟩
         ·rw[S.o,if_neg (by rw[D.o];decide),List.append_nil,←H.o,←K.o];exact F.o.other (fun g _ f=>rfl)
         ·exact⟨d.o.os,d.o.tape,d.o.output,d.o.size,d.o.block⟩
        case measure=>simp[RowKit.intOf];omega
       ·have D:=A4 ah.o;have af:(x.b !=y.2.b)=a:=by
         have:=aJ.o;cases hb:x.b<;>cases Q:y.2.b<;>cases ht:a<;>simp[hb,Q,ht]at this⊢
        have s:=av.o l.drew (fun g f=>d.o.block g f);have u:=ag.o l.drew (fun g f=>d.o.block g f);have aT:l.drew.cell? ⟨wr.heap.size,1,none⟩=some (I J y.2.p):=b1;have aU:=s.2.1;have aV:=u.2.2.2.2.2;clear s u b0 b1 b2;cases a
        ·have ai:Hd (A3p len k x y.2=(x.p,y.2.p)):=by show _=_;unfold A3p;rw[af];rfl
         clear af;go_wp2_with (at_builtin;refine B5 _ rfl (.tmp 86) (.tmp 91) 115 rfl 119 i0 _ 2 16 Tryz.underlying115 hi al am an rfl Z w.heap.size (.slice va c vc) c (A9 C) rfl (by exact F.o.other (fun g _ f=>Below.heap_alloc l _ g f)) ⟨l.heap.size,0,none⟩ 1 [I J x.p,I J y.2.p] rfl rfl (by exact B0a l _ _ _ rfl) (P2 _ _) (by unfold maxLen;omega) O (by have:=d.o.size;simp;omega) ?_;intro g' o' cap' w8 aj ak);go_roundw;case rel=>
          refine⟨q+1,O,Zn,?_,?_⟩
          ·rw[S.o,if_pos D.o,←List.append_assoc,←H.o,ai.o,List.length_append,J2,←K.o];exact aj
          ·have A:=d.o.alloc d.o.size (Obj.cells #[I J x.p,I J y.2.p] 119);have h1:Below w.heap.size w (l.alloc (Obj.cells #[I J x.p,I J y.2.p] 119)).drew:=⟨A.os,A.tape,A.output,A.size,A.block⟩;exact h1.trans (ak.below (fun g f=>(F.o.lt f).1) h1.size)
         case measure=>simp[RowKit.intOf];omega
        ·have ai:Hd (A3p len k x y.2=((len:Int)-k-x.p,y.2.p)):=by show _=_;unfold A3p;rw[af];rfl
         have aW:IntKind.i64.wrap ((len:Int)-k)=(len:Int)-k:=Zw;have aX:IntKind.i64.wrap ((len:Int)-k-x.p)=(len:Int)-k-x.p:=Zw;clear af;go_wp2_with (at_builtin;refine B5 _ rfl (.tmp 86) (.tmp 91) 115 rfl 119 i0 _ 2 16 Tryz.underlying115 hi al am an rfl Z w.heap.size (.slice va c vc) c (A9 C) rfl (by exact F.o.other (fun g _ f=>Below.heap_alloc l _ g f)) ⟨l.heap.size,0,none⟩ 1 [I J ((len:Int)-k-x.p),I J y.2.p] rfl rfl (by exact B0a l _ _ _ rfl) (P2 _ _) (by unfold maxLen;omega) O (by have:=d.o.size;simp;omega) ?_;intro g' o' cap' w8 aj ak);go_roundw;case rel=>
          refine⟨q+1,O,Zn,?_,?_⟩
          ·rw[S.o,if_pos D.o,←List.append_assoc,←H.o,ai.o,List.length_append,J2,←K.o];exact aj
          ·have A:=d.o.alloc d.o.size (Obj.cells #[I J ((len:Int)-k-x.p),I J y.2.p] 119);have h1:Below w.heap.size w (l.alloc (Obj.cells #[I J ((len:Int)-k-x.p),I J y.2.p] 119)).drew:=⟨A.os,A.tape,A.output,A.size,A.block⟩;exact h1.trans (ak.below (fun g f=>(F.o.lt f).1) h1.size)
         case measure=>simp[RowKit.intOf];omega
      ·have f2:(y.2.h==(ref:Int))=false:=by rw[beq_eq_false_iff_ne];exact e2
       have D:Hd (inB ((ref:Int),a) x y=false):=by
        show _=_;cases h:inB ((ref:Int),a) x y
        ·rfl
        ·unfold inB X3 at h;simp only[Bool.and_eq_true]at h;have:=(Q4 _ _).1 h.2;simp only[Prod.mk.injEq]at this;exact absurd this.1.symm e2
       refine A5 32 (fun W=>W.cell? ⟨Y,4,none⟩=some (.slice (some ⟨gl,ol,none⟩) n lc)∧W.cell? ⟨gl,ol+q*4,none⟩=some (I J y.1)∧W.cell? ⟨z,ow+j*3,none⟩=some (I J x.h)∧W.cell? ⟨z,ow+j*3+2,none⟩=some (.bool x.b)∧W.cell? ⟨wr.heap.size,0,none⟩=some (I J y.2.h)∧W.cell? ⟨wr.heap.size,2,none⟩=some (.bool y.2.b)) U ⟨u.2.2.2.2.1,u.1,s.1,s.2.2,b0,b2⟩ (fun hH=>?_);refine A2 0 ?_;refine A2 1 ?_;refine A2 2 ?_;refine A2 3 ?_;refine A2 4 ?_;refine A2 5 ?_;refine A2 6 ?_;refine A2 7 ?_;refine A2 8 ?_;refine A2 9 ?_;refine A2 10 ?_;refine A2 11 ?_;refine A2 12 ?_;refine A2 13 ?_;refine A2 14 ?_;refine A2 15 ?_;refine A2 16 ?_;refine A2 17 ?_;refine A2 18 ?_;refine A2 19 ?_;refine A2 20 ?_;refine E3 21 ?_;refine E3 22 ?_;refine E3 23 ?_;refine E3 24 ?_;refine E3 25 ?_;refine E3 26 ?_;refine E3 27 ?_;refine E3 28 ?_;refine E3 29 ?_;refine E3 30 ?_;refine A2 31 ?_;refine J5 ?_;clear hH s u;go_wp2_with fail;go_roundw;case rel=>
        refine⟨q+1,O,Zn,?_,?_⟩
        ·rw[S.o,if_neg (by rw[D.o];decide),List.append_nil,←H.o,←K.o];exact F.o.other (fun g _ f=>rfl)
        ·exact⟨d.o.os,d.o.tape,d.o.output,d.o.size,d.o.block⟩
       case measure=>simp[RowKit.intOf];omega
     ·have f1:(y.1==x.h)=false:=by rw[beq_eq_false_iff_ne];exact fun e=>e1 e.symm
      have D:Hd (inB ((ref:Int),a) x y=false):=by
       show _=_;cases h:inB ((ref:Int),a) x y
       ·rfl
       ·unfold inB at h;simp only[Bool.and_eq_true]at h;exact absurd ((O2 _ _).1 h.1) e1
      refine A5 32 (fun W=>W.cell? ⟨Y,4,none⟩=some (.slice (some ⟨gl,ol,none⟩) n lc)∧W.cell? ⟨gl,ol+q*4,none⟩=some (I J y.1)∧W.cell? ⟨z,ow+j*3,none⟩=some (I J x.h)∧W.cell? ⟨z,ow+j*3+2,none⟩=some (.bool x.b)∧W.cell? ⟨wr.heap.size,0,none⟩=some (I J y.2.h)∧W.cell? ⟨wr.heap.size,2,none⟩=some (.bool y.2.b)) U ⟨u.2.2.2.2.1,u.1,s.1,s.2.2,b0,b2⟩ (fun hH=>?_);refine A2 0 ?_;refine A2 1 ?_;refine A2 2 ?_;refine A2 3 ?_;refine A2 4 ?_;refine A2 5 ?_;refine A2 6 ?_;refine A2 7 ?_;refine A2 8 ?_;refine A2 9 ?_;refine A2 10 ?_;refine A2 11 ?_;refine A2 12 ?_;refine A2 13 ?_;refine A2 14 ?_;refine E3 15 ?_;refine E3 16 ?_;refine E3 17 ?_;refine E3 18 ?_;refine A2 19 ?_;refine A2 20 ?_;refine E3 21 ?_;refine E3 22 ?_;refine E3 23 ?_;refine E3 24 ?_;refine E3 25 ?_;refine E3 26 ?_;refine E3 27 ?_;refine E3 28 ?_;refine E3 29 ?_;refine E3 30 ?_;refine A2 31 ?_;refine J5 ?_;clear hH s u;go_wp2_with fail;go_roundw;case rel=>
       refine⟨q+1,O,Zn,?_,?_⟩
       ·rw[S.o,if_neg (by rw[D.o];decide),List.append_nil,←H.o,←K.o];exact F.o.other (fun g _ f=>rfl)
       ·exact⟨d.o.os,d.o.tape,d.o.output,d.o.size,d.o.block⟩
      case measure=>simp[RowKit.intOf];omega
    ·have aK:q=n:=O;have aL:Hd (C=anL len k (N6 L) ((ref:Int),a) (ws.take (j+1))):=by
      show _=_;rw[H.o,au.o,aK,X.o,List.take_length]
     go_wp2_with fail;go_roundw;case rel=>
      refine⟨j+1,O,Zn,?_,E.o⟩;rw[←aL.o,←K.o];exact ax.o
     case measure=>simp[RowKit.intOf];omega
  ·have aM:j=m:=O;subst P;go_wp2_with fail;go_ret;refine⟨_,rfl,E.o,?_⟩;have e:anL len k (N6 L) ((ref:Int),a) (ws.take j)=anL len k (N6 L) ((ref:Int),a) ws:=by rw[aM,HM.o,List.take_length]
   rw[←e];exact N.o
end
end Mn
end Go.Proofs.YtilcmkiihefkkaaGreatDoor
