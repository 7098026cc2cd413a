import Derived.Test.YtilcmkiihefkkaaGreatDoorJl6
import Derived.Test.YtilcmkiihefkkaaGreatDoorJl11
import Derived.Test.YtilcmkiihefkkaaGreatDoorJl20
set_option linter.unusedVariables false
set_option linter.unusedSimpArgs false
set_option maxRecDepth 1000000
set_option maxHeartbeats 64000000
open Go.Value renaming int→I
open Go.IntKind renaming i64→J
namespace Go.Proofs.YtilcmkiihefkkaaGreatDoor
section
open Go.RowKit Go.Shelf Go.Lib
theorem B15 (base B k x:Nat)(f:Nat→C3)(F:List Nat)(v1 vr M v0:Value)(w:World)(hk:k≤100000)(hx:x<5)(aC:base≤B)
 (hc:0≤(f k).m∧(f k).m≤2000000000∧0≤(f k).i∧(f k).i≤2000000000∧0≤(f k).d∧(f k).d≤2000000000)(aD:av (f k) 2≤2000000000∧0≤av (f k) 2)
 (C:w.heap[B]?=some (.cells #[v1,vr,M] 222 (0,0)))
 (h1:A3 w base 3 1 vr k (G2 F))(V:A3 w base 217 1 M 1 [v0])(X:A3 w base 219 3 v0 (k+1) (N2 f (k+1))) :
 Calls Tryz.prog 81 #[.pointer (some ⟨B,0,none⟩),I J k,I J x] w fun e w'=>e=.returned (.tuple #[])∧∃aj ak,w'.heap[B]?=some (.cells #[v1,aj,M] 222 (0,0))∧
  A3 w' base 3 1 aj (k+1) (G2 (F++[x]))∧A3 w' base 217 1 M 1 [ak]∧A3 w' base 219 3 ak (k+2) (N2 f (k+1)++B0Z ⟨1048576,1048576,av (f k) 2+2⟩)∧Below base w w':=by
 obtain⟨i3,aE,aF,aG,aH⟩:=info_parts Tryz.info3;obtain⟨ic,aI,aJ,aK,aL⟩:=info_parts Tryz.infoCell;obtain⟨Y,cr,rfl⟩:=h1.shape;obtain⟨c,ow,q,rfl,aM,aY⟩:=V.addr O;obtain⟨g0,o0,c0,rfl,aZ,ba⟩:=X.addr O;have aN:=lt_of_block C;have HB:=A4 C;have H1:=A4 h1;have H2:=A4 V;have H3:=A4 X;have b1:w.cell? ⟨B,1,none⟩=some (.slice Y k cr):=A1 C rfl;have bf:w.frozen? ⟨B,1,none⟩=false:=frozen_of_row _ _ _ _ _ C;have aO:base≤w.heap.size:=O;clear C h1 V X;go_enter Tryz.func81,Tryz.ntmps81;go_wp2_with (at_builtin;go_must (refine B6 _ rfl (.tmp 10) (.tmp 12) 56 rfl 3 i3 _ 1 8 Tryz.underlying56 aE aF aG aH rfl Z base (.slice Y k cr) k (G2 F) rfl (by exact H1.o.alloc _) ⟨w.heap.size,0,none⟩ 1 [I J x] rfl rfl (by exact P8 w [I J x] 3 _ rfl) (I9 _ _) (by unfold maxLen;omega) O Zo ?_;intro g' o' cap' w2 N D;have P:w2.heap[B]?=some (.cells #[v1,.slice Y k cr,.slice (some ⟨c,ow,none⟩) 1 q] 222 (0,0)):=(D.other B Zo (H1.o.tag Z HB.o)).trans ((Below.heap_alloc _ _ _ aN).trans HB.o);have Q:Hd _:=P;have q1:=A1 P (i:=1) rfl;have qf:w2.frozen? ⟨B,1,none⟩=false:=frozen_of_row w2 _ _ _ _ P;clear P));obtain⟨h,u⟩:=A8 (w2.setCell ⟨B,1,none⟩ (.slice (some ⟨g',o',none⟩) (k+1) cap'));have v:Hd (E1 w2 h B (.cells #[v1,.slice (some ⟨g',o',none⟩) (k+1) cap',.slice (some ⟨c,ow,none⟩) 1 q] 222 (0,0))):=by rw[u];exact E1.of_setCell (i:=1) _ Q.o
 have hE:G2 F++[I J x]=G2 (F++[x]):=by simp[G2]
 rw[hE]at N;have aa:=H1.o.alloc (.cells #[I J x] 3);have aP:Hd (A3 h base 3 1 (.slice (some ⟨g',o',none⟩) (k+1) cap') (k+1) (G2 (F++[x]))):=by rw[u];exact N.setOther _ (N.tag Z Q.o)
 have ab:=(H2.o.alloc (.cells #[I J x] 3)).app aa Z D;have ac:=(H3.o.alloc (.cells #[I J x] 3)).app aa Z D;have E:A3 h base 217 1 (.slice (some ⟨c,ow,none⟩) 1 q) 1 [.slice (some ⟨g0,o0,none⟩) (k+1) c0]:=by rw[u];exact ab.setOther _ (ab.tag Z Q.o)
 have R:A3 h base 219 3 (.slice (some ⟨g0,o0,none⟩) (k+1) c0) (k+1) (N2 f (k+1)):=by rw[u];exact ac.setOther _ (ac.tag Z Q.o)
 have am:Hd (Below base w h):=by
  have a:=D.below (base:=base) (fun g hg=>(H1.o.lt hg).1) Zo;exact((((Below.refl base w).alloc aO _).trans a).trans (v.o.below aC))
 have aQ:base≤h.heap.size:=by have:=am.o.size;omega
 have an:=A4 E;have ad:=A4 R;have c2:h.cell? ⟨B,2,none⟩=some (.slice (some ⟨c,ow,none⟩) 1 q):=A1 v.o.here rfl;have ae:=E.cell (j:=0) rfl;obtain⟨d0,d1,d2⟩:=R.cel k O;have ao:c<h.heap.size:=(E.lt rfl).2;have af:B<h.heap.size:=lt_of_block v.o.here;have y:g0<h.heap.size:=(R.lt rfl).2;simp only[Nat.add_zero]at ae;have bb:h.frozen? ⟨c,ow,none⟩=false:=E.frozen _;have G:=fun W=>W5 (f k) 2 O W hc;rw[←u];obtain⟨a2,S⟩:=A8 (av (f k) 2);obtain⟨n2,ap⟩:=A8 (nx (f k) 2);rw[←S,←ap]at G;rw[←S]at aD;have aR:=A4 S;obtain⟨fm,ag⟩:=A8 ((f k).m);obtain⟨fi,ah⟩:=A8 ((f k).i);obtain⟨fd,ai⟩:=A8 ((f k).d);rw[←ag]at d0 G;rw[←ah]at d1 G;rw[←ai]at d2 G;have aS:=A4 ag;have aT:=A4 ah;have aU:=A4 ai;clear u ab ac E R D N aa q1 qf b1 bf hc hE S ap ag ah ai;have bc:(k:Int)<k+1:=O;have bd:IntKind.i64.wrap (a2+2)=a2+2:=Zw;have be:∀W,(Instr.field 224 (.agg #[I J (n2:Nat),I J a2]) 1).run Tryz.prog W=.ok (I J a2) W:=fun _=>U;have aV:¬c=B:=fun he=>absurd rfl (he▸an.o.tag Z v.o.here);refine A5 26 (fun w'=>w'.cell? ⟨B,2,none⟩=some (.slice (some ⟨c,ow,none⟩) 1 q)∧w'.cell? ⟨c,ow,none⟩=some (.slice (some ⟨g0,o0,none⟩) (k+1) c0)∧w'.cell? ⟨g0,o0+k*3,none⟩=some (I J fm)∧w'.cell? ⟨g0,o0+k*3+1,none⟩=some (I J fi)∧w'.cell? ⟨g0,o0+k*3+2,none⟩=some (I J fd)) U ⟨c2,ae,d0,d1,d2⟩ (fun hH=>?_);refine A2 0 ?_;refine A2 1 ?_;refine A2 2 ?_;refine A2 3 ?_;refine A2 4 ?_;refine A2 5 ?_;refine A2 6 ?_;refine A2 7 ?_;refine A2 8 ?_;refine A2 9 ?_;refine A2 10 ?_;refine A2 11 ?_;refine A2 12 ?_;refine A2 13 ?_;refine A2 14 ?_;refine A2 15 ?_;refine A2 16 ?_;refine A2 17 ?_;refine A2 18 ?_;refine wpS 19 fun K l=>?_;go_simp;go_at_call 110;refine(G _).mono ?_;rintro e n ⟨rfl,z⟩;have r:Below h.heap.size h n:=⟨z.os,z.tape,z.output,z.size,z.block⟩;have A:=A4 r;have bg:=r.size;have e0:=(r.cell (p:=⟨B,2,none⟩) af).trans c2;have e1:=(r.cell (p:=⟨c,ow,none⟩) ao).trans ae;have e2:=(r.cell (p:=⟨g0,o0+k*3,none⟩) y).trans d0;have e3:=(r.cell (p:=⟨g0,o0+k*3+1,none⟩) y).trans d1;have e4:=(r.cell (p:=⟨g0,o0+k*3+2,none⟩) y).trans d2;clear r z hH;have hH:=And.intro e0 (And.intro e1 (And.intro e2 (And.intro e3 e4)));refine F7 l hH ?_;clear l K;refine A2 20 ?_;refine A2 21 ?_;refine A2 22 ?_;refine wpS 23 fun K l=>?_;go_simp;have al:∀(ob:Obj) (b i:Nat),b<h.heap.size→(n.alloc ob).cell? ⟨b,i,none⟩=n.cell? ⟨b,i,none⟩:=fun ob b i hb=>World.cell?_of_block (Below.heap_alloc n ob b O);have hA:=fun ob=>And.intro ((al ob B 2 af).trans e0) (And.intro ((al ob c ow ao).trans e1) (And.intro ((al ob g0 (o0+k*3) y).trans e2) (And.intro ((al ob g0 (o0+k*3+1) y).trans e3) ((al ob g0 (o0+k*3+2) y).trans e4))));refine F7 l (hA _) ?_;clear l K hH al;refine wpS 24 fun K l=>?_;refine A8R rfl (.tmp 25) (.tmp 39) 217 rfl 219 ic _ 3 24 Tryz.underlying217 aI aJ aK aL rfl Z base (.slice (some ⟨g0,o0,none⟩) (k+1) c0) (k+1) (N2 f (k+1)) (by simp[Act.eval]) (by exact(ad.o.other (fun g _ s=>A.o.block g s)).alloc _) ⟨n.heap.size,0,none⟩ 1 [I J 1048576,I J 1048576,I J (a2+2)] (by simp[Act.eval]) rfl (by exact P8 n [I J 1048576,I J 1048576,I J (a2+2)] 219 _ rfl) (A6e _ _ _) (by unfold maxLen;omega) O Zo ?_;intro g9 o9 aW t aq H au;have aw:A3 n base 217 1 (.slice (some ⟨c,ow,none⟩) 1 q) 1 [.slice (some ⟨g0,o0,none⟩) (k+1) c0]:=an.o.other (fun g _ s=>A.o.block g s);have ax:A3 n base 3 1 (.slice (some ⟨g',o',none⟩) (k+1) cap') (k+1) (G2 (F++[x])):=aP.o.other (fun g _ s=>A.o.block g s);have T:A3 n base 219 3 (.slice (some ⟨g0,o0,none⟩) (k+1) c0) (k+1) (N2 f (k+1)):=ad.o.other (fun g _ s=>A.o.block g s);have L:Hd (A3 t base 217 1 (.slice (some ⟨c,ow,none⟩) 1 q) 1 [.slice (some ⟨g0,o0,none⟩) (k+1) c0]):=(aw.alloc _).app (T.alloc _) Z H;have ay:Hd (A3 t base 3 1 (.slice (some ⟨g',o',none⟩) (k+1) cap') (k+1) (G2 (F++[x]))):=(ax.alloc _).app (T.alloc _) Z H;have az:Hd (t.heap[B]?=some (.cells #[v1,.slice (some ⟨g',o',none⟩) (k+1) cap',.slice (some ⟨c,ow,none⟩) 1 q] 222 (0,0))):=(H.other B Zo (ad.o.tag Z v.o.here)).trans ((Below.heap_alloc _ _ _ O).trans ((A.o.block B af).trans v.o.here));have aX:Hd (Below base w t):=(am.o.trans (A.o.mono aQ)).trans (((Below.refl base n).alloc O _).trans (H.below (fun g hg=>(T.lt hg).1) Zo));obtain⟨u0,u1,u2⟩:=au.cel k O;have y6:t.cell? ⟨B,2,none⟩=some (.slice (some ⟨c,ow,none⟩) 1 q):=A1 az.o rfl;have r6:=L.o.cell (j:=0) rfl;have f6:t.frozen? ⟨c,ow,none⟩=false:=L.o.frozen _;simp only[Nat.add_zero]at r6;have aA:=A4 aq;clear aw ax T aq au H hA e0 e1 e2 e3 e4;rw[←aS.o]at u0;rw[←aT.o]at u1;rw[←aU.o]at u2;have hH:=And.intro y6 (And.intro r6 (And.intro u0 (And.intro u1 u2)));refine F7 l hH ?_;clear l K;refine A2 25 ?_;refine C1 (i:=26) U rfl U U (fun K l=>?_);go_simp;refine l.out _ _ ?_;clear l K hH;try simp only[Act.put,zA0,zZ0,zS0]
 go_end0;have aB:=L.o.set 0 (.slice (some ⟨g9,o9,none⟩) (k+1+1) aW) Zs;simp only[Nat.add_zero,List.set_cons_zero]at aB;refine⟨rfl,_,_,(heap_setCell_other t _ B _ (Ne.symm aV)).trans az.o,ay.o.setOther _ (fun he=>L.o.tagNe ay.o Z he),aB,?_,aX.o.setCell (p:=⟨c,ow,none⟩) aM _⟩;have:B0Z ⟨1048576,1048576,av (f k) 2+2⟩=[I J 1048576,I J 1048576,I J (a2+2)]:=by rw[←aR.o];rfl
 rw[this];exact aA.o.setOther _ (fun he=>L.o.tagNe aA.o Z he)
def prC (x y:Nat):Int:=if x=y∧x≠4 then 0 else 4
theorem A2j (x y:Nat)(w:World):Calls Tryz.prog 112 #[I J x,I J y] w fun e w'=>e=.returned (.bool (decide (x=y∧x≠4)))∧w'=w:=by
 go_enter Tryz.func112,Tryz.ntmps112;by_cases h1:x=y
 ·by_cases b:x=4
  ·subst h1;subst b;go_wp2;go_ret;exact⟨rfl,rfl⟩
  ·have a:¬((x:Int)=4):=O;subst h1;go_wp2;go_ret;refine⟨?_,rfl⟩;simp[b,a]
 ·have a:¬((x:Int)=(y:Int)):=O;go_wp2;go_ret;refine⟨?_,rfl⟩;simp[h1,a]
theorem A8Z (x y:Nat)(w:World):Calls Tryz.prog 111 #[I J x,I J y] w fun e w'=>e=.returned (I J (prC x y))∧w'=w:=by
 go_enter Tryz.func111,Tryz.ntmps111;by_cases h:x=y∧x≠4
 ·have e:prC x y=0:=by unfold prC;rw[if_pos h]
  have a:decide (x=y∧x≠4)=true:=decide_eq_true h;rw[e];have c:=fun W=>A2j x y W;rw[a]at c;clear a e h;go_wp2_with (go_at_call 112;refine(c _).mono ?_;rintro e w' ⟨rfl,rfl⟩);go_ret;exact⟨rfl,rfl⟩
 ·have e:prC x y=4:=by unfold prC;rw[if_neg h]
  have a:decide (x=y∧x≠4)=false:=decide_eq_false h;rw[e];have c:=fun W=>A2j x y W;rw[a]at c;clear a e h;go_wp2_with (go_at_call 112;refine(c _).mono ?_;rintro e w' ⟨rfl,rfl⟩);go_ret;exact⟨rfl,rfl⟩
def okB (c:C3):Prop:=0≤c.m∧c.m≤1500000000∧0≤c.i∧c.i≤1500000000∧0≤c.d∧c.d≤1500000000
theorem okB.big {c:C3}(h:okB c):0≤c.m∧c.m≤2000000000∧0≤c.i∧c.i≤2000000000∧0≤c.d∧c.d≤2000000000:=by
 unfold okB at h;omega
theorem okB.av {c:C3}(h:okB c)(x:Nat):0≤av c x∧av c x≤1500000004:=by
 unfold okB at h;rcases x with _|_|x<;>simp only[YtilcmkiihefkkaaGreatDoor.av,aM,aI,aD]<;>omega
def A0w (w:World)(g n:Nat)(h:Nat→C3)(j:Nat):Prop:=
 ∃cur:Array Value,w.heap[g]?=some (.cells cur 219 (0,0))∧cur.size=n*3∧∀t,t<j→cur[t*3]?=some (I J (h t).m)∧cur[t*3+1]?=some (I J (h t).i)∧cur[t*3+2]?=some (I J (h t).d)
theorem A0w.any {w:World}{g n:Nat}{h:Nat→C3}{j:Nat}(a:A0w w g n h j)(i:Nat)(hi:i<n*3):(∃y,w.cell? ⟨g,i,none⟩=some y)∧w.frozen? ⟨g,i,none⟩=false:=by
 obtain⟨cur,h1,b,_⟩:=a;exact⟨⟨_,A1 h1 (Array.getElem?_eq_getElem O)⟩,frozen_of_row _ _ _ _ _ h1⟩
theorem A0w.cel {w:World}{g n:Nat}{h:Nat→C3}{j:Nat}(b:A0w w g n h j)(t:Nat)(ht:t<j):w.cell? ⟨g,t*3,none⟩=some (I J (h t).m)∧w.cell? ⟨g,t*3+1,none⟩=some (I J (h t).i)∧w.cell? ⟨g,t*3+2,none⟩=some (I J (h t).d):=by
 obtain⟨cur,h1,c,a⟩:=b;exact⟨A1 h1 (a t ht).1,A1 h1 (a t ht).2.1,A1 h1 (a t ht).2.2⟩
theorem A0w.other {w w':World}{g n:Nat}{h:Nat→C3}{j:Nat}(a:A0w w g n h j)(he:w'.heap[g]?=w.heap[g]?):A0w w' g n h j:=by
 obtain⟨cur,h1,b⟩:=a;exact⟨cur,he.trans h1,b⟩
theorem A0w.set {w:World}{g n:Nat}{h:Nat→C3}{j:Nat}(d:A0w w g n h j)(p:j<n)(a b c:Int)(f:h j=⟨a,b,c⟩) :
 A0w (((w.setCell ⟨g,j*3,none⟩ (I J a)).setCell ⟨g,j*3+1,none⟩ (I J b)).setCell ⟨g,j*3+2,none⟩ (I J c)) g n h (j+1):=by
 obtain⟨cur,h1,k,l⟩:=d;have u:=((E1.of_setCell (i:=j*3) (I J a) h1).setCell (i:=j*3+1) (I J b)).setCell (i:=j*3+2) (I J c);refine⟨_,u.here,by simpa using k,fun t ht=>?_⟩;by_cases he:t=j
 ·subst he;rw[f];refine⟨?_,?_,?_⟩
  ·rw[Array.getElem?_setIfInBounds_ne O,Array.getElem?_setIfInBounds_ne O,Array.getElem?_setIfInBounds_self_of_lt O]
  ·rw[Array.getElem?_setIfInBounds_ne O,Array.getElem?_setIfInBounds_self_of_lt Zo]
  ·rw[Array.getElem?_setIfInBounds_self_of_lt Zo]
 ·obtain⟨e1,m,o⟩:=l t O;refine⟨?_,?_,?_⟩
  ·rw[Array.getElem?_setIfInBounds_ne O,Array.getElem?_setIfInBounds_ne O,Array.getElem?_setIfInBounds_ne O];exact e1
  ·rw[Array.getElem?_setIfInBounds_ne O,Array.getElem?_setIfInBounds_ne O,Array.getElem?_setIfInBounds_ne O];exact m
  ·rw[Array.getElem?_setIfInBounds_ne O,Array.getElem?_setIfInBounds_ne O,Array.getElem?_setIfInBounds_ne O];exact o
theorem A0w.own {w:World}{g n base:Nat}{h:Nat→C3}(b:A0w w g n h n)(c:base≤g)(d:n≤maxLen):A3 w base 219 3 (.slice (some ⟨g,0,none⟩) n n) n (N2 h n):=by
 obtain⟨cur,h1,l,f⟩:=b;refine⟨J7 h n,Or.inr ⟨g,0,n,cur,rfl,c,h1,Nat.le_refl _,d,O,fun j u a=>?_⟩⟩;have m:=J7 h n;have o:j<n*3:=by
  rcases Nat.lt_or_ge j (n*3) with h|h
  ·exact h
  ·rw[List.getElem?_eq_none O]at a;exact absurd a Zs
 obtain⟨g1,g2,g3⟩:=A06 h n (j/3) O;obtain⟨e1,i,k⟩:=f (j/3) O;rw[Nat.zero_add];rcases (show j=j/3*3∨j=j/3*3+1∨j=j/3*3+2 by omega) with he|he|he
 ·rw[he]at a⊢;rw[g1]at a;rw[←a];exact e1
 ·rw[he]at a⊢;rw[g2]at a;rw[←a];exact i
 ·rw[he]at a⊢;rw[g3]at a;rw[←a];exact k
theorem B2T (base B k x m:Nat)(f h:Nat→C3)(F R:List Nat)(vr Y vw va:Value)(VS:List Value)(w:World)(hm:F.length=m)(cG:m≤600)(hk:k≤300)(aZ:base≤B)
 (hh:h=B3p 1048576 (fun j=>prC x (F.getD j 9)) f)(ba:∀t,t≤m→okB (f t))(bb:∀t,t≤m→okB (h t))
 (hB:w.heap[B]?=some (.cells #[vr,Y,vw] 222 (0,0)))
 (h1:A3 w base 3 1 vr k (G2 R))(h2:A3 w base 3 1 Y m (G2 F))(h3:A3 w base 217 1 vw (k+1) VS)(hV:VS[k]?=some va)(h4:A3 w base 219 3 va (m+1) (N2 f (m+1)))
 (hd:∀g,vr.ownBlock=some g→Y.ownBlock≠some g) :
 Calls Tryz.prog 82 #[.pointer (some ⟨B,0,none⟩),I J k,I J x] w fun e w'=>e=.returned (.tuple #[])∧∃aD bc vn,w'.heap[B]?=some (.cells #[aD,Y,bc] 222 (0,0))∧
  A3 w' base 3 1 aD (k+1) (G2 (R++[x]))∧A3 w' base 3 1 Y m (G2 F)∧A3 w' base 217 1 bc (k+2) (VS++[vn])∧A3 w' base 219 3 vn (m+1) (N2 h (m+1))∧
  (∀g,aD.ownBlock=some g→Y.ownBlock≠some g)∧(∀v n xs,A3 w base 219 3 v n xs→A3 w' base 219 3 v n xs)∧Below base w w':=by
 obtain⟨i3,bA,bB,bD,bE⟩:=info_parts Tryz.info3;obtain⟨ic,bF,bG,bH,bI⟩:=info_parts Tryz.infoCell;obtain⟨is,bJ,bK,bL,bM⟩:=info_parts Tryz.infoCells;obtain⟨ar,cr,rfl⟩:=h1.shape;obtain⟨af,E,rfl⟩:=h2.shape;obtain⟨L,ow,Q,rfl,cH,cI⟩:=h3.addr O;obtain⟨c,l,ca,rfl,cJ,cK⟩:=h4.addr O;have bN:=lt_of_block hB;have HB:=A4 hB;have H1:=A4 h1;have H2:=A4 h2;have H3:=A4 h3;have H4:=A4 h4;have HV:=A4 hV;have HD:=A4 hd;have HM:=A4 hm;have HH:=A4 hh;have aE:=A4 ba;have bO:=A4 bb;have b1:w.cell? ⟨B,0,none⟩=some (.slice ar k cr):=A1 hB rfl;have bf:w.frozen? ⟨B,0,none⟩=false:=frozen_of_row _ _ _ _ _ hB;have bR:base≤w.heap.size:=O;clear hB h1 h2 h3 h4 hV hd hm hh ba bb;go_enter Tryz.func82,Tryz.ntmps82;go_upto_region 1 with(at_builtin;go_must (refine B6 _ rfl (.tmp 14) (.tmp 16) 56 rfl 3 i3 _ 1 8 Tryz.underlying56 bA bB bD bE rfl Z base (.slice ar k cr) k (G2 R) rfl (by exact H1.o.alloc _) ⟨w.heap.size,0,none⟩ 1 [I J x] rfl rfl (by exact P8 w [I J x] 3 _ rfl) (I9 _ _) (by unfold maxLen;omega) O Zo ?_;intro g' o' cap' w2 ai T;have aj:w2.heap[B]?=some (.cells #[.slice ar k cr,.slice af m E,.slice (some ⟨L,ow,none⟩) (k+1) Q] 222 (0,0)):=(T.other B Zo (H1.o.tag Z HB.o)).trans ((Below.heap_alloc _ _ _ bN).trans HB.o);have ad:=A4 aj;have M:=A1 aj (i:=0) rfl;have qf:w2.frozen? ⟨B,0,none⟩=false:=frozen_of_row w2 _ _ _ _ aj;clear aj));obtain⟨d,A⟩:=A8 (w2.setCell ⟨B,0,none⟩ (.slice (some ⟨g',o',none⟩) (k+1) cap'));have HU:Hd (E1 w2 d B (.cells #[.slice (some ⟨g',o',none⟩) (k+1) cap',.slice af m E,.slice (some ⟨L,ow,none⟩) (k+1) Q] 222 (0,0))):=by rw[A];exact E1.of_setCell (i:=0) _ ad.o
 have hE:G2 R++[I J x]=G2 (R++[x]):=by simp[G2]
 rw[hE]at ai;have aF:=H1.o.alloc (.cells #[I J x] 3);have bT:Hd (A3 d base 3 1 (.slice (some ⟨g',o',none⟩) (k+1) cap') (k+1) (G2 (R++[x]))):=by rw[A];exact ai.setOther _ (ai.tag Z ad.o)
 have bd:Hd (∀v n xs,A3 w base 219 3 v n xs→A3 d base 219 3 v n xs):=by
  intro v n xs V;have h:=(V.alloc (.cells #[I J x] 3)).app aF Z T;rw[A];exact h.setOther _ (h.tag Z ad.o)
 have aG:=(H3.o.alloc (.cells #[I J x] 3)).app aF Z T;have aH:Hd (A3 d base 217 1 (.slice (some ⟨L,ow,none⟩) (k+1) Q) (k+1) VS):=by rw[A];exact aG.setOther _ (aG.tag Z ad.o)
 have ak:Hd (A3 d base 219 3 (.slice (some ⟨c,l,none⟩) (m+1) ca) (m+1) (N2 f (m+1))):=bd.o _ _ _ H4.o;have bU:Hd (∀g,(Value.slice (some ⟨g',o',none⟩) (k+1) cap').ownBlock=some g→(Value.slice af m E).ownBlock≠some g):=by
  intro g N he;have bV:g'=g:=by simpa[Value.ownBlock] using N
  subst bV;have hl:=(H2.o.lt he).2;rcases T.new with h|h
  ·exact HD.o g' h he
  ·have:w.heap.size+1≤g':=by simpa using h
   omega
 have aI:A3 w2 base 3 1 (.slice af m E) m (G2 F):=(H2.o.alloc (.cells #[I J x] 3)).other (fun g N D=>T.other g D (fun he=>HD.o g he N));have aJ:Hd (A3 d base 3 1 (.slice af m E) m (G2 F)):=by rw[A];exact aI.setOther _ (aI.tag Z ad.o)
 have be:Hd (Below base w d):=by
  have a:=T.below (base:=base) (fun g N=>(H1.o.lt N).1) Zo;exact((((Below.refl base w).alloc bR _).trans a).trans (HU.o.below aZ))
 have cL:base≤d.heap.size:=by have:=be.o.size;omega
 have c1:d.cell? ⟨B,1,none⟩=some (.slice af m E):=A1 HU.o.here rfl;have c2:d.cell? ⟨B,2,none⟩=some (.slice (some ⟨L,ow,none⟩) (k+1) Q):=A1 HU.o.here rfl;have bW:=aH.o.cell HV.o;have bX:L<d.heap.size:=(aH.o.lt rfl).2;have am:B<d.heap.size:=lt_of_block HU.o.here;have G:c<d.heap.size:=(ak.o.lt rfl).2;obtain⟨f0,aK⟩:=A8 (f 0);have an:=aE.o 0 O;obtain⟨d0,d1,d2⟩:=ak.o.cel 0 O;rw[←aK]at d0 d1 d2 an;simp only[Nat.zero_mul,Nat.add_zero]at d0 d1 d2;have cA:=fun W=>W5 f0 1 O W an.big;have bg:=an.av 1;obtain⟨S,ao⟩:∃a,a=av f0 1:=⟨_,rfl⟩;obtain⟨n1,bh⟩:=A8 (nx f0 1);rw[←ao,←bh]at cA;rw[←ao]at bg;have bi:Hd (S=av (f 0) 1):=by rw[ao,aK];exact rfl
 obtain⟨fm,fi,fd⟩:=f0;simp only at d0 d1 d2 cA;rw[←A];have bY:∀W,(Instr.field 224 (.agg #[I J (n1:Nat),I J S]) 1).run Tryz.prog W=.ok (I J S) W:=fun _=>U;obtain⟨aa,hZ,bZ⟩:∃aa:Array Value,aa.size=(m+1)*3∧∀W:World,(Instr.makeSlice 217 (I J ((m:Int)+1)) (I J ((m:Int)+1))).run Tryz.prog W=.ok (.slice (some ⟨W.heap.size,0,none⟩) (m+1) (m+1)) (W.alloc (.cells aa 219)):=by
  refine⟨madeCells (Value.agg #[I J 0,I J 0,I J 0]).cells ((m+1)*3),by rw[size_madeCells],fun W=>?_⟩;have e:(m:Int)+1=((m+1:Nat):Int):=O;rw[e];have:=run_make (P:=Tryz.prog) W 217 219 ic _ Tryz.underlying217 bF bG .i64 .i64 ((m+1:Nat):Int) ((m+1:Nat):Int) O O (by rw[bI];omega) O;rw[bH]at this;simpa using this
 have al:∀(ob:Obj) (b i:Nat),b<d.heap.size→(d.alloc ob).cell? ⟨b,i,none⟩=d.cell? ⟨b,i,none⟩:=fun ob b i C=>World.cell?_of_block (Below.heap_alloc d ob b C);have cb:∀ob,(d.alloc ob).cell? ⟨c,l,none⟩=some (I J fm):=fun ob=>(al ob c l G).trans d0;have cc:∀ob,(d.alloc ob).cell? ⟨c,l+1,none⟩=some (I J fi):=fun ob=>(al ob c (l+1) G).trans d1;have cd:∀ob,(d.alloc ob).cell? ⟨c,l+2,none⟩=some (I J fd):=fun ob=>(al ob c (l+2) G).trans d2;have bj:Hd (∀X,Below (d.alloc (.cells aa 219)).heap.size (d.alloc (.cells aa 219)) X→A0w X d.heap.size (m+1) h 0∧Below d.heap.size d X):=by
  intro X ae;refine⟨⟨aa,(ae.block _ Zs).trans (heap_alloc_new d _),hZ,fun t ht=>absurd ht O⟩,?_⟩;exact((Below.refl _ d).alloc (Nat.le_refl _) _).trans (ae.mono Zs)
 clear A aG aI T ai aF M qf b1 bf hE ao bh aK al an d0 d1 d2;have cM:(k:Int)<k+1:=O;have cN:(0:Int)<(m:Int)+1:=O;have ce:IntKind.i64.wrap (S+2)=S+2:=Zw;go_upto_region 4 with(go_at_call 110;refine(cA _).mono ?_;rintro e X ⟨rfl,ae⟩;obtain⟨ag,bk⟩:=bj.o X ae;have ap:=A4 ag;have aL:=A4 bk;obtain⟨⟨y0,r0⟩,z0⟩:=ag.any 0 O;obtain⟨⟨y1,r1⟩,z1⟩:=ag.any 1 O;obtain⟨⟨y2,r2⟩,z2⟩:=ag.any 2 O;clear ag bk ae);obtain⟨q,aM⟩:=A8 d.heap.size;rw[←aM]at ap aL bX am G⊢;obtain⟨w6,aq⟩:=A8 (((X.setCell ⟨q,0,none⟩ (I J 1048576)).setCell ⟨q,1,none⟩ (I J (S+2))).setCell ⟨q,2,none⟩ (I J 1048576));have bl:Hd (A0w w6 q (m+1) h 1):=by
  have e:h 0=⟨1048576,S+2,1048576⟩:=by rw[HH.o,bi.o];rfl
  have r:=ap.o.set O 1048576 (S+2) 1048576 e;simp only[Nat.zero_mul,Nat.zero_add]at r;rw[aq];exact r
 have aN:Hd (Below q d w6):=by
  rw[aq];exact((aL.o.setCell (p:=⟨q,0,none⟩) (Nat.le_refl _) _).setCell (p:=⟨q,1,none⟩) (Nat.le_refl _) _).setCell (p:=⟨q,2,none⟩) (Nat.le_refl _) _
 have k1:w6.cell? ⟨B,1,none⟩=some (.slice af m E):=(aN.o.cell (p:=⟨B,1,none⟩) am).trans c1;have aO:=A4 aM;have cg:=A4 HU.o.here;have bm:base≤q:=O;rw[←aq];clear aq aM ap aL y0 r0 z0 y1 r1 z1 y2 r2 z2 bZ bj cb cc cd cA bY bW ce bi bg HU;go_wp2_with fail;go_loopw [44] (fun iv wx=>∃j:Nat,j≤m∧iv=I J j∧A0w wx q (m+1) h (j+1)∧Below q d wx) (fun iv _=>m-(intOf iv).toNat);case atStart=>exact⟨0,Nat.zero_le _,rfl,bl.o,aN.o⟩
 case round=>
  clear bl aN k1;obtain⟨j,hj,rfl,H,s⟩:=hrel;by_cases D:j<m
  ·obtain⟨gf,of,ch,bn,cO,bo⟩:=aJ.o.addr O;rw[←aO.o]at bo;have bp:(G2 F)[j]?=some (I J (F.getD j 9:Nat)):=by
    have:j<F.length:=by rw[HM.o];exact D
    simp[G2,this]
   have ci:af=some ⟨gf,of,none⟩∧E=ch:=by simpa using bn
   obtain⟨rfl,rfl⟩:=ci;have cj:=aJ.o.cell bp;obtain⟨y,hy⟩:=A8 (F.getD j 9);rw[←hy]at cj;have HY:=A4 hy;obtain⟨p0,p1,p2⟩:=ak.o.cel j O;obtain⟨q0,M,q2⟩:=ak.o.cel (j+1) O;obtain⟨s0,s1,s2⟩:=H.cel j O;have au:=aE.o j O;have aw:=aE.o (j+1) O;have ax:=bO.o j O;obtain⟨fp,aR⟩:=A8 (f j);obtain⟨fq,aT⟩:=A8 (f (j+1));obtain⟨fs,aU⟩:=A8 (h j);rw[←aR]at p0 p1 p2 au;rw[←aT]at q0 M q2 aw;rw[←aU]at s0 s1 s2 ax;have ck:=A4 aR;have cl:=A4 aT;have cm:=A4 aU;rw[←s.cell (p:=⟨c,l+j*3,none⟩) G]at p0;rw[←s.cell (p:=⟨c,l+j*3+1,none⟩) G]at p1;rw[←s.cell (p:=⟨c,l+j*3+2,none⟩) G]at p2;rw[←s.cell (p:=⟨c,l+(j+1)*3,none⟩) G]at q0;rw[←s.cell (p:=⟨c,l+(j+1)*3+1,none⟩) G]at M;rw[←s.cell (p:=⟨c,l+(j+1)*3+2,none⟩) G]at q2;rw[←s.cell (p:=⟨gf,of+j,none⟩) bo]at cj;obtain⟨⟨t0,u0⟩,z0⟩:=H.any ((j+1)*3) O;obtain⟨⟨t1,u1⟩,z1⟩:=H.any ((j+1)*3+1) O;obtain⟨⟨t2,u2⟩,z2⟩:=H.any ((j+1)*3+2) O;have ap:=A4 H;have cn:=A4 s;have co:=s.size;have ay:q<wr.heap.size:=by
    obtain⟨cur,hc,_⟩:=H;exact lt_of_block hc
   have cR:(j:Int)<m:=O;have cT:(j:Int)<(m:Int)+1:=O;have cU:(j:Int)+1<(m:Int)+1:=O;have cV:((j:Int)+1).toNat=j+1:=O;have cW:(0:Int)≤(j:Int)+1:=O;have cX:IntKind.i64.wrap ((j:Int)+1)=(j:Int)+1:=Zw;have cp:Hd (∀W,Below wr.heap.size wr W→A0w W q (m+1) h (j+1)):=fun W C=>H.other (C.block q ay);have cP:=fun W=>W5 fp 0 O W au.big;have cQ:=fun W=>W5 fq 1 O W aw.big;have cS:=fun W=>W5 fs 2 O W ax.big;have bP:=au.av 0;have bQ:=aw.av 1;have bS:=ax.av 2;have cC:=fun W=>A8Z x y W;have bC:0≤prC x y∧prC x y≤4:=by unfold prC;split<;>omega
   obtain⟨aP,az⟩:=A8 (av fp 0);obtain⟨aQ,aA⟩:=A8 (av fq 1);obtain⟨aS,aB⟩:=A8 (av fs 2);obtain⟨nP,bq⟩:=A8 (nx fp 0);obtain⟨nQ,br⟩:=A8 (nx fq 1);obtain⟨nS,bs⟩:=A8 (nx fs 2);obtain⟨pc,aV⟩:=A8 (prC x y);rw[←az,←bq]at cP;rw[←aA,←br]at cQ;rw[←aB,←bs]at cS;rw[←aV]at cC bC;rw[←az]at bP;rw[←aA]at bQ;rw[←aB]at bS;have cq:Hd (h (j+1)=⟨aP+pc,aQ+2,aS+2⟩):=by
    show h (j+1)=⟨aP+pc,aQ+2,aS+2⟩;rw[az,aA,aB,aV,ck.o,cl.o,cm.o,HH.o,HY.o];rfl
   have fP:∀W,(Instr.field 224 (.agg #[I J (nP:Nat),I J aP]) 1).run Tryz.prog W=.ok (I J aP) W:=fun _=>U;have fQ:∀W,(Instr.field 224 (.agg #[I J (nQ:Nat),I J aQ]) 1).run Tryz.prog W=.ok (I J aQ) W:=fun _=>U;have fS:∀W,(Instr.field 224 (.agg #[I J (nS:Nat),I J aS]) 1).run Tryz.prog W=.ok (I J aS) W:=fun _=>U;have w1:IntKind.i64.wrap (aP+pc)=aP+pc:=Zw;have w2:IntKind.i64.wrap (aQ+2)=aQ+2:=Zw;have w4:IntKind.i64.wrap (aS+2)=aS+2:=Zw;clear hy aR aT aU H s bp bn az aA aB bq br bs aV au aw ax;obtain⟨pm,pi,pd⟩:=fp;obtain⟨qm,qi,qd⟩:=fq;obtain⟨sm,si,sd⟩:=fs;simp only at p0 p1 p2 q0 M q2 s0 s1 s2 cP cQ cS;go_wp2_with fail;refine A5 30 (fun W=>W.cell? ⟨c,l+j*3,none⟩=some (I J pm)∧W.cell? ⟨c,l+j*3+1,none⟩=some (I J pi)∧W.cell? ⟨c,l+j*3+2,none⟩=some (I J pd)∧W.cell? ⟨c,l+(j+1)*3,none⟩=some (I J qm)∧W.cell? ⟨c,l+(j+1)*3+1,none⟩=some (I J qi)∧W.cell? ⟨c,l+(j+1)*3+2,none⟩=some (I J qd)∧W.cell? ⟨q,j*3,none⟩=some (I J sm)∧W.cell? ⟨q,j*3+1,none⟩=some (I J si)∧W.cell? ⟨q,j*3+2,none⟩=some (I J sd)) U ⟨p0,p1,p2,q0,M,q2,s0,s1,s2⟩ (fun hH=>?_);refine A2 0 ?_;refine A2 1 ?_;refine A2 2 ?_;refine A2 3 ?_;refine A2 4 ?_;refine A2 5 ?_;refine A2 6 ?_;refine A2 9 ?_;refine A2 10 ?_;refine A2 13 ?_;refine A2 14 ?_;refine A2 15 ?_;refine A2 16 ?_;refine A2 17 ?_;refine A2 21 ?_;refine A2 22 ?_;refine A2 23 ?_;refine A2 24 ?_;have ab:c<wr.heap.size:=O;have HS:Hd (∀W,Below wr.heap.size wr W→W.cell? ⟨c,l+j*3,none⟩=some (I J pm)∧W.cell? ⟨c,l+j*3+1,none⟩=some (I J pi)∧W.cell? ⟨c,l+j*3+2,none⟩=some (I J pd)∧W.cell? ⟨c,l+(j+1)*3,none⟩=some (I J qm)∧W.cell? ⟨c,l+(j+1)*3+1,none⟩=some (I J qi)∧W.cell? ⟨c,l+(j+1)*3+2,none⟩=some (I J qd)∧W.cell? ⟨q,j*3,none⟩=some (I J sm)∧W.cell? ⟨q,j*3+1,none⟩=some (I J si)∧W.cell? ⟨q,j*3+2,none⟩=some (I J sd)):=fun W C=>⟨(C.cell (p:=⟨c,l+j*3,none⟩) ab).trans p0,(C.cell (p:=⟨c,l+j*3+1,none⟩) ab).trans p1,(C.cell (p:=⟨c,l+j*3+2,none⟩) ab).trans p2,(C.cell (p:=⟨c,l+(j+1)*3,none⟩) ab).trans q0,(C.cell (p:=⟨c,l+(j+1)*3+1,none⟩) ab).trans M,(C.cell (p:=⟨c,l+(j+1)*3+2,none⟩) ab).trans q2,(C.cell (p:=⟨q,j*3,none⟩) ay).trans s0,(C.cell (p:=⟨q,j*3+1,none⟩) ay).trans s1,(C.cell (p:=⟨q,j*3+2,none⟩) ay).trans s2⟩;clear p0 p1 p2 q0 M q2 s0 s1 s2 u0 u1 u2 z0 z1 z2;refine wpS 7 fun K z=>?_;go_simp;go_at_call 110;refine(cP _).mono ?_;rintro e w7 ⟨rfl,ac⟩;have B7:Below wr.heap.size wr w7:=⟨ac.os,ac.tape,ac.output,ac.size,ac.block⟩;clear hH ac;have hH:=HS.o w7 B7;refine F7 z hH ?_;clear z K;refine A2 8 ?_;refine wpS 11 fun K z=>?_;go_simp;go_at_call 111;refine(cC _).mono ?_;rintro e w8 ⟨rfl,rfl⟩;refine F7 z hH ?_;clear z K;refine A2 12 ?_;refine wpS 18 fun K z=>?_;go_simp;go_at_call 110;refine(cQ _).mono ?_;rintro e w9 ⟨rfl,bt⟩;have B9:Below wr.heap.size wr w9:=B7.trans (bt.mono B7.size);clear hH bt;have hH:=HS.o w9 B9;refine F7 z hH ?_;clear z K;refine A2 19 ?_;refine A2 20 ?_;refine wpS 25 fun K z=>?_;go_simp;go_at_call 110;refine(cS _).mono ?_;rintro e wA ⟨rfl,bu⟩;have BA:Below wr.heap.size wr wA:=B9.trans (bu.mono B9.size);clear hH bu;have hH:=HS.o wA BA;refine F7 z hH ?_;clear z K;refine A2 26 ?_;refine A2 27 ?_;refine A2 28 ?_;refine A2 29 ?_;have ah:=cp.o wA BA;obtain⟨⟨t0,u0⟩,z0⟩:=ah.any ((j+1)*3) O;obtain⟨⟨t1,u1⟩,z1⟩:=ah.any ((j+1)*3+1) O;obtain⟨⟨t2,u2⟩,z2⟩:=ah.any ((j+1)*3+2) O;have cs:=A4 ah;have ct:Hd (Below q d wA):=cn.o.trans (BA.mono O);clear ah BA B9 B7 hH;refine C1 (i:=30) U rfl U U (fun K z=>?_);go_simp;refine z.out _ _ ?_;clear z K;try simp only[Act.put,zA0,zZ0,zS0]
   go_wp2_with fail;go_roundw;case rel=>
    refine⟨j+1,O,Zn,?_,?_⟩
    ·exact cs.o.set O _ _ _ cq.o
    ·exact((ct.o.setCell (p:=⟨q,(j+1)*3,none⟩) (Nat.le_refl _) _).setCell (p:=⟨q,(j+1)*3+1,none⟩) (Nat.le_refl _) _).setCell (p:=⟨q,(j+1)*3+2,none⟩) (Nat.le_refl _) _
   case measure=>simp[intOf];omega
  ·have cu:j=m:=O;subst cu;have bv:=H.own (base:=base) bm (by unfold maxLen;omega);have co:=s.size;have A:∀g,g<d.heap.size→wr.heap[g]?=d.heap[g]?:=fun g N=>s.block g (by rw[aO.o];exact N);have hR:=bT.o.other (w':=wr) (fun g _ D=>A g D);have hF:=aJ.o.other (w':=wr) (fun g _ D=>A g D);have hW:=aH.o.other (w':=wr) (fun g _ D=>A g D);have HR:=A4 hR;have HF:=A4 hF;have HW:=A4 hW;have cv:=A4 bv;have cx:Hd (∀v n xs,A3 w base 219 3 v n xs→A3 wr base 219 3 v n xs):=fun v n xs V=>(bd.o v n xs V).other (fun g _ D=>A g D);have cy:Hd (Below base w wr):=be.o.trans (s.mono bm);have aW:Hd (wr.heap[B]?=some (.cells #[.slice (some ⟨g',o',none⟩) (k+1) cap',.slice af j E,.slice (some ⟨L,ow,none⟩) (k+1) Q] 222 (0,0))):=(s.block B am).trans cg.o;have x2:wr.cell? ⟨B,2,none⟩=some (.slice (some ⟨L,ow,none⟩) (k+1) Q):=A1 aW.o rfl;have cz:B<wr.heap.size:=by rw[aO.o]at am;omega
   have cB:base≤wr.heap.size:=O;clear bv A hR hF hW H s;go_wp2_with (at_builtin;go_must (refine B6 _ rfl (.tmp 84) (.tmp 86) 220 rfl 217 is _ 1 24 Tryz.underlying220 bJ bK bL bM rfl Z base (.slice (some ⟨L,ow,none⟩) (k+1) Q) (k+1) VS rfl (by exact HW.o.alloc _) ⟨wr.heap.size,0,none⟩ 1 [.slice (some ⟨q,0,none⟩) (j+1) (j+1)] rfl rfl (by exact P8 wr [.slice (some ⟨q,0,none⟩) (j+1) (j+1)] 217 _ rfl) (by intro u hu;simp only[List.mem_cons,List.not_mem_nil,or_false]at hu;subst hu;rfl) (by unfold maxLen;omega) O Zo ?_;intro g9 o9 bw w8 bx aX;have aC:w8.heap[B]?=some (.cells #[.slice (some ⟨g',o',none⟩) (k+1) cap',.slice af j E,.slice (some ⟨L,ow,none⟩) (k+1) Q] 222 (0,0)):=(aX.other B Zo (HW.o.tag Z aW.o)).trans ((Below.heap_alloc _ _ _ cz).trans aW.o);have aY:=A4 aC;have M:=A1 aC (i:=2) rfl;have qf:w8.frozen? ⟨B,2,none⟩=false:=frozen_of_row w8 _ _ _ _ aC;clear aC));go_end0;have hu:=E1.of_setCell (i:=2) (.slice (some ⟨g9,o9,none⟩) (k+1+1) bw) aY.o;have cD:=HW.o.alloc (.cells #[.slice (some ⟨q,0,none⟩) (j+1) (j+1)] 217);have fr:∀{e:TypeId} {size:Nat} {v:Value} {n:Nat} {xs:List Value},e≠217→e≠222→A3 wr base e size v n xs→A3 (w8.setCell ⟨B,2,none⟩ (.slice (some ⟨g9,o9,none⟩) (k+1+1) bw)) base e size v n xs:=by
    intro e size v n xs cE cF V;have bz:=(V.alloc (.cells #[.slice (some ⟨q,0,none⟩) (j+1) (j+1)] 217)).app cD cE aX;exact bz.setOther _ (bz.tag (Ne.symm cF) aY.o)
   refine⟨rfl,_,_,_,hu.here,fr Z Z HR.o,fr Z Z HF.o,bx.setOther _ (bx.tag Z aY.o),fr Z Z cv.o,bU.o,fun v n xs V=>fr Z Z (cx.o v n xs V),?_⟩;exact(cy.o.trans (((Below.refl base wr).alloc cB _).trans (aX.below (fun g N=>(HW.o.lt N).1) Zo))).trans (hu.below aZ)
end
namespace Mn
section
open Go.RowKit Go.Maps
theorem Tryz.info99x:(Tryz.prog.info? 99).map (fun i=>(i.zero,i.size,i.bytes))=some (some (.agg #[I J 0,I J 0,.bool false]),3,24):=U
def kI (h:Int):Lit:=.int .i64 h
def okI (h:Int):Prop:=(Lit.int .i64 h).wf=true
def eqI (a b:Int):Bool:=decide (a=b)
theorem P9 (a b:Int):eqI a b=true↔a=b:=by simp[eqI]
theorem B1x (a b:Int)(_:okI a)(_:okI b)(h:kI a=kI b):a=b:=by simpa[kI] using h
theorem A81 (h:Int)(ho:okI h):keyOf Tryz.prog 3 (I J h)=some (kI h):=keyOf_int_mk Tryz.underlying3 ho
theorem A4O:Keyed Tryz.prog 3:=int_keyed Tryz.underlying3
theorem A3v (w:World):(zeroValue 102).run Tryz.prog w=.ok A1c w:=U
abbrev HtP (w:World) (base Hb n:Nat) (V:Int→Value) (T:Int→List W3):Prop:=GrP Tryz.prog kI okI A6 3 99 3 w base Hb n V T
def A1y (i:Nat)(T:Int→List W3)(x:W3):Int→List W3:=I0 eqI T x.h (T x.h++[⟨i,x.p,x.b⟩])
theorem A1p (W:World)(x:W3)(s:Nat)(hs:s=W.heap.size):∀j u,([I J x.h,I J x.p,.bool x.b]:List Value)[j]?=some u→(W.alloc (.cells #[I J x.h,I J x.p,.bool x.b] 99)).cell? ((⟨s,0,none⟩:Addr).add j)=some u:=by
 intro j u a;subst hs;have h:=heap_alloc_new W (.cells #[I J x.h,I J x.p,.bool x.b] 99);rw[Addr.add_lit,cell_of_row _ _ _ _ _ _ h];match j,a with
 |0,a=>simpa using a
 |1,a=>simpa using a
 |2,a=>simpa using a
theorem A9Q (i:Nat)(x:W3)(l:okI x.h)(d f base n:Nat)(V:Int→Value)(T:Int→List W3)(w:World)(hn:n<100000)(hT:(T x.h).length<100000)(ap:base≤w.heap.size)
 (y:w.heap[d]?=some (.cells #[I J i,.map (some f)] 149 (0,0)))(hG:HtP w base f n V T) :
 Calls Tryz.prog 61 #[.pointer (some ⟨d,0,none⟩),.agg #[I J x.h,I J x.p,.bool x.b]] w fun e w'=>e=.returned (.tuple #[])∧
  (∃V',HtP w' base f (n+1) V' (A1y i T x))∧w.heap.size≤w'.heap.size∧(∀g,g<w.heap.size→g≠f→(V x.h).ownBlock≠some g→w'.heap[g]?=w.heap[g]?)∧w'.os=w.os∧w'.tape=w.tape∧w'.output=w.output:=by
 obtain⟨i0,hi,ad,ae,af⟩:=info_parts Tryz.info99x;have q:=A4 hG;have e0:w.cell? ⟨d,0,none⟩=some (I J i):=A1 y rfl;have e1:w.cell? ⟨d,1,none⟩=some (.map (some f)):=A1 y rfl;have C:=A4 y;have G:d<w.heap.size:=lt_of_block y;clear hG y;go_enter Tryz.func61,Tryz.ntmps61;go_wp2_with fail;rename_i Q0 K0 S;obtain⟨c,r⟩:=A8 (w.alloc (.cells #[I J x.h,I J x.p,.bool x.b] 114));have HA:=A4 r;have E:c.heap[w.heap.size]?=some (.cells #[I J x.h,I J x.p,.bool x.b] 114 (0,0)):=by rw[r];exact heap_alloc_new w _
 have H:Below w.heap.size w c:=by rw[r];exact(Below.refl _ _).alloc (Nat.le_refl _) _
 have L:c.heap.size=w.heap.size+1:=by rw[r];simp
 rw[←r];have f0:c.drew.cell? ⟨d,0,none⟩=some (I J i):=A1 ((H.block d G).trans C.o) rfl;have f1:c.drew.cell? ⟨w.heap.size,1,none⟩=some (I J x.p):=A1 E rfl;have f2:c.drew.cell? ⟨w.heap.size,2,none⟩=some (.bool x.b):=A1 E rfl;clear r e0 e1;refine A5 10 (fun W=>W.cell? ⟨d,0,none⟩=some (I J i)∧W.cell? ⟨w.heap.size,1,none⟩=some (I J x.p)∧W.cell? ⟨w.heap.size,2,none⟩=some (.bool x.b)) U ⟨f0,f1,f2⟩ (fun hH=>?_);refine A2 0 ?_;refine A2 1 ?_;refine A2 2 ?_;refine A2 3 ?_;refine A2 4 ?_;refine A2 5 ?_;refine A2 6 ?_;refine A2 7 ?_;refine A2 8 ?_;refine wpS 9 fun K k=>?_;go_simp;have g0:∀ob,(c.drew.alloc ob).cell? ⟨d,0,none⟩=some (I J i)∧(c.drew.alloc ob).cell? ⟨w.heap.size,1,none⟩=some (I J x.p)∧(c.drew.alloc ob).cell? ⟨w.heap.size,2,none⟩=some (.bool x.b):=fun ob=>
  ⟨(World.cell?_of_block (Below.heap_alloc c.drew ob d (by show d<c.heap.size;omega))).trans f0,(World.cell?_of_block (Below.heap_alloc c.drew ob w.heap.size (by show w.heap.size<c.heap.size;omega))).trans f1,(World.cell?_of_block (Below.heap_alloc c.drew ob w.heap.size (by show w.heap.size<c.heap.size;omega))).trans f2⟩
 refine F7 k (g0 _) ?_;clear k K hH;refine C1 (i:=10) U rfl U U (fun K k=>?_);go_simp;refine k.out _ _ ?_;clear k K;refine S _ _ ?_;clear S g0 f0 f1 f2;obtain⟨a,s⟩:=A8 ((c.alloc (Obj.cells #[I J ↑i,I J x.p,Value.bool x.b] 99)).drew);rw[←s];have F:a.heap[w.heap.size+1]?=some (.cells #[I J i,I J x.p,.bool x.b] 99 (0,0)):=by rw[s,←L];exact heap_alloc_new c _
 have m:Below w.heap.size w a:=by
  have z:=(H.alloc O (Obj.cells #[I J ↑i,I J x.p,Value.bool x.b] 99));rw[s];exact⟨z.os,z.tape,z.output,z.size,z.block⟩
 have X:a.heap[w.heap.size]?=some (.cells #[I J x.h,I J x.p,.bool x.b] 114 (0,0)):=by rw[s];exact(Below.heap_alloc c _ _ O).trans E
 have ag:a.heap.size=w.heap.size+2:=by rw[s];show(c.alloc _).heap.size=_;simp[L]
 clear s E H L HA;clear c;have Y:HtP a base f n V T:=q.o.kept (fun j A=>m.block j A);obtain⟨D,hD,ah,aq,ar⟩:=Y.map;have ai:a.drew.ownsMap Tryz.prog 3 X9 f n D:=hD;have f0:a.drew.cell? ⟨d,1,none⟩=some (.map (some f)):=A1 ((m.block d G).trans C.o) rfl;have f1:a.drew.cell? ⟨w.heap.size,0,none⟩=some (I J x.h):=A1 X rfl;have f2:a.drew.cell? ⟨w.heap.size+1,0,none⟩=some (I J i):=A1 F rfl;have f3:a.drew.cell? ⟨w.heap.size+1,1,none⟩=some (I J x.p):=A1 F rfl;have f4:a.drew.cell? ⟨w.heap.size+1,2,none⟩=some (.bool x.b):=A1 F rfl;have aa:∀W:World,W.ownsMap Tryz.prog 3 X9 f n D→(Instr.lookup 145 (.map (some f)) (I J x.h) false).run Tryz.prog W=.ok (V x.h) W:=by
  intro W t;obtain⟨v,ps,ab,M⟩:=t.lookup A4O Tryz.underlying145 (A3v W) (zd:=.held A1c) (zp:=[]) rfl (A81 x.h l);rw[show D.atKey (kI x.h) (.held A1c)=.held (V x.h) from ah x.h l]at M;simp only[X9,Option.some.injEq,Prod.mk.injEq,DataW.held.injEq]at M;rw[ab,M.1]
 refine A5 16 (fun W=>W.cell? ⟨d,1,none⟩=some (.map (some f))∧W.cell? ⟨w.heap.size,0,none⟩=some (I J x.h)∧W.cell? ⟨w.heap.size+1,0,none⟩=some (I J i)∧W.cell? ⟨w.heap.size+1,1,none⟩=some (I J x.p)∧W.cell? ⟨w.heap.size+1,2,none⟩=some (.bool x.b)∧(Instr.lookup 145 (.map (some f)) (I J x.h) false).run Tryz.prog W=.ok (V x.h) W) U ⟨f0,f1,f2,f3,f4,aa _ ai⟩ (fun hH=>?_);refine A2 0 ?_;refine A2 1 ?_;refine A2 2 ?_;refine A2 3 ?_;refine A2 4 ?_;refine A2 5 ?_;refine A2 6 ?_;refine A2 7 ?_;refine A2 8 ?_;refine A2 9 ?_;refine A2 10 ?_;refine A2 11 ?_;refine A2 12 ?_;refine A2 13 ?_;have ac:∀g,(V x.h).ownBlock=some g→g<w.heap.size:=fun g N=>((q.o.own x.h l).lt N).2;have g0:∀W:World,(∀j,j<w.heap.size+2→(V x.h).ownBlock≠some j→W.heap[j]?=a.heap[j]?)→W.cell? ⟨d,1,none⟩=some (.map (some f))∧W.cell? ⟨w.heap.size,0,none⟩=some (I J x.h)∧W.cell? ⟨w.heap.size+1,0,none⟩=some (I J i)∧W.cell? ⟨w.heap.size+1,1,none⟩=some (I J x.p)∧W.cell? ⟨w.heap.size+1,2,none⟩=some (.bool x.b)∧(Instr.lookup 145 (.map (some f)) (I J x.h) false).run Tryz.prog W=.ok (V x.h) W:=by
  intro W t;have k0:W.heap[d]?=some (.cells #[I J i,.map (some f)] 149 (0,0)):=(t d O ((q.o.own x.h l).tag Z C.o)).trans ((m.block d G).trans C.o);have k1:W.heap[w.heap.size]?=_:=(t w.heap.size O (fun e=>by have:=ac _ e;omega)).trans X;have k2:W.heap[w.heap.size+1]?=_:=(t (w.heap.size+1) O (fun e=>by have:=ac _ e;omega)).trans F;have k3:W.heap[f]?=a.heap[f]?:=t f (by have:=q.o.lt;omega) (q.o.ne l);exact⟨A1 k0 rfl,A1 k1 rfl,A1 k2 rfl,A1 k2 rfl,A1 k2 rfl,aa W (ownsMap_at hD k3)⟩
 refine wpS 14 fun K k=>?_;go_simp;refine F7 k (g0 _ (fun j A _=>Below.heap_alloc a.drew _ j (by show j<a.heap.size;omega))) ?_;clear k K hH;refine wpS 15 fun K k=>?_;refine H9 rfl (.tmp 26) (.tmp 28) 102 rfl 99 i0 _ 3 24 Tryz.underlying102 hi ad ae af rfl Z base (V x.h) (T x.h).length (A6 (T x.h)) (by simp[Act.eval]) (by exact(Y.own x.h l).other (fun g _ aj=>Below.heap_alloc a.drew _ _ aj)) ⟨w.heap.size+2,0,none⟩ 1 [I J i,I J x.p,.bool x.b] (by simp[Act.eval,ag]) rfl (by exact A1p a.drew ⟨i,x.p,x.b⟩ _ (by show _=a.heap.size;omega)) (J0 ⟨i,x.p,x.b⟩) (by unfold maxLen;omega) O (by show base≤(a.alloc _).heap.size;simp;omega) ?_;intro g' o' cap' w2 ak u;have P:∀j,j<w.heap.size+2→(V x.h).ownBlock≠some j→w2.heap[j]?=a.heap[j]?:=fun j A Q=>(u.other j (by show j<(a.alloc _).heap.size;simp;omega) Q).trans (Below.heap_alloc a.drew _ j (by show j<a.heap.size;omega));have au:a.heap.size+1≤w2.heap.size:=by have:=u.size;simp at this;exact this
 have hH:=g0 w2 P;have al:A3 w2 base 99 3 (.slice (some ⟨g',o',none⟩) ((T x.h).length+1) cap') (T x.h++[(⟨i,x.p,x.b⟩:W3)]).length (A6 (T x.h++[(⟨i,x.p,x.b⟩:W3)])):=by
  rw[L5,List.length_append];exact ak
 obtain⟨w3,ab,am,B⟩:=q.o.store (w2:=w2) (v':=.slice (some ⟨g',o',none⟩) ((T x.h).length+1) cap') (g':=g') (l':=T x.h++[(⟨i,x.p,x.b⟩:W3)]) A4O Tryz.underlying145 P9 B1x l (A81 x.h l) (by unfold maxLen;omega) O (fun j A Q=>(P j O Q).trans (m.block j A)) al rfl (by rcases u.new with h|h;exact Or.inl h;right;simp at h;omega) Zs;have R:w2.os=a.os∧w2.tape=a.tape∧w2.output=a.output:=⟨u.os,u.tape,u.output⟩;refine F7 k hH ?_;clear k K hH;refine C1 (i:=16) U rfl U U (fun K k=>?_);go_simp;refine k.out _ _ ?_;clear k K;go_end0;have av:w2.heap.size≤w3.heap.size:=B.size;refine⟨rfl,⟨_,am⟩,O,?_,?_,?_,?_⟩
 ·intro g N an ao;rw[B.block g O (fun e=>an (by simpa using e)),P g O ao];exact m.block g N
 ·rw[B.os,R.1];exact m.os
 ·rw[B.tape,R.2.1];exact m.tape
 ·rw[B.output,R.2.2];exact m.output
end
end Mn
section
open Go.RowKit Go.Shelf Go.Lib
def Y5 (f:Nat→Value):Nat→Nat→List Value
 |_,0=>[]
 |i,n+1=>f i::Y5 f (i+1) n
def fr (n:Nat)(f:Nat→Value):Array Value:=(Y5 f 0 n).toArray
theorem A8u (f:Nat→Value):∀(n i j:Nat),(Y5 f i n)[j]?=if j<n then some (f (i+j)) else none
 |0,i,j=>by simp[Y5]
 |n+1,i,0=>by simp[Y5]
 |n+1,i,j+1=>by
  rw[Y5,List.getElem?_cons_succ,A8u f n (i+1) j]
  by_cases h:j<n
  ·rw[if_pos h,if_pos O,show i+1+j=i+(j+1) by omega]
  ·rw[if_neg h,if_neg O]
theorem B3R {n:Nat}(A:Array Value)(h:A.size=n):A=fr n (fun i=>A.getD i undef):=by
 apply Array.ext';apply List.ext_getElem?;intro j;show A.toList[j]?=(Y5 _ 0 n)[j]?;rw[A8u];by_cases a:j<n
 ·rw[if_pos a];simp[Array.getD,h,a]
 ·rw[if_neg a];simp[h];omega
def Hs (f:Nat→Value):List (Nat×Value)→Prop
 |[]=>True
 |p::L=>f p.1=p.2∧Hs f L
def Fr (n:Nat)(L:List (Nat×Value))(a:Act):Prop:=∃f,a=⟨fr n f,[]⟩∧Hs f L
theorem Fr.of {n:Nat}{L:List (Nat×Value)}(A:Array Value)(h:A.size=n)(a:Hs (fun i=>A.getD i undef) L):Fr n L ⟨A,[]⟩:=⟨_,congrArg (fun x=>(⟨x,[]⟩:Act)) (B3R A h),a⟩
end
end Go.Proofs.YtilcmkiihefkkaaGreatDoor
