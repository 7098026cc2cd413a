import Derived.Test.YtilcmkiihefkkaaGreatDoorJl4
import Derived.Test.YtilcmkiihefkkaaGreatDoorJl15
import Derived.Test.YtilcmkiihefkkaaGreatDoorJl24
set_option linter.unusedVariables false
set_option linter.unusedSimpArgs false
set_option maxRecDepth 1000000
set_option maxHeartbeats 64000000
open Go.Value renaming int→I
open Go.IntKind renaming i64→J
namespace Go.Proofs.YtilcmkiihefkkaaGreatDoor
namespace Mn
def stC (p:Int×W3):List Value:=[I J p.1,I J p.2.h,I J p.2.p,.bool p.2.b]
def I1 (L:List (Int×W3)):List Value:=L.flatMap stC
theorem A4N (L:List (Int×W3))(p:Int×W3):I1 (L++[p])=I1 L++stC p:=by simp[I1]
theorem A0v (L:List (Int×W3)):∀j (h:j<L.length),(I1 L)[4*j]?=some (I J L[j].1)∧(I1 L)[4*j+1]?=some (I J L[j].2.h)∧(I1 L)[4*j+2]?=some (I J L[j].2.p)∧(I1 L)[4*j+3]?=some (.bool L[j].2.b):=by
 induction L with
 |nil=>intro j h;cases h
 |cons x t a=>
  intro j h;have e:I1 (x::t)=I J x.1::I J x.2.h::I J x.2.p::.bool x.2.b::I1 t:=rfl;rw[e];cases j with
  |zero=>exact⟨rfl,rfl,rfl,rfl⟩
  |succ j=>
   have:=a j (by simpa using h);rw[show 4*(j+1)=4*j+1+1+1+1 by omega];simpa using this
def stW (i:Nat)(x:W3):Int×W3:=(x.h,⟨i,x.p,x.b⟩)
def stN (k W:Nat)(R:List S2):Nat→List (Int×W3)
 |0=>[]
 |j+1=>stN k W R j++(Q8 k W (R.getD j S0).b).map (stW j)
def P5 (L:List (Int×W3))(h:Int):List W3:=(L.filter fun p=>eqI h p.1).map (·.2)
theorem A8o (L M:List (Int×W3))(h:Int):P5 (L++M) h=P5 L h++P5 M h:=by simp[P5]
theorem A6h (i:Nat):∀(ws:List W3) (T:Int→List W3) (L:List (Int×W3)),(∀h,T h=P5 L h)→∀h,A2k i T ws h=P5 (L++ws.map (stW i)) h
 |[],T,L,a,h=>by simp only[List.map_nil,List.append_nil];exact a h
 |x::t,T,L,a,h=>by
  have h1:∀h,A1y i T x h=P5 (L++[stW i x]) h:=by
   intro h
   rw[A8o]
   unfold A1y I0
   by_cases he:eqI h x.h=true
   ·rw[if_pos he]
    have e:=(P9 _ _).1 he
    subst e
    rw[a]
    congr 1
    simp[P5,stW,he]
   ·rw[if_neg he,a]
    simp[P5,stW,he]
  have b:=A6h i t (A1y i T x) (L++[stW i x]) h1 h
  rw[List.append_assoc]at b
  exact b
theorem A1S (k W:Nat)(R:List S2):∀(j:Nat) (h:Int),D6 k W R j h=P5 (stN k W R j) h
 |0,h=>rfl
 |j+1,h=>A6h j _ _ _ (A1S k W R j) h
theorem A0A {k W:Nat}(a:1≤k)(c:k≤12)(d:1≤W)(R:List S2)(f:∀x∈R,good x.b):∀j,j≤R.length→(stN k W R j).length≤C7 R j
 |0,_=>Nat.le_refl _
 |j+1,g=>by
  have h:=A0A a c d R f j O
  have hm:R.getD j S0∈R:=by rw[C8 _ _ _ O];exact List.getElem_mem _
  have:=A0B a c d (f _ hm) (W:=W) (k:=k)
  show(stN k W R j++_).length≤C7 R j+_
  rw[List.length_append,List.length_map]
  omega
section
open Go.RowKit Go.Maps
theorem Tryz.info101x:(Tryz.prog.info? 101).map (fun i=>(i.zero,i.size,i.bytes))=some (some (.agg #[I J 0,I J 0,I J 0,.bool false]),4,32):=U
structure RoI (w:World)(k W sc:Nat)(rv lv:Value)(L:List (Int×W3))(wr:World):Prop where
 bx:wr.heap[w.heap.size]?=some (.cells #[I J k,I J W,.float .f64 sc] 24 (0,0))
 ix:wr.heap[w.heap.size+1]?=some (.cells (ixC k W sc rv lv) 93 (0,0))
 ow:A3 wr w.heap.size 101 4 lv L.length (I1 L)
 bl:Below w.heap.size w wr
theorem RoI.kept {w:World}{k W sc:Nat}{b c:Value}{L:List (Int×W3)}{wr w':World}(h:RoI w k W sc b c L wr)(a:Below wr.heap.size wr w'):RoI w k W sc b c L w':=
 ⟨(a.block _ (lt_of_block h.bx)).trans h.bx,(a.block _ (lt_of_block h.ix)).trans h.ix,h.ow.other (fun g _ d=>a.block g d),h.bl.trans (a.mono h.bl.size)⟩
theorem B3h (p:Int×W3):∀u∈stC p,u.oneCell'=true:=by
 intro u hu;simp only[stC,List.mem_cons,List.not_mem_nil,or_false]at hu;rcases hu with rfl|rfl|rfl|rfl<;>rfl
theorem B3T (W:World)(p:Int×W3)(s:Nat)(hs:s=W.heap.size):∀j u,(stC p)[j]?=some u→(W.alloc (.cells #[I J p.1,I J p.2.h,I J p.2.p,.bool p.2.b] 101)).cell? ((⟨s,0,none⟩:Addr).add j)=some u:=by
 intro j u a;subst hs;rw[Addr.add_lit,Nat.zero_add];refine A1 (heap_alloc_new W _) ?_;simpa[stC] using a
theorem RoI.push {w:World}{k W sc:Nat}{l j:Value}{L:List (Int×W3)}{wr w1 w2:World}(h:RoI w k W sc l j L wr)(p:Int×W3){v':Value}{g':Nat}(c:Below wr.heap.size wr w1)(d:L1 w1 w2 j g')
 (ho:A3 w2 w.heap.size 101 4 v' (L.length+1) (I1 L++stC p)):RoI w k W sc l v' (L++[p]) (w2.setCell ⟨w.heap.size+1,4,none⟩ v')∧M4 wr (w2.setCell ⟨w.heap.size+1,4,none⟩ v'):=by
 have m:=lt_of_block h.bx;have n:=lt_of_block h.ix;have t:=c.size;have fr:∀q,q<wr.heap.size→j.ownBlock≠some q→w2.heap[q]?=wr.heap[q]?:=fun q b o=>(d.other q O o).trans (c.block q b);have e0:=(fr _ m (h.ow.tag Z h.bx)).trans h.bx;have e1:=(fr _ n (h.ow.tag Z h.ix)).trans h.ix;have a:=E1.of_setCell (i:=4) v' e1;refine⟨⟨(a.other _ O).trans e0,a.here,?_,?_⟩,?_⟩
 ·rw[List.length_append,A4N];refine ho.other (fun q b u=>a.other q (fun e=>?_));subst e;exact ho.tag Z e1 b
 ·refine⟨?_,?_,?_,?_,fun q b=>?_⟩
  ·rw[a.os,d.os,c.os];exact h.bl.os
  ·rw[a.tape,d.tape,c.tape];exact h.bl.tape
  ·rw[a.output,d.output,c.output];exact h.bl.output
  ·rw[a.size];have:=d.size;have:=h.bl.size;omega
  ·have r:q<wr.heap.size:=Nat.lt_of_lt_of_le b h.bl.size;rw[a.other q O,fr q r (fun e=>by have:=(h.ow.lt e).1;omega)];exact h.bl.block q b
 ·intro g cs f;have s:=lt_of_block f;rw[a.other g (fun e=>by rw[e,h.ix]at f;cases f),fr g s (h.ow.tag Z f)]
theorem A7T (R:List S2)(base:Nat)(C:Value)(k W sc:Nat)(w:World)(P:1≤k)(Q:k≤12)(hW:1≤W)(aH:W≤20)(hR:R.length<100000)(D:∀x∈R,good x.b)(ak:C7 R R.length≤4000)(S:A3 w base 88 2 C R.length (B3 R)) :
 Calls Tryz.prog 37 #[C,.agg #[I J k,I J W,.float .f64 sc]] w fun e w'=>∃l,e=.returned (.pointer (some ⟨w.heap.size+1,0,none⟩))∧RoI w k W sc C l (stN k W R R.length) w':=by
 obtain⟨i0,hi,aI,aJ,aK⟩:=info_parts Tryz.info101x;obtain⟨n,E⟩:∃n,n=R.length:=⟨_,rfl⟩;have HN:=A4 E;have HO:Hd (A3 w base 88 2 C n (B3 R)):=by rw[E];exact S
 have aL:=A4 D;have aM:Hd (∀j,j≤R.length→(stN k W R j).length≤C7 R j):=A0A P Q hW R D;have al:=A4 ak;rw[←E]at hR S;obtain⟨t,v,hv,hs⟩:∃t v,C=.slice t n v∧(n≠0→∃g o,t=some ⟨g,o,none⟩∧g<w.heap.size):=by
  rcases S.2 with⟨h,h0⟩|⟨g,o,cap,cur,h,_,D,_⟩
  ·exact⟨none,0,by rw[h,h0],fun h'=>absurd h0 h'⟩
  ·exact⟨_,_,h,fun _=>⟨g,o,rfl,lt_of_block D⟩⟩
 subst hv;rw[←E];clear E S D ak;go_enter Tryz.func37,Tryz.ntmps37;go_wp2_with fail;obtain⟨wA,aa⟩:∃a:World,a=(w.alloc (Obj.cells #[I J ↑k,I J ↑W,Value.float FloatKind.f64 sc] 24)).alloc (Obj.cells #[I J ↑k,I J ↑W,Value.float FloatKind.f64 sc,Value.slice t n v,Value.slice none 0 0] 93):=⟨_,rfl⟩;rw[←aa];have am:RoI w k W sc (.slice t n v) (.slice none 0 0) (stN k W R 0) wA:=by
  rw[aa];refine⟨?_,heap_alloc2_new w _ _,A3.nil _ _ _ _,((Below.refl _ _).alloc (Nat.le_refl _) _).alloc Zs _⟩;rw[Below.heap_alloc _ _ _ Zs];exact heap_alloc_new w _
 have an:=A4 am;clear aa am;go_loopw [6] (fun iv wr=>∃(j:Nat) (l:Value),iv=I J j∧j≤n∧RoI w k W sc (.slice t n v) l (stN k W R j) wr) (fun iv _=>n-(RowKit.intOf iv).toNat);case atStart=>exact⟨0,_,rfl,Nat.zero_le _,an.o⟩
 case round=>
  obtain⟨j,l,rfl,hj,F⟩:=hrel;have d:=A4 F;clear F an;by_cases bg:j<n
  ·obtain⟨g,o,rfl,bh⟩:=hs O;have ab:j<R.length:=by have:=HN.o;omega
   obtain⟨x,T⟩:∃x,x=R[j]:=⟨_,rfl⟩;have HX:Hd (R.getD j S0=x):=by show _=_;rw[C8 _ _ _ ab,T]
   have ac:=aL.o x (by rw[T];exact List.getElem_mem _);have aN:x.b.size≤4000:=by
    have h1:=V7 R (j+1) R.length ab;have e:C7 R (j+1)=C7 R j+(R.getD j S0).b.size:=rfl;have V:=al.o;rw[HX.o]at e;omega
   have s:∀a:World,(∀q,q<wr.heap.size→a.heap[q]?=wr.heap[q]?)→a.cell? ⟨g,o+j*2+1,none⟩=some (.string x.b)∧a.cell? ⟨w.heap.size,0,none⟩=some (I J k)∧a.cell? ⟨w.heap.size,1,none⟩=some (I J W):=by
    intro a ap;have hc:=(HO.o.other (w':=a) (fun g' _ aO=>(ap g' (by have:=d.o.bl.size;omega)).trans (d.o.bl.block g' aO))).seqs j ab;rw[←T]at hc;have e0:=(ap _ (lt_of_block d.o.bx)).trans d.o.bx;exact⟨hc.2,A1 e0 rfl,A1 e0 rfl⟩
   have cW:=fun a=>A3s x.b k W a O P Q hW aH;have aP:Hd (Q8 k W x.b=(M0 k W (nums x.b.data.toList) (x.b.size+1-k)).M):=A5j k W P Q x.b ac;clear T;go_wp2_with fail;rename_i K5 aq;refine A5 15 (fun a=>a.cell? ⟨g,o+j*2+1,none⟩=some (.string x.b)∧a.cell? ⟨w.heap.size,0,none⟩=some (I J k)∧a.cell? ⟨w.heap.size,1,none⟩=some (I J W)) U (s wr.drew (fun _ _=>rfl)) (fun hH=>?_);refine A2 0 ?_;refine A2 1 ?_;refine A2 2 ?_;refine A2 3 ?_;refine A2 4 ?_;refine A2 5 ?_;refine A2 6 ?_;refine A2 7 ?_;refine A2 8 ?_;refine wpS 9 fun K f=>?_;go_simp;go_at_call 69;refine(cW _).mono ?_;rintro e X ⟨⟨_,pv,rfl,z⟩|⟨aQ,_⟩,A⟩;rotate_left
   ·exact absurd ac aQ
   have ad:Below wr.heap.size wr X:=⟨A.os,A.tape,A.output,A.size,A.block⟩;have hH:=s X (fun q hq=>ad.block q hq);refine F7 f hH ?_;clear f K cW;refine A2 10 ?_;refine A2 11 ?_;refine A2 12 ?_;refine A2 13 ?_;refine A2 14 ?_;refine M7 ?_;refine aq _ _ ?_;clear aq hH s;rw[←aP.o]at z;have ae:=d.o.kept ad;obtain⟨M,Y⟩:∃M,M=Q8 k W x.b:=⟨_,rfl⟩;rw[←Y]at z;have aR:=A4 Y;have aS:M.length≤4000:=by rw[Y];exact Nat.le_trans (A0B P Q hW ac) aN
   have aT:(stN k W R j).length≤4000:=by have:=aM.o j O;have:=V7 R j R.length O;have:=al.o;omega
   have af:=A4 ae;obtain⟨L,hL⟩:∃L,L=stN k W R j:=⟨_,rfl⟩;have HL:=A4 hL;rw[←hL]at ae af aT;obtain⟨nm,ag⟩:∃nm,nm=M.length:=⟨_,rfl⟩;rw[←ag]at z aS;have ar:=A4 ag;obtain⟨pa,pc,rfl⟩:=z.form;have aU:=A4 z;clear Y hL ag z ae A ad d;go_wp2_with fail;go_loopw [9] (fun kv wx=>∃(m:Nat) (l:Value),kv=I J m∧m≤nm∧RoI w k W sc (.slice (some ⟨g,o,none⟩) n v) l (L++(M.take m).map (stW j)) wx∧M4 X wx) (fun kv _=>nm-(RowKit.intOf kv).toNat);case atStart=>exact⟨0,l,rfl,Nat.zero_le _,by simpa using af.o,fun _ _ _=>rfl⟩
   case round=>
    obtain⟨m,lw,rfl,hm,F,au⟩:=hrel;have d:=A4 F;have av:=A4 au;clear F au af;by_cases bi:m<nm
    ·obtain⟨c,ow,aw,B,ax,ay,aV⟩:∃c ow aw B,Value.slice pa nm pc=.slice (some ⟨c,ow,none⟩) nm aw∧X.heap[c]?=some (.cells B 114 (0,0))∧∀q u,(A6 M)[q]?=some u→B[ow+q]?=some u:=by
      rcases aU.o.2 with⟨_,h0⟩|⟨g1,o1,aW,aX,h1,_,V,_,_,_,h3⟩
      ·omega
      ·exact⟨g1,o1,aW,aX,h1,V,h3⟩
     simp only[Value.slice.injEq,true_and]at ax;obtain⟨rfl,rfl⟩:=ax;have az:m<M.length:=by have:=ar.o;omega
     obtain⟨y,hy⟩:∃y,y=M[m]:=⟨_,rfl⟩;have aA:∀a:World,a.heap[c]?=some (.cells B 114 (0,0))→_:=fun a h1=>A1B M c ow B a h1 aV m az;rw[←hy]at aA;have G:=(av.o c B ay).trans ay;have aY:Hd (M.take (m+1)=M.take m++[y]):=by
      show _=_;rw[List.take_add_one,List.getElem?_eq_getElem az,hy];rfl
     obtain⟨la,lc,aB⟩:=d.o.ow.form;obtain⟨nl,H⟩:∃nl,nl=(L++(M.take m).map (stW j)).length:=⟨_,rfl⟩;have bj:nl≤8000:=by rw[H,List.length_append,List.length_map,List.length_take];omega
     rw[←H]at aB;subst aB;have aZ:=A4 H;have ah:Hd (A3 wr w.heap.size 101 4 (.slice la nl lc) nl (I1 (L++(M.take m).map (stW j)))):=by
      have h1:=d.o.ow;rw[←H]at h1;exact h1
     clear H;have N:=d.o.ix;have aC:=lt_of_block N;have aD:=lt_of_block G;have bk:c≠w.heap.size+1:=fun e=>by rw[e,N]at G;cases G
     have s:∀a:World,a.heap[w.heap.size+1]?=wr.heap[w.heap.size+1]?→a.heap[c]?=wr.heap[c]?→a.cell? ⟨w.heap.size+1,4,none⟩=some (.slice la nl lc)∧a.cell? ⟨c,ow+m*3,none⟩=some (I J y.h)∧a.cell? ⟨c,ow+m*3+1,none⟩=some (I J y.p)∧a.cell? ⟨c,ow+m*3+2,none⟩=some (.bool y.b):=by
      intro a h1 V;exact⟨A1 (h1.trans N) rfl,aA a (V.trans G)⟩
     have bm:(m:Int)<nm:=O;clear hy;go_wp2_with fail;rename_i K9 aE;refine A5 27 (fun a=>a.cell? ⟨w.heap.size+1,4,none⟩=some (.slice la nl lc)∧a.cell? ⟨c,ow+m*3,none⟩=some (I J y.h)∧a.cell? ⟨c,ow+m*3+1,none⟩=some (I J y.p)∧a.cell? ⟨c,ow+m*3+2,none⟩=some (.bool y.b)) U (s wr.drew rfl rfl) (fun hH=>?_);refine A2 0 ?_;refine A2 1 ?_;refine A2 2 ?_;refine A2 3 ?_;refine A2 4 ?_;refine A2 5 ?_;refine A2 6 ?_;refine A2 7 ?_;refine A2 8 ?_;refine A2 9 ?_;refine A2 10 ?_;refine A2 11 ?_;refine A2 12 ?_;refine A2 13 ?_;refine A2 14 ?_;refine A2 15 ?_;refine A2 16 ?_;refine A2 17 ?_;refine A2 18 ?_;refine A2 19 ?_;refine A2 20 ?_;refine A2 21 ?_;refine A2 22 ?_;obtain⟨w1,ai⟩:∃a:World,a=wr.drew.alloc (Obj.cells #[I J y.h,I J (j:Nat),I J y.p,.bool y.b] 101):=⟨_,rfl⟩;have r:Below wr.heap.size wr w1:=by
      have h1:=(Below.refl wr.drew.heap.size wr.drew).alloc (Nat.le_refl _) (Obj.cells #[I J y.h,I J (j:Nat),I J y.p,.bool y.b] 101);rw[ai];exact⟨h1.os,h1.tape,h1.output,h1.size,h1.block⟩
     have ba:∀q u,(stC (stW j y))[q]?=some u→w1.cell? ((⟨wr.heap.size,0,none⟩:Addr).add q)=some u:=by rw[ai];exact B3T wr.drew (stW j y) _ rfl
     refine wpS 23 fun K f=>?_;go_simp;have aF:(wr.alloc (Obj.cells #[I J y.h,I J (j:Nat),I J y.p,.bool y.b] 101)).drew=w1:=by rw[ai];rfl
     rw[aF];have hH:=s w1 (r.block _ aC) (r.block _ aD);refine F7 f hH ?_;clear f K aF;refine wpS 24 fun K f=>?_;refine H9 rfl (.tmp 43) (.tmp 62) 91 rfl 101 i0 _ 4 32 Tryz.underlying91 hi aI aJ aK rfl Z w.heap.size (.slice la nl lc) nl (I1 (L++(M.take m).map (stW j))) (by simp[Act.eval]) (by exact ah.o.other (fun q _ hq=>r.block q hq)) ⟨wr.heap.size,0,none⟩ 1 (stC (stW j y)) (by simp[Act.eval]) rfl ba (B3h _) (by unfold maxLen;omega) O (by have:=d.o.bl.size;have:=r.size;omega) ?_;intro g' o' cap' w2 bb aj;have bc:(Value.slice la nl lc).ownBlock≠some (w.heap.size+1):=ah.o.tag Z N;have bd:(Value.slice la nl lc).ownBlock≠some c:=ah.o.tag Z G;have bn:=r.size;have aG:=(aj.other _ O bc).trans (r.block _ aC);have hH:=s w2 aG ((aj.other _ O bd).trans (r.block _ aD));have hP:=d.o.push (stW j y) (v':=.slice (some ⟨g',o',none⟩) (nl+1) cap') r aj (by rw[←aZ.o];exact bb);have HP:=A4 hP;refine F7 f hH ?_;clear f K hP;refine wpS 25 fun K f=>?_;go_simp;refine F7 f hH ?_;clear f K;refine A2 26 ?_;have vz:w2.frozen? ⟨w.heap.size+1,4,none⟩=false:=frozen_of_row _ _ _ _ _ (aG.trans N);refine C1 (i:=27) U rfl U U (fun K f=>?_);go_simp;refine f.out _ _ ?_;clear f K;refine aE _ _ ?_;clear aE hH;go_wp2_with fail;go_roundw;case rel=>
      refine⟨m+1,.slice (some ⟨g',o',none⟩) (nl+1) cap',Zn,O,?_,?_⟩
      ·rw[aY.o,List.map_append,←List.append_assoc];exact HP.o.1
      ·exact av.o.trans HP.o.2
     case measure=>simp[RowKit.intOf];omega
    ·have be:m=nm:=O;subst be;go_wp2_with fail;go_roundw;case rel=>
      refine⟨j+1,lw,Zn,O,?_⟩;have e:stN k W R (j+1)=L++(M.take m).map (stW j):=by
       rw[ar.o,List.take_length,HL.o,aR.o,←HX.o];rfl
      rw[e];exact d.o
     case measure=>simp[RowKit.intOf];omega
  ·have bf:j=n:=O;subst bf;go_wp2;go_ret;exact⟨l,rfl,d.o⟩
theorem U7 (k W:Int)(sc:Nat)(w:World) :
 Calls Tryz.prog 31 #[.agg #[I J k,I J W,.float .f64 sc]] w fun e w'=>e=.returned (.bool (J1 k W sc))∧Below w.heap.size w w':=by
 have c:Below w.heap.size w (w.alloc (Obj.cells #[I J k,I J W,Value.float .f64 sc] 24)):=(Below.refl _ _).alloc (Nat.le_refl _) _;obtain⟨o1,h1⟩:∃o,FloatKind.f64.format.order sc 0=o:=⟨_,rfl⟩;obtain⟨f,d⟩:∃o,FloatKind.f64.format.order sc 4652007308841189376=o:=⟨_,rfl⟩;have e:J1 k W sc=(decide (1≤k)&&decide (k≤12)&&decide (1≤W)&&decide (W≤20)&&geO o1&&leO f):=by
  unfold J1 fge fle;rw[h1,d]
 have a:=A4 e;clear e;by_cases g:1≤k
 ·by_cases a2:k≤12
  ·by_cases a3:1≤W
   ·by_cases a4:W≤20
    ·rcases o1 with _|(_|_|_)<;>rcases f with _|(_|_|_)<;>
     ·go_enter Tryz.func31,Tryz.ntmps31;go_wp2;go_ret;exact⟨by rw[a.o];simp[g,a2,a3,a4,geO,leO],c⟩
    ·have b:Hd (J1 k W sc=false):=by show _=_;rw[a.o];simp[a4]
     clear a h1 d;go_enter Tryz.func31,Tryz.ntmps31;go_wp2;go_ret;exact⟨by rw[b.o];rfl,c⟩
   ·have b:Hd (J1 k W sc=false):=by show _=_;rw[a.o];simp[a3]
    clear a h1 d;go_enter Tryz.func31,Tryz.ntmps31;go_wp2;go_ret;exact⟨by rw[b.o];rfl,c⟩
  ·have b:Hd (J1 k W sc=false):=by show _=_;rw[a.o];simp[a2]
   clear a h1 d;go_enter Tryz.func31,Tryz.ntmps31;go_wp2;go_ret;exact⟨by rw[b.o];rfl,c⟩
 ·have b:Hd (J1 k W sc=false):=by show _=_;rw[a.o];simp[g]
  clear a h1 d;go_enter Tryz.func31,Tryz.ntmps31;go_wp2;go_ret;exact⟨by rw[b.o];rfl,c⟩
theorem A03 (R:List S2)(base:Nat)(a:Value)(w:World)(v:R.length<100000)(l:∀x∈R,x.b.size≤1000000000)(c:A3 w base 88 2 a R.length (B3 R)) :
 Calls Tryz.prog 36 #[a] w fun e w'=>e=.returned (I J (C7 R R.length:Nat))∧w'=w:=by
 obtain⟨n,d⟩:=A8 R.length;have y:=A4 d;have m:=A4 l;have z:Hd (A3 w base 88 2 a n (B3 R)):=by rw[d];exact c
 rw[←d]at v c⊢;obtain⟨k,p,A,hs⟩:∃k p,a=.slice k n p∧(n≠0→∃g o,k=some ⟨g,o,none⟩∧g<w.heap.size):=by
  rcases c.2 with⟨h,q⟩|⟨g,o,cap,cur,h,_,B,_⟩
  ·exact⟨none,0,by rw[h,q],fun C=>absurd q C⟩
  ·exact⟨_,_,h,fun _=>⟨g,o,rfl,lt_of_block B⟩⟩
 subst A;clear d l c;go_enter Tryz.func36,Tryz.ntmps36;go_wp2;go_loopw [3,4] (fun b i wr=>∃j:Nat,j≤n∧i=I J j∧b=I J (C7 R j:Nat)∧wr=w) (fun _ i _=>n-(RowKit.intOf i).toNat);case atStart=>exact⟨0,Nat.zero_le _,rfl,rfl,rfl⟩
 case round=>
  obtain⟨j,F,rfl,rfl,r⟩:=hrel;have D:=r.symm;subst D;clear r;by_cases G:j<n
  ·obtain⟨g,o,rfl,H⟩:=hs O;have s:j<R.length:=by have:=y.o;omega
   have t:=z.o.seqs j s;obtain⟨x,f⟩:=A8 (R[j]);rw[←f]at t;obtain⟨d0,d1⟩:=t;have K:x.b.size≤1000000000:=m.o x (by rw[f];exact List.getElem_mem _);have u:Hd (C7 R (j+1)=C7 R j+x.b.size):=by show C7 R j+(R.getD j S0).b.size=_;rw[C8 _ _ _ s,f]
   have L:C7 R j≤100000000000000:=Nat.le_trans (A4H R 1000000000 m.o j O) O;clear f;go_wp2;go_roundw;case rel=>
    refine⟨j+1,O,Zn,?_,trivial⟩;have:=u.o;rw[u.o];go_num
   case measure=>simp[RowKit.intOf];omega
  ·have E:j=n:=O;subst E;go_wp2;go_ret;exact⟨rfl,rfl⟩
def RxP (w:World)(base Y:Nat)(R:List S2)(k W sc:Nat):Prop:=
 ∃rv lv,w.heap[Y]?=some (.cells (ixC k W sc rv lv) 93 (0,0))∧A3 w base 88 2 rv R.length (B3 R)∧A3 w base 101 4 lv (stN k W R R.length).length (I1 (stN k W R R.length))∧base≤Y
theorem RxP.kept {w w':World}{base Y:Nat}{R:List S2}{k W sc:Nat}(h:RxP w base Y R k W sc)(a:∀g,g<w.heap.size→w'.heap[g]?=w.heap[g]?):RxP w' base Y R k W sc:=by
 obtain⟨c,d,h1,f,i,j⟩:=h;exact⟨c,d,(a _ (lt_of_block h1)).trans h1,f.other (fun g _ b=>a g b),i.other (fun g _ b=>a g b),j⟩
def B3S (s:ByteArray)(k W:Int)(sc:Nat)(w:World)(e:Ending)(w':World):Prop:=
 ∃v,e=.returned (.tuple #[v,I J (A0M s k W sc).1,I J (A0M s k W sc).2])∧Below w.heap.size w w'∧((A0M s k W sc).1≠0→v=.pointer none)∧
  ((A0M s k W sc).1=0→∃Y,v=.pointer (some ⟨Y,0,none⟩)∧RxP w' w.heap.size Y (A7 s).1 k.toNat W.toNat sc)
theorem B0l (s:ByteArray)(k W:Int)(sc:Nat)(w:World)(hs:s.size≤140737488351232) :
 Calls Tryz.prog 11 #[.string s,.agg #[I J k,I J W,.float .f64 sc]] w fun e w'=>B3S s k W sc w e w':=by
 have u:Below w.heap.size w (w.alloc (Obj.cells #[I J k,I J W,Value.float .f64 sc] 24)):=(Below.refl _ _).alloc (Nat.le_refl _) _;by_cases ho:J1 k W sc=true
 ·have ak:(1≤k∧k≤12)∧(1≤W∧W≤20):=by
   unfold J1 at ho;simp only[Bool.and_eq_true,decide_eq_true_eq]at ho;exact⟨⟨ho.1.1.1.1.1,ho.1.1.1.1.2⟩,⟨ho.1.1.1.2,ho.1.1.2⟩⟩
  obtain⟨a,rfl⟩:∃a:Nat,k=a:=⟨k.toNat,O⟩;obtain⟨b,rfl⟩:∃b:Nat,W=b:=⟨W.toNat,O⟩;have r:=A4 (L6 s);by_cases he:(A7 s).2.1=0
  ·have Q:(A7 s).2.2=0:=by
    by_cases h8:8000<s.size
    ·unfold A7 at he;rw[if_pos h8]at he;cases he
    ·unfold A7 at he⊢;rw[if_neg h8]at he⊢;exact T5 _ _ _ he
   have n:=U7 (a:Int) (b:Int) sc;rw[ho]at n;have y:∀P,_:=fun P=>A1n s P hs;rw[he,Q]at y;obtain⟨R,G⟩:=A8 ((A7 s).1);rw[←G]at y r;have af:=A4 G;have p:Hd (A0M s a b sc=(G0 R,0)):=by show _=_;unfold A0M;rw[if_pos ho,if_pos he,G]
   have z:=A4 u;have ag:Hd ((w.alloc (Obj.cells #[I J a,I J b,Value.float .f64 sc] 24)).heap[w.heap.size]?=some (.cells #[I J a,I J b,Value.float .f64 sc] 24 (0,0))):=heap_alloc_new w _;have t:Hd ((w.alloc (Obj.cells #[I J a,I J b,Value.float .f64 sc] 24)).heap.size=w.heap.size+1):=by show _=_;simp
   obtain⟨sm,S⟩:=A8 (C7 R R.length);have T:=A4 S;obtain⟨H,V⟩:=A8 R.length;have aa:=A4 V;by_cases K:4000<C7 R R.length
   ·have A:G0 R=1:=by unfold G0;rw[if_pos K]
    have ah:(4000:Int)<sm:=O;clear he Q G ho u S V;clear K;go_enter Tryz.func11,Tryz.ntmps11;go_wp2_with (go_at_call 31;refine(n _).mono ?_;rintro e w1 ⟨rfl,c⟩);refine(y w1).mono ?_;rintro e w2 ⟨v,rfl,d,_,j⟩;have D:=A4 d;have f:Hd (Below (w.heap.size+1) (w.alloc (Obj.cells #[I J a,I J b,Value.float .f64 sc] 24)) w1):=by have:=c;rw[t.o]at this;exact this
    have l:=A4 j;obtain⟨L,M,B⟩:=d.form;rw[←aa.o]at B;subst B;clear d c j;have m:=A03 R w1.heap.size (.slice L H M) w2 (by have:=r.o.1;omega) (fun x E=>by have:=(r.o.2 x E).2.2;omega) D.o;rw[←T.o]at m;have F:=f.o.size;rw[t.o]at F;have ac:=l.o.size;have q:Below w.heap.size w w2:=(z.o.trans (f.o.mono O)).trans (l.o.mono O);have N:=A4 q;clear q;go_wp2_with fail;refine m.mono ?_;rintro e w3 ⟨rfl,C⟩;obtain rfl:=C.symm;clear m C;go_wp2;go_ret3;refine⟨_,?_,N.o,fun _=>rfl,fun h=>?_⟩
    ·rw[p.o,A];rfl
    ·rw[p.o,A]at h;cases h
   ·have ah:¬(4000:Int)<sm:=O;by_cases X:R.length=0
    ·have A:G0 R=7:=by unfold G0;rw[if_neg K,if_pos X]
     have ai:(H:Int)=0:=O;clear he Q G ho u S V;clear K X;go_enter Tryz.func11,Tryz.ntmps11;go_wp2_with (go_at_call 31;refine(n _).mono ?_;rintro e w1 ⟨rfl,c⟩);refine(y w1).mono ?_;rintro e w2 ⟨v,rfl,d,_,j⟩;have D:=A4 d;have f:Hd (Below (w.heap.size+1) (w.alloc (Obj.cells #[I J a,I J b,Value.float .f64 sc] 24)) w1):=by have:=c;rw[t.o]at this;exact this
     have l:=A4 j;obtain⟨L,M,B⟩:=d.form;rw[←aa.o]at B;subst B;clear d c j;have m:=A03 R w1.heap.size (.slice L H M) w2 (by have:=r.o.1;omega) (fun x E=>by have:=(r.o.2 x E).2.2;omega) D.o;rw[←T.o]at m;have F:=f.o.size;rw[t.o]at F;have ac:=l.o.size;have q:Below w.heap.size w w2:=(z.o.trans (f.o.mono O)).trans (l.o.mono O);have N:=A4 q;clear q;go_wp2_with fail;refine m.mono ?_;rintro e w3 ⟨rfl,C⟩;obtain rfl:=C.symm;clear m C;go_wp2;go_ret3;refine⟨_,?_,N.o,fun _=>rfl,fun h=>?_⟩
     ·rw[p.o,A];rfl
     ·rw[p.o,A]at h;cases h
    ·have A:G0 R=0:=by unfold G0;rw[if_neg K,if_neg X]
     have ai:¬(H:Int)=0:=O;clear he Q G ho u S V;clear K X;go_enter Tryz.func11,Tryz.ntmps11;go_wp2_with (go_at_call 31;refine(n _).mono ?_;rintro e w1 ⟨rfl,c⟩);refine(y w1).mono ?_;rintro e w2 ⟨v,rfl,d,_,j⟩;have D:=A4 d;have f:Hd (Below (w.heap.size+1) (w.alloc (Obj.cells #[I J a,I J b,Value.float .f64 sc] 24)) w1):=by have:=c;rw[t.o]at this;exact this
     have l:=A4 j;obtain⟨L,M,B⟩:=d.form;rw[←aa.o]at B;subst B;clear d c j;have m:=A03 R w1.heap.size (.slice L H M) w2 (by have:=r.o.1;omega) (fun x E=>by have:=(r.o.2 x E).2.2;omega) D.o;rw[←T.o]at m;have F:=f.o.size;rw[t.o]at F;have ac:=l.o.size;have q:Below w.heap.size w w2:=(z.o.trans (f.o.mono O)).trans (l.o.mono O);have N:=A4 q;clear q;go_wp2_with fail;refine m.mono ?_;rintro e w3 ⟨rfl,C⟩;obtain rfl:=C.symm;clear m C;have Y:w2.heap[w.heap.size]?=some (.cells #[I J a,I J b,Value.float .f64 sc] 24 (0,0)):=
      (l.o.block _ O).trans ((f.o.block _ O).trans ag.o)
     have q0:=A1 Y (i:=0) rfl;have q1:=A1 Y (i:=1) rfl;have q2:=A1 Y (i:=2) rfl;have cN:=A7T R w1.heap.size (.slice L H M) a b sc w2 O O O O (by have:=r.o.1;omega) (fun x E=>(r.o.2 x E).1) (by rw[←T.o];omega) D.o;clear Y;go_wp2_with fail;refine cN.mono ?_;rintro e w4 ⟨lv,rfl,hX⟩;have HX:=A4 hX;clear hX cN q0 q1 q2;go_wp2;go_ret3;refine⟨_,?_,N.o.trans (HX.o.bl.mono N.o.size),fun h=>?_,fun _=>⟨w2.heap.size+1,rfl,?_⟩⟩
     ·rw[p.o,A];rfl
     ·rw[p.o]at h;exact absurd A h
     ·rw[←af.o];refine⟨_,lv,HX.o.ix,(D.o.other (fun g _ hg=>HX.o.bl.block g hg)).low O,HX.o.ow.low O,O⟩
  ·have n:=U7 (a:Int) (b:Int) sc;rw[ho]at n;have y:∀P,_:=fun P=>A1n s P hs;have p:Hd (A0M s a b sc=(((A7 s).2.1:Int),((A7 s).2.2:Int))):=by show _=_;unfold A0M;rw[if_pos ho,if_neg he]
   obtain⟨en,ab⟩:=A8 ((A7 s).2.1);obtain⟨ln,ad⟩:=A8 ((A7 s).2.2);rw[←ab,←ad]at p y;rw[←ab]at he;have aj:¬(en:Int)=0:=O;have z:=A4 u;have t:Hd ((w.alloc (Obj.cells #[I J a,I J b,Value.float .f64 sc] 24)).heap.size=w.heap.size+1):=by show _=_;simp
   clear ab ad ho u;go_enter Tryz.func11,Tryz.ntmps11;go_wp2_with (go_at_call 31;refine(n _).mono ?_;rintro e w1 ⟨rfl,c⟩);refine(y w1).mono ?_;rintro e w2 ⟨v,rfl,d,_,j⟩;have f:Hd (Below (w.heap.size+1) (w.alloc (Obj.cells #[I J a,I J b,Value.float .f64 sc] 24)) w1):=by have:=c;rw[t.o]at this;exact this
   have l:=A4 j;clear d c j;go_wp2;go_ret3;have F:=f.o.size;rw[t.o]at F;have q:Below w.heap.size w w2:=(z.o.trans (f.o.mono O)).trans (l.o.mono O);refine⟨_,?_,q,fun _=>rfl,fun h=>?_⟩
   ·rw[p.o];rfl
   ·rw[p.o]at h;exact absurd h aj
 ·have ae:J1 k W sc=false:=by simpa using ho
  have n:=U7 k W sc;rw[ae]at n;have HR:Hd (A0M s k W sc=(6,0)):=by show _=_;unfold A0M;rw[if_neg ho]
  have z:=A4 u;clear ho ae u;go_enter Tryz.func11,Tryz.ntmps11;go_wp2_with (go_at_call 31;refine(n _).mono ?_;rintro e w1 ⟨rfl,c⟩);go_ret3;refine⟨_,?_,z.o.trans (c.mono z.o.size),fun _=>rfl,fun h=>?_⟩
  ·rw[HR.o];rfl
  ·rw[HR.o]at h;cases h
theorem B0q (L:List (Int×W3))(h:Int)(j:Nat)(a:j<L.length):P5 (L.take (j+1)) h=P5 (L.take j) h++(if eqI h L[j].1=true then [L[j].2] else []):=by
 rw[List.take_add_one,List.getElem?_eq_getElem a,A8o];congr 1;show P5 [L[j]] h=_;by_cases he:eqI h L[j].1=true<;>simp[P5,he]
theorem A5i (L:List (Int×W3))(h:Int):(P5 L h).length≤L.length:=by
 unfold P5;rw[List.length_map];exact List.length_filter_le _ _
theorem A2D (L:List (Int×W3))(base Y k W sc:Nat)(R D:Value)(h:Int)(w:World)(t:w.heap[Y]?=some (.cells (ixC k W sc R D) 93 (0,0)))(f:A3 w base 101 4 D L.length (I1 L))(S:L.length≤100000) :
 Calls Tryz.prog 41 #[.pointer (some ⟨Y,0,none⟩),I J h] w fun e w'=>A6a (P5 L h) w e w':=by
 obtain⟨i0,hi,T,V,X⟩:=info_parts Tryz.info99x;obtain⟨n,x⟩:=A8 L.length;have E:=A4 x;rw[←x]at f S;have HO:=A4 f;have HY:=A4 t;have aa:=lt_of_block t;obtain⟨F,G,rfl⟩:=f.form;clear x f t;go_enter Tryz.func41,Tryz.ntmps41;go_wp2;go_loopw [5,6] (fun v i wr=>∃j:Nat,j≤n∧i=I J j∧A3 wr w.heap.size 99 3 v (P5 (L.take j) h).length (A6 (P5 (L.take j) h))∧Below w.heap.size w wr) (fun _ i _=>n-(RowKit.intOf i).toNat);case atStart=>exact⟨0,Nat.zero_le _,rfl,A3.nil _ _ _ _,Below.refl _ _⟩
 case round=>
  obtain⟨j,hj,rfl,l,r⟩:=hrel;have c:=A4 r;have z:=A4 l;have y4:wr.cell? ⟨Y,4,none⟩=some (.slice F n G):=A1 ((r.block Y aa).trans HY.o) rfl;have ah:=r.size;obtain⟨va,vc,H⟩:=l.form;obtain⟨m,hm⟩:=A8 ((P5 (L.take j) h).length);have K:=A4 hm;have ai:m≤100000:=by rw[hm];have:=A5i (L.take j) h;rw[List.length_take]at this;omega
  rw[←hm]at H l;subst H;clear hm r;by_cases aj:j<n
  ·have M:j<L.length:=by have:=E.o;omega
   obtain⟨g,o,cap,cur,N,P,d⟩:∃g o cap cur,Value.slice F n G=.slice (some ⟨g,o,none⟩) n cap∧w.heap[g]?=some (.cells cur 101 (0,0))∧∀q u,(I1 L)[q]?=some u→cur[o+q]?=some u:=by
    rcases HO.o.2 with⟨_,h0⟩|⟨g1,o1,ab,ac,h1,_,h2,_,_,_,h3⟩
    ·omega
    ·exact⟨g1,o1,ab,ac,h1,h2,h3⟩
   simp only[Value.slice.injEq,true_and]at N;obtain⟨rfl,rfl⟩:=N;have s:=(c.o.block g (lt_of_block P)).trans P;have a:=A0v L j M;obtain⟨y,A⟩:=A8 (L[j]);rw[←A]at a;have Q:Hd (P5 (L.take (j+1)) h=P5 (L.take j) h++(if eqI h y.1=true then [y.2] else [])):=by rw[A];exact B0q L h j M
   have d0:wr.cell? ⟨g,o+j*4,none⟩=some (I J y.1):=A1 s (by have:=d _ _ a.1;rwa [Nat.mul_comm]at this);have d1:wr.cell? ⟨g,o+j*4+1,none⟩=some (I J y.2.h):=A1 s (by have:=d _ _ a.2.1;rwa [Nat.mul_comm,←Nat.add_assoc]at this);have d2:wr.cell? ⟨g,o+j*4+1+1,none⟩=some (I J y.2.p):=A1 s (by have:=d _ _ a.2.2.1;rwa [Nat.mul_comm,←Nat.add_assoc]at this);have d3:wr.cell? ⟨g,o+j*4+1+2,none⟩=some (.bool y.2.b):=A1 s (by have:=d _ _ a.2.2.2;rwa [Nat.mul_comm,←Nat.add_assoc]at this);clear A a d;by_cases he:y.1=h
   ·have B:Hd (eqI h y.1=true):=by show _=_;rw[P9];exact he.symm
    have ad:∀u∈([I J y.2.h,I J y.2.p,.bool y.2.b]:List Value),u.oneCell'=true:=fun u hu=>A35 [y.2] u (by simpa[A6,W3.cells] using hu);go_wp2_with (at_builtin;refine B6 _ rfl (.tmp 26) (.tmp 35) 102 rfl 99 i0 _ 3 24 Tryz.underlying102 hi T V X rfl Z w.heap.size (.slice va m vc) m (A6 (P5 (L.take j) h)) rfl (by exact l.other (fun q _ C=>Below.heap_alloc _ _ _ C)) ⟨wr.heap.size,0,none⟩ 1 [I J y.2.h,I J y.2.p,.bool y.2.b] rfl rfl (by exact A1p _ y.2 _ rfl) ad (by unfold maxLen;omega) O Zo ?_;intro g' o' cap' w8 ae af);go_roundw;case rel=>
     refine⟨j+1,O,Zn,?_,?_⟩
     ·rw[Q.o,if_pos B.o,List.length_append,L5,←K.o];exact ae
     ·exact(c.o.alloc c.o.size _).trans (af.below (fun q C=>(z.o.lt (by rw[←K.o]at *;exact C)).1) Zo)
    case measure=>simp[RowKit.intOf];omega
   ·have B:Hd (¬eqI h y.1=true):=by show ¬_;rw[P9];exact fun e=>he e.symm
    go_wp2;go_roundw;case rel=>
     refine⟨j+1,O,Zn,?_,c.o⟩;rw[Q.o,if_neg B.o,List.append_nil];exact z.o
    case measure=>simp[RowKit.intOf];omega
  ·have ag:j=n:=O;subst ag;go_wp2;go_ret;refine⟨_,rfl,c.o,?_⟩;have:=z.o;rwa [E.o,List.take_length]at this
end
section
set_option exponentiation.threshold 3000
open Ieee
theorem B3z:Rg 4607182418800017408 (2^52) 1022:=⟨Z,Or.inr Z,Z,Z⟩
theorem A0b (b c:Nat)(a:b<2047*2^52)(d:c<2047*2^52):FloatKind.f64.format.order b c=some (compare b c):=by
 obtain⟨M,q,h⟩:=rg_of b a;obtain⟨N,p,k⟩:=rg_of c d;exact h.order k
theorem A4G (sc:Nat)(hw:sc<2^64)(h1:fge sc 0=true)(a:fle sc 4652007308841189376=true):sc=2^63∨sc≤4652007308841189376:=by
 have b:double.leastPlace=-1074:=Z;have c:double.binade=2^52:=rfl;have hi:double.infRung=2047*2^52:=rfl;have hs:double.signWeight=2^63:=rfl;have g:double.read 0=.number false 0 (-1074):=Z;by_cases d:sc<2047*2^52
 ·right;unfold fle at a;rw[A0b sc _ d Z]at a;rcases Nat.lt_or_ge 4652007308841189376 sc with h|h
  ·rw[Nat.compare_eq_gt.2 h]at a;cases a
  ·exact h
 ·by_cases f:sc<2^63
  ·exfalso;unfold fle at a;have e:FloatKind.f64.format.order sc 4652007308841189376=(double.read sc).order (double.read 4652007308841189376):=rfl;rw[e,show double.read 4652007308841189376=.number false 8796093022208000 (-43) by decide +kernel]at a;unfold Format.read at a;simp only[b,c,hi,hs,Nat.div_eq_of_lt f,Nat.mod_eq_of_lt f]at a;rw[if_neg O,if_neg d]at a;split at a
   ·cases a
   ·cases a
  ·unfold fge at h1;have e:FloatKind.f64.format.order sc 0=(double.read sc).order (double.read 0):=rfl;have e1:sc/2^63=1:=O;obtain⟨r,i⟩:=A8 (sc%2^63);rw[e,g]at h1;unfold Format.read at h1;simp only[b,c,hi,hs,e1,←i]at h1;by_cases k:r=0
   ·left;omega
   ·exfalso;by_cases c1:r<2^52
    ·rw[if_pos c1]at h1;have:Datum.order (.number (1%2==1) r (-1074)) (.number false 0 (-1074))=some .lt:=by
      unfold Datum.order signed;simp;rw[Int.compare_eq_lt];omega
     rw[this]at h1;cases h1
    ·rw[if_neg c1]at h1;by_cases c2:r<2047*2^52
     ·rw[if_pos c2]at h1;have:Datum.order (.number (1%2==1) (2^52+r%2^52) (-1074+((r/2^52-1:Nat):Int))) (.number false 0 (-1074))=some .lt:=by
       unfold Datum.order signed;simp only[Nat.shiftLeft_eq,Nat.zero_mul,show((1:Nat)%2==1)=true from rfl,if_true,Bool.false_eq_true,if_false];rw[Int.compare_eq_lt.2];have j:=Nat.two_pow_pos (-1074+((r/2^52-1:Nat):Int)-min (-1074+((r/2^52-1:Nat):Int)) (-1074)).toNat;have l:=Nat.mul_pos (show 0<2^52+r%2^52 by omega) j;omega
      rw[this]at h1;cases h1
     ·rw[if_neg c2]at h1;split at h1
      ·cases h1
      ·cases h1
def Pt1 (sc b e:Nat):Prop:=b+e*2^52=sc∧(e=0∨1023*2^52≤b)
theorem Pt1.step {sc b e:Nat}(h:Pt1 sc b e)(hs:sc≤4652007308841189376)(d:1024*2^52≤b):floatBits .quo .f64 b 4611686018427387904=some (b-2^52)∧Pt1 sc (b-2^52) (e+1):=by
 obtain⟨h1,f⟩:=h;refine⟨?_,by rw[Nat.add_mul];omega,Or.inr O⟩;obtain⟨M,q,k⟩:=rg_of b O;have k1:=k.eq;have k2:=k.hi;have g:=k.lo;have i:=k.top;have j:1≤q:=O;have a:2^52≤M:=O;have c:Rg (b-2^52) M (q-1):=⟨by
  have:q*2^52=(q-1)*2^52+2^52:=by
   conv=>lhs;rw[show q=(q-1)+1 by omega,Nat.add_mul,Nat.one_mul]
  omega,Or.inr a,k2,O⟩
 exact k.quo2 c O (by rw[show q-1+1=q by omega])
def Pt2 (sc b:Nat)(e:Int):Prop:=
 0<b∧b<1024*2^52∧((2^52≤sc∧(b:Int)+e*2^52=sc∧2^52≤b∧e≤9)∨(sc<2^52∧∃j M q:Nat,e=-(j:Int)∧j≤1022∧Rg b M q∧M*2^q=sc*2^j))
theorem Pt1.go {sc b e:Nat}(h:Pt1 sc b e)(d:0<sc)(hs:sc≤4652007308841189376)(a:b<1024*2^52):Pt2 sc b e:=by
 obtain⟨h1,f⟩:=h;by_cases c:2^52≤sc
 ·exact⟨O,a,Or.inl ⟨c,O,O,O⟩⟩
 ·have he:e=0:=O;subst he;exact⟨O,a,Or.inr ⟨O,0,b,0,rfl,O,⟨O,Or.inl rfl,O,O⟩,O⟩⟩
theorem Pt2.step {sc b:Nat}{e:Int}(h:Pt2 sc b e) :
 (FloatKind.f64.format.order b 4607182418800017408=some .lt∧-1022<e∧e≤9∧∃o,floatBits .mul .f64 b 4611686018427387904=some o∧Pt2 sc o (e-1))∨
 ((FloatKind.f64.format.order b 4607182418800017408=some .eq∨FloatKind.f64.format.order b 4607182418800017408=some .gt)∧-1022≤e∧e≤9∧∃c d m:Nat,floatBits .sub .f64 b 4607182418800017408=some c∧floatBits .mul .f64 c 4841369599423283200=some d∧floatToIntVal .f64 d .i64=some (m:Int)∧m<2^52∧(e+1023)*4503599627370496+m=sc)∨
 (FloatKind.f64.format.order b 4607182418800017408=some .lt∧e=-1022∧∃c,floatBits .mul .f64 b 4841369599423283200=some c∧floatToIntVal .f64 c .i64=some (sc:Int)):=by
 obtain⟨B,h1,f⟩:=h;have ho:=A0b b 4607182418800017408 O Z;rcases f with⟨f,C,s,p⟩|⟨f,j,M,q,rfl,t,a,he⟩
 ·by_cases r:b<1023*2^52
  ·left;rw[Nat.compare_eq_lt.2 O]at ho;obtain⟨M,q,k⟩:=rg_of b O;have k1:=k.eq;have k2:=k.hi;have D:=k.lo;have i:=k.dbl_hi s O;refine⟨ho,O,p,b+2^52,?_,O,O,Or.inl ⟨f,O,O,O⟩⟩;exact k.mul2 i O rfl
  ·right;left;have a:Rg b (b-1022*2^52) 1022:=⟨O,Or.inr O,O,Z⟩;obtain⟨c,d,e1,u,v⟩:=a.less1 O;refine⟨?_,O,p,c,d,_,e1,u,v,O,O⟩;rcases Nat.lt_or_ge 4607182418800017408 b with g|g
   ·right;rw[ho,Nat.compare_eq_gt.2 g]
   ·left;rw[ho,Nat.compare_eq_eq.2 O]
 ·have w:M≠0:=by
   intro x;have:=a.eq;have E:=a.lo;subst x;have n:q=0:=O;subst n;omega
  have y:M*2^q<2^52*2^1022:=by
   rw[he];exact Nat.lt_of_lt_of_le (Nat.mul_lt_mul_of_pos_right f (Nat.two_pow_pos j)) (Nat.mul_le_mul_left _ (Nat.pow_le_pow_right O t))
  have l:=a.cmp B3z;rw[Nat.compare_eq_lt.2 y]at l;rw[l]at ho;by_cases F:j<1022
  ·left;refine⟨ho,O,O,?_⟩;have z:b<4607182418800017408:=Nat.compare_eq_lt.1 l;by_cases r:b<2^52
   ·have i:=a.dbl_lo r;have n:q=0:=by have:=a.eq;have:=a.lo;omega
    subst n;refine⟨2*b,a.mul2 i O (by rw[Nat.pow_zero];omega),O,O,Or.inr ⟨f,j+1,2*M,0,O,O,i,?_⟩⟩;rw[Nat.pow_succ,←Nat.mul_assoc,←he];omega
   ·have i:=a.dbl_hi O (by have:=a.eq;have:=a.hi;omega);refine⟨b+2^52,a.mul2 i w rfl,O,O,Or.inr ⟨f,j+1,M,q+1,O,O,i,?_⟩⟩;rw[Nat.pow_succ,Nat.pow_succ,←Nat.mul_assoc,←Nat.mul_assoc,he]
  ·right;right;have A:j=1022:=O;subst A;refine⟨ho,rfl,a.part sc O he ?_⟩;have:=a.eq;have z:b<4607182418800017408:=Nat.compare_eq_lt.1 l;omega
end
section
open Go.RowKit Go.Maps
theorem A3l {b:ByteArray}(h:good b):∀c∈b.data.toList,c≠10∧c≠62:=by
 intro c a;have d:=A0c h c a;constructor<;>(intro e;subst e;revert d;decide)
theorem A6W {b:ByteArray}(h:good b):(F3 [] b.data.toList).map (fun l=>(⟨l.toArray⟩:ByteArray))=if b.data.toList=[] then [] else [b]:=by
 have e:=X4 b.data.toList [] [] (fun c a=>(A3l h c a).1);rw[List.append_nil,List.nil_append]at e;rw[e,F3];split
 ·rfl
 ·simp
theorem A68 (L:List S2)(n b:ByteArray)(h:good b):F2 (L++[⟨n,⟨#[]⟩⟩]) b=(0,L++[⟨n,b⟩]):=by
 have a:¬G3 b:=by
  rintro⟨c,e⟩;have hm:b[0]∈b.data.toList:=by
   have:b[0]=b.data.toList[0]'(by rw[Array.length_toList];exact c):=by rw[Array.getElem_toList];rfl
   rw[this];exact List.getElem_mem _
  exact(A3l h _ hm).2 e
 rw[M6 a Zs h,O8];have:(⟨#[]⟩:ByteArray)++b=b:=by apply ByteArray.ext;simp
 rw[this]
end
end Mn
end Go.Proofs.YtilcmkiihefkkaaGreatDoor
