import Derived.Test.YtilcmkiihefkkaaGreatDoorJf40
set_option linter.unusedVariables false
set_option linter.unusedSimpArgs false
set_option maxRecDepth 1000000
set_option maxHeartbeats 64000000
open Go.Value renaming int→I
open Go.IntKind renaming i64→J
namespace Go.Proofs.YtilcmkiihefkkaaGreatDoor
namespace Mn
section
open Go.RowKit Go.Shelf Go.Lib
theorem A2A (P:Program)(w:World)(a:Addr)(m:Mode)(k:FloatKind)(b:Nat):(store a (.float k b) m).run P w=stored P w a (.float k b) m:=run_store P w a _ m rfl
attribute [local go_sem] A2A
theorem B06 (args:Array Value)(w:World):(callFunc 136 args).run Tryz.prog w=.ok (.enter 136 args) w:=enters_of Tryz.func136 U rfl args w
def lkC (l:Lk):Array Value:=#[I J l.a.1,I J l.a.2,.float .f64 (fq l.q),I J l.p]
theorem A9x (a b:Int):decide (0<E4 a b)=decide (b<a):=by
 unfold E4;by_cases h1:a<b
 ·rw[if_pos h1];have:¬b<a:=O;simp[this]
 ·rw[if_neg h1];by_cases c:b<a
  ·simp[c]
  ·simp[c]
def MxI (w wx:World)(X:Nat)(l:Lk):Prop:=wx.heap[X]?=some (.cells #[I J 0,I J 0,.float .f64 0,I J 0] 249 (0,0))∧wx.heap[X+1]?=some (.cells (lkC l) 249 (0,0))∧Below X w wx
theorem MxI.below {w wx b:World}{X:Nat}{l:Lk}(h:MxI w wx X l){B:Nat}(a:Below B wx b)(c:X+1<B):MxI w b X l:=
 ⟨(a.block X O).trans h.1,(a.block (X+1) c).trans h.2.1,h.2.2.trans (a.mono O)⟩
theorem MxI.set {w wx:World}{X:Nat}{l:Lk}(h:MxI w wx X l)(m:Lk):MxI w ((((wx.setCell ⟨X+1,0,none⟩ (I J m.a.1)).setCell ⟨X+1,1,none⟩ (I J m.a.2)).setCell ⟨X+1,2,none⟩ (.float .f64 (fq m.q))).setCell ⟨X+1,3,none⟩ (I J m.p)) X m:=by
 obtain⟨h1,b,c⟩:=h;have u:=(((D7.of_setCell (i:=0) (I J m.a.1) b).setCell (i:=1) (I J m.a.2)).setCell (i:=2) (.float .f64 (fq m.q))).setCell (i:=3) (I J m.p);exact⟨(u.other X O).trans h1,u.here,(((c.setCell (p:=⟨X+1,0,none⟩) (Nat.le_succ _) _).setCell (p:=⟨X+1,1,none⟩) (Nat.le_succ _) _).setCell (p:=⟨X+1,2,none⟩) (Nat.le_succ _) _).setCell (p:=⟨X+1,3,none⟩) (Nat.le_succ _) _⟩
theorem A5L (T:List Lk)(n:Nat)(S:T.length=n)(V:0<n)(h4:n≤1000)(base g o cap:Nat)(w:World)(L:A3 w base 249 4 (.slice (some ⟨g,o,none⟩) n cap) n (G2 T))(Y:∀j,j<n→0≤(T.getD j E8).q∧(T.getD j E8).q≤100000) :
 Calls Tryz.prog 135 #[.slice (some ⟨g,o,none⟩) n cap,.func (.func 136) #[] #[]] w fun e w'=>e=.returned (.agg (lkC (T.getD (X7 T n) E8)))∧Below w.heap.size w w':=by
 have HN:=A4 S;have C:g<w.heap.size:=(L.lt rfl).2;have HC:=A4 L.lks;have HQ:=A4 Y;have ap:¬((n:Int)<1):=O;have aq:(0:Int)<n:=O;clear S L Y;obtain⟨t,ht⟩:=A8 (T.getD 0 E8);have v:=HC.o 0 (by rw[HN.o];exact V);rw[←ht]at v;simp only[Nat.zero_mul,Nat.add_zero]at v;obtain⟨d1,d2,d3,d4⟩:=v;have aa:Hd (lkC (T.getD (X7 T 1) E8)=lkC t):=by
  show _=_;have:X7 T 1=0:=by
   have:=Z3 T 1 O;omega
  rw[this,ht]
 obtain⟨⟨k,l⟩,b,m⟩:=t;simp only at d1 d2 d3 d4;have e1:∀ob,(w.alloc ob).cell? ⟨g,o,none⟩=some (I J k):=fun ob=>(World.cell?_of_block (Below.heap_alloc _ _ g C)).trans d1;have e2:∀ob,(w.alloc ob).cell? ⟨g,o+1,none⟩=some (I J l):=fun ob=>(World.cell?_of_block (Below.heap_alloc _ _ g C)).trans d2;have e3:∀ob,(w.alloc ob).cell? ⟨g,o+2,none⟩=some (.float .f64 (fq b)):=fun ob=>(World.cell?_of_block (Below.heap_alloc _ _ g C)).trans d3;have e4:∀ob,(w.alloc ob).cell? ⟨g,o+3,none⟩=some (I J m):=fun ob=>(World.cell?_of_block (Below.heap_alloc _ _ g C)).trans d4;clear d1 d2 d3 d4 ht;go_enter Tryz.func135,Tryz.ntmps135;go_wp2_with fail;obtain⟨X,A⟩:=A8 w.heap.size;have HX:=A4 A;have ab:Hd (MxI w ((w.alloc (.cells #[I J 0,I J 0,.float .f64 0,I J 0] 249)).alloc (.cells #[I J k,I J l,.float .f64 (fq b),I J m] 249)) X (T.getD (X7 T 1) E8)):=by
  refine⟨?_,?_,?_⟩
  ·rw[A];exact(Below.heap_alloc (w.alloc (.cells #[I J 0,I J 0,.float .f64 0,I J 0] 249)) _ _ Zs).trans (heap_alloc_new w _)
  ·rw[aa.o];have:=heap_alloc_new (w.alloc (.cells #[I J 0,I J 0,.float .f64 0,I J 0] 249)) (.cells #[I J k,I J l,.float .f64 (fq b),I J m] 249 (0,0));have e:(w.alloc (.cells #[I J 0,I J 0,.float .f64 0,I J 0] 249)).heap.size=w.heap.size+1:=Zs;rw[e]at this;rw[A];exact this
  ·rw[A];exact((Below.refl _ w).alloc (Nat.le_refl _) _).alloc Zs _
 rw[←A];have ai:g<X:=O;clear e1 e2 e3 e4 aa A;go_loopw [6] (fun M wx=>∃i:Nat,1≤i∧i≤n∧M=I J i∧MxI w wx X (T.getD (X7 T i) E8)) (fun M _=>n-(intOf M).toNat);case atStart=>exact⟨1,O,V,rfl,ab.o⟩
 case round=>
  clear ab;obtain⟨i,ar,au,rfl,s⟩:=hrel;have av:=Z3 T i O;obtain⟨mb,D⟩:=A8 (T.getD (X7 T i) E8);have ac:=HQ.o (X7 T i) O;rw[←D]at s ac;have E:=A4 D;obtain⟨⟨f,mp⟩,a,h⟩:=mb;simp only at ac;have x:=s.2.1;have y:=s.1;have m0:wr.cell? ⟨X+1,0,none⟩=some (I J f):=A1 x rfl;have m1:wr.cell? ⟨X+1,1,none⟩=some (I J mp):=A1 x rfl;have m2:wr.cell? ⟨X+1,2,none⟩=some (.float .f64 (fq a)):=A1 x rfl;have m3:wr.cell? ⟨X+1,3,none⟩=some (I J h):=A1 x rfl;have aj:X+1<wr.heap.size:=lt_of_block x;by_cases ad:i<n
  ·have aw:(i:Int)<n:=O;obtain⟨t,ht⟩:=A8 (T.getD i E8);have v:=HC.o i (by rw[HN.o];exact ad);have ae:=HQ.o i ad;rw[←ht]at v ae;have N:=A4 ht;obtain⟨⟨k,l⟩,b,m⟩:=t;simp only at v ae;obtain⟨d1,d2,d3,d4⟩:=v;rw[←s.2.2.cell ai]at d1 d2 d3 d4;have ak:(1048576:Nat)≤2^53:=Z;have F:=fun W=>A2w ⟨(k,l),b,m⟩ ⟨(f,mp),a,h⟩ W (by simp only;omega) (by simp only;omega);simp only at F;have P:Hd (decide (0<E4 b a)=decide (a<b)):=A9x b a;obtain⟨r,Q⟩:=A8 (E4 b a);rw[←Q]at F P;have ax:-1≤r∧r≤1:=by
    rw[Q];unfold E4;split
    ·omega
    ·split<;>omega
   have cQ:∀d os,Calls Tryz.prog 136 #[.agg #[I J k,I J l,.float .f64 (fq b),I J m],.agg #[I J f,I J mp,.float .f64 (fq a),I J h]] (Sort.grow (redrawn wr d) os) fun e al=>e=.returned (I J r)∧∃p:Regrown,al=Sort.grow (redrawn wr p.d) p.os:=fun d os=>Calls.regrown_of (F _);have k1:=cell_regrown d1;have k2:=cell_regrown d2;have k3:=cell_regrown d3;have k4:=cell_regrown d4;have k5:=cell_regrown m0;have k6:=cell_regrown m1;have k7:=cell_regrown m2;have k8:=cell_regrown m3;have G:=A4 s;have ay:=B06;clear ht Q F ak s y x D;go_wp2_with fail;refine wp_region_quiet_below U U ?_;repeat (go_big_quiet_step (exact cQ _ _))
   refine wpQuiet_nil ?_;intro c af;have B:Below wr.heap.size wr c:=by
    obtain⟨pq,am⟩:=af;rw[am];exact below_regrown wr pq.d pq.os
   have H:g<wr.heap.size:=O;have b1:c.cell? ⟨g,o+i*4,none⟩=some (I J k):=by rw[B.cell H];exact d1
   have b2:c.cell? ⟨g,o+i*4+1,none⟩=some (I J l):=by rw[B.cell H];exact d2
   have b3:c.cell? ⟨g,o+i*4+2,none⟩=some (.float .f64 (fq b)):=by rw[B.cell H];exact d3
   have b4:c.cell? ⟨g,o+i*4+3,none⟩=some (I J m):=by rw[B.cell H];exact d4
   have z:MxI w c X ⟨(f,mp),a,h⟩:=G.o.below B aj;have n0:c.cell? ⟨X+1,0,none⟩=some (I J f):=A1 z.2.1 rfl;have n1:c.cell? ⟨X+1,1,none⟩=some (I J mp):=A1 z.2.1 rfl;have n2:c.cell? ⟨X+1,2,none⟩=some (.float .f64 (fq a)):=A1 z.2.1 rfl;have n3:c.cell? ⟨X+1,3,none⟩=some (I J h):=A1 z.2.1 rfl;have nf:∀j,c.frozen? ⟨X+1,j,none⟩=false:=fun j=>frozen_of_row _ _ _ _ _ z.2.1;have ag:=A4 z;clear af B k1 k2 k3 k4 k5 k6 k7 k8 cQ d1 d2 d3 d4 m0 m1 m2 m3 z G;by_cases R:a<b
   ·have an:0<r:=by have:=P.o;simpa[R] using this
    go_wp2_with fail;go_roundw;case rel=>
     refine⟨i+1,O,O,Zn,?_⟩;have e:X7 T (i+1)=i:=by
      rw[X7,if_pos];rw[←E.o,←N.o];exact R
     rw[e,←N.o];exact ag.o.set ⟨(k,l),b,m⟩
    case measure=>simp[intOf];omega
   ·have an:¬0<r:=by have:=P.o;simpa[R] using this
    go_wp2_with fail;go_roundw;case rel=>
     refine⟨i+1,O,O,Zn,?_⟩;have e:X7 T (i+1)=X7 T i:=by
      rw[X7,if_neg];rw[←E.o,←N.o];simp only;omega
     rw[e,←E.o];exact ag.o
    case measure=>simp[intOf];omega
  ·have ao:i=n:=O;subst ao;have G:=A4 s;have r0:=A1 y (i:=0) rfl;have r1:=A1 y (i:=1) rfl;have r2:=A1 y (i:=2) rfl;have r3:=A1 y (i:=3) rfl;have rf:∀j,wr.frozen? ⟨X,j,none⟩=false:=fun j=>frozen_of_row _ _ _ _ _ y;clear s y x D;go_wp2_with fail;obtain⟨h1,h2,h3⟩:=G.o;have u:=(((D7.of_setCell (i:=0) (I J f) h1).setCell (i:=1) (I J mp)).setCell (i:=2) (.float .f64 (fq a))).setCell (i:=3) (I J h);have ah:Hd (Below X w ((((wr.setCell ⟨X,0,none⟩ (I J f)).setCell ⟨X,1,none⟩ (I J mp)).setCell ⟨X,2,none⟩ (.float .f64 (fq a))).setCell ⟨X,3,none⟩ (I J h))):=(((h3.setCell (p:=⟨X,0,none⟩) (Nat.le_refl _) _).setCell (p:=⟨X,1,none⟩) (Nat.le_refl _) _).setCell (p:=⟨X,2,none⟩) (Nat.le_refl _) _).setCell (p:=⟨X,3,none⟩) (Nat.le_refl _) _;have hu:=u.here;clear u h1 h2 h3 r0 r1 r2 r3 rf m0 m1 m2 m3;generalize ((((wr.setCell ⟨X,0,none⟩ (I J f)).setCell ⟨X,1,none⟩ (I J mp)).setCell ⟨X,2,none⟩ (.float .f64 (fq a))).setCell ⟨X,3,none⟩ (I J h))=K at hu ah⊢;have q0:K.cell? ⟨X,0,none⟩=some (I J f):=A1 hu rfl;have q1:K.cell? ⟨X,1,none⟩=some (I J mp):=A1 hu rfl;have q2:K.cell? ⟨X,2,none⟩=some (.float .f64 (fq a)):=A1 hu rfl;have q3:K.cell? ⟨X,3,none⟩=some (I J h):=A1 hu rfl;clear hu;refine bodyPost_ret (by simp[results,Tryz.results135,go_sem,q0,q1,q2,q3];try rfl) rfl ?_;refine⟨?_,by rw[←HX.o];exact ah.o⟩;rw[←E.o];rfl
end
section
open Go.RowKit Go.Shelf Go.Lib Go.Sort
theorem A2M (P:Program)(w:World)(a:Addr)(m:Mode)(k:FloatKind)(b:Nat):(store a (.float k b) m).run P w=stored P w a (.float k b) m:=run_store P w a _ m rfl
attribute [local go_sem] A2M
theorem A41 (C:List (Int×Int))(n:Nat)(a:C.length=n)(i:n≤1000)(base g o cap:Nat)(w:World)(c:A3 w base 119 2 (.slice (some ⟨g,o,none⟩) n cap) n (A9 C)) :
 Calls Tryz.prog 180 #[.slice (some ⟨g,o,none⟩) n cap] w fun e w'=>e=.returned (.tuple #[])∧A3 w' base 119 2 (.slice (some ⟨g,o,none⟩) n cap) n (A9 C.reverse)∧(∀j,j<w.heap.size→j≠g→w'.heap[j]?=w.heap[j]?)∧w.heap.size≤w'.heap.size∧w'.os=w.os∧w'.tape=w.tape∧w'.output=w.output:=by
 have hH:=c.holdsA a;have b:=AnyQ.slices_Reverse Tryz.reverseA 2 Tryz.isAgg119 Tryz.sizeOf119 R8 (fun _=>rfl) (fun x v d=>by simp[R8]at d;rcases d with rfl|rfl<;>rfl) g o cap C.toArray w hH.1 Zo;change Calls Tryz.prog 180 _ _ _ at b;have f:C.toArray.size=n:=by simpa using a
 rw[f]at b;refine b.mono ?_;rintro e w' ⟨rfl,m,rfl⟩;have e1:C.toArray.reverse=C.reverse.toArray:=Zs;have h:putRowK R8 2 (Sort.ahead w m) g o C.reverse.toArray=sortWorldK R8 2 w g o m C.reverse.toArray #[]:=by
  unfold sortWorldK;rw[grow_empty]
 rw[e1,h];exact⟨rfl,c.sortedA a (by rw[List.length_reverse];exact a)⟩
def A2Q (w:World)(X:Nat):Nat:=match w.cell? ⟨X,3,none⟩ with
 |some (.int _ n)=>(n+1).toNat
 |_=>0
theorem A7N (T:List Lk)(n:Nat)(hn:T.length=n)(h4:n≤1000)(base Tb g o cap c:Nat)(kv:Value)(w:World)(V:c<n)
 (W:w.heap[Tb]?=some (.cells #[kv,.slice (some ⟨g,o,none⟩) n cap] 244 (0,0)))(Y:A3 w base 249 4 (.slice (some ⟨g,o,none⟩) n cap) n (G2 T))(B:∀j,j<n→-1≤(T.getD j E8).p∧(T.getD j E8).p<j)(t:Lk)(ht:t=T.getD c E8) :
 Calls Tryz.prog 137 #[.pointer (some ⟨Tb,0,none⟩),.agg #[I J t.a.1,I J t.a.2,.float .f64 (fq t.q),I J t.p]] w fun e w'=>∃v,e=.returned v∧A3 w' w.heap.size 119 2 v (bk T n c).reverse.length (A9 (bk T n c).reverse)∧Below w.heap.size w w':=by
 obtain⟨i0,ag,ah,ai,aj⟩:=info_parts Tryz.info119;have HN:=A4 hn;have ac:=lt_of_block W;have hg:g<w.heap.size:=(Y.lt rfl).2;have HB:=A4 W;have HC:=A4 Y.lks;have HP:=A4 B;have M:Hd (bk T n c=t.a::bk T (t.p+1).toNat t.p):=by
  show _=_;have ak:=B c V;rw[A0k T n (fun i hi=>(B i hi).2) (c+1) c O O n O];show(if (c:Int)<0 then [] else _)=_;rw[if_neg O,Int.toNat_natCast,←ht];rw[←ht]at ak;congr 1;exact A0k T n (fun i hi=>(B i hi).2) (t.p+1).toNat t.p O O c O
 obtain⟨F,hF⟩:=A8 (bk T n c);rw[←hF]at M⊢;have N:=B c V;rw[←ht]at N;clear hn W Y B ht hF;obtain⟨⟨d,f⟩,x,y⟩:=t;simp only at M N⊢;go_enter Tryz.func137,Tryz.ntmps137;go_wp2_with fail;obtain⟨X,D⟩:=A8 w.heap.size;have HX:=A4 D;have P:Hd (((w.alloc (.cells #[I J d,I J f,.float .f64 (fq x),I J y] 249)).alloc (.cells #[I J d,I J f] 119)).heap[X]?=some (.cells #[I J d,I J f,.float .f64 (fq x),I J y] 249 (0,0))∧A3 ((w.alloc (.cells #[I J d,I J f,.float .f64 (fq x),I J y] 249)).alloc (.cells #[I J d,I J f] 119)) X 119 2 (.slice (some ⟨X+1,0,none⟩) 1 1) 1 (A9 [(d,f)])∧Below X w ((w.alloc (.cells #[I J d,I J f,.float .f64 (fq x),I J y] 249)).alloc (.cells #[I J d,I J f] 119))):=by
  refine⟨?_,?_,?_⟩
  ·rw[D];exact(Below.heap_alloc _ _ _ Zs).trans (heap_alloc_new w _)
  ·have h:=World.ownsRow_lit (base:=X) (e:=119) (size:=2) (w.alloc (.cells #[I J d,I J f,.float .f64 (fq x),I J y] 249)) #[I J d,I J f] 1 Zo (by unfold maxLen;omega) rfl;have e:(w.alloc (.cells #[I J d,I J f,.float .f64 (fq x),I J y] 249)).heap.size=X+1:=Zo;rw[e]at h;exact A3.of_ownsRow h (Nat.le_refl _)
  ·rw[D];exact((Below.refl _ w).alloc (Nat.le_refl _) _).alloc Zs _
 rw[←D];rw[←D]at hg ac;clear D;go_loopw [5] (fun cv wx=>∃(p:Nat) (q:Int) (a:Int×Int) (pp:Int) (C:List (Int×Int)),p<n∧-1≤pp∧pp<p∧wx.heap[X]?=some (.cells #[I J a.1,I J a.2,.float .f64 (fq q),I J pp] 249 (0,0))∧A3 wx X 119 2 cv C.length (A9 C)∧0<C.length∧C.length+p≤n∧Hd (C++bk T (pp+1).toNat pp=F)∧Below X w wx) (fun _ wx=>A2Q wx X);case atStart=>
  refine⟨c,x,(d,f),y,[(d,f)],V,N.1,N.2,P.o.1,P.o.2.1,Zs,Zo,?_,P.o.2.2⟩;show _=_;rw[M.o];rfl
 case round=>
  clear P M;obtain⟨p,q,⟨ar,ap⟩,pp,C,az,aA,aB,s,aa,aC,aD,ad,Q⟩:=hrel;simp only at s;have aE:=lt_of_block s;obtain⟨ao,cc,hv⟩:=aa.shape;subst hv;have x0:wr.cell? ⟨X,0,none⟩=some (I J ar):=A1 s rfl;have x1:wr.cell? ⟨X,1,none⟩=some (I J ap):=A1 s rfl;have x2:wr.cell? ⟨X,2,none⟩=some (.float .f64 (fq q)):=A1 s rfl;have x3:wr.cell? ⟨X,3,none⟩=some (I J pp):=A1 s rfl;have xf:∀j,wr.frozen? ⟨X,j,none⟩=false:=fun j=>frozen_of_row _ _ _ _ _ s;have t1:wr.cell? ⟨Tb,1,none⟩=some (.slice (some ⟨g,o,none⟩) n cap):=A1 ((Q.block Tb ac).trans HB.o) rfl;have al:Hd (A2Q wr X=(pp+1).toNat):=by
   show _=_;unfold A2Q;rw[x3]
  have E:=A4 Q;have K:=A4 aa;have ae:=A4 s;clear s aa;by_cases am:pp=-1
  ·subst am;obtain⟨g1,o1,an,aF⟩:∃g1 o1,ao=some ⟨g1,o1,none⟩∧X≤g1:=by
    rcases K.o.2 with⟨_,h⟩|⟨g',o',cap',cur,he,h1,h2,_⟩
    ·omega
    ·simp only[Value.slice.injEq]at he;exact⟨g',o',he.1,h1⟩
   subst an;have aq:Hd (C=F):=by
    have:=ad.o;show C=F;simpa[bk] using this
   go_wp2_with fail;refine(A41 C C.length rfl O X g1 o1 cc wr K.o).mono ?_;rintro e w' ⟨rfl,r1,r2,r3,r4,r5,r6⟩;have au:=A4 r1;have av:Hd (Below X w w'):=⟨r4.trans E.o.os,r5.trans E.o.tape,r6.trans E.o.output,Nat.le_trans E.o.size r3,fun j hj=>(r2 j O O).trans (E.o.block j hj)⟩;clear r1 r2 r3 r4 r5 r6;go_wp2_with fail;go_ret;refine⟨_,rfl,?_,by rw[←HX.o];exact av.o⟩;rw[←HX.o,←aq.o,List.length_reverse];exact au.o
  ·obtain⟨r,hr⟩:∃r:Nat,pp=r:=⟨pp.toNat,O⟩;subst hr;have aG:(r:Int)<n:=O;obtain⟨d1,d2,d3,d4⟩:=HC.o r (by rw[HN.o];omega);have R:=HP.o r O;rw[←Q.cell hg]at d1 d2 d3 d4;obtain⟨l,hl⟩:=A8 (T.getD r E8);rw[←hl]at d1 d2 d3 d4 R;have HL:=A4 hl.symm;obtain⟨⟨k,m⟩,z,b⟩:=l;simp only at d1 d2 d3 d4 R;clear Q hl;go_wp2_with fail;go_region;have u:=((((D7.of_setCell (i:=0) (I J k) ae.o).setCell (i:=1) (I J m)).setCell (i:=2) (.float .f64 (fq z))).setCell (i:=3) (I J b)).drew;have G:Hd (Below X w ((((wr.setCell ⟨X,0,none⟩ (I J k)).setCell ⟨X,1,none⟩ (I J m)).setCell ⟨X,2,none⟩ (.float .f64 (fq z))).setCell ⟨X,3,none⟩ (I J b)).drew):=((((E.o.setCell (p:=⟨X,0,none⟩) (Nat.le_refl _) _).setCell (p:=⟨X,1,none⟩) (Nat.le_refl _) _).setCell (p:=⟨X,2,none⟩) (Nat.le_refl _) _).setCell (p:=⟨X,3,none⟩) (Nat.le_refl _) _).drew;have L:Hd (A3 ((((wr.setCell ⟨X,0,none⟩ (I J k)).setCell ⟨X,1,none⟩ (I J m)).setCell ⟨X,2,none⟩ (.float .f64 (fq z))).setCell ⟨X,3,none⟩ (I J b)).drew X 119 2 (.slice ao C.length cc) C.length (A9 C)):=K.o.other (fun g2 aw _=>u.other g2 (fun e=>by subst e;exact K.o.tag Z ae.o aw));have H:=u.here;clear u x0 x1 x2 x3 xf t1 d1 d2 d3 d4;generalize ((((wr.setCell ⟨X,0,none⟩ (I J k)).setCell ⟨X,1,none⟩ (I J m)).setCell ⟨X,2,none⟩ (.float .f64 (fq z))).setCell ⟨X,3,none⟩ (I J b)).drew=w4 at H G L⊢;have y0:w4.cell? ⟨X,0,none⟩=some (I J k):=A1 H rfl;have y1:w4.cell? ⟨X,1,none⟩=some (I J m):=A1 H rfl;have S:=A4 H;have af:=lt_of_block H;clear H;clear K;go_wp2_with (at_builtin;go_must (refine B5 _ rfl (.tmp 20) (.tmp 23) 115 rfl 119 i0 _ 2 16 Tryz.underlying115 ag ah ai aj rfl Z X (.slice ao C.length cc) C.length (A9 C) rfl (by exact L.o.other (fun g _ ax=>Below.heap_alloc _ _ _ ax)) ⟨w4.heap.size,0,none⟩ 1 [I J k,I J m] rfl rfl (by exact Z0 _ _ _ _ _ rfl) (P2 _ _) (by unfold maxLen;omega) O Zo ?_;intro g' o' cap' w5 ay A));go_roundw;case rel=>
    have ab:w5.heap[X]?=some (.cells #[I J k,I J m,.float .f64 (fq z),I J b] 249 (0,0)):=by
     rw[A.other X Zo (L.o.tag Z S.o),Below.heap_alloc _ _ _ af];exact S.o
    refine⟨r,z,(k,m),b,C++[(k,m)],O,R.1,R.2,ab,?_,Zs,by simp only[List.length_append,List.length_singleton];omega,?_,?_⟩
    ·rw[List.length_append,J2];exact ay
    ·show _=_;rw[←ad.o,List.append_assoc];congr 1;have e1:((r:Int)+1).toNat=r+1:=O;rw[e1];show _=(if (r:Int)<0 then [] else _);rw[if_neg O,Int.toNat_natCast,HL.o];show(k,m)::bk T (b+1).toNat b=(k,m)::bk T r b;congr 1;exact(A0k T n (fun i hi=>(HP.o i hi).2) (b+1).toNat b O O r O).symm
    ·refine⟨A.os.trans G.o.os,A.tape.trans G.o.tape,A.output.trans G.o.output,?_,fun j hj=>?_⟩
     ·have:=A.size;simp at this;have:=G.o.size;omega
     ·rw[A.other j Zo (fun he=>by have:=(L.o.lt he).1;omega),Below.heap_alloc _ _ _ O];exact G.o.block j hj
   case measure=>
    have ab:w5.heap[X]?=some (.cells #[I J k,I J m,.float .f64 (fq z),I J b] 249 (0,0)):=by
     rw[A.other X Zo (L.o.tag Z S.o),Below.heap_alloc _ _ _ af];exact S.o
    have e5:A2Q w5 X=(b+1).toNat:=by
     unfold A2Q;rw[A1 (v:=I J b) ab rfl]
    rw[e5,al.o];omega
end
section
open Go.RowKit Go.Shelf Go.Lib
def RdA (w:World)(ao:Option Addr)(L:List (Int×Int)):Prop:=L=[]∨∃g o,ao=some ⟨g,o,none⟩∧g<w.heap.size∧∀j (hj:j<L.length),w.cell? ⟨g,o+j*2,none⟩=some (I J L[j].1)∧w.cell? ⟨g,o+j*2+1,none⟩=some (I J L[j].2)
def O0 (L:List (Int×Int))(k:Int):Int:=if k<1∨12<k then 6 else if 400<L.length then 1 else if L.length=0 then 7 else if L.any A0C then 2 else 0
theorem A2E (L:List (Int×Int)):L.any A0C=true↔¬∀x∈L,okA x:=by
 rw[List.any_eq_true];constructor
 ·rintro⟨x,a,h⟩ b;exact(A21 x).1 h (b x a)
 ·intro h;apply Classical.byContradiction;intro c;refine h (fun x a=>?_);rw[←A9H];cases d:A0C x with
  |false=>rfl
  |true=>exact absurd ⟨x,a,d⟩ c
theorem A4c (L:List (Int×Int))(n:Nat)(m:L.length=n)(p:0<n)(q:n≤400)(g o cap:Nat)(w:World)(f:g<w.heap.size)
 (k:∀j (b:j<L.length),w.cell? ⟨g,o+j*2,none⟩=some (I J L[j].1)∧w.cell? ⟨g,o+j*2+1,none⟩=some (I J L[j].2)) :
 Calls Tryz.prog 173 #[.slice (some ⟨g,o,none⟩) n cap,.func (.func 174) #[] #[]] w fun e w'=>e=.returned (.bool (L.any A0C))∧Below w.heap.size w w':=by
 have l:∀args w,(callFunc 174 args).run Tryz.prog w=.ok (.enter 174 args) w:=enters_of Tryz.func174 U rfl;have c:=AnyQ.slices_ContainsFunc Tryz.containsA 2 Tryz.isAgg119 Tryz.sizeOf119 R8 (fun _=>rfl) A0C 174 #[] l g o n cap L w
  (fun W x d=>(A2s x W).mono fun _ _ ⟨he,hw⟩=>⟨he,d.trans (hw.mono d.size)⟩) O O f
  (fun j b i v a=>by
   have e:L[j]! = L[j]:=by simp[b]
   rw[e]at a
   have:=k j b
   match i,a with
   |0,a=>
    have h:I J L[j].1=v:=by simpa[R8] using a
    rw[←h];exact this.1
   |1,a=>
    have h:I J L[j].2=v:=by simpa[R8] using a
    rw[←h];exact this.2
   |i+2,a=>simp[R8]at a)
 change Calls Tryz.prog 173 _ _ _ at c;rw[List.take_of_length_le O]at c;exact c
theorem A0B (L:List (Int×Int))(n:Nat)(b:L.length=n)(h:Option Addr)(cap:Nat)(k:Int)(w:World)(a:RdA w h L) :
 Calls Tryz.prog 132 #[.slice h n cap,I J k] w fun e w'=>e=.returned (I J (O0 L k))∧Below w.heap.size w w':=by
 by_cases i:k<1
 ·have e:O0 L k=6:=by unfold O0;rw[if_pos (Or.inl i)]
  rw[e];go_enter Tryz.func132,Tryz.ntmps132;go_wp2_with fail;go_ret;exact⟨rfl,Below.refl _ _⟩
 ·by_cases j:12<k
  ·have e:O0 L k=6:=by unfold O0;rw[if_pos (Or.inr j)]
   rw[e];go_enter Tryz.func132,Tryz.ntmps132;go_wp2_with fail;go_ret;exact⟨rfl,Below.refl _ _⟩
  ·by_cases q:400<n
   ·have e:O0 L k=1:=by unfold O0;rw[if_neg O,if_pos O]
    have l:(400:Int)<n:=O;rw[e];go_enter Tryz.func132,Tryz.ntmps132;go_wp2_with fail;go_ret;exact⟨rfl,Below.refl _ _⟩
   ·have l:¬(400:Int)<n:=O;by_cases m:n=0
    ·subst m;have e:O0 L k=7:=by unfold O0;rw[if_neg O,if_neg O,if_pos O]
     rw[e];go_enter Tryz.func132,Tryz.ntmps132;go_wp2_with fail;go_ret;exact⟨rfl,Below.refl _ _⟩
    ·have r:¬((n:Int)=0):=O;rcases a with a|⟨g,o,rfl,p,a⟩
     ·rw[a]at b;simp at b;omega
     ·have c:=A4c L n b O O g o cap w p a;have e:O0 L k=if L.any A0C then 2 else 0:=by unfold O0;rw[if_neg O,if_neg O,if_neg O]
      rw[e];clear e a;cases d:L.any A0C with
      |true=>
       rw[d]at c;clear d b;simp only[if_true];go_enter Tryz.func132,Tryz.ntmps132;go_wp2_with (go_at_call 173;refine c.mono ?_;rintro e w' ⟨rfl,f⟩);go_ret;exact⟨rfl,f⟩
      |false=>
       rw[d]at c;clear d b;simp only[if_false,Bool.false_eq_true];go_enter Tryz.func132,Tryz.ntmps132;go_wp2_with (go_at_call 173;refine c.mono ?_;rintro e w' ⟨rfl,f⟩);go_ret;exact⟨rfl,f⟩
theorem A6S (L:List (Int×Int))(n:Nat)(b:L.length=n)(a:Option Addr)(cap:Nat)(k:Int)(w:World)(c:RdA w a L)(he:O0 L k≠0) :
 Calls Tryz.prog 103 #[.slice a n cap,I J k] w fun e w'=>e=B2v (O0 L k)∧Below w.heap.size w w':=by
 have d:=A0B L n b a cap k w c;generalize O0 L k=r at d he⊢;clear b c;go_enter Tryz.func103,Tryz.ntmps103;go_wp2_with (go_at_call 132;refine d.mono ?_;rintro e w' ⟨rfl,f⟩);go_ret3;exact⟨rfl,f⟩
theorem A2Z (P:Program)(w:World)(a:Addr)(m:Mode)(k:FloatKind)(b:Nat):(store a (.float k b) m).run P w=stored P w a (.float k b) m:=run_store P w a _ m rfl
attribute [local go_sem] A2Z
theorem A3.base {w:World}{b a:Nat}{e:TypeId}{size:Nat}{v:Value}{n:Nat}{xs:List Value}(h:A3 w b e size v n xs)(c:a≤b):A3 w a e size v n xs:=by
 obtain⟨d,h⟩:=h;refine⟨d,?_⟩;rcases h with h|⟨g,o,cap,cur,h1,f,i⟩
 ·exact Or.inl h
 ·exact Or.inr ⟨g,o,cap,cur,h1,Nat.le_trans c f,i⟩
theorem A72 (L:List (Int×Int))(n:Nat)(l:L.length=n)(Y:Option Addr)(cap:Nat)(k:Int)(w:World)(r:RdA w Y L)(he:O0 L k=0) :
 Calls Tryz.prog 103 #[.slice Y n cap,I J k] w fun e w'=>∃v,e=.returned (.tuple #[v,.float .f64 (fq (chQ k L)),I J 0])∧Below w.heap.size w w'∧A3 w' w.heap.size 119 2 v (L8 k L).length (A9 (L8 k L)):=by
 have cC:=A0B L n l Y cap k w r;rw[he]at cC;obtain⟨aq,ar,M,N,af⟩:1≤k∧k≤12∧n≤400∧0<n∧∀x∈L,okA x:=by
  unfold O0 at he;by_cases hk:k<1∨12<k
  ·rw[if_pos hk]at he;omega
  ·rw[if_neg hk]at he;by_cases M:400<L.length
   ·rw[if_pos M]at he;omega
   ·rw[if_neg M]at he;by_cases N:L.length=0
    ·rw[if_pos N]at he;omega
    ·rw[if_neg N]at he;by_cases P:L.any A0C=true
     ·rw[if_pos P]at he;omega
     ·refine⟨O,O,O,O,?_⟩;apply Classical.byContradiction;intro hx;exact P ((A2E L).2 hx)
 rcases r with r|⟨g,o,rfl,hg,r⟩
 ·rw[r]at l;simp at l;omega
 ·have HA:=A4 r;have au:=A4 af;have HN:=A4 l;have Q:0<(canon L).length:=A0E L (fun h=>by rw[h]at l;simp at l;omega);have ag:(canon L).length≤400:=Nat.le_trans (S5 L) O;have d:Hd (chQ k L=((tb k (canon L) (canon L).length).getD (X7 (tb k (canon L) (canon L).length) (canon L).length) E8).q∧L8 k L=(bk (tb k (canon L) (canon L).length) (canon L).length (X7 (tb k (canon L) (canon L).length) (canon L).length)).reverse):=⟨rfl,rfl⟩;clear r af l he;go_enter Tryz.func103,Tryz.ntmps103;go_wp2_with (go_at_call 132;refine cC.mono ?_;rintro e w1 ⟨rfl,s⟩);have aA:=s.size;have ah:g<(w1.alloc (.cells #[I J k,.slice none 0 0] 244)).heap.size:=Zo;have aa:Below w1.heap.size w1 (w1.alloc (.cells #[I J k,.slice none 0 0] 244)):=(Below.refl _ _).alloc (Nat.le_refl _) _;have ai:=A3e L n HN.o w1.heap.size g o cap k (w1.alloc (.cells #[I J k,.slice none 0 0] 244)) aq ar N M ah O (fun j u=>by
   have:=HA.o j u;rw[aa.cell (show g<_ by omega),aa.cell (show g<_ by omega),s.cell hg,s.cell hg];exact this) au.o (heap_alloc_new w1 _)
  refine ai.mono ?_;rintro e b ⟨rfl,v,H,y,E⟩;have aj:Hd (Below w.heap.size w b):=by
   have av:=E.size;simp at av;refine⟨E.os.trans s.os,E.tape.trans s.tape,E.output.trans s.output,O,fun j u=>?_⟩;rw[E.other j Zo O,Below.heap_alloc _ _ _ O];exact s.block j u
  clear ai aa ah cC;obtain⟨S,hS⟩:=A8 (canon L);rw[←hS]at Q ag d y;obtain⟨m,hm⟩:=A8 S.length;rw[←hm]at Q ag d y;obtain⟨Tb,ak⟩:=A8 w1.heap.size;rw[←ak]at H⊢;have ab:∀j,j<m→0≤((tb k S m).getD j E8).q∧((tb k S m).getD j E8).q≤100000:=fun j u=>by
   have P:=S9 k O S m j u;refine⟨O,?_⟩;have h1:=P.2.1;have:4*k*((j:Int)+1)≤48*401:=Int.mul_le_mul O O O O;omega
  have ac:∀j,j<m→-1≤((tb k S m).getD j E8).p∧((tb k S m).getD j E8).p<j:=fun j u=>(S9 k O S m j u).2.2;have R:=Q3 k S m;obtain⟨T,hT⟩:=A8 (tb k S m);rw[←hT]at d y ab ac R;obtain⟨g2,F,c2,hv,aw⟩:∃g2 F c2,v=.slice (some ⟨g2,F,none⟩) m c2∧b.heap[g2]?≠none:=by
   rcases y.2 with⟨_,h⟩|⟨g',o',cap',cur,he,h1,h2,_⟩
   ·omega
   ·exact⟨g',o',cap',he,by rw[h2];simp⟩
  subst hv;have tc:b.cell? ⟨Tb,1,none⟩=some (.slice (some ⟨g2,F,none⟩) m c2):=A1 H rfl;have al:=Z3 T m Q;obtain⟨mb,am⟩:=A8 (X7 T m);have V:=A5L T m R Q O _ g2 F c2 b y ab;rw[←am]at V al d;obtain⟨t,ht⟩:=A8 (T.getD mb E8);rw[←ht]at V d;have ax:=lt_of_block H;have ad:=fun (z:World) (G:Below b.heap.size b z)=>A7N T m R O _ Tb g2 F c2 mb (I J k) z al ((G.block Tb ax).trans H) (y.other (fun g' _ ay=>G.block g' ay)) ac t ht;obtain⟨⟨A,B⟩,C,D⟩:=t;simp only at d ad;have an:Calls Tryz.prog 135 #[.slice (some ⟨g2,F,none⟩) m c2,.func (.func 136) #[] #[]] b fun e w'=>e=.returned (.agg #[I J A,I J B,.float .f64 (fq C),I J D])∧Below b.heap.size b w':=V;clear V hT hS hm H y E aw ab ac R ht am ak;go_wp2_with (go_at_call 135;refine an.mono ?_;rintro e z ⟨rfl,G⟩);have f:=heap_alloc_new z (.cells #[I J A,I J B,.float .f64 (fq C),I J D] 249 (0,0));have W:Below b.heap.size b (z.alloc (.cells #[I J A,I J B,.float .f64 (fq C),I J D] 249)):=G.alloc G.size _;obtain⟨a,ap⟩:=A8 z.heap.size;rw[←ap]at f⊢;clear G an ap tc;generalize z.alloc (.cells #[I J A,I J B,.float .f64 (fq C),I J D] 249)=i at f W⊢;have z0:i.cell? ⟨a,0,none⟩=some (I J A):=A1 f rfl;have z1:i.cell? ⟨a,1,none⟩=some (I J B):=A1 f rfl;have z2:i.cell? ⟨a,2,none⟩=some (.float .f64 (fq C)):=A1 f rfl;have z3:i.cell? ⟨a,3,none⟩=some (I J D):=A1 f rfl;have X:=lt_of_block f;have c5:=ad i.drew W.drew;have ae:Hd (Below w.heap.size w i):=aj.o.trans (W.mono aj.o.size);clear f ad W;go_region_held3 (fun w'=>w'.cell? ⟨a,0,none⟩=some (I J A)∧w'.cell? ⟨a,1,none⟩=some (I J B)∧w'.cell? ⟨a,2,none⟩=some (.float .f64 (fq C))∧w'.cell? ⟨a,3,none⟩=some (I J D)) (go_keep) ((go_at_call 137;refine c5.mono ?_;rintro e K ⟨v6,rfl,az,c⟩;have y0:K.cell? ⟨a,0,none⟩=some (I J A):=(c.cell X).trans z0;have y1:K.cell? ⟨a,1,none⟩=some (I J B):=(c.cell X).trans z1;have y2:K.cell? ⟨a,2,none⟩=some (.float .f64 (fq C)):=(c.cell X).trans z2;have y3:K.cell? ⟨a,3,none⟩=some (I J D):=(c.cell X).trans z3));all_goals go_wp2_with fail
  all_goals go_ret3
  refine⟨v6,by rw[d.o.1];rfl,ae.o.trans ((show Below i.heap.size i K from⟨c.os,c.tape,c.output,c.size,c.block⟩).mono ae.o.size),?_⟩;rw[d.o.2];exact az.base ae.o.size
def B1f (L:List (Int×Int))(k:Int):Int:=O0 L k
def A49 (L:List (Int×Int))(k:Int):Nat:=if O0 L k=0 then fq (chQ k L) else 0
def A1C (L:List (Int×Int))(k:Int):List (Int×Int):=if O0 L k=0 then L8 k L else []
def B0f (L:List (Int×Int))(k:Int)(w:World)(e:Ending)(w':World):Prop:=
 ∃v,e=.returned (.tuple #[v,.float .f64 (A49 L k),I J (B1f L k)])∧Below w.heap.size w w'∧A3 w' w.heap.size 119 2 v (A1C L k).length (A9 (A1C L k))∧(B1f L k≠0→v=.slice none 0 0)
theorem A6x {L:List (Int×Int)}{k a:Int}{w w':World}{e:Ending}(he:O0 L k=a)(b:a≠0)(h:e=B2v a∧Below w.heap.size w w'):B0f L k w e w':=by
 obtain⟨rfl,c⟩:=h;have e1:A1C L k=[]:=by unfold A1C;rw[if_neg (by rw[he];exact b)]
 have d:A49 L k=0:=by unfold A49;rw[if_neg (by rw[he];exact b)]
 have f:B1f L k=a:=he;refine⟨.slice none 0 0,?_,c,?_,fun _=>rfl⟩
 ·rw[d,f];rfl
 ·rw[e1];exact A3.nil _ _ _ _
theorem A6U (L:List (Int×Int))(n:Nat)(b:L.length=n)(a:Option Addr)(cap:Nat)(k:Int)(w:World)(c:RdA w a L) :
 Calls Tryz.prog 103 #[.slice a n cap,I J k] w fun e w'=>B0f L k w e w':=by
 by_cases he:O0 L k=0
 ·refine(A72 L n b a cap k w c he).mono ?_;rintro e w' ⟨v,rfl,d,ho⟩;refine⟨v,?_,d,?_,fun h=>absurd he h⟩
  ·unfold A49 B1f;rw[if_pos he,he]
  ·unfold A1C;rw[if_pos he];exact ho
 ·refine(A6S L n b a cap k w c he).mono ?_;intro e w' h;exact A6x rfl he h
theorem A0Q (L:List (Int×Int))(k:Int)(he:O0 L k=0):0≤chQ k L∧chQ k L≤100000∧(L8 k L).length≤400:=by
 have h:1≤k∧k≤12∧L.length≤400∧0<L.length:=by
  unfold O0 at he;by_cases hk:k<1∨12<k
  ·rw[if_pos hk]at he;omega
  ·rw[if_neg hk]at he;by_cases a:400<L.length
   ·rw[if_pos a]at he;omega
   ·rw[if_neg a]at he;by_cases c:L.length=0
    ·rw[if_pos c]at he;omega
    ·omega
 have d:0<(canon L).length:=A0E L (fun g=>by rw[g]at h;simp at h);have i:(canon L).length≤400:=Nat.le_trans (S5 L) O;have j:=Z3 (chT k L) (canon L).length d;have b:=S9 k O (canon L) (canon L).length (X7 (chT k L) (canon L).length) j;have h1:=b.2.1;have m:4*k*(((X7 (chT k L) (canon L).length:Nat):Int)+1)≤48*401:=Int.mul_le_mul O O O O;refine⟨?_,?_,?_⟩
 ·have:=b.1;show 0≤((tb k (canon L) (canon L).length).getD (X7 (chT k L) (canon L).length) E8).q;omega
 ·show((tb k (canon L) (canon L).length).getD (X7 (chT k L) (canon L).length) E8).q≤100000;omega
 ·unfold L8;rw[List.length_reverse];have:∀(T:List Lk) (f:Nat) (p:Int),(bk T f p).length≤f:=by
   intro T f;induction f with
   |zero=>intro p;simp[bk]
   |succ f l=>
    intro p;unfold bk;split
    ·simp
    ·simp only[List.length_cons];have:=l (T.getD p.toNat E8).p;omega
  exact Nat.le_trans (this _ _ _) i
end
def A0:Int×Int:=(0,0)
def wqs (k:Int)(C:List (Int×Int)):Nat→Int
 |0=>4*k
 |i+1=>wqs k C i+qtr (C.getD i A0) (C.getD (i+1) A0) k
def B14 (C:List (Int×Int))(m:Nat):Prop:=∀i,i+1<m→fol (C.getD i A0) (C.getD (i+1) A0)
theorem A5t (k:Int)(x:Int×Int)(T:List Lk):∀m,((J4 k x T m).2=-1∧(J4 k x T m).1=4*k)∨∃j:Nat,j<m∧(J4 k x T m).2=j∧fol (T.getD j E8).a x∧(J4 k x T m).1=(T.getD j E8).q+qtr (T.getD j E8).a x k
 |0=>Or.inl ⟨rfl,rfl⟩
 |m+1=>by
  unfold J4
  split
  ·rename_i b
   exact Or.inr ⟨m,O,rfl,b.1,rfl⟩
  ·rcases A5t k x T m with h|⟨j,h1,c⟩
   ·exact Or.inl h
   ·exact Or.inr ⟨j,O,c⟩
theorem A1P (k:Int)(S:List (Int×Int))(n i:Nat)(hi:i<n):(tb k S n).getD i E8=⟨S.getD i (0,0),(J4 k (S.getD i (0,0)) (tb k S n) i).1,(J4 k (S.getD i (0,0)) (tb k S n) i).2⟩:=by
 have e:=A2e k (S.getD i (0,0)) (tb k S i) (tb k S n) i (fun j a=>by rw[N9 k S j i a,N9 k S j n O]);rw[N9 k S i n hi,e]
theorem P9 (A B:List (Int×Int))(i:Nat)(h:i<A.length):(A++B).getD i A0=A.getD i A0:=by
 rw[List.getD_eq_getElem?_getD,List.getElem?_append_left h,←List.getD_eq_getElem?_getD]
theorem A69 (k:Int)(A B:List (Int×Int)):∀i,i<A.length→wqs k (A++B) i=wqs k A i
 |0,_=>rfl
 |i+1,h=>by
  show wqs k (A++B) i+_=wqs k A i+_
  rw[A69 k A B i O,P9 A B i O,P9 A B (i+1) h]
theorem A8E (k:Int)(S:List (Int×Int))(n:Nat):∀p,p<n→∃R,(bk (tb k S n) (p+1) p).reverse=R++[S.getD p (0,0)]∧B14 (R++[S.getD p (0,0)]) (R.length+1)∧wqs k (R++[S.getD p (0,0)]) R.length=((tb k S n).getD p E8).q∧∀x∈R,∃j,j<n∧x=S.getD j (0,0):=by
 intro p;induction p using Nat.strongRecOn with
 |_ p h=>
  intro l;obtain⟨T,z⟩:=A8 (tb k S n);have a:=A1P k S n p l;have m:∀i,i<n→((tb k S n).getD i E8).p<i:=fun i hi=>by
   rw[A1P k S n i hi];exact(A5P _ _ _ _).2
  have f:bk (tb k S n) (p+1) p=S.getD p (0,0)::bk (tb k S n) p ((tb k S n).getD p E8).p:=by
   show(if (p:Int)<0 then [] else _)=_;rw[if_neg O,Int.toNat_natCast];congr 1;rw[a]
  rcases A5t k (S.getD p (0,0)) (tb k S n) p with⟨h1,c⟩|⟨j,h1,c,g,o⟩
  ·have e1:((tb k S n).getD p E8).p=-1:=by rw[a];exact h1
   have d:((tb k S n).getD p E8).q=4*k:=by rw[a];exact c
   refine⟨[],?_,fun i hi=>absurd hi Zs,?_,Zs⟩
   ·rw[f,e1];have:bk (tb k S n) p (-1)=[]:=by cases p<;>simp[bk]
    rw[this];rfl
   ·rw[d];rfl
  ·have e1:((tb k S n).getD p E8).p=j:=by rw[a];exact c
   have d:((tb k S n).getD p E8).q=((tb k S n).getD j E8).q+qtr (S.getD j (0,0)) (S.getD p (0,0)) k:=by
    rw[a];show(J4 k (S.getD p (0,0)) (tb k S n) p).1=_;rw[o,A1P k S n j O]
   have r:fol (S.getD j (0,0)) (S.getD p (0,0)):=by rw[A1P k S n j O]at g;exact g
   obtain⟨R,s,t,u,v⟩:=h j h1 O;refine⟨R++[S.getD j (0,0)],?_,?_,?_,?_⟩
   ·rw[f,e1,A0k (tb k S n) n m (j+1) j O O p O,List.reverse_cons,s]
   ·intro i hi;simp only[List.length_append,List.length_singleton]at hi;by_cases w:i+1<R.length+1
    ·rw[P9 _ _ i Zo,P9 _ _ (i+1) Zo];exact t i w
    ·have y:i=R.length:=O;subst y;rw[P9 _ _ _ Zs];have g1:(R++[S.getD j (0,0)]).getD R.length A0=S.getD j (0,0):=by
      rw[List.getD_eq_getElem?_getD,List.getElem?_append_right (Nat.le_refl _)];simp
     have g2:(R++[S.getD j (0,0)]++[S.getD p (0,0)]).getD (R.length+1) A0=S.getD p (0,0):=by
      rw[List.getD_eq_getElem?_getD,List.getElem?_append_right Zs];simp
     rw[g1,g2];exact r
   ·rw[List.length_append,List.length_singleton];show wqs k _ R.length+qtr _ _ k=_;rw[A69 k (R++[S.getD j (0,0)]) _ R.length Zs,u,P9 _ _ _ Zs];have g1:(R++[S.getD j (0,0)]).getD R.length A0=S.getD j (0,0):=by
     rw[List.getD_eq_getElem?_getD,List.getElem?_append_right (Nat.le_refl _)];simp
    have g2:(R++[S.getD j (0,0)]++[S.getD p (0,0)]).getD (R.length+1) A0=S.getD p (0,0):=by
     rw[List.getD_eq_getElem?_getD,List.getElem?_append_right Zs];simp
    rw[g1,g2,d]
   ·intro x b;rw[List.mem_append,List.mem_singleton]at b;rcases b with b|rfl
    ·exact v x b
    ·exact⟨j,O,rfl⟩
theorem A6h (k:Int)(L:List (Int×Int))(h:L≠[]):B14 (L8 k L) (L8 k L).length∧wqs k (L8 k L) ((L8 k L).length-1)=chQ k L∧0<(L8 k L).length∧∀x∈L8 k L,x∈L:=by
 have g:=A0E L h;have c:=Z3 (tb k (canon L) (canon L).length) (canon L).length g;obtain⟨R,l,m,n,o⟩:=A8E k (canon L) (canon L).length _ c;have q:∀i,i<(canon L).length→((tb k (canon L) (canon L).length).getD i E8).p<i:=fun i hi=>by
  rw[A1P k _ _ i hi];exact(A5P _ _ _ _).2
 have e:L8 k L=R++[(canon L).getD (X7 (tb k (canon L) (canon L).length) (canon L).length) (0,0)]:=by
  rw[←l];show(bk _ _ _).reverse=_;congr 1;exact A0k (tb k (canon L) (canon L).length) (canon L).length q (X7 (tb k (canon L) (canon L).length) (canon L).length+1) ((X7 (tb k (canon L) (canon L).length) (canon L).length:Nat):Int) O O (canon L).length O
 have d:(L8 k L).length=R.length+1:=by rw[e];simp
 have f:∀j,j<(canon L).length→(canon L).getD j (0,0)∈L:=fun j a=>by
  rw[List.getD_eq_getElem?_getD,List.getElem?_eq_getElem a];exact(Y3 L _).1 (List.getElem_mem a)
 refine⟨?_,?_,O,?_⟩
 ·rw[d,e];exact m
 ·rw[d,e,Nat.add_sub_cancel];exact n
 ·intro x b;rw[e,List.mem_append,List.mem_singleton]at b;rcases b with b|rfl
  ·obtain⟨j,a,rfl⟩:=o x b;exact f j a
  ·exact f _ c
end Mn
end Go.Proofs.YtilcmkiihefkkaaGreatDoor
