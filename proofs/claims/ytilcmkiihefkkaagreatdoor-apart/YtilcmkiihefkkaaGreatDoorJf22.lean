import Derived.Deep.CutBlock
import Derived.Deep.DeepCutAuto
import Derived.Deep.RegionHeld3
import Derived.Lib.QuietBelow
import Derived.Shelf.LaySoft
import Derived.Test.YtilcmkiihefkkaaGreatDoorJf2
import Derived.Test.YtilcmkiihefkkaaGreatDoorJf9
set_option linter.unusedVariables false
set_option linter.unusedSimpArgs false
set_option maxRecDepth 1000000
set_option maxHeartbeats 64000000
open Go.Value renaming int→I
open Go.IntKind renaming i64→J
namespace Go.Proofs.YtilcmkiihefkkaaGreatDoor
section
open Go.RowKit Go.Shelf Go.Lib
theorem A3.shape {w:World}{base:Nat}{e:TypeId}{size:Nat}{v:Value}{n:Nat}{xs:List Value}(h:A3 w base e size v n xs):∃a c,v=.slice a n c:=by
 rcases h.2 with⟨h1,b⟩|⟨g,o,cap,cur,h1,_⟩
 ·subst b;exact⟨none,0,h1⟩
 ·exact⟨_,cap,h1⟩
theorem B3 {B:Nat}{a w:World}(h:Below B a w)(n:Nat):Below B a (w.drewN n):=⟨h.os,h.tape,h.output,h.size,h.block⟩
def E4 (a b:Int):Int:=if a<b then -1 else if b<a then 1 else 0
theorem A14 (a:Int)(w:World):Calls Tryz.prog 165 #[I J a] w fun e w'=>e=.returned (.bool false)∧w'=w:=by
 go_enter Tryz.func165,Tryz.ntmps165;go_wp2;go_ret;exact⟨Zs,rfl⟩
theorem A83 (a b:Int)(w:World):Calls Tryz.prog 119 #[I J a,I J b] w fun e w'=>e=.returned (I J (E4 a b))∧w'=w:=by
 go_enter Tryz.func119,Tryz.ntmps119;by_cases h1:a<b
 ·have e:E4 a b=-1:=by unfold E4;rw[if_pos h1]
  rw[e];go_wp2_with (go_at_call 165;refine(A14 _ _).mono ?_;rintro e w' ⟨rfl,rfl⟩);go_ret;exact⟨rfl,rfl⟩
 ·by_cases c:b<a
  ·have e:E4 a b=1:=by unfold E4;rw[if_neg h1,if_pos c]
   rw[e];go_wp2_with (go_at_call 165;refine(A14 _ _).mono ?_;rintro e w' ⟨rfl,rfl⟩);go_ret;exact⟨rfl,rfl⟩
  ·have e:E4 a b=0:=by unfold E4;rw[if_neg h1,if_neg c]
   rw[e];go_wp2_with (go_at_call 165;refine(A14 _ _).mono ?_;rintro e w' ⟨rfl,rfl⟩);go_ret;exact⟨rfl,rfl⟩
theorem A9T (k a l b:Int)(w:World):Calls Tryz.prog 148 #[.agg #[I J k,I J a],.agg #[I J l,I J b]] w fun e w'=>e=.returned (I J (E4 a b))∧Below w.heap.size w w':=by
 go_enter Tryz.func148,Tryz.ntmps148;go_wp2_with (go_at_call 119;refine(A83 _ _ _).mono ?_;rintro e w' ⟨rfl,rfl⟩);go_ret;exact⟨rfl,((Below.refl _ w).alloc (Nat.le_refl _) _).alloc Zs _⟩
theorem A8O (args:Array Value)(w:World):(callFunc 148 args).run Tryz.prog w=.ok (.enter 148 args) w:=enters_of Tryz.func148 U rfl args w
def bi (f:Nat→Int):Nat→Nat
 |0=>0
 |i+1=>if f i<f (bi f i) then i else bi f i
theorem A9e (f:Nat→Int):∀i,0<i→bi f i<i
 |0,h=>absurd h O
 |i+1,_=>by
  unfold bi
  split
  ·omega
  ·rcases Nat.eq_zero_or_pos i with rfl|h
   ·simp[bi]
   ·have:=A9e f i h;omega
def MnI (w wx:World)(X:Nat)(k a:Int):Prop:=wx.heap[X]?=some (.cells #[I J 0,I J 0] 224 (0,0))∧wx.heap[X+1]?=some (.cells #[I J k,I J a] 224 (0,0))∧Below X w wx
theorem MnI.below {w wx c:World}{X:Nat}{k a:Int}(h:MnI w wx X k a){B:Nat}(b:Below B wx c)(d:X+1<B):MnI w c X k a:=
 ⟨(b.block X O).trans h.1,(b.block (X+1) d).trans h.2.1,h.2.2.trans (b.mono O)⟩
theorem MnI.set {w wx:World}{X:Nat}{k a:Int}(h:MnI w wx X k a)(l b:Int):MnI w ((wx.setCell ⟨X+1,0,none⟩ (I J l)).setCell ⟨X+1,1,none⟩ (I J b)) X l b:=by
 obtain⟨h1,c,d⟩:=h;have u:=(D7.of_setCell (i:=0) (I J l) c).setCell (i:=1) (I J b);exact⟨(u.other X O).trans h1,u.here,((d.setCell (p:=⟨X+1,0,none⟩) (Nat.le_succ _) _).setCell (p:=⟨X+1,1,none⟩) (Nat.le_succ _) _)⟩
theorem B0i (a b:Int):decide (E4 a b<0)=decide (a<b):=by
 unfold E4;by_cases h1:a<b
 ·simp[h1]
 ·rw[if_neg h1];by_cases c:b<a
  ·simp[h1,c]
  ·simp[h1,c]
theorem A9z (f:Nat→Int)(g:Nat)(w:World)(N:g<w.heap.size)
 (D:∀j,j<3→w.cell? ⟨g,j*2,none⟩=some (I J j)∧w.cell? ⟨g,j*2+1,none⟩=some (I J (f j))) :
 Calls Tryz.prog 147 #[.slice (some ⟨g,0,none⟩) 3 3,.func (.func 148) #[] #[]] w fun e w'=>e=.returned (.agg #[I J (bi f 3:Nat),I J (f (bi f 3))])∧Below w.heap.size w w':=by
 have HC:=A4 D;obtain⟨d1,d2⟩:=D 0 O;simp only[Nat.zero_mul,Nat.add_zero,Nat.zero_add,Int.ofNat_zero]at d1 d2;obtain⟨c0,E⟩:=A8 (f 0);rw[←E]at d2;have ab:=A4 E;have e1:∀ob,(w.alloc ob).cell? ⟨g,0,none⟩=some (I J 0):=fun ob=>(World.cell?_of_block (Below.heap_alloc _ _ g N)).trans d1;have e2:∀ob,(w.alloc ob).cell? ⟨g,1,none⟩=some (I J c0):=fun ob=>(World.cell?_of_block (Below.heap_alloc _ _ g N)).trans d2;clear d1 d2 D E;go_enter Tryz.func147,Tryz.ntmps147;go_wp2_with fail;obtain⟨X,m⟩:=A8 w.heap.size;have HX:=A4 m;have P:Hd (MnI w ((w.alloc (.cells #[I J 0,I J 0] 224)).alloc (.cells #[I J 0,I J c0] 224)) X (bi f 1:Nat) (f (bi f 1))):=by
  refine⟨?_,?_,?_⟩
  ·rw[m];exact(Below.heap_alloc (w.alloc (.cells #[I J 0,I J 0] 224)) _ _ Zs).trans (heap_alloc_new w _)
  ·have:=heap_alloc_new (w.alloc (.cells #[I J 0,I J 0] 224)) (.cells #[I J 0,I J c0] 224 (0,0));have e:(w.alloc (.cells #[I J 0,I J 0] 224)).heap.size=w.heap.size+1:=Zs;rw[e]at this;rw[m];have hb:bi f 1=0:=by have:=A9e f 1 O;omega
   rw[hb,←ab.o];exact this
  ·rw[m];exact((Below.refl _ w).alloc (Nat.le_refl _) _).alloc Zs _
 rw[←m];have ac:g<X:=O;clear e1 e2 m;go_loopw [6] (fun F wx=>∃i:Nat,1≤i∧i≤3∧F=I J i∧MnI w wx X (bi f i:Nat) (f (bi f i))) (fun F _=>3-(intOf F).toNat);case atStart=>exact⟨1,O,O,rfl,P.o⟩
 case round=>
  clear P;obtain⟨i,aj,ak,rfl,k⟩:=hrel;have n:Hd (∀x,x=bi f i→x=bi f i):=fun _ h=>h;obtain⟨b,v⟩:=A8 (bi f i);obtain⟨a,y⟩:=A8 (f b);rw[←v,←y]at k;have n:=A4 v;have z:=A4 y;have q:=k.2.1;have s:=k.1;have m0:wr.cell? ⟨X+1,0,none⟩=some (I J b):=A1 q rfl;have m1:wr.cell? ⟨X+1,1,none⟩=some (I J a):=A1 q rfl;have ad:X+1<wr.heap.size:=lt_of_block q;by_cases ae:i<3
  ·have al:(i:Int)<3:=O;obtain⟨c,G⟩:=A8 (f i);obtain⟨d1,d2⟩:=HC.o i ae;rw[←G]at d2;have H:=A4 G;rw[←k.2.2.cell ac]at d1 d2;have K:=fun W=>A9T i c b a W;have L:Hd (decide (E4 c a<0)=decide (c<a)):=B0i c a;obtain⟨r,M⟩:=A8 (E4 c a);rw[←M]at K L;have am:-1≤r∧r≤1:=by
    rw[M];unfold E4;split
    ·omega
    ·split<;>omega
   have Q:∀d os,Calls Tryz.prog 148 #[.agg #[I J i,I J c],.agg #[I J b,I J a]] (Sort.grow (redrawn wr d) os) fun e af=>e=.returned (I J r)∧∃p:Regrown,af=Sort.grow (redrawn wr p.d) p.os:=fun d os=>Calls.regrown_of (K _);have k1:=cell_regrown d1;have k2:=cell_regrown d2;have k5:=cell_regrown m0;have k6:=cell_regrown m1;have A:=A4 k;have an:=A8O;clear M K k s q v y G;go_wp2_with fail;refine wp_region_quiet_below U U ?_;repeat (go_big_quiet_step (exact Q _ _))
   refine wpQuiet_nil ?_;intro l R;have B:Below wr.heap.size wr l:=by
    obtain⟨S,ag⟩:=R;rw[ag];exact below_regrown wr S.d S.os
   have T:g<wr.heap.size:=O;have b1:l.cell? ⟨g,i*2,none⟩=some (I J i):=by rw[B.cell T];exact d1
   have b2:l.cell? ⟨g,i*2+1,none⟩=some (I J c):=by rw[B.cell T];exact d2
   have t:MnI w l X b a:=A.o.below B ad;have n0:l.cell? ⟨X+1,0,none⟩=some (I J b):=A1 t.2.1 rfl;have n1:l.cell? ⟨X+1,1,none⟩=some (I J a):=A1 t.2.1 rfl;have nf:∀j,l.frozen? ⟨X+1,j,none⟩=false:=fun j=>frozen_of_row _ _ _ _ _ t.2.1;have V:=A4 t;clear R B k1 k2 k5 k6 Q d1 d2 m0 m1 t A;by_cases C:c<a
   ·have ah:r<0:=by have:=L.o;simpa[C] using this
    go_wp2_with fail;go_roundw;case rel=>
     refine⟨i+1,O,O,Zn,?_⟩;have e:bi f (i+1)=i:=by
      rw[bi,if_pos];rw[←n.o,←z.o,←H.o];exact C
     rw[e,←H.o];exact V.o.set i c
    case measure=>simp[intOf];omega
   ·have ah:¬r<0:=by have:=L.o;simpa[C] using this
    go_wp2_with fail;go_roundw;case rel=>
     refine⟨i+1,O,O,Zn,?_⟩;have e:bi f (i+1)=bi f i:=by
      rw[bi,if_neg];rw[←n.o,←z.o,←H.o];exact C
     rw[e,←n.o,←z.o];exact V.o
    case measure=>simp[intOf];omega
  ·have ai:i=3:=O;subst ai;have A:=A4 k;have r0:=A1 s (i:=0) rfl;have r1:=A1 s (i:=1) rfl;have rf:∀j,wr.frozen? ⟨X,j,none⟩=false:=fun j=>frozen_of_row _ _ _ _ _ s;clear k s q v y;go_wp2_with fail;obtain⟨h1,h2,Y⟩:=A.o;have u:=(D7.of_setCell (i:=0) (I J b) h1).setCell (i:=1) (I J a);have aa:Hd (Below X w ((wr.setCell ⟨X,0,none⟩ (I J b)).setCell ⟨X,1,none⟩ (I J a))):=((Y.setCell (p:=⟨X,0,none⟩) (Nat.le_refl _) _).setCell (p:=⟨X,1,none⟩) (Nat.le_refl _) _);have hu:=u.here;clear u h1 h2 Y r0 r1 rf m0 m1;generalize ((wr.setCell ⟨X,0,none⟩ (I J b)).setCell ⟨X,1,none⟩ (I J a))=w9 at hu aa⊢;have q0:w9.cell? ⟨X,0,none⟩=some (I J b):=A1 hu rfl;have q1:w9.cell? ⟨X,1,none⟩=some (I J a):=A1 hu rfl;clear hu;refine bodyPost_ret (by simp[results,Tryz.results147,go_sem,q0,q1];try rfl) rfl ?_;refine⟨?_,by rw[←HX.o];exact aa.o⟩;rw[←n.o,←z.o]
def fA (c:C3)(x j:Nat):Int:=pv c j+if x≠0∧x≠j then 4 else 0
def av (c:C3):Nat→Int
 |0=>aM c
 |1=>aI c
 |_=>aD c
theorem bi3 (f:Nat→Int):bi f 3=lt3 (f 0) (f 1) (f 2)∧f (bi f 3)=min (f 0) (min (f 1) (f 2)):=by
 have e1:bi f 1=0:=by have:=A9e f 1 O;omega
 have c:bi f 2=if f 1<f 0 then 1 else 0:=by rw[bi,e1]
 have a:bi f 3=if f 2<f (bi f 2) then 2 else bi f 2:=by rw[bi]
 by_cases h1:f 1<f 0
 ·rw[if_pos h1]at c;rw[c]at a;by_cases b:f 2<f 1
  ·rw[if_pos b]at a;rw[a];unfold lt3;rw[if_neg O,if_neg O];exact⟨rfl,O⟩
  ·rw[if_neg b]at a;rw[a];unfold lt3;rw[if_neg O,if_pos O];exact⟨rfl,O⟩
 ·rw[if_neg h1]at c;rw[c]at a;by_cases b:f 2<f 0
  ·rw[if_pos b]at a;rw[a];unfold lt3;rw[if_neg O,if_neg O];exact⟨rfl,O⟩
  ·rw[if_neg b]at a;rw[a];unfold lt3;rw[if_pos O];exact⟨rfl,O⟩
theorem B2o (c:C3)(x:Nat)(b:x≤2):bi (fA c x) 3=nx c x∧fA c x (bi (fA c x) 3)=av c x:=by
 obtain⟨h1,a⟩:=bi3 (fA c x);rw[a,h1];obtain⟨m,y,d⟩:=c;rcases (show x=0∨x=1∨x=2 by omega) with rfl|rfl|rfl
 ·simp[fA,pv,nx,av,aM]
 ·simp[fA,pv,nx,av,aI]
 ·simp[fA,pv,nx,av,aD]
def AhI (w wx:World)(f:Nat→Int)(i:Nat):Prop:=
 wx.heap[w.heap.size+1]?=some (.cells #[I J 0,I J 0] 224 (0,0))∧
 (∃cur:Array Value,wx.heap[w.heap.size+1+1]?=some (.cells cur 265 (0,0))∧cur.size=6∧∀j,j<i→cur[j*2]?=some (I J j)∧cur[j*2+1]?=some (I J (f j)))∧Below w.heap.size w wx
theorem AhI.any {w wx:World}{f:Nat→Int}{i:Nat}(h:AhI w wx f i)(j:Nat)(a:j<6):(∃y,wx.cell? ⟨w.heap.size+1+1,j,none⟩=some y)∧wx.frozen? ⟨w.heap.size+1+1,j,none⟩=false:=by
 obtain⟨_,⟨cur,h1,b,_⟩,_⟩:=h;exact⟨⟨_,A1 h1 (Array.getElem?_eq_getElem O)⟩,frozen_of_row _ _ _ _ _ h1⟩
theorem AhI.set {w wx:World}{f:Nat→Int}{i:Nat}(h:AhI w wx f i)(hi:i<3)(a:Int)(b:a=f i)(n:Nat):AhI w (((wx.drewN n).setCell ⟨w.heap.size+1+1,i*2,none⟩ (I J i)).setCell ⟨w.heap.size+1+1,i*2+1,none⟩ (I J a)) f (i+1):=by
 obtain⟨c,⟨cur,h1,d,g⟩,k⟩:=h;have l:(wx.drewN n).heap[w.heap.size+1+1]?=some (.cells cur 265 (0,0)):=h1;have u:=(D7.of_setCell (i:=i*2) (I J i) l).setCell (i:=i*2+1) (I J a);refine⟨(u.other _ O).trans c,⟨_,u.here,by simpa using d,fun j m=>?_⟩,(((B3 k n).setCell (p:=⟨w.heap.size+1+1,i*2,none⟩) (show w.heap.size≤w.heap.size+1+1 by omega) _).setCell (p:=⟨w.heap.size+1+1,i*2+1,none⟩) (show w.heap.size≤w.heap.size+1+1 by omega) _)⟩;by_cases he:j=i
 ·subst he;subst b;exact⟨by rw[Array.getElem?_setIfInBounds_ne O,Array.getElem?_setIfInBounds_self_of_lt O],by rw[Array.getElem?_setIfInBounds_self_of_lt Zo]⟩
 ·rw[Array.getElem?_setIfInBounds_ne O,Array.getElem?_setIfInBounds_ne O,Array.getElem?_setIfInBounds_ne O,Array.getElem?_setIfInBounds_ne O];exact g j O
theorem T4 (c:C3)(x:Nat)(hx:x≤2)(w:World)(M:0≤c.m∧c.m≤2000000000∧0≤c.i∧c.i≤2000000000∧0≤c.d∧c.d≤2000000000) :
 Calls Tryz.prog 110 #[.agg #[I J c.m,I J c.i,I J c.d],I J x] w fun e w'=>e=.returned (.agg #[I J (nx c x:Nat),I J (av c x)])∧Below w.heap.size w w':=by
 obtain⟨b1,b2⟩:=B2o c x hx;rw[←b1,←b2];clear b1 b2;have t:Hd (∀j,fA c x j=pv c j+if x≠0∧x≠j then 4 else 0):=fun _=>rfl;have v:Hd (pv c 0=c.m∧pv c 1=c.i∧pv c 2=c.d):=⟨rfl,rfl,rfl⟩;generalize fA c x=f at t⊢;obtain⟨m,y,d⟩:=c;simp only at M v⊢;generalize pv ⟨m,y,d⟩=q at t v;obtain⟨m1,m2,y1,y2,d1,d2⟩:=M;have i0:∀w,(Instr.index 219 (.agg #[I J m,I J y,I J d]) (I J 0)).run Tryz.prog w=.ok (I J m) w:=fun _=>U;have i1:∀w,(Instr.index 219 (.agg #[I J m,I J y,I J d]) (I J 1)).run Tryz.prog w=.ok (I J y) w:=fun _=>U;have i2:∀w,(Instr.index 219 (.agg #[I J m,I J y,I J d]) (I J 2)).run Tryz.prog w=.ok (I J d) w:=fun _=>U;go_enter Tryz.func110,Tryz.ntmps110;go_wp2_with fail;have N:Hd (AhI w (((w.alloc (Obj.cells #[I J m,I J y,I J d] 219)).alloc (Obj.cells #[I J 0,I J 0] 224)).alloc (Obj.cells #[I J 0,I J 0,I J 0,I J 0,I J 0,I J 0] 265)) f 0):=by
  refine⟨?_,⟨#[I J 0,I J 0,I J 0,I J 0,I J 0,I J 0],?_,rfl,fun j l=>absurd l O⟩,?_⟩
  ·rw[Below.heap_alloc _ _ _ Zs];have:=heap_alloc_new (w.alloc (Obj.cells #[I J m,I J y,I J d] 219)) (Obj.cells #[I J 0,I J 0] 224);have e:(w.alloc (Obj.cells #[I J m,I J y,I J d] 219)).heap.size=w.heap.size+1:=Zs;rw[e]at this;exact this
  ·have:=heap_alloc_new ((w.alloc (Obj.cells #[I J m,I J y,I J d] 219)).alloc (Obj.cells #[I J 0,I J 0] 224)) (Obj.cells #[I J 0,I J 0,I J 0,I J 0,I J 0,I J 0] 265);have e:((w.alloc (Obj.cells #[I J m,I J y,I J d] 219)).alloc (Obj.cells #[I J 0,I J 0] 224)).heap.size=w.heap.size+1+1:=Zs;rw[e]at this;exact this
  ·exact(((Below.refl _ w).alloc (Nat.le_refl _) _).alloc Zs _).alloc Zo _
 go_loopw [9] (fun z wx=>∃i:Nat,i≤3∧z=I J i∧AhI w wx f i) (fun z _=>3-(intOf z).toNat);case atStart=>exact⟨0,O,rfl,N.o⟩
 case round=>
  clear N;obtain⟨i,hi,rfl,g⟩:=hrel;have b:=t.o i;obtain⟨A,B,C⟩:=v.o;by_cases aa:i<3
  ·obtain⟨⟨v0,t0⟩,z0⟩:=g.any (i*2) O;obtain⟨⟨v1,t1⟩,z1⟩:=g.any (i*2+1) O;have D:Hd (∀(a:Int) (n:Nat),a=f i→AhI w (((wr.drewN n).setCell ⟨w.heap.size+1+1,i*2,none⟩ (I J i)).setCell ⟨w.heap.size+1+1,i*2+1,none⟩ (I J a)) f (i+1)):=fun a n ha=>g.set aa a ha n;clear g;rcases (show i=0∨i=1∨i=2 by omega) with rfl|rfl|rfl;all_goals first|rw[A]at b|rw[B]at b|rw[C]at b
   all_goals
    rcases (show x=0∨x=1∨x=2 by omega) with rfl|rfl|rfl;all_goals
     simp at b;have E:=A4 b.symm;clear b A B C;go_wp2_with fail;go_roundw;case rel=>first|exact⟨1,O,Zn,D.o _ 0 E.o⟩|exact⟨2,O,Zn,D.o _ 0 E.o⟩|exact⟨3,O,Zn,D.o _ 0 E.o⟩
     case measure=>simp[intOf]
  ·have ab:i=3:=O;subst ab;obtain⟨r,⟨cur,h1,h2,F⟩,P⟩:=g;have ac:=lt_of_block h1;have r0:=A1 r (i:=0) rfl;have r1:=A1 r (i:=1) rfl;have Q:=fun W hg hC=>A9z f (w.heap.size+1+1) W hg hC;have R:Hd (∀j,j<3→wr.cell? ⟨w.heap.size+1+1,j*2,none⟩=some (I J j)∧wr.cell? ⟨w.heap.size+1+1,j*2+1,none⟩=some (I J (f j))):=fun j l=>⟨A1 h1 (F j l).1,A1 h1 (F j l).2⟩;have S:=A4 P;have T:=A4 r;clear h1 h2 F P r A B C b;go_wp2_with fail;refine(Q wr ac R.o).mono ?_;rintro e h ⟨rfl,G⟩;have k:Hd (h.heap[w.heap.size+1]?=some (.cells #[I J 0,I J 0] 224 (0,0))):=(G.block _ O).trans T.o;have V:Hd (Below w.heap.size w h):=S.o.trans (G.mono O);have q0:=A1 k.o (i:=0) rfl;have H:=A1 k.o (i:=1) rfl;have qf:∀j,h.frozen? ⟨w.heap.size+1,j,none⟩=false:=fun j=>frozen_of_row _ _ _ _ _ k.o;clear G Q r0 r1 R S T;obtain⟨nn,K⟩:=A8 (bi f 3);obtain⟨s,L⟩:=A8 (f nn);have ad:=A4 K;have ae:=A4 L;rw[←K,←L];clear K L;go_wp2_with fail;have u:=(D7.of_setCell (i:=0) (I J nn) k.o).setCell (i:=1) (I J s);have X:Hd (Below w.heap.size w ((h.setCell ⟨w.heap.size+1,0,none⟩ (I J nn)).setCell ⟨w.heap.size+1,1,none⟩ (I J s))):=((V.o.setCell (p:=⟨w.heap.size+1,0,none⟩) (Nat.le_succ _) _).setCell (p:=⟨w.heap.size+1,1,none⟩) (Nat.le_succ _) _);have hu:=u.here;clear u q0 H qf k V;generalize ((h.setCell ⟨w.heap.size+1,0,none⟩ (I J nn)).setCell ⟨w.heap.size+1,1,none⟩ (I J s))=Y at hu X⊢;have q0:Y.cell? ⟨w.heap.size+1,0,none⟩=some (I J nn):=A1 hu rfl;have H:Y.cell? ⟨w.heap.size+1,1,none⟩=some (I J s):=A1 hu rfl;clear hu;refine bodyPost_ret (by simp[results,Tryz.results110,go_sem,q0,H];try rfl) rfl ?_;refine⟨?_,X.o⟩;rw[ae.o,ad.o]
theorem I9.below {w w':World}{v:Value}{g' base:Nat}(h:I9 w w' v g')(a:∀g,v.ownBlock=some g→base≤g)(b:base≤w.heap.size):Below base w w':=
 ⟨h.os,h.tape,h.output,h.size,fun j c=>h.other j O (fun he=>by have:=a j he;omega)⟩
theorem A3.app {w w':World}{base c:Nat}{e a:TypeId}{size d:Nat}{v v2:Value}{n f:Nat}{xs i:List Value}{g':Nat}(h:A3 w base e size v n xs)(j:A3 w c a d v2 f i)(k:e≠a)(l:I9 w w' v2 g'):A3 w' base e size v n xs:=by
 have m:=h;obtain⟨b,h⟩:=m;rcases h with⟨rfl,rfl⟩|⟨g,o,cap,cur,rfl,p,a2,a3⟩
 ·exact⟨b,Or.inl ⟨rfl,rfl⟩⟩
 ·exact⟨b,Or.inr ⟨g,o,cap,cur,rfl,p,(l.other g (lt_of_block a2) (j.tag k a2)).trans a2,a3⟩⟩
theorem A3.setOther {w:World}{base:Nat}{e:TypeId}{size:Nat}{v:Value}{n:Nat}{xs:List Value}(h:A3 w base e size v n xs){B i:Nat}(u:Value)(a:v.ownBlock≠some B):A3 (w.setCell ⟨B,i,none⟩ u) base e size v n xs:=
 h.other fun g b _=>heap_setCell_other w _ g u (fun he=>a (by rw[b,he]))
theorem A3.alloc {w:World}{base:Nat}{e:TypeId}{size:Nat}{v:Value}{n:Nat}{xs:List Value}(h:A3 w base e size v n xs)(ob:Obj):A3 (w.alloc ob) base e size v n xs:=h.other fun g _ a=>Below.heap_alloc _ _ _ a
theorem A3.drewN {w:World}{base:Nat}{e:TypeId}{size:Nat}{v:Value}{n:Nat}{xs:List Value}(h:A3 w base e size v n xs)(q:Nat):A3 (w.drewN q) base e size v n xs:=h.other fun g _ a=>rfl
theorem A3.cell {w:World}{base:Nat}{e:TypeId}{size:Nat}{g o n cap:Nat}{xs:List Value}(h:A3 w base e size (.slice (some ⟨g,o,none⟩) n cap) n xs){j:Nat}{u:Value}(a:xs[j]?=some u):w.cell? ⟨g,o+j,none⟩=some u:=by
 rcases h.2 with⟨h1,_⟩|⟨g',o',cap',cur,he,h1,b,d,f,i,c⟩
 ·simp at h1
 ·simp only[Value.slice.injEq,Option.some.injEq,Addr.mk.injEq,and_true,true_and]at he;obtain⟨⟨rfl,rfl⟩,rfl⟩:=he;exact A1 b (c j u a)
theorem A3.frozen {w:World}{base:Nat}{e:TypeId}{size:Nat}{g o n cap:Nat}{xs:List Value}(h:A3 w base e size (.slice (some ⟨g,o,none⟩) n cap) n xs)(j:Nat):w.frozen? ⟨g,j,none⟩=false:=by
 rcases h.2 with⟨h1,_⟩|⟨g',o',cap',cur,he,h1,a,b,c,d,f⟩
 ·simp at h1
 ·simp only[Value.slice.injEq,Option.some.injEq,Addr.mk.injEq,and_true,true_and]at he;obtain⟨⟨rfl,rfl⟩,rfl⟩:=he;exact frozen_of_row _ _ _ _ _ a
theorem A3.set {w:World}{base:Nat}{e:TypeId}{size:Nat}{g o n cap:Nat}{xs:List Value}(h:A3 w base e size (.slice (some ⟨g,o,none⟩) n cap) n xs)(j:Nat)(u:Value)(c:j<xs.length):A3 (w.setCell ⟨g,o+j,none⟩ u) base e size (.slice (some ⟨g,o,none⟩) n cap) n (xs.set j u):=by
 obtain⟨d,h⟩:=h;rcases h with⟨h1,_⟩|⟨g',o',cap',cur,he,h1,f,a,k,l,m⟩
 ·simp at h1
 ·simp only[Value.slice.injEq,Option.some.injEq,Addr.mk.injEq,and_true,true_and]at he;obtain⟨⟨rfl,rfl⟩,rfl⟩:=he;refine⟨by simpa using d,Or.inr ⟨g,o,cap,_,rfl,h1,heap_setCell_same w g (o+j) cur e u f,a,k,by simpa using l,fun i v hi=>?_⟩⟩;have hle:o+xs.length≤cur.size:=by
   have:n*size≤cap*size:=Nat.mul_le_mul_right _ a;omega
  by_cases b:i=j
  ·subst b;rw[List.getElem?_set_self c]at hi;rw[Array.getElem?_setIfInBounds_self_of_lt O];exact hi
  ·rw[List.getElem?_set_ne (Ne.symm b)]at hi;rw[Array.getElem?_setIfInBounds_ne O];exact m i v hi
theorem A3.addr {w:World}{base:Nat}{e:TypeId}{size:Nat}{v:Value}{n:Nat}{xs:List Value}(h:A3 w base e size v n xs)(b:0<n):∃g o cap,v=.slice (some ⟨g,o,none⟩) n cap∧base≤g∧g<w.heap.size:=by
 rcases h.2 with⟨_,h⟩|⟨g',o',cap',cur,he,h1,a,_⟩
 ·omega
 ·exact⟨g',o',cap',he,h1,lt_of_block a⟩
theorem O7 (W:World)(a:List Value)(t:TypeId)(s:Nat)(hs:s=W.heap.size):∀j u,a[j]?=some u→(W.alloc (.cells a.toArray t)).cell? ((⟨s,0,none⟩:Addr).add j)=some u:=by
 intro j u b;subst hs;rw[Addr.add_lit];refine A1 (heap_alloc_new W _) ?_;simpa using b
def A9S (c:C3):List Value:=[I J c.m,I J c.i,I J c.d]
def L6 (f:Nat→C3)(n:Nat):List Value:=(List.range n).flatMap fun k=>A9S (f k)
theorem A1i (f:Nat→C3)(n:Nat):L6 f (n+1)=L6 f n++A9S (f n):=by
 simp[L6,List.range_succ,List.flatMap_append]
theorem I5 (f:Nat→C3):∀n,(L6 f n).length=n*3
 |0=>rfl
 |n+1=>by rw[A1i,List.length_append,I5 f n];simp[A9S];omega
theorem A0L (f:Nat→C3):∀(n k:Nat),k<n→(L6 f n)[k*3]?=some (I J (f k).m)∧(L6 f n)[k*3+1]?=some (I J (f k).i)∧(L6 f n)[k*3+2]?=some (I J (f k).d)
 |0,k,h=>absurd h O
 |n+1,k,h=>by
  rw[A1i]
  by_cases he:k=n
  ·subst he
   have a:=I5 f k
   refine⟨?_,?_,?_⟩
   ·rw[List.getElem?_append_right O,a,show k*3-k*3=0 by omega];rfl
   ·rw[List.getElem?_append_right O,a,show k*3+1-k*3=1 by omega];rfl
   ·rw[List.getElem?_append_right O,a,show k*3+2-k*3=2 by omega];rfl
  ·have a:=I5 f n
   obtain⟨h1,b,c⟩:=A0L f n k O
   refine⟨?_,?_,?_⟩
   ·rw[List.getElem?_append_left O];exact h1
   ·rw[List.getElem?_append_left O];exact b
   ·rw[List.getElem?_append_left O];exact c
theorem A3.cel {w:World}{base:Nat}{e:TypeId}{g o n cap:Nat}{f:Nat→C3}(h:A3 w base e 3 (.slice (some ⟨g,o,none⟩) n cap) n (L6 f n))(k:Nat)(hk:k<n) :
 w.cell? ⟨g,o+k*3,none⟩=some (I J (f k).m)∧w.cell? ⟨g,o+k*3+1,none⟩=some (I J (f k).i)∧w.cell? ⟨g,o+k*3+2,none⟩=some (I J (f k).d):=by
 obtain⟨h1,a,b⟩:=A0L f n k hk;refine⟨h.cell h1,?_,?_⟩
 ·rw[Nat.add_assoc];exact h.cell a
 ·rw[Nat.add_assoc];exact h.cell b
def F1 (l:List Nat):List Value:=l.map fun (k:Nat)=>I J k
theorem A57 (x y z:Int):∀u∈([I J x,I J y,I J z]:List Value),u.oneCell'=true:=by
 intro u hu;simp only[List.mem_cons,List.not_mem_nil,or_false]at hu;rcases hu with rfl|rfl|rfl<;>rfl
theorem H7 (k:IntKind)(x:Int):∀u∈([.int k x]:List Value),u.oneCell'=true:=by
 intro u hu;simp only[List.mem_cons,List.not_mem_nil,or_false]at hu;subst hu;rfl
theorem Tryz.info3:(Tryz.prog.info? 3).map (fun i=>(i.zero,i.size,i.bytes))=some (some (I J 0),1,8):=U
theorem Tryz.infoCell:(Tryz.prog.info? 219).map (fun i=>(i.zero,i.size,i.bytes))=some (some (.agg #[I J 0,I J 0,I J 0]),3,24):=U
theorem Tryz.infoCells:(Tryz.prog.info? 217).map (fun i=>(i.zero,i.size,i.bytes))=some (some (.slice none 0 0),1,24):=U
theorem zA0 {α:Type}(l:List α)(i:Nat)(a:α):l.toArray.setIfInBounds i a=(l.set i a).toArray:=List.setIfInBounds_toArray ..
theorem zZ0 {α:Type}(x y:α)(l:List α):(x::l).set 0 y=y::l:=rfl
theorem zS0 {α:Type}(x y:α)(l:List α)(n:Nat):(x::l).set (n+1) y=x::l.set n y:=rfl
section
variable {P:Program} {ops:Array Oper} {Q:Exit→Act→World→Prop} {md:Region.Mode} {S:World→Prop} {L:Nat}
def D3 (P:Program)(md:Region.Mode)(ops:Array Oper)(Q:Exit→Act→World→Prop)(S:World→Prop)(L:Nat):Nat→Array Bool→Act→World→Prop
 |0,listed,a,w=>Region.ready md ops listed=[]∧Q .normal a w
 |fuel+1,listed,a,w=>
  (Region.ready md ops listed=[]→Q .normal a w)∧
  ∀i∈Region.ready md ops listed,wpOp P ops Q i (fun a' w'=>(i≠L→S w')∧D3 P md ops Q S L fuel (listed.setIfInBounds i true) a' w') a w
theorem A2V:∀(fuel:Nat) (b:Array Bool) (a:Act) (w:World),D3 P md ops Q S L fuel b a w→wpAny P md ops Q fuel b a w
 |0,_,_,_,h=>h
 |fuel+1,_,_,_,h=>⟨h.1,fun i hi=>wpOp_mono (fun c w' d=>A2V fuel _ c w' d.2) (h.2 i hi)⟩
def A0d (md:Region.Mode)(ops:Array Oper)(L i:Nat):Bool:=
 match ops[L]? with
 |some o=>o.after.any fun e=>Region.binds md e&&e.on==i
 |none=>false
theorem A3Z {i:Nat}{l:Oper}{v:Value}(hi:ops[i]?=some l)(y:∀(j:Nat) (o:Oper) cs b,ops[j]?=some o→o.op≠.select cs b)
 (F:∀c a w,Q (.panic c) (a.put l.dst v) w→Q (.panic c) a w)(q:(A0d md ops L i||Nat.ble ops.size L)=true) :
 ∀(fuel:Nat) (d:Array Bool) (a:Act) (w:World),
  (∀j m,ops[j]?=some m→j≠i→d.getD j true=false→(∀e∈m.after,Region.binds md e=true→e.on≠i)→l.apart ops m=true)→
  i∈Region.ready md ops d→YieldsIf P ops S l v a→S w→
  D3 P md ops Q S L fuel (d.setIfInBounds i true) (a.put l.dst v) w→D3 P md ops Q S L (fuel+1) d a w:=by
 intro fuel;induction fuel with
 |zero=>
  intro d a w _ n s r H;refine⟨fun h=>(by rw[h]at n;cases n),fun j t=>?_⟩;by_cases g:j=i
  ·subst g;exact s.wpOp hi r ⟨fun _=>r,H⟩
  ·have:=ready_mono t g;rw[H.1]at this;cases this
 |succ fuel G=>
  intro d a w z n s r H;refine⟨fun h=>(by rw[h]at n;cases n),fun j t=>?_⟩;by_cases g:j=i
  ·subst g;exact s.wpOp hi r ⟨fun _=>r,H⟩
  ·have h1:=H.2 j (ready_mono t g);obtain⟨A,m,p,K⟩:=mem_ready.1 t;have B:∀e∈m.after,Region.binds md e=true→e.on≠i:=fun e he f heq=>by
    have h1:=K e he f;have C:=(mem_ready.1 n).1;rw[heq]at h1;rcases Nat.lt_or_ge i d.size with x|x
    ·simp[x]at C h1;rw[C]at h1;cases h1
    ·simp[Array.getElem?_eq_none x]at h1
   have M:j≠L:=by
    intro he;subst he;have N:Nat.ble ops.size j=false:=by
     rw[Bool.eq_false_iff];intro f;have f:=Nat.le_of_ble_eq_true f;rw[Array.getElem?_eq_none f]at p;cases p
    rw[N,Bool.or_false]at q;unfold A0d at q;rw[p]at q;simp only at q;obtain⟨e,he,f⟩:=Array.any_eq_true'.1 q;simp only[Bool.and_eq_true,beq_iff_eq]at f;exact B e he f.1 f.2
   have R:=wpOp_putIf p (z j m p g A B) (fun cs b=>y i l cs b hi) (fun cs b=>y j m cs b p) F s h1;have T:∀k ok,ops[k]?=some ok→k≠i→(d.setIfInBounds j true).getD k true=false→
    (∀e∈ok.after,Region.binds md e=true→e.on≠i)→l.apart ops ok=true:=fun k ok hk V D W=>by
    refine z k ok hk V ?_ W
    by_cases E:j=k
    ·subst E;exact A
    ·rw[getD_set_ne true E]at D;exact D
   refine wpOp_mono (fun X w' u=>⟨u.2.1,G (d.setIfInBounds j true) X w' T (ready_mono n (Ne.symm g)) u.1 (u.2.1 M) ?_⟩) R;rw[Array.setIfInBounds_comm _ _ g];exact u.2.2
theorem W7 {i:Nat}{b:Oper}{v:Value}{fuel:Nat}{d:Array Bool}{a:Act}{w:World}(f:ops.toList[i]?=some b)
 (hs:Region.noSelect ops=true)(g:Region.free md ops d i=true)(j:(Region.ready md ops d).contains i=true)(k:(A0d md ops L i||Nat.ble ops.size L)=true)
 (l:∀c a w,Q (.panic c) (a.put b.dst v) w→Q (.panic c) a w)(m:YieldsIf P ops S b v a)(n:S w)
 (h:D3 P md ops Q S L fuel (d.setIfInBounds i true) (a.put b.dst v) w):D3 P md ops Q S L (fuel+1) d a w:=
 have hi:ops[i]?=some b:=by simpa using f
 A3Z hi (Region.noSelect_spec hs) l k fuel d a w (Region.free_spec hi g) (by simpa using j) m n h
theorem wpT (i:Nat){b:Oper}{v:Value}{j:Act}{fuel:Nat}{f:Array Bool}{a:Act}{w:World}(g:S w)
 (h:D3 P md ops Q S L fuel (f.setIfInBounds i true) j w)
 (k:ops.toList[i]?=some b:=by rfl)
 (d:(Region.noSelect ops&&Region.free md ops f i&&(Region.ready md ops f).contains i&&(A0d md ops L i||Nat.ble ops.size L))=true:=by kernel_rfl)
 (hw:Region.wanted b (yielded ops a.tmps)=true:=by rfl)
 (l:∀w,S w→(execOp a.eval b).run P w=.ok (.value v) w:=by intro W g;(try dsimp only at g);go_simp;all_goals (with_reducible rfl))
 (he:a.put b.dst v=j:=by(try simp only[Act.put,zA0,zZ0,zS0]);rfl)
 (m:∀c a w,Q (.panic c) (a.put b.dst v) w→Q (.panic c) a w:=by first|exact fun _ _ _ h=>h|exact fun c a w h=>hQ0 c a _ _ w h):D3 P md ops Q S L (fuel+1) f a w:=by
 subst he;simp only[Bool.and_eq_true]at d;exact W7 k d.1.1.1 d.1.1.2 d.1.2 d.2 m (Or.inl ⟨hw,l⟩) g h
theorem wpU (i:Nat){d:Oper}{g:Act}{fuel:Nat}{f:Array Bool}{a:Act}{w:World}(j:S w)
 (h:D3 P md ops Q S L fuel (f.setIfInBounds i true) g w)
 (k:ops.toList[i]?=some d:=by rfl)
 (b:(Region.noSelect ops&&Region.free md ops f i&&(Region.ready md ops f).contains i&&(A0d md ops L i||Nat.ble ops.size L))=true:=by kernel_rfl)
 (hw:Region.wanted d (yielded ops a.tmps)=false:=by rfl)
 (he:a.put d.dst undef=g:=by(try simp only[Act.put,zA0,zZ0,zS0]);rfl)
 (l:∀c a w,Q (.panic c) (a.put d.dst undef) w→Q (.panic c) a w:=by exact fun _ _ _ h=>h):D3 P md ops Q S L (fuel+1) f a w:=by
 subst he;simp only[Bool.and_eq_true]at b;exact W7 (v:=undef) k b.1.1.1 b.1.1.2 b.1.2 b.2 l (Or.inr ⟨hw,rfl⟩) j h
theorem A5o {i:Nat}{o:Oper}{fuel:Nat}{c:Array Bool}{a:Act}{w:World}(d:Region.ready md ops c=[i])(k:ops.toList[i]?=some o)(l:(i==L)=false)
 (h:∀K:Act→World→Prop,Shut (∀b w',S w'→D3 P md ops Q S L fuel (c.setIfInBounds i true) b w'→K b w')→if Region.wanted o (yielded ops a.tmps)=true then Oper.wp P o a w K Q else K (a.put o.dst undef) w):D3 P md ops Q S L (fuel+1) c a w:=by
 have ho:ops[i]?=some o:=by simpa using k
 have n:i≠L:=by simpa using l
 refine⟨fun f=>(by rw[d]at f;cases f),fun j g=>?_⟩;rw[d]at g;obtain rfl:j=i:=by simpa using g
 have:=h (fun b w'=>(j≠L→S w')∧D3 P md ops Q S L fuel (c.setIfInBounds j true) b w') (fun b w' h1 m=>⟨fun _=>h1,m⟩);unfold wpOp;simp only[ho];split
 ·rename_i hw;rw[if_pos hw]at this;exact Or.inl this
 ·rename_i hw;rw[if_neg hw]at this;exact this
theorem A5s {fuel:Nat}{b:Array Bool}{a:Act}{w:World}(c:Region.ready md ops b=[])(h:Q .normal a w):D3 P md ops Q S L fuel b a w:=by
 cases fuel with
 |zero=>exact⟨c,h⟩
 |succ f=>exact⟨fun _=>h,fun k hk=>by rw[c]at hk;cases hk⟩
theorem B6 {i:Nat}{o:Oper}{fuel:Nat}{c:Array Bool}{a:Act}{w:World}(d:Region.ready md ops c=[i])(p:ops.toList[i]?=some o)(q:(i==L)=true)(g:Region.ready md ops (c.setIfInBounds i true)=[])
 (h:∀K:Act→World→Prop,Shut (∀b w',Q .normal b w'→K b w')→if Region.wanted o (yielded ops a.tmps)=true then Oper.wp P o a w K Q else K (a.put o.dst undef) w):D3 P md ops Q S L (fuel+1) c a w:=by
 have ho:ops[i]?=some o:=by simpa using p
 have he:i=L:=by simpa using q
 refine⟨fun l=>(by rw[d]at l;cases l),fun j m=>?_⟩;rw[d]at m;obtain rfl:j=i:=by simpa using m
 have r:∀f b w',Q .normal b w'→D3 P md ops Q S L f (c.setIfInBounds j true) b w':=fun f b w' n=>by
  cases f with
  |zero=>exact⟨g,n⟩
  |succ f=>exact⟨fun _=>n,fun k hk=>by rw[g]at hk;cases hk⟩
 have:=h (fun b w'=>(j≠L→S w')∧D3 P md ops Q S L fuel (c.setIfInBounds j true) b w') (fun b w' h1=>⟨fun s=>absurd he s,r _ _ _ h1⟩);unfold wpOp;simp only[ho];split
 ·rename_i hw;rw[if_pos hw]at this;exact Or.inl this
 ·rename_i hw;rw[if_neg hw]at this;exact this
theorem A2 (i:Nat){oi:Oper}{v:Value}{a':Act}{fuel:Nat}{listed:Array Bool}{a:Act}{w:World} 
 (h:D3 P md ops Q S L fuel (listed.setIfInBounds i true) a' w)
 (hS:S w:=by exact hH)(hi':ops.toList[i]?=some oi:=by rfl)
 (hb:(Region.noSelect ops&&Region.free md ops listed i&&(Region.ready md ops listed).contains i&&(A0d md ops L i||Nat.ble ops.size L))=true:=by kernel_rfl)
 (hw:Region.wanted oi (yielded ops a.tmps)=true:=by rfl)
 (hy:∀w,S w→(execOp a.eval oi).run P w=.ok (.value v) w:=by intro W hS;(try dsimp only at hS);go_simp;all_goals (with_reducible rfl))
 (he:a.put oi.dst v=a':=by (try simp only[Act.put,zA0,zZ0,zS0]);rfl)
 (hQ:∀c a w,Q (.panic c) (a.put oi.dst v) w→Q (.panic c) a w:=by first | exact fun _ _ _ h=>h | exact fun c a w h=>hQ0 c a _ _ w h):D3 P md ops Q S L (fuel+1) listed a w:=by
 subst he
 simp only[Bool.and_eq_true]at hb
 exact W7 hi' hb.1.1.1 hb.1.1.2 hb.1.2 hb.2 hQ (Or.inl ⟨hw,hy⟩) hS h
theorem E3 (i:Nat){oi:Oper}{a':Act}{fuel:Nat}{listed:Array Bool}{a:Act}{w:World} 
 (h:D3 P md ops Q S L fuel (listed.setIfInBounds i true) a' w)
 (hS:S w:=by exact hH)(hi':ops.toList[i]?=some oi:=by rfl)
 (hb:(Region.noSelect ops&&Region.free md ops listed i&&(Region.ready md ops listed).contains i&&(A0d md ops L i||Nat.ble ops.size L))=true:=by kernel_rfl)
 (hw:Region.wanted oi (yielded ops a.tmps)=false:=by rfl)
 (he:a.put oi.dst undef=a':=by (try simp only[Act.put,zA0,zZ0,zS0]);rfl)
 (hQ:∀c a w,Q (.panic c) (a.put oi.dst undef) w→Q (.panic c) a w:=by exact fun _ _ _ h=>h):D3 P md ops Q S L (fuel+1) listed a w:=by
 subst he
 simp only[Bool.and_eq_true]at hb
 exact W7 (v:=undef) hi' hb.1.1.1 hb.1.1.2 hb.1.2 hb.2 hQ (Or.inr ⟨hw,rfl⟩) hS h
theorem wpS (i:Nat){o:Oper}{fuel:Nat}{listed:Array Bool}{a:Act}{w:World}
 (h:∀K:Act→World→Prop,Shut (∀a' w',S w'→D3 P md ops Q S L fuel (listed.setIfInBounds i true) a' w'→K a' w')→if Region.wanted o (yielded ops a.tmps)=true then Oper.wp P o a w K Q else K (a.put o.dst undef) w)
 (hr:Region.ready md ops listed=[i]:=by kernel_rfl)(ho':ops.toList[i]?=some o:=by rfl)(hiL:(i==L)=false:=by kernel_rfl):D3 P md ops Q S L (fuel+1) listed a w:=A5o hr ho' hiL h
theorem E0 {fuel:Nat}{listed:Array Bool}{K:Act→World→Prop}{a' a'':Act}{w':World}(hK:Shut (∀a' w',S w'→D3 P md ops Q S L fuel listed a' w'→K a' w'))(hS:S w')(h:D3 P md ops Q S L fuel listed a'' w')(he:a'=a'':=by (try simp only[Act.put,zA0,zZ0,zS0]);rfl):K a' w':=by
 subst he
 exact hK.out _ _ hS h
theorem J5 {fuel:Nat}{listed:Array Bool}{a:Act}{w:World}(h:Q .normal a w)(hd:Region.ready md ops listed=[]:=by kernel_rfl):D3 P md ops Q S L fuel listed a w:=A5s hd h
theorem A5 {id:Nat}{a:Act}{w:World}(L:Nat)(S:World→Prop)(hm:P.follows .mixedOrders=true)(b:S w.drew)
 (h:S w.drew→D3 P .any ops Q S L ops.size (Array.replicate ops.size false) a w.drew):(Code.region id ops true).wp P Q a w:=
 wp_region_any hm (A2V _ _ _ _ (h b))
end
theorem A90 {P:Program}(w:World)(t ty e:TypeId)(i:TypeInfo)(z:Value)(size bytes:Nat)(h1:P.underlying t=some (.slice e))(s:P.info? e=some i)(H:i.zero=some z)(x:i.size=size)(K:i.bytes=bytes)(L:z.cells.size=size)(M:0<size)
 (base:Nat)(v:Value)(n:Nat)(xs:List Value)(y:A3 w base e size v n xs)
 (f:Addr)(c:Nat)(news:List Value)(V:news.length=size)(A:∀j u,news[j]?=some u→w.cell? (f.add j)=some u)(N:∀u∈news,u.oneCell'=true)
 (b1:n+1≤maxLen)(b2:(n+1)*bytes≤140737488355328)(Q:base≤w.heap.size) :
 ∃g' o' cap' w',(Builtin.append_ #[t,t] ty #[v,.slice (some f) 1 c]).run P w=.ok (.slice (some ⟨g',o',none⟩) (n+1) cap') w'∧A3 w' base e size (.slice (some ⟨g',o',none⟩) (n+1) cap') (n+1) (xs++news)∧I9 w w' v g'∧A3 w' base e size v n xs:=by
 have B:news.length=1*size:=by omega
 obtain⟨k,y⟩:=y;rcases y with⟨rfl,rfl⟩|⟨g,o,cap,cur,rfl,l,d,R,C,S,q⟩
 ·obtain rfl:xs=[]:=List.eq_nil_of_length_eq_zero (by simpa using k);obtain⟨v',w',m,p,b,_⟩:=run_append_own (P:=P) w w.heap.size t ty e i z size bytes h1 s H x K L M (.slice none 0 0) 0 [] (World.ownsRow_nil w _ e size) f 1 c news B A N b1 b2 (Nat.le_refl _);rcases p.2 with⟨_,D⟩|⟨g,cap,cur,rfl,l,d,_⟩
  ·exact absurd D (by simp)
  ·exact⟨g,0,cap,w',m,A3.of_ownsRow p Q,⟨b.os,b.tape,b.output,b.size,fun j a _=>b.block j a (by simp[Value.ownBlock]),Or.inr l,lt_of_block d⟩,⟨by simp,Or.inl ⟨rfl,rfl⟩⟩⟩
 ·by_cases E:n+1≤cap
  ·subst x;have aa:o+(n+1)*i.size≤cur.size:=Nat.le_trans (Nat.add_le_add_left (Nat.mul_le_mul_right _ E) o) S;have hex:(n+1)*i.size=n*i.size+i.size:=by rw[Nat.add_mul,Nat.one_mul]
   have m:=run_append_room_cells (P:=P) w t ty e i h1 s g o n cap f 1 c news B A N E
    (fun j a=>by rw[cell_of_row w g _ cur e (0,0) d];simp;omega) (fun j _=>frozen_of_row w g _ cur e d)
   obtain⟨F,G,q2,T,W⟩:=C9 g e news (o+n*i.size) w cur d;have r:=F8 g news (o+n*i.size) w;refine⟨g,o,cap,_,m,⟨by rw[List.length_append,k,V];omega,Or.inr ⟨g,o,cap,F,rfl,l,G,E,C,by omega,?_⟩⟩,⟨r.2.1,r.1,r.2.2.1,by rw[r.2.2.2];exact Nat.le_refl _,fun j _ a=>B8 g news _ w j (fun h=>a (by simp[Value.ownBlock,h])),Or.inl rfl,lt_of_block G⟩,⟨k,Or.inr ⟨g,o,cap,F,rfl,l,G,R,C,by omega,fun j u a=>(T _ (by
    have:j<xs.length:=by
     rcases Nat.lt_or_ge j xs.length with h|h
     ·exact h
     ·rw[List.getElem?_eq_none h]at a;exact absurd a (by simp)
    omega)).trans (q j u a)⟩⟩⟩
   intro j u a;rw[List.getElem?_append]at a;split at a
   ·rw[T _ (by omega)];exact q j u a
   ·have:=W (j-xs.length) u a (by
     have:j-xs.length<news.length:=by
      rcases Nat.lt_or_ge (j-xs.length) news.length with h|h
      ·exact h
      ·rw[List.getElem?_eq_none h]at a;exact absurd a (by simp)
     omega)
    rwa [show o+n*i.size+(j-xs.length)=o+j by omega]at this
  ·obtain⟨v',w',m,p,b⟩:=run_append_arg_grows (P:=P) w t ty e i z size bytes h1 s H x K L M ⟨g,o,none⟩ n cap xs k (fun j u a=>by rw[Addr.add_lit,cell_of_row w g _ cur e (0,0) d];exact q j u a) f 1 c news B A (by omega) b1 b2;rcases p.2 with⟨_,D⟩|⟨g',cap',F,rfl,X,Y,_⟩
   ·exact absurd D (by simp)
   ·exact⟨g',0,cap',w',m,A3.of_ownsRow p Q,⟨b.os,b.tape,b.output,b.size,fun j a _=>b.block j a (by simp),Or.inr X,lt_of_block Y⟩,⟨k,Or.inr ⟨g,o,cap,cur,rfl,l,(b.block g (lt_of_block d) (by simp)).trans d,R,C,S,q⟩⟩⟩
theorem A8A {P:Program}{ops:Array Oper}{o:Oper}{a:Act}{w:World}{K:Act→World→Prop}{Q:Exit→Act→World→Prop}{E:Prop}
 (d:o.guard=none)(s x:Operand)(t:TypeId)(f:o.op=Op.call {callee:=Callee.builtin Builtin.append,args:=#[s,x],argTypes:=#[t,t]})
 (e:TypeId)(i:TypeInfo)(z:Value)(size bytes:Nat)(h1:P.underlying t=some (.slice e))(g:P.info? e=some i)(h:i.zero=some z)(k:i.size=size)(l:i.bytes=bytes)(m:z.cells.size=size)(p:0<size)
 (base:Nat)(v:Value)(n:Nat)(xs:List Value)(hs:a.eval s=v)(q:A3 w base e size v n xs)
 (b:Addr)(c:Nat)(news:List Value)(r:a.eval x=.slice (some b) 1 c)(y:news.length=size)(A:∀j u,news[j]?=some u→w.cell? (b.add j)=some u)(B:∀u∈news,u.oneCell'=true)
 (b1:n+1≤maxLen)(b2:(n+1)*bytes≤140737488355328)(C:base≤w.heap.size)
 (D:∀g' o' cap' w',A3 w' base e size (.slice (some ⟨g',o',none⟩) (n+1) cap') (n+1) (xs++news)→I9 w w' v g'→A3 w' base e size v n xs→K (a.put o.dst (.slice (some ⟨g',o',none⟩) (n+1) cap')) w') :
 if Region.wanted o (yielded ops a.tmps)=true then Oper.wp P o a w K Q else E:=by
 have hw:Region.wanted o (yielded ops a.tmps)=true:=by simp[Region.wanted,d]
 rw[if_pos hw];obtain⟨g',o',cap',w',F,G,H,L⟩:=A90 (P:=P) w t o.type e i z size bytes h1 g h k l m p base v n xs q b c news y A B b1 b2 C;unfold Oper.wp;simp[execOp,f,resolve,invoke,builtin,hs,r,F,Result.andThen];exact D g' o' cap' w' G H L
theorem A3.tagNe {w:World}{base c:Nat}{e a:TypeId}{size d:Nat}{g o n cap:Nat}{v2:Value}{f:Nat}{xs i:List Value}(h:A3 w base e size (.slice (some ⟨g,o,none⟩) n cap) n xs)(j:A3 w c a d v2 f i)(k:e≠a)(he:v2.ownBlock=some g):False:=by
 rcases h.2 with⟨h1,_⟩|⟨g',o',cap',cur,b,h1,l,_⟩
 ·simp at h1
 ·simp only[Value.slice.injEq,Option.some.injEq,Addr.mk.injEq,and_true,true_and]at b;obtain⟨⟨rfl,rfl⟩,rfl⟩:=b;exact j.tag k l he
end
end Go.Proofs.YtilcmkiihefkkaaGreatDoor
