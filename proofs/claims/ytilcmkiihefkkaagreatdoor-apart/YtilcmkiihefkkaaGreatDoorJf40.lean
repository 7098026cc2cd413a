import Derived.Deep.RegionHeld3
import Derived.Test.YtilcmkiihefkkaaGreatDoorJf39
set_option linter.unusedVariables false
set_option linter.unusedSimpArgs false
set_option maxRecDepth 1000000
set_option maxHeartbeats 64000000
open Go.Value renaming int→I
open Go.IntKind renaming i64→J
namespace Go.Proofs.YtilcmkiihefkkaaGreatDoor
namespace Mn
section
open Go.RowKit Go.Shelf Go.Lib
theorem A4J (a b:Int×Int)(w:World) :
 Calls Tryz.prog 176 #[.agg #[I J a.1,I J a.2],.agg #[I J b.1,I J b.2]] w fun e w'=>e=.returned (I J (cfA a b))∧∃q os,w'=Sort.grow (w.drewN q) os:=by
 obtain⟨d,ap⟩:=a;obtain⟨f,c⟩:=b;have c1:=fun g=>AnyG.cmp_Compare_int Tryz.cmpInt ap c g;have c2:=fun g=>AnyG.cmp_Compare_int Tryz.cmpInt d f g;change ∀g,Calls Tryz.prog 119 _ _ _ at c1;change ∀g,Calls Tryz.prog 119 _ _ _ at c2;rw[A0s]at c1 c2;have i:Hd (cfA (d,ap) (f,c)=if E4 ap c=0 then E4 d f else E4 ap c):=rfl;generalize cfA (d,ap) (f,c)=z at i⊢;generalize E4 ap c=x at c1 i;generalize E4 d f=y at c2 i;have l:∀p q r,((p=ap∧q=c∧r=x)∨(p=d∧q=f∧r=y))→∀W,Calls Tryz.prog 119 #[I J p,I J q] W fun e w'=>e=.returned (I J r)∧w'=W:=by
  rintro p q r (⟨rfl,rfl,rfl⟩|⟨rfl,rfl,rfl⟩)
  ·exact c1
  ·exact c2
 clear c1 c2;have k:∀o1 j:Obj,((((w.alloc o1).alloc j).alloc (.cells #[I J x,I J y] 3)).drew).cell? ⟨w.heap.size+1+1,0,none⟩=some (I J x)∧((((w.alloc o1).alloc j).alloc (.cells #[I J x,I J y] 3)).drew).cell? ⟨w.heap.size+1+1,1,none⟩=some (I J y):=by
  intro o1 j;have h:=heap_alloc_new ((w.alloc o1).alloc j) (.cells #[I J x,I J y] 3 (0,0));have e:((w.alloc o1).alloc j).heap.size=w.heap.size+1+1:=Zs;rw[e]at h;exact⟨A5T h rfl,A5T h rfl⟩
 have m:=A3L x y _ _ (k (.cells #[I J d,I J ap] 247) (.cells #[I J f,I J c] 247)).1 (k _ _).2 z i.o;clear k i;have n:Hd (∃os,(((w.alloc (.cells #[I J d,I J ap] 247)).alloc (.cells #[I J f,I J c] 247)).alloc (.cells #[I J x,I J y] 3)).drew=Sort.grow (w.drewN 1) os):=by
  refine⟨#[.cells #[I J d,I J ap] 247]++#[.cells #[I J f,I J c] 247]++#[.cells #[I J x,I J y] 3],?_⟩;rw[Sort.alloc_eq_grow,Sort.alloc_eq_grow,Sort.grow_grow,Sort.alloc_eq_grow,Sort.grow_grow];rfl
 go_enter Tryz.func176,Tryz.ntmps176;go_wp2_with fail;go_region_held3 (fun w'=>w'.cell? ⟨w.heap.size,0,none⟩=some (I J d)∧w'.cell? ⟨w.heap.size,1,none⟩=some (I J ap)∧w'.cell? ⟨w.heap.size+1,0,none⟩=some (I J f)∧w'.cell? ⟨w.heap.size+1,1,none⟩=some (I J c)) (go_keep) (first|(go_at_call 119;(refine(l _ _ _ (by first|exact Or.inl ⟨rfl,rfl,rfl⟩|exact Or.inr ⟨rfl,rfl,rfl⟩) _).mono ?_;rintro e w' ⟨rfl,rfl⟩))|(go_at_call 139;refine m.mono ?_;rintro e w' ⟨rfl,rfl⟩));go_wp2_with fail;go_ret;exact⟨rfl,1,n.o⟩
def gnq (a b k:Int):Int:=4*lst a b k-apt a b-2*(Go.Lib.bitLen (apt a b).toNat:Nat)
theorem A9Z (a b k:Int)(w:World)(s:1≤a)(a2:a≤10000)(b1:1≤b)(b2:b≤10000)(k1:1≤k)(k2:k≤12) :
 Calls Tryz.prog 179 #[I J a,I J b,I J k] w fun e w'=>e=.returned (.float .f64 (fq (gnq a b k)))∧w'=w:=by
 obtain⟨d,f⟩:∃d:Nat,(d:Int)=apt a b:=⟨(apt a b).toNat,by unfold apt;omega⟩;have u:d≤10000:=by unfold apt at f;omega
 have p:=X0 d O;have g:=fun l=>Any.bits_Len Tryz.bitsLen (d:Int) l O O;change ∀l,Calls Tryz.prog 118 _ _ _ at g;rw[Int.toNat_natCast]at g;have h:Hd (gnq a b k=4*lst a b k-(d+2*(Go.Lib.bitLen d:Nat))):=by
  show _=_;unfold gnq;rw[←f,Int.toNat_natCast];omega
 obtain⟨B,n⟩:=A8 (Go.Lib.bitLen d);rw[←n]at p g h;obtain⟨m,hm⟩:=A8 (lst a b k);rw[←hm]at h;have v:1≤m∧m≤12:=by rw[hm];unfold lst;omega
 have q:(1048576:Nat)≤2^50:=Z;have r:(1048576:Nat)≤2^53:=Z;have e1:floatOfInt .f64 (d:Int)=fq (4*d):=I8 d O;have x:floatOfInt .f64 (B:Int)=fq (4*B):=I8 B O;have i:floatOfInt .f64 m=fq (4*m):=I8 m O;have y:∀W t,(binOp .quo t (.float .f64 (fq (4*d))) (.float .f64 4616189618054758400)).run Tryz.prog W=.ok (.float .f64 (fq d)) W:=fun W t=>run_float_arith W .quo t .f64 _ _ _ (A6z d 2 O O);have z:∀W t,(binOp .quo t (.float .f64 (fq (4*B))) (.float .f64 4611686018427387904)).run Tryz.prog W=.ok (.float .f64 (fq (2*B))) W:=fun W t=>run_float_arith W .quo t .f64 _ _ _ (by
  have:=A6z (2*B) 1 O O;rw[show(2:Int)^1*(2*(B:Int))=4*B by omega]at this;exact this)
 have A:∀W t,(binOp .add t (.float .f64 (fq d)) (.float .f64 (fq (2*B)))).run Tryz.prog W=.ok (.float .f64 (fq (d+2*B))) W:=fun W t=>run_float_arith W .add t .f64 _ _ _ (A9n _ _ O O O);have j:∀W t,(binOp .sub t (.float .f64 (fq (4*m))) (.float .f64 (fq (d+2*B)))).run Tryz.prog W=.ok (.float .f64 (fq (4*m-(d+2*B)))) W:=fun W t=>run_float_arith W .sub t .f64 _ _ _ (B18 _ _ O O O);have C:max a b-min a b=d:=by rw[f];unfold apt;rfl
 have D:min (min a b) k=m:=by rw[hm];unfold lst;rfl
 rw[h.o];clear f hm h n q r;go_enter Tryz.func179,Tryz.ntmps179;go_wp2_with (go_at_call 118;refine(g _).mono ?_;rintro e w' ⟨rfl,rfl⟩);case inl=>
  have c:k=m:=O;subst c;rw[i,j];simp only[Result.andThen];rw[Oper.upon_value];go_wp2_with fail;go_ret;exact⟨rfl,rfl⟩
 case inr.inl=>
  have c:b=m:=O;subst c;rw[i,j];simp only[Result.andThen];rw[Oper.upon_value];go_wp2_with fail;go_ret;exact⟨rfl,rfl⟩
 case inr.inr=>
  have c:a=m:=O;subst c;rw[i,j];simp only[Result.andThen];rw[Oper.upon_value];go_wp2_with fail;go_ret;exact⟨rfl,rfl⟩
theorem Tryz.info249:(Tryz.prog.info? 249).map (fun i=>(i.zero,i.size,i.bytes))=some (some (.agg #[I J 0,I J 0,.float .f64 0,I J 0]),4,32):=U
theorem A2w (l m:Lk)(w:World)(b:l.q.natAbs<2^53)(hm:m.q.natAbs<2^53) :
 Calls Tryz.prog 136 #[.agg #[I J l.a.1,I J l.a.2,.float .f64 (fq l.q),I J l.p],.agg #[I J m.a.1,I J m.a.2,.float .f64 (fq m.q),I J m.p]] w fun e w'=>e=.returned (I J (E4 l.q m.q))∧Below w.heap.size w w':=by
 obtain⟨⟨f,g⟩,c,h⟩:=l;obtain⟨⟨i,mp⟩,d,j⟩:=m;simp only at b hm;have al:∀(o p:Obj),Below w.heap.size w ((w.alloc o).alloc p):=fun o p=>((Below.refl _ w).alloc (Nat.le_refl _) o).alloc Zs p;have c1:=fun W=>A5Y c d b hm W;generalize E4 c d=r at c1⊢;generalize fq c=x at c1⊢;generalize fq d=y at c1⊢;clear b hm;go_enter Tryz.func136,Tryz.ntmps136;go_wp2_with (go_at_call 140;refine(c1 _).mono ?_;rintro e w' ⟨rfl,rfl⟩);go_ret;exact⟨rfl,al _ _⟩
end
section
open Go.RowKit Go.Shelf Go.Lib Go.Sort
def R8 (x:Int×Int):List Value:=[I J x.1,I J x.2]
theorem B1J (L:List (Int×Int))(q:Nat)(h:q<L.length):(flatK R8 2 L.toArray)[2*q]! = I J L[q].1∧(flatK R8 2 L.toArray)[2*q+1]! = I J L[q].2:=by
 have e:L.toArray[q]! = L[q]:=by simp[h]
 constructor
 ·rw[get_flatK _ _ _ _ Zo,show 2*q/2=q by omega,show 2*q%2=0 by omega,e];rfl
 ·rw[get_flatK _ _ _ _ Zo,show(2*q+1)/2=q by omega,show(2*q+1)%2=1 by omega,e];rfl
theorem A3.holdsA {w:World}{t:TypeId}{base g o n cap:Nat}{L:List (Int×Int)}(h:A3 w base t 2 (.slice (some ⟨g,o,none⟩) n cap) n (A9 L))(k:L.length=n):HoldsK R8 2 w g o L.toArray∧g<w.heap.size:=by
 rcases h.2 with⟨h,_⟩|⟨g',o',cap',cur,he,h1,a,l,m,p,b⟩
 ·simp at h
 ·simp only[Value.slice.injEq,Option.some.injEq,Addr.mk.injEq,and_true,true_and]at he;obtain⟨⟨rfl,rfl⟩,rfl⟩:=he;refine⟨fun j i=>⟨?_,frozen_of_row _ _ _ _ _ a⟩,lt_of_block a⟩;simp at i;have c:j/2<L.length:=O;have d:=B1J L (j/2) c;have f:=N5 L (j/2) c;rcases (show j=2*(j/2)∨j=2*(j/2)+1 by omega) with he|he
  ·rw[he];refine A1 a (b _ _ ?_);rw[f.1,d.1];rfl
  ·rw[he];refine A1 a (b _ _ ?_);rw[f.2,d.2];rfl
theorem A3.sortedA {w:World}{t:TypeId}{base g o n cap m:Nat}{L D:List (Int×Int)}{os:Array Obj}(h:A3 w base t 2 (.slice (some ⟨g,o,none⟩) n cap) n (A9 L))(u:L.length=n)(k:D.length=n) :
 A3 (sortWorldK R8 2 w g o m D.toArray os) base t 2 (.slice (some ⟨g,o,none⟩) n cap) n (A9 D)∧(∀j,j<w.heap.size→j≠g→(sortWorldK R8 2 w g o m D.toArray os).heap[j]?=w.heap[j]?)∧w.heap.size≤(sortWorldK R8 2 w g o m D.toArray os).heap.size∧(sortWorldK R8 2 w g o m D.toArray os).os=w.os∧(sortWorldK R8 2 w g o m D.toArray os).tape=w.tape∧(sortWorldK R8 2 w g o m D.toArray os).output=w.output:=by
 obtain⟨v,h⟩:=h;rcases h with⟨h,_⟩|⟨g',o',cap',cur,he,h1,b,c,l,d,x⟩
 ·simp at h
 ·simp only[Value.slice.injEq,Option.some.injEq,Addr.mk.injEq,and_true,true_and]at he;obtain⟨⟨rfl,rfl⟩,rfl⟩:=he;have p:=lt_of_block b;have f:(putRowK R8 2 (Sort.ahead w m) g o D.toArray).heap.size=w.heap.size:=by simp[putRowK]
  have hold:∀j,j<w.heap.size→(sortWorldK R8 2 w g o m D.toArray os).heap[j]?=(putRowK R8 2 (Sort.ahead w m) g o D.toArray).heap[j]?:=fun j a=>heap_grow_old _ _ (by rw[f];exact a);refine⟨⟨by rw[M0,k],Or.inr ⟨g,o,cap,putCells id o (flatK R8 2 D.toArray) cur,rfl,h1,?_,c,l,by simp[putCells];exact d,?_⟩⟩,?_,?_,rfl,rfl,rfl⟩
  ·rw[hold g p];show(mapBlock (Sort.ahead w m) g _).heap[g]?=_;unfold mapBlock;simp only[Array.getElem?_modify,if_true];show(w.heap[g]?).map _=_;rw[b];rfl
  ·rw[A07];intro q r;have i:=B1J D q r;have y:o+n*2≤cur.size:=Nat.le_trans (Nat.add_le_add_left (Nat.mul_le_mul_right 2 c) _) d;unfold putCells;rw[Array.getElem?_mapIdx,Array.getElem?_mapIdx,Array.getElem?_eq_getElem (show o+2*q<cur.size by omega),Array.getElem?_eq_getElem (show o+(2*q+1)<cur.size by omega)];simp only[Option.map_some];rw[if_pos Zo,if_pos Zo,show o+2*q-o=2*q by omega,show o+(2*q+1)-o=2*q+1 by omega,i.1,i.2];exact⟨rfl,rfl⟩
  ·intro j a s;rw[hold j a];show(mapBlock (Sort.ahead w m) g _).heap[j]?=_;unfold mapBlock;simp only[Array.getElem?_modify];rw[if_neg (fun e=>s e.symm)];rfl
  ·show _≤(grow _ _).heap.size;rw[Sort.size_grow,f];omega
theorem ltA (x y:Int×Int):ltOf cfA x y=A29 x y:=by
 unfold ltOf;exact B2b x y
theorem B2V:SWO (ltOf cfA):={
 irrefl:=fun x=>by rw[ltA,U5];exact A2y x
 trans:=fun x y z h1 b=>by rw[ltA,A1A]at *;exact S7 h1 b
 ntrans:=fun x y z h1 b=>by
  rw[ltA,U5]at *
  intro h
  rcases V9 x y with a|a|a
  ·exact h1 a
  ·subst a;exact b h
  ·exact b (S7 a h)}
theorem A9j (L:List (Int×Int))(n:Nat)(b:L.length=n)(c:n≤400)(base g o cap:Nat)(w:World)(f:A3 w base 247 2 (.slice (some ⟨g,o,none⟩) n cap) n (A9 L)) :
 Calls Tryz.prog 175 #[.slice (some ⟨g,o,none⟩) n cap,.func (.func 176) #[] #[]] w fun e w'=>e=.returned (.tuple #[])∧A3 w' base 247 2 (.slice (some ⟨g,o,none⟩) n cap) n (A9 (L.mergeSort leB))∧(∀j,j<w.heap.size→j≠g→w'.heap[j]?=w.heap[j]?)∧w.heap.size≤w'.heap.size∧w'.os=w.os∧w'.tape=w.tape∧w'.output=w.output:=by
 have i:∀args w,(callFunc 176 args).run Tryz.prog w=.ok (.enter 176 args) w:=enters_of Tryz.func176 U rfl;have hH:=f.holdsA b;have k:CmpLays Tryz.prog 176 #[] R8 2 cfA g o L.toArray.size w:=fun _ _ _ _ x y=>A4J x y _;have d:=AnyQ.slices_SortFunc_total Tryz.sortA 2 Tryz.isAgg247 Tryz.sizeOf247 R8 (fun _=>rfl) (fun x v h=>by simp[R8]at h;rcases h with rfl|rfl<;>rfl) cfA B2V 176 #[] g o cap L.toArray w i k hH.1 hH.2 Zo (fun x y h1 c=>by
  rw[ltA,U5]at h1 c;rcases V9 x y with a|a|a
  ·exact absurd a h1
  ·exact a
  ·exact absurd a c)
 change Calls Tryz.prog 175 _ _ _ at d;have l:L.toArray.size=n:=by simpa using b
 rw[l]at d;refine d.mono ?_;rintro e w' ⟨rfl,m,os,rfl⟩;have e1:(L.toArray.toList.mergeSort fun x y=>!ltOf cfA y x)=L.mergeSort leB:=by
  have:(fun x y=>!ltOf cfA y x)=leB:=by
   funext x y;rw[ltA];rfl
  rw[this]
 rw[e1];exact⟨rfl,f.sortedA b (by rw[List.length_mergeSort];exact b)⟩
end
section
open Go.RowKit Go.Shelf Go.Lib
def G2 (T:List Lk):List Value:=T.flatMap fun l=>[I J l.a.1,I J l.a.2,.float .f64 (fq l.q),I J l.p]
theorem A3t (E F:List Lk):G2 (E++F)=G2 E++G2 F:=by simp[G2]
theorem A8p (E:List Lk):∀j,j<E.length→(G2 E)[4*j]?=some (I J (E.getD j E8).a.1)∧(G2 E)[4*j+1]?=some (I J (E.getD j E8).a.2)∧(G2 E)[4*j+2]?=some (.float .f64 (fq (E.getD j E8).q))∧(G2 E)[4*j+3]?=some (I J (E.getD j E8).p):=by
 induction E with
 |nil=>intro j h;exact absurd h Zs
 |cons x E b=>
  intro j h;cases j with
  |zero=>exact⟨rfl,rfl,rfl,rfl⟩
  |succ j=>
   have:=b j (by simpa using h);show(I J x.a.1::I J x.a.2::Value.float .f64 (fq x.q)::I J x.p::G2 E)[4*(j+1)]?=_∧(I J x.a.1::I J x.a.2::Value.float .f64 (fq x.q)::I J x.p::G2 E)[4*(j+1)+1]?=_∧(I J x.a.1::I J x.a.2::Value.float .f64 (fq x.q)::I J x.p::G2 E)[4*(j+1)+2]?=_∧(I J x.a.1::I J x.a.2::Value.float .f64 (fq x.q)::I J x.p::G2 E)[4*(j+1)+3]?=_;rw[show 4*(j+1)=4*j+1+1+1+1 by omega];simpa using this
theorem A3.lks {w:World}{base g o cap n:Nat}{T:List Lk}(h:A3 w base 249 4 (.slice (some ⟨g,o,none⟩) n cap) n (G2 T)) :
 ∀j,j<T.length→w.cell? ⟨g,o+j*4,none⟩=some (I J (T.getD j E8).a.1)∧w.cell? ⟨g,o+j*4+1,none⟩=some (I J (T.getD j E8).a.2)∧w.cell? ⟨g,o+j*4+2,none⟩=some (.float .f64 (fq (T.getD j E8).q))∧w.cell? ⟨g,o+j*4+3,none⟩=some (I J (T.getD j E8).p):=by
 rcases h.2 with⟨h,_⟩|⟨_,_,_,cur,he,h1,b,f,i,k,c⟩
 ·simp at h
 ·simp only[Value.slice.injEq,Option.some.injEq,Addr.mk.injEq,and_true,true_and]at he;obtain⟨⟨rfl,rfl⟩,rfl⟩:=he;intro j d;have:=A8p T j d;rw[Nat.mul_comm];exact⟨A1 b (c _ _ this.1),A1 b (c _ _ this.2.1),A1 b (c _ _ this.2.2.1),A1 b (c _ _ this.2.2.2)⟩
def lkN (k:Int)(T:List Lk)(x:Int×Int):Lk:=⟨x,(J4 k x T T.length).1,(J4 k x T T.length).2⟩
theorem A62 (W:World)(a b c d:Value)(t:TypeId)(s:Nat)(hs:s=W.heap.size):∀j u,([a,b,c,d]:List Value)[j]?=some u→(W.alloc (.cells #[a,b,c,d] t)).cell? ((⟨s,0,none⟩:Addr).add j)=some u:=by
 intro j u f;subst hs;rw[Addr.add_lit,Nat.zero_add];refine A1 (heap_alloc_new W _) ?_;simpa using f
theorem A6y (a b:Int)(c:Nat)(d:Int):∀u∈([I J a,I J b,.float .f64 c,I J d]:List Value),u.oneCell'=true:=by
 intro u hu;simp at hu;rcases hu with rfl|rfl|rfl|rfl<;>rfl
structure TFr (w w':World)(v:Value)(Tb:Nat)(v':Value):Prop where
 os:w'.os=w.os
 tape:w'.tape=w.tape
 output:w'.output=w.output
 size:w.heap.size≤w'.heap.size
 other:∀j,j<w.heap.size→j≠Tb→v.ownBlock≠some j→w'.heap[j]?=w.heap[j]?
 new:∀g,v'.ownBlock=some g→v.ownBlock=some g∨w.heap.size≤g
theorem C4 (P:Program)(w:World)(a:Addr)(m:Mode)(k:FloatKind)(b:Nat):(store a (.float k b) m).run P w=stored P w a (.float k b) m:=run_store P w a _ m rfl
attribute [local go_sem] C4
theorem B1x (k:Int)(x:Int×Int)(T:List Lk)(n:Nat)(M:Int)(hk:k≤12)(d:48≤M)(b:∀i,i<n→(T.getD i E8).q≤M):(J4 k x T n).1≤2*M:=by
 have:∀j,j≤n→(J4 k x T j).1≤2*M:=by
  intro j;induction j with
  |zero=>intro _;simp[J4];omega
  |succ j c=>
   intro f;have h1:=c O;have g:=b j O;have h:=A4e (T.getD j E8).a x k;unfold J4;split
   ·simp only;omega
   ·exact h1
 exact this n (Nat.le_refl _)
def AdI (w wx:World)(X:Nat)(xr xp q p:Int):Prop:=wx.heap[X]?=some (.cells #[I J xr,I J xp] 247 (0,0))∧wx.heap[X+1]?=some (.cells #[I J xr,I J xp,.float .f64 (fq q),I J p] 249 (0,0))∧Below X w wx
theorem AdI.below {w wx b:World}{X:Nat}{c d q p:Int}(h:AdI w wx X c d q p){B:Nat}(a:Below B wx b)(f:X+1<B):AdI w b X c d q p:=
 ⟨(a.block X O).trans h.1,(a.block (X+1) f).trans h.2.1,h.2.2.trans (a.mono O)⟩
theorem AdI.set {w wx:World}{X:Nat}{c d q p:Int}(h:AdI w wx X c d q p)(a b:Int):AdI w ((wx.setCell ⟨X+1,2,none⟩ (.float .f64 (fq a))).setCell ⟨X+1,3,none⟩ (I J b)) X c d a b:=by
 obtain⟨h1,f,g⟩:=h;have u:=(D7.of_setCell (i:=2) (.float .f64 (fq a)) f).setCell (i:=3) (I J b);refine⟨(u.other X O).trans h1,u.here,(g.setCell (p:=⟨X+1,2,none⟩) (Nat.le_succ _) _).setCell (p:=⟨X+1,3,none⟩) (Nat.le_succ _) _⟩
theorem A9k {w wr w2:World}{f Tb base n g' o' cap' X:Nat}{k:Int}{v:Value}{ob:Obj}{T:List Lk}{x:Int×Int}{l m:Int}(t:Tb<wr.heap.size)(o:w2.heap[Tb]?=some (.cells #[I J k,v] 244 (0,0)))
 (p:A3 w2 base 249 4 (.slice (some ⟨g',o',none⟩) (n+1) cap') (n+1) (G2 T++[I J x.1,I J x.2,.float .f64 (fq l),I J m]))(b:I9 ((wr.drewN f).alloc ob) w2 v g')
 (q:lkN k T x=⟨x,l,m⟩)(c:Below X w wr)(u:w.heap.size≤X)(y:∀g,v.ownBlock=some g→g<X) :
 (w2.setCell ⟨Tb,1,none⟩ (.slice (some ⟨g',o',none⟩) (n+1) cap')).heap[Tb]?=some (.cells #[I J k,.slice (some ⟨g',o',none⟩) (n+1) cap'] 244 (0,0))∧
  A3 (w2.setCell ⟨Tb,1,none⟩ (.slice (some ⟨g',o',none⟩) (n+1) cap')) base 249 4 (.slice (some ⟨g',o',none⟩) (n+1) cap') (n+1) (G2 (T++[lkN k T x]))∧
  TFr w (w2.setCell ⟨Tb,1,none⟩ (.slice (some ⟨g',o',none⟩) (n+1) cap')) v Tb (.slice (some ⟨g',o',none⟩) (n+1) cap'):=by
 have a:=D7.of_setCell (i:=1) (.slice (some ⟨g',o',none⟩) (n+1) cap') o;have hs:=b.size;have z:((wr.drewN f).alloc ob).heap.size=wr.heap.size+1:=Zs;have A:=c.size;refine⟨a.here,?_,?_⟩
 ·rw[A3t,q];exact p.other (fun g d _=>a.other g (fun e=>by subst e;exact p.tag Z o d))
 ·refine⟨a.os.trans (b.os.trans c.os),a.tape.trans (b.tape.trans c.tape),a.output.trans (b.output.trans c.output),by rw[a.size];omega,?_,?_⟩
  ·intro j B r s;rw[a.other j r,b.other j O s];exact(Below.heap_alloc (wr.drewN f) ob j (show j<wr.heap.size by omega)).trans (c.block j O)
  ·intro g d;simp only[Value.ownBlock,Option.some.injEq]at d;subst d;rcases b.new with h|h
   ·exact Or.inl h
   ·right;omega
theorem B0e (Tb base n:Nat)(k:Int)(T:List Lk)(v:Value)(x:Int×Int)(w:World)(al:T.length=n)(hn:n<1000)(am:1≤k)(aH:k≤12)(hx:okA x)
 (hT:∀j,j<n→okA (T.getD j E8).a∧0≤(T.getD j E8).q∧(T.getD j E8).q≤100000)
 (H:w.heap[Tb]?=some (.cells #[I J k,v] 244 (0,0)))(aa:A3 w base 249 4 v n (G2 T))(bf:base≤w.heap.size) :
 Calls Tryz.prog 134 #[.pointer (some ⟨Tb,0,none⟩),.agg #[I J x.1,I J x.2]] w fun e w'=>e=.returned (.tuple #[])∧
  ∃v',w'.heap[Tb]?=some (.cells #[I J k,v'] 244 (0,0))∧A3 w' base 249 4 v' (n+1) (G2 (T++[lkN k T x]))∧TFr w w' v Tb v':=by
 obtain⟨i0,hi,aI,aJ,aK⟩:=info_parts Tryz.info249;obtain⟨A,c,rfl⟩:=aa.shape;obtain⟨b,d⟩:=x;have bg:=lt_of_block H;have c0:w.cell? ⟨Tb,0,none⟩=some (I J k):=A1 H rfl;have c1:w.cell? ⟨Tb,1,none⟩=some (.slice A n c):=A1 H rfl;have HB:=A4 H;have ab:=A4 aa;have an:=A4 al;have HT:=A4 hT;have ap:=A4 hx;have aL:Hd ((Value.slice A n c).ownBlock≠some Tb):=aa.tag Z H;have aM:(1048576:Nat)≤2^50:=Z;have e1:floatOfInt .f64 k=fq (4*k):=I8 k O;clear H aa al hT hx aM;go_enter Tryz.func134,Tryz.ntmps134;go_wp2_with fail;go_region;go_wp2_with fail;obtain⟨X,K⟩:=A8 w.heap.size;have HX:=A4 K;have aq:Tb<X:=O;have ar:Hd (AdI w ((w.alloc (.cells #[I J b,I J d] 247)).alloc (.cells #[I J b,I J d,.float .f64 (fq (4*k)),I J (-1)] 249)).drew X b d (4*k) (-1)):=by
  refine⟨?_,?_,?_⟩
  ·rw[K];exact(Below.heap_alloc (w.alloc (.cells #[I J b,I J d] 247)) _ _ Zs).trans (heap_alloc_new w _)
  ·have:=heap_alloc_new (w.alloc (.cells #[I J b,I J d] 247)) (.cells #[I J b,I J d,.float .f64 (fq (4*k)),I J (-1)] 249 (0,0));have e:(w.alloc (.cells #[I J b,I J d] 247)).heap.size=w.heap.size+1:=Zs;rw[e]at this;rw[K];exact this
  ·rw[K];exact(((Below.refl _ w).alloc (Nat.le_refl _) _).alloc Zs _).drew
 rw[←K];clear K;go_loopw [20] (fun jv wx=>∃j:Nat,j≤n∧jv=I J j∧AdI w wx X b d (J4 k (b,d) T j).1 (J4 k (b,d) T j).2) (fun jv _=>n-(intOf jv).toNat);case atStart=>exact⟨0,Nat.zero_le _,rfl,ar.o⟩
 case round=>
  obtain⟨j,hj,rfl,hI⟩:=hrel;clear ar;obtain⟨h1,m,z⟩:=hI;by_cases L:j<n
  ·have bh:(j:Int)<n:=O;obtain⟨ag,au,aN,aO⟩:∃ag au,A=some ⟨ag,au,none⟩∧ag<X:=by
    have hh:=ab.o;rcases hh.2 with⟨_,h⟩|⟨g',o',cap',cur,he,h1,m,_⟩
    ·omega
    ·simp only[Value.slice.injEq]at he;exact⟨g',o',he.1,by rw[HX.o];exact lt_of_block m⟩
   subst aN;obtain⟨t,ht⟩:=A8 (T.getD j E8);have ae:=ab.o.lks j (by rw[an.o];exact L);have af:=HT.o j L;rw[←ht]at ae af;obtain⟨⟨p,r⟩,s,aP⟩:=t;simp only at ae af;have P:=A4 ht.symm;obtain⟨d1,d2,d3,d4⟩:=ae;rw[←z.cell aO]at d1 d2 d3 d4;obtain⟨aQ,bi,bj⟩:=af;have b0:wr.cell? ⟨Tb,0,none⟩=some (I J k):=by rw[z.cell aq];exact c0
   obtain⟨f,D⟩:=A8 ((J4 k (b,d) T j).1);obtain⟨M,E⟩:=A8 ((J4 k (b,d) T j).2);rw[←D,←E]at m;have B:=A4 D;have ah:=A4 E;have av:X+1<wr.heap.size:=lt_of_block m;have x0:wr.cell? ⟨X,0,none⟩=some (I J b):=A1 h1 rfl;have x1:wr.cell? ⟨X,1,none⟩=some (I J d):=A1 h1 rfl;have HI:Hd (AdI w wr X b d f M):=⟨h1,m,z⟩;clear ht D E h1 m z;have aw:∀o,(wr.alloc o).cell? ⟨X,0,none⟩=some (I J b):=fun o=>(World.cell?_of_block (Below.heap_alloc _ _ X O)).trans x0;have ax:∀o,(wr.alloc o).cell? ⟨X,1,none⟩=some (I J d):=fun o=>(World.cell?_of_block (Below.heap_alloc _ _ X O)).trans x1;obtain⟨C,ay⟩:=A8 (.cells #[I J p,I J r,.float .f64 (fq s),I J aP] 249:Obj);have az:Below wr.heap.size wr (wr.alloc C):=(Below.refl _ _).alloc (Nat.le_refl _) _;have aA:(wr.alloc C).heap[wr.heap.size]?=some C:=heap_alloc_new wr _;have aR:(wr.alloc C).heap.size=wr.heap.size+1:=Zs;have R:Hd (∀l,Below (wr.alloc C).heap.size (wr.alloc C) l→AdI w l X b d f M∧l.heap[wr.heap.size]?=some C∧l.cell? ⟨Tb,0,none⟩=some (I J k)∧wr.heap.size<l.heap.size):=fun l h4=>by
    have hb:Below wr.heap.size wr l:=az.trans (h4.mono O);refine⟨HI.o.below hb av,(h4.block _ O).trans aA,?_,?_⟩
    ·rw[hb.cell (show Tb<_ by omega)];exact b0
    ·have:=h4.size;omega
   rw[ay]at R;clear az aA aR ay C;by_cases S:fol (p,r) (b,d)
   ·have V:A4l (p,r) (b,d)=true:=(A5z _ _).2 S;have F:=fun W=>A05 (b,d) (p,r) W;rw[V]at F;clear V;go_wp2_with fail;refine(F _).mono ?_;rintro e l ⟨rfl,Y⟩;obtain⟨u,G,aS,aT⟩:=R.o l Y;clear R Y aw ax F;obtain⟨ai,aj⟩:=S;simp only at ai aj;have xo:=ap.o;obtain⟨aU,aV,aW,aX⟩:=xo;obtain⟨aB,aC,aD,aE⟩:=aQ;simp only at aU aV aW aX aB aC aD aE;obtain⟨Q,hQ⟩:=A8 (qtr (p,r) (b,d) k);have bk:Q≤48:=by rw[hQ];exact Int.le_trans (A4e _ _ _) O
    have bl:-20000≤Q:=by rw[hQ];exact A9C _ _ _ ⟨aB,aC,aD,aE⟩ ap.o ⟨ai,aj⟩ am
    have cG:∀W,Calls Tryz.prog 179 #[I J (d-r),I J (b-p),I J k] W fun e w'=>e=.returned (.float .f64 (fq Q))∧w'=W:=fun W=>by
     rw[hQ];exact A9Z (d-r) (b-p) k W O O O O am aH
    have HQ:=A4 hQ;have bm:4*k≤f:=by rw[B.o];exact A6A _ _ _ _
    have bn:f≤200000:=by
     rw[B.o];exact B1x k (b,d) T j 100000 O O (fun i hi=>(HT.o i O).2.2)
    have aY:(1048576:Nat)≤2^53:=Z;have qa:∀W t,(binOp .add t (.float .f64 (fq s)) (.float .f64 (fq Q))).run Tryz.prog W=.ok (.float .f64 (fq (s+Q))) W:=fun W t=>run_float_arith W .add t .f64 _ _ _ (A9n _ _ O O O);have ho:FloatKind.f64.format.order (fq (s+Q)) (fq f)=some (compare (s+Q) f):=A0p _ _ O O;have l0:=A1 G (i:=0) rfl;have l1:=A1 G (i:=1) rfl;have l2:=A1 G (i:=2) rfl;have l3:=A1 G (i:=3) rfl;have y0:=A1 u.1 (i:=0) rfl;have y1:=A1 u.1 (i:=1) rfl;have z2:=A1 u.2.1 (i:=2) rfl;have z3:=A1 u.2.1 (i:=3) rfl;have bo:l.frozen? ⟨X+1,2,none⟩=false:=frozen_of_row _ _ _ _ _ u.2.1;have br:l.frozen? ⟨X+1,3,none⟩=false:=frozen_of_row _ _ _ _ _ u.2.1;have y:=A4 u;have ak:Hd (fol (p,r) (b,d)):=⟨ai,aj⟩;have s1:IntKind.i64.wrap (d-r)=d-r:=Zw;have s2:IntKind.i64.wrap (b-p)=b-p:=Zw;clear hQ aY G u HI HT x0 x1 b0 d1 d2 d3 d4;rcases Int.lt_trichotomy (s+Q) f with N|N|N
    ·rw[show compare (s+Q) f=.lt by simp[compare,compareOfLessAndEq,N]]at ho;go_wp2_with fail;go_quiet ((go_at_call 179;refine Calls.quiet_of_same (cG _)));go_wp2_with fail;go_roundw;case rel=>
      have e:J4 k (b,d) T (j+1)=J4 k (b,d) T j:=by
       rw[J4,if_neg];rw[P.o,←B.o];simp only;rw[←HQ.o];exact fun h=>by have:=h.2;omega
      refine⟨j+1,O,Zn,?_⟩;rw[e,←B.o,←ah.o];exact⟨y.o.1,y.o.2.1,B3 y.o.2.2 _⟩
     case measure=>simp[intOf];omega
    ·rw[show compare (s+Q) f=.eq by rw[N];simp[compare,compareOfLessAndEq]]at ho;subst N;go_wp2_with fail;go_quiet ((go_at_call 179;refine Calls.quiet_of_same (cG _)));go_wp2_with fail;go_roundw;case rel=>
      have e:J4 k (b,d) T (j+1)=J4 k (b,d) T j:=by
       rw[J4,if_neg];rw[P.o,←B.o];simp only;rw[←HQ.o];exact fun h=>by have:=h.2;omega
      refine⟨j+1,O,Zn,?_⟩;rw[e,←B.o,←ah.o];exact⟨y.o.1,y.o.2.1,B3 y.o.2.2 _⟩
     case measure=>simp[intOf];omega
    ·rw[show compare (s+Q) f=.gt by
      have g1:¬(s+Q<f):=O;have g2:¬(s+Q=f):=O;simp[compare,compareOfLessAndEq,g1,g2]]at ho
     go_wp2_with fail;go_quiet ((go_at_call 179;refine Calls.quiet_of_same (cG _)));go_wp2_with fail;go_roundw;case rel=>
      have e:J4 k (b,d) T (j+1)=(s+Q,(j:Int)):=by
       rw[J4,if_pos]
       ·rw[P.o];simp only;rw[←HQ.o]
       ·rw[P.o,←B.o];simp only;rw[←HQ.o];exact⟨ak.o,N⟩
      refine⟨j+1,O,Zn,?_⟩;rw[e];have h5:AdI w (l.drewN nq) X b d f M:=⟨y.o.1,y.o.2.1,B3 y.o.2.2 _⟩;exact h5.set _ _
     case measure=>simp[intOf];omega
   ·have V:A4l (p,r) (b,d)=false:=by
     rw[←Bool.not_eq_true,A5z];exact S
    have F:=fun W=>A05 (b,d) (p,r) W;rw[V]at F;have ak:=A4 S;clear V S;go_wp2_with fail;refine(F _).mono ?_;rintro e l ⟨rfl,Y⟩;obtain⟨u,G,aS,aT⟩:=R.o l Y;have y:=A4 u;clear R Y aw ax F u G;go_wp2_with fail;go_roundw;case rel=>
     have e:J4 k (b,d) T (j+1)=J4 k (b,d) T j:=by
      rw[J4,if_neg];rw[P.o];exact fun h=>ak.o h.1
     refine⟨j+1,O,Zn,?_⟩;rw[e,←B.o,←ah.o];exact y.o
    case measure=>simp[intOf];omega
  ·have aZ:j=n:=O;subst aZ;obtain⟨f,D⟩:=A8 ((J4 k (b,d) T j).1);obtain⟨M,E⟩:=A8 ((J4 k (b,d) T j).2);rw[←D,←E]at m;have ba:Hd (lkN k T (b,d)=⟨(b,d),f,M⟩):=by
    show _=_;unfold lkN;rw[an.o,D,E]
   have av:X+1<wr.heap.size:=lt_of_block m;have bb:A3 wr base 249 4 (.slice A j c) j (G2 T):=ab.o.other (fun g _ L=>z.block g (by rw[HX.o];exact L));have ac:wr.heap[Tb]?=some (.cells #[I J k,.slice A j c] 244 (0,0)):=(z.block Tb aq).trans HB.o;have bc:=A4 ac;have t1:wr.cell? ⟨Tb,1,none⟩=some (.slice A j c):=A1 ac rfl;have bs:wr.frozen? ⟨Tb,1,none⟩=false:=frozen_of_row _ _ _ _ _ ac;have z0:=A1 m (i:=0) rfl;have z1:=A1 m (i:=1) rfl;have z2:=A1 m (i:=2) rfl;have z3:=A1 m (i:=3) rfl;have H3:=A4 z;have aF:Tb<wr.heap.size:=O;have bt:base≤wr.heap.size:=by have:=z.size;omega
   clear D E h1 m z ac;go_wp2_with fail;go_region_law (refine G3 rfl (.tmp 63) (.tmp 65) 242 rfl 249 i0 _ 4 32 Tryz.underlying242 hi aI aJ aK rfl Z base (.slice A j c) j (G2 T) (by simp[Act.eval]) (by exact bb.other (fun g _ L=>Below.heap_alloc (wr.drewN _) _ _ L)) ⟨wr.heap.size,0,none⟩ 1 [I J b,I J d,.float .f64 (fq f),I J M] (by simp[Act.eval]) rfl (by exact A62 (wr.drewN _) _ _ _ _ _ _ rfl) (A6y _ _ _ _) (by unfold maxLen;omega) O Zo ?_;intro g' o' cap' w2 bd aG;have ad:w2.heap[Tb]?=some (.cells #[I J k,.slice A j c] 244 (0,0)):=(aG.other Tb Zo aL.o).trans ((Below.heap_alloc (wr.drewN _) _ _ aF).trans bc.o);have be:Hd _:=ad;have q4:=A1 ad (i:=1) rfl;have qf:w2.frozen? ⟨Tb,1,none⟩=false:=frozen_of_row w2 _ _ _ _ ad;clear ad);all_goals go_end0
   all_goals exact⟨rfl,_,A9k aF be.o bd aG ba.o H3.o (Nat.le_of_eq HX.o.symm) (fun g hg=>by rw[HX.o];exact(ab.o.lt hg).2)⟩
theorem Tryz.info247:(Tryz.prog.info? 247).map (fun i=>(i.zero,i.size,i.bytes))=some (some (.agg #[I J 0,I J 0]),2,16):=U
theorem B1w (args:Array Value)(w:World):(callFunc 134 args).run Tryz.prog w=.ok (.enter 134 args) w:=enters_of Tryz.func134 U rfl args w
structure B2I (w w':World)(g:Nat):Prop where
 os:w'.os=w.os
 tape:w'.tape=w.tape
 output:w'.output=w.output
 size:w.heap.size≤w'.heap.size
 other:∀j,j<w.heap.size→j≠g→w'.heap[j]?=w.heap[j]?
def TbI (w wx:World)(Tb:Nat)(k:Int)(S:List (Int×Int))(i:Nat):Prop:=∃v,wx.heap[Tb]?=some (.cells #[I J k,v] 244 (0,0))∧A3 wx w.heap.size 249 4 v i (G2 (tb k S i))∧B2I w wx Tb
theorem A3e (L:List (Int×Int))(n:Nat)(hn:L.length=n)(Tb g o cap:Nat)(k:Int)(w:World)(az:1≤k)(aA:k≤12)(h0:0<n)(h4:n≤400)(hg:g<w.heap.size)(aP:g≠Tb)
 (hA:∀j (b:j<L.length),w.cell? ⟨g,o+j*2,none⟩=some (I J L[j].1)∧w.cell? ⟨g,o+j*2+1,none⟩=some (I J L[j].2))
 (ab:∀x∈L,okA x)(M:w.heap[Tb]?=some (.cells #[I J k,.slice none 0 0] 244 (0,0))) :
 Calls Tryz.prog 133 #[.slice (some ⟨g,o,none⟩) n cap,.func (.func 134) #[.pointer (some ⟨Tb,0,none⟩)] #[]] w fun e w'=>e=.returned (.tuple #[])∧TbI w w' Tb k (canon L) (canon L).length:=by
 obtain⟨i6,ac,ad,ae,af⟩:=info_parts Tryz.info247;have aB:=lt_of_block M;have A:=A4 hn;have HA:=A4 hA;have ag:=A4 ab;have HB:=A4 M;obtain⟨s,hZ,aC⟩:∃s:Array Value,s.size=n*2∧∀W:World,(Instr.makeSlice 294 (I J 0) (I J n)).run Tryz.prog W=.ok (.slice (some ⟨W.heap.size,0,none⟩) 0 n) (W.alloc (.cells s 247)):=by
  refine⟨madeCells (Value.agg #[I J 0,I J 0]).cells (n*2),by rw[size_madeCells],fun W=>?_⟩;have:=run_make (P:=Tryz.prog) W 294 247 i6 _ Tryz.underlying294 ac ad .i64 .i64 0 n O O (by rw[af];omega) O;rw[ae]at this;simpa using this
 clear hn hA ab M;go_enter Tryz.func133,Tryz.ntmps133;go_wp2_with fail;have ah:Hd (A3 (w.alloc (.cells s 247)) w.heap.size 247 2 (.slice (some ⟨w.heap.size,0,none⟩) 0 n) 0 (A9 (L.take 0))):=⟨rfl,Or.inr ⟨w.heap.size,0,n,s,rfl,Nat.le_refl _,heap_alloc_new w _,Nat.zero_le _,by unfold maxLen;omega,O,fun j u b=>by simp[A9]at b⟩⟩;have ai:Hd (Below w.heap.size w (w.alloc (.cells s 247))):=(Below.refl _ w).alloc (Nat.le_refl _) _;clear aC;go_loopw [4,14] (fun sv l wx=>∃i:Nat,i≤n∧l=I J i∧A3 wx w.heap.size 247 2 sv i (A9 (L.take i))∧Below w.heap.size w wx) (fun _ l _=>n-(intOf l).toNat);case atStart=>exact⟨0,Nat.zero_le _,rfl,ah.o,ai.o⟩
 case round=>
  clear ah ai;obtain⟨i,hi,rfl,p,t⟩:=hrel;obtain⟨ao,c,hv⟩:=p.shape;subst hv;by_cases B:i<n
  ·have aQ:(i:Int)<n:=O;have aj:i<L.length:=by rw[A.o];exact B
   obtain⟨c1,c2⟩:=HA.o i aj;rw[←t.cell hg]at c1 c2;obtain⟨x,f⟩:=A8 (L[i]);rw[←f]at c1 c2;have N:=A4 f;obtain⟨Q,R⟩:=x;simp only at c1 c2;have aR:=t.size;have d:=A4 t;have C:=A4 p;clear f p t;go_wp2_with (at_builtin;go_must (refine B5 _ rfl (.tmp 18) (.tmp 20) 294 rfl 247 i6 _ 2 16 Tryz.underlying294 ac ad ae af rfl Z w.heap.size (.slice ao i c) i (A9 (L.take i)) rfl (by exact C.o.other (fun g _ B=>(Below.heap_alloc _ _ _ Zo).trans (Below.heap_alloc _ _ _ B))) ⟨wr.heap.size+1,0,none⟩ 1 [I J Q,I J R] rfl rfl (by exact Z0 _ _ _ _ _ Zs) (P2 _ _) (by unfold maxLen;omega) O Zo ?_;intro g' o' cap' w3 aD D));go_roundw;case rel=>
    refine⟨i+1,O,Zn,?_,?_⟩
    ·have e:A9 (L.take (i+1))=A9 (L.take i)++[I J Q,I J R]:=by
      rw[List.take_succ_eq_append_getElem aj,J2,←N.o];rfl
     rw[e];exact aD
    ·refine⟨D.os.trans d.o.os,D.tape.trans d.o.tape,D.output.trans d.o.output,?_,fun q G=>?_⟩
     ·have:=D.size;simp at this;omega
     ·rw[D.other q Zo (fun he=>by have:=(C.o.lt he).1;omega),Below.heap_alloc _ _ _ Zo,Below.heap_alloc _ _ _ O];exact d.o.block q G
   case measure=>simp[intOf];omega
  ·have he:i=n:=O;subst he;obtain⟨g1,o1,aE,aS⟩:∃g1 o1,ao=some ⟨g1,o1,none⟩∧w.heap.size≤g1:=by
    rcases p.2 with⟨_,h⟩|⟨g',o',cap',cur,he,h1,T,_⟩
    ·omega
    ·simp only[Value.slice.injEq]at he;exact⟨g',o',he.1,h1⟩
   subst aE;rw[List.take_of_length_le (by rw[A.o];exact Nat.le_refl _)]at p;have C:=A4 p;have d:=A4 t;clear p t;go_wp2_with (first|(go_at_call 175;refine(A9j L i A.o h4 w.heap.size g1 o1 c _ C.o).mono ?_;rintro e w1 ⟨rfl,ak,al,aF,am,an,ap⟩)|(go_at_call 177;refine(A5l (L.mergeSort leB) i (by rw[List.length_mergeSort];exact A.o) h0 h4 w.heap.size g1 o1 c _ ak).mono ?_;rintro e w2 ⟨rfl,E,y⟩));have z:Hd (Below w.heap.size w w2):=by
    have aT:g1<wr.heap.size:=(C.o.lt rfl).2;refine⟨y.os.trans (am.trans d.o.os),y.tape.trans (an.trans d.o.tape),y.output.trans (ap.trans d.o.output),?_,fun q G=>?_⟩
    ·have h1:=d.o.size;have T:=y.size;omega
    ·have h1:=d.o.size;rw[y.other q O,al q O O];exact d.o.block q G
   have aq:uniq (L.mergeSort leB)=canon L:=rfl;rw[aq]at E⊢;have V:Hd (∀j (b:j<(canon L).length),okA (canon L)[j]):=fun j b=>ag.o _ ((Y3 L _).1 (List.getElem_mem b));have ar:(canon L).length≤400:=Nat.le_trans (S5 L) (by have:=A.o;omega);obtain⟨S,X⟩:=A8 (canon L);rw[←X]at E V ar⊢;obtain⟨m,hm⟩:=A8 S.length;have HM:=A4 hm;have aG:=A4 X;rw[←hm]at E ar⊢;have aH:=A4 E;clear E y ak al aF am an ap X hm aq HA ag;go_loopw [28] (fun l wx=>∃q:Nat,q≤m∧l=I J q∧TbI w wx Tb k S q∧A3 wx w.heap.size 247 2 (.slice (some ⟨g1,o1,none⟩) m c) m (A9 S)) (fun l _=>m-(intOf l).toNat);case atStart=>
    exact⟨0,Nat.zero_le _,rfl,⟨_,(z.o.block Tb aB).trans HB.o,A3.nil _ _ _ _,⟨z.o.os,z.o.tape,z.o.output,z.o.size,fun j b _=>z.o.block j b⟩⟩,aH.o⟩
   case round=>
    obtain⟨q,G,rfl,⟨v,Y,F,r⟩,H⟩:=hrel;by_cases aI:q<m
    ·have aU:(q:Int)<m:=O;have aa:q<S.length:=by rw[←HM.o];exact aI
     obtain⟨c1,c2⟩:=H.ans q aa;obtain⟨x,f⟩:=A8 (S[q]);rw[←f]at c1 c2;have N:Hd (S.getD q (0,0)=x):=by
      show S.getD q (0,0)=x;rw[f];simp[aa]
     have aJ:okA x:=by rw[f];exact V.o q aa
     have aV:=r.size;have au:∀j,j<q→okA ((tb k S q).getD j E8).a∧0≤((tb k S q).getD j E8).q∧((tb k S q).getD j E8).q≤100000:=fun j b=>by
      have hb:=S9 k O S q j b;have av:j<S.length:=O;refine⟨?_,O,?_⟩
      ·rw[N9 k S j q b];simp only;have:S.getD j (0,0)=S[j]:=by simp[av]
       rw[this];exact V.o j av
      ·have h1:=hb.2.1;have:4*k*((j:Int)+1)≤48*401:=Int.mul_le_mul O O O O;omega
     have aw:=fun ob:Obj=>B0e Tb w.heap.size q k (tb k S q) v x (wr.alloc ob) (Q3 k S q) O az aA aJ au ((Below.heap_alloc _ _ _ O).trans Y) (F.other (fun g _ B=>Below.heap_alloc _ _ _ B)) Zo;have ax:Hd (∀(ob:Obj) (w':World) (v':Value),w'.heap[Tb]?=some (.cells #[I J k,v'] 244 (0,0))→A3 w' w.heap.size 249 4 v' (q+1) (G2 (tb k S q++[lkN k (tb k S q) x]))→TFr (wr.alloc ob) w' v Tb v'→TbI w w' Tb k S (q+1)∧A3 w' w.heap.size 247 2 (.slice (some ⟨g1,o1,none⟩) m c) m (A9 S)):=by
      intro ob w' v' K a2 a3;have aW:(wr.alloc ob).heap.size=wr.heap.size+1:=Zs;refine⟨⟨v',K,?_,?_⟩,?_⟩
      ·have e:tb k S (q+1)=tb k S q++[lkN k (tb k S q) x]:=by
        simp only[tb,lkN,Q3];have h:=N.o;rw[h]
       rw[e];exact a2
      ·refine⟨a3.os.trans r.os,a3.tape.trans r.tape,a3.output.trans r.output,by have:=a3.size;omega,fun j b ay=>?_⟩;rw[a3.other j O ay (fun he=>by have:=(F.lt he).1;omega),Below.heap_alloc _ _ _ O];exact r.other j b ay
      ·refine H.other (fun g2 aK aL=>?_);have aM:g1=g2:=by simpa[Value.ownBlock] using aK
       subst aM;rw[a3.other g1 O O (fun he=>?_),Below.heap_alloc _ _ _ aL];obtain⟨cur,aN⟩:∃cur,wr.heap[g1]?=some (.cells cur 247 (0,0)):=by
        rcases H.2 with⟨h,_⟩|⟨g3,o3,aX,cur,h,_,T,_⟩
        ·simp at h
        ·simp only[Value.slice.injEq,Option.some.injEq,Addr.mk.injEq,and_true,true_and]at h;obtain⟨⟨rfl,rfl⟩,rfl⟩:=h;exact⟨cur,T⟩
       exact F.tag Z aN he
     obtain⟨Q,R⟩:=x;simp only at c1 c2;have aY:=B1w;clear f Y F r H au;go_wp2_with fail;refine(aw _).mono ?_;rintro e w' ⟨rfl,v',K,a2,a3⟩;obtain⟨f1,f2⟩:=ax.o _ w' v' K a2 a3;clear aw ax K a2 a3;go_wp2_with fail;go_roundw;case rel=>exact⟨q+1,O,Zn,f1,f2⟩
     case measure=>simp[intOf];omega
    ·have aO:q=m:=O;subst aO;go_wp2_with fail;go_end0;refine⟨rfl,?_⟩;rw[←aG.o,←HM.o];exact⟨v,Y,F,r⟩
end
end Mn
end Go.Proofs.YtilcmkiihefkkaaGreatDoor
