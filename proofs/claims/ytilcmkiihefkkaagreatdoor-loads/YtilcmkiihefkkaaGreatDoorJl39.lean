import Derived.Deep.RegionHeld3
import Derived.Test.YtilcmkiihefkkaaGreatDoorJl38
set_option linter.unusedVariables false
set_option linter.unusedSimpArgs false
set_option maxRecDepth 1000000
set_option maxHeartbeats 64000000
open Go.Value renaming int→I
open Go.IntKind renaming i64→J
namespace Go.Proofs.YtilcmkiihefkkaaGreatDoor
namespace Mn
section
open Go.RowKit Go.Shelf Go.Lib
theorem A5e (a b:Int×Int)(w:World) :
 Calls Tryz.prog 176 #[.agg #[I J a.1,I J a.2],.agg #[I J b.1,I J b.2]] w fun e w'=>e=.returned (I J (cfA a b))∧∃q os,w'=Sort.grow (w.drewN q) os:=by
 obtain⟨d,ap⟩:=a;obtain⟨f,c⟩:=b;have c1:=fun g=>AnyG.cmp_Compare_int Tryz.cmpInt ap c g;have c2:=fun g=>AnyG.cmp_Compare_int Tryz.cmpInt d f g;change ∀g,Calls Tryz.prog 119 _ _ _ at c1;change ∀g,Calls Tryz.prog 119 _ _ _ at c2;rw[A0Q]at c1 c2;have i:Hd (cfA (d,ap) (f,c)=if F5 ap c=0 then F5 d f else F5 ap c):=rfl;generalize cfA (d,ap) (f,c)=z at i⊢;generalize F5 ap c=x at c1 i;generalize F5 d f=y at c2 i;have l:∀p q r,((p=ap∧q=c∧r=x)∨(p=d∧q=f∧r=y))→∀W,Calls Tryz.prog 119 #[I J p,I J q] W fun e w'=>e=.returned (I J r)∧w'=W:=by
  rintro p q r (⟨rfl,rfl,rfl⟩|⟨rfl,rfl,rfl⟩)
  ·exact c1
  ·exact c2
 clear c1 c2;have k:∀o1 j:Obj,((((w.alloc o1).alloc j).alloc (.cells #[I J x,I J y] 3)).drew).cell? ⟨w.heap.size+1+1,0,none⟩=some (I J x)∧((((w.alloc o1).alloc j).alloc (.cells #[I J x,I J y] 3)).drew).cell? ⟨w.heap.size+1+1,1,none⟩=some (I J y):=by
  intro o1 j;have h:=heap_alloc_new ((w.alloc o1).alloc j) (.cells #[I J x,I J y] 3 (0,0));have e:((w.alloc o1).alloc j).heap.size=w.heap.size+1+1:=Zs;rw[e]at h;exact⟨A5Q h rfl,A5Q h rfl⟩
 have m:=A4d x y _ _ (k (.cells #[I J d,I J ap] 247) (.cells #[I J f,I J c] 247)).1 (k _ _).2 z i.o;clear k i;have n:Hd (∃os,(((w.alloc (.cells #[I J d,I J ap] 247)).alloc (.cells #[I J f,I J c] 247)).alloc (.cells #[I J x,I J y] 3)).drew=Sort.grow (w.drewN 1) os):=by
  refine⟨#[.cells #[I J d,I J ap] 247]++#[.cells #[I J f,I J c] 247]++#[.cells #[I J x,I J y] 3],?_⟩;rw[Sort.alloc_eq_grow,Sort.alloc_eq_grow,Sort.grow_grow,Sort.alloc_eq_grow,Sort.grow_grow];rfl
 go_enter Tryz.func176,Tryz.ntmps176;go_wp2_with fail;go_region_held3 (fun w'=>w'.cell? ⟨w.heap.size,0,none⟩=some (I J d)∧w'.cell? ⟨w.heap.size,1,none⟩=some (I J ap)∧w'.cell? ⟨w.heap.size+1,0,none⟩=some (I J f)∧w'.cell? ⟨w.heap.size+1,1,none⟩=some (I J c)) (go_keep) (first|(go_at_call 119;(refine(l _ _ _ (by first|exact Or.inl ⟨rfl,rfl,rfl⟩|exact Or.inr ⟨rfl,rfl,rfl⟩) _).mono ?_;rintro e w' ⟨rfl,rfl⟩))|(go_at_call 139;refine m.mono ?_;rintro e w' ⟨rfl,rfl⟩));go_wp2_with fail;go_ret;exact⟨rfl,1,n.o⟩
def gnq (a b k:Int):Int:=4*lst a b k-apt a b-2*(Go.Lib.bitLen (apt a b).toNat:Nat)
theorem B0z (a b k:Int)(w:World)(s:1≤a)(a2:a≤10000)(b1:1≤b)(b2:b≤10000)(k1:1≤k)(k2:k≤12) :
 Calls Tryz.prog 179 #[I J a,I J b,I J k] w fun e w'=>e=.returned (.float .f64 (fq (gnq a b k)))∧w'=w:=by
 obtain⟨d,f⟩:∃d:Nat,(d:Int)=apt a b:=⟨(apt a b).toNat,by unfold apt;omega⟩;have u:d≤10000:=by unfold apt at f;omega
 have p:=Y9 d O;have g:=fun l=>Any.bits_Len Tryz.bitsLen (d:Int) l O O;change ∀l,Calls Tryz.prog 118 _ _ _ at g;rw[Int.toNat_natCast]at g;have h:Hd (gnq a b k=4*lst a b k-(d+2*(Go.Lib.bitLen d:Nat))):=by
  show _=_;unfold gnq;rw[←f,Int.toNat_natCast];omega
 obtain⟨B,n⟩:=A8 (Go.Lib.bitLen d);rw[←n]at p g h;obtain⟨m,hm⟩:=A8 (lst a b k);rw[←hm]at h;have v:1≤m∧m≤12:=by rw[hm];unfold lst;omega
 have q:(1048576:Nat)≤2^50:=Z;have r:(1048576:Nat)≤2^53:=Z;have e1:floatOfInt .f64 (d:Int)=fq (4*d):=N9 d O;have x:floatOfInt .f64 (B:Int)=fq (4*B):=N9 B O;have i:floatOfInt .f64 m=fq (4*m):=N9 m O;have y:∀W t,(binOp .quo t (.float .f64 (fq (4*d))) (.float .f64 4616189618054758400)).run Tryz.prog W=.ok (.float .f64 (fq d)) W:=fun W t=>run_float_arith W .quo t .f64 _ _ _ (A7b d 2 O O);have z:∀W t,(binOp .quo t (.float .f64 (fq (4*B))) (.float .f64 4611686018427387904)).run Tryz.prog W=.ok (.float .f64 (fq (2*B))) W:=fun W t=>run_float_arith W .quo t .f64 _ _ _ (by
  have:=A7b (2*B) 1 O O;rw[show(2:Int)^1*(2*(B:Int))=4*B by omega]at this;exact this)
 have A:∀W t,(binOp .add t (.float .f64 (fq d)) (.float .f64 (fq (2*B)))).run Tryz.prog W=.ok (.float .f64 (fq (d+2*B))) W:=fun W t=>run_float_arith W .add t .f64 _ _ _ (B0o _ _ O O O);have j:∀W t,(binOp .sub t (.float .f64 (fq (4*m))) (.float .f64 (fq (d+2*B)))).run Tryz.prog W=.ok (.float .f64 (fq (4*m-(d+2*B)))) W:=fun W t=>run_float_arith W .sub t .f64 _ _ _ (B3j _ _ O O O);have C:max a b-min a b=d:=by rw[f];unfold apt;rfl
 have D:min (min a b) k=m:=by rw[hm];unfold lst;rfl
 rw[h.o];clear f hm h n q r;go_enter Tryz.func179,Tryz.ntmps179;go_wp2_with (go_at_call 118;refine(g _).mono ?_;rintro e w' ⟨rfl,rfl⟩);case inl=>
  have c:k=m:=O;subst c;rw[i,j];simp only[Result.andThen];rw[Oper.upon_value];go_wp2_with fail;go_ret;exact⟨rfl,rfl⟩
 case inr.inl=>
  have c:b=m:=O;subst c;rw[i,j];simp only[Result.andThen];rw[Oper.upon_value];go_wp2_with fail;go_ret;exact⟨rfl,rfl⟩
 case inr.inr=>
  have c:a=m:=O;subst c;rw[i,j];simp only[Result.andThen];rw[Oper.upon_value];go_wp2_with fail;go_ret;exact⟨rfl,rfl⟩
theorem Tryz.info249:(Tryz.prog.info? 249).map (fun i=>(i.zero,i.size,i.bytes))=some (some (.agg #[I J 0,I J 0,.float .f64 0,I J 0]),4,32):=U
theorem A2G (l m:Lk)(w:World)(b:l.q.natAbs<2^53)(hm:m.q.natAbs<2^53) :
 Calls Tryz.prog 136 #[.agg #[I J l.a.1,I J l.a.2,.float .f64 (fq l.q),I J l.p],.agg #[I J m.a.1,I J m.a.2,.float .f64 (fq m.q),I J m.p]] w fun e w'=>e=.returned (I J (F5 l.q m.q))∧Below w.heap.size w w':=by
 obtain⟨⟨f,g⟩,c,h⟩:=l;obtain⟨⟨i,mp⟩,d,j⟩:=m;simp only at b hm;have al:∀(o p:Obj),Below w.heap.size w ((w.alloc o).alloc p):=fun o p=>((Below.refl _ w).alloc (Nat.le_refl _) o).alloc Zs p;have c1:=fun W=>A55 c d b hm W;generalize F5 c d=r at c1⊢;generalize fq c=x at c1⊢;generalize fq d=y at c1⊢;clear b hm;go_enter Tryz.func136,Tryz.ntmps136;go_wp2_with (go_at_call 140;refine(c1 _).mono ?_;rintro e w' ⟨rfl,rfl⟩);go_ret;exact⟨rfl,al _ _⟩
end
section
open Go.RowKit Go.Shelf Go.Lib Go.Sort
def U9 (x:Int×Int):List Value:=[I J x.1,I J x.2]
theorem B22 (L:List (Int×Int))(q:Nat)(h:q<L.length):(flatK U9 2 L.toArray)[2*q]! = I J L[q].1∧(flatK U9 2 L.toArray)[2*q+1]! = I J L[q].2:=by
 have e:L.toArray[q]! = L[q]:=by simp[h]
 constructor
 ·rw[get_flatK _ _ _ _ Zo,show 2*q/2=q by omega,show 2*q%2=0 by omega,e];rfl
 ·rw[get_flatK _ _ _ _ Zo,show(2*q+1)/2=q by omega,show(2*q+1)%2=1 by omega,e];rfl
theorem A3.holdsA {w:World}{t:TypeId}{base g o n cap:Nat}{L:List (Int×Int)}(h:A3 w base t 2 (.slice (some ⟨g,o,none⟩) n cap) n (A9 L))(k:L.length=n):HoldsK U9 2 w g o L.toArray∧g<w.heap.size:=by
 rcases h.2 with⟨h,_⟩|⟨g',o',cap',cur,he,h1,a,l,m,p,b⟩
 ·simp at h
 ·simp only[Value.slice.injEq,Option.some.injEq,Addr.mk.injEq,and_true,true_and]at he;obtain⟨⟨rfl,rfl⟩,rfl⟩:=he;refine⟨fun j i=>⟨?_,frozen_of_row _ _ _ _ _ a⟩,lt_of_block a⟩;simp at i;have c:j/2<L.length:=O;have d:=B22 L (j/2) c;have f:=P4 L (j/2) c;rcases (show j=2*(j/2)∨j=2*(j/2)+1 by omega) with he|he
  ·rw[he];refine A1 a (b _ _ ?_);rw[f.1,d.1];rfl
  ·rw[he];refine A1 a (b _ _ ?_);rw[f.2,d.2];rfl
theorem A3.sortedA {w:World}{t:TypeId}{base g o n cap m:Nat}{L D:List (Int×Int)}{os:Array Obj}(h:A3 w base t 2 (.slice (some ⟨g,o,none⟩) n cap) n (A9 L))(u:L.length=n)(k:D.length=n) :
 A3 (sortWorldK U9 2 w g o m D.toArray os) base t 2 (.slice (some ⟨g,o,none⟩) n cap) n (A9 D)∧(∀j,j<w.heap.size→j≠g→(sortWorldK U9 2 w g o m D.toArray os).heap[j]?=w.heap[j]?)∧w.heap.size≤(sortWorldK U9 2 w g o m D.toArray os).heap.size∧(sortWorldK U9 2 w g o m D.toArray os).os=w.os∧(sortWorldK U9 2 w g o m D.toArray os).tape=w.tape∧(sortWorldK U9 2 w g o m D.toArray os).output=w.output:=by
 obtain⟨v,h⟩:=h;rcases h with⟨h,_⟩|⟨g',o',cap',cur,he,h1,b,c,l,d,x⟩
 ·simp at h
 ·simp only[Value.slice.injEq,Option.some.injEq,Addr.mk.injEq,and_true,true_and]at he;obtain⟨⟨rfl,rfl⟩,rfl⟩:=he;have p:=lt_of_block b;have f:(putRowK U9 2 (Sort.ahead w m) g o D.toArray).heap.size=w.heap.size:=by simp[putRowK]
  have hold:∀j,j<w.heap.size→(sortWorldK U9 2 w g o m D.toArray os).heap[j]?=(putRowK U9 2 (Sort.ahead w m) g o D.toArray).heap[j]?:=fun j a=>heap_grow_old _ _ (by rw[f];exact a);refine⟨⟨by rw[N7,k],Or.inr ⟨g,o,cap,putCells id o (flatK U9 2 D.toArray) cur,rfl,h1,?_,c,l,by simp[putCells];exact d,?_⟩⟩,?_,?_,rfl,rfl,rfl⟩
  ·rw[hold g p];show(mapBlock (Sort.ahead w m) g _).heap[g]?=_;unfold mapBlock;simp only[Array.getElem?_modify,if_true];show(w.heap[g]?).map _=_;rw[b];rfl
  ·rw[A1w];intro q r;have i:=B22 D q r;have y:o+n*2≤cur.size:=Nat.le_trans (Nat.add_le_add_left (Nat.mul_le_mul_right 2 c) _) d;unfold putCells;rw[Array.getElem?_mapIdx,Array.getElem?_mapIdx,Array.getElem?_eq_getElem (show o+2*q<cur.size by omega),Array.getElem?_eq_getElem (show o+(2*q+1)<cur.size by omega)];simp only[Option.map_some];rw[if_pos Zo,if_pos Zo,show o+2*q-o=2*q by omega,show o+(2*q+1)-o=2*q+1 by omega,i.1,i.2];exact⟨rfl,rfl⟩
  ·intro j a s;rw[hold j a];show(mapBlock (Sort.ahead w m) g _).heap[j]?=_;unfold mapBlock;simp only[Array.getElem?_modify];rw[if_neg (fun e=>s e.symm)];rfl
  ·show _≤(grow _ _).heap.size;rw[Sort.size_grow,f];omega
theorem ltA (x y:Int×Int):ltOf cfA x y=A3C x y:=by
 unfold ltOf;exact B3u x y
theorem B4e:SWO (ltOf cfA):={
 irrefl:=fun x=>by rw[ltA,X0];exact A2K x
 trans:=fun x y z h1 b=>by rw[ltA,A19]at *;exact V8 h1 b
 ntrans:=fun x y z h1 b=>by
  rw[ltA,X0]at *
  intro h
  rcases Z1 x y with a|a|a
  ·exact h1 a
  ·subst a;exact b h
  ·exact b (V8 a h)}
theorem B07 (L:List (Int×Int))(n:Nat)(b:L.length=n)(c:n≤400)(base g o cap:Nat)(w:World)(f:A3 w base 247 2 (.slice (some ⟨g,o,none⟩) n cap) n (A9 L)) :
 Calls Tryz.prog 175 #[.slice (some ⟨g,o,none⟩) n cap,.func (.func 176) #[] #[]] w fun e w'=>e=.returned (.tuple #[])∧A3 w' base 247 2 (.slice (some ⟨g,o,none⟩) n cap) n (A9 (L.mergeSort leB))∧(∀j,j<w.heap.size→j≠g→w'.heap[j]?=w.heap[j]?)∧w.heap.size≤w'.heap.size∧w'.os=w.os∧w'.tape=w.tape∧w'.output=w.output:=by
 have i:∀args w,(callFunc 176 args).run Tryz.prog w=.ok (.enter 176 args) w:=enters_of Tryz.func176 U rfl;have hH:=f.holdsA b;have k:CmpLays Tryz.prog 176 #[] U9 2 cfA g o L.toArray.size w:=fun _ _ _ _ x y=>A5e x y _;have d:=AnyQ.slices_SortFunc_total Tryz.sortA 2 Tryz.isAgg247 Tryz.sizeOf247 U9 (fun _=>rfl) (fun x v h=>by simp[U9]at h;rcases h with rfl|rfl<;>rfl) cfA B4e 176 #[] g o cap L.toArray w i k hH.1 hH.2 Zo (fun x y h1 c=>by
  rw[ltA,X0]at h1 c;rcases Z1 x y with a|a|a
  ·exact absurd a h1
  ·exact a
  ·exact absurd a c)
 change Calls Tryz.prog 175 _ _ _ at d;have l:L.toArray.size=n:=by simpa using b
 rw[l]at d;refine d.mono ?_;rintro e w' ⟨rfl,m,os,rfl⟩;have e1:(L.toArray.toList.mergeSort fun x y=>!ltOf cfA y x)=L.mergeSort leB:=by
  have:(fun x y=>!ltOf cfA y x)=leB:=by
   funext x y;rw[ltA];rfl
  rw[this]
 rw[e1];exact⟨rfl,f.sortedA b (by rw[List.length_mergeSort];exact b)⟩
end
section
open Go.RowKit Go.Shelf Go.Lib
def H7 (T:List Lk):List Value:=T.flatMap fun l=>[I J l.a.1,I J l.a.2,.float .f64 (fq l.q),I J l.p]
theorem A3H (E F:List Lk):H7 (E++F)=H7 E++H7 F:=by simp[H7]
theorem A8I (E:List Lk):∀j,j<E.length→(H7 E)[4*j]?=some (I J (E.getD j F8).a.1)∧(H7 E)[4*j+1]?=some (I J (E.getD j F8).a.2)∧(H7 E)[4*j+2]?=some (.float .f64 (fq (E.getD j F8).q))∧(H7 E)[4*j+3]?=some (I J (E.getD j F8).p):=by
 induction E with
 |nil=>intro j h;exact absurd h Zs
 |cons x E b=>
  intro j h;cases j with
  |zero=>exact⟨rfl,rfl,rfl,rfl⟩
  |succ j=>
   have:=b j (by simpa using h);show(I J x.a.1::I J x.a.2::Value.float .f64 (fq x.q)::I J x.p::H7 E)[4*(j+1)]?=_∧(I J x.a.1::I J x.a.2::Value.float .f64 (fq x.q)::I J x.p::H7 E)[4*(j+1)+1]?=_∧(I J x.a.1::I J x.a.2::Value.float .f64 (fq x.q)::I J x.p::H7 E)[4*(j+1)+2]?=_∧(I J x.a.1::I J x.a.2::Value.float .f64 (fq x.q)::I J x.p::H7 E)[4*(j+1)+3]?=_;rw[show 4*(j+1)=4*j+1+1+1+1 by omega];simpa using this
theorem A3.lks {w:World}{base g o cap n:Nat}{T:List Lk}(h:A3 w base 249 4 (.slice (some ⟨g,o,none⟩) n cap) n (H7 T)) :
 ∀j,j<T.length→w.cell? ⟨g,o+j*4,none⟩=some (I J (T.getD j F8).a.1)∧w.cell? ⟨g,o+j*4+1,none⟩=some (I J (T.getD j F8).a.2)∧w.cell? ⟨g,o+j*4+2,none⟩=some (.float .f64 (fq (T.getD j F8).q))∧w.cell? ⟨g,o+j*4+3,none⟩=some (I J (T.getD j F8).p):=by
 rcases h.2 with⟨h,_⟩|⟨_,_,_,cur,he,h1,b,f,i,k,c⟩
 ·simp at h
 ·simp only[Value.slice.injEq,Option.some.injEq,Addr.mk.injEq,and_true,true_and]at he;obtain⟨⟨rfl,rfl⟩,rfl⟩:=he;intro j d;have:=A8I T j d;rw[Nat.mul_comm];exact⟨A1 b (c _ _ this.1),A1 b (c _ _ this.2.1),A1 b (c _ _ this.2.2.1),A1 b (c _ _ this.2.2.2)⟩
def lkN (k:Int)(T:List Lk)(x:Int×Int):Lk:=⟨x,(L9 k x T T.length).1,(L9 k x T T.length).2⟩
theorem A7E (W:World)(a b c d:Value)(t:TypeId)(s:Nat)(hs:s=W.heap.size):∀j u,([a,b,c,d]:List Value)[j]?=some u→(W.alloc (.cells #[a,b,c,d] t)).cell? ((⟨s,0,none⟩:Addr).add j)=some u:=by
 intro j u f;subst hs;rw[Addr.add_lit,Nat.zero_add];refine A1 (heap_alloc_new W _) ?_;simpa using f
theorem A7O (a b:Int)(c:Nat)(d:Int):∀u∈([I J a,I J b,.float .f64 c,I J d]:List Value),u.oneCell'=true:=by
 intro u hu;simp at hu;rcases hu with rfl|rfl|rfl|rfl<;>rfl
structure TFr (w w':World)(v:Value)(Tb:Nat)(v':Value):Prop where
 os:w'.os=w.os
 tape:w'.tape=w.tape
 output:w'.output=w.output
 size:w.heap.size≤w'.heap.size
 other:∀j,j<w.heap.size→j≠Tb→v.ownBlock≠some j→w'.heap[j]?=w.heap[j]?
 new:∀g,v'.ownBlock=some g→v.ownBlock=some g∨w.heap.size≤g
theorem C0 (P:Program)(w:World)(a:Addr)(m:Mode)(k:FloatKind)(b:Nat):(store a (.float k b) m).run P w=stored P w a (.float k b) m:=run_store P w a _ m rfl
attribute [local go_sem] C0
theorem B2d (k:Int)(x:Int×Int)(T:List Lk)(n:Nat)(M:Int)(hk:k≤12)(d:48≤M)(b:∀i,i<n→(T.getD i F8).q≤M):(L9 k x T n).1≤2*M:=by
 have:∀j,j≤n→(L9 k x T j).1≤2*M:=by
  intro j;induction j with
  |zero=>intro _;simp[L9];omega
  |succ j c=>
   intro f;have h1:=c O;have g:=b j O;have h:=A5k (T.getD j F8).a x k;unfold L9;split
   ·simp only;omega
   ·exact h1
 exact this n (Nat.le_refl _)
def AdI (w wx:World)(X:Nat)(xr xp q p:Int):Prop:=wx.heap[X]?=some (.cells #[I J xr,I J xp] 247 (0,0))∧wx.heap[X+1]?=some (.cells #[I J xr,I J xp,.float .f64 (fq q),I J p] 249 (0,0))∧Below X w wx
theorem AdI.below {w wx b:World}{X:Nat}{c d q p:Int}(h:AdI w wx X c d q p){B:Nat}(a:Below B wx b)(f:X+1<B):AdI w b X c d q p:=
 ⟨(a.block X O).trans h.1,(a.block (X+1) f).trans h.2.1,h.2.2.trans (a.mono O)⟩
theorem AdI.set {w wx:World}{X:Nat}{c d q p:Int}(h:AdI w wx X c d q p)(a b:Int):AdI w ((wx.setCell ⟨X+1,2,none⟩ (.float .f64 (fq a))).setCell ⟨X+1,3,none⟩ (I J b)) X c d a b:=by
 obtain⟨h1,f,g⟩:=h;have u:=(E1.of_setCell (i:=2) (.float .f64 (fq a)) f).setCell (i:=3) (I J b);refine⟨(u.other X O).trans h1,u.here,(g.setCell (p:=⟨X+1,2,none⟩) (Nat.le_succ _) _).setCell (p:=⟨X+1,3,none⟩) (Nat.le_succ _) _⟩
theorem B1I {w wr w2:World}{f Tb base n g' o' cap' X:Nat}{k:Int}{v:Value}{ob:Obj}{T:List Lk}{x:Int×Int}{l m:Int}(t:Tb<wr.heap.size)(o:w2.heap[Tb]?=some (.cells #[I J k,v] 244 (0,0)))
 (p:A3 w2 base 249 4 (.slice (some ⟨g',o',none⟩) (n+1) cap') (n+1) (H7 T++[I J x.1,I J x.2,.float .f64 (fq l),I J m]))(b:L1 ((wr.drewN f).alloc ob) w2 v g')
 (q:lkN k T x=⟨x,l,m⟩)(c:Below X w wr)(u:w.heap.size≤X)(y:∀g,v.ownBlock=some g→g<X) :
 (w2.setCell ⟨Tb,1,none⟩ (.slice (some ⟨g',o',none⟩) (n+1) cap')).heap[Tb]?=some (.cells #[I J k,.slice (some ⟨g',o',none⟩) (n+1) cap'] 244 (0,0))∧
  A3 (w2.setCell ⟨Tb,1,none⟩ (.slice (some ⟨g',o',none⟩) (n+1) cap')) base 249 4 (.slice (some ⟨g',o',none⟩) (n+1) cap') (n+1) (H7 (T++[lkN k T x]))∧
  TFr w (w2.setCell ⟨Tb,1,none⟩ (.slice (some ⟨g',o',none⟩) (n+1) cap')) v Tb (.slice (some ⟨g',o',none⟩) (n+1) cap'):=by
 have a:=E1.of_setCell (i:=1) (.slice (some ⟨g',o',none⟩) (n+1) cap') o;have hs:=b.size;have z:((wr.drewN f).alloc ob).heap.size=wr.heap.size+1:=Zs;have A:=c.size;refine⟨a.here,?_,?_⟩
 ·rw[A3H,q];exact p.other (fun g d _=>a.other g (fun e=>by subst e;exact p.tag Z o d))
 ·refine⟨a.os.trans (b.os.trans c.os),a.tape.trans (b.tape.trans c.tape),a.output.trans (b.output.trans c.output),by rw[a.size];omega,?_,?_⟩
  ·intro j B r s;rw[a.other j r,b.other j O s];exact(Below.heap_alloc (wr.drewN f) ob j (show j<wr.heap.size by omega)).trans (c.block j O)
  ·intro g d;simp only[Value.ownBlock,Option.some.injEq]at d;subst d;rcases b.new with h|h
   ·exact Or.inl h
   ·right;omega
theorem B05 (Tb base n:Nat)(k:Int)(T:List Lk)(v:Value)(x:Int×Int)(w:World)(al:T.length=n)(hn:n<1000)(am:1≤k)(aH:k≤12)(hx:okA x)
 (hT:∀j,j<n→okA (T.getD j F8).a∧0≤(T.getD j F8).q∧(T.getD j F8).q≤100000)
 (H:w.heap[Tb]?=some (.cells #[I J k,v] 244 (0,0)))(aa:A3 w base 249 4 v n (H7 T))(bf:base≤w.heap.size) :
 Calls Tryz.prog 134 #[.pointer (some ⟨Tb,0,none⟩),.agg #[I J x.1,I J x.2]] w fun e w'=>e=.returned (.tuple #[])∧
  ∃v',w'.heap[Tb]?=some (.cells #[I J k,v'] 244 (0,0))∧A3 w' base 249 4 v' (n+1) (H7 (T++[lkN k T x]))∧TFr w w' v Tb v':=by
 obtain⟨i0,hi,aI,aJ,aK⟩:=info_parts Tryz.info249;obtain⟨A,c,rfl⟩:=aa.shape;obtain⟨b,d⟩:=x;have bg:=lt_of_block H;have c0:w.cell? ⟨Tb,0,none⟩=some (I J k):=A1 H rfl;have c1:w.cell? ⟨Tb,1,none⟩=some (.slice A n c):=A1 H rfl;have HB:=A4 H;have ab:=A4 aa;have an:=A4 al;have HT:=A4 hT;have ap:=A4 hx;have aL:Hd ((Value.slice A n c).ownBlock≠some Tb):=aa.tag Z H;have aM:(1048576:Nat)≤2^50:=Z;have e1:floatOfInt .f64 k=fq (4*k):=N9 k O;clear H aa al hT hx aM;go_enter Tryz.func134,Tryz.ntmps134;go_wp2_with fail;go_region;go_wp2_with fail;obtain⟨X,K⟩:=A8 w.heap.size;have HX:=A4 K;have aq:Tb<X:=O;have ar:Hd (AdI w ((w.alloc (.cells #[I J b,I J d] 247)).alloc (.cells #[I J b,I J d,.float .f64 (fq (4*k)),I J (-1)] 249)).drew X b d (4*k) (-1)):=by
  refine⟨?_,?_,?_⟩
  ·rw[K];exact(Below.heap_alloc (w.alloc (.cells #[I J b,I J d] 247)) _ _ Zs).trans (heap_alloc_new w _)
  ·have:=heap_alloc_new (w.alloc (.cells #[I J b,I J d] 247)) (.cells #[I J b,I J d,.float .f64 (fq (4*k)),I J (-1)] 249 (0,0));have e:(w.alloc (.cells #[I J b,I J d] 247)).heap.size=w.heap.size+1:=Zs;rw[e]at this;rw[K];exact this
  ·rw[K];exact(((Below.refl _ w).alloc (Nat.le_refl _) _).alloc Zs _).drew
 rw[←K];clear K;go_loopw [20] (fun jv wx=>∃j:Nat,j≤n∧jv=I J j∧AdI w wx X b d (L9 k (b,d) T j).1 (L9 k (b,d) T j).2) (fun jv _=>n-(intOf jv).toNat);case atStart=>exact⟨0,Nat.zero_le _,rfl,ar.o⟩
 case round=>
  obtain⟨j,hj,rfl,hI⟩:=hrel;clear ar;obtain⟨h1,m,z⟩:=hI;by_cases L:j<n
  ·have bh:(j:Int)<n:=O;obtain⟨ag,au,aN,aO⟩:∃ag au,A=some ⟨ag,au,none⟩∧ag<X:=by
    have hh:=ab.o;rcases hh.2 with⟨_,h⟩|⟨g',o',cap',cur,he,h1,m,_⟩
    ·omega
    ·simp only[Value.slice.injEq]at he;exact⟨g',o',he.1,by rw[HX.o];exact lt_of_block m⟩
   subst aN;obtain⟨t,ht⟩:=A8 (T.getD j F8);have ae:=ab.o.lks j (by rw[an.o];exact L);have af:=HT.o j L;rw[←ht]at ae af;obtain⟨⟨p,r⟩,s,aP⟩:=t;simp only at ae af;have P:=A4 ht.symm;obtain⟨d1,d2,d3,d4⟩:=ae;rw[←z.cell aO]at d1 d2 d3 d4;obtain⟨aQ,bi,bj⟩:=af;have b0:wr.cell? ⟨Tb,0,none⟩=some (I J k):=by rw[z.cell aq];exact c0
   obtain⟨f,D⟩:=A8 ((L9 k (b,d) T j).1);obtain⟨M,E⟩:=A8 ((L9 k (b,d) T j).2);rw[←D,←E]at m;have B:=A4 D;have ah:=A4 E;have av:X+1<wr.heap.size:=lt_of_block m;have x0:wr.cell? ⟨X,0,none⟩=some (I J b):=A1 h1 rfl;have x1:wr.cell? ⟨X,1,none⟩=some (I J d):=A1 h1 rfl;have HI:Hd (AdI w wr X b d f M):=⟨h1,m,z⟩;clear ht D E h1 m z;have aw:∀o,(wr.alloc o).cell? ⟨X,0,none⟩=some (I J b):=fun o=>(World.cell?_of_block (Below.heap_alloc _ _ X O)).trans x0;have ax:∀o,(wr.alloc o).cell? ⟨X,1,none⟩=some (I J d):=fun o=>(World.cell?_of_block (Below.heap_alloc _ _ X O)).trans x1;obtain⟨C,ay⟩:=A8 (.cells #[I J p,I J r,.float .f64 (fq s),I J aP] 249:Obj);have az:Below wr.heap.size wr (wr.alloc C):=(Below.refl _ _).alloc (Nat.le_refl _) _;have aA:(wr.alloc C).heap[wr.heap.size]?=some C:=heap_alloc_new wr _;have aR:(wr.alloc C).heap.size=wr.heap.size+1:=Zs;have R:Hd (∀l,Below (wr.alloc C).heap.size (wr.alloc C) l→AdI w l X b d f M∧l.heap[wr.heap.size]?=some C∧l.cell? ⟨Tb,0,none⟩=some (I J k)∧wr.heap.size<l.heap.size):=fun l h4=>by
    have hb:Below wr.heap.size wr l:=az.trans (h4.mono O);refine⟨HI.o.below hb av,(h4.block _ O).trans aA,?_,?_⟩
    ·rw[hb.cell (show Tb<_ by omega)];exact b0
    ·have:=h4.size;omega
   rw[ay]at R;clear az aA aR ay C;by_cases S:fol (p,r) (b,d)
   ·have V:A47 (p,r) (b,d)=true:=(A6G _ _).2 S;have F:=fun W=>A1l (b,d) (p,r) W;rw[V]at F;clear V;go_wp2_with fail;refine(F _).mono ?_;rintro e l ⟨rfl,Y⟩;obtain⟨u,G,aS,aT⟩:=R.o l Y;clear R Y aw ax F;obtain⟨ai,aj⟩:=S;simp only at ai aj;have xo:=ap.o;obtain⟨aU,aV,aW,aX⟩:=xo;obtain⟨aB,aC,aD,aE⟩:=aQ;simp only at aU aV aW aX aB aC aD aE;obtain⟨Q,hQ⟩:=A8 (qtr (p,r) (b,d) k);have bk:Q≤48:=by rw[hQ];exact Int.le_trans (A5k _ _ _) O
    have bl:-20000≤Q:=by rw[hQ];exact B0j _ _ _ ⟨aB,aC,aD,aE⟩ ap.o ⟨ai,aj⟩ am
    have cG:∀W,Calls Tryz.prog 179 #[I J (d-r),I J (b-p),I J k] W fun e w'=>e=.returned (.float .f64 (fq Q))∧w'=W:=fun W=>by
     rw[hQ];exact B0z (d-r) (b-p) k W O O O O am aH
    have HQ:=A4 hQ;have bm:4*k≤f:=by rw[B.o];exact A7x _ _ _ _
    have bn:f≤200000:=by
     rw[B.o];exact B2d k (b,d) T j 100000 O O (fun i hi=>(HT.o i O).2.2)
    have aY:(1048576:Nat)≤2^53:=Z;have qa:∀W t,(binOp .add t (.float .f64 (fq s)) (.float .f64 (fq Q))).run Tryz.prog W=.ok (.float .f64 (fq (s+Q))) W:=fun W t=>run_float_arith W .add t .f64 _ _ _ (B0o _ _ O O O);have ho:FloatKind.f64.format.order (fq (s+Q)) (fq f)=some (compare (s+Q) f):=A0O _ _ O O;have l0:=A1 G (i:=0) rfl;have l1:=A1 G (i:=1) rfl;have l2:=A1 G (i:=2) rfl;have l3:=A1 G (i:=3) rfl;have y0:=A1 u.1 (i:=0) rfl;have y1:=A1 u.1 (i:=1) rfl;have z2:=A1 u.2.1 (i:=2) rfl;have z3:=A1 u.2.1 (i:=3) rfl;have bo:l.frozen? ⟨X+1,2,none⟩=false:=frozen_of_row _ _ _ _ _ u.2.1;have br:l.frozen? ⟨X+1,3,none⟩=false:=frozen_of_row _ _ _ _ _ u.2.1;have y:=A4 u;have ak:Hd (fol (p,r) (b,d)):=⟨ai,aj⟩;have s1:IntKind.i64.wrap (d-r)=d-r:=Zw;have s2:IntKind.i64.wrap (b-p)=b-p:=Zw;clear hQ aY G u HI HT x0 x1 b0 d1 d2 d3 d4;rcases Int.lt_trichotomy (s+Q) f with N|N|N
    ·rw[show compare (s+Q) f=.lt by simp[compare,compareOfLessAndEq,N]]at ho;go_wp2_with fail;go_quiet ((go_at_call 179;refine Calls.quiet_of_same (cG _)));go_wp2_with fail;go_roundw;case rel=>
      have e:L9 k (b,d) T (j+1)=L9 k (b,d) T j:=by
       rw[L9,if_neg];rw[P.o,←B.o];simp only;rw[←HQ.o];exact fun h=>by have:=h.2;omega
      refine⟨j+1,O,Zn,?_⟩;rw[e,←B.o,←ah.o];exact⟨y.o.1,y.o.2.1,B5 y.o.2.2 _⟩
     case measure=>simp[intOf];omega
    ·rw[show compare (s+Q) f=.eq by rw[N];simp[compare,compareOfLessAndEq]]at ho;subst N;go_wp2_with fail;go_quiet ((go_at_call 179;refine Calls.quiet_of_same (cG _)));go_wp2_with fail;go_roundw;case rel=>
      have e:L9 k (b,d) T (j+1)=L9 k (b,d) T j:=by
       rw[L9,if_neg];rw[P.o,←B.o];simp only;rw[←HQ.o];exact fun h=>by have:=h.2;omega
      refine⟨j+1,O,Zn,?_⟩;rw[e,←B.o,←ah.o];exact⟨y.o.1,y.o.2.1,B5 y.o.2.2 _⟩
     case measure=>simp[intOf];omega
    ·rw[show compare (s+Q) f=.gt by
      have g1:¬(s+Q<f):=O;have g2:¬(s+Q=f):=O;simp[compare,compareOfLessAndEq,g1,g2]]at ho
     go_wp2_with fail;go_quiet ((go_at_call 179;refine Calls.quiet_of_same (cG _)));go_wp2_with fail;go_roundw;case rel=>
      have e:L9 k (b,d) T (j+1)=(s+Q,(j:Int)):=by
       rw[L9,if_pos]
       ·rw[P.o];simp only;rw[←HQ.o]
       ·rw[P.o,←B.o];simp only;rw[←HQ.o];exact⟨ak.o,N⟩
      refine⟨j+1,O,Zn,?_⟩;rw[e];have h5:AdI w (l.drewN nq) X b d f M:=⟨y.o.1,y.o.2.1,B5 y.o.2.2 _⟩;exact h5.set _ _
     case measure=>simp[intOf];omega
   ·have V:A47 (p,r) (b,d)=false:=by
     rw[←Bool.not_eq_true,A6G];exact S
    have F:=fun W=>A1l (b,d) (p,r) W;rw[V]at F;have ak:=A4 S;clear V S;go_wp2_with fail;refine(F _).mono ?_;rintro e l ⟨rfl,Y⟩;obtain⟨u,G,aS,aT⟩:=R.o l Y;have y:=A4 u;clear R Y aw ax F u G;go_wp2_with fail;go_roundw;case rel=>
     have e:L9 k (b,d) T (j+1)=L9 k (b,d) T j:=by
      rw[L9,if_neg];rw[P.o];exact fun h=>ak.o h.1
     refine⟨j+1,O,Zn,?_⟩;rw[e,←B.o,←ah.o];exact y.o
    case measure=>simp[intOf];omega
  ·have aZ:j=n:=O;subst aZ;obtain⟨f,D⟩:=A8 ((L9 k (b,d) T j).1);obtain⟨M,E⟩:=A8 ((L9 k (b,d) T j).2);rw[←D,←E]at m;have ba:Hd (lkN k T (b,d)=⟨(b,d),f,M⟩):=by
    show _=_;unfold lkN;rw[an.o,D,E]
   have av:X+1<wr.heap.size:=lt_of_block m;have bb:A3 wr base 249 4 (.slice A j c) j (H7 T):=ab.o.other (fun g _ L=>z.block g (by rw[HX.o];exact L));have ac:wr.heap[Tb]?=some (.cells #[I J k,.slice A j c] 244 (0,0)):=(z.block Tb aq).trans HB.o;have bc:=A4 ac;have t1:wr.cell? ⟨Tb,1,none⟩=some (.slice A j c):=A1 ac rfl;have bs:wr.frozen? ⟨Tb,1,none⟩=false:=frozen_of_row _ _ _ _ _ ac;have z0:=A1 m (i:=0) rfl;have z1:=A1 m (i:=1) rfl;have z2:=A1 m (i:=2) rfl;have z3:=A1 m (i:=3) rfl;have H3:=A4 z;have aF:Tb<wr.heap.size:=O;have bt:base≤wr.heap.size:=by have:=z.size;omega
   clear D E h1 m z ac;go_wp2_with fail;go_region_law (refine H9 rfl (.tmp 63) (.tmp 65) 242 rfl 249 i0 _ 4 32 Tryz.underlying242 hi aI aJ aK rfl Z base (.slice A j c) j (H7 T) (by simp[Act.eval]) (by exact bb.other (fun g _ L=>Below.heap_alloc (wr.drewN _) _ _ L)) ⟨wr.heap.size,0,none⟩ 1 [I J b,I J d,.float .f64 (fq f),I J M] (by simp[Act.eval]) rfl (by exact A7E (wr.drewN _) _ _ _ _ _ _ rfl) (A7O _ _ _ _) (by unfold maxLen;omega) O Zo ?_;intro g' o' cap' w2 bd aG;have ad:w2.heap[Tb]?=some (.cells #[I J k,.slice A j c] 244 (0,0)):=(aG.other Tb Zo aL.o).trans ((Below.heap_alloc (wr.drewN _) _ _ aF).trans bc.o);have be:Hd _:=ad;have q4:=A1 ad (i:=1) rfl;have qf:w2.frozen? ⟨Tb,1,none⟩=false:=frozen_of_row w2 _ _ _ _ ad;clear ad);all_goals go_end0
   all_goals exact⟨rfl,_,B1I aF be.o bd aG ba.o H3.o (Nat.le_of_eq HX.o.symm) (fun g hg=>by rw[HX.o];exact(ab.o.lt hg).2)⟩
theorem Tryz.info247:(Tryz.prog.info? 247).map (fun i=>(i.zero,i.size,i.bytes))=some (some (.agg #[I J 0,I J 0]),2,16):=U
theorem B2j (args:Array Value)(w:World):(callFunc 134 args).run Tryz.prog w=.ok (.enter 134 args) w:=enters_of Tryz.func134 U rfl args w
structure B32 (w w':World)(g:Nat):Prop where
 os:w'.os=w.os
 tape:w'.tape=w.tape
 output:w'.output=w.output
 size:w.heap.size≤w'.heap.size
 other:∀j,j<w.heap.size→j≠g→w'.heap[j]?=w.heap[j]?
def TbI (w wx:World)(Tb:Nat)(k:Int)(S:List (Int×Int))(i:Nat):Prop:=∃v,wx.heap[Tb]?=some (.cells #[I J k,v] 244 (0,0))∧A3 wx w.heap.size 249 4 v i (H7 (tb k S i))∧B32 w wx Tb
theorem A3r (L:List (Int×Int))(n:Nat)(hn:L.length=n)(Tb g o cap:Nat)(k:Int)(w:World)(az:1≤k)(aA:k≤12)(h0:0<n)(h4:n≤400)(hg:g<w.heap.size)(aP:g≠Tb)
 (hA:∀j (b:j<L.length),w.cell? ⟨g,o+j*2,none⟩=some (I J L[j].1)∧w.cell? ⟨g,o+j*2+1,none⟩=some (I J L[j].2))
 (ab:∀x∈L,okA x)(M:w.heap[Tb]?=some (.cells #[I J k,.slice none 0 0] 244 (0,0))) :
 Calls Tryz.prog 133 #[.slice (some ⟨g,o,none⟩) n cap,.func (.func 134) #[.pointer (some ⟨Tb,0,none⟩)] #[]] w fun e w'=>e=.returned (.tuple #[])∧TbI w w' Tb k (canon L) (canon L).length:=by
 obtain⟨i6,ac,ad,ae,af⟩:=info_parts Tryz.info247;have aB:=lt_of_block M;have A:=A4 hn;have HA:=A4 hA;have ag:=A4 ab;have HB:=A4 M;obtain⟨s,hZ,aC⟩:∃s:Array Value,s.size=n*2∧∀W:World,(Instr.makeSlice 294 (I J 0) (I J n)).run Tryz.prog W=.ok (.slice (some ⟨W.heap.size,0,none⟩) 0 n) (W.alloc (.cells s 247)):=by
  refine⟨madeCells (Value.agg #[I J 0,I J 0]).cells (n*2),by rw[size_madeCells],fun W=>?_⟩;have:=run_make (P:=Tryz.prog) W 294 247 i6 _ Tryz.underlying294 ac ad .i64 .i64 0 n O O (by rw[af];omega) O;rw[ae]at this;simpa using this
 clear hn hA ab M;go_enter Tryz.func133,Tryz.ntmps133;go_wp2_with fail;have ah:Hd (A3 (w.alloc (.cells s 247)) w.heap.size 247 2 (.slice (some ⟨w.heap.size,0,none⟩) 0 n) 0 (A9 (L.take 0))):=⟨rfl,Or.inr ⟨w.heap.size,0,n,s,rfl,Nat.le_refl _,heap_alloc_new w _,Nat.zero_le _,by unfold maxLen;omega,O,fun j u b=>by simp[A9]at b⟩⟩;have ai:Hd (Below w.heap.size w (w.alloc (.cells s 247))):=(Below.refl _ w).alloc (Nat.le_refl _) _;clear aC;go_loopw [4,14] (fun sv l wx=>∃i:Nat,i≤n∧l=I J i∧A3 wx w.heap.size 247 2 sv i (A9 (L.take i))∧Below w.heap.size w wx) (fun _ l _=>n-(intOf l).toNat);case atStart=>exact⟨0,Nat.zero_le _,rfl,ah.o,ai.o⟩
 case round=>
  clear ah ai;obtain⟨i,hi,rfl,p,t⟩:=hrel;obtain⟨ao,c,hv⟩:=p.shape;subst hv;by_cases B:i<n
  ·have aQ:(i:Int)<n:=O;have aj:i<L.length:=by rw[A.o];exact B
   obtain⟨c1,c2⟩:=HA.o i aj;rw[←t.cell hg]at c1 c2;obtain⟨x,f⟩:=A8 (L[i]);rw[←f]at c1 c2;have N:=A4 f;obtain⟨Q,R⟩:=x;simp only at c1 c2;have aR:=t.size;have d:=A4 t;have C:=A4 p;clear f p t;go_wp2_with (at_builtin;go_must (refine B6 _ rfl (.tmp 18) (.tmp 20) 294 rfl 247 i6 _ 2 16 Tryz.underlying294 ac ad ae af rfl Z w.heap.size (.slice ao i c) i (A9 (L.take i)) rfl (by exact C.o.other (fun g _ B=>(Below.heap_alloc _ _ _ Zo).trans (Below.heap_alloc _ _ _ B))) ⟨wr.heap.size+1,0,none⟩ 1 [I J Q,I J R] rfl rfl (by exact A0D _ _ _ _ _ Zs) (R7 _ _) (by unfold maxLen;omega) O Zo ?_;intro g' o' cap' w3 aD D));go_roundw;case rel=>
    refine⟨i+1,O,Zn,?_,?_⟩
    ·have e:A9 (L.take (i+1))=A9 (L.take i)++[I J Q,I J R]:=by
      rw[List.take_succ_eq_append_getElem aj,L7,←N.o];rfl
     rw[e];exact aD
    ·refine⟨D.os.trans d.o.os,D.tape.trans d.o.tape,D.output.trans d.o.output,?_,fun q G=>?_⟩
     ·have:=D.size;simp at this;omega
     ·rw[D.other q Zo (fun he=>by have:=(C.o.lt he).1;omega),Below.heap_alloc _ _ _ Zo,Below.heap_alloc _ _ _ O];exact d.o.block q G
   case measure=>simp[intOf];omega
  ·have he:i=n:=O;subst he;obtain⟨g1,o1,aE,aS⟩:∃g1 o1,ao=some ⟨g1,o1,none⟩∧w.heap.size≤g1:=by
    rcases p.2 with⟨_,h⟩|⟨g',o',cap',cur,he,h1,T,_⟩
    ·omega
    ·simp only[Value.slice.injEq]at he;exact⟨g',o',he.1,h1⟩
   subst aE;rw[List.take_of_length_le (by rw[A.o];exact Nat.le_refl _)]at p;have C:=A4 p;have d:=A4 t;clear p t;go_wp2_with (first|(go_at_call 175;refine(B07 L i A.o h4 w.heap.size g1 o1 c _ C.o).mono ?_;rintro e w1 ⟨rfl,ak,al,aF,am,an,ap⟩)|(go_at_call 177;refine(A52 (L.mergeSort leB) i (by rw[List.length_mergeSort];exact A.o) h0 h4 w.heap.size g1 o1 c _ ak).mono ?_;rintro e w2 ⟨rfl,E,y⟩));have z:Hd (Below w.heap.size w w2):=by
    have aT:g1<wr.heap.size:=(C.o.lt rfl).2;refine⟨y.os.trans (am.trans d.o.os),y.tape.trans (an.trans d.o.tape),y.output.trans (ap.trans d.o.output),?_,fun q G=>?_⟩
    ·have h1:=d.o.size;have T:=y.size;omega
    ·have h1:=d.o.size;rw[y.other q O,al q O O];exact d.o.block q G
   have aq:uniq (L.mergeSort leB)=canon L:=rfl;rw[aq]at E⊢;have V:Hd (∀j (b:j<(canon L).length),okA (canon L)[j]):=fun j b=>ag.o _ ((A0j L _).1 (List.getElem_mem b));have ar:(canon L).length≤400:=Nat.le_trans (U8 L) (by have:=A.o;omega);obtain⟨S,X⟩:=A8 (canon L);rw[←X]at E V ar⊢;obtain⟨m,hm⟩:=A8 S.length;have HM:=A4 hm;have aG:=A4 X;rw[←hm]at E ar⊢;have aH:=A4 E;clear E y ak al aF am an ap X hm aq HA ag;go_loopw [28] (fun l wx=>∃q:Nat,q≤m∧l=I J q∧TbI w wx Tb k S q∧A3 wx w.heap.size 247 2 (.slice (some ⟨g1,o1,none⟩) m c) m (A9 S)) (fun l _=>m-(intOf l).toNat);case atStart=>
    exact⟨0,Nat.zero_le _,rfl,⟨_,(z.o.block Tb aB).trans HB.o,A3.nil _ _ _ _,⟨z.o.os,z.o.tape,z.o.output,z.o.size,fun j b _=>z.o.block j b⟩⟩,aH.o⟩
   case round=>
    obtain⟨q,G,rfl,⟨v,Y,F,r⟩,H⟩:=hrel;by_cases aI:q<m
    ·have aU:(q:Int)<m:=O;have aa:q<S.length:=by rw[←HM.o];exact aI
     obtain⟨c1,c2⟩:=H.ans q aa;obtain⟨x,f⟩:=A8 (S[q]);rw[←f]at c1 c2;have N:Hd (S.getD q (0,0)=x):=by
      show S.getD q (0,0)=x;rw[f];simp[aa]
     have aJ:okA x:=by rw[f];exact V.o q aa
     have aV:=r.size;have au:∀j,j<q→okA ((tb k S q).getD j F8).a∧0≤((tb k S q).getD j F8).q∧((tb k S q).getD j F8).q≤100000:=fun j b=>by
      have hb:=W7 k O S q j b;have av:j<S.length:=O;refine⟨?_,O,?_⟩
      ·rw[P6 k S j q b];simp only;have:S.getD j (0,0)=S[j]:=by simp[av]
       rw[this];exact V.o j av
      ·have h1:=hb.2.1;have:4*k*((j:Int)+1)≤48*401:=Int.mul_le_mul O O O O;omega
     have aw:=fun ob:Obj=>B05 Tb w.heap.size q k (tb k S q) v x (wr.alloc ob) (R6 k S q) O az aA aJ au ((Below.heap_alloc _ _ _ O).trans Y) (F.other (fun g _ B=>Below.heap_alloc _ _ _ B)) Zo;have ax:Hd (∀(ob:Obj) (w':World) (v':Value),w'.heap[Tb]?=some (.cells #[I J k,v'] 244 (0,0))→A3 w' w.heap.size 249 4 v' (q+1) (H7 (tb k S q++[lkN k (tb k S q) x]))→TFr (wr.alloc ob) w' v Tb v'→TbI w w' Tb k S (q+1)∧A3 w' w.heap.size 247 2 (.slice (some ⟨g1,o1,none⟩) m c) m (A9 S)):=by
      intro ob w' v' K a2 a3;have aW:(wr.alloc ob).heap.size=wr.heap.size+1:=Zs;refine⟨⟨v',K,?_,?_⟩,?_⟩
      ·have e:tb k S (q+1)=tb k S q++[lkN k (tb k S q) x]:=by
        simp only[tb,lkN,R6];have h:=N.o;rw[h]
       rw[e];exact a2
      ·refine⟨a3.os.trans r.os,a3.tape.trans r.tape,a3.output.trans r.output,by have:=a3.size;omega,fun j b ay=>?_⟩;rw[a3.other j O ay (fun he=>by have:=(F.lt he).1;omega),Below.heap_alloc _ _ _ O];exact r.other j b ay
      ·refine H.other (fun g2 aK aL=>?_);have aM:g1=g2:=by simpa[Value.ownBlock] using aK
       subst aM;rw[a3.other g1 O O (fun he=>?_),Below.heap_alloc _ _ _ aL];obtain⟨cur,aN⟩:∃cur,wr.heap[g1]?=some (.cells cur 247 (0,0)):=by
        rcases H.2 with⟨h,_⟩|⟨g3,o3,aX,cur,h,_,T,_⟩
        ·simp at h
        ·simp only[Value.slice.injEq,Option.some.injEq,Addr.mk.injEq,and_true,true_and]at h;obtain⟨⟨rfl,rfl⟩,rfl⟩:=h;exact⟨cur,T⟩
       exact F.tag Z aN he
     obtain⟨Q,R⟩:=x;simp only at c1 c2;have aY:=B2j;clear f Y F r H au;go_wp2_with fail;refine(aw _).mono ?_;rintro e w' ⟨rfl,v',K,a2,a3⟩;obtain⟨f1,f2⟩:=ax.o _ w' v' K a2 a3;clear aw ax K a2 a3;go_wp2_with fail;go_roundw;case rel=>exact⟨q+1,O,Zn,f1,f2⟩
     case measure=>simp[intOf];omega
    ·have aO:q=m:=O;subst aO;go_wp2_with fail;go_end0;refine⟨rfl,?_⟩;rw[←aG.o,←HM.o];exact⟨v,Y,F,r⟩
theorem A3k (P:Program)(w:World)(a:Addr)(m:Mode)(k:FloatKind)(b:Nat):(store a (.float k b) m).run P w=stored P w a (.float k b) m:=run_store P w a _ m rfl
attribute [local go_sem] A3k
theorem B1T (args:Array Value)(w:World):(callFunc 136 args).run Tryz.prog w=.ok (.enter 136 args) w:=enters_of Tryz.func136 U rfl args w
def lkC (l:Lk):Array Value:=#[I J l.a.1,I J l.a.2,.float .f64 (fq l.q),I J l.p]
theorem A9Z (a b:Int):decide (0<F5 a b)=decide (b<a):=by
 unfold F5;by_cases h1:a<b
 ·rw[if_pos h1];have:¬b<a:=O;simp[this]
 ·rw[if_neg h1];by_cases c:b<a
  ·simp[c]
  ·simp[c]
def MxI (w wx:World)(X:Nat)(l:Lk):Prop:=wx.heap[X]?=some (.cells #[I J 0,I J 0,.float .f64 0,I J 0] 249 (0,0))∧wx.heap[X+1]?=some (.cells (lkC l) 249 (0,0))∧Below X w wx
theorem MxI.below {w wx b:World}{X:Nat}{l:Lk}(h:MxI w wx X l){B:Nat}(a:Below B wx b)(c:X+1<B):MxI w b X l:=
 ⟨(a.block X O).trans h.1,(a.block (X+1) c).trans h.2.1,h.2.2.trans (a.mono O)⟩
theorem MxI.set {w wx:World}{X:Nat}{l:Lk}(h:MxI w wx X l)(m:Lk):MxI w ((((wx.setCell ⟨X+1,0,none⟩ (I J m.a.1)).setCell ⟨X+1,1,none⟩ (I J m.a.2)).setCell ⟨X+1,2,none⟩ (.float .f64 (fq m.q))).setCell ⟨X+1,3,none⟩ (I J m.p)) X m:=by
 obtain⟨h1,b,c⟩:=h;have u:=(((E1.of_setCell (i:=0) (I J m.a.1) b).setCell (i:=1) (I J m.a.2)).setCell (i:=2) (.float .f64 (fq m.q))).setCell (i:=3) (I J m.p);exact⟨(u.other X O).trans h1,u.here,(((c.setCell (p:=⟨X+1,0,none⟩) (Nat.le_succ _) _).setCell (p:=⟨X+1,1,none⟩) (Nat.le_succ _) _).setCell (p:=⟨X+1,2,none⟩) (Nat.le_succ _) _).setCell (p:=⟨X+1,3,none⟩) (Nat.le_succ _) _⟩
theorem A5E (T:List Lk)(n:Nat)(S:T.length=n)(V:0<n)(h4:n≤1000)(base g o cap:Nat)(w:World)(L:A3 w base 249 4 (.slice (some ⟨g,o,none⟩) n cap) n (H7 T))(Y:∀j,j<n→0≤(T.getD j F8).q∧(T.getD j F8).q≤100000) :
 Calls Tryz.prog 135 #[.slice (some ⟨g,o,none⟩) n cap,.func (.func 136) #[] #[]] w fun e w'=>e=.returned (.agg (lkC (T.getD (mxi T n) F8)))∧Below w.heap.size w w':=by
 have HN:=A4 S;have C:g<w.heap.size:=(L.lt rfl).2;have HC:=A4 L.lks;have HQ:=A4 Y;have ap:¬((n:Int)<1):=O;have aq:(0:Int)<n:=O;clear S L Y;obtain⟨t,ht⟩:=A8 (T.getD 0 F8);have v:=HC.o 0 (by rw[HN.o];exact V);rw[←ht]at v;simp only[Nat.zero_mul,Nat.add_zero]at v;obtain⟨d1,d2,d3,d4⟩:=v;have aa:Hd (lkC (T.getD (mxi T 1) F8)=lkC t):=by
  show _=_;have:mxi T 1=0:=by
   have:=A0l T 1 O;omega
  rw[this,ht]
 obtain⟨⟨k,l⟩,b,m⟩:=t;simp only at d1 d2 d3 d4;have e1:∀ob,(w.alloc ob).cell? ⟨g,o,none⟩=some (I J k):=fun ob=>(World.cell?_of_block (Below.heap_alloc _ _ g C)).trans d1;have e2:∀ob,(w.alloc ob).cell? ⟨g,o+1,none⟩=some (I J l):=fun ob=>(World.cell?_of_block (Below.heap_alloc _ _ g C)).trans d2;have e3:∀ob,(w.alloc ob).cell? ⟨g,o+2,none⟩=some (.float .f64 (fq b)):=fun ob=>(World.cell?_of_block (Below.heap_alloc _ _ g C)).trans d3;have e4:∀ob,(w.alloc ob).cell? ⟨g,o+3,none⟩=some (I J m):=fun ob=>(World.cell?_of_block (Below.heap_alloc _ _ g C)).trans d4;clear d1 d2 d3 d4 ht;go_enter Tryz.func135,Tryz.ntmps135;go_wp2_with fail;obtain⟨X,A⟩:=A8 w.heap.size;have HX:=A4 A;have ab:Hd (MxI w ((w.alloc (.cells #[I J 0,I J 0,.float .f64 0,I J 0] 249)).alloc (.cells #[I J k,I J l,.float .f64 (fq b),I J m] 249)) X (T.getD (mxi T 1) F8)):=by
  refine⟨?_,?_,?_⟩
  ·rw[A];exact(Below.heap_alloc (w.alloc (.cells #[I J 0,I J 0,.float .f64 0,I J 0] 249)) _ _ Zs).trans (heap_alloc_new w _)
  ·rw[aa.o];have:=heap_alloc_new (w.alloc (.cells #[I J 0,I J 0,.float .f64 0,I J 0] 249)) (.cells #[I J k,I J l,.float .f64 (fq b),I J m] 249 (0,0));have e:(w.alloc (.cells #[I J 0,I J 0,.float .f64 0,I J 0] 249)).heap.size=w.heap.size+1:=Zs;rw[e]at this;rw[A];exact this
  ·rw[A];exact((Below.refl _ w).alloc (Nat.le_refl _) _).alloc Zs _
 rw[←A];have ai:g<X:=O;clear e1 e2 e3 e4 aa A;go_loopw [6] (fun M wx=>∃i:Nat,1≤i∧i≤n∧M=I J i∧MxI w wx X (T.getD (mxi T i) F8)) (fun M _=>n-(intOf M).toNat);case atStart=>exact⟨1,O,V,rfl,ab.o⟩
 case round=>
  clear ab;obtain⟨i,ar,au,rfl,s⟩:=hrel;have av:=A0l T i O;obtain⟨mb,D⟩:=A8 (T.getD (mxi T i) F8);have ac:=HQ.o (mxi T i) O;rw[←D]at s ac;have E:=A4 D;obtain⟨⟨f,mp⟩,a,h⟩:=mb;simp only at ac;have x:=s.2.1;have y:=s.1;have m0:wr.cell? ⟨X+1,0,none⟩=some (I J f):=A1 x rfl;have m1:wr.cell? ⟨X+1,1,none⟩=some (I J mp):=A1 x rfl;have m2:wr.cell? ⟨X+1,2,none⟩=some (.float .f64 (fq a)):=A1 x rfl;have m3:wr.cell? ⟨X+1,3,none⟩=some (I J h):=A1 x rfl;have aj:X+1<wr.heap.size:=lt_of_block x;by_cases ad:i<n
  ·have aw:(i:Int)<n:=O;obtain⟨t,ht⟩:=A8 (T.getD i F8);have v:=HC.o i (by rw[HN.o];exact ad);have ae:=HQ.o i ad;rw[←ht]at v ae;have N:=A4 ht;obtain⟨⟨k,l⟩,b,m⟩:=t;simp only at v ae;obtain⟨d1,d2,d3,d4⟩:=v;rw[←s.2.2.cell ai]at d1 d2 d3 d4;have ak:(1048576:Nat)≤2^53:=Z;have F:=fun W=>A2G ⟨(k,l),b,m⟩ ⟨(f,mp),a,h⟩ W (by simp only;omega) (by simp only;omega);simp only at F;have P:Hd (decide (0<F5 b a)=decide (a<b)):=A9Z b a;obtain⟨r,Q⟩:=A8 (F5 b a);rw[←Q]at F P;have ax:-1≤r∧r≤1:=by
    rw[Q];unfold F5;split
    ·omega
    ·split<;>omega
   have cQ:∀d os,Calls Tryz.prog 136 #[.agg #[I J k,I J l,.float .f64 (fq b),I J m],.agg #[I J f,I J mp,.float .f64 (fq a),I J h]] (Sort.grow (redrawn wr d) os) fun e al=>e=.returned (I J r)∧∃p:Regrown,al=Sort.grow (redrawn wr p.d) p.os:=fun d os=>Calls.regrown_of (F _);have k1:=cell_regrown d1;have k2:=cell_regrown d2;have k3:=cell_regrown d3;have k4:=cell_regrown d4;have k5:=cell_regrown m0;have k6:=cell_regrown m1;have k7:=cell_regrown m2;have k8:=cell_regrown m3;have G:=A4 s;have ay:=B1T;clear ht Q F ak s y x D;go_wp2_with fail;refine wp_region_quiet_below U U ?_;repeat (go_big_quiet_step (exact cQ _ _))
   refine wpQuiet_nil ?_;intro c af;have B:Below wr.heap.size wr c:=by
    obtain⟨pq,am⟩:=af;rw[am];exact below_regrown wr pq.d pq.os
   have H:g<wr.heap.size:=O;have b1:c.cell? ⟨g,o+i*4,none⟩=some (I J k):=by rw[B.cell H];exact d1
   have b2:c.cell? ⟨g,o+i*4+1,none⟩=some (I J l):=by rw[B.cell H];exact d2
   have b3:c.cell? ⟨g,o+i*4+2,none⟩=some (.float .f64 (fq b)):=by rw[B.cell H];exact d3
   have b4:c.cell? ⟨g,o+i*4+3,none⟩=some (I J m):=by rw[B.cell H];exact d4
   have z:MxI w c X ⟨(f,mp),a,h⟩:=G.o.below B aj;have n0:c.cell? ⟨X+1,0,none⟩=some (I J f):=A1 z.2.1 rfl;have n1:c.cell? ⟨X+1,1,none⟩=some (I J mp):=A1 z.2.1 rfl;have n2:c.cell? ⟨X+1,2,none⟩=some (.float .f64 (fq a)):=A1 z.2.1 rfl;have n3:c.cell? ⟨X+1,3,none⟩=some (I J h):=A1 z.2.1 rfl;have nf:∀j,c.frozen? ⟨X+1,j,none⟩=false:=fun j=>frozen_of_row _ _ _ _ _ z.2.1;have ag:=A4 z;clear af B k1 k2 k3 k4 k5 k6 k7 k8 cQ d1 d2 d3 d4 m0 m1 m2 m3 z G;by_cases R:a<b
   ·have an:0<r:=by have:=P.o;simpa[R] using this
    go_wp2_with fail;go_roundw;case rel=>
     refine⟨i+1,O,O,Zn,?_⟩;have e:mxi T (i+1)=i:=by
      rw[mxi,if_pos];rw[←E.o,←N.o];exact R
     rw[e,←N.o];exact ag.o.set ⟨(k,l),b,m⟩
    case measure=>simp[intOf];omega
   ·have an:¬0<r:=by have:=P.o;simpa[R] using this
    go_wp2_with fail;go_roundw;case rel=>
     refine⟨i+1,O,O,Zn,?_⟩;have e:mxi T (i+1)=mxi T i:=by
      rw[mxi,if_neg];rw[←E.o,←N.o];simp only;omega
     rw[e,←E.o];exact ag.o
    case measure=>simp[intOf];omega
  ·have ao:i=n:=O;subst ao;have G:=A4 s;have r0:=A1 y (i:=0) rfl;have r1:=A1 y (i:=1) rfl;have r2:=A1 y (i:=2) rfl;have r3:=A1 y (i:=3) rfl;have rf:∀j,wr.frozen? ⟨X,j,none⟩=false:=fun j=>frozen_of_row _ _ _ _ _ y;clear s y x D;go_wp2_with fail;obtain⟨h1,h2,h3⟩:=G.o;have u:=(((E1.of_setCell (i:=0) (I J f) h1).setCell (i:=1) (I J mp)).setCell (i:=2) (.float .f64 (fq a))).setCell (i:=3) (I J h);have ah:Hd (Below X w ((((wr.setCell ⟨X,0,none⟩ (I J f)).setCell ⟨X,1,none⟩ (I J mp)).setCell ⟨X,2,none⟩ (.float .f64 (fq a))).setCell ⟨X,3,none⟩ (I J h))):=(((h3.setCell (p:=⟨X,0,none⟩) (Nat.le_refl _) _).setCell (p:=⟨X,1,none⟩) (Nat.le_refl _) _).setCell (p:=⟨X,2,none⟩) (Nat.le_refl _) _).setCell (p:=⟨X,3,none⟩) (Nat.le_refl _) _;have hu:=u.here;clear u h1 h2 h3 r0 r1 r2 r3 rf m0 m1 m2 m3;generalize ((((wr.setCell ⟨X,0,none⟩ (I J f)).setCell ⟨X,1,none⟩ (I J mp)).setCell ⟨X,2,none⟩ (.float .f64 (fq a))).setCell ⟨X,3,none⟩ (I J h))=K at hu ah⊢;have q0:K.cell? ⟨X,0,none⟩=some (I J f):=A1 hu rfl;have q1:K.cell? ⟨X,1,none⟩=some (I J mp):=A1 hu rfl;have q2:K.cell? ⟨X,2,none⟩=some (.float .f64 (fq a)):=A1 hu rfl;have q3:K.cell? ⟨X,3,none⟩=some (I J h):=A1 hu rfl;clear hu;refine bodyPost_ret (by simp[results,Tryz.results135,go_sem,q0,q1,q2,q3];try rfl) rfl ?_;refine⟨?_,by rw[←HX.o];exact ah.o⟩;rw[←E.o];rfl
end
section
open Go.RowKit Go.Shelf Go.Lib Go.Sort
theorem A2X (P:Program)(w:World)(a:Addr)(m:Mode)(k:FloatKind)(b:Nat):(store a (.float k b) m).run P w=stored P w a (.float k b) m:=run_store P w a _ m rfl
attribute [local go_sem] A2X
theorem A5B (C:List (Int×Int))(n:Nat)(a:C.length=n)(i:n≤1000)(base g o cap:Nat)(w:World)(c:A3 w base 119 2 (.slice (some ⟨g,o,none⟩) n cap) n (A9 C)) :
 Calls Tryz.prog 180 #[.slice (some ⟨g,o,none⟩) n cap] w fun e w'=>e=.returned (.tuple #[])∧A3 w' base 119 2 (.slice (some ⟨g,o,none⟩) n cap) n (A9 C.reverse)∧(∀j,j<w.heap.size→j≠g→w'.heap[j]?=w.heap[j]?)∧w.heap.size≤w'.heap.size∧w'.os=w.os∧w'.tape=w.tape∧w'.output=w.output:=by
 have hH:=c.holdsA a;have b:=AnyQ.slices_Reverse Tryz.reverseA 2 Tryz.isAgg119 Tryz.sizeOf119 U9 (fun _=>rfl) (fun x v d=>by simp[U9]at d;rcases d with rfl|rfl<;>rfl) g o cap C.toArray w hH.1 Zo;change Calls Tryz.prog 180 _ _ _ at b;have f:C.toArray.size=n:=by simpa using a
 rw[f]at b;refine b.mono ?_;rintro e w' ⟨rfl,m,rfl⟩;have e1:C.toArray.reverse=C.reverse.toArray:=Zs;have h:putRowK U9 2 (Sort.ahead w m) g o C.reverse.toArray=sortWorldK U9 2 w g o m C.reverse.toArray #[]:=by
  unfold sortWorldK;rw[grow_empty]
 rw[e1,h];exact⟨rfl,c.sortedA a (by rw[List.length_reverse];exact a)⟩
def A22 (w:World)(X:Nat):Nat:=match w.cell? ⟨X,3,none⟩ with
 |some (.int _ n)=>(n+1).toNat
 |_=>0
theorem A9V (T:List Lk)(n:Nat)(hn:T.length=n)(h4:n≤1000)(base Tb g o cap c:Nat)(kv:Value)(w:World)(V:c<n)
 (W:w.heap[Tb]?=some (.cells #[kv,.slice (some ⟨g,o,none⟩) n cap] 244 (0,0)))(Y:A3 w base 249 4 (.slice (some ⟨g,o,none⟩) n cap) n (H7 T))(B:∀j,j<n→-1≤(T.getD j F8).p∧(T.getD j F8).p<j)(t:Lk)(ht:t=T.getD c F8) :
 Calls Tryz.prog 137 #[.pointer (some ⟨Tb,0,none⟩),.agg #[I J t.a.1,I J t.a.2,.float .f64 (fq t.q),I J t.p]] w fun e w'=>∃v,e=.returned v∧A3 w' w.heap.size 119 2 v (bk T n c).reverse.length (A9 (bk T n c).reverse)∧Below w.heap.size w w':=by
 obtain⟨i0,ag,ah,ai,aj⟩:=info_parts Tryz.info119;have HN:=A4 hn;have ac:=lt_of_block W;have hg:g<w.heap.size:=(Y.lt rfl).2;have HB:=A4 W;have HC:=A4 Y.lks;have HP:=A4 B;have M:Hd (bk T n c=t.a::bk T (t.p+1).toNat t.p):=by
  show _=_;have ak:=B c V;rw[A0t T n (fun i hi=>(B i hi).2) (c+1) c O O n O];show(if (c:Int)<0 then [] else _)=_;rw[if_neg O,Int.toNat_natCast,←ht];rw[←ht]at ak;congr 1;exact A0t T n (fun i hi=>(B i hi).2) (t.p+1).toNat t.p O O c O
 obtain⟨F,hF⟩:=A8 (bk T n c);rw[←hF]at M⊢;have N:=B c V;rw[←ht]at N;clear hn W Y B ht hF;obtain⟨⟨d,f⟩,x,y⟩:=t;simp only at M N⊢;go_enter Tryz.func137,Tryz.ntmps137;go_wp2_with fail;obtain⟨X,D⟩:=A8 w.heap.size;have HX:=A4 D;have P:Hd (((w.alloc (.cells #[I J d,I J f,.float .f64 (fq x),I J y] 249)).alloc (.cells #[I J d,I J f] 119)).heap[X]?=some (.cells #[I J d,I J f,.float .f64 (fq x),I J y] 249 (0,0))∧A3 ((w.alloc (.cells #[I J d,I J f,.float .f64 (fq x),I J y] 249)).alloc (.cells #[I J d,I J f] 119)) X 119 2 (.slice (some ⟨X+1,0,none⟩) 1 1) 1 (A9 [(d,f)])∧Below X w ((w.alloc (.cells #[I J d,I J f,.float .f64 (fq x),I J y] 249)).alloc (.cells #[I J d,I J f] 119))):=by
  refine⟨?_,?_,?_⟩
  ·rw[D];exact(Below.heap_alloc _ _ _ Zs).trans (heap_alloc_new w _)
  ·have h:=World.ownsRow_lit (base:=X) (e:=119) (size:=2) (w.alloc (.cells #[I J d,I J f,.float .f64 (fq x),I J y] 249)) #[I J d,I J f] 1 Zo (by unfold maxLen;omega) rfl;have e:(w.alloc (.cells #[I J d,I J f,.float .f64 (fq x),I J y] 249)).heap.size=X+1:=Zo;rw[e]at h;exact A3.of_ownsRow h (Nat.le_refl _)
  ·rw[D];exact((Below.refl _ w).alloc (Nat.le_refl _) _).alloc Zs _
 rw[←D];rw[←D]at hg ac;clear D;go_loopw [5] (fun cv wx=>∃(p:Nat) (q:Int) (a:Int×Int) (pp:Int) (C:List (Int×Int)),p<n∧-1≤pp∧pp<p∧wx.heap[X]?=some (.cells #[I J a.1,I J a.2,.float .f64 (fq q),I J pp] 249 (0,0))∧A3 wx X 119 2 cv C.length (A9 C)∧0<C.length∧C.length+p≤n∧Hd (C++bk T (pp+1).toNat pp=F)∧Below X w wx) (fun _ wx=>A22 wx X);case atStart=>
  refine⟨c,x,(d,f),y,[(d,f)],V,N.1,N.2,P.o.1,P.o.2.1,Zs,Zo,?_,P.o.2.2⟩;show _=_;rw[M.o];rfl
 case round=>
  clear P M;obtain⟨p,q,⟨ar,ap⟩,pp,C,az,aA,aB,s,aa,aC,aD,ad,Q⟩:=hrel;simp only at s;have aE:=lt_of_block s;obtain⟨ao,cc,hv⟩:=aa.shape;subst hv;have x0:wr.cell? ⟨X,0,none⟩=some (I J ar):=A1 s rfl;have x1:wr.cell? ⟨X,1,none⟩=some (I J ap):=A1 s rfl;have x2:wr.cell? ⟨X,2,none⟩=some (.float .f64 (fq q)):=A1 s rfl;have x3:wr.cell? ⟨X,3,none⟩=some (I J pp):=A1 s rfl;have xf:∀j,wr.frozen? ⟨X,j,none⟩=false:=fun j=>frozen_of_row _ _ _ _ _ s;have t1:wr.cell? ⟨Tb,1,none⟩=some (.slice (some ⟨g,o,none⟩) n cap):=A1 ((Q.block Tb ac).trans HB.o) rfl;have al:Hd (A22 wr X=(pp+1).toNat):=by
   show _=_;unfold A22;rw[x3]
  have E:=A4 Q;have K:=A4 aa;have ae:=A4 s;clear s aa;by_cases am:pp=-1
  ·subst am;obtain⟨g1,o1,an,aF⟩:∃g1 o1,ao=some ⟨g1,o1,none⟩∧X≤g1:=by
    rcases K.o.2 with⟨_,h⟩|⟨g',o',cap',cur,he,h1,h2,_⟩
    ·omega
    ·simp only[Value.slice.injEq]at he;exact⟨g',o',he.1,h1⟩
   subst an;have aq:Hd (C=F):=by
    have:=ad.o;show C=F;simpa[bk] using this
   go_wp2_with fail;refine(A5B C C.length rfl O X g1 o1 cc wr K.o).mono ?_;rintro e w' ⟨rfl,r1,r2,r3,r4,r5,r6⟩;have au:=A4 r1;have av:Hd (Below X w w'):=⟨r4.trans E.o.os,r5.trans E.o.tape,r6.trans E.o.output,Nat.le_trans E.o.size r3,fun j hj=>(r2 j O O).trans (E.o.block j hj)⟩;clear r1 r2 r3 r4 r5 r6;go_wp2_with fail;go_ret;refine⟨_,rfl,?_,by rw[←HX.o];exact av.o⟩;rw[←HX.o,←aq.o,List.length_reverse];exact au.o
  ·obtain⟨r,hr⟩:∃r:Nat,pp=r:=⟨pp.toNat,O⟩;subst hr;have aG:(r:Int)<n:=O;obtain⟨d1,d2,d3,d4⟩:=HC.o r (by rw[HN.o];omega);have R:=HP.o r O;rw[←Q.cell hg]at d1 d2 d3 d4;obtain⟨l,hl⟩:=A8 (T.getD r F8);rw[←hl]at d1 d2 d3 d4 R;have HL:=A4 hl.symm;obtain⟨⟨k,m⟩,z,b⟩:=l;simp only at d1 d2 d3 d4 R;clear Q hl;go_wp2_with fail;go_region;have u:=((((E1.of_setCell (i:=0) (I J k) ae.o).setCell (i:=1) (I J m)).setCell (i:=2) (.float .f64 (fq z))).setCell (i:=3) (I J b)).drew;have G:Hd (Below X w ((((wr.setCell ⟨X,0,none⟩ (I J k)).setCell ⟨X,1,none⟩ (I J m)).setCell ⟨X,2,none⟩ (.float .f64 (fq z))).setCell ⟨X,3,none⟩ (I J b)).drew):=((((E.o.setCell (p:=⟨X,0,none⟩) (Nat.le_refl _) _).setCell (p:=⟨X,1,none⟩) (Nat.le_refl _) _).setCell (p:=⟨X,2,none⟩) (Nat.le_refl _) _).setCell (p:=⟨X,3,none⟩) (Nat.le_refl _) _).drew;have L:Hd (A3 ((((wr.setCell ⟨X,0,none⟩ (I J k)).setCell ⟨X,1,none⟩ (I J m)).setCell ⟨X,2,none⟩ (.float .f64 (fq z))).setCell ⟨X,3,none⟩ (I J b)).drew X 119 2 (.slice ao C.length cc) C.length (A9 C)):=K.o.other (fun g2 aw _=>u.other g2 (fun e=>by subst e;exact K.o.tag Z ae.o aw));have H:=u.here;clear u x0 x1 x2 x3 xf t1 d1 d2 d3 d4;generalize ((((wr.setCell ⟨X,0,none⟩ (I J k)).setCell ⟨X,1,none⟩ (I J m)).setCell ⟨X,2,none⟩ (.float .f64 (fq z))).setCell ⟨X,3,none⟩ (I J b)).drew=w4 at H G L⊢;have y0:w4.cell? ⟨X,0,none⟩=some (I J k):=A1 H rfl;have y1:w4.cell? ⟨X,1,none⟩=some (I J m):=A1 H rfl;have S:=A4 H;have af:=lt_of_block H;clear H;clear K;go_wp2_with (at_builtin;go_must (refine B6 _ rfl (.tmp 20) (.tmp 23) 115 rfl 119 i0 _ 2 16 Tryz.underlying115 ag ah ai aj rfl Z X (.slice ao C.length cc) C.length (A9 C) rfl (by exact L.o.other (fun g _ ax=>Below.heap_alloc _ _ _ ax)) ⟨w4.heap.size,0,none⟩ 1 [I J k,I J m] rfl rfl (by exact A0D _ _ _ _ _ rfl) (R7 _ _) (by unfold maxLen;omega) O Zo ?_;intro g' o' cap' w5 ay A));go_roundw;case rel=>
    have ab:w5.heap[X]?=some (.cells #[I J k,I J m,.float .f64 (fq z),I J b] 249 (0,0)):=by
     rw[A.other X Zo (L.o.tag Z S.o),Below.heap_alloc _ _ _ af];exact S.o
    refine⟨r,z,(k,m),b,C++[(k,m)],O,R.1,R.2,ab,?_,Zs,by simp only[List.length_append,List.length_singleton];omega,?_,?_⟩
    ·rw[List.length_append,L7];exact ay
    ·show _=_;rw[←ad.o,List.append_assoc];congr 1;have e1:((r:Int)+1).toNat=r+1:=O;rw[e1];show _=(if (r:Int)<0 then [] else _);rw[if_neg O,Int.toNat_natCast,HL.o];show(k,m)::bk T (b+1).toNat b=(k,m)::bk T r b;congr 1;exact(A0t T n (fun i hi=>(HP.o i hi).2) (b+1).toNat b O O r O).symm
    ·refine⟨A.os.trans G.o.os,A.tape.trans G.o.tape,A.output.trans G.o.output,?_,fun j hj=>?_⟩
     ·have:=A.size;simp at this;have:=G.o.size;omega
     ·rw[A.other j Zo (fun he=>by have:=(L.o.lt he).1;omega),Below.heap_alloc _ _ _ O];exact G.o.block j hj
   case measure=>
    have ab:w5.heap[X]?=some (.cells #[I J k,I J m,.float .f64 (fq z),I J b] 249 (0,0)):=by
     rw[A.other X Zo (L.o.tag Z S.o),Below.heap_alloc _ _ _ af];exact S.o
    have e5:A22 w5 X=(b+1).toNat:=by
     unfold A22;rw[A1 (v:=I J b) ab rfl]
    rw[e5,al.o];omega
end
section
open Go.RowKit Go.Shelf Go.Lib
def RdA (w:World)(ao:Option Addr)(L:List (Int×Int)):Prop:=L=[]∨∃g o,ao=some ⟨g,o,none⟩∧g<w.heap.size∧∀j (hj:j<L.length),w.cell? ⟨g,o+j*2,none⟩=some (I J L[j].1)∧w.cell? ⟨g,o+j*2+1,none⟩=some (I J L[j].2)
def Q5 (L:List (Int×Int))(k:Int):Int:=if k<1∨12<k then 6 else if 400<L.length then 1 else if L.length=0 then 7 else if L.any A0V then 2 else 0
theorem A3g (L:List (Int×Int)):L.any A0V=true↔¬∀x∈L,okA x:=by
 rw[List.any_eq_true];constructor
 ·rintro⟨x,a,h⟩ b;exact(A29 x).1 h (b x a)
 ·intro h;apply Classical.byContradiction;intro c;refine h (fun x a=>?_);rw[←B1j];cases d:A0V x with
  |false=>rfl
  |true=>exact absurd ⟨x,a,d⟩ c
theorem A40 (L:List (Int×Int))(n:Nat)(m:L.length=n)(p:0<n)(q:n≤400)(g o cap:Nat)(w:World)(f:g<w.heap.size)
 (k:∀j (b:j<L.length),w.cell? ⟨g,o+j*2,none⟩=some (I J L[j].1)∧w.cell? ⟨g,o+j*2+1,none⟩=some (I J L[j].2)) :
 Calls Tryz.prog 173 #[.slice (some ⟨g,o,none⟩) n cap,.func (.func 174) #[] #[]] w fun e w'=>e=.returned (.bool (L.any A0V))∧Below w.heap.size w w':=by
 have l:∀args w,(callFunc 174 args).run Tryz.prog w=.ok (.enter 174 args) w:=enters_of Tryz.func174 U rfl;have c:=AnyQ.slices_ContainsFunc Tryz.containsA 2 Tryz.isAgg119 Tryz.sizeOf119 U9 (fun _=>rfl) A0V 174 #[] l g o n cap L w
  (fun W x d=>(A2J x W).mono fun _ _ ⟨he,hw⟩=>⟨he,d.trans (hw.mono d.size)⟩) O O f
  (fun j b i v a=>by
   have e:L[j]! = L[j]:=by simp[b]
   rw[e]at a
   have:=k j b
   match i,a with
   |0,a=>
    have h:I J L[j].1=v:=by simpa[U9] using a
    rw[←h];exact this.1
   |1,a=>
    have h:I J L[j].2=v:=by simpa[U9] using a
    rw[←h];exact this.2
   |i+2,a=>simp[U9]at a)
 change Calls Tryz.prog 173 _ _ _ at c;rw[List.take_of_length_le O]at c;exact c
theorem A0U (L:List (Int×Int))(n:Nat)(b:L.length=n)(h:Option Addr)(cap:Nat)(k:Int)(w:World)(a:RdA w h L) :
 Calls Tryz.prog 132 #[.slice h n cap,I J k] w fun e w'=>e=.returned (I J (Q5 L k))∧Below w.heap.size w w':=by
 by_cases i:k<1
 ·have e:Q5 L k=6:=by unfold Q5;rw[if_pos (Or.inl i)]
  rw[e];go_enter Tryz.func132,Tryz.ntmps132;go_wp2_with fail;go_ret;exact⟨rfl,Below.refl _ _⟩
 ·by_cases j:12<k
  ·have e:Q5 L k=6:=by unfold Q5;rw[if_pos (Or.inr j)]
   rw[e];go_enter Tryz.func132,Tryz.ntmps132;go_wp2_with fail;go_ret;exact⟨rfl,Below.refl _ _⟩
  ·by_cases q:400<n
   ·have e:Q5 L k=1:=by unfold Q5;rw[if_neg O,if_pos O]
    have l:(400:Int)<n:=O;rw[e];go_enter Tryz.func132,Tryz.ntmps132;go_wp2_with fail;go_ret;exact⟨rfl,Below.refl _ _⟩
   ·have l:¬(400:Int)<n:=O;by_cases m:n=0
    ·subst m;have e:Q5 L k=7:=by unfold Q5;rw[if_neg O,if_neg O,if_pos O]
     rw[e];go_enter Tryz.func132,Tryz.ntmps132;go_wp2_with fail;go_ret;exact⟨rfl,Below.refl _ _⟩
    ·have r:¬((n:Int)=0):=O;rcases a with a|⟨g,o,rfl,p,a⟩
     ·rw[a]at b;simp at b;omega
     ·have c:=A40 L n b O O g o cap w p a;have e:Q5 L k=if L.any A0V then 2 else 0:=by unfold Q5;rw[if_neg O,if_neg O,if_neg O]
      rw[e];clear e a;cases d:L.any A0V with
      |true=>
       rw[d]at c;clear d b;simp only[if_true];go_enter Tryz.func132,Tryz.ntmps132;go_wp2_with (go_at_call 173;refine c.mono ?_;rintro e w' ⟨rfl,f⟩);go_ret;exact⟨rfl,f⟩
      |false=>
       rw[d]at c;clear d b;simp only[if_false,Bool.false_eq_true];go_enter Tryz.func132,Tryz.ntmps132;go_wp2_with (go_at_call 173;refine c.mono ?_;rintro e w' ⟨rfl,f⟩);go_ret;exact⟨rfl,f⟩
theorem A7g (L:List (Int×Int))(n:Nat)(b:L.length=n)(a:Option Addr)(cap:Nat)(k:Int)(w:World)(c:RdA w a L)(he:Q5 L k≠0) :
 Calls Tryz.prog 103 #[.slice a n cap,I J k] w fun e w'=>e=B3O (Q5 L k)∧Below w.heap.size w w':=by
 have d:=A0U L n b a cap k w c;generalize Q5 L k=r at d he⊢;clear b c;go_enter Tryz.func103,Tryz.ntmps103;go_wp2_with (go_at_call 132;refine d.mono ?_;rintro e w' ⟨rfl,f⟩);go_ret3;exact⟨rfl,f⟩
theorem A2N (P:Program)(w:World)(a:Addr)(m:Mode)(k:FloatKind)(b:Nat):(store a (.float k b) m).run P w=stored P w a (.float k b) m:=run_store P w a _ m rfl
attribute [local go_sem] A2N
theorem A3.base {w:World}{b a:Nat}{e:TypeId}{size:Nat}{v:Value}{n:Nat}{xs:List Value}(h:A3 w b e size v n xs)(c:a≤b):A3 w a e size v n xs:=by
 obtain⟨d,h⟩:=h;refine⟨d,?_⟩;rcases h with h|⟨g,o,cap,cur,h1,f,i⟩
 ·exact Or.inl h
 ·exact Or.inr ⟨g,o,cap,cur,h1,Nat.le_trans c f,i⟩
theorem A9i (L:List (Int×Int))(n:Nat)(l:L.length=n)(Y:Option Addr)(cap:Nat)(k:Int)(w:World)(r:RdA w Y L)(he:Q5 L k=0) :
 Calls Tryz.prog 103 #[.slice Y n cap,I J k] w fun e w'=>∃v,e=.returned (.tuple #[v,.float .f64 (fq (chQ k L)),I J 0])∧Below w.heap.size w w'∧A3 w' w.heap.size 119 2 v (N5 k L).length (A9 (N5 k L)):=by
 have cC:=A0U L n l Y cap k w r;rw[he]at cC;obtain⟨aq,ar,M,N,af⟩:1≤k∧k≤12∧n≤400∧0<n∧∀x∈L,okA x:=by
  unfold Q5 at he;by_cases hk:k<1∨12<k
  ·rw[if_pos hk]at he;omega
  ·rw[if_neg hk]at he;by_cases M:400<L.length
   ·rw[if_pos M]at he;omega
   ·rw[if_neg M]at he;by_cases N:L.length=0
    ·rw[if_pos N]at he;omega
    ·rw[if_neg N]at he;by_cases P:L.any A0V=true
     ·rw[if_pos P]at he;omega
     ·refine⟨O,O,O,O,?_⟩;apply Classical.byContradiction;intro hx;exact P ((A3g L).2 hx)
 rcases r with r|⟨g,o,rfl,hg,r⟩
 ·rw[r]at l;simp at l;omega
 ·have HA:=A4 r;have au:=A4 af;have HN:=A4 l;have Q:0<(canon L).length:=A0N L (fun h=>by rw[h]at l;simp at l;omega);have ag:(canon L).length≤400:=Nat.le_trans (U8 L) O;have d:Hd (chQ k L=((tb k (canon L) (canon L).length).getD (mxi (tb k (canon L) (canon L).length) (canon L).length) F8).q∧N5 k L=(bk (tb k (canon L) (canon L).length) (canon L).length (mxi (tb k (canon L) (canon L).length) (canon L).length)).reverse):=⟨rfl,rfl⟩;clear r af l he;go_enter Tryz.func103,Tryz.ntmps103;go_wp2_with (go_at_call 132;refine cC.mono ?_;rintro e w1 ⟨rfl,s⟩);have aA:=s.size;have ah:g<(w1.alloc (.cells #[I J k,.slice none 0 0] 244)).heap.size:=Zo;have aa:Below w1.heap.size w1 (w1.alloc (.cells #[I J k,.slice none 0 0] 244)):=(Below.refl _ _).alloc (Nat.le_refl _) _;have ai:=A3r L n HN.o w1.heap.size g o cap k (w1.alloc (.cells #[I J k,.slice none 0 0] 244)) aq ar N M ah O (fun j u=>by
   have:=HA.o j u;rw[aa.cell (show g<_ by omega),aa.cell (show g<_ by omega),s.cell hg,s.cell hg];exact this) au.o (heap_alloc_new w1 _)
  refine ai.mono ?_;rintro e b ⟨rfl,v,H,y,E⟩;have aj:Hd (Below w.heap.size w b):=by
   have av:=E.size;simp at av;refine⟨E.os.trans s.os,E.tape.trans s.tape,E.output.trans s.output,O,fun j u=>?_⟩;rw[E.other j Zo O,Below.heap_alloc _ _ _ O];exact s.block j u
  clear ai aa ah cC;obtain⟨S,hS⟩:=A8 (canon L);rw[←hS]at Q ag d y;obtain⟨m,hm⟩:=A8 S.length;rw[←hm]at Q ag d y;obtain⟨Tb,ak⟩:=A8 w1.heap.size;rw[←ak]at H⊢;have ab:∀j,j<m→0≤((tb k S m).getD j F8).q∧((tb k S m).getD j F8).q≤100000:=fun j u=>by
   have P:=W7 k O S m j u;refine⟨O,?_⟩;have h1:=P.2.1;have:4*k*((j:Int)+1)≤48*401:=Int.mul_le_mul O O O O;omega
  have ac:∀j,j<m→-1≤((tb k S m).getD j F8).p∧((tb k S m).getD j F8).p<j:=fun j u=>(W7 k O S m j u).2.2;have R:=R6 k S m;obtain⟨T,hT⟩:=A8 (tb k S m);rw[←hT]at d y ab ac R;obtain⟨g2,F,c2,hv,aw⟩:∃g2 F c2,v=.slice (some ⟨g2,F,none⟩) m c2∧b.heap[g2]?≠none:=by
   rcases y.2 with⟨_,h⟩|⟨g',o',cap',cur,he,h1,h2,_⟩
   ·omega
   ·exact⟨g',o',cap',he,by rw[h2];simp⟩
  subst hv;have tc:b.cell? ⟨Tb,1,none⟩=some (.slice (some ⟨g2,F,none⟩) m c2):=A1 H rfl;have al:=A0l T m Q;obtain⟨mb,am⟩:=A8 (mxi T m);have V:=A5E T m R Q O _ g2 F c2 b y ab;rw[←am]at V al d;obtain⟨t,ht⟩:=A8 (T.getD mb F8);rw[←ht]at V d;have ax:=lt_of_block H;have ad:=fun (z:World) (G:Below b.heap.size b z)=>A9V T m R O _ Tb g2 F c2 mb (I J k) z al ((G.block Tb ax).trans H) (y.other (fun g' _ ay=>G.block g' ay)) ac t ht;obtain⟨⟨A,B⟩,C,D⟩:=t;simp only at d ad;have an:Calls Tryz.prog 135 #[.slice (some ⟨g2,F,none⟩) m c2,.func (.func 136) #[] #[]] b fun e w'=>e=.returned (.agg #[I J A,I J B,.float .f64 (fq C),I J D])∧Below b.heap.size b w':=V;clear V hT hS hm H y E aw ab ac R ht am ak;go_wp2_with (go_at_call 135;refine an.mono ?_;rintro e z ⟨rfl,G⟩);have f:=heap_alloc_new z (.cells #[I J A,I J B,.float .f64 (fq C),I J D] 249 (0,0));have W:Below b.heap.size b (z.alloc (.cells #[I J A,I J B,.float .f64 (fq C),I J D] 249)):=G.alloc G.size _;obtain⟨a,ap⟩:=A8 z.heap.size;rw[←ap]at f⊢;clear G an ap tc;generalize z.alloc (.cells #[I J A,I J B,.float .f64 (fq C),I J D] 249)=i at f W⊢;have z0:i.cell? ⟨a,0,none⟩=some (I J A):=A1 f rfl;have z1:i.cell? ⟨a,1,none⟩=some (I J B):=A1 f rfl;have z2:i.cell? ⟨a,2,none⟩=some (.float .f64 (fq C)):=A1 f rfl;have z3:i.cell? ⟨a,3,none⟩=some (I J D):=A1 f rfl;have X:=lt_of_block f;have c5:=ad i.drew W.drew;have ae:Hd (Below w.heap.size w i):=aj.o.trans (W.mono aj.o.size);clear f ad W;go_region_held3 (fun w'=>w'.cell? ⟨a,0,none⟩=some (I J A)∧w'.cell? ⟨a,1,none⟩=some (I J B)∧w'.cell? ⟨a,2,none⟩=some (.float .f64 (fq C))∧w'.cell? ⟨a,3,none⟩=some (I J D)) (go_keep) ((go_at_call 137;refine c5.mono ?_;rintro e K ⟨v6,rfl,az,c⟩;have y0:K.cell? ⟨a,0,none⟩=some (I J A):=(c.cell X).trans z0;have y1:K.cell? ⟨a,1,none⟩=some (I J B):=(c.cell X).trans z1;have y2:K.cell? ⟨a,2,none⟩=some (.float .f64 (fq C)):=(c.cell X).trans z2;have y3:K.cell? ⟨a,3,none⟩=some (I J D):=(c.cell X).trans z3));all_goals go_wp2_with fail
  all_goals go_ret3
  refine⟨v6,by rw[d.o.1];rfl,ae.o.trans ((show Below i.heap.size i K from⟨c.os,c.tape,c.output,c.size,c.block⟩).mono ae.o.size),?_⟩;rw[d.o.2];exact az.base ae.o.size
def B2A (L:List (Int×Int))(k:Int):Int:=Q5 L k
def A5t (L:List (Int×Int))(k:Int):Nat:=if Q5 L k=0 then fq (chQ k L) else 0
def A13 (L:List (Int×Int))(k:Int):List (Int×Int):=if Q5 L k=0 then N5 k L else []
def B1F (L:List (Int×Int))(k:Int)(w:World)(e:Ending)(w':World):Prop:=
 ∃v,e=.returned (.tuple #[v,.float .f64 (A5t L k),I J (B2A L k)])∧Below w.heap.size w w'∧A3 w' w.heap.size 119 2 v (A13 L k).length (A9 (A13 L k))∧(B2A L k≠0→v=.slice none 0 0)
theorem A61 {L:List (Int×Int)}{k a:Int}{w w':World}{e:Ending}(he:Q5 L k=a)(b:a≠0)(h:e=B3O a∧Below w.heap.size w w'):B1F L k w e w':=by
 obtain⟨rfl,c⟩:=h;have e1:A13 L k=[]:=by unfold A13;rw[if_neg (by rw[he];exact b)]
 have d:A5t L k=0:=by unfold A5t;rw[if_neg (by rw[he];exact b)]
 have f:B2A L k=a:=he;refine⟨.slice none 0 0,?_,c,?_,fun _=>rfl⟩
 ·rw[d,f];rfl
 ·rw[e1];exact A3.nil _ _ _ _
theorem A6U (L:List (Int×Int))(n:Nat)(b:L.length=n)(a:Option Addr)(cap:Nat)(k:Int)(w:World)(c:RdA w a L) :
 Calls Tryz.prog 103 #[.slice a n cap,I J k] w fun e w'=>B1F L k w e w':=by
 by_cases he:Q5 L k=0
 ·refine(A9i L n b a cap k w c he).mono ?_;rintro e w' ⟨v,rfl,d,ho⟩;refine⟨v,?_,d,?_,fun h=>absurd he h⟩
  ·unfold A5t B2A;rw[if_pos he,he]
  ·unfold A13;rw[if_pos he];exact ho
 ·refine(A7g L n b a cap k w c he).mono ?_;intro e w' h;exact A61 rfl he h
theorem A04 (L:List (Int×Int))(k:Int)(he:Q5 L k=0):0≤chQ k L∧chQ k L≤100000∧(N5 k L).length≤400:=by
 have h:1≤k∧k≤12∧L.length≤400∧0<L.length:=by
  unfold Q5 at he;by_cases hk:k<1∨12<k
  ·rw[if_pos hk]at he;omega
  ·rw[if_neg hk]at he;by_cases a:400<L.length
   ·rw[if_pos a]at he;omega
   ·rw[if_neg a]at he;by_cases c:L.length=0
    ·rw[if_pos c]at he;omega
    ·omega
 have d:0<(canon L).length:=A0N L (fun g=>by rw[g]at h;simp at h);have i:(canon L).length≤400:=Nat.le_trans (U8 L) O;have j:=A0l (chT k L) (canon L).length d;have b:=W7 k O (canon L) (canon L).length (mxi (chT k L) (canon L).length) j;have h1:=b.2.1;have m:4*k*(((mxi (chT k L) (canon L).length:Nat):Int)+1)≤48*401:=Int.mul_le_mul O O O O;refine⟨?_,?_,?_⟩
 ·have:=b.1;show 0≤((tb k (canon L) (canon L).length).getD (mxi (chT k L) (canon L).length) F8).q;omega
 ·show((tb k (canon L) (canon L).length).getD (mxi (chT k L) (canon L).length) F8).q≤100000;omega
 ·unfold N5;rw[List.length_reverse];have:∀(T:List Lk) (f:Nat) (p:Int),(bk T f p).length≤f:=by
   intro T f;induction f with
   |zero=>intro p;simp[bk]
   |succ f l=>
    intro p;unfold bk;split
    ·simp
    ·simp only[List.length_cons];have:=l (T.getD p.toNat F8).p;omega
  exact Nat.le_trans (this _ _ _) i
end
def A0:Int×Int:=(0,0)
def wqs (k:Int)(C:List (Int×Int)):Nat→Int
 |0=>4*k
 |i+1=>wqs k C i+qtr (C.getD i A0) (C.getD (i+1) A0) k
def B3r (C:List (Int×Int))(m:Nat):Prop:=∀i,i+1<m→fol (C.getD i A0) (C.getD (i+1) A0)
theorem A5C (k:Int)(x:Int×Int)(T:List Lk):∀m,((L9 k x T m).2=-1∧(L9 k x T m).1=4*k)∨∃j:Nat,j<m∧(L9 k x T m).2=j∧fol (T.getD j F8).a x∧(L9 k x T m).1=(T.getD j F8).q+qtr (T.getD j F8).a x k
 |0=>Or.inl ⟨rfl,rfl⟩
 |m+1=>by
  unfold L9
  split
  ·rename_i b
   exact Or.inr ⟨m,O,rfl,b.1,rfl⟩
  ·rcases A5C k x T m with h|⟨j,h1,c⟩
   ·exact Or.inl h
   ·exact Or.inr ⟨j,O,c⟩
theorem A15 (k:Int)(S:List (Int×Int))(n i:Nat)(hi:i<n):(tb k S n).getD i F8=⟨S.getD i (0,0),(L9 k (S.getD i (0,0)) (tb k S n) i).1,(L9 k (S.getD i (0,0)) (tb k S n) i).2⟩:=by
 have e:=A2f k (S.getD i (0,0)) (tb k S i) (tb k S n) i (fun j a=>by rw[P6 k S j i a,P6 k S j n O]);rw[P6 k S i n hi,e]
theorem R1 (A B:List (Int×Int))(i:Nat)(h:i<A.length):(A++B).getD i A0=A.getD i A0:=by
 rw[List.getD_eq_getElem?_getD,List.getElem?_append_left h,←List.getD_eq_getElem?_getD]
theorem A7V (k:Int)(A B:List (Int×Int)):∀i,i<A.length→wqs k (A++B) i=wqs k A i
 |0,_=>rfl
 |i+1,h=>by
  show wqs k (A++B) i+_=wqs k A i+_
  rw[A7V k A B i O,R1 A B i O,R1 A B (i+1) h]
theorem A8F (k:Int)(S:List (Int×Int))(n:Nat):∀p,p<n→∃R,(bk (tb k S n) (p+1) p).reverse=R++[S.getD p (0,0)]∧B3r (R++[S.getD p (0,0)]) (R.length+1)∧wqs k (R++[S.getD p (0,0)]) R.length=((tb k S n).getD p F8).q∧∀x∈R,∃j,j<n∧x=S.getD j (0,0):=by
 intro p;induction p using Nat.strongRecOn with
 |_ p h=>
  intro l;obtain⟨T,z⟩:=A8 (tb k S n);have a:=A15 k S n p l;have m:∀i,i<n→((tb k S n).getD i F8).p<i:=fun i hi=>by
   rw[A15 k S n i hi];exact(A6o _ _ _ _).2
  have f:bk (tb k S n) (p+1) p=S.getD p (0,0)::bk (tb k S n) p ((tb k S n).getD p F8).p:=by
   show(if (p:Int)<0 then [] else _)=_;rw[if_neg O,Int.toNat_natCast];congr 1;rw[a]
  rcases A5C k (S.getD p (0,0)) (tb k S n) p with⟨h1,c⟩|⟨j,h1,c,g,o⟩
  ·have e1:((tb k S n).getD p F8).p=-1:=by rw[a];exact h1
   have d:((tb k S n).getD p F8).q=4*k:=by rw[a];exact c
   refine⟨[],?_,fun i hi=>absurd hi Zs,?_,Zs⟩
   ·rw[f,e1];have:bk (tb k S n) p (-1)=[]:=by cases p<;>simp[bk]
    rw[this];rfl
   ·rw[d];rfl
  ·have e1:((tb k S n).getD p F8).p=j:=by rw[a];exact c
   have d:((tb k S n).getD p F8).q=((tb k S n).getD j F8).q+qtr (S.getD j (0,0)) (S.getD p (0,0)) k:=by
    rw[a];show(L9 k (S.getD p (0,0)) (tb k S n) p).1=_;rw[o,A15 k S n j O]
   have r:fol (S.getD j (0,0)) (S.getD p (0,0)):=by rw[A15 k S n j O]at g;exact g
   obtain⟨R,s,t,u,v⟩:=h j h1 O;refine⟨R++[S.getD j (0,0)],?_,?_,?_,?_⟩
   ·rw[f,e1,A0t (tb k S n) n m (j+1) j O O p O,List.reverse_cons,s]
   ·intro i hi;simp only[List.length_append,List.length_singleton]at hi;by_cases w:i+1<R.length+1
    ·rw[R1 _ _ i Zo,R1 _ _ (i+1) Zo];exact t i w
    ·have y:i=R.length:=O;subst y;rw[R1 _ _ _ Zs];have g1:(R++[S.getD j (0,0)]).getD R.length A0=S.getD j (0,0):=by
      rw[List.getD_eq_getElem?_getD,List.getElem?_append_right (Nat.le_refl _)];simp
     have g2:(R++[S.getD j (0,0)]++[S.getD p (0,0)]).getD (R.length+1) A0=S.getD p (0,0):=by
      rw[List.getD_eq_getElem?_getD,List.getElem?_append_right Zs];simp
     rw[g1,g2];exact r
   ·rw[List.length_append,List.length_singleton];show wqs k _ R.length+qtr _ _ k=_;rw[A7V k (R++[S.getD j (0,0)]) _ R.length Zs,u,R1 _ _ _ Zs];have g1:(R++[S.getD j (0,0)]).getD R.length A0=S.getD j (0,0):=by
     rw[List.getD_eq_getElem?_getD,List.getElem?_append_right (Nat.le_refl _)];simp
    have g2:(R++[S.getD j (0,0)]++[S.getD p (0,0)]).getD (R.length+1) A0=S.getD p (0,0):=by
     rw[List.getD_eq_getElem?_getD,List.getElem?_append_right Zs];simp
    rw[g1,g2,d]
   ·intro x b;rw[List.mem_append,List.mem_singleton]at b;rcases b with b|rfl
    ·exact v x b
    ·exact⟨j,O,rfl⟩
theorem A69 (k:Int)(L:List (Int×Int))(h:L≠[]):B3r (N5 k L) (N5 k L).length∧wqs k (N5 k L) ((N5 k L).length-1)=chQ k L∧0<(N5 k L).length∧∀x∈N5 k L,x∈L:=by
 have g:=A0N L h;have c:=A0l (tb k (canon L) (canon L).length) (canon L).length g;obtain⟨R,l,m,n,o⟩:=A8F k (canon L) (canon L).length _ c;have q:∀i,i<(canon L).length→((tb k (canon L) (canon L).length).getD i F8).p<i:=fun i hi=>by
  rw[A15 k _ _ i hi];exact(A6o _ _ _ _).2
 have e:N5 k L=R++[(canon L).getD (mxi (tb k (canon L) (canon L).length) (canon L).length) (0,0)]:=by
  rw[←l];show(bk _ _ _).reverse=_;congr 1;exact A0t (tb k (canon L) (canon L).length) (canon L).length q (mxi (tb k (canon L) (canon L).length) (canon L).length+1) ((mxi (tb k (canon L) (canon L).length) (canon L).length:Nat):Int) O O (canon L).length O
 have d:(N5 k L).length=R.length+1:=by rw[e];simp
 have f:∀j,j<(canon L).length→(canon L).getD j (0,0)∈L:=fun j a=>by
  rw[List.getD_eq_getElem?_getD,List.getElem?_eq_getElem a];exact(A0j L _).1 (List.getElem_mem a)
 refine⟨?_,?_,O,?_⟩
 ·rw[d,e];exact m
 ·rw[d,e,Nat.add_sub_cancel];exact n
 ·intro x b;rw[e,List.mem_append,List.mem_singleton]at b;rcases b with b|rfl
  ·obtain⟨j,a,rfl⟩:=o x b;exact f j a
  ·exact f _ c
end Mn
end Go.Proofs.YtilcmkiihefkkaaGreatDoor
