import Derived.Test.YtilcmkiihefkkaaGreatDoorJf11
set_option linter.unusedVariables false
set_option linter.unusedSimpArgs false
set_option maxRecDepth 1000000
set_option maxHeartbeats 64000000
open Go.Value renaming int→I
open Go.IntKind renaming i64→J
namespace Go.Proofs.YtilcmkiihefkkaaGreatDoor
namespace Mn
section
open Go.RowKit
def H6 (k c:Nat):Nat:=(c*2654435761%4^k) ^^^ (c*2654435761%4^k/2^k)
theorem E9 (k:Nat)(h1:1≤k)(a:k≤12):(4:Nat)^k≤16777216∧4≤(4:Nat)^k∧(4:Nat)^k=2^(2*k):=by
 rcases (show k=1∨k=2∨k=3∨k=4∨k=5∨k=6∨k=7∨k=8∨k=9∨k=10∨k=11∨k=12 by omega) with rfl|rfl|rfl|rfl|rfl|rfl|rfl|rfl|rfl|rfl|rfl|rfl<;>decide
theorem A6p (k:Nat)(h1:1≤k)(a:k≤12):IntKind.u64.wrap (IntKind.u64.wrap (2^(2*k))-1)=((4^k-1:Nat):Int):=by
 rcases (show k=1∨k=2∨k=3∨k=4∨k=5∨k=6∨k=7∨k=8∨k=9∨k=10∨k=11∨k=12 by omega) with rfl|rfl|rfl|rfl|rfl|rfl|rfl|rfl|rfl|rfl|rfl|rfl<;>decide
theorem L3 {k:IntKind}{a b:Int}(h:a=b):Ending.returned (.int k a)=.returned (.int k b):=by rw[h]
theorem A0A (k:Nat)(w:World)(h1:1≤k)(a:k≤12) :
 Calls Tryz.prog 154 #[I J k] w fun e w'=>e=.returned (.int .u64 ((4^k-1:Nat):Int))∧w'=w:=by
 go_enter Tryz.func154,Tryz.ntmps154;go_wp2;go_ret;exact⟨L3 (A6p k h1 a),rfl⟩
theorem A7i (k x:Nat)(h1:1≤k)(a:k≤12):x&&& (4^k-1)=x%4^k:=by
 rw[(E9 k h1 a).2.2,Nat.and_two_pow_sub_one_eq_mod]
theorem hash_eq (k c:Nat)(h1:1≤k)(a:k≤12)(f:c<16777216) :
 wrap64 (bits BinOp.xor IntKind.u64 (bits BinOp.and IntKind.u64 ((c:Int)*2654435761) ((4^k-1:Nat):Int)) (bits BinOp.and IntKind.u64 ((c:Int)*2654435761) ((4^k-1:Nat):Int)/2^k))=((H6 k c:Nat):Int):=by
 have g:=E9 k h1 a;have e1:((c:Int)*2654435761)=((c*2654435761:Nat):Int):=O;have b:bits BinOp.and IntKind.u64 ((c:Int)*2654435761) ((4^k-1:Nat):Int)=((c*2654435761%4^k:Nat):Int):=by
  rw[e1,u64_and_nat _ _ O O,A7i k _ h1 a]
 rw[b];have h:c*2654435761%4^k<4^k:=Nat.mod_lt _ O;have d:((c*2654435761%4^k:Nat):Int)/2^k=((c*2654435761%4^k/2^k:Nat):Int):=by rw[Int.natCast_ediv,Int.natCast_pow];rfl
 have i:c*2654435761%4^k/2^k≤c*2654435761%4^k:=Nat.div_le_self _ _;rw[d,u64_xor_nat _ _ O O];have j:(c*2654435761%4^k) ^^^ (c*2654435761%4^k/2^k)<2^24:=Nat.xor_lt_two_pow O O;unfold H6;rw[IntWalk.wrap64_in _ ⟨O,O⟩]
theorem A46 (k c:Nat)(w:World)(h1:1≤k)(a:k≤12)(b:c<16777216) :
 Calls Tryz.prog 152 #[.int .u64 c,I J k] w fun e w'=>e=.returned (I J (H6 k c:Nat))∧w'=w:=by
 go_enter Tryz.func152,Tryz.ntmps152;go_wp2_with (go_at_call 154;refine(A0A _ _ h1 a).mono ?_;rintro e w' ⟨rfl,rfl⟩);go_ret;exact⟨L3 (hash_eq k c h1 a b),rfl⟩
def O8 (L:List W3)(h:Int):List W3:=(L.reverse.dropWhile (fun y=>decide (h<y.h))).reverse
theorem W4 (L:List W3)(y:W3)(h:Int)(a:h<y.h):O8 (L++[y]) h=O8 L h:=by
 simp[O8,a]
theorem W5 (L:List W3)(y:W3)(h:Int)(a:¬h<y.h):O8 (L++[y]) h=L++[y]:=by
 unfold O8;rw[List.reverse_append];simp only[List.reverse_cons,List.reverse_nil,List.nil_append,List.singleton_append];rw[List.dropWhile_cons_of_neg (by simpa using a)];simp
theorem A3J.take_eq (L:List W3)(h:Int):∀(r:Nat) (n:Nat),A3J L h n→r=L.length-n→L.take n=O8 L h:=by
 intro r;induction r generalizing L with
 |zero=>
  intro n ⟨h1,b,c⟩ d;have f:n=L.length:=O;subst f;rw[List.take_length];rcases List.eq_nil_or_concat L with rfl|⟨a,y,rfl⟩
  ·rfl
  ·have:=c Zs Zs;simp only[List.concat_eq_append,List.length_append,List.length_cons,List.length_nil,Nat.zero_add,Nat.add_sub_cancel,List.getElem_append_right (Nat.le_refl _),Nat.sub_self,List.getElem_cons_zero]at this⊢;rw[W5 a y h this]
 |succ r k=>
  intro n ⟨h1,b,c⟩ d;rcases List.eq_nil_or_concat L with rfl|⟨a,y,rfl⟩
  ·simp at d
  ·rw[List.concat_eq_append]at h1 b c d⊢;have hlen:(a++[y]).length=a.length+1:=Zs;have g:=b a.length O O;rw[List.getElem_append_right (Nat.le_refl _)]at g;simp only[Nat.sub_self,List.getElem_cons_zero]at g;rw[W4 a y h g,List.take_append_of_le_length O];refine k a n ⟨O,?_,?_⟩ O
   ·intro j i l;have:=b j O l;rwa [List.getElem_append_left i]at this
   ·intro i f;have:=c O f;rwa [List.getElem_append_left i]at this
def O4 (M:List W3)(x:W3):List W3:=
 match M.getLast? with
 |none=>M++[x]
 |some y=>if y.p=x.p then M else M++[x]
theorem A25 (k W next run:Int)(x:W3)(base a:Nat)(ov pv:Value)(M:List W3)(m:M.length<4398046511104)(w:World)
 (d:w.heap[a]?=some (.cells #[I J k,I J W,I J next,I J run,ov,pv] 230 (0,0)))
 (c:A3 w base 114 3 pv M.length (A6 M))(f:base≤w.heap.size) :
 Calls Tryz.prog 153 #[.pointer (some ⟨a,0,none⟩),.agg #[I J x.h,I J x.p,.bool x.b]] w fun e w'=>e=.returned (.tuple #[])∧
  ∃l,A3 w' base 114 3 l (O4 M x).length (A6 (O4 M x))∧w'.heap[a]?=some (.cells #[I J k,I J W,I J next,I J run,ov,l] 230 (0,0))∧PFr w w' pv l a:=by
 have h:=c.2;rcases List.eq_nil_or_concat M with rfl|⟨r,y,i⟩
 ·have e:O4 [] x=[]++[x]:=rfl;rw[e];rcases h with⟨rfl,_⟩|⟨g,o,cap,cur,rfl,_⟩
  ·exact A5M k W next run x base a ov none 0 w d c f
  ·exact A5M k W next run x base a ov (some ⟨g,o,none⟩) cap w d c f
 ·rw[List.concat_eq_append]at i;have hlen:M.length=r.length+1:=by rw[i];simp
  have n:M.getLast?=some y:=by rw[i];simp
  have s:M[M.length-1]'O=y:=by
   subst i;simp
  rcases h with⟨rfl,A⟩|⟨g,o,cap,cur,rfl,_,t,_,_,_,u⟩
  ·omega
  ·have q:w.cell? ⟨g,o+(M.length-1)*3+1,none⟩=some (I J y.p):=by
    have hk:=(I1 M (M.length-1) O).2.1;rw[s]at hk;refine A1 t ?_;have:=u _ _ hk;rwa [show o+(M.length-1)*3+1=o+(3*(M.length-1)+1) by omega]
   by_cases j:y.p=x.p
   ·have e:O4 M x=M:=by simp[O4,n,j]
    rw[e];refine(A8U k W next run x base a g o cap ov M O m w d c f y.p q (by simp[j])).mono ?_;rintro e w' ⟨rfl,h1,v,z⟩;exact⟨rfl,_,h1,v,z⟩
   ·have e:O4 M x=M++[x]:=by simp[O4,n,j]
    rw[e];exact A94 k W next run x base a g o cap ov M O m w d c f y.p q (by simp[j])
def mvL (W:Int)(next place:Int)(L:List W3):List W3:=
 if place=next then(match L with|[]=>[]|x::t=>if x.p≤place-W then t else x::t) else []
theorem A3.cut0 {w:World}{base:Nat}{v:Value}{L:List W3}(h:A3 w base 114 3 v L.length (A6 L)):A3 w base 114 3 (cut0 v) ([]:List W3).length (A6 [])∧(Mn.cut0 v).ownBlock=v.ownBlock:=by
 obtain⟨_,h⟩:=h;rcases h with⟨rfl,f⟩|⟨g,o,cap,cur,rfl,h1,a,i,b,c,k⟩
 ·exact⟨A3.nil _ _ _ _,rfl⟩
 ·exact⟨⟨rfl,Or.inr ⟨g,o,cap,cur,rfl,h1,a,Nat.zero_le _,b,c,fun j u d=>by simp[A6]at d⟩⟩,rfl⟩
theorem A3j (k W next run place:Int)(L:List W3)(base a:Nat)(ov pv:Value)(w:World)
 (c:w.heap[a]?=some (.cells #[I J k,I J W,I J next,I J run,ov,pv] 230 (0,0)))
 (b:A3 w base 114 3 ov L.length (A6 L))
 (l:0≤place)(m:place≤140737488351232)(n:0≤run)(q:run≤140737488351232)(A:1≤W)(B:W≤20) :
 Calls Tryz.prog 150 #[.pointer (some ⟨a,0,none⟩),I J place] w fun e w'=>e=.returned (.tuple #[])∧
  ∃d,A3 w base 114 3 d (mvL W next place L).length (A6 (mvL W next place L))∧d.ownBlock=ov.ownBlock∧
  D7 w w' a (.cells #[I J k,I J W,I J (place+1),I J ((if place=next then run else 0)+1),d,pv] 230 (0,0)):=by
 have h:=b.2;by_cases heq:place=next
 ·have f:(place !=next)=false:=by simp[heq]
  rw[if_pos heq];cases L with
  |nil=>
   have e:mvL W next place []=[]:=by simp[mvL]
   rw[e];rcases h with⟨rfl,v⟩|⟨g,o,cap,cur,rfl,_⟩
   ·refine(A5O k W next run place a none 0 pv w c l m n q f).mono ?_;rintro e w' ⟨rfl,hu⟩;exact⟨rfl,_,b,rfl,hu⟩
   ·refine(A5O k W next run place a _ cap pv w c l m n q f).mono ?_;rintro e w' ⟨rfl,hu⟩;exact⟨rfl,_,b,rfl,hu⟩
  |cons x t=>
   rcases h with⟨rfl,v⟩|⟨g,o,cap,cur,rfl,h1,r,C,D,G,y⟩
   ·simp at v
   ·have E:g≠a:=fun e=>b.tag Z c (by simp[Value.ownBlock,e]);have F:w.cell? ⟨g,o+1,none⟩=some (I J x.p):=A1 r (y 1 _ rfl);refine(B0F k W next run place a g o (x::t).length cap pv w x.p c Zs C D F l m n q A B f E).mono ?_;rintro e w' ⟨rfl,d,z,hu⟩;refine⟨rfl,d,?_,?_,hu⟩
    ·rcases z with⟨i,h⟩|⟨i,rfl⟩
     ·have e:mvL W next place (x::t)=t:=by simp only[mvL,if_pos heq,if_pos i]
      rw[e];refine⟨J3 t,?_⟩;have hlen:(x::t).length=t.length+1:=rfl;rcases h with rfl|⟨H,rfl⟩
      ·refine Or.inr ⟨g,o+3,cap-1,cur,rfl,h1,r,O,O,O,?_⟩;intro j u s;have:=y (j+3) u (by rw[Q9];exact s);rwa [show o+3+j=o+(j+3) by omega]
      ·have ht:t=[]:=List.eq_nil_of_length_eq_zero O;subst ht;exact Or.inr ⟨g,o,0,cur,rfl,h1,r,Nat.le_refl _,Nat.zero_le _,O,fun j u s=>by simp[A6]at s⟩
     ·have e:mvL W next place (x::t)=x::t:=by simp only[mvL,if_pos heq,if_neg i]
      rw[e];exact b
    ·rcases z with⟨i,h⟩|⟨i,rfl⟩
     ·rcases h with rfl|⟨_,rfl⟩<;>rfl
     ·rfl
 ·have f:(place !=next)=true:=by simp[heq]
  rw[if_neg heq];have e:mvL W next place L=[]:=by simp only[mvL,if_neg heq]
  rw[e];refine(B1b k W next run place a ov pv w (by rcases h with⟨rfl,_⟩|⟨g,o,cap,cur,rfl,_⟩;exact Or.inl rfl;exact Or.inr ⟨_,_,_,rfl⟩) c l m f).mono ?_;rintro e w' ⟨rfl,hu⟩;exact⟨rfl,_,b.cut0.1,b.cut0.2,hu⟩
def A0c (k:Nat)(place:Nat)(c t:Nat):W3:=⟨(H6 k (min c t):Nat),place,decide (t<c)⟩
def E2 (k:Nat)(place:Nat)(c t:Nat):Option W3:=if c=t then none else some (A0c k place c t)
def J0 (W next place:Int)(L:List W3)(x:Option W3):List W3:=
 match x with
 |none=>mvL W next place L
 |some x=>O8 (mvL W next place L) x.h++[x]
def E1 (next run place:Int):Int:=(if place=next then run else 0)+1
def F5 (W run1:Int)(L2 M:List W3):List W3:=
 if W≤run1 then(match L2 with|[]=>M|x::_=>O4 M x) else M
structure PI (w:World)(base Bk:Nat)(k W next run:Int)(L M:List W3):Prop where
 low:base≤Bk
 ex:∃ov pv,w.heap[Bk]?=some (.cells #[I J k,I J W,I J next,I J run,ov,pv] 230 (0,0))∧A3 w base 114 3 ov L.length (A6 L)∧A3 w base 114 3 pv M.length (A6 M)∧
  ∀g,ov.ownBlock=some g→pv.ownBlock≠some g
structure PF (base:Nat)(w w':World):Prop where
 below:Below base w w'
 scan:∀(S:Nat) (cs:Array Value),w.heap[S]?=some (Obj.cells cs 233 (0,0))→w'.heap[S]?=some (Obj.cells cs 233 (0,0))
theorem PF.trans {base:Nat}{a b c:World}(h:PF base a b)(k:PF base b c):PF base a c:=⟨h.below.trans k.below,fun S cs d=>k.scan S cs (h.scan S cs d)⟩
theorem PF.drewN {base:Nat}{a b:World}(h:PF base a b)(n:Nat):PF base a (b.drewN n):=⟨⟨h.below.os,h.below.tape,h.below.output,h.below.size,h.below.block⟩,h.scan⟩
theorem PF.of_upd {base:Nat}{w w':World}{a:Nat}{cs d:Array Value}(b:w.heap[a]?=some (.cells d 230 (0,0)))(h:D7 w w' a (.cells cs 230 (0,0)))(f:base≤a):PF base w w':=
 ⟨h.below f,fun S cs c=>by
  rw[h.other S (fun e=>by subst e;rw[c]at b;simp at b)]
  exact c⟩
theorem PF.of_pfr {base:Nat}{w w':World}{b:Nat}{d:Array Value}{v v':Value}{n:Nat}{xs:List Value}(c:w.heap[b]?=some (.cells d 230 (0,0)))(ho:A3 w base 114 3 v n xs)(f:base≤w.heap.size)
 (h:PFr w w' v v' b)(g:base≤b):PF base w w':=
 ⟨⟨h.os,h.tape,h.output,h.size,fun k hk=>h.other k O O (fun e=>by have:=ho.lt e;omega)⟩,fun S cs a=>by
  rw[h.other S (lt_of_block a) (fun e=>by subst e;rw[a]at c;simp at c) (ho.tag Z a)]
  exact a⟩
theorem PI.move {w w1:World}{base b:Nat}{k W next run place:Int}{L M:List W3}{ov pv c:Value}(f:base≤b)
 (d:w.heap[b]?=some (.cells #[I J k,I J W,I J next,I J run,ov,pv] 230 (0,0)))
 (h:A3 w base 114 3 pv M.length (A6 M))(i:∀g,ov.ownBlock=some g→pv.ownBlock≠some g)
 (ho:A3 w base 114 3 c (mvL W next place L).length (A6 (mvL W next place L)))(j:c.ownBlock=ov.ownBlock)
 (hu:D7 w w1 b (.cells #[I J k,I J W,I J (place+1),I J ((if place=next then run else 0)+1),c,pv] 230 (0,0))) :
 PI w1 base b k W (place+1) (E1 next run place) (mvL W next place L) M∧PF base w w1:=by
 refine⟨⟨f,c,pv,hu.here,ho.other (fun g a _=>hu.other g (fun e=>ho.tag Z d (by rw[a,e]))),h.other (fun g a _=>hu.other g (fun e=>h.tag Z d (by rw[a,e]))),fun g a=>i g (by rw[←j];exact a)⟩,PF.of_upd d hu f⟩
theorem PI.add {w w':World}{base a:Nat}{k W next run:Int}{L d M:List W3}{ov pv b:Value}(j:base≤a)(n:base≤w.heap.size)
 (l:w.heap[a]?=some (.cells #[I J k,I J W,I J next,I J run,ov,pv] 230 (0,0)))
 (ho:A3 w base 114 3 ov L.length (A6 L))(f:A3 w base 114 3 pv M.length (A6 M))(m:∀g,ov.ownBlock=some g→pv.ownBlock≠some g)
 (o:A3 w' base 114 3 b d.length (A6 d))(p:w'.heap[a]?=some (.cells #[I J k,I J W,I J next,I J run,b,pv] 230 (0,0)))(i:PFr w w' ov b a) :
 PI w' base a k W next run d M∧PF base w w':=by
 refine⟨⟨j,b,pv,p,o,f.other (fun g c q=>i.other g q (fun e=>f.tag Z l (by rw[c,e])) (fun e=>m g e c)),?_⟩,PF.of_pfr l ho n i j⟩;intro g c e;rcases i.new g c with h|h
 ·exact m g h e
 ·have:=(f.lt e).2;omega
theorem PI.pick {w w':World}{base a:Nat}{k W next run:Int}{L M d:List W3}{ov pv c:Value}(i:base≤a)(m:base≤w.heap.size)
 (j:w.heap[a]?=some (.cells #[I J k,I J W,I J next,I J run,ov,pv] 230 (0,0)))
 (ho:A3 w base 114 3 ov L.length (A6 L))(n:A3 w base 114 3 pv M.length (A6 M))(l:∀g,ov.ownBlock=some g→pv.ownBlock≠some g)
 (o:A3 w' base 114 3 c d.length (A6 d))(p:w'.heap[a]?=some (.cells #[I J k,I J W,I J next,I J run,ov,c] 230 (0,0)))(f:PFr w w' pv c a) :
 PI w' base a k W next run L d∧PF base w w':=by
 refine⟨⟨i,ov,c,p,ho.other (fun g b q=>f.other g q (fun e=>ho.tag Z j (by rw[b,e])) (fun e=>l g b e)),o,?_⟩,PF.of_pfr j n m f i⟩;intro g b e;rcases f.new g e with h|h
 ·exact l g b h
 ·have:=(ho.lt b).2;omega
theorem A4w (L:List W3)(h:Int):(O8 L h).length≤L.length:=by
 unfold O8;rw[List.length_reverse];have:=(List.dropWhile_sublist (fun y:W3=>decide (h<y.h)) (l:=L.reverse)).length_le;simpa using this
theorem Z1 (W next place:Int)(L:List W3):(mvL W next place L).length≤L.length:=by
 unfold mvL;split
 ·split
  ·simp
  ·split
   ·simp
   ·exact Nat.le_refl _
 ·simp
theorem word_lt (k W place c t:Nat)(next run:Int)(L M:List W3)(base a:Nat)(w:World)
 (ap:1≤k)(aq:k≤12)(hc:c<16777216)(ht:t<16777216)(hW:1≤W)(aC:W≤20)(ar:base≤w.heap.size)
 (au:PI w base a k W next run L M)(hL:L.length<4398046511000)(hM:M.length<4398046511000)
 (aD:(place:Int)≤140737488350000)(av:0≤run)(aE:run≤140737488350000)(h:c<t) :
 Calls Tryz.prog 115 #[.pointer (some ⟨a,0,none⟩),I J place,.int .u64 c,.int .u64 t] w fun e w'=>e=.returned (.tuple #[])∧
  PI w' base a k W (place+1) (E1 next run place) (J0 W next place L (E2 k place c t)) (F5 W (E1 next run place) (J0 W next place L (E2 k place c t)) M)∧PF base w w':=by
 obtain⟨i,ov,pv,D,R,S,T⟩:=au;have aw:0≤E1 next run place∧E1 next run place≤140737488351232:=by unfold E1;split<;>omega
 have aF:=Z1 W next place L
 obtain⟨d,E⟩:=A8 (E1 next run place);obtain⟨s,F⟩:=A8 (J0 W next place L (E2 k place c t));rw[←F];have HR:=A4 E;have V:=A4 F;rw[←E]at aw⊢;clear E F;go_enter Tryz.func115,Tryz.ntmps115;go_wp2_with fail;refine(A3j k W next run place L base a ov pv w D R O O av O O O).mono ?_;rintro e w1 ⟨rfl,aG,X,Y,aa⟩;obtain⟨⟨_,ax,ay,l,G,ab,ac⟩,v⟩:=PI.move i D S T X Y aa;rw[←HR.o]at l;clear aa D R S T X Y;have H:base≤w1.heap.size:=Nat.le_trans ar v.below.size;have c0:w1.cell? ⟨a,0,none⟩=some (I J k):=A1 l rfl;have aH:((c:Int) !=t)=true:=Zo;have h':(c:Int)<t:=O;have hx:E2 k place c t=some ⟨(H6 k c:Nat),place,decide (t<c)⟩:=by
  unfold E2 A0c;rw[if_neg O,Nat.min_eq_left O]
 have HX:Hd (s=O8 (mvL W next place L) (H6 k c:Nat)++[⟨(H6 k c:Nat),place,decide (t<c)⟩]):=by rw[V.o,hx];rfl
 clear hx;go_wp2_with fail;refine(A46 k c _ ap aq O).mono ?_;rintro e aI ⟨rfl,rfl⟩;go_wp2_with fail;refine(A7l k W (place+1) d ⟨(H6 k c:Nat),place,decide (t<c)⟩ (mvL W next place L) base a ax ay _ l G H O).mono ?_;rintro e w2 ⟨rfl,n,ad,aJ,K,ae,af⟩;rw[A3J.take_eq _ _ _ n ad rfl]at K;have ag:=PI.add i H l G ab ac K ae af;rw[←HX.o]at ag;obtain⟨⟨_,y,ah,m,z,N,ai⟩,q⟩:=ag;clear K ae af ad l G ab ac c0;have aj:base≤w2.heap.size:=Nat.le_trans H q.below.size;have q1:w2.cell? ⟨a,1,none⟩=some (I J W):=A1 m rfl;have q3:w2.cell? ⟨a,3,none⟩=some (I J d):=A1 m rfl;have q4:w2.cell? ⟨a,4,none⟩=some y:=A1 m rfl;have P:=A4 m;clear m V HX;have ak:PI w2 base a k W (place+1) d s M:=⟨i,y,ah,P.o,z,N,ai⟩;by_cases A:(W:Int)≤d
 ·rcases s with _|⟨x,tl⟩
  ·have r:Hd (F5 W d [] M=M):=by show _=_;unfold F5;rw[if_pos A]
   obtain⟨ao,cap,rfl⟩:∃ao cap,y=.slice ao 0 cap:=by
    rcases z.2 with⟨rfl,_⟩|⟨g,o,cap,cur,rfl,_⟩
    ·exact⟨_,_,rfl⟩
    ·exact⟨_,_,rfl⟩
   go_wp2;go_quiet (fail);go_wp2;go_end0;exact⟨rfl,by rw[r.o];exact⟨i,ak.ex⟩,v.trans (q.drewN _)⟩
  ·have r:Hd (F5 W d (x::tl) M=O4 M x):=by show _=_;unfold F5;rw[if_pos A]
   obtain⟨g,o,cap,cur,az,B,C,aK,aA⟩:∃g o cap cur,y=.slice (some ⟨g,o,none⟩) (x::tl).length cap∧w2.heap[g]?=some (.cells cur 114 (0,0))∧(∀j u,(A6 (x::tl))[j]?=some u→cur[o+j]?=some u)∧cap≤9223372036854775807∧(x::tl).length≤cap:=by
    rcases z.2 with⟨_,h0⟩|⟨g,o,cap,cur,h1,h2,h3,h4,h5,h6,h7⟩
    ·simp at h0
    ·exact⟨g,o,cap,cur,h1,h3,h7,h5,h4⟩
   subst az;have e0:w2.cell? ⟨g,o,none⟩=some (I J x.h):=A1 B (C 0 _ rfl);have e1:w2.cell? ⟨g,o+1,none⟩=some (I J x.p):=A1 B (C 1 _ rfl);have e2:w2.cell? ⟨g,o+2,none⟩=some (.bool x.b):=A1 B (C 2 _ rfl);have aB:(0:Int)<((x::tl).length:Nat):=Zs;obtain⟨n,Q⟩:=A8 ((x::tl).length);rw[←Q]at q4 aB aA;have HN:=A4 Q;clear Q B C;go_wp2;go_quiet (fail);go_wp2_with fail;refine(A25 k W (place+1) d x base a _ ah M O (w2.drewN _) P.o N aj).mono ?_;rintro e w3 ⟨rfl,aL,al,am,an⟩;have f:=PI.pick (w:=w2.drewN _) i aj P.o z N ai al am an;clear al am an;go_wp2;go_end0;exact⟨rfl,by rw[r.o];exact f.1,v.trans (PF.trans ⟨q.below,q.scan⟩ ⟨⟨f.2.below.os,f.2.below.tape,f.2.below.output,f.2.below.size,f.2.below.block⟩,f.2.scan⟩)⟩
 ·have r:Hd (F5 W d s M=M):=by show _=_;unfold F5;rw[if_neg A]
  have aM:decide ((W:Int)≤d)=false:=by simpa using A
  go_wp2;go_quiet (fail);go_wp2;go_end0;exact⟨rfl,by rw[r.o];exact⟨i,ak.ex⟩,v.trans (q.drewN _)⟩
theorem B04 (k W place c t:Nat)(next run:Int)(L M:List W3)(base a:Nat)(w:World)
 (ap:1≤k)(aq:k≤12)(hc:c<16777216)(ht:t<16777216)(hW:1≤W)(aC:W≤20)(ar:base≤w.heap.size)
 (au:PI w base a k W next run L M)(hL:L.length<4398046511000)(hM:M.length<4398046511000)
 (aD:(place:Int)≤140737488350000)(av:0≤run)(aE:run≤140737488350000)(h:t<c) :
 Calls Tryz.prog 115 #[.pointer (some ⟨a,0,none⟩),I J place,.int .u64 c,.int .u64 t] w fun e w'=>e=.returned (.tuple #[])∧
  PI w' base a k W (place+1) (E1 next run place) (J0 W next place L (E2 k place c t)) (F5 W (E1 next run place) (J0 W next place L (E2 k place c t)) M)∧PF base w w':=by
 obtain⟨i,ov,pv,D,R,S,T⟩:=au;have aw:0≤E1 next run place∧E1 next run place≤140737488351232:=by unfold E1;split<;>omega
 have aF:=Z1 W next place L
 obtain⟨d,E⟩:=A8 (E1 next run place);obtain⟨s,F⟩:=A8 (J0 W next place L (E2 k place c t));rw[←F];have HR:=A4 E;have V:=A4 F;rw[←E]at aw⊢;clear E F;go_enter Tryz.func115,Tryz.ntmps115;go_wp2_with fail;refine(A3j k W next run place L base a ov pv w D R O O av O O O).mono ?_;rintro e w1 ⟨rfl,aG,X,Y,aa⟩;obtain⟨⟨_,ax,ay,l,G,ab,ac⟩,v⟩:=PI.move i D S T X Y aa;rw[←HR.o]at l;clear aa D R S T X Y;have H:base≤w1.heap.size:=Nat.le_trans ar v.below.size;have c0:w1.cell? ⟨a,0,none⟩=some (I J k):=A1 l rfl;have aH:((c:Int) !=t)=true:=Zo;have h':(t:Int)<c:=O;have hx:E2 k place c t=some ⟨(H6 k t:Nat),place,true⟩:=by
  unfold E2 A0c;rw[if_neg O,Nat.min_eq_right O,decide_eq_true O]
 have HX:Hd (s=O8 (mvL W next place L) (H6 k t:Nat)++[⟨(H6 k t:Nat),place,true⟩]):=by rw[V.o,hx];rfl
 clear hx;go_wp2_with fail;refine(A46 k t _ ap aq O).mono ?_;rintro e aI ⟨rfl,rfl⟩;go_wp2_with fail;refine(A7l k W (place+1) d ⟨(H6 k t:Nat),place,true⟩ (mvL W next place L) base a ax ay _ l G H O).mono ?_;rintro e w2 ⟨rfl,n,ad,aJ,K,ae,af⟩;rw[A3J.take_eq _ _ _ n ad rfl]at K;have ag:=PI.add i H l G ab ac K ae af;rw[←HX.o]at ag;obtain⟨⟨_,y,ah,m,z,N,ai⟩,q⟩:=ag;clear K ae af ad l G ab ac c0;have aj:base≤w2.heap.size:=Nat.le_trans H q.below.size;have q1:w2.cell? ⟨a,1,none⟩=some (I J W):=A1 m rfl;have q3:w2.cell? ⟨a,3,none⟩=some (I J d):=A1 m rfl;have q4:w2.cell? ⟨a,4,none⟩=some y:=A1 m rfl;have P:=A4 m;clear m V HX;have ak:PI w2 base a k W (place+1) d s M:=⟨i,y,ah,P.o,z,N,ai⟩;by_cases A:(W:Int)≤d
 ·rcases s with _|⟨x,tl⟩
  ·have r:Hd (F5 W d [] M=M):=by show _=_;unfold F5;rw[if_pos A]
   obtain⟨ao,cap,rfl⟩:∃ao cap,y=.slice ao 0 cap:=by
    rcases z.2 with⟨rfl,_⟩|⟨g,o,cap,cur,rfl,_⟩
    ·exact⟨_,_,rfl⟩
    ·exact⟨_,_,rfl⟩
   go_wp2;go_quiet (fail);go_wp2;go_end0;exact⟨rfl,by rw[r.o];exact⟨i,ak.ex⟩,v.trans (q.drewN _)⟩
  ·have r:Hd (F5 W d (x::tl) M=O4 M x):=by show _=_;unfold F5;rw[if_pos A]
   obtain⟨g,o,cap,cur,az,B,C,aK,aA⟩:∃g o cap cur,y=.slice (some ⟨g,o,none⟩) (x::tl).length cap∧w2.heap[g]?=some (.cells cur 114 (0,0))∧(∀j u,(A6 (x::tl))[j]?=some u→cur[o+j]?=some u)∧cap≤9223372036854775807∧(x::tl).length≤cap:=by
    rcases z.2 with⟨_,h0⟩|⟨g,o,cap,cur,h1,h2,h3,h4,h5,h6,h7⟩
    ·simp at h0
    ·exact⟨g,o,cap,cur,h1,h3,h7,h5,h4⟩
   subst az;have e0:w2.cell? ⟨g,o,none⟩=some (I J x.h):=A1 B (C 0 _ rfl);have e1:w2.cell? ⟨g,o+1,none⟩=some (I J x.p):=A1 B (C 1 _ rfl);have e2:w2.cell? ⟨g,o+2,none⟩=some (.bool x.b):=A1 B (C 2 _ rfl);have aB:(0:Int)<((x::tl).length:Nat):=Zs;obtain⟨n,Q⟩:=A8 ((x::tl).length);rw[←Q]at q4 aB aA;have HN:=A4 Q;clear Q B C;go_wp2;go_quiet (fail);go_wp2_with fail;refine(A25 k W (place+1) d x base a _ ah M O (w2.drewN _) P.o N aj).mono ?_;rintro e w3 ⟨rfl,aL,al,am,an⟩;have f:=PI.pick (w:=w2.drewN _) i aj P.o z N ai al am an;clear al am an;go_wp2;go_end0;exact⟨rfl,by rw[r.o];exact f.1,v.trans (PF.trans ⟨q.below,q.scan⟩ ⟨⟨f.2.below.os,f.2.below.tape,f.2.below.output,f.2.below.size,f.2.below.block⟩,f.2.scan⟩)⟩
 ·have r:Hd (F5 W d s M=M):=by show _=_;unfold F5;rw[if_neg A]
  have aM:decide ((W:Int)≤d)=false:=by simpa using A
  go_wp2;go_quiet (fail);go_wp2;go_end0;exact⟨rfl,by rw[r.o];exact⟨i,ak.ex⟩,v.trans (q.drewN _)⟩
theorem B1D (k W place c t:Nat)(next run:Int)(L M:List W3)(base a:Nat)(w:World)
 (ay:1≤k)(az:k≤12)(hc:c<16777216)(ht:t<16777216)(hW:1≤W)(aA:W≤20)(ai:base≤w.heap.size)
 (aj:PI w base a k W next run L M)(hL:L.length<4398046511000)(hM:M.length<4398046511000)
 (aB:(place:Int)≤140737488350000)(ak:0≤run)(aC:run≤140737488350000)(h:c=t) :
 Calls Tryz.prog 115 #[.pointer (some ⟨a,0,none⟩),I J place,.int .u64 c,.int .u64 t] w fun e w'=>e=.returned (.tuple #[])∧
  PI w' base a k W (place+1) (E1 next run place) (J0 W next place L (E2 k place c t)) (F5 W (E1 next run place) (J0 W next place L (E2 k place c t)) M)∧PF base w w':=by
 obtain⟨m,ov,pv,E,P,Q,R⟩:=aj;have al:0≤E1 next run place∧E1 next run place≤140737488351232:=by unfold E1;split<;>omega
 have aD:=Z1 W next place L
 obtain⟨d,F⟩:=A8 (E1 next run place);obtain⟨l,G⟩:=A8 (J0 W next place L (E2 k place c t));rw[←G];have HR:=A4 F;have S:=A4 G;rw[←F]at al⊢;clear F G;go_enter Tryz.func115,Tryz.ntmps115;go_wp2_with fail;refine(A3j k W next run place L base a ov pv w E P O O ak O O O).mono ?_;rintro e w1 ⟨rfl,aE,T,V,X⟩;obtain⟨⟨_,am,an,v,Y,aa,ab⟩,y⟩:=PI.move m E Q R T V X;rw[←HR.o]at v;clear X E P Q R T V;have ap:base≤w1.heap.size:=Nat.le_trans ai y.below.size;have c0:w1.cell? ⟨a,0,none⟩=some (I J k):=A1 v rfl;have aF:((c:Int) !=t)=false:=Zo;have hx:E2 k place c t=none:=by
  unfold E2;rw[if_pos h]
 have HX:Hd (l=mvL W next place L):=by rw[S.o,hx];rfl
 clear hx;obtain⟨w2,f,z,aq,ar,au⟩:∃w2 f z,w2=w1∧f=am∧z=an:=⟨_,_,_,rfl,rfl,rfl⟩;subst aq ar au;have q:=v;have A:A3 w2 base 114 3 f l.length (A6 l):=by rw[HX.o];exact Y
 have H:=aa;have ac:=ab;have r:PF base w2 w2:=⟨Below.refl _ _,fun _ _ h=>h⟩;clear v Y aa ab c0;have ad:base≤w2.heap.size:=Nat.le_trans ap r.below.size;have q1:w2.cell? ⟨a,1,none⟩=some (I J W):=A1 q rfl;have q3:w2.cell? ⟨a,3,none⟩=some (I J d):=A1 q rfl;have q4:w2.cell? ⟨a,4,none⟩=some f:=A1 q rfl;have K:=A4 q;clear q S HX;have ae:PI w2 base a k W (place+1) d l M:=⟨m,f,z,K.o,A,H,ac⟩;by_cases B:(W:Int)≤d
 ·rcases l with _|⟨x,tl⟩
  ·have s:Hd (F5 W d [] M=M):=by show _=_;unfold F5;rw[if_pos B]
   obtain⟨ao,cap,rfl⟩:∃ao cap,f=.slice ao 0 cap:=by
    rcases A.2 with⟨rfl,_⟩|⟨g,o,cap,cur,rfl,_⟩
    ·exact⟨_,_,rfl⟩
    ·exact⟨_,_,rfl⟩
   go_wp2;go_quiet (fail);go_wp2;go_end0;exact⟨rfl,by rw[s.o];exact⟨m,ae.ex⟩,y.trans (r.drewN _)⟩
  ·have s:Hd (F5 W d (x::tl) M=O4 M x):=by show _=_;unfold F5;rw[if_pos B]
   obtain⟨g,o,cap,cur,av,C,D,aG,aw⟩:∃g o cap cur,f=.slice (some ⟨g,o,none⟩) (x::tl).length cap∧w2.heap[g]?=some (.cells cur 114 (0,0))∧(∀j u,(A6 (x::tl))[j]?=some u→cur[o+j]?=some u)∧cap≤9223372036854775807∧(x::tl).length≤cap:=by
    rcases A.2 with⟨_,h0⟩|⟨g,o,cap,cur,h1,h2,h3,h4,h5,h6,h7⟩
    ·simp at h0
    ·exact⟨g,o,cap,cur,h1,h3,h7,h5,h4⟩
   subst av;have e0:w2.cell? ⟨g,o,none⟩=some (I J x.h):=A1 C (D 0 _ rfl);have e1:w2.cell? ⟨g,o+1,none⟩=some (I J x.p):=A1 C (D 1 _ rfl);have e2:w2.cell? ⟨g,o+2,none⟩=some (.bool x.b):=A1 C (D 2 _ rfl);have ax:(0:Int)<((x::tl).length:Nat):=Zs;obtain⟨n,N⟩:=A8 ((x::tl).length);rw[←N]at q4 ax aw;have HN:=A4 N;clear N C D;go_wp2;go_quiet (fail);go_wp2_with fail;refine(A25 k W (place+1) d x base a _ z M O (w2.drewN _) K.o H ad).mono ?_;rintro e w3 ⟨rfl,aH,af,ag,ah⟩;have i:=PI.pick (w:=w2.drewN _) m ad K.o A H ac af ag ah;clear af ag ah;go_wp2;go_end0;exact⟨rfl,by rw[s.o];exact i.1,y.trans (PF.trans ⟨r.below,r.scan⟩ ⟨⟨i.2.below.os,i.2.below.tape,i.2.below.output,i.2.below.size,i.2.below.block⟩,i.2.scan⟩)⟩
 ·have s:Hd (F5 W d l M=M):=by show _=_;unfold F5;rw[if_neg B]
  have aI:decide ((W:Int)≤d)=false:=by simpa using B
  go_wp2;go_quiet (fail);go_wp2;go_end0;exact⟨rfl,by rw[s.o];exact⟨m,ae.ex⟩,y.trans (r.drewN _)⟩
theorem A9i (k W place c t:Nat)(next run:Int)(L M:List W3)(base a:Nat)(w:World)
 (b:1≤k)(d:k≤12)(f:c<16777216)(ht:t<16777216)(g:1≤W)(i:W≤20)(j:base≤w.heap.size)
 (l:PI w base a k W next run L M)(m:L.length<4398046511000)(n:M.length<4398046511000)
 (o:(place:Int)≤140737488350000)(p:0≤run)(q:run≤140737488350000) :
 Calls Tryz.prog 115 #[.pointer (some ⟨a,0,none⟩),I J place,.int .u64 c,.int .u64 t] w fun e w'=>e=.returned (.tuple #[])∧
  PI w' base a k W (place+1) (E1 next run place) (J0 W next place L (E2 k place c t)) (F5 W (E1 next run place) (J0 W next place L (E2 k place c t)) M)∧PF base w w':=by
 rcases Nat.lt_trichotomy c t with h|h|h
 ·exact word_lt k W place c t next run L M base a w b d f ht g i j l m n o p q h
 ·exact B1D k W place c t next run L M base a w b d f ht g i j l m n o p q h
 ·exact B04 k W place c t next run L M base a w b d f ht g i j l m n o p q h
end
end Mn
end Go.Proofs.YtilcmkiihefkkaaGreatDoor
