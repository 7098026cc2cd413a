import Derived.Test.YtilcmkiihefkkaaGreatDoorJl19
import Derived.Test.YtilcmkiihefkkaaGreatDoorJl21
import Derived.Test.YtilcmkiihefkkaaGreatDoorJl22
set_option linter.unusedVariables false
set_option linter.unusedSimpArgs false
set_option maxRecDepth 1000000
set_option maxHeartbeats 64000000
open Go.Value renaming int→I
open Go.IntKind renaming i64→J
namespace Go.Proofs.YtilcmkiihefkkaaGreatDoor
namespace Mn
section
open Go.RowKit Go.Maps
theorem C8 {α:Type}(L:List α)(i:Nat)(d:α)(h:i<L.length):L.getD i d=L[i]:=by simp[List.getD_eq_getElem?_getD,List.getElem?_eq_getElem h]
theorem A7i {s:ByteArray}(h:good s):∀i,i<s.data.toList.length→0≤B4 (s.data.toList.getD i 0):=by
 intro i hi;have a:i<s.size:=by simpa using hi
 have:=h i a;rw[C8 _ _ _ hi];exact this
theorem A5j (k W:Nat)(a:1≤k)(b:k≤12)(s:ByteArray)(c:good s):Q8 k W s=(M0 k W (nums s.data.toList) (s.size+1-k)).M:=by
 have:=B3C k W a b s.data.toList (A7i c);have e:s.data.toList.length=s.size:=Zs;rw[e]at this;exact this
theorem A4Y {k W:Nat}(b:1≤k)(c:k≤12)(d:1≤W){s:ByteArray}(f:good s){x:W3}(a:x∈Q8 k W s):∃p:Nat,E4 (nums s.data.toList) k p=some x:=by
 rw[A5j k W b c s f]at a;obtain⟨e,_,_,i,_,_,hi,_⟩:=(pkI (nums s.data.toList) k W d _).mem x a;exact⟨i,hi⟩
theorem A6j (k c:Nat)(b:k≤12):I5 k c<16777216:=by
 have a:0<(4:Nat)^k:=Nat.pow_pos O;have d:(4:Nat)^k=2^(2*k):=by rw[Nat.pow_mul]
 have f:(2:Nat)^(2*k)≤2^24:=Nat.pow_le_pow_right O O;have h1:c*2654435761%4^k<2^24:=by
  have:=Nat.mod_lt (c*2654435761) a;omega
 unfold I5;exact Nat.xor_lt_two_pow h1 (Nat.lt_of_le_of_lt (Nat.div_le_self _ _) h1)
theorem A0n {k W:Nat}(d:1≤k)(a:k≤12)(f:1≤W){s:ByteArray}(g:good s){x:W3}(i:x∈Q8 k W s):0≤x.h∧x.h<16777216∧0≤x.p∧x.p+k≤s.size:=by
 obtain⟨p,b⟩:=A4Y d a f g i;obtain⟨e,c⟩:=T6 b;have j:=(A02 (H6 b)).1;have l:(nums s.data.toList).length=s.size:=by simp[nums]
 rw[l]at j;rcases c with⟨_,h⟩|⟨_,h⟩
 ·have:=A6j k (E7 (O5 (nums s.data.toList) p k)) a;omega
 ·have:=A6j k (E7 (rcL (O5 (nums s.data.toList) p k))) a;omega
theorem A3z {h:Int}(a:0≤h)(h1:h<16777216):okI h:=by
 unfold okI;exact WalkArith.wf_i64 O
theorem A2S:∀(L:List W3) (lo n:Int),L.Pairwise (fun x y=>x.p<y.p)→(∀x∈L,lo≤x.p∧x.p<n)→lo≤n→(L.length:Int)≤n-lo
 |[],lo,n,_,_,h=>Zo
 |x::t,lo,n,a,hm,h=>by
  have c:=hm x (List.mem_cons_self)
  have:=A2S t (x.p+1) n (List.Pairwise.of_cons a) (fun y b=>⟨by have:=List.rel_of_pairwise_cons a b;omega,(hm y (List.mem_cons_of_mem _ b)).2⟩) O
  simp only[List.length_cons]
  omega
theorem A0B {k W:Nat}(a:1≤k)(b:k≤12)(c:1≤W){s:ByteArray}(d:good s):(Q8 k W s).length≤s.size:=by
 have f:(Q8 k W s).Pairwise (fun x y=>x.p<y.p):=by
  rw[A5j k W a b s d];exact(pkI (nums s.data.toList) k W c _).inc
 have:=A2S (Q8 k W s) 0 s.size f (fun x g=>by have:=A0n a b c d g;omega) O;omega
def A2k (i:Nat)(T:Int→List W3)(L:List W3):Int→List W3:=L.foldl (A1y i) T
def S0:S2:=⟨⟨#[]⟩,⟨#[]⟩⟩
def D6 (k W:Nat)(R:List S2):Nat→Int→List W3
 |0=>fun _=>[]
 |j+1=>A2k j (D6 k W R j) (Q8 k W (R.getD j S0).b)
def C7 (R:List S2):Nat→Nat
 |0=>0
 |j+1=>C7 R j+(R.getD j S0).b.size
theorem A9S (i:Nat)(T:Int→List W3)(L:List W3)(j:Nat)(h:j<L.length):A2k i T (L.take (j+1))=A1y i (A2k i T (L.take j)) L[j]:=by
 unfold A2k;rw[List.take_add_one,List.getElem?_eq_getElem h,List.foldl_append];rfl
theorem B1A (i:Nat)(T:Int→List W3)(x:W3)(n:Nat)(h:∀a,(T a).length≤n):∀a,(A1y i T x a).length≤n+1:=by
 intro a;unfold A1y I0;split
 ·have:=h x.h;simp;omega
 ·have:=h a;omega
theorem A2V (i:Nat):∀(L:List W3) (T:Int→List W3) (n:Nat),(∀a,(T a).length≤n)→∀a,(A2k i T L a).length≤n+L.length
 |[],T,n,h,a=>h a
 |x::t,T,n,h,a=>by
  have:=A2V i t (A1y i T x) (n+1) (B1A i T x n h) a
  simp only[List.length_cons]
  show(A2k i (A1y i T x) t a).length≤_
  omega
theorem Y4 {k W:Nat}(c:1≤k)(d:k≤12)(f:1≤W)(R:List S2)(g:∀x∈R,good x.b):∀j,j≤R.length→∀a,(D6 k W R j a).length≤C7 R j
 |0,_,a=>by simp[D6,C7]
 |j+1,h,a=>by
  have h1:=Y4 c d f R g j O
  have i:=A2V j (Q8 k W (R.getD j S0).b) (D6 k W R j) _ h1 a
  have hm:R.getD j S0∈R:=by rw[C8 _ _ _ O];exact List.getElem_mem _
  have l:=A0B c d f (g _ hm) (W:=W) (k:=k)
  show(A2k j (D6 k W R j) (Q8 k W (R.getD j S0).b) a).length≤C7 R j+(R.getD j S0).b.size
  omega
theorem V7 (R:List S2):∀j m,j≤m→C7 R j≤C7 R m:=by
 intro j m h;induction m with
 |zero=>have:j=0:=O
        subst this;exact Nat.le_refl _
 |succ m a=>
  rcases Nat.lt_or_ge j (m+1) with b|b
  ·have:=a O;show _≤C7 R m+_;omega
  ·have:j=m+1:=O;subst this;exact Nat.le_refl _
def geO:Option Ordering→Bool
 |some .gt=>true
 |some .eq=>true
 |_=>false
def leO:Option Ordering→Bool
 |some .lt=>true
 |some .eq=>true
 |_=>false
def fge (x y:Nat):Bool:=geO (FloatKind.f64.format.order x y)
def fle (x y:Nat):Bool:=leO (FloatKind.f64.format.order x y)
def J1 (k W:Int)(sc:Nat):Bool:=decide (1≤k)&&decide (k≤12)&&decide (1≤W)&&decide (W≤20)&&fge sc 0&&fle sc 4652007308841189376
theorem A6u (k W:Int)(sc:Nat)(w:World) :
 Calls Tryz.prog 26 #[.agg #[I J k,I J W,.float .f64 sc]] w fun e w'=>e=.returned (.bool (J1 k W sc))∧Below w.heap.size w w':=by
 have c:Below w.heap.size w (w.alloc (Obj.cells #[I J k,I J W,Value.float .f64 sc] 24)):=(Below.refl _ _).alloc (Nat.le_refl _) _;obtain⟨o1,h1⟩:∃o,FloatKind.f64.format.order sc 0=o:=⟨_,rfl⟩;obtain⟨f,d⟩:∃o,FloatKind.f64.format.order sc 4652007308841189376=o:=⟨_,rfl⟩;have e:J1 k W sc=(decide (1≤k)&&decide (k≤12)&&decide (1≤W)&&decide (W≤20)&&geO o1&&leO f):=by
  unfold J1 fge fle;rw[h1,d]
 have a:=A4 e;clear e;by_cases g:1≤k
 ·by_cases a2:k≤12
  ·by_cases a3:1≤W
   ·by_cases a4:W≤20
    ·rcases o1 with _|(_|_|_)<;>rcases f with _|(_|_|_)<;>
     ·go_enter Tryz.func26,Tryz.ntmps26;go_wp2;go_ret;exact⟨by rw[a.o];simp[g,a2,a3,a4,geO,leO],c⟩
    ·have b:Hd (J1 k W sc=false):=by show _=_;rw[a.o];simp[a4]
     clear a h1 d;go_enter Tryz.func26,Tryz.ntmps26;go_wp2;go_ret;exact⟨by rw[b.o];rfl,c⟩
   ·have b:Hd (J1 k W sc=false):=by show _=_;rw[a.o];simp[a3]
    clear a h1 d;go_enter Tryz.func26,Tryz.ntmps26;go_wp2;go_ret;exact⟨by rw[b.o];rfl,c⟩
  ·have b:Hd (J1 k W sc=false):=by show _=_;rw[a.o];simp[a2]
   clear a h1 d;go_enter Tryz.func26,Tryz.ntmps26;go_wp2;go_ret;exact⟨by rw[b.o];rfl,c⟩
 ·have b:Hd (J1 k W sc=false):=by show _=_;rw[a.o];simp[g]
  clear a h1 d;go_enter Tryz.func26,Tryz.ntmps26;go_wp2;go_ret;exact⟨by rw[b.o];rfl,c⟩
theorem A4H (R:List S2)(M:Nat)(h:∀x∈R,x.b.size≤M):∀j,j≤R.length→C7 R j≤j*M
 |0,_=>by simp[C7]
 |j+1,a=>by
  have h1:=A4H R M h j O
  have c:(R.getD j S0).b.size≤M:=by rw[C8 _ _ _ O];exact h _ (List.getElem_mem _)
  show C7 R j+_≤_
  rw[Nat.add_mul];omega
def G0 (R:List S2):Int:=if 4000<C7 R R.length then 1 else if R.length=0 then 7 else 0
theorem A58 (R:List S2)(base:Nat)(k:Value)(w:World)(A:R.length<100000)(s:∀x∈R,x.b.size≤1000000000)(l:A3 w base 88 2 k R.length (B3 R)) :
 Calls Tryz.prog 27 #[k] w fun e w'=>e=.returned (I J (G0 R))∧Below w.heap.size w w':=by
 obtain⟨n,d⟩:=A8 R.length;have B:=A4 d;have p:Hd (G0 R=if 4000<C7 R n then 1 else if n=0 then 7 else 0):=by show _=_;rw[d];rfl
 have t:=A4 s;have C:Hd (A3 w base 88 2 k n (B3 R)):=by rw[d];exact l
 rw[←d]at A l;obtain⟨q,u,D,hs⟩:∃q u,k=.slice q n u∧(n≠0→∃g o,q=some ⟨g,o,none⟩∧g<w.heap.size):=by
  rcases l.2 with⟨h,a⟩|⟨g,o,cap,cur,h,_,E,_⟩
  ·exact⟨none,0,by rw[h,a],fun F=>absurd a F⟩
  ·exact⟨_,_,h,fun _=>⟨g,o,rfl,lt_of_block E⟩⟩
 subst D;clear d s l;go_enter Tryz.func27,Tryz.ntmps27;go_wp2;go_loopw [3,8] (fun b i wr=>∃j:Nat,j≤n∧i=I J j∧b=I J (C7 R j)∧Below w.heap.size w wr) (fun _ i _=>n-(intOf i).toNat);case atStart=>exact⟨0,Nat.zero_le _,rfl,rfl,Below.refl _ _⟩
 case round=>
  obtain⟨j,M,rfl,rfl,v⟩:=hrel;have c:=A4 v;clear v;by_cases N:j<n
  ·obtain⟨g,o,rfl,P⟩:=hs O;have y:j<R.length:=by have:=B.o;omega
   have z:=(C.o.other (w':=wr) (fun g' _ G=>c.o.block g' G)).seqs j y;obtain⟨x,m⟩:=A8 (R[j]);rw[←m]at z;obtain⟨d0,d1⟩:=z;have Q:x.b.size≤1000000000:=t.o x (by rw[m];exact List.getElem_mem _);have H:Hd (C7 R (j+1)=C7 R j+x.b.size):=by show C7 R j+(R.getD j S0).b.size=_;rw[C8 _ _ _ y,m]
   have S:C7 R j≤100000000000000:=Nat.le_trans (A4H R 1000000000 t.o j O) O;clear m;go_wp2;go_roundw;case rel=>
    refine⟨j+1,O,Zn,?_,c.o.alloc c.o.size _⟩;have:=H.o;go_num
   case measure=>simp[intOf];omega
  ·have K:j=n:=O;subst K;by_cases r:4000<C7 R j
   ·have f:Hd (G0 R=1):=by show _=_;rw[p.o,if_pos r]
    have L:(4000:Int)<C7 R j:=O;go_wp2;go_ret;exact⟨by rw[f.o];rfl,c.o⟩
   ·have L:¬(4000:Int)<C7 R j:=O;by_cases a:j=0
    ·have f:Hd (G0 R=7):=by show _=_;rw[p.o,if_neg r,if_pos a]
     subst a;go_wp2;go_ret;exact⟨by rw[f.o];rfl,c.o⟩
    ·have f:Hd (G0 R=0):=by show _=_;rw[p.o,if_neg r,if_neg a]
     have T:¬(j:Int)=0:=O;go_wp2;go_ret;exact⟨by rw[f.o];rfl,c.o⟩
theorem A7N (args:Array Value)(w:World):(callFunc 61 args).run Tryz.prog w=.ok (.enter 61 args) w:=Q4 Tryz.func61 U rfl args w
structure NwI (w:World)(X Hb Eb:Nat)(ix:Array Value)(j:Nat)(T:Int→List W3)(N:Nat)(wr:World):Prop where
 ix:wr.heap[X]?=some (.cells ix 147 (0,0))
 en:wr.heap[Eb]?=some (.cells #[I J j,.map (some Hb)] 149 (0,0))
 ht:∃V,HtP wr w.heap.size Hb N V T
 bl:Below w.heap.size w wr
 lo:w.heap.size≤Hb
theorem NwI.kept {w wr w':World}{X b c:Nat}{ix:Array Value}{j:Nat}{T:Int→List W3}{N:Nat}(h:NwI w X b c ix j T N wr)(a:Below wr.heap.size wr w'):NwI w X b c ix j T N w':=by
 obtain⟨V,d⟩:=h.ht;exact⟨(a.block _ (lt_of_block h.ix)).trans h.ix,(a.block _ (lt_of_block h.en)).trans h.en,⟨V,d.kept (fun g f=>a.block g f)⟩,h.bl.trans (a.mono h.bl.size),h.lo⟩
theorem B3s {w:World}{base a n:Nat}{V:Int→Value}{T:Int→List W3}(h:HtP w base a n V T){g:Nat}{cs:Array Value}{t:TypeId}(b:w.heap[g]?=some (.cells cs t (0,0))):g≠a:=by
 obtain⟨D,⟨es,clock,c,_⟩,_⟩:=h.map;intro e;rw[e,c]at b;cases b
theorem NwI.step {w:World}{X f c:Nat}{ix:Array Value}{j:Nat}{T:Int→List W3}{N:Nat}{wr:World}(h:NwI w X f c ix j T N wr)(x:W3)(i:okI x.h)(l:N<100000)(m:(T x.h).length<100000) :
 Calls Tryz.prog 61 #[.pointer (some ⟨c,0,none⟩),.agg #[I J x.h,I J x.p,.bool x.b]] wr fun e w'=>e=.returned (.tuple #[])∧NwI w X f c ix j (A1y j T x) (N+1) w'∧M4 wr w':=by
 obtain⟨V,d⟩:=h.ht;refine(A9Q j x i c f w.heap.size N V T wr l m h.bl.size h.en d).mono ?_;rintro e w' ⟨rfl,n,hs,hk,ho,ht,hu⟩;have k:∀g cs t,wr.heap[g]?=some (Obj.cells cs t (0,0))→t≠99→w'.heap[g]?=wr.heap[g]?:=fun g cs t a o=>hk g (lt_of_block a) (B3s d a) ((d.own x.h i).tag o a);refine⟨rfl,⟨(k _ _ _ h.ix Z).trans h.ix,(k _ _ _ h.en Z).trans h.en,n,?_,h.lo⟩,fun g cs a=>k g cs _ a Z⟩;refine⟨ho.trans h.bl.os,ht.trans h.bl.tape,hu.trans h.bl.output,Nat.le_trans h.bl.size hs,fun g a=>?_⟩;rw[hk g (Nat.lt_of_lt_of_le a h.bl.size) (by have:=h.lo;omega) (fun e=>by have:=((d.own x.h i).lt e).1;omega)];exact h.bl.block g a
theorem A4X (R:List S2)(base:Nat)(l:Value)(k W sc:Nat)(w:World)(q:1≤k)(r:k≤12)(s:1≤W)(ae:W≤20)(hR:R.length<100000)(d:∀x∈R,good x.b)(Q:C7 R R.length≤4000)(t:A3 w base 88 2 l R.length (B3 R)) :
 Calls Tryz.prog 28 #[l,.agg #[I J k,I J W,.float .f64 sc]] w fun e w'=>∃X B V,e=.returned (.pointer (some ⟨X,0,none⟩))∧
  w'.heap[X]?=some (.cells (ixC k W sc l (.map (some B))) 147 (0,0))∧HtP w' w.heap.size B 4000 V (D6 k W R R.length)∧Below w.heap.size w w'∧w.heap.size≤X∧w.heap.size≤B:=by
 have am:∀u,_:=fun u=>run_makeMap (P:=Tryz.prog) 145 u;obtain⟨n,m⟩:=A8 R.length;have HN:=A4 m;have S:=A4 d;have T:Hd (C7 R n≤4000):=by rw[m];exact Q
 have HO:Hd (A3 w base 88 2 l n (B3 R)):=by rw[m];exact t
 rw[←m]at hR t⊢;obtain⟨f,c,hv,hs⟩:∃f c,l=.slice f n c∧(n≠0→∃g o,f=some ⟨g,o,none⟩∧g<w.heap.size):=by
  rcases t.2 with⟨h,Y⟩|⟨g,o,cap,cur,h,_,d,_⟩
  ·exact⟨none,0,by rw[h,Y],fun h'=>absurd Y h'⟩
  ·exact⟨_,_,h,fun _=>⟨g,o,rfl,lt_of_block d⟩⟩
 subst hv;clear m t d Q;go_enter Tryz.func28,Tryz.ntmps28;go_wp2;go_loopw [16] (fun i wr=>∃j:Nat,j≤n∧i=I J j∧wr.heap[w.heap.size+1+1]?=some (.cells (ixC k W sc (.slice f n c) (.map (some (w.heap.size+1)))) 147 (0,0))∧(∃V,HtP wr w.heap.size (w.heap.size+1) (C7 R j) V (D6 k W R j))∧Below w.heap.size w wr) (fun i _=>n-(intOf i).toNat);case atStart=>
  refine⟨0,Nat.zero_le _,rfl,?_,⟨fun _=>A1c,?_⟩,?_⟩
  ·have:=heap_alloc_new ((w.alloc (Obj.cells #[I J ↑k,I J ↑W,Value.float FloatKind.f64 sc] 24)).alloc (Obj.map #[] 0)) (Obj.cells #[I J ↑k,I J ↑W,Value.float FloatKind.f64 sc,Value.slice f n c,Value.map (some (w.heap.size+1))] 147);have e1:((w.alloc (Obj.cells #[I J ↑k,I J ↑W,Value.float FloatKind.f64 sc] 24)).alloc (Obj.map #[] 0)).heap.size=w.heap.size+1+1:=Zs;rw[e1]at this;exact this
  ·have:=GrP.made (w.alloc (Obj.cells #[I J ↑k,I J ↑W,Value.float FloatKind.f64 sc] 24)) Tryz.prog kI okI A6 rfl 3 99 3 w.heap.size;have C:=this.kept (w':=_) (fun j hj=>Below.heap_alloc _ (Obj.cells #[I J ↑k,I J ↑W,Value.float FloatKind.f64 sc,Value.slice f n c,Value.map (some (w.heap.size+1))] 147) j hj);have e1:(w.alloc (Obj.cells #[I J ↑k,I J ↑W,Value.float FloatKind.f64 sc] 24)).heap.size=w.heap.size+1:=Zs;rw[e1]at C;exact C
  ·exact(((Below.refl _ _).alloc (Nat.le_refl _) _).alloc Zs _).alloc Zo _
 case round=>
  obtain⟨j,hj,rfl,p,⟨V,D⟩,E⟩:=hrel;have v:=A4 E;have HV:=A4 D;have HX:=A4 p;have af:w.heap.size+1+1<wr.heap.size:=lt_of_block p;by_cases an:j<n
  ·obtain⟨g,o,rfl,ap⟩:=hs O;have aa:j<R.length:=by have:=HN.o;omega
   have hc:=(HO.o.other (w':=wr) (fun g' _ ag=>v.o.block g' ag)).seqs j aa;obtain⟨x,y⟩:=A8 (R[j]);rw[←y]at hc;obtain⟨d0,d1⟩:=hc;have F:good x.b:=S.o x (by rw[y];exact List.getElem_mem _);have c4:wr.cell? ⟨w.heap.size+1+1,4,none⟩=some (.map (some (w.heap.size+1))):=A1 p rfl;have G:Hd (R.getD j S0=x):=by show _=_;rw[C8 _ _ _ aa,y]
   clear y p D E;go_wp2_with fail;obtain⟨w2,z⟩:∃u:World,u=(wr.alloc (Obj.cells #[Value.string x.n,Value.string x.b] 88)).alloc (Obj.cells #[I J ↑j,Value.map (some (w.heap.size+1))] 149):=⟨_,rfl⟩;have A:Below wr.heap.size wr w2:=by rw[z];exact((Below.refl _ _).alloc (Nat.le_refl _) _).alloc Zs _
   have ab:w2.heap[wr.heap.size+1]?=some (.cells #[I J j,.map (some (w.heap.size+1))] 149 (0,0)):=by
    have:=heap_alloc_new (wr.alloc (Obj.cells #[Value.string x.n,Value.string x.b] 88)) (Obj.cells #[I J ↑j,Value.map (some (w.heap.size+1))] 149);have e1:(wr.alloc (Obj.cells #[Value.string x.n,Value.string x.b] 88)).heap.size=wr.heap.size+1:=Zs;rw[e1]at this;rw[z];exact this
   rw[←z];have H:=(A.block _ af).trans HX.o;have aq:C7 R j+x.b.size≤4000:=by
    have h1:=V7 R (j+1) n O;have C:C7 R (j+1)=C7 R j+x.b.size:=by show C7 R j+(R.getD j S0).b.size=_;rw[G.o]
    have:=T.o;omega
   have ar:=A0B q r s F (W:=W) (k:=k);have ac:NwI w (w.heap.size+1+1) (w.heap.size+1) (wr.heap.size+1) (ixC k W sc (.slice (some ⟨g,o,none⟩) n c) (.map (some (w.heap.size+1)))) j (D6 k W R j) (C7 R j) w2:=
    ⟨H,ab,⟨V,HV.o.kept (fun g d=>A.block g d)⟩,v.o.trans (A.mono v.o.size),O⟩
   have ah:Hd (∀a,(D6 k W R j a).length≤C7 R j):=Y4 q r s R S.o j O;clear z ab d0 d1 c4 hs;refine(A1J 61 A7N (.pointer (some ⟨wr.heap.size+1,0,none⟩)) x.b (w.heap.size+1+1) k W sc _ _ w2 O q r s ae F H
    (fun i K=>NwI w (w.heap.size+1+1) (w.heap.size+1) (wr.heap.size+1) (ixC k W sc (.slice (some ⟨g,o,none⟩) n c) (.map (some (w.heap.size+1)))) j (A2k j (D6 k W R j) ((Q8 k W x.b).take i)) (C7 R j+i) K)
    (fun i hi K L=>?_) (fun i K w' L hb=>L.kept hb) ac O).mono ?_
   ·rw[A9S _ _ _ i hi];have ad:=A0n q r s F (List.getElem_mem hi);refine L.step _ (A3z ad.1 ad.2.1) O ?_;have:=A2V j ((Q8 k W x.b).take i) (D6 k W R j) _ ah.o (Q8 k W x.b)[i].h;simp only[List.length_take]at this;omega
   ·rintro e w3 ⟨rfl,M⟩;rw[List.take_length]at M;have N:=A4 M;have ai:Hd (D6 k W R (j+1)=A2k j (D6 k W R j) (Q8 k W x.b)):=by show A2k j (D6 k W R j) (Q8 k W (R.getD j S0).b)=_;rw[G.o]
    have aj:Hd (C7 R (j+1)=C7 R j+x.b.size):=by show C7 R j+(R.getD j S0).b.size=_;rw[G.o]
    clear M ac H A;go_wp2;go_roundw;case rel=>
     refine⟨j+1,O,Zn,N.o.ix,?_,N.o.bl⟩;obtain⟨V',ak⟩:=N.o.ht;rw[ai.o,aj.o];exact⟨V',ak.mono O⟩
    case measure=>simp[intOf];omega
  ·have al:j=n:=O;subst al;clear p D E;go_wp2;go_ret;exact⟨_,_,V,rfl,HX.o,HV.o.mono T.o,v.o,O,O⟩
theorem B1M {a b:ByteArray}(d:good a)(f:good b):good (a++b):=by
 have h:∀c∈(a.data.toList++b.data.toList),0≤B4 c:=by
  intro c g;rcases List.mem_append.1 g with h|h
  ·exact A0c d c h
  ·exact A0c f c h
 have:=A0a h;have e:(⟨(a.data.toList++b.data.toList).toArray⟩:ByteArray)=a++b:=by
  apply ByteArray.ext;simp
 rwa [e]at this
theorem A6Y:good ⟨#[]⟩:=fun j a=>absurd a (Nat.not_lt_zero _)
def B0b (L:List S2)(i:Nat):Prop:=L.length≤i∧∀y∈L,good y.b∧D8 y.n∧y.b.size≤8000*i
theorem A98 (L:List S2)(x:ByteArray)(i:Nat)(h:B0b L i)(m:x.size≤8000)(c:(F2 L x).1=0):B0b (F2 L x).2 (i+1):=by
 by_cases d:G3 x
 ·by_cases g:D8 (tl x)
  ·by_cases l:O1 L (tl x)
   ·rw[T3 d g l]at c;exact absurd c Z
   ·rw[O9 d g l];refine⟨by simp;have:=h.1;omega,fun y a=>?_⟩;rcases List.mem_append.1 a with a|a
    ·have:=h.2 y a;exact⟨this.1,this.2.1,O⟩
    ·simp at a;subst a;exact⟨A6Y,g,Nat.zero_le _⟩
  ·rw[W9 d g]at c;exact absurd c Z
 ·by_cases j:L=[]
  ·rw[R2 d j]at c;exact absurd c Z
  ·by_cases k:good x
   ·rw[M6 d j k];obtain⟨A,y,rfl⟩:=Z3 j;rw[O8];refine⟨by have:=h.1;simp at this⊢;omega,fun z f=>?_⟩;rcases List.mem_append.1 f with f|f
    ·have:=h.2 z (List.mem_append_left _ f);exact⟨this.1,this.2.1,O⟩
    ·have a:=h.2 y (List.mem_append_right _ (List.mem_singleton.2 rfl));simp at f;subst f;refine⟨B1M a.1 k,a.2.1,?_⟩;show(y.b++x).size≤_;rw[ByteArray.size_append];omega
   ·rw[R5 d j k]at c;exact absurd c Z
theorem A3a:∀(l:List ByteArray) (i j:Nat) (L:List S2),B0b L j→(∀x∈l,x.size≤8000)→B0b (D9 i L l).1 (j+l.length)
 |[],i,j,L,h,_=>h
 |x::r,i,j,L,h,b=>by
  unfold D9
  split
  ·rename_i c
   have:=A3a r (i+1) (j+1) _ (A98 L x j h (b x (List.mem_cons_self)) c) (fun y a=>b y (List.mem_cons_of_mem _ a))
   rw[List.length_cons,show j+(r.length+1)=j+1+r.length by omega]
   exact this
  ·exact⟨Nat.zero_le _,fun y a=>by cases a⟩
theorem L6 (s:ByteArray):B0b (A7 s).1 8000:=by
 unfold A7;split
 ·exact⟨Nat.zero_le _,fun y a=>by cases a⟩
 ·rename_i c;have h:=A3a (F6 s) 0 0 [] ⟨Nat.le_refl _,fun y a=>by cases a⟩ (fun x b=>by have:=A2C s x b;omega);have d:=A1m s;exact⟨Nat.le_trans h.1 O,fun y a=>by have:=h.2 y a;exact⟨this.1,this.2.1,by have:=this.2.2;omega⟩⟩
def IxP (w:World)(base X:Nat)(R:List S2)(k W sc:Nat):Prop:=
 ∃rv Hb V,w.heap[X]?=some (.cells (ixC k W sc rv (.map (some Hb))) 147 (0,0))∧A3 w base 88 2 rv R.length (B3 R)∧HtP w base Hb 4000 V (D6 k W R R.length)∧base≤X∧base≤Hb
theorem IxP.kept {w w':World}{base X:Nat}{R:List S2}{k W sc:Nat}(h:IxP w base X R k W sc)(a:∀g,g<w.heap.size→w'.heap[g]?=w.heap[g]?):IxP w' base X R k W sc:=by
 obtain⟨b,c,V,h1,d,f,i⟩:=h;exact⟨b,c,V,(a _ (lt_of_block h1)).trans h1,d.other (fun g _ j=>a g j),f.kept a,i⟩
def A0M (s:ByteArray)(k W:Int)(sc:Nat):Int×Int:=
 if J1 k W sc=true then (if (A7 s).2.1=0 then (G0 (A7 s).1,0) else (((A7 s).2.1:Nat),((A7 s).2.2:Nat))) else (6,0)
def A6a (L:List W3)(w:World)(e:Ending)(w':World):Prop:=∃v,e=.returned v∧Below w.heap.size w w'∧A3 w' w.heap.size 99 3 v L.length (A6 L)
theorem A35 (L:List W3):∀u∈A6 L,u.oneCell'=true:=by
 intro u hu;obtain⟨x,_,a⟩:=List.mem_flatMap.1 (show u∈L.flatMap _ from hu);simp only[W3.cells,List.mem_cons,List.not_mem_nil,or_false]at a;rcases a with rfl|rfl|rfl<;>rfl
theorem A6F {P:Program}(w:World){ops:Array Oper}{rest:List Oper}{o:Oper}{a:Act}{Q:Exit→Act→World→Prop}(b:o.guard=none)(s x:Operand)(t:TypeId)
 (c:o.op=Op.call {callee:=Callee.builtin Builtin.append,args:=#[s,x],argTypes:=#[t,t]})(v1 v2 v':Value)(w':World)(hs:a.eval s=v1)(d:a.eval x=v2)
 (f:(Builtin.append_ #[t,t] o.type #[v1,v2]).run P w=.ok v' w')(g:wpList P ops Q rest (a.put o.dst v') w'):wpList P ops Q (o::rest) a w:=by
 refine wpList_plain b fun K h=>?_;unfold Oper.wp;simp[execOp,c,resolve,invoke,builtin,hs,d,f,Result.andThen];exact h _ _ g
theorem A63 (L:List W3)(base:Nat)(v:Value)(w:World)(l:L.length≤100000)(d:A3 w base 99 3 v L.length (A6 L)) :
 Calls Tryz.prog 72 #[v] w fun e w'=>A6a L w e w':=by
 obtain⟨i0,hi,m,p,q⟩:=info_parts Tryz.info99x;rcases d.2 with⟨rfl,r⟩|⟨g,o,cap,cur,rfl,z,a,s,hm,hs,f⟩
 ·obtain rfl:L=[]:=List.eq_nil_of_length_eq_zero r;have heq:=fun W=>Lib.run_eql_slice_nil (P:=Tryz.prog) W 102 99 none 0 0 0 0 Tryz.underlying102;go_enter Tryz.func72,Tryz.ntmps72;go_wp2_with fail;go_ret;exact⟨_,rfl,Below.refl _ _,A3.nil _ _ _ _⟩
 ·obtain⟨n,b⟩:=A8 L.length;rw[←b]at l s d⊢;have A:=A4 f;have t:=A4 b;have B:=A4 a;have C:=lt_of_block a;have heq:=fun W=>Lib.run_eql_slice_nil (P:=Tryz.prog) W 102 99 (some ⟨g,o,none⟩) n cap 0 0 Tryz.underlying102;have hlen:(A6 L).length=n*3:=by rw[b];exact d.1.trans (by rw[b])
  obtain⟨v',w',x,h,i,_⟩:=run_append_own (P:=Tryz.prog) (w.alloc (.cells #[] 99)) w.heap.size 102 102 99 i0 _ 3 24 Tryz.underlying102 hi m p q rfl Z
   (.slice (some ⟨w.heap.size,0,none⟩) 0 0) 0 [] ⟨Zs,Or.inr ⟨w.heap.size,0,#[],rfl,Nat.le_refl _,heap_alloc_new w _,Nat.le_refl _,by unfold maxLen;omega,Zs,Zs⟩⟩ ⟨g,o,none⟩ n cap (A6 L) hlen
   (fun j u k=>by rw[Addr.add_lit];exact A1 ((Below.heap_alloc w _ g (lt_of_block a)).trans a) (f j u k)) (A35 L) (by unfold maxLen;omega) O Zs
  have y:=A4 h;have c:=A4 i;clear f d a b hlen h i;go_enter Tryz.func72,Tryz.ntmps72;go_wp2_with (at_builtin;refine A6F _ rfl (.tmp 5) (.tmp 6) 102 rfl _ _ v' w' rfl rfl x ?_);go_ret;refine⟨v',rfl,?_,?_⟩
  ·have h1:Below w.heap.size w (w.alloc (.cells #[] 99)):=(Below.refl _ w).alloc (Nat.le_refl _) _;refine h1.trans ⟨c.o.os,c.o.tape,c.o.output,c.o.size,fun j k=>c.o.block j Zo (by simp[Value.ownBlock];omega)⟩
  ·rw[←t.o];have:=A3.of_ownsRow y.o (Nat.le_refl _);simpa using this
theorem A7m (R:List S2)(base X k W sc:Nat)(h:Int)(a:okI h)(w:World)(g:1≤k)(i:k≤12)(j:1≤W)(l:∀x∈R,good x.b)(r:C7 R R.length≤4000)(m:IxP w base X R k W sc) :
 Calls Tryz.prog 45 #[.pointer (some ⟨X,0,none⟩),I J h] w fun e w'=>A6a (D6 k W R R.length h) w e w':=by
 obtain⟨s,n,V,d,hO,c,_,_⟩:=m;have o:=c.look A4O Tryz.underlying145 (A3v w) a (A81 h a);have t:=Y4 g i j R l R.length (Nat.le_refl _) h;have f:=A63 (D6 k W R R.length h) base (V h) w O (c.own h a);have u:w.cell? ⟨X,4,none⟩=some (.map (some n)):=A1 d rfl;obtain⟨y,z,p⟩:=(c.own h a).form;rw[p]at o f;generalize (D6 k W R R.length h)=L at *;clear d hO c;go_enter Tryz.func45,Tryz.ntmps45;go_wp2_with fail;refine f.mono ?_;rintro e w1 ⟨v,rfl,q,ho⟩;go_wp2;go_ret;exact⟨v,rfl,q,ho⟩
end
section
open Go.RowKit
structure BhI (b0 b1 b2 b4:Value)(w0:World)(base Bb k n:Nat)(v0 wv0:Value)(E:List (Value×Int))(vs:List Value)(c:Nat)(lv wv:Value)(w:World):Prop where
 book:w.heap[Bb]?=some (Obj.cells #[b0,b1,b2,wv,b4] 40 (0,0))
 ent:A3 w base 121 2 wv (E.length+vs.length) (D7 (E++vs.map fun v=>(v,(k:Int))))
 cur:A3 w base 99 3 lv (n+c) (A6 (marks (n+c) k))
 sl:∀v∈vs,∃i,i≤c∧A3 w base 99 3 v (n+i) (A6 (marks (n+i) k))∧∀g,v.ownBlock=some g→lv.ownBlock=some g→A0I v=A0I lv
 mark:w.heap[w0.heap.size]?=some (Obj.cells #[I J (-1-(k:Int)),I J 0,.bool false] 99 (0,0))
 nm:∀v,v=lv∨v∈vs→v.ownBlock≠some w0.heap.size∧∀g,v.ownBlock=some g→v0.ownBlock=some g∨w0.heap.size<g
 nw:∀g,wv.ownBlock=some g→wv0.ownBlock=some g∨w0.heap.size<g
 os:w.os=w0.os
 tape:w.tape=w0.tape
 output:w.output=w0.output
 size:w0.heap.size<w.heap.size
 other:∀q,q<w0.heap.size→q≠Bb→wv0.ownBlock≠some q→v0.ownBlock≠some q→w.heap[q]?=w0.heap[q]?
section
variable {b0 b1 b2 b4:Value}
theorem A6H (n k:Nat):A6 (marks n k)++[I J (-1-(k:Int)),I J 0,.bool false]=A6 (marks (n+1) k):=by
 unfold marks
 rw[List.replicate_succ',L5]
 rfl
theorem BhI.grow {m w1 w2:World}{base x k n c g' o' cap':Nat}{v0 y f z:Value}{E:List (Value×Int)}{A:List Value}{ob:Obj}{w:World}(h:BhI b0 b1 b2 b4 m base x k n v0 y E A c f z w)(R:base≤m.heap.size)(S:x<m.heap.size)
 (B:w1.heap=(w.alloc ob).heap)(ho:w1.os=w.os)(ht:w1.tape=w.tape)(K:w1.output=w.output)
 (L:A3 w2 base 99 3 (.slice (some ⟨g',o',none⟩) (n+c+1) cap') (n+c+1) (A6 (marks (n+c) k)++[I J (-1-(k:Int)),I J 0,.bool false]))(b:A0p w1 w2 f (n+c) 3 g' o') :
 BhI b0 b1 b2 b4 m base x k n v0 y E A (c+1) (.slice (some ⟨g',o',none⟩) (n+c+1) cap') z w2:=by
 have T:w1.heap.size=w.heap.size+1:=by rw[B];simp
 have M:=h.size
 have hold:∀q,q<w.heap.size→w1.heap[q]?=w.heap[q]?:=fun q l=>by rw[B];exact Below.heap_alloc _ _ _ l
 have C:∀q cs t,t≠99→w.heap[q]?=some (Obj.cells cs t (0,0))→w2.heap[q]?=some (Obj.cells cs t (0,0)):=fun q cs t N l=>by
  have p:=lt_of_block l
  rw[b.fr.other q O (h.cur.tag N l),hold q p]
  exact l
 have V:∀g,f.ownBlock=some g→g<w.heap.size:=fun g j=>(h.cur.lt j).2
 refine⟨C _ _ _ Z h.book,?_,?_,?_,?_,?_,h.nw,b.fr.os.trans (ho.trans h.os),b.fr.tape.trans (ht.trans h.tape),b.fr.output.trans (K.trans h.output),by have:=b.fr.size;omega,?_⟩
 ·refine h.ent.other (fun g j p=>?_)
  obtain⟨_,P⟩:=h.ent
  rcases P with⟨rfl,_⟩|⟨g2,W,X,Y,rfl,_,r,_⟩
  ·simp[Value.ownBlock]at j
  ·simp only[Value.ownBlock,Option.some.injEq]at j
   subst j
   rw[C _ _ _ Z r,r]
 ·rw[←Nat.add_assoc,←A6H]
  exact L
 ·intro v o
  obtain⟨i,hi,D,F⟩:=h.sl v o
  refine⟨i,O,(D.other (fun g _ p=>hold g p)).app b (fun g s u=>?_),?_⟩
  ·have:=F g s u
   have:n+i≤n+c:=O
   have:=Nat.mul_le_mul_right 3 this
   omega
  ·intro g s u
   simp only[Value.ownBlock,Option.some.injEq]at u
   subst u
   show A0I v=o'
   rcases b.fr.new with d|d
   ·rw[F g' s d,b.off d]
   ·have:=(D.lt s).2
    omega
 ·have Q:f.ownBlock≠some m.heap.size:=(h.nm f (Or.inl rfl)).1
  rw[b.fr.other _ O Q,hold _ M]
  exact h.mark
 ·intro v o
  rcases o with rfl|o
  ·constructor
   ·intro he
    simp only[Value.ownBlock,Option.some.injEq]at he
    rcases b.fr.new with d|d
    ·exact(h.nm f (Or.inl rfl)).1 (by rw[d,he])
    ·omega
   ·intro g j
    simp only[Value.ownBlock,Option.some.injEq]at j
    subst j
    rcases b.fr.new with d|d
    ·exact(h.nm f (Or.inl rfl)).2 _ d
    ·right;omega
  ·exact h.nm v (Or.inr o)
 ·intro q l h1 r G
  rw[b.fr.other q O (fun he=>?_),hold q O]
  ·exact h.other q l h1 r G
  ·rcases (h.nm f (Or.inl rfl)).2 q he with H|H
   ·exact G H
   ·omega
theorem BhI.note {r w1 w2:World}{base p k n c g' o' cap':Nat}{v0 z j A:Value}{E:List (Value×Int)}{b:List Value}{ob:Obj}{w:World}(h:BhI b0 b1 b2 b4 r base p k n v0 z E b c j A w)(Q:base≤r.heap.size)(R:p<r.heap.size)
 (B:w1.heap=(w.alloc ob).heap)(ho:w1.os=w.os)(ht:w1.tape=w.tape)(H:w1.output=w.output)
 (C:A3 w2 base 121 2 (.slice (some ⟨g',o',none⟩) (E.length+b.length+1) cap') (E.length+b.length+1) (D7 (E++b.map fun v=>(v,(k:Int)))++[j,I J k]))(l:A0p w1 w2 A (E.length+b.length) 2 g' o') :
 BhI b0 b1 b2 b4 r base p k n v0 z E (b++[j]) c j (.slice (some ⟨g',o',none⟩) (E.length+b.length+1) cap') (w2.setCell ⟨p,3,none⟩ (.slice (some ⟨g',o',none⟩) (E.length+b.length+1) cap')):=by
 have S:w1.heap.size=w.heap.size+1:=by rw[B];simp
 have T:=h.size
 have hold:∀q,q<w.heap.size→w1.heap[q]?=w.heap[q]?:=fun q m=>by rw[B];exact Below.heap_alloc _ _ _ m
 have s:∀q cs t,t≠121→w.heap[q]?=some (Obj.cells cs t (0,0))→w2.heap[q]?=some (Obj.cells cs t (0,0)):=fun q cs t K m=>by
  have D:=lt_of_block m
  rw[l.fr.other q O (h.ent.tag K m),hold q D]
  exact m
 have d:=E1.of_setCell (i:=3) (.slice (some ⟨g',o',none⟩) (E.length+b.length+1) cap') (s _ _ _ Z h.book)
 have x:∀u y xs,A3 w base 99 3 u y xs→A3 (w2.setCell ⟨p,3,none⟩ (.slice (some ⟨g',o',none⟩) (E.length+b.length+1) cap')) base 99 3 u y xs:=fun u y xs hu=>by
  refine hu.other (fun g f D=>?_)
  obtain⟨_,L⟩:=hu
  rcases L with⟨rfl,_⟩|⟨g2,V,W,X,rfl,_,o,_⟩
  ·simp[Value.ownBlock]at f
  ·simp only[Value.ownBlock,Option.some.injEq]at f
   subst f
   rw[d.other _ (fun e=>by subst e;rw[h.book]at o;simp at o),s _ _ _ Z o,o]
 refine⟨d.here,?_,x _ _ _ h.cur,?_,?_,?_,?_,d.os.trans (l.fr.os.trans (ho.trans h.os)),d.tape.trans (l.fr.tape.trans (ht.trans h.tape)),d.output.trans (l.fr.output.trans (H.trans h.output)),by rw[d.size];have:=l.fr.size;omega,?_⟩
 ·have e1:D7 (E++(b++[j]).map fun v=>(v,(k:Int)))=D7 (E++b.map fun v=>(v,(k:Int)))++[j,I J k]:=by
   rw[List.map_append,←List.append_assoc,A1h]
   rfl
  rw[e1,List.length_append,show E.length+(b.length+[j].length)=E.length+b.length+1 by simp;omega]
  exact C.other (fun g f _=>d.other g (fun e=>by
   subst e
   exact C.tag Z (s _ _ _ Z h.book) f))
 ·intro v a
  rw[List.mem_append]at a
  rcases a with a|a
  ·obtain⟨i,hi,M,N⟩:=h.sl v a
   exact⟨i,hi,x _ _ _ M,N⟩
  ·simp only[List.mem_singleton]at a
   subst a
   exact⟨c,Nat.le_refl _,x _ _ _ h.cur,fun _ _ _=>rfl⟩
 ·rw[d.other _ O]
  exact s _ _ _ Z h.mark
 ·intro v a
  rcases a with rfl|a
  ·exact h.nm v (Or.inl rfl)
  ·rw[List.mem_append]at a
   rcases a with a|a
   ·exact h.nm v (Or.inr a)
   ·simp only[List.mem_singleton]at a
    subst a
    exact h.nm v (Or.inl rfl)
 ·intro g f
  simp only[Value.ownBlock,Option.some.injEq]at f
  subst f
  rcases l.fr.new with F|F
  ·exact h.nw _ F
  ·right;omega
 ·intro q m h1 o P
  rw[d.other q h1,l.fr.other q O (fun he=>?_),hold q O]
  ·exact h.other q m h1 o P
  ·rcases h.nw q he with G|G
   ·exact o G
   ·omega
end
theorem A3.set3h {w:World}{base g o n cap:Nat}{X:List W3}(h:A3 w base 99 3 (.slice (some ⟨g,o,none⟩) n cap) n (A6 X))(u:X.length=n)(j:Nat)(v:j<n)(y:W3) :
 A3 (((w.setCell ⟨g,o+j*3,none⟩ (I J y.h)).setCell ⟨g,o+j*3+1,none⟩ (I J y.p)).setCell ⟨g,o+j*3+2,none⟩ (.bool y.b)) base 99 3 (.slice (some ⟨g,o,none⟩) n cap) n (A6 (X.set j y)):=by
 obtain⟨a,h⟩:=h;refine⟨by rw[L4]at a⊢;rw[List.length_set];exact a,?_⟩;rcases h with⟨h,_⟩|⟨g',o',cap',cur,he,h1,l,c,m,d,f⟩
 ·simp at h
 ·simp only[Value.slice.injEq,Option.some.injEq,Addr.mk.injEq,and_true,true_and]at he;obtain⟨⟨rfl,rfl⟩,rfl⟩:=he;have r:=((E1.of_setCell (i:=o+j*3) (I J y.h) l).setCell (i:=o+j*3+1) (I J y.p)).setCell (i:=o+j*3+2) (.bool y.b);refine Or.inr ⟨g,o,cap,_,rfl,h1,r.here,c,m,by simpa using d,?_⟩;rw[A7r]at f⊢;intro q s;rw[List.length_set]at s;have x:o+n*3≤cur.size:=Nat.le_trans (Nat.add_le_add_left (Nat.mul_le_mul_right 3 c) o) d;by_cases k:q=j
  ·subst k;simp only[List.getElem_set_self];refine⟨?_,?_,?_⟩
   ·rw[Array.getElem?_setIfInBounds_ne O,Array.getElem?_setIfInBounds_ne O,show o+3*q=o+q*3 by omega,Array.getElem?_setIfInBounds_self_of_lt O]
   ·rw[Array.getElem?_setIfInBounds_ne O,show o+(3*q+1)=o+q*3+1 by omega,Array.getElem?_setIfInBounds_self_of_lt Zo]
   ·rw[show o+(3*q+2)=o+q*3+2 by omega,Array.getElem?_setIfInBounds_self_of_lt Zo]
  ·have t:j≠q:=fun h=>k h.symm;have:=f q O;rw[List.getElem_set_ne t];refine⟨?_,?_,?_⟩
   ·rw[Array.getElem?_setIfInBounds_ne O,Array.getElem?_setIfInBounds_ne O,Array.getElem?_setIfInBounds_ne O];exact this.1
   ·rw[Array.getElem?_setIfInBounds_ne O,Array.getElem?_setIfInBounds_ne O,Array.getElem?_setIfInBounds_ne O];exact this.2.1
   ·rw[Array.getElem?_setIfInBounds_ne O,Array.getElem?_setIfInBounds_ne O,Array.getElem?_setIfInBounds_ne O];exact this.2.2
theorem A3q (W:World)(x y:Value)(t:TypeId)(s:Nat)(hs:s=W.heap.size):∀j u,([x,y]:List Value)[j]?=some u→(W.alloc (.cells #[x,y] t)).cell? ((⟨s,0,none⟩:Addr).add j)=some u:=by
 intro j u a;subst hs;rw[Addr.add_lit,Nat.zero_add];refine A1 (heap_alloc_new W _) ?_;simpa using a
theorem A5v (a:Option Addr)(n c:Nat)(k:Int):∀u∈([.slice a n c,I J k]:List Value),u.oneCell'=true:=by
 intro u hu;simp at hu;rcases hu with rfl|rfl<;>rfl
theorem Tryz.info121x:(Tryz.prog.info? 121).map (fun i=>(i.zero,i.size,i.bytes))=some (some (.agg #[.slice none 0 0,I J 0]),2,32):=U
section
variable {b0 b1 b2 b4:Value}
theorem BhI.bookAt {g w1 w2:World}{base a k n c g' o':Nat}{v0 i j b:Value}{E:List (Value×Int)}{d:List Value}{ob:Obj}{w:World}(h:BhI b0 b1 b2 b4 g base a k n v0 i E d c j b w)
 (f:w1.heap=(w.alloc ob).heap)(l:A0p w1 w2 b (E.length+d.length) 2 g' o') :
 w2.heap[a]?=some (Obj.cells #[b0,b1,b2,b,b4] 40 (0,0)):=by
 have m:=lt_of_block h.book;have o:w1.heap.size=w.heap.size+1:=by rw[f];simp
 rw[l.fr.other a O (h.ent.tag Z h.book),f,Below.heap_alloc _ _ _ m];exact h.book
theorem A6M (b k n:Nat)(L:List W3)(hn:L.length=n)(E:List (Value×Int))(hE:E.length=k)(base:Nat)(v0 M:Value)(w:World)(hL:n<4398046511000)(hk:k≤100000000)(aa:base≤w.heap.size)
 (B:w.heap[b]?=some (.cells #[b0,b1,b2,M,b4] 40 (0,0)))
 (ab:A3 w base 121 2 M k (D7 E))
 (P:A3 w base 99 3 v0 n (A6 L)) :
 Calls Tryz.prog 47 #[.pointer (some ⟨b,0,none⟩),v0] w fun e w'=>e=.returned (.tuple #[])∧∃d lv C,d.length=4∧BhI b0 b1 b2 b4 w base b k n v0 M E d 3 lv C w':=by
 obtain⟨i0,hi,aL,aM,aN⟩:=info_parts Tryz.info99x;obtain⟨i8,ap,aq,ar,au⟩:=info_parts Tryz.info121x;obtain⟨s,wc,Q⟩:=ab.form;obtain⟨a,lc,aO⟩:=P.form;have c1:w.cell? ⟨b,3,none⟩=some M:=A1 B rfl;have R:=lt_of_block B;have HL:=A4 hn;have u:=A4 hE;have HB:=A4 B;have av:=A4 ab;have ac:=A4 P;have aw:v0.ownBlock≠some b:=P.tag Z B;have aP:=A4 aw;clear hn hE B ab P aw;subst Q aO;go_enter Tryz.func47,Tryz.ntmps47;go_wp2;go_loopw [6] (fun i wx=>∃j:Nat,j≤n∧i=I J j∧A3 wx base 99 3 (.slice a n lc) n (A6 (marks j k++L.drop j))∧Fr1 (w.alloc (.cells #[I J (-1-(k:Int)),I J 0,.bool false] 99)) wx (.slice a n lc)) (fun i _=>n-(intOf i).toNat);case atStart=>exact⟨0,Nat.zero_le _,rfl,ac.o.other (fun g _ m=>Below.heap_alloc _ _ _ m),⟨rfl,rfl,rfl,rfl,fun _ _ _=>rfl⟩⟩
 case round=>
  obtain⟨j,hj,rfl,z,S⟩:=hrel;have p:=A4 S;have ad:wr.heap.size=w.heap.size+1:=by rw[S.size];simp
  have ax:=A4 ad;have ae:(Value.slice a n lc).ownBlock≠some w.heap.size:=fun he=>by have:=(ac.o.lt he).2;omega
  have ay:=A4 ae;have D:wr.heap[w.heap.size]?=some (.cells #[I J (-1-(k:Int)),I J 0,.bool false] 99 (0,0)):=by
   rw[S.other _ Zs ae];exact heap_alloc_new w _
  have aQ:=A4 D;have m0:wr.cell? ⟨w.heap.size,0,none⟩=some (I J (-1-(k:Int))):=A1 D rfl;have m1:wr.cell? ⟨w.heap.size,1,none⟩=some (I J 0):=A1 D rfl;have m2:wr.cell? ⟨w.heap.size,2,none⟩=some (.bool false):=A1 D rfl;clear S ad ae D;by_cases az:j<n
  ·obtain⟨g,o,aR,f⟩:∃g o,a=some ⟨g,o,none⟩∧∃cur,wr.heap[g]?=some (.cells cur 99 (0,0))∧o+n*3≤cur.size:=by
    rcases z.2 with⟨_,h⟩|⟨g,o,cap,cur,h,_,h2,h3,_,h5,_⟩
    ·omega
    ·simp only[Value.slice.injEq]at h;exact⟨g,o,h.1,cur,h2,Nat.le_trans (Nat.add_le_add_left (Nat.mul_le_mul_right 3 h3) o) h5⟩
   subst aR;obtain⟨cur,x,aS⟩:=f;have aY:(j:Int)<n:=O;have aT:¬g=w.heap.size:=fun he=>ay.o (by simp[Value.ownBlock,he]);have aZ:¬w.heap.size=g:=fun he=>aT he.symm;obtain⟨y0,ba⟩:∃y,wr.cell? ⟨g,o+j*3,none⟩=some y:=⟨_,A1 x (Array.getElem?_eq_getElem O)⟩;obtain⟨y1,bb⟩:∃y,wr.cell? ⟨g,o+j*3+1,none⟩=some y:=⟨_,A1 x (Array.getElem?_eq_getElem O)⟩;obtain⟨y2,bc⟩:∃y,wr.cell? ⟨g,o+j*3+2,none⟩=some y:=⟨_,A1 x (Array.getElem?_eq_getElem O)⟩;have f0:wr.frozen? ⟨g,o+j*3,none⟩=false:=frozen_of_row _ _ _ _ _ x;have f1:wr.frozen? ⟨g,o+j*3+1,none⟩=false:=frozen_of_row _ _ _ _ _ x;have f2:wr.frozen? ⟨g,o+j*3+2,none⟩=false:=frozen_of_row _ _ _ _ _ x;have af:=z.set3h (by simp[marks];have:=HL.o;omega) j az ⟨-1-(k:Int),0,false⟩;rw[A8X L k j (by rw[HL.o];exact az)]at af;have aU:Hd _:=af;clear x aS af z;go_wp2;go_roundw;case rel=>
    refine⟨j+1,O,Zn,aU.o,⟨p.o.os,p.o.tape,p.o.output,by simpa using p.o.size,fun q F T=>?_⟩⟩;have ag:q≠g:=fun he=>T (by simp[Value.ownBlock,he]);rw[heap_setCell_other _ _ _ _ ag,heap_setCell_other _ _ _ _ ag,heap_setCell_other _ _ _ _ ag];exact p.o.other q F T
   case measure=>simp[intOf];omega
  ·obtain rfl:j=n:=O;have V:BhI b0 b1 b2 b4 w base b k j (.slice a j lc) (.slice s k wc) E [] 0 (.slice a j lc) (.slice s k wc) wr:=by
    have hd:L.drop j=[]:=List.drop_eq_nil_of_le (by rw[HL.o];exact Nat.le_refl _);rw[hd,List.append_nil]at z;have ah:∀q,q<w.heap.size→(Value.slice a j lc).ownBlock≠some q→wr.heap[q]?=w.heap[q]?:=fun q F T=>by
     rw[p.o.other q Zo T,Below.heap_alloc _ _ _ F]
    refine⟨(ah b R aP.o).trans HB.o,?_,z,Zs,aQ.o,?_,fun g f=>Or.inl f,p.o.os,p.o.tape,p.o.output,by have:=ax.o;omega,fun q F _ _ h3=>ah q F h3⟩
    ·have:A3 wr base 121 2 (.slice s k wc) k (D7 E):=av.o.other (fun g f m=>ah g m (fun he=>by
      obtain⟨_,hh⟩:=av.o;rcases hh with⟨h,_⟩|⟨g2,o2,ai,bd,h,_,h2,_⟩
      ·rw[h]at f;simp[Value.ownBlock]at f
      ·rw[h]at f;simp only[Value.ownBlock,Option.some.injEq]at f;subst f;exact ac.o.tag Z h2 he))
     simpa[u.o] using this
    ·intro v hv;rcases hv with rfl|hv
     ·exact⟨ay.o,fun g f=>Or.inl f⟩
     ·simp at hv
   have q1:wr.cell? ⟨b,3,none⟩=some (.slice s k wc):=A1 V.book rfl;have aA:=A4 V;have aB:A3 wr base 121 2 (.slice s k wc) k (D7 E):=by have:=V.ent;simpa[u.o] using this
   clear V z;go_wp2_with (at_builtin;go_must (refine P3 _ rfl (.tmp 30) (.tmp 34) 37 rfl 121 i8 _ 2 32 Tryz.underlying37 ap aq ar au rfl Z base (.slice s k wc) k (D7 E) rfl (by exact aB.other (fun g _ m=>Below.heap_alloc _ _ _ m)) ⟨wr.heap.size,0,none⟩ 1 [.slice a j lc,I J k] rfl rfl (by exact A3q _ _ _ _ _ rfl) (A5v _ _ _ _) (by unfold maxLen;omega) O (by simp;have:=ax.o;omega) ?_;intro g' o' cap' w2 aC aj;have ak:=aA.o.bookAt (w1:=wr.alloc (.cells #[.slice a j lc,I J k] 121)) rfl (by simpa[u.o] using aj);have r1:=A1 ak (i:=3) rfl;have r2:w2.frozen? ⟨b,3,none⟩=false:=frozen_of_row _ _ _ _ _ ak;clear ak));have al:BhI b0 b1 b2 b4 w base b k j (.slice a j lc) (.slice s k wc) E [.slice a j lc] 0 (.slice a j lc) (.slice (some ⟨g',o',none⟩) (k+1) cap') (w2.setCell ⟨b,3,none⟩ (.slice (some ⟨g',o',none⟩) (k+1) cap')):=by
    have:=aA.o.note (w1:=wr.alloc (.cells #[.slice a j lc,I J k] 121)) (w2:=w2) (g':=g') (o':=o') (cap':=cap') (ob:=.cells #[.slice a j lc,I J k] 121) aa R rfl rfl rfl rfl (by simpa[u.o] using aC) (by simpa[u.o] using aj);simpa[u.o] using this
   generalize w2.setCell ⟨b,3,none⟩ (.slice (some ⟨g',o',none⟩) (k+1) cap')=w3 at al⊢;have aV:=A4 al;clear al r1 r2 aj aC m0 m1 m2 q1 aB c1;go_loopw [1,7] (fun l i wx=>∃(t:Nat) (d:List Value) (W:Option Addr) (c:Nat) (C:Value),t≤3∧i=I J t∧l=.slice W (j+t) c∧d.length=t+1∧BhI b0 b1 b2 b4 w base b k j (.slice a j lc) (.slice s k wc) E d t (.slice W (j+t) c) C wx) (fun _ i _=>3-(intOf i).toNat);case atStart=>exact⟨0,_,a,lc,_,O,rfl,rfl,rfl,aV.o⟩
   case round=>
    obtain⟨t,d,W,c,C,ht,rfl,rfl,X,r⟩:=hrel;have aD:=A4 X;have aE:=A4 r;by_cases be:t<3
    ·have m0:wr.cell? ⟨w.heap.size,0,none⟩=some (I J (-1-(k:Int))):=A1 r.mark rfl;have m1:wr.cell? ⟨w.heap.size,1,none⟩=some (I J 0):=A1 r.mark rfl;have m2:wr.cell? ⟨w.heap.size,2,none⟩=some (.bool false):=A1 r.mark rfl;have aF:=r.cur;have ad:=r.size;obtain⟨wa,am,Q⟩:=r.ent.form;obtain⟨N,Y⟩:=A8 (E.length+d.length);have bf:N≤100000004:=by rw[Y,u.o,X];omega
     rw[←Y]at Q;subst Q;have G:=A4 Y;clear X r Y;go_wp2_with (first|(at_builtin;refine P3 _ rfl (.tmp 42) (.tmp 44) 102 rfl 99 i0 _ 3 24 Tryz.underlying102 hi aL aM aN rfl Z base (.slice W (j+t) c) (j+t) (A6 (marks (j+t) k)) rfl (by exact aF.other (fun g _ m=>Below.heap_alloc _ _ _ m)) ⟨wr.heap.size,0,none⟩ 1 [I J (-1-(k:Int)),I J 0,.bool false] rfl rfl (by exact A1p _ ⟨-1-(k:Int),0,false⟩ _ rfl) (J0 ⟨-1-(k:Int),0,false⟩) (by unfold maxLen;omega) O Zo ?_;intro g1 o1 A H aG aH;have K:=aE.o.grow (w1:=wr.alloc (.cells #[I J (-1-(k:Int)),I J 0,.bool false] 99)) (ob:=.cells #[I J (-1-(k:Int)),I J 0,.bool false] 99) aa R rfl rfl rfl rfl aG aH;have q1:H.cell? ⟨b,3,none⟩=some (.slice wa N am):=A1 K.book rfl;have bg:=K.size;have aW:A3 H base 121 2 (.slice wa N am) N (D7 (E++d.map fun v=>(v,(k:Int)))):=(by have:=K.ent;rw[←G.o]at this;exact this);have aI:=A4 K;clear K aG aH m0 m1 m2 aF)|(at_builtin;refine P3 _ rfl (.tmp 50) (.tmp 54) 37 rfl 121 i8 _ 2 32 Tryz.underlying37 ap aq ar au rfl Z base (.slice wa N am) N (D7 (E++d.map fun v=>(v,(k:Int)))) rfl (by exact aW.other (fun g _ m=>Below.heap_alloc _ _ _ m)) ⟨H.heap.size,0,none⟩ 1 [.slice (some ⟨g1,o1,none⟩) (j+t+1) A,I J k] rfl rfl (by exact A3q _ _ _ _ _ rfl) (A5v _ _ _ _) (by unfold maxLen;omega) O Zo ?_;intro g2 o2 ai w5 aX aJ;have an:=aI.o.bookAt (w1:=H.alloc (.cells #[.slice (some ⟨g1,o1,none⟩) (j+t+1) A,I J k] 121)) rfl (by rw[←G.o];exact aJ);have r1:=A1 an (i:=3) rfl;have r2:w5.frozen? ⟨b,3,none⟩=false:=frozen_of_row _ _ _ _ _ an;clear an));go_roundw;case rel=>
      refine⟨t+1,d++[.slice (some ⟨g1,o1,none⟩) (j+t+1) A],some ⟨g1,o1,none⟩,A,.slice (some ⟨g2,o2,none⟩) (N+1) ai,O,Zn,rfl,by rw[List.length_append,aD.o];rfl,?_⟩;have aK:=aI.o.note (w1:=H.alloc (.cells #[.slice (some ⟨g1,o1,none⟩) (j+t+1) A,I J k] 121)) (w2:=w5) (g':=g2) (o':=o2) (cap':=ai) (ob:=.cells #[.slice (some ⟨g1,o1,none⟩) (j+t+1) A,I J k] 121) aa R rfl rfl rfl rfl (by rw[←G.o];exact aX) (by rw[←G.o];exact aJ);rw[←G.o]at aK;exact aK
     case measure=>simp[intOf];omega
    ·obtain rfl:t=3:=O;clear X r;go_wp2;go_end0;exact⟨rfl,d,_,C,aD.o,aE.o⟩
end
end
end Mn
end Go.Proofs.YtilcmkiihefkkaaGreatDoor
