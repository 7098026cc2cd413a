import Derived.Test.YtilcmkiihefkkaaGreatDoorJf31
import Derived.Test.YtilcmkiihefkkaaGreatDoorJf38
import Derived.Test.YtilcmkiihefkkaaGreatDoorJf43
set_option linter.unusedVariables false
set_option linter.unusedSimpArgs false
set_option maxRecDepth 1000000
set_option maxHeartbeats 64000000
open Go.Value renaming int→I
open Go.IntKind renaming i64→J
namespace Go.Proofs.YtilcmkiihefkkaaGreatDoor
namespace Mn
section
open Go.RowKit Go.Shelf Go.Lib
structure FD where
 rd:ByteArray
 fr:Int
 tl:Int
 bk:Bool
 sn:ByteArray
 st:Int
 en:Int
 sq:Int
 oq:Int
 ql:Int
 sc:List UInt8
 sm:Nat
 id:Nat
def FD.cells (f:FD):List Value:=[.string f.rd,I J f.fr,I J f.tl,.bool f.bk,.string f.sn,I J f.st,I J f.en,.float .f64 (fq f.sq),.float .f64 (fq f.oq),I J f.ql,.string ⟨f.sc.toArray⟩,I J f.sm,.float .f64 f.id]
def shr (n m:Nat):Nat:=(floatBits .quo .f64 (fq (4*n)) (fq (4*m))).getD 0
theorem A0S (n m:Nat)(h:n≤m)(f:0<m)(g:m≤100000):floatBits .quo .f64 (fq (4*(n:Int))) (fq (4*(m:Int)))=some (shr n m)∧Ieee.double.order (shr n m) (shr n m)=some .eq:=by
 have i:(1048576:Nat)≤2^53:=Z;obtain⟨A,b,c⟩:=A4L (4*n) (4*m) O O O;have a:floatBits .quo .f64 (fq (4*(n:Int))) (fq (4*(m:Int)))=some A:=by
  have:=b;push_cast at this;exact this
 have e:shr n m=A:=by unfold shr;rw[a];rfl
 rw[e];refine⟨a,?_⟩;obtain⟨j,k,d,_,_⟩:=A1q A (2^52) (-52) (Nat.le_refl _) Z O O c;show(Ieee.double.read A).order (Ieee.double.read A)=_;rw[d];unfold Ieee.Datum.order;simp[compare,compareOfLessAndEq]
theorem A7d (s:Nat→Nat→Bool):∀(t:List Nat) (i j:Nat),A0V s t i j≤t.length
 |[],_,_=>Nat.le_refl _
 |l::t,i,j=>by
  unfold A0V
  have:=A7d s t (if l=2 then i else i-1) (if l=1 then j else j-1)
  simp only[List.length_cons]
  split<;>omega
theorem A5A (ps:List (Nat×Nat))(p:Nat×Nat):∀j,j≤ps.length→A0o (ps++[p]) j=A0o ps j
 |0,_=>rfl
 |j+1,h=>by
  show A0o (ps++[p]) j+((ps++[p]).getD j (0,0)).1=A0o ps j+(ps.getD j (0,0)).1
  rw[A5A ps p j O]
  congr 2
  simp[List.getD_eq_getElem?_getD,List.getElem?_append_left (show j<ps.length by omega)]
theorem A7K (ps:List (Nat×Nat))(p:Nat×Nat):A0o (ps++[p]) (ps++[p]).length=A0o ps ps.length+p.1:=by
 rw[List.length_append];show A0o (ps++[p]) ps.length+((ps++[p]).getD ps.length (0,0)).1=_;rw[A5A ps p ps.length (Nat.le_refl _)];simp[List.getD_eq_getElem?_getD]
theorem A9P (L:List Nat):∀k,A0o (rl L k).2 (rl L k).2.length=(rl L k).1
 |0=>rfl
 |k+1=>by
  have a:=A9P L k
  have b:=(W2 L k).1
  unfold rl
  split
  ·show A0o ((rl L k).2++[(k+1-(rl L k).1,L.getD k 9)]) ((rl L k).2++[(k+1-(rl L k).1,L.getD k 9)]).length=k+1
   rw[A7K,a]
   show(rl L k).1+(k+1-(rl L k).1)=k+1
   omega
  ·exact a
def X4 (a b:List UInt8):Nat:=(pth (_root_.Go.Proofs.YtilcmkiihefkkaaGreatDoor.nums a) (_root_.Go.Proofs.YtilcmkiihefkkaaGreatDoor.nums b)).length
def A1W (a b:List UInt8):List (Nat×Nat):=(rl (pth (_root_.Go.Proofs.YtilcmkiihefkkaaGreatDoor.nums a) (_root_.Go.Proofs.YtilcmkiihefkkaaGreatDoor.nums b)).reverse (pth (_root_.Go.Proofs.YtilcmkiihefkkaaGreatDoor.nums a) (_root_.Go.Proofs.YtilcmkiihefkkaaGreatDoor.nums b)).length).2
theorem A5D (a b:List UInt8):A0o (A1W a b) (A1W a b).length=X4 a b:=by
 unfold A1W X4;rw[A9P];have:=A9U (pth (_root_.Go.Proofs.YtilcmkiihefkkaaGreatDoor.nums a) (_root_.Go.Proofs.YtilcmkiihefkkaaGreatDoor.nums b)).reverse;rw[List.length_reverse]at this;exact this
theorem A5Q:∀(t:List Nat) (i j:Nat),ends t i j→i≤t.length
 |[],i,j,h=>by unfold ends at h;omega
 |l::t,i,j,h=>by
  unfold ends at h
  have:=A5Q t _ _ h.2.2.2
  simp only[List.length_cons]
  split at this<;>omega
theorem A1F (a b:List UInt8)(h:scE a b=0):X4 a b≤900∧a.length≤X4 a b∧scN a b≤X4 a b∧a.length≤300∧b.length≤600:=by
 have c:a.length≤300∧b.length≤600:=by
  unfold scE at h;split at h
  ·cases h
  ·omega
 have h1:X4 a b≤a.length+b.length:=by
  have:=A0x 1048576 (uN (_root_.Go.Proofs.YtilcmkiihefkkaaGreatDoor.nums a) (_root_.Go.Proofs.YtilcmkiihefkkaaGreatDoor.nums b)) ((_root_.Go.Proofs.YtilcmkiihefkkaaGreatDoor.nums a).length+(_root_.Go.Proofs.YtilcmkiihefkkaaGreatDoor.nums b).length) (_root_.Go.Proofs.YtilcmkiihefkkaaGreatDoor.nums a).length (_root_.Go.Proofs.YtilcmkiihefkkaaGreatDoor.nums b).length 0;unfold X4 pth;rw[_root_.Go.Proofs.YtilcmkiihefkkaaGreatDoor.nums_length,_root_.Go.Proofs.YtilcmkiihefkkaaGreatDoor.nums_length]at this⊢;exact this
 refine⟨O,?_,?_,c⟩
 ·have he:=A0M 1048576 O (uN (_root_.Go.Proofs.YtilcmkiihefkkaaGreatDoor.nums a) (_root_.Go.Proofs.YtilcmkiihefkkaaGreatDoor.nums b)) (A9O _ _) ((_root_.Go.Proofs.YtilcmkiihefkkaaGreatDoor.nums a).length+(_root_.Go.Proofs.YtilcmkiihefkkaaGreatDoor.nums b).length) (_root_.Go.Proofs.YtilcmkiihefkkaaGreatDoor.nums a).length (_root_.Go.Proofs.YtilcmkiihefkkaaGreatDoor.nums b).length 0 (by rw[_root_.Go.Proofs.YtilcmkiihefkkaaGreatDoor.nums_length];omega) (by rw[_root_.Go.Proofs.YtilcmkiihefkkaaGreatDoor.nums_length];omega) (Nat.le_refl _);have d:=A5Q _ _ _ he;have f:(_root_.Go.Proofs.YtilcmkiihefkkaaGreatDoor.nums a).length≤X4 a b:=d;rwa [_root_.Go.Proofs.YtilcmkiihefkkaaGreatDoor.nums_length]at f
 ·unfold scN;rw[if_pos h];exact A7d _ _ _ _
theorem A7t (a b:List UInt8)(h:scE a b=0):scT a b=G1 (A1W a b)∧(∀p∈A1W a b,p.1≤1000∧p.2≤2)∧(A1W a b).length≤1000∧(G1 (A1W a b)).length≤100000:=by
 have i:=A1F a b h;have hlen:(pth (_root_.Go.Proofs.YtilcmkiihefkkaaGreatDoor.nums a) (_root_.Go.Proofs.YtilcmkiihefkkaaGreatDoor.nums b)).length=X4 a b:=rfl;have f:∀p∈A1W a b,p.1≤1000∧p.2≤2:=by
  intro p c;have:=A1x (pth (_root_.Go.Proofs.YtilcmkiihefkkaaGreatDoor.nums a) (_root_.Go.Proofs.YtilcmkiihefkkaaGreatDoor.nums b)).reverse 900 (by rw[List.length_reverse];omega) (fun x d=>A1D _ _ _ _ _ _ x (List.mem_reverse.1 d)) (pth (_root_.Go.Proofs.YtilcmkiihefkkaaGreatDoor.nums a) (_root_.Go.Proofs.YtilcmkiihefkkaaGreatDoor.nums b)).length (by rw[List.length_reverse];exact Nat.le_refl _) p c;omega
 have j:(A1W a b).length≤900:=Nat.le_trans (A2U _ _) O;refine⟨by unfold scT;rw[if_pos h];rfl,f,O,?_⟩;have key:∀ps:List (Nat×Nat),(∀p∈ps,p.1≤1000)→(G1 ps).length≤5*ps.length:=by
  intro ps;induction ps with
  |nil=>intro _;simp[G1]
  |cons p t g=>
   intro c;have k:(decDigits p.1).length≤4:=dl4 ⟨p.1,by have:=c p (List.mem_cons_self);omega⟩;have:=g (fun x d=>c x (List.mem_cons_of_mem _ d));have e:G1 (p::t)=decDigits p.1++[Y8 p.2]++G1 t:=by simp[G1]
   rw[e];simp only[List.length_append,List.length_cons,List.length_nil];omega
 have:=key _ (fun p c=>(f p c).1);omega
end
section
open Go.RowKit Go.Shelf Go.Lib
attribute [local go_sem] C4
theorem A3h {w w1:World}(h:Lib.TabBelow Tryz.prog w.heap.size w "internal/strconv.uint64pow10" .u64 Lib.pow10Tab)(a:Below w.heap.size w w1):Lib.TabBelow Tryz.prog w1.heap.size w1 "internal/strconv.uint64pow10" .u64 Lib.pow10Tab:=
 fun w' b=>h w' (a.trans (b.mono a.size))
theorem C2 {P:Program}{fn:Func}{p u:Tmp}{ty:TypeId}(h:fn.results=#[.cell p ty,.tmp u])(tmps:Array Value)(w:World)(g:Nat)(t:TypeId)(cs:Array Value)(fr:Nat×Nat)(d:TypeDesc)
 (a:tmps.getD p undef=.pointer (some ⟨g,0,none⟩))(b:w.heap[g]?=some (.cells cs t fr))
 (hu:P.underlying ty=some d)(c:(match d with|.struct _|.array _ _=>true|_=>false)=true)(hi:(P.info? ty).map (·.size)=some cs.size) :
 (results fn tmps).run P w=.ok (.tuple #[.agg cs,tmps.getD u undef]) w:=by
 rw[results_cell_tmp h,a];simp[asAddr,Result.andThen,run_loadVar_row w g t ty cs fr d b hu c hi]
def A1X:Value:=.agg #[.string ⟨#[]⟩,I J 0,I J 0,.bool false,.string ⟨#[]⟩,I J 0,I J 0,.float .f64 0,.float .f64 0,I J 0,.string ⟨#[]⟩,I J 0,.float .f64 0]
def M7 (b:Bool)(s:ByteArray):ByteArray:=if b=true then⟨(F9 s.data.toList).toArray⟩ else s
theorem N0 (b:Bool)(s:ByteArray):(M7 b s).size=s.size:=by
 unfold M7;split
 ·show(F9 s.data.toList).toArray.size=_;simp[O5]
 ·rfl
def A2t (k:Nat)(rn rb fn fb:ByteArray)(back:Bool)(r0 p0 r1 p1:Nat)(sq oq:Int):FD:=
 let a:=((M7 back rb).extract r0 (r1+k)).data.toList
 let b:=(fb.extract p0 (p1+k)).data.toList
 {rd:=rn,fr:=if back=true then(rb.size:Int)-(r1+k) else r0,tl:=if back=true then(rb.size:Int)-r0 else r1+k,bk:=back,sn:=fn,st:=p0,en:=p1+k,sq:=sq,oq:=oq,ql:=Y1 sq oq,sc:=scT a b,sm:=scN a b,id:=shr (scN a b) (X4 a b)}
def fnE (k:Nat)(rb fb:ByteArray)(back:Bool)(r0 p0 r1 p1:Nat):Nat:=scE ((M7 back rb).extract r0 (r1+k)).data.toList (fb.extract p0 (p1+k)).data.toList
def FnP (k:Nat)(rn rb fn fb:ByteArray)(back:Bool)(r0 p0 r1 p1:Nat)(sq oq:Int)(w:World)(e:Ending)(w':World):Prop:=
 e=.returned (.tuple (if fnE k rb fb back r0 p0 r1 p1=0 then #[.agg (A2t k rn rb fn fb back r0 p0 r1 p1 sq oq).cells.toArray,.bool true] else #[A1X,.bool false]))∧Below w.heap.size w w'
theorem B2B (k:Nat)(rn rb fn g:ByteArray)(b c d f:Nat)(sq oq:Int)(la a:List UInt8)(h:la=((M7 false rb).extract b (d+k)).data.toList)(i:a=(g.extract c (f+k)).data.toList) :
 (A2t k rn rb fn g false b c d f sq oq).cells=[.string rn,I J (b),I J ((d:Int)+k),.bool false,.string fn,I J c,I J ((f:Int)+k),.float .f64 (fq sq),.float .f64 (fq oq),I J (Y1 sq oq),.string ⟨(scT la a).toArray⟩,I J (scN la a),.float .f64 (shr (scN la a) (X4 la a))]:=by
 subst h;subst i;rfl
theorem B2F (k:Nat)(rn rb fn g:ByteArray)(b c d f:Nat)(sq oq:Int)(la a:List UInt8)(h:la=((M7 true rb).extract b (d+k)).data.toList)(i:a=(g.extract c (f+k)).data.toList) :
 (A2t k rn rb fn g true b c d f sq oq).cells=[.string rn,I J ((rb.size:Int)-((d:Int)+k)),I J ((rb.size:Int)-(b:Int)),.bool true,.string fn,I J c,I J ((f:Int)+k),.float .f64 (fq sq),.float .f64 (fq oq),I J (Y1 sq oq),.string ⟨(scT la a).toArray⟩,I J (scN la a),.float .f64 (shr (scN la a) (X4 la a))]:=by
 subst h;subst i;rfl
theorem B2l (a0 o a2 a3 a4 a5 p q r a9 s t a12 a b c d f g h i j k l m n:Value):((((((((((((((#[a0,o,a2,a3,a4,a5,p,q,r,a9,s,t,a12].setIfInBounds 0 a).setIfInBounds 1 b).setIfInBounds 2 c).setIfInBounds 3 d).setIfInBounds 4 f).setIfInBounds 5 g).setIfInBounds 6 h).setIfInBounds 7 i).setIfInBounds 8 j).setIfInBounds 9 k).setIfInBounds 10 l).setIfInBounds 11 m).setIfInBounds 12 n))=#[a,b,c,d,f,g,h,i,j,k,l,m,n]:=by simp only[List.setIfInBounds_toArray,List.set_cons_zero,List.set_cons_succ]
theorem R7 {w:World}{g:Nat}{t:TypeId}{a0 s a2 a3 a4 a5 u v x a9 y z a12:Value}(a b c d f j k l m n o p q:Value)(h:w.heap[g]?=some (.cells #[a0,s,a2,a3,a4,a5,u,v,x,a9,y,z,a12] t (0,0))):D7 w (((((((((((((w.setCell ⟨g,0,none⟩ a).setCell ⟨g,1,none⟩ b).setCell ⟨g,2,none⟩ c).setCell ⟨g,3,none⟩ d).setCell ⟨g,4,none⟩ f).setCell ⟨g,5,none⟩ j).setCell ⟨g,6,none⟩ k).setCell ⟨g,7,none⟩ l).setCell ⟨g,8,none⟩ m).setCell ⟨g,9,none⟩ n).setCell ⟨g,10,none⟩ o).setCell ⟨g,11,none⟩ p).setCell ⟨g,12,none⟩ q) g (.cells #[a,b,c,d,f,j,k,l,m,n,o,p,q] t (0,0)):=by
 have A:=D7.of_setCell (i:=0) a h;have B:=A.setCell (i:=1) b;have C:=B.setCell (i:=2) c;have D:=C.setCell (i:=3) d;have E:=D.setCell (i:=4) f;have F:=E.setCell (i:=5) j;have G:=F.setCell (i:=6) k;have H:=G.setCell (i:=7) l;have K:=H.setCell (i:=8) m;have L:=K.setCell (i:=9) n;have M:=L.setCell (i:=10) o;have N:=M.setCell (i:=11) p;have r:=N.setCell (i:=12) q;rw[B2l]at r;exact r
end
section
open Go.RowKit Go.Shelf Go.Lib
def IsC (G:Int×Bool→List (Int×Int))(k:Int)(C:List Cd):Prop:=C.Pairwise (ltC (fun q=>D0 (G q) k))∧∀a,a∈C↔G (sd a)≠[]
def A9g (G:Int×Bool→List (Int×Int))(k:Int):List Cd→Int
 |_::b::_=>D0 (G (sd b)) k
 |_=>0
def A3k (R:List S2)(k sc:Nat)(rn rb:ByteArray)(G:Int×Bool→List (Int×Int))(C:List Cd):Option FD:=
 match C with
 |[]=>none
 |a::t=>
  if FloatKind.f64.format.order (fq (D0 (G (sd a)) k)) sc=some .lt then none
  else if fnE k rb (R.getD a.1.val S0).b a.2 (c0 (L8 k (G (sd a)))).1.toNat (c0 (L8 k (G (sd a)))).2.toNat (c1 (L8 k (G (sd a)))).1.toNat (c1 (L8 k (G (sd a)))).2.toNat=0 then
   some (A2t k rn rb (R.getD a.1.val S0).n (R.getD a.1.val S0).b a.2 (c0 (L8 k (G (sd a)))).1.toNat (c0 (L8 k (G (sd a)))).2.toNat (c1 (L8 k (G (sd a)))).1.toNat (c1 (L8 k (G (sd a)))).2.toNat (D0 (G (sd a)) k) (A9g G k (a::t)))
  else none
def A5W (R:List S2)(k W sc:Nat)(rn rb:ByteArray)(res:Option FD):Prop:=
 (300<rb.size∧res=none)∨(rb.size≤300∧400<(R3 k W R rb).1∧res=none)∨(rb.size≤300∧(R3 k W R rb).1≤400∧∃C,IsC (R3 k W R rb).2 k C∧res=A3k R k sc rn rb (R3 k W R rb).2 C)
def A0w:Option FD→Array Value
 |some f=>#[.agg f.cells.toArray,.bool true]
 |none=>#[A1X,.bool false]
def FiP (R:List S2)(k W sc:Nat)(rn rb:ByteArray)(w:World)(e:Ending)(w':World):Prop:=
 ∃res,A5W R k W sc rn rb res∧e=.returned (.tuple (A0w res))∧Below w.heap.size w w'
end
section
open Go.RowKit Go.Shelf Go.Lib
attribute [local go_sem] C4
theorem Tryz.info71x:(Tryz.prog.info? 71).map (fun i=>(i.zero,i.size,i.bytes))=some (some A1X,13,128):=U
def C0 (L:List FD):List Value:=L.flatMap FD.cells
theorem A1J (L:List FD)(f:FD):C0 (L++[f])=C0 L++f.cells:=by simp[C0]
def V6 (R:List S2)(k W sc:Nat)(P:List S2)(rs:List (Option FD)):Prop:=∀j,j<rs.length→A5W R k W sc (P.getD j S0).n (P.getD j S0).b (rs.getD j none)
theorem V6.snoc {R:List S2}{k W sc:Nat}{P:List S2}{rs:List (Option FD)}(h:V6 R k W sc P rs)(r:Option FD)(c:A5W R k W sc (P.getD rs.length S0).n (P.getD rs.length S0).b r):V6 R k W sc P (rs++[r]):=by
 intro j d;simp only[List.length_append,List.length_cons,List.length_nil]at d;by_cases a:j<rs.length
 ·have:=h j a;simpa[List.getD_eq_getElem?_getD,List.getElem?_append_left a] using this
 ·have e:j=rs.length:=O;subst e;simpa[List.getD_eq_getElem?_getD] using c
def A93 (R:List S2)(k W sc:Nat)(s:ByteArray)(w:World)(e:Ending)(w':World):Prop:=
 ∃v,e=.returned (.tuple #[v,I J (A7 s).2.1,I J (A7 s).2.2])∧Below w.heap.size w w'∧((A7 s).2.1≠0→v=.slice none 0 0)∧
  ((A7 s).2.1=0→∃rs:List (Option FD),rs.length=(A7 s).1.length∧V6 R k W sc (A7 s).1 rs∧A3 w' w.heap.size 71 13 v (rs.filterMap id).length (C0 (rs.filterMap id)))
theorem A3a (W:World)(f:FD)(s:Nat)(hs:s=W.heap.size):∀j u,(f.cells)[j]?=some u→(W.alloc (.cells #[.string f.rd,I J f.fr,I J f.tl,.bool f.bk,.string f.sn,I J f.st,I J f.en,.float .f64 (fq f.sq),.float .f64 (fq f.oq),I J f.ql,.string ⟨f.sc.toArray⟩,I J f.sm,.float .f64 f.id] 71)).cell? ((⟨s,0,none⟩:Addr).add j)=some u:=by
 intro j u a;subst hs;rw[Addr.add_lit,Nat.zero_add];refine A1 (heap_alloc_new W _) ?_;simpa[FD.cells] using a
theorem B0p (f:FD):∀u∈f.cells,u.oneCell'=true:=by
 intro u hu;simp[FD.cells]at hu;rcases hu with rfl|rfl|rfl|rfl|rfl|rfl|rfl|rfl|rfl|rfl|rfl|rfl|rfl<;>rfl
def FdC (R:List S2)(base X k W sc:Nat)(w:World):Prop:=∀(w1:World) (rn rb:ByteArray),Below w.heap.size w w1→rb.size≤140737488351232→good rb→
 Calls Tryz.prog 52 #[.pointer (some ⟨X,0,none⟩),.agg #[.string rn,.string rb]] w1 fun e w'=>FiP R k W sc rn rb w1 e w'
theorem B16 (R:List S2)(base X k W sc:Nat)(s:ByteArray)(w:World)(hs:s.size≤140737488351232)(H:FdC R base X k W sc w) :
 Calls Tryz.prog 21 #[.pointer (some ⟨X,0,none⟩),.string s] w fun e w'=>A93 R k W sc s w e w':=by
 obtain⟨i0,hi,ak,al,am⟩:=info_parts Tryz.info71x;have K:=A4 (Q2 s);have d:∀A,_:=fun A=>A2a s A hs;by_cases he:(A7 s).2.1=0
 ·have L:(A7 s).2.2=0:=by
   by_cases h8:8000<s.size
   ·unfold A7 at he;rw[if_pos h8]at he;cases he
   ·unfold A7 at he⊢;rw[if_neg h8]at he⊢;exact M9 _ _ _ he
  have B:Hd (∀v w' rs,Below w.heap.size w w'→rs.length=(A7 s).1.length→V6 R k W sc (A7 s).1 rs→A3 w' w.heap.size 71 13 v (rs.filterMap id).length (C0 (rs.filterMap id))→A93 R k W sc s w (.returned (.tuple #[v,I J 0,I J 0])) w'):=by
   intro v w' rs h1 q h3 h4;refine⟨v,by rw[he,L];rfl,h1,fun h=>absurd he h,fun _=>⟨rs,q,h3,h4⟩⟩
  rw[he,L]at d;obtain⟨P,hP⟩:=A8 ((A7 s).1);rw[←hP]at d K B;clear he L hP;have HC:=A4 H;clear H;go_enter Tryz.func21,Tryz.ntmps21;go_wp2_with fail;refine(d w).mono ?_;rintro e w2 ⟨v,rfl,l,_,r⟩;obtain⟨ao,cp,rfl⟩:=l.form;obtain⟨n,C⟩:=A8 P.length;have HN:=A4 C;rw[←C]at l⊢;have aA:n≤8000:=by rw[C];exact K.o.1
  have HO:=A4 l;have p:=A4 r;have an:n≠0→∃g o,ao=some ⟨g,o,none⟩∧g<w2.heap.size:=by
   intro h0;rcases l.2 with⟨_,h'⟩|⟨g,o,cap,cur,h,_,M,_⟩
   ·exact absurd h' h0
   ·simp only[Value.slice.injEq]at h;exact⟨g,o,h.1,lt_of_block M⟩
  clear l r C d;go_wp2_with fail;go_loopw [10,27] (fun tv i wr=>∃(j:Nat) (rs:List (Option FD)),j≤n∧i=I J j∧rs.length=j∧V6 R k W sc P rs∧A3 wr w.heap.size 71 13 tv (rs.filterMap id).length (C0 (rs.filterMap id))∧Below w2.heap.size w2 wr∧(rs.filterMap id).length≤j∧(∀g,tv.ownBlock=some g→w2.heap.size≤g)) (fun _ i _=>n-(RowKit.intOf i).toNat);case atStart=>exact⟨0,[],Nat.zero_le _,rfl,rfl,fun j hj=>absurd hj (Nat.not_lt_zero _),A3.nil _ _ _ _,Below.refl _ _,Nat.le_refl _,fun g M=>by cases M⟩
  case round=>
   obtain⟨j,rs,hj,rfl,ab,ac,t,ad,ap,ae⟩:=hrel;have N:=A4 ac;have aq:=A4 t;have c:=A4 ad;have ar:=A4 ae;have u:=A4 ab;obtain⟨m,hm⟩:=A8 ((rs.filterMap id).length);have D:=A4 hm;rw[←hm]at ap t;obtain⟨at',Q,hu⟩:=t.form;subst hu;clear ac ad ae hm ab;by_cases aB:j<n
   ·obtain⟨g,o,rfl,aC⟩:=an O;have af:j<P.length:=by have:=HN.o;omega
    have hc:=(HO.o.other (w':=wr) (fun g' _ au=>c.o.block g' au)).seqs j af;obtain⟨x,E⟩:=A8 (P[j]);rw[←E]at hc;obtain⟨d0,d1⟩:=hc;have av:x∈P:=by rw[E];exact List.getElem_mem _
    have S:=K.o.2 x av;have HX:Hd (P.getD j S0=x):=by show _=_;rw[C1 _ _ _ af,E]
    have T:Below w.heap.size w wr:=p.o.trans (c.o.mono p.o.size);have cF:=fun A aw=>HC.o A x.n x.b aw (by have:=S.2.2;omega) S.1;clear E S;go_wp2_with fail;refine(cF _ (T.alloc T.size _)).mono ?_;rintro e y ⟨res,ag,rfl,ah⟩;have ai:=A4 ag;have F:Below wr.heap.size wr y:=((Below.refl _ wr).alloc (Nat.le_refl _) _).trans (ah.mono Zs);have z:=A4 F;have V:A3 y w.heap.size 71 13 (.slice at' m Q) m (C0 (rs.filterMap id)):=t.other (fun g' _ a=>F.block g' a);have Y:Hd (∀g,(Value.slice at' m Q).ownBlock=some g→w2.heap.size≤g∧g<y.heap.size):=fun g' a=>⟨ar.o g' a,(V.lt a).2⟩;have aD:w.heap.size≤y.heap.size:=Nat.le_trans T.size F.size;clear cF ag ah F t d0 d1;cases res with
    |none=>
     simp only[A0w,A1X];go_wp2;go_roundw;case rel=>
      refine⟨j+1,rs++[none],O,Zn,by simp[u.o],V6.snoc N.o none (by rw[u.o,HX.o];exact ai.o),?_,?_,?_,?_⟩
      ·have e:(rs++[none]).filterMap id=rs.filterMap id:=Zs;rw[e,←D.o];exact V.other (fun g' _ a=>Below.heap_alloc _ _ _ a)
      ·exact(c.o.trans (z.o.mono c.o.size)).alloc (Nat.le_trans c.o.size z.o.size) _
      ·have e:(rs++[none]).filterMap id=rs.filterMap id:=Zs;rw[e,←D.o];omega
      ·exact fun g' a=>(Y.o g' a).1
     case measure=>simp[RowKit.intOf];omega
    |some f=>
     simp only[A0w,FD.cells];go_wp2_with (at_builtin;refine B5 _ rfl (.tmp 38) (.tmp 40) 66 rfl 71 i0 _ 13 128 Tryz.underlying66 hi ak al am rfl Z w.heap.size (.slice at' m Q) m (C0 (rs.filterMap id)) rfl (by exact(V.other (fun g' _ a=>Below.heap_alloc _ _ _ a)).other (fun g' _ a=>Below.heap_alloc _ _ _ a)) ⟨y.heap.size+1,0,none⟩ 1 f.cells rfl rfl (by exact A3a _ f _ Zs) (B0p f) (by unfold maxLen;omega) O Zo ?_;intro g' o' cap' w8 ax aj);go_roundw;case rel=>
      have e:(rs++[some f]).filterMap id=rs.filterMap id++[f]:=Zs;refine⟨j+1,rs++[some f],O,Zn,by simp[u.o],V6.snoc N.o (some f) (by rw[u.o,HX.o];exact ai.o),?_,?_,?_,?_⟩
      ·rw[e,A1J,List.length_append,←D.o];exact ax
      ·have h1:=((c.o.trans (z.o.mono c.o.size)).alloc (Nat.le_trans c.o.size z.o.size) (Obj.cells #[.string f.rd,I J f.fr,I J f.tl,.bool f.bk,.string f.sn,I J f.st,I J f.en,.float .f64 (fq f.sq),.float .f64 (fq f.oq),I J f.ql,.string ⟨f.sc.toArray⟩,I J f.sm,.float .f64 f.id] 71));have q:=h1.alloc h1.size (Obj.cells #[.string f.rd,I J f.fr,I J f.tl,.bool f.bk,.string f.sn,I J f.st,I J f.en,.float .f64 (fq f.sq),.float .f64 (fq f.oq),I J f.ql,.string ⟨f.sc.toArray⟩,I J f.sm,.float .f64 f.id] 71);exact q.trans (aj.below (fun g' a=>(Y.o g' a).1) q.size)
      ·rw[e,List.length_append,←D.o];show m+1≤_;omega
      ·intro g1 ay;have e1:g'=g1:=by simpa[Value.ownBlock] using ay
       subst e1;rcases aj.new with h|h
       ·exact(Y.o _ h).1
       ·have h1:=c.o.size;have q:=z.o.size;simp at h;omega
     case measure=>simp[RowKit.intOf];omega
   ·have az:j=n:=O;subst az;go_wp2;go_ret3;exact B.o _ _ rs (p.o.trans (c.o.mono p.o.size)) (by rw[u.o,HN.o]) N.o aq.o
 ·obtain⟨en,G⟩:=A8 ((A7 s).2.1);obtain⟨ln,aa⟩:=A8 ((A7 s).2.2);have B:Hd (∀w',Below w.heap.size w w'→A93 R k W sc s w (.returned (.tuple #[.slice none 0 0,I J en,I J ln])) w'):=by
   intro w' h1;refine⟨_,by rw[G,aa],h1,fun _=>rfl,fun h=>absurd h he⟩
  rw[←G,←aa]at d;rw[←G]at he;have aE:¬(en:Int)=0:=O;clear G aa H;go_enter Tryz.func21,Tryz.ntmps21;go_wp2_with fail;refine(d w).mono ?_;rintro e w2 ⟨v,rfl,l,_,r⟩;have p:=A4 r;clear l r d;go_wp2;go_ret3;exact B.o _ p.o
end
section
open Go.RowKit
def mkF (k:Nat):List Value:=[.string ⟨#[]⟩,I J 0,I J 0,.bool false,.string ⟨#[]⟩,I J 0,I J 0,.float .f64 0,.float .f64 0,I J (-1-(k:Int)),.string ⟨#[]⟩,I J 0,.float .f64 0]
def fmk (n k:Nat):List Value:=(List.replicate n (mkF k)).flatten
structure BfI (b0 b1 b2 b3:Value)(w0:World)(base Bb k n:Nat)(v0 wv0:Value)(E:List (Value×Int))(vs:List Value)(c:Nat)(lv wv:Value)(w:World):Prop where
 book:w.heap[Bb]?=some (Obj.cells #[b0,b1,b2,b3,wv] 40 (0,0))
 ent:A3 w base 123 2 wv (E.length+vs.length) (D1 (E++vs.map fun v=>(v,(k:Int))))
 cur:A3 w base 71 13 lv (n+c) (fmk (n+c) k)
 sl:∀v∈vs,∃i,i≤c∧A3 w base 71 13 v (n+i) (fmk (n+i) k)∧∀g,v.ownBlock=some g→lv.ownBlock=some g→A0t v=A0t lv
 mark:w.heap[w0.heap.size]?=some (Obj.cells (mkF k).toArray 71 (0,0))
 nm:∀v,v=lv∨v∈vs→v.ownBlock≠some w0.heap.size∧∀g,v.ownBlock=some g→v0.ownBlock=some g∨w0.heap.size<g
 nw:∀g,wv.ownBlock=some g→wv0.ownBlock=some g∨w0.heap.size<g
 os:w.os=w0.os
 tape:w.tape=w0.tape
 output:w.output=w0.output
 size:w0.heap.size<w.heap.size
 other:∀q,q<w0.heap.size→q≠Bb→wv0.ownBlock≠some q→v0.ownBlock≠some q→w.heap[q]?=w0.heap[q]?
section
variable {b0 b1 b2 b3:Value}
theorem A1o (n k:Nat):fmk n k++mkF k=fmk (n+1) k:=by
 unfold fmk
 rw[List.replicate_succ',List.flatten_append]
 simp
theorem BfI.grow {m w1 w2:World}{base x k n c g' o' cap':Nat}{v0 y f z:Value}{E:List (Value×Int)}{A:List Value}{ob:Obj}{w:World}(h:BfI b0 b1 b2 b3 m base x k n v0 y E A c f z w)(R:base≤m.heap.size)(S:x<m.heap.size)
 (B:w1.heap=(w.alloc ob).heap)(ho:w1.os=w.os)(ht:w1.tape=w.tape)(K:w1.output=w.output)
 (L:A3 w2 base 71 13 (.slice (some ⟨g',o',none⟩) (n+c+1) cap') (n+c+1) (fmk (n+c) k++mkF k))(b:A0b w1 w2 f (n+c) 13 g' o') :
 BfI b0 b1 b2 b3 m base x k n v0 y E A (c+1) (.slice (some ⟨g',o',none⟩) (n+c+1) cap') z w2:=by
 have T:w1.heap.size=w.heap.size+1:=by rw[B];simp
 have M:=h.size
 have hold:∀q,q<w.heap.size→w1.heap[q]?=w.heap[q]?:=fun q l=>by rw[B];exact Below.heap_alloc _ _ _ l
 have C:∀q cs t,t≠71→w.heap[q]?=some (Obj.cells cs t (0,0))→w2.heap[q]?=some (Obj.cells cs t (0,0)):=fun q cs t N l=>by
  have p:=lt_of_block l
  rw[b.fr.other q O (h.cur.tag N l),hold q p]
  exact l
 have V:∀g,f.ownBlock=some g→g<w.heap.size:=fun g j=>(h.cur.lt j).2
 refine⟨C _ _ _ Z h.book,?_,?_,?_,?_,?_,h.nw,b.fr.os.trans (ho.trans h.os),b.fr.tape.trans (ht.trans h.tape),b.fr.output.trans (K.trans h.output),by have:=b.fr.size;omega,?_⟩
 ·refine h.ent.other (fun g j p=>?_)
  obtain⟨_,P⟩:=h.ent
  rcases P with⟨rfl,_⟩|⟨g2,W,X,Y,rfl,_,r,_⟩
  ·simp[Value.ownBlock]at j
  ·simp only[Value.ownBlock,Option.some.injEq]at j
   subst j
   rw[C _ _ _ Z r,r]
 ·rw[←Nat.add_assoc,←A1o]
  exact L
 ·intro v o
  obtain⟨i,hi,D,F⟩:=h.sl v o
  refine⟨i,O,(D.other (fun g _ p=>hold g p)).app b (fun g s u=>?_),?_⟩
  ·have:=F g s u
   have:n+i≤n+c:=O
   have:=Nat.mul_le_mul_right 13 this
   omega
  ·intro g s u
   simp only[Value.ownBlock,Option.some.injEq]at u
   subst u
   show A0t v=o'
   rcases b.fr.new with d|d
   ·rw[F g' s d,b.off d]
   ·have:=(D.lt s).2
    omega
 ·have Q:f.ownBlock≠some m.heap.size:=(h.nm f (Or.inl rfl)).1
  rw[b.fr.other _ O Q,hold _ M]
  exact h.mark
 ·intro v o
  rcases o with rfl|o
  ·constructor
   ·intro he
    simp only[Value.ownBlock,Option.some.injEq]at he
    rcases b.fr.new with d|d
    ·exact(h.nm f (Or.inl rfl)).1 (by rw[d,he])
    ·omega
   ·intro g j
    simp only[Value.ownBlock,Option.some.injEq]at j
    subst j
    rcases b.fr.new with d|d
    ·exact(h.nm f (Or.inl rfl)).2 _ d
    ·right;omega
  ·exact h.nm v (Or.inr o)
 ·intro q l h1 r G
  rw[b.fr.other q O (fun he=>?_),hold q O]
  ·exact h.other q l h1 r G
  ·rcases (h.nm f (Or.inl rfl)).2 q he with H|H
   ·exact G H
   ·omega
theorem BfI.note {r w1 w2:World}{base p k n c g' o' cap':Nat}{v0 z j A:Value}{E:List (Value×Int)}{b:List Value}{ob:Obj}{w:World}(h:BfI b0 b1 b2 b3 r base p k n v0 z E b c j A w)(Q:base≤r.heap.size)(R:p<r.heap.size)
 (B:w1.heap=(w.alloc ob).heap)(ho:w1.os=w.os)(ht:w1.tape=w.tape)(H:w1.output=w.output)
 (C:A3 w2 base 123 2 (.slice (some ⟨g',o',none⟩) (E.length+b.length+1) cap') (E.length+b.length+1) (D1 (E++b.map fun v=>(v,(k:Int)))++[j,I J k]))(l:A0b w1 w2 A (E.length+b.length) 2 g' o') :
 BfI b0 b1 b2 b3 r base p k n v0 z E (b++[j]) c j (.slice (some ⟨g',o',none⟩) (E.length+b.length+1) cap') (w2.setCell ⟨p,4,none⟩ (.slice (some ⟨g',o',none⟩) (E.length+b.length+1) cap')):=by
 have S:w1.heap.size=w.heap.size+1:=by rw[B];simp
 have T:=h.size
 have hold:∀q,q<w.heap.size→w1.heap[q]?=w.heap[q]?:=fun q m=>by rw[B];exact Below.heap_alloc _ _ _ m
 have s:∀q cs t,t≠123→w.heap[q]?=some (Obj.cells cs t (0,0))→w2.heap[q]?=some (Obj.cells cs t (0,0)):=fun q cs t K m=>by
  have D:=lt_of_block m
  rw[l.fr.other q O (h.ent.tag K m),hold q D]
  exact m
 have d:=D7.of_setCell (i:=4) (.slice (some ⟨g',o',none⟩) (E.length+b.length+1) cap') (s _ _ _ Z h.book)
 have x:∀u y xs,A3 w base 71 13 u y xs→A3 (w2.setCell ⟨p,4,none⟩ (.slice (some ⟨g',o',none⟩) (E.length+b.length+1) cap')) base 71 13 u y xs:=fun u y xs hu=>by
  refine hu.other (fun g f D=>?_)
  obtain⟨_,L⟩:=hu
  rcases L with⟨rfl,_⟩|⟨g2,V,W,X,rfl,_,o,_⟩
  ·simp[Value.ownBlock]at f
  ·simp only[Value.ownBlock,Option.some.injEq]at f
   subst f
   rw[d.other _ (fun e=>by subst e;rw[h.book]at o;simp at o),s _ _ _ Z o,o]
 refine⟨d.here,?_,x _ _ _ h.cur,?_,?_,?_,?_,d.os.trans (l.fr.os.trans (ho.trans h.os)),d.tape.trans (l.fr.tape.trans (ht.trans h.tape)),d.output.trans (l.fr.output.trans (H.trans h.output)),by rw[d.size];have:=l.fr.size;omega,?_⟩
 ·have e1:D1 (E++(b++[j]).map fun v=>(v,(k:Int)))=D1 (E++b.map fun v=>(v,(k:Int)))++[j,I J k]:=by
   rw[List.map_append,←List.append_assoc,A0Y]
   rfl
  rw[e1,List.length_append,show E.length+(b.length+[j].length)=E.length+b.length+1 by simp;omega]
  exact C.other (fun g f _=>d.other g (fun e=>by
   subst e
   exact C.tag Z (s _ _ _ Z h.book) f))
 ·intro v a
  rw[List.mem_append]at a
  rcases a with a|a
  ·obtain⟨i,hi,M,N⟩:=h.sl v a
   exact⟨i,hi,x _ _ _ M,N⟩
  ·simp only[List.mem_singleton]at a
   subst a
   exact⟨c,Nat.le_refl _,x _ _ _ h.cur,fun _ _ _=>rfl⟩
 ·rw[d.other _ O]
  exact s _ _ _ Z h.mark
 ·intro v a
  rcases a with rfl|a
  ·exact h.nm v (Or.inl rfl)
  ·rw[List.mem_append]at a
   rcases a with a|a
   ·exact h.nm v (Or.inr a)
   ·simp only[List.mem_singleton]at a
    subst a
    exact h.nm v (Or.inl rfl)
 ·intro g f
  simp only[Value.ownBlock,Option.some.injEq]at f
  subst f
  rcases l.fr.new with F|F
  ·exact h.nw _ F
  ·right;omega
 ·intro q m h1 o P
  rw[d.other q h1,l.fr.other q O (fun he=>?_),hold q O]
  ·exact h.other q m h1 o P
  ·rcases h.nw q he with G|G
   ·exact o G
   ·omega
end
end
section
open Go.RowKit
attribute [local go_sem] C4
theorem A0z (L:List FD):(C0 L).length=13*L.length:=by
 induction L with
 |nil=>rfl
 |cons x t a=>
  show(x.cells++C0 t).length=_;rw[List.length_append,a,List.length_cons];show 13+13*t.length=_;omega
theorem A4g (n k:Nat):(fmk n k).length=13*n:=by
 induction n with
 |zero=>rfl
 |succ n a=>rw[←A1o,List.length_append,a];show 13*n+13=_;omega
theorem A7w (k:Nat):∀u∈mkF k,u.oneCell'=true:=by
 intro u hu;simp[mkF]at hu;rcases hu with rfl|rfl|rfl|rfl|rfl|rfl|rfl|rfl|rfl|rfl|rfl|rfl|rfl<;>rfl
theorem A54 (k:Nat):(Tryz.prog.info? 71).map (·.size)=some (mkF k).length:=by show _=some 13;kernel_rfl
theorem A2m:∀(M:List Value) (w:World) (g i:Nat),(w.setCells g i M).os=w.os∧(w.setCells g i M).tape=w.tape∧(w.setCells g i M).output=w.output
 |[],w,g,i=>⟨rfl,rfl,rfl⟩
 |m::t,w,g,i=>A2m t (w.setCell ⟨g,i,none⟩ m) g (i+1)
theorem A8e (w:World)(g k:Nat)(h:w.heap[g]?=some (.cells (mkF k).toArray 71 (0,0))):w.rangeAt g 0 (mkF k):=fun j v a=>by
 rw[Nat.zero_add]
 exact A1 h (by simpa using a)
theorem A6v (W:World)(k:Nat)(s:Nat)(hs:s=W.heap.size):∀j u,(mkF k)[j]?=some u→(W.alloc (.cells (mkF k).toArray 71)).cell? ((⟨s,0,none⟩:Addr).add j)=some u:=by
 intro j u a;subst hs;rw[Addr.add_lit,Nat.zero_add];refine A1 (heap_alloc_new W _) ?_;simpa using a
def A5q (xs:List Value)(p:Nat):List Value→List Value
 |[]=>xs
 |m::t=>A5q (xs.set p m) (p+1) t
theorem A2I:∀(M:List Value) (w:World) (g i:Nat),(w.setCells g i M).heap.size=w.heap.size∧∀q,q≠g→(w.setCells g i M).heap[q]?=w.heap[q]?
 |[],w,g,i=>⟨rfl,fun _ _=>rfl⟩
 |m::t,w,g,i=>by
  have h:=A2I t (w.setCell ⟨g,i,none⟩ m) g (i+1)
  exact⟨h.1.trans Zs,fun q a=>(h.2 q a).trans (heap_setCell_other _ _ _ _ a)⟩
theorem A3.setOne {w:World}{base t size g o n cap:Nat}{xs:List Value}(h:A3 w base t size (.slice (some ⟨g,o,none⟩) n cap) n xs)(p:Nat)(v:Value)(f:p<xs.length):A3 (w.setCell ⟨g,o+p,none⟩ v) base t size (.slice (some ⟨g,o,none⟩) n cap) n (xs.set p v):=by
 obtain⟨j,h⟩:=h;refine⟨by rw[List.length_set];exact j,?_⟩;rcases h with⟨h,_⟩|⟨g',o',cap',cur,he,h1,k,b,l,c,m⟩
 ·simp at h
 ·simp only[Value.slice.injEq,Option.some.injEq,Addr.mk.injEq,and_true,true_and]at he;obtain⟨⟨rfl,rfl⟩,rfl⟩:=he;have r:=D7.of_setCell (i:=o+p) v k;refine Or.inr ⟨g,o,cap,_,rfl,h1,r.here,b,l,by simpa using c,?_⟩;intro q u a;have s:o+n*size≤cur.size:=Nat.le_trans (Nat.add_le_add_left (Nat.mul_le_mul_right size b) o) c;by_cases d:q=p
  ·subst d;rw[List.getElem?_set_self f]at a;rw[Array.getElem?_setIfInBounds_self_of_lt O];exact a
  ·rw[List.getElem?_set_ne (fun e=>d e.symm)]at a;rw[Array.getElem?_setIfInBounds_ne O];exact m q u a
theorem A3.setL':∀(M:List Value) {w:World} {base t size g o n cap:Nat} {xs:List Value} (h:A3 w base t size (.slice (some ⟨g,o,none⟩) n cap) n xs) (p:Nat) (a:p+M.length≤xs.length),A3 (w.setCells g (o+p) M) base t size (.slice (some ⟨g,o,none⟩) n cap) n (A5q xs p M)
 |[],w,base,t,size,g,o,n,cap,xs,h,p,a=>h
 |m::M,w,base,t,size,g,o,n,cap,xs,h,p,a=>by
  rw[List.length_cons]at a
  exact A3.setL' M (h.setOne p m O) (p+1) (by rw[List.length_set];omega)
theorem A5g:∀(M xs:List Value) (p:Nat),p+M.length≤xs.length→A5q xs p M=xs.take p++M++xs.drop (p+M.length)
 |[],xs,p,h=>by simp[A5q]
 |m::M,xs,p,h=>by
  rw[List.length_cons]at h
  show A5q (xs.set p m) (p+1) M=_
  rw[A5g M _ (p+1) (by rw[List.length_set];omega)]
  have a:p<xs.length:=O
  rw[List.drop_set_of_lt O,List.take_add_one,List.getElem?_set_self a,List.take_set_of_le (Nat.le_refl _)]
  simp only[Option.toList_some,List.append_assoc,List.cons_append,List.nil_append,List.length_cons]
  rw[show p+1+M.length=p+(M.length+1) by omega]
theorem A3.setL {w:World}{base t size g o n cap:Nat}{xs:List Value}(h:A3 w base t size (.slice (some ⟨g,o,none⟩) n cap) n xs)(p:Nat)(M:List Value)(a:p+M.length≤xs.length):A3 (w.setCells g (o+p) M) base t size (.slice (some ⟨g,o,none⟩) n cap) n (xs.take p++M++xs.drop (p+M.length)):=by
 rw[←A5g M xs p a];exact h.setL' M p a
theorem B0H (X:List Value)(k j:Nat)(h:13*j+13≤X.length):(fmk j k++X.drop (13*j)).take (j*13)++mkF k++(fmk j k++X.drop (13*j)).drop (j*13+(mkF k).length)=fmk (j+1) k++X.drop (13*(j+1)):=by
 have a:=A4g j k;have hm:(mkF k).length=13:=rfl;rw[hm,List.take_append_of_le_length O,List.take_of_length_le O,A1o,List.drop_append,List.drop_eq_nil_of_le O,List.nil_append,List.drop_drop,a];congr 2;omega
theorem A2R (W:World)(x y:Value)(t:TypeId)(s:Nat)(hs:s=W.heap.size):∀j u,([x,y]:List Value)[j]?=some u→(W.alloc (.cells #[x,y] t)).cell? ((⟨s,0,none⟩:Addr).add j)=some u:=by
 intro j u a;subst hs;rw[Addr.add_lit,Nat.zero_add];refine A1 (heap_alloc_new W _) ?_;simpa using a
theorem A5m (a:Option Addr)(n c:Nat)(k:Int):∀u∈([.slice a n c,I J k]:List Value),u.oneCell'=true:=by
 intro u hu;simp at hu;rcases hu with rfl|rfl<;>rfl
theorem Tryz.info123x:(Tryz.prog.info? 123).map (fun i=>(i.zero,i.size,i.bytes))=some (some (.agg #[.slice none 0 0,I J 0]),2,32):=U
section
variable {b0 b1 b2 b3:Value}
theorem BfI.bookAt {g w1 w2:World}{base a k n c g' o':Nat}{v0 i j b:Value}{E:List (Value×Int)}{d:List Value}{ob:Obj}{w:World}(h:BfI b0 b1 b2 b3 g base a k n v0 i E d c j b w)
 (f:w1.heap=(w.alloc ob).heap)(l:A0b w1 w2 b (E.length+d.length) 2 g' o') :
 w2.heap[a]?=some (Obj.cells #[b0,b1,b2,b3,b] 40 (0,0)):=by
 have m:=lt_of_block h.book;have o:w1.heap.size=w.heap.size+1:=by rw[f];simp
 rw[l.fr.other a O (h.ent.tag Z h.book),f,Below.heap_alloc _ _ _ m];exact h.book
theorem A3v (d k n:Nat)(L:List FD)(hn:L.length=n)(E:List (Value×Int))(hE:E.length=k)(base:Nat)(v0 G:Value)(w:World)(hL:n<100000000000)(hk:k≤100000000)(X:base≤w.heap.size)
 (A:w.heap[d]?=some (.cells #[b0,b1,b2,b3,G] 40 (0,0)))
 (Y:A3 w base 123 2 G k (D1 E))
 (H:A3 w base 71 13 v0 n (C0 L)) :
 Calls Tryz.prog 44 #[.pointer (some ⟨d,0,none⟩),v0] w fun e w'=>e=.returned (.tuple #[])∧∃f lv B,f.length=4∧BfI b0 b1 b2 b3 w base d k n v0 G E f 3 lv B w':=by
 obtain⟨i0,hi,aO,aP,aQ⟩:=info_parts Tryz.info71x;obtain⟨i8,aq,ar,au,av⟩:=info_parts Tryz.info123x;obtain⟨s,wc,K⟩:=Y.form;obtain⟨b,lc,aR⟩:=H.form;have c1:w.cell? ⟨d,4,none⟩=some G:=A1 A rfl;have M:=lt_of_block A;have HL:=A4 hn;have u:=A4 hE;have HB:=A4 A;have aw:=A4 Y;have aa:=A4 H;have ax:v0.ownBlock≠some d:=H.tag Z A;have aS:=A4 ax;clear hn hE A Y H ax;subst K aR;go_enter Tryz.func44,Tryz.ntmps44;go_wp2;go_loopw [6] (fun i wx=>∃j:Nat,j≤n∧i=I J j∧A3 wx base 71 13 (.slice b n lc) n (fmk j k++(C0 L).drop (13*j))∧Fr1 (w.alloc (.cells (mkF k).toArray 71)) wx (.slice b n lc)) (fun i _=>n-(intOf i).toNat);case atStart=>exact⟨0,Nat.zero_le _,rfl,aa.o.other (fun g _ p=>Below.heap_alloc _ _ _ p),⟨rfl,rfl,rfl,rfl,fun _ _ _=>rfl⟩⟩
 case round=>
  obtain⟨j,hj,rfl,y,P⟩:=hrel;have r:=A4 P;have ab:wr.heap.size=w.heap.size+1:=by rw[P.size];simp
  have ay:=A4 ab;have ac:(Value.slice b n lc).ownBlock≠some w.heap.size:=fun he=>by have:=(aa.o.lt he).2;omega
  have az:=A4 ac;have ad:wr.heap[w.heap.size]?=some (.cells (mkF k).toArray 71 (0,0)):=by
   rw[P.other _ Zs ac];exact heap_alloc_new w _
  have aT:=A4 ad;have aA:=A8e wr w.heap.size k ad;clear P ab ac ad;by_cases bc:j<n
  ·obtain⟨g,o,aU,m⟩:∃g o,b=some ⟨g,o,none⟩∧∃cur,wr.heap[g]?=some (.cells cur 71 (0,0))∧o+n*13≤cur.size:=by
    rcases y.2 with⟨_,h⟩|⟨g,o,cap,cur,h,_,h2,h3,_,h5,_⟩
    ·omega
    ·simp only[Value.slice.injEq]at h;exact⟨g,o,h.1,cur,h2,Nat.le_trans (Nat.add_le_add_left (Nat.mul_le_mul_right 13 h3) o) h5⟩
   subst aU;obtain⟨cur,ae,aV⟩:=m;have bd:(j:Int)<n:=O;have aW:¬g=w.heap.size:=fun he=>az.o (by simp[Value.ownBlock,he]);have be:¬w.heap.size=g:=fun he=>aW he.symm;have aX:wr.there g (o+j*13) (mkF k).toArray.size:=fun q x=>by
    have bf:q<13:=x;exact⟨by rw[A1 ae (Array.getElem?_eq_getElem (show o+j*13+q<cur.size by omega))];rfl,frozen_of_row _ _ _ _ _ ae⟩
   have af:=y.setL (j*13) (mkF k) (by rw[List.length_append,A4g,List.length_drop,A0z,HL.o];show j*13+13≤_;omega);rw[B0H (C0 L) k j (by rw[A0z,HL.o];omega)]at af;have ag:=A4 (A2I (mkF k) wr g (o+j*13));have aB:Hd _:=af;have Q:=A4 (A2m (mkF k) wr g (o+j*13));obtain⟨wS,ah⟩:=A8 (wr.setCells g (o+j*13) (mkF k));rw[←ah]at aB ag Q;have aC:wr.setCells g (o+j*13) (mkF k).toArray.toList=wS:=ah.symm;clear ae aV af y ah;go_wp2_with (first|(refine wpList_load_mid rfl 71 (.tmp 5) rfl w.heap.size 0 rfl (mkF k) _ aA Tryz.underlying71 rfl (A54 k) ?_)|(refine wpList_store_mid rfl 71 (.tmp 25) (.tmp 24) rfl g (o+j*13) (mkF k).toArray rfl rfl aX (A54 k) (all_oneCell_toArray (A7w k)) ?_;rw[aC];clear aC));go_roundw;case rel=>
    refine⟨j+1,O,Zn,aB.o,⟨Q.o.1.trans r.o.os,Q.o.2.1.trans r.o.tape,Q.o.2.2.trans r.o.output,ag.o.1.trans r.o.size,fun q x R=>?_⟩⟩;have aY:q≠g:=fun he=>R (by simp[Value.ownBlock,he]);exact(ag.o.2 q aY).trans (r.o.other q x R)
   case measure=>simp[intOf];omega
  ·obtain rfl:j=n:=O;have S:BfI b0 b1 b2 b3 w base d k j (.slice b j lc) (.slice s k wc) E [] 0 (.slice b j lc) (.slice s k wc) wr:=by
    have hd:(C0 L).drop (13*j)=[]:=List.drop_eq_nil_of_le (by rw[A0z,HL.o];omega);rw[hd,List.append_nil]at y;have ai:∀q,q<w.heap.size→(Value.slice b j lc).ownBlock≠some q→wr.heap[q]?=w.heap[q]?:=fun q x R=>by
     rw[r.o.other q Zo R,Below.heap_alloc _ _ _ x]
    refine⟨(ai d M aS.o).trans HB.o,?_,y,Zs,aT.o,?_,fun g m=>Or.inl m,r.o.os,r.o.tape,r.o.output,by have:=ay.o;omega,fun q x _ _ h3=>ai q x h3⟩
    ·have:A3 wr base 123 2 (.slice s k wc) k (D1 E):=aw.o.other (fun g m p=>ai g p (fun he=>by
      obtain⟨_,hh⟩:=aw.o;rcases hh with⟨h,_⟩|⟨g2,o2,aj,bg,h,_,h2,_⟩
      ·rw[h]at m;simp[Value.ownBlock]at m
      ·rw[h]at m;simp only[Value.ownBlock,Option.some.injEq]at m;subst m;exact aa.o.tag Z h2 he))
     simpa[u.o] using this
    ·intro v hv;rcases hv with rfl|hv
     ·exact⟨az.o,fun g m=>Or.inl m⟩
     ·simp at hv
   have q1:wr.cell? ⟨d,4,none⟩=some (.slice s k wc):=A1 S.book rfl;have aD:=A4 S;have aE:A3 wr base 123 2 (.slice s k wc) k (D1 E):=by have:=S.ent;simpa[u.o] using this
   clear S y;go_wp2_with (at_builtin;go_must (refine N4 _ rfl (.tmp 30) (.tmp 34) 38 rfl 123 i8 _ 2 32 Tryz.underlying38 aq ar au av rfl Z base (.slice s k wc) k (D1 E) rfl (by exact aE.other (fun g _ p=>Below.heap_alloc _ _ _ p)) ⟨wr.heap.size,0,none⟩ 1 [.slice b j lc,I J k] rfl rfl (by exact A2R _ _ _ _ _ rfl) (A5m _ _ _ _) (by unfold maxLen;omega) O (by simp;have:=ay.o;omega) ?_;intro g' o' cap' w2 aF ak;have al:=aD.o.bookAt (w1:=wr.alloc (.cells #[.slice b j lc,I J k] 123)) rfl (by simpa[u.o] using ak);have r1:=A1 al (i:=4) rfl;have r2:w2.frozen? ⟨d,4,none⟩=false:=frozen_of_row _ _ _ _ _ al;clear al));have am:BfI b0 b1 b2 b3 w base d k j (.slice b j lc) (.slice s k wc) E [.slice b j lc] 0 (.slice b j lc) (.slice (some ⟨g',o',none⟩) (k+1) cap') (w2.setCell ⟨d,4,none⟩ (.slice (some ⟨g',o',none⟩) (k+1) cap')):=by
    have:=aD.o.note (w1:=wr.alloc (.cells #[.slice b j lc,I J k] 123)) (w2:=w2) (g':=g') (o':=o') (cap':=cap') (ob:=.cells #[.slice b j lc,I J k] 123) X M rfl rfl rfl rfl (by simpa[u.o] using aF) (by simpa[u.o] using ak);simpa[u.o] using this
   generalize w2.setCell ⟨d,4,none⟩ (.slice (some ⟨g',o',none⟩) (k+1) cap')=w3 at am⊢;have aZ:=A4 am;clear am r1 r2 ak aF aA q1 aE c1;go_loopw [1,7] (fun l i wx=>∃(t:Nat) (f:List Value) (T:Option Addr) (c:Nat) (B:Value),t≤3∧i=I J t∧l=.slice T (j+t) c∧f.length=t+1∧BfI b0 b1 b2 b3 w base d k j (.slice b j lc) (.slice s k wc) E f t (.slice T (j+t) c) B wx) (fun _ i _=>3-(intOf i).toNat);case atStart=>exact⟨0,_,b,lc,_,O,rfl,rfl,rfl,aZ.o⟩
   case round=>
    obtain⟨t,f,T,c,B,ht,rfl,rfl,V,a⟩:=hrel;have aG:=A4 V;have aH:=A4 a;by_cases bh:t<3
    ·have m0:wr.cell? ⟨w.heap.size,0,none⟩=some (.string ⟨#[]⟩):=A1 a.mark rfl;have m1:wr.cell? ⟨w.heap.size,1,none⟩=some (I J 0):=A1 a.mark rfl;have m2:wr.cell? ⟨w.heap.size,2,none⟩=some (I J 0):=A1 a.mark rfl;have m3:wr.cell? ⟨w.heap.size,3,none⟩=some (.bool false):=A1 a.mark rfl;have m4:wr.cell? ⟨w.heap.size,4,none⟩=some (.string ⟨#[]⟩):=A1 a.mark rfl;have m5:wr.cell? ⟨w.heap.size,5,none⟩=some (I J 0):=A1 a.mark rfl;have m6:wr.cell? ⟨w.heap.size,6,none⟩=some (I J 0):=A1 a.mark rfl;have m7:wr.cell? ⟨w.heap.size,7,none⟩=some (.float .f64 0):=A1 a.mark rfl;have m8:wr.cell? ⟨w.heap.size,8,none⟩=some (.float .f64 0):=A1 a.mark rfl;have m9:wr.cell? ⟨w.heap.size,9,none⟩=some (I J (-1-(k:Int))):=A1 a.mark rfl;have m10:wr.cell? ⟨w.heap.size,10,none⟩=some (.string ⟨#[]⟩):=A1 a.mark rfl;have m11:wr.cell? ⟨w.heap.size,11,none⟩=some (I J 0):=A1 a.mark rfl;have m12:wr.cell? ⟨w.heap.size,12,none⟩=some (.float .f64 0):=A1 a.mark rfl;have aI:=a.cur;have ab:=a.size;obtain⟨wa,an,K⟩:=a.ent.form;obtain⟨N,W⟩:=A8 (E.length+f.length);have bi:N≤100000004:=by rw[W,u.o,V];omega
     rw[←W]at K;subst K;have C:=A4 W;clear V a W;go_wp2_with (first|(at_builtin;refine N4 _ rfl (.tmp 42) (.tmp 44) 66 rfl 71 i0 _ 13 128 Tryz.underlying66 hi aO aP aQ rfl Z base (.slice T (j+t) c) (j+t) (fmk (j+t) k) rfl (by exact aI.other (fun g _ p=>Below.heap_alloc _ _ _ p)) ⟨wr.heap.size,0,none⟩ 1 (mkF k) rfl rfl (by exact A6v _ k _ rfl) (A7w k) (by unfold maxLen;omega) O Zo ?_;intro g1 o1 z D aJ aK;have F:=aH.o.grow (w1:=wr.alloc (.cells (mkF k).toArray 71)) (ob:=.cells (mkF k).toArray 71) X M rfl rfl rfl rfl aJ aK;have q1:D.cell? ⟨d,4,none⟩=some (.slice wa N an):=A1 F.book rfl;have bj:=F.size;have ba:A3 D base 123 2 (.slice wa N an) N (D1 (E++f.map fun v=>(v,(k:Int)))):=(by have:=F.ent;rw[←C.o]at this;exact this);have aL:=A4 F;clear F aJ aK m0 m1 m2 m3 m4 m5 m6 m7 m8 m9 m10 m11 m12 aI)|(at_builtin;refine N4 _ rfl (.tmp 50) (.tmp 54) 38 rfl 123 i8 _ 2 32 Tryz.underlying38 aq ar au av rfl Z base (.slice wa N an) N (D1 (E++f.map fun v=>(v,(k:Int)))) rfl (by exact ba.other (fun g _ p=>Below.heap_alloc _ _ _ p)) ⟨D.heap.size,0,none⟩ 1 [.slice (some ⟨g1,o1,none⟩) (j+t+1) z,I J k] rfl rfl (by exact A2R _ _ _ _ _ rfl) (A5m _ _ _ _) (by unfold maxLen;omega) O Zo ?_;intro g2 o2 aj w5 bb aM;have ap:=aL.o.bookAt (w1:=D.alloc (.cells #[.slice (some ⟨g1,o1,none⟩) (j+t+1) z,I J k] 123)) rfl (by rw[←C.o];exact aM);have r1:=A1 ap (i:=4) rfl;have r2:w5.frozen? ⟨d,4,none⟩=false:=frozen_of_row _ _ _ _ _ ap;clear ap));go_roundw;case rel=>
      refine⟨t+1,f++[.slice (some ⟨g1,o1,none⟩) (j+t+1) z],some ⟨g1,o1,none⟩,z,.slice (some ⟨g2,o2,none⟩) (N+1) aj,O,Zn,rfl,by rw[List.length_append,aG.o];rfl,?_⟩;have aN:=aL.o.note (w1:=D.alloc (.cells #[.slice (some ⟨g1,o1,none⟩) (j+t+1) z,I J k] 123)) (w2:=w5) (g':=g2) (o':=o2) (cap':=aj) (ob:=.cells #[.slice (some ⟨g1,o1,none⟩) (j+t+1) z,I J k] 123) X M rfl rfl rfl rfl (by rw[←C.o];exact bb) (by rw[←C.o];exact aM);rw[←C.o]at aN;exact aN
     case measure=>simp[intOf];omega
    ·obtain rfl:t=3:=O;clear V a;go_wp2;go_end0;exact⟨rfl,f,_,B,aG.o,aH.o⟩
end
end
section
open Go.RowKit
def RdR (w:World)(t:TypeId)(ao:Option Addr)(n:Nat)(xs:List Value):Prop:=n≠0→∃g o cur,ao=some ⟨g,o,none⟩∧w.heap[g]?=some (.cells cur t (0,0))∧∀j u,xs[j]?=some u→cur[o+j]?=some u
theorem RdR.of {w:World}{base t size b n:Nat}{a:Option Addr}{xs:List Value}(h:A3 w base t size (.slice a n b) n xs):RdR w t a n xs:=fun c=>by
 rcases h.2 with⟨_,d⟩|⟨g,o,cap,cur,e,_,f,_,_,_,i⟩
 ·exact absurd d c
 ·simp only[Value.slice.injEq]at e
  exact⟨g,o,cur,e.1,f,i⟩
theorem A4j (L:List W3)(n:Nat)(s:L.length=n)(t bo:Option Addr)(ac z:Nat)(w:World)(u:RdR w 99 t n (A6 L))(v:RdR w 99 bo n (A6 L))(F:n≤100000) :
 Calls Tryz.prog 46 #[.slice t n ac,.slice bo n z] w fun e w'=>e=.returned (.bool true)∧Below w.heap.size w w':=by
 have A:=A4 u;have B:=A4 v;have C:=A4 s;clear u v s;go_enter Tryz.func46,Tryz.ntmps46;go_wp2_with fail;go_loopw [5] (fun i wr=>∃j:Nat,j≤n∧i=I J j∧Below w.heap.size w wr) (fun i _=>n-(RowKit.intOf i).toNat);case atStart=>exact⟨0,Nat.zero_le _,rfl,Below.refl _ _⟩
 case round=>
  obtain⟨j,G,rfl,c⟩:=hrel;have d:=A4 c;by_cases H:j<n
  ·have D:j<L.length:=by have:=C.o;omega
   obtain⟨g,o,cur,rfl,q,f⟩:=A.o O;obtain⟨g',o',K,rfl,r,k⟩:=B.o O;have a:=I1 L j D;rw[Nat.mul_comm 3 j]at a;obtain⟨x,y⟩:=A8 (L[j]);rw[←y]at a;have l:=(c.block g (lt_of_block q)).trans q;have m:=(c.block g' (lt_of_block r)).trans r;have a0:wr.cell? ⟨g,o+j*3,none⟩=some (I J x.h):=A1 l (f _ _ a.1);have E:wr.cell? ⟨g,o+j*3+1,none⟩=some (I J x.p):=A1 l (f _ _ a.2.1);have a2:wr.cell? ⟨g,o+j*3+2,none⟩=some (.bool x.b):=A1 l (f _ _ a.2.2);have b0:wr.cell? ⟨g',o'+j*3,none⟩=some (I J x.h):=A1 m (k _ _ a.1);have b1:wr.cell? ⟨g',o'+j*3+1,none⟩=some (I J x.p):=A1 m (k _ _ a.2.1);have b2:wr.cell? ⟨g',o'+j*3+2,none⟩=some (.bool x.b):=A1 m (k _ _ a.2.2);clear a l m q r f k c y;go_wp2_with fail;refine A5 9 (fun W=>W.cell? ⟨g,o+j*3,none⟩=some (I J x.h)∧W.cell? ⟨g,o+j*3+1,none⟩=some (I J x.p)∧W.cell? ⟨g,o+j*3+2,none⟩=some (.bool x.b)∧W.cell? ⟨g',o'+j*3,none⟩=some (I J x.h)∧W.cell? ⟨g',o'+j*3+1,none⟩=some (I J x.p)∧W.cell? ⟨g',o'+j*3+2,none⟩=some (.bool x.b)) U ⟨a0,E,a2,b0,b1,b2⟩ (fun hH=>?_);refine A2 0 ?_;refine A2 1 ?_;refine A2 2 ?_;refine A2 3 ?_;refine A2 4 ?_;refine A2 5 ?_;refine A2 6 ?_;refine A2 7 ?_;refine A2 8 ?_;refine J5 ?_;clear hH;go_wp2_with fail;go_roundw;case rel=>exact⟨j+1,O,Zn,⟨d.o.os,d.o.tape,d.o.output,d.o.size,d.o.block⟩⟩
   case measure=>simp[RowKit.intOf];omega
  ·go_wp2_with fail;go_ret;exact⟨rfl,c⟩
theorem A1w {P:Program}(d:Nat)(t:TypeId)(q:Nat)(k:FloatKind)(w:World)(h:P.underlying t=some (.float k))(a:FloatKind.f64.format.order q q=some .eq):(Op.equalIn (d+1) t (.float .f64 q) (.float .f64 q)).run P w=.ok true w:=by
 have he:Op.floatEq .f64 q q=true:=by
  unfold Op.floatEq;rw[a];rfl
 simp[Op.equalIn,run_underlying h,he]
def A11 (f:FD):Prop:=FloatKind.f64.format.order (fq f.sq) (fq f.sq)=some .eq∧FloatKind.f64.format.order (fq f.oq) (fq f.oq)=some .eq∧FloatKind.f64.format.order f.id f.id=some .eq
theorem A3w:∀(L:List FD) (j k:Nat) (h:j<L.length),k<13→(C0 L)[j*13+k]?=(L[j].cells)[k]?
 |[],j,k,h,_=>by cases h
 |x::t,0,k,h,hk=>by
  show(x.cells++C0 t)[0*13+k]?=_
  rw[Nat.zero_mul,Nat.zero_add,List.getElem?_append_left (show k<x.cells.length from hk)]
  rfl
 |x::t,j+1,k,h,hk=>by
  show(x.cells++C0 t)[(j+1)*13+k]?=_
  rw[List.getElem?_append_right (show x.cells.length≤_ by show 13≤_;omega),show(j+1)*13+k-x.cells.length=j*13+k by show(j+1)*13+k-13=_;omega,A3w t j k (by simpa using h) hk]
  rfl
theorem A3m (L:List FD)(n:Nat)(C:L.length=n)(D bo:Option Addr)(ac H:Nat)(w:World)(E:RdR w 71 D n (C0 L))(F:RdR w 71 bo n (C0 L))(hl:n≤100000)(hs:∀f∈L,A11 f) :
 Calls Tryz.prog 43 #[.slice D n ac,.slice bo n H] w fun e w'=>e=.returned (.bool true)∧Below w.heap.size w w':=by
 have K:=A4 E;have M:=A4 F;have N:=A4 C;have Q:=A4 hs;clear E F C hs;go_enter Tryz.func43,Tryz.ntmps43;go_wp2_with fail;go_loopw [5] (fun i wr=>∃j:Nat,j≤n∧i=I J j∧Below w.heap.size w wr) (fun i _=>n-(RowKit.intOf i).toNat);case atStart=>exact⟨0,Nat.zero_le _,rfl,Below.refl _ _⟩
 case round=>
  obtain⟨j,hj,rfl,q⟩:=hrel;have r:=A4 q;by_cases ag:j<n
  ·have R:j<L.length:=by have:=N.o;omega
   obtain⟨g,o,cur,rfl,v,b⟩:=K.o O;obtain⟨g',o',ah,rfl,y,c⟩:=M.o O;obtain⟨x,z⟩:=A8 (L[j]);have t:=Q.o x (by rw[z];exact List.getElem_mem _);obtain⟨m,A⟩:=A8 (fq x.sq);obtain⟨p,B⟩:=A8 (fq x.oq);obtain⟨s,G⟩:=A8 (⟨x.sc.toArray⟩:ByteArray);have a:∀k u,([.string x.rd,I J x.fr,I J x.tl,.bool x.bk,.string x.sn,I J x.st,I J x.en,.float .f64 m,.float .f64 p,I J x.ql,.string s,I J x.sm,.float .f64 x.id]:List Value)[k]?=some u→(C0 L)[j*13+k]?=some u:=by
    intro k u hk;have S:k<13:=by
     rcases Nat.lt_or_ge k 13 with h|h
     ·exact h
     ·rw[List.getElem?_eq_none (by simpa using h)]at hk;cases hk
    rw[A3w L j k R S,←z];rw[A,B,G]at hk;exact hk
   have f1:FloatKind.f64.format.order m m=some .eq:=by rw[A];exact t.1
   have f2:FloatKind.f64.format.order p p=some .eq:=by rw[B];exact t.2.1
   have f3:FloatKind.f64.format.order x.id x.id=some .eq:=t.2.2;have d:=(q.block g (lt_of_block v)).trans v;have l:=(q.block g' (lt_of_block y)).trans y;have a0:wr.cell? ⟨g,o+j*13,none⟩=some (.string x.rd):=A1 d (b _ _ (a 0 _ rfl));have T:wr.cell? ⟨g,o+j*13+1,none⟩=some (I J x.fr):=A1 d (b _ _ (a 1 _ rfl));have a2:wr.cell? ⟨g,o+j*13+2,none⟩=some (I J x.tl):=A1 d (b _ _ (a 2 _ rfl));have a3:wr.cell? ⟨g,o+j*13+3,none⟩=some (.bool x.bk):=A1 d (b _ _ (a 3 _ rfl));have a4:wr.cell? ⟨g,o+j*13+4,none⟩=some (.string x.sn):=A1 d (b _ _ (a 4 _ rfl));have a5:wr.cell? ⟨g,o+j*13+5,none⟩=some (I J x.st):=A1 d (b _ _ (a 5 _ rfl));have V:wr.cell? ⟨g,o+j*13+6,none⟩=some (I J x.en):=A1 d (b _ _ (a 6 _ rfl));have X:wr.cell? ⟨g,o+j*13+7,none⟩=some (.float .f64 m):=A1 d (b _ _ (a 7 _ rfl));have Y:wr.cell? ⟨g,o+j*13+8,none⟩=some (.float .f64 p):=A1 d (b _ _ (a 8 _ rfl));have a9:wr.cell? ⟨g,o+j*13+9,none⟩=some (I J x.ql):=A1 d (b _ _ (a 9 _ rfl));have aa:wr.cell? ⟨g,o+j*13+10,none⟩=some (.string s):=A1 d (b _ _ (a 10 _ rfl));have ab:wr.cell? ⟨g,o+j*13+11,none⟩=some (I J x.sm):=A1 d (b _ _ (a 11 _ rfl));have a12:wr.cell? ⟨g,o+j*13+12,none⟩=some (.float .f64 x.id):=A1 d (b _ _ (a 12 _ rfl));have b0:wr.cell? ⟨g',o'+j*13,none⟩=some (.string x.rd):=A1 l (c _ _ (a 0 _ rfl));have b1:wr.cell? ⟨g',o'+j*13+1,none⟩=some (I J x.fr):=A1 l (c _ _ (a 1 _ rfl));have b2:wr.cell? ⟨g',o'+j*13+2,none⟩=some (I J x.tl):=A1 l (c _ _ (a 2 _ rfl));have b3:wr.cell? ⟨g',o'+j*13+3,none⟩=some (.bool x.bk):=A1 l (c _ _ (a 3 _ rfl));have b4:wr.cell? ⟨g',o'+j*13+4,none⟩=some (.string x.sn):=A1 l (c _ _ (a 4 _ rfl));have b5:wr.cell? ⟨g',o'+j*13+5,none⟩=some (I J x.st):=A1 l (c _ _ (a 5 _ rfl));have b6:wr.cell? ⟨g',o'+j*13+6,none⟩=some (I J x.en):=A1 l (c _ _ (a 6 _ rfl));have b7:wr.cell? ⟨g',o'+j*13+7,none⟩=some (.float .f64 m):=A1 l (c _ _ (a 7 _ rfl));have b8:wr.cell? ⟨g',o'+j*13+8,none⟩=some (.float .f64 p):=A1 l (c _ _ (a 8 _ rfl));have b9:wr.cell? ⟨g',o'+j*13+9,none⟩=some (I J x.ql):=A1 l (c _ _ (a 9 _ rfl));have ad:wr.cell? ⟨g',o'+j*13+10,none⟩=some (.string s):=A1 l (c _ _ (a 10 _ rfl));have ae:wr.cell? ⟨g',o'+j*13+11,none⟩=some (I J x.sm):=A1 l (c _ _ (a 11 _ rfl));have af:wr.cell? ⟨g',o'+j*13+12,none⟩=some (.float .f64 x.id):=A1 l (c _ _ (a 12 _ rfl));clear a d l v y b c q z t A B G;have g1:=fun W=>A1w (P:=Tryz.prog) 9998 22 m _ W Tryz.underlying22 f1;have g2:=fun W=>A1w (P:=Tryz.prog) 9998 22 p _ W Tryz.underlying22 f2;have g3:=fun W=>A1w (P:=Tryz.prog) 9998 22 x.id _ W Tryz.underlying22 f3;clear f1 f2 f3;go_wp2_with fail;refine A5 9 (fun W=>W.cell? ⟨g,o+j*13,none⟩=some (.string x.rd)∧W.cell? ⟨g,o+j*13+1,none⟩=some (I J x.fr)∧W.cell? ⟨g,o+j*13+2,none⟩=some (I J x.tl)∧W.cell? ⟨g,o+j*13+3,none⟩=some (.bool x.bk)∧W.cell? ⟨g,o+j*13+4,none⟩=some (.string x.sn)∧W.cell? ⟨g,o+j*13+5,none⟩=some (I J x.st)∧W.cell? ⟨g,o+j*13+6,none⟩=some (I J x.en)∧W.cell? ⟨g,o+j*13+7,none⟩=some (.float .f64 m)∧W.cell? ⟨g,o+j*13+8,none⟩=some (.float .f64 p)∧W.cell? ⟨g,o+j*13+9,none⟩=some (I J x.ql)∧W.cell? ⟨g,o+j*13+10,none⟩=some (.string s)∧W.cell? ⟨g,o+j*13+11,none⟩=some (I J x.sm)∧W.cell? ⟨g,o+j*13+12,none⟩=some (.float .f64 x.id)∧W.cell? ⟨g',o'+j*13,none⟩=some (.string x.rd)∧W.cell? ⟨g',o'+j*13+1,none⟩=some (I J x.fr)∧W.cell? ⟨g',o'+j*13+2,none⟩=some (I J x.tl)∧W.cell? ⟨g',o'+j*13+3,none⟩=some (.bool x.bk)∧W.cell? ⟨g',o'+j*13+4,none⟩=some (.string x.sn)∧W.cell? ⟨g',o'+j*13+5,none⟩=some (I J x.st)∧W.cell? ⟨g',o'+j*13+6,none⟩=some (I J x.en)∧W.cell? ⟨g',o'+j*13+7,none⟩=some (.float .f64 m)∧W.cell? ⟨g',o'+j*13+8,none⟩=some (.float .f64 p)∧W.cell? ⟨g',o'+j*13+9,none⟩=some (I J x.ql)∧W.cell? ⟨g',o'+j*13+10,none⟩=some (.string s)∧W.cell? ⟨g',o'+j*13+11,none⟩=some (I J x.sm)∧W.cell? ⟨g',o'+j*13+12,none⟩=some (.float .f64 x.id)) U ⟨a0,T,a2,a3,a4,a5,V,X,Y,a9,aa,ab,a12,b0,b1,b2,b3,b4,b5,b6,b7,b8,b9,ad,ae,af⟩ (fun hH=>?_);refine A2 0 ?_;refine A2 1 ?_;refine A2 2 ?_;refine A2 3 ?_;refine A2 4 ?_;refine A2 5 ?_;refine A2 6 ?_;refine A2 7 ?_;refine A2 8 ?_;refine J5 ?_;clear hH;go_wp2_with fail;go_roundw;case rel=>exact⟨j+1,O,Zn,⟨r.o.os,r.o.tape,r.o.output,r.o.size,r.o.block⟩⟩
   case measure=>simp[RowKit.intOf];omega
  ·go_wp2_with fail;go_ret;exact⟨rfl,q⟩
end
section
open Go.RowKit
attribute [local go_sem] C4
def EnH (w:World)(v:Value)(m:Int):Prop:=∃(n mk:Nat) (ao:Option Addr) (c:Nat),m=mk∧mk≤100000000∧n<4398046511104∧v=.slice ao n c∧RdR w 99 ao n (A6 (marks n mk))
def EnF (w:World)(v:Value)(m:Int):Prop:=∃(n mk:Nat) (ao:Option Addr) (c:Nat),m=mk∧mk≤100000000∧n<4398046511104∧v=.slice ao n c∧RdR w 71 ao n (fmk n mk)
theorem A2W (n mk q:Nat)(a:q<n):(A6 (marks n mk))[q*3]?=some (I J (-1-(mk:Int)))∧(A6 (marks n mk))[q*3+1]?=some (I J 0)∧(A6 (marks n mk))[q*3+2]?=some (.bool false):=by
 have h:=I1 (marks n mk) q (by simp[marks];exact a);have hm:(marks n mk)[q]'(by simp[marks];exact a)=⟨-1-(mk:Int),0,false⟩:=by simp[marks]
 rw[hm,Nat.mul_comm 3 q]at h;exact h
theorem N7:∀(n mk q r:Nat),q<n→r<13→(fmk n mk)[q*13+r]?=(mkF mk)[r]?
 |0,mk,q,r,h,_=>O
 |n+1,mk,q,r,h,a=>by
  rw[←A1o]
  have c:=A4g n mk
  by_cases b:q<n
  ·rw[List.getElem?_append_left O]
   exact N7 n mk q r b a
  ·have e:q=n:=O
   subst e
   rw[List.getElem?_append_right O,show q*13+r-(fmk q mk).length=r by omega]
theorem B0q {w:World}{base t:Nat}{b:Option Addr}{NE c:Nat}{E:List (Value×Int)}(f:NE=E.length)(h:A3 w base t 2 (.slice b NE c) NE (D1 E))(i:Nat)(hi:i<E.length):∃g o,b=some ⟨g,o,none⟩∧g<w.heap.size∧w.cell? ⟨g,o+i*2,none⟩=some E[i].1∧w.cell? ⟨g,o+i*2+1,none⟩=some (I J E[i].2):=by
 rcases h.2 with⟨_,j⟩|⟨g,o,cap,cur,h,_,a,_,_,_,d⟩
 ·omega
 ·simp only[Value.slice.injEq]at h;have he:=A8r E i hi;refine⟨g,o,h.1,lt_of_block a,A1 a ?_,A1 a ?_⟩
  ·rw[Nat.mul_comm];exact d _ _ he.1
  ·rw[show o+i*2+1=o+(2*i+1) by omega];exact d _ _ he.2
theorem A7S (k base ak:Nat)(v x:List (Value×Int))(hv fv:Value)(w:World)(al:v.length≤100000000)(am:x.length≤100000000)
 (y:w.heap[k]?=some (.cells #[.slice none 0 0,.slice none 0 0,.slice none 0 0,hv,fv] 40 (0,0)))
 (S:A3 w base 121 2 hv v.length (D1 v))(T:A3 w ak 123 2 fv x.length (D1 x))
 (ag:∀i (h:i<v.length),EnH w v[i].1 v[i].2)(ah:∀i (h:i<x.length),EnF w x[i].1 x[i].2) :
 Calls Tryz.prog 14 #[.pointer (some ⟨k,0,none⟩)] w fun e w'=>e=.returned (.bool true)∧Below w.heap.size w w':=by
 obtain⟨ha,Y,rfl⟩:=S.form;obtain⟨fa,fc,rfl⟩:=T.form;have V:=lt_of_block y;obtain⟨z,aa⟩:=A8 v.length;obtain⟨A,ab⟩:=A8 x.length;have ai:=A4 aa;have aj:=A4 ab;rw[←aa]at S al y;rw[←ab]at T am y;have HH:=A4 S;have HF:=A4 T;have an:=A4 ag;have ao:=A4 ah;have X:=A4 y;have b0:w.cell? ⟨k,0,none⟩=some (.slice none 0 0):=A1 y rfl;have b1:w.cell? ⟨k,1,none⟩=some (.slice none 0 0):=A1 y rfl;have b2:w.cell? ⟨k,2,none⟩=some (.slice none 0 0):=A1 y rfl;clear y S T ag ah aa ab;go_enter Tryz.func14,Tryz.ntmps14;go_wp2;refine wp_loop_rounds 1 ?_;rw[rounds_succ];go_wp2;refine wp_loop_rounds 1 ?_;rw[rounds_succ];go_wp2;refine wp_loop_rounds 1 ?_;rw[rounds_succ];go_wp2;clear b0 b1 b2;go_loopw [12] (fun i wx=>∃t:Nat,t≤z∧i=I J t∧Below w.heap.size w wx) (fun i _=>z-(RowKit.intOf i).toNat);case atStart=>exact⟨0,Nat.zero_le _,rfl,Below.refl _ _⟩
 case round=>
  obtain⟨t,ht,rfl,a⟩:=hrel;have ap:=A4 a;have a1:wr.cell? ⟨k,3,none⟩=some (.slice ha z Y):=(World.cell?_of_block (a.block k V)).trans (A1 X.o rfl);have aq:=a.size;by_cases ac:t<z
  ·have F:t<v.length:=by rw[←ai.o];exact ac
   obtain⟨b,ow,rfl,B,r,C⟩:=B0q ai.o HH.o t F;obtain⟨n,mk,G,lc,H,ar,au,K,L⟩:=an.o t F;rw[K]at r;rw[H]at C;have a2:wr.cell? ⟨b,ow+t*2,none⟩=some (.slice G n lc):=(World.cell?_of_block (a.block b B)).trans r;have a3:wr.cell? ⟨b,ow+t*2+1,none⟩=some (I J mk):=(World.cell?_of_block (a.block b B)).trans C;have av:(t:Int)<z:=O;have ad:=A4 L;obtain⟨s,u⟩:=A8 (wr.alloc (.cells #[I J (-1-(mk:Int)),I J 0,.bool false] 99));obtain⟨bx,D⟩:=A8 wr.heap.size;have M:Below w.heap.size w s:=by rw[u];exact a.alloc a.size _
   have N:Hd (s.heap[bx]?=some (.cells #[I J (-1-(mk:Int)),I J 0,.bool false] 99 (0,0))):=by rw[u,D];exact heap_alloc_new wr _
   have Q:=A4 M;have ae:Hd (∀W:World,Below w.heap.size w W→W.cell? ⟨k,3,none⟩=some (.slice (some ⟨b,ow,none⟩) z Y)∧W.cell? ⟨b,ow+t*2,none⟩=some (.slice G n lc)):=fun W R=>⟨(World.cell?_of_block (R.block k V)).trans (A1 X.o rfl),(World.cell?_of_block (R.block b B)).trans r⟩;clear a C H K M L r;go_wp2_with fail;rw[←u,←D];clear u D a1 a2 a3;go_loopw [14] (fun i wx=>∃q:Nat,q≤n∧i=I J q∧Below s.heap.size s wx) (fun i _=>n-(RowKit.intOf i).toNat);case atStart=>exact⟨0,Nat.zero_le _,rfl,Below.refl _ _⟩
   case round=>
    obtain⟨q,hq,rfl,l⟩:=hrel;have m:=A4 l;have p:Below w.heap.size w wr:=Q.o.trans (l.mono Q.o.size);obtain⟨m1,m2⟩:=ae.o wr p;have af:=A4 p;by_cases j:q<n
    ·obtain⟨g,o,cur,rfl,E,c⟩:=ad.o O;have d:wr.heap[g]?=some (.cells cur 99 (0,0)):=(p.block g (lt_of_block E)).trans E;have f:wr.heap[bx]?=some (.cells #[I J (-1-(mk:Int)),I J 0,.bool false] 99 (0,0)):=(l.block bx (lt_of_block N.o)).trans N.o;have d0:wr.cell? ⟨g,o+q*3,none⟩=some (I J (-1-(mk:Int))):=A1 d (c _ _ (A2W n mk q j).1);have d1:wr.cell? ⟨g,o+q*3+1,none⟩=some (I J 0):=A1 d (c _ _ (A2W n mk q j).2.1);have d2:wr.cell? ⟨g,o+q*3+2,none⟩=some (.bool false):=A1 d (c _ _ (A2W n mk q j).2.2);have x0:wr.cell? ⟨bx,0,none⟩=some (I J (-1-(mk:Int))):=A1 f rfl;have x1:wr.cell? ⟨bx,1,none⟩=some (I J 0):=A1 f rfl;have x2:wr.cell? ⟨bx,2,none⟩=some (.bool false):=A1 f rfl;have aw:(q:Int)<n:=O;clear d f E c l p;go_wp2_with fail;refine A5 13 (fun W=>W.cell? ⟨k,3,none⟩=some (.slice (some ⟨b,ow,none⟩) z Y)∧W.cell? ⟨b,ow+t*2,none⟩=some (.slice (some ⟨g,o,none⟩) n lc)∧W.cell? ⟨g,o+q*3,none⟩=some (I J (-1-(mk:Int)))∧W.cell? ⟨g,o+q*3+1,none⟩=some (I J 0)∧W.cell? ⟨g,o+q*3+2,none⟩=some (.bool false)∧W.cell? ⟨bx,0,none⟩=some (I J (-1-(mk:Int)))∧W.cell? ⟨bx,1,none⟩=some (I J 0)∧W.cell? ⟨bx,2,none⟩=some (.bool false)) U ⟨m1,m2,d0,d1,d2,x0,x1,x2⟩ (fun hH=>?_);refine A2 0 ?_;refine A2 1 ?_;refine A2 2 ?_;refine A2 3 ?_;refine A2 4 ?_;refine A2 5 ?_;refine A2 6 ?_;refine A2 7 ?_;refine A2 8 ?_;refine A2 9 ?_;refine A2 10 ?_;refine A2 11 ?_;refine A2 12 ?_;refine J5 ?_;clear hH;go_wp2_with fail;go_roundw;case rel=>exact⟨q+1,O,Zn,⟨m.o.os,m.o.tape,m.o.output,m.o.size,m.o.block⟩⟩
     case measure=>simp[RowKit.intOf];omega
    ·clear l p;go_wp2_with fail;go_roundw;case rel=>exact⟨t+1,O,Zn,af.o⟩
     case measure=>simp[RowKit.intOf];omega
  ·have ax:t=z:=O;clear a;go_wp2_with fail;go_loopw [15] (fun i wx=>∃t:Nat,t≤A∧i=I J t∧Below w.heap.size w wx) (fun i _=>A-(RowKit.intOf i).toNat);case atStart=>exact⟨0,Nat.zero_le _,rfl,ap.o⟩
   case round=>
    obtain⟨t,ht,rfl,a⟩:=hrel;have ay:=A4 a;have a1:wr.cell? ⟨k,4,none⟩=some (.slice fa A fc):=(World.cell?_of_block (a.block k V)).trans (A1 X.o rfl);have aq:=a.size;by_cases ac:t<A
    ·have F:t<x.length:=by rw[←aj.o];exact ac
     obtain⟨b,ow,rfl,B,r,C⟩:=B0q aj.o HF.o t F;obtain⟨n,mk,G,lc,H,ar,au,K,L⟩:=ao.o t F;rw[K]at r;rw[H]at C;have a2:wr.cell? ⟨b,ow+t*2,none⟩=some (.slice G n lc):=(World.cell?_of_block (a.block b B)).trans r;have a3:wr.cell? ⟨b,ow+t*2+1,none⟩=some (I J mk):=(World.cell?_of_block (a.block b B)).trans C;have av:(t:Int)<A:=O;have ad:=A4 L;obtain⟨s,u⟩:=A8 (wr.alloc (.cells #[.string ⟨#[]⟩,I J 0,I J 0,.bool false,.string ⟨#[]⟩,I J 0,I J 0,.float .f64 0,.float .f64 0,I J (-1-(mk:Int)),.string ⟨#[]⟩,I J 0,.float .f64 0] 71));obtain⟨bx,D⟩:=A8 wr.heap.size;have M:Below w.heap.size w s:=by rw[u];exact a.alloc a.size _
     have N:Hd (s.heap[bx]?=some (.cells #[.string ⟨#[]⟩,I J 0,I J 0,.bool false,.string ⟨#[]⟩,I J 0,I J 0,.float .f64 0,.float .f64 0,I J (-1-(mk:Int)),.string ⟨#[]⟩,I J 0,.float .f64 0] 71 (0,0))):=by rw[u,D];exact heap_alloc_new wr _
     have Q:=A4 M;have ae:Hd (∀W:World,Below w.heap.size w W→W.cell? ⟨k,4,none⟩=some (.slice (some ⟨b,ow,none⟩) A fc)∧W.cell? ⟨b,ow+t*2,none⟩=some (.slice G n lc)):=fun W R=>⟨(World.cell?_of_block (R.block k V)).trans (A1 X.o rfl),(World.cell?_of_block (R.block b B)).trans r⟩;clear a C H K M L r;go_wp2_with fail;rw[←u,←D];clear u D a1 a2 a3;go_loopw [17] (fun i wx=>∃q:Nat,q≤n∧i=I J q∧Below s.heap.size s wx) (fun i _=>n-(RowKit.intOf i).toNat);case atStart=>exact⟨0,Nat.zero_le _,rfl,Below.refl _ _⟩
     case round=>
      obtain⟨q,hq,rfl,l⟩:=hrel;have m:=A4 l;have p:Below w.heap.size w wr:=Q.o.trans (l.mono Q.o.size);obtain⟨m1,m2⟩:=ae.o wr p;have af:=A4 p;by_cases j:q<n
      ·obtain⟨g,o,cur,rfl,E,c⟩:=ad.o O;have d:wr.heap[g]?=some (.cells cur 71 (0,0)):=(p.block g (lt_of_block E)).trans E;have f:wr.heap[bx]?=some (.cells #[.string ⟨#[]⟩,I J 0,I J 0,.bool false,.string ⟨#[]⟩,I J 0,I J 0,.float .f64 0,.float .f64 0,I J (-1-(mk:Int)),.string ⟨#[]⟩,I J 0,.float .f64 0] 71 (0,0)):=(l.block bx (lt_of_block N.o)).trans N.o;have d0:wr.cell? ⟨g,o+q*13,none⟩=some (.string ⟨#[]⟩):=A1 d (c _ _ (N7 n mk q 0 j O));have d1:wr.cell? ⟨g,o+q*13+1,none⟩=some (I J 0):=A1 d (c _ _ (N7 n mk q 1 j O));have d2:wr.cell? ⟨g,o+q*13+2,none⟩=some (I J 0):=A1 d (c _ _ (N7 n mk q 2 j O));have d3:wr.cell? ⟨g,o+q*13+3,none⟩=some (.bool false):=A1 d (c _ _ (N7 n mk q 3 j O));have d4:wr.cell? ⟨g,o+q*13+4,none⟩=some (.string ⟨#[]⟩):=A1 d (c _ _ (N7 n mk q 4 j O));have d5:wr.cell? ⟨g,o+q*13+5,none⟩=some (I J 0):=A1 d (c _ _ (N7 n mk q 5 j O));have d6:wr.cell? ⟨g,o+q*13+6,none⟩=some (I J 0):=A1 d (c _ _ (N7 n mk q 6 j O));have d7:wr.cell? ⟨g,o+q*13+7,none⟩=some (.float .f64 0):=A1 d (c _ _ (N7 n mk q 7 j O));have d8:wr.cell? ⟨g,o+q*13+8,none⟩=some (.float .f64 0):=A1 d (c _ _ (N7 n mk q 8 j O));have d9:wr.cell? ⟨g,o+q*13+9,none⟩=some (I J (-1-(mk:Int))):=A1 d (c _ _ (N7 n mk q 9 j O));have d10:wr.cell? ⟨g,o+q*13+10,none⟩=some (.string ⟨#[]⟩):=A1 d (c _ _ (N7 n mk q 10 j O));have d11:wr.cell? ⟨g,o+q*13+11,none⟩=some (I J 0):=A1 d (c _ _ (N7 n mk q 11 j O));have d12:wr.cell? ⟨g,o+q*13+12,none⟩=some (.float .f64 0):=A1 d (c _ _ (N7 n mk q 12 j O));have x0:wr.cell? ⟨bx,0,none⟩=some (.string ⟨#[]⟩):=A1 f rfl;have x1:wr.cell? ⟨bx,1,none⟩=some (I J 0):=A1 f rfl;have x2:wr.cell? ⟨bx,2,none⟩=some (I J 0):=A1 f rfl;have x3:wr.cell? ⟨bx,3,none⟩=some (.bool false):=A1 f rfl;have x4:wr.cell? ⟨bx,4,none⟩=some (.string ⟨#[]⟩):=A1 f rfl;have x5:wr.cell? ⟨bx,5,none⟩=some (I J 0):=A1 f rfl;have x6:wr.cell? ⟨bx,6,none⟩=some (I J 0):=A1 f rfl;have x7:wr.cell? ⟨bx,7,none⟩=some (.float .f64 0):=A1 f rfl;have x8:wr.cell? ⟨bx,8,none⟩=some (.float .f64 0):=A1 f rfl;have x9:wr.cell? ⟨bx,9,none⟩=some (I J (-1-(mk:Int))):=A1 f rfl;have az:wr.cell? ⟨bx,10,none⟩=some (.string ⟨#[]⟩):=A1 f rfl;have aA:wr.cell? ⟨bx,11,none⟩=some (I J 0):=A1 f rfl;have aB:wr.cell? ⟨bx,12,none⟩=some (.float .f64 0):=A1 f rfl;have aw:(q:Int)<n:=O;have g0:=fun W=>A1w (P:=Tryz.prog) 9998 22 0 _ W Tryz.underlying22 (by decide +kernel);clear d f E c l p;go_wp2_with fail;refine A5 13 (fun W=>W.cell? ⟨k,4,none⟩=some (.slice (some ⟨b,ow,none⟩) A fc)∧W.cell? ⟨b,ow+t*2,none⟩=some (.slice (some ⟨g,o,none⟩) n lc)∧W.cell? ⟨g,o+q*13,none⟩=some (.string ⟨#[]⟩)∧W.cell? ⟨g,o+q*13+1,none⟩=some (I J 0)∧W.cell? ⟨g,o+q*13+2,none⟩=some (I J 0)∧W.cell? ⟨g,o+q*13+3,none⟩=some (.bool false)∧W.cell? ⟨g,o+q*13+4,none⟩=some (.string ⟨#[]⟩)∧W.cell? ⟨g,o+q*13+5,none⟩=some (I J 0)∧W.cell? ⟨g,o+q*13+6,none⟩=some (I J 0)∧W.cell? ⟨g,o+q*13+7,none⟩=some (.float .f64 0)∧W.cell? ⟨g,o+q*13+8,none⟩=some (.float .f64 0)∧W.cell? ⟨g,o+q*13+9,none⟩=some (I J (-1-(mk:Int)))∧W.cell? ⟨g,o+q*13+10,none⟩=some (.string ⟨#[]⟩)∧W.cell? ⟨g,o+q*13+11,none⟩=some (I J 0)∧W.cell? ⟨g,o+q*13+12,none⟩=some (.float .f64 0)∧W.cell? ⟨bx,0,none⟩=some (.string ⟨#[]⟩)∧W.cell? ⟨bx,1,none⟩=some (I J 0)∧W.cell? ⟨bx,2,none⟩=some (I J 0)∧W.cell? ⟨bx,3,none⟩=some (.bool false)∧W.cell? ⟨bx,4,none⟩=some (.string ⟨#[]⟩)∧W.cell? ⟨bx,5,none⟩=some (I J 0)∧W.cell? ⟨bx,6,none⟩=some (I J 0)∧W.cell? ⟨bx,7,none⟩=some (.float .f64 0)∧W.cell? ⟨bx,8,none⟩=some (.float .f64 0)∧W.cell? ⟨bx,9,none⟩=some (I J (-1-(mk:Int)))∧W.cell? ⟨bx,10,none⟩=some (.string ⟨#[]⟩)∧W.cell? ⟨bx,11,none⟩=some (I J 0)∧W.cell? ⟨bx,12,none⟩=some (.float .f64 0)) U ⟨m1,m2,d0,d1,d2,d3,d4,d5,d6,d7,d8,d9,d10,d11,d12,x0,x1,x2,x3,x4,x5,x6,x7,x8,x9,az,aA,aB⟩ (fun hH=>?_);refine A2 0 ?_;refine A2 1 ?_;refine A2 2 ?_;refine A2 3 ?_;refine A2 4 ?_;refine A2 5 ?_;refine A2 6 ?_;refine A2 7 ?_;refine A2 8 ?_;refine A2 9 ?_;refine A2 10 ?_;refine A2 11 ?_;refine A2 12 ?_;refine J5 ?_;clear hH;go_wp2_with fail;go_roundw;case rel=>exact⟨q+1,O,Zn,⟨m.o.os,m.o.tape,m.o.output,m.o.size,m.o.block⟩⟩
       case measure=>simp[RowKit.intOf];omega
      ·clear l p;go_wp2_with fail;go_roundw;case rel=>exact⟨t+1,O,Zn,af.o⟩
       case measure=>simp[RowKit.intOf];omega
    ·have ax:t=A:=O;clear a;go_wp2_with fail;go_ret;exact⟨rfl,ay.o⟩
end
end Mn
end Go.Proofs.YtilcmkiihefkkaaGreatDoor
