import Derived.Lib.BufferWrite
import Derived.Test.YtilcmkiihefkkaaGreatDoorJf17
set_option linter.unusedVariables false
set_option linter.unusedSimpArgs false
set_option maxRecDepth 1000000
set_option maxHeartbeats 64000000
open Go.Value renaming int→I
open Go.IntKind renaming i64→J
namespace Go.Proofs.YtilcmkiihefkkaaGreatDoor
namespace Mn
section
open Go.RowKit
theorem A31 {w:World}{B g n:Nat}(h:B≤g):Below B w (w.freeze ⟨g,0,none⟩ n):=by
 unfold World.freeze
 split
 ·exact Below.refl _ _
 ·refine⟨rfl,rfl,rfl,Zs,?_⟩
  intro k hk
  simp only[Array.getElem?_modify]
  rw[if_neg O]
theorem A4O {w:World}{B g:Nat}(cs:Array Value)(h:B≤g):Below B w (w.setRow g cs):=
 ⟨rfl,rfl,rfl,Zs,fun k hk=>setRow_other w g k cs O⟩
theorem A59 (s:ByteArray)(w1:World)(g:Nat)(cur:Array Value)(ty:TypeId)(h1:1≤s.size)(i:s.size≤8000)(d:w1.heap[g]?=some (.cells cur 5 (0,0)))(k:cur.size=s.size) :
 (Builtin.unsafeString_ #[309,3] ty #[.pointer (some ⟨g,0,none⟩),I J s.size]).run Tryz.prog (w1.setRow g (Lib.byteCells s.data.toList++List.drop s.size cur.toList).toArray)=.ok (.string s) ((w1.setRow g (Lib.byteCells s.data.toList++List.drop s.size cur.toList).toArray).freeze ⟨g,0,none⟩ s.size):=by
 have c:=setRow_heap w1 g cur (Lib.byteCells s.data.toList++List.drop s.size cur.toList).toArray 5 (0,0) d
 have a:=D8 s
 have hlen:(Lib.byteCells s.data.toList++List.drop s.size cur.toList).toArray.size=s.size:=by simp[Lib.byteCells_length];omega
 have:=Lib.run_unsafeString_row (P:=Tryz.prog) (w1.setRow g (Lib.byteCells s.data.toList++List.drop s.size cur.toList).toArray) 309 3 ty 5 Tryz.underlying309 U g s.size (by unfold World.shape?;rw[c];simp only[hlen]) s.data.toList (by intro h;rw[h]at a;simp at a;omega) O O (by
  intro j x b
  rw[Addr.add_lit,Nat.zero_add]
  refine A1 c ?_
  have f:j<s.data.toList.length:=by
   rcases Nat.lt_or_ge j s.data.toList.length with h|h
   ·exact h
   ·rw[List.getElem?_eq_none h]at b;exact absurd b Zs
  rw[List.getElem?_toArray,List.getElem?_append_left (by rw[Lib.byteCells_length];exact f)]
  unfold Lib.byteCells
  rw[List.getElem?_map,b]
  rfl)
 rw[a,A1T]at this
 exact this
theorem A8w (s:ByteArray)(w:World)(h1:1≤s.size)(d:s.size≤8000) :
 Calls Tryz.prog 143 #[.string s] w fun e w'=>e=.returned (.string s)∧Below w.heap.size w w':=by
 obtain⟨i0,hi,f,c,i⟩:=info_parts Tryz.info5
 have c0:(s.size:Int)≠0:=O
 have c1:(0:Int)<s.size:=O
 go_enter Tryz.func143,Tryz.ntmps143
 go_wp2_with (at_make;refine wpList_make_full _ rfl _ _ 63 rfl w.heap.size 5 i0 (.int .u8 0) 1 Tryz.underlying63 hi f c .i64 .i64 s.size s.size s.size rfl rfl rfl rfl (by rw[i];omega) (by unfold maxLen;omega) Zs ?_;intro w1 j l;obtain⟨cur,a,b⟩:∃cur,w1.heap[w.heap.size]?=some (.cells cur 5 (0,0))∧cur.size=s.size:=(by
  rcases j.2 with⟨h,_⟩|⟨g,cap,cur,h,_,a,_,_,b,_⟩
  ·simp at h
  ·simp only[Value.slice.injEq,Option.some.injEq,Addr.mk.injEq,and_true,true_and]at h
   obtain⟨rfl,rfl⟩:=h
   exact⟨cur,a,by simpa using b⟩);have m:=fun ty=>Lib.run_copy_row_string (P:=Tryz.prog) w1 63 9 ty 5 w.heap.size 0 s.size s.size s cur 5 Tryz.underlying63 (by rw[hi];simp[c]) a (Nat.le_refl _) O;simp only[List.take_zero,List.nil_append,Nat.zero_add]at m;have o:=fun ty=>A59 s w1 w.heap.size cur ty h1 d a b)
 go_ret
 refine⟨rfl,?_⟩
 have n:=(Below.refl w.heap.size w).grown l (Nat.le_refl _) (fun k hk=>by cases hk)
 exact(n.trans (A4O _ (Nat.le_refl _))).trans (A31 (Nat.le_refl _))
theorem A09 (s:ByteArray)(w:World)(h1:1≤s.size)(a:s.size≤8000) :
 Calls Tryz.prog 107 #[.string s] w fun e w'=>e=.returned (.string s)∧Below w.heap.size w w':=by
 go_enter Tryz.func107,Tryz.ntmps107
 go_wp2_with (go_at_call 143;refine(A8w s _ h1 a).mono ?_;rintro e w' ⟨rfl,b⟩)
 go_ret
 exact⟨rfl,b⟩
structure S2 where
 n:ByteArray
 b:ByteArray
def B4 (L:List S2):List Value:=L.flatMap fun x=>[.string x.n,.string x.b]
theorem A02 (E F:List S2):B4 (E++F)=B4 E++B4 F:=by simp[B4]
theorem X5 (E:List S2):(B4 E).length=E.length*2:=by
 induction E with
 |nil=>rfl
 |cons x E a=>
  show(Value.string x.n::Value.string x.b::B4 E).length=_;simp only[List.length_cons,a];omega
theorem A1Z (E:List S2):∀j (h:j<E.length),(B4 E)[2*j]?=some (.string E[j].n)∧(B4 E)[2*j+1]?=some (.string E[j].b):=by
 induction E with
 |nil=>intro j h;exact absurd h Zs
 |cons x E a=>
  intro j h;cases j with
  |zero=>exact⟨rfl,rfl⟩
  |succ j=>
   have:=a j (by simpa using h);show(Value.string x.n::Value.string x.b::B4 E)[2*(j+1)]?=_∧(Value.string x.n::Value.string x.b::B4 E)[2*(j+1)+1]?=_;rw[show 2*(j+1)=2*j+1+1 by omega];simpa using this
theorem A2B (X:List S2)(cur:Array Value)(o:Nat):(∀i u,(B4 X)[i]?=some u→cur[o+i]?=some u)↔∀q (h:q<X.length),cur[o+2*q]?=some (.string X[q].n)∧cur[o+(2*q+1)]?=some (.string X[q].b):=by
 constructor
 ·intro h q a;have:=A1Z X q a;exact⟨h _ _ this.1,h _ _ this.2⟩
 ·intro h i u hi;have f:i<X.length*2:=by
   rcases Nat.lt_or_ge i (B4 X).length with c|c
   ·rwa [X5]at c
   ·rw[List.getElem?_eq_none c]at hi;exact absurd hi Zs
  have a:i/2<X.length:=O;have h1:=A1Z X (i/2) a;have d:=h (i/2) a;rcases (show i=2*(i/2)∨i=2*(i/2)+1 by omega) with he|he
  ·rw[he]at hi⊢;rw[h1.1]at hi;rw[d.1];exact hi
  ·rw[he]at hi⊢;rw[h1.2]at hi;rw[d.2];exact hi
theorem A3.seqs {w:World}{base g o cap n:Nat}{L:List S2}(h:A3 w base 88 2 (.slice (some ⟨g,o,none⟩) n cap) n (B4 L)) :
 ∀j (a:j<L.length),w.cell? ⟨g,o+j*2,none⟩=some (.string L[j].n)∧w.cell? ⟨g,o+j*2+1,none⟩=some (.string L[j].b):=by
 rcases h.2 with⟨h,_⟩|⟨_,_,_,cur,he,h1,c,f,i,k,d⟩
 ·simp at h
 ·simp only[Value.slice.injEq,Option.some.injEq,Addr.mk.injEq,and_true,true_and]at he;obtain⟨⟨rfl,rfl⟩,rfl⟩:=he;intro j a;have:=A1Z L j a;rw[Nat.mul_comm];exact⟨A1 c (d _ _ this.1),A1 c (d _ _ this.2)⟩
def X2 (L:List S2)(s:ByteArray):Prop:=∃x∈L,x.n=s
theorem B0T (L:List S2)(s:ByteArray)(base:Nat)(v:Value)(w:World)(z:L.length<4398046511104)
 (f:A3 w base 88 2 v L.length (B4 L)) :
 Calls Tryz.prog 35 #[v,.string s] w fun e w'=>((X2 L s∧e=.returned (.bool true))∨(¬X2 L s∧e=.returned (.bool false)))∧w'=w:=by
 obtain⟨n,d⟩:=A8 L.length;have q:=A4 d;have l:Hd (A3 w base 88 2 v n (B4 L)):=by rw[←d]at f;exact f
 obtain⟨m,c,A⟩:∃m c,v=.slice m n c:=by
  rcases l.o.2 with⟨h,B⟩|⟨g,o,cap,cur,h,_⟩
  ·exact⟨_,_,by rw[h,B]⟩
  ·exact⟨_,_,h⟩
 subst A;rw[←d]at z;clear f d;go_enter Tryz.func35,Tryz.ntmps35;go_wp2;go_loop [5] (fun i=>∃k:Nat,k≤n∧i=I J k∧∀j (a:j<L.length),j<k→L[j].n≠s) (fun i=>n-(intOf i).toNat);case atStart=>exact⟨0,Nat.zero_le _,rfl,fun j a h=>absurd h O⟩
 case round=>
  obtain⟨k,hk,rfl,r⟩:=hrel;have t:=A4 r;clear r;by_cases C:k<n
  ·have u:k<L.length:=by rw[←q.o];exact C
   obtain⟨g,o,D⟩:∃g o,m=some ⟨g,o,none⟩:=by
    rcases l.o.2 with⟨_,h⟩|⟨g,o,cap,cur,h,_⟩
    ·omega
    ·simp only[Value.slice.injEq]at h;exact⟨g,o,h.1⟩
   subst D;obtain⟨E,_⟩:=l.o.seqs k u;have M:(k:Int)<n:=O;obtain⟨h,p⟩:=A8 (L[k].n);have y:=A4 p;rw[←p]at E;clear p;cases he:(h.toList==s.toList)
   ·have b:Hd (h≠s):=fun e=>by rw[e]at he;simp at he
    go_wp2;go_round;case rel=>
     refine⟨k+1,O,Zn,fun j a h=>?_⟩;by_cases F:j<k
     ·exact t.o j a F
     ·obtain rfl:j=k:=O;rw[←y.o];exact b.o
    case measure=>simp[intOf];omega
   ·have b:Hd (X2 L s):=⟨L[k],List.getElem_mem u,by
     rw[←y.o];have:=eq_of_beq he;rw[ByteArray.toList_eq,ByteArray.toList_eq]at this;exact WideShapes.bytes_inj this⟩
    go_wp2;go_ret;exact⟨Or.inl ⟨b.o,rfl⟩,rfl⟩
  ·have b:Hd (¬X2 L s):=by
    rintro⟨x,G,H⟩;obtain⟨j,a,K⟩:=List.getElem_of_mem G;exact t.o j a (by have:=q.o;omega) (by rw[K];exact H)
   go_wp2;go_ret;exact⟨Or.inr ⟨b.o,rfl⟩,rfl⟩
theorem Tryz.info9:(Tryz.prog.info? 9).map (fun i=>(i.zero,i.size,i.bytes))=some (some (.string ⟨#[]⟩),1,16):=U
def V5 (L:List ByteArray):List Value:=L.map .string
theorem I9.below {w w':World}{v:Value}{g' base:Nat}(h:I9 w w' v g')(hv:∀g,v.ownBlock=some g→base≤g)(hb:base≤w.heap.size):Below base w w':=
 ⟨h.os,h.tape,h.output,h.size,fun j hj=>h.other j O (fun he=>by have:=hv j he;omega)⟩
theorem A1k (W:World)(x:Value)(t:TypeId)(s:Nat)(hs:s=W.heap.size):∀j u,([x]:List Value)[j]?=some u→(W.alloc (.cells #[x] t)).cell? ((⟨s,0,none⟩:Addr).add j)=some u:=by
 intro j u hj;subst hs;rw[Addr.add_lit,Nat.zero_add];refine A1 (heap_alloc_new W _) ?_;simpa using hj
theorem A1R (x:ByteArray):∀u∈([.string x]:List Value),u.oneCell'=true:=by
 intro u hu;simp at hu;subst hu;rfl
def A1n (cur:ByteArray)(l:List UInt8):List ByteArray:=(F4 cur.data.toList l).map fun l=>⟨l.toArray⟩
theorem A7T (s:ByteArray)(k:Nat)(h:k<s.size)(cur:ByteArray)(hc:s[k]=10):A1n cur (s.data.toList.drop k)=cur::A1n ⟨#[]⟩ (s.data.toList.drop (k+1)):=by
 have hl:=D8 s;unfold A1n;rw[List.drop_eq_getElem_cons O,F4,if_pos (by rw[←hc];rw[Array.getElem_toList];rfl),List.map_cons,A1T]
theorem A9s (s:ByteArray)(k:Nat)(h:k<s.size)(cur:ByteArray)(hc:s[k]≠10):A1n cur (s.data.toList.drop k)=A1n (cur++s.extract k (k+1)) (s.data.toList.drop (k+1)):=by
 have hl:=D8 s;have hk:k<s.data.toList.length:=O;have hg:s.data.toList[k]=s[k]:=by rw[Array.getElem_toList];rfl
 unfold A1n;rw[List.drop_eq_getElem_cons hk,F4,if_neg (by rw[hg];exact hc)];congr 2;rw[ByteArray.data_append,Array.toList_append,I6];congr 1;rw[List.drop_eq_getElem_cons hk,show k+1-k=1 by omega];rfl
theorem A7W (s:ByteArray)(w:World)(hs:s.size≤8000) :
 Calls Tryz.prog 70 #[.string s] w fun e w'=>∃v,e=.returned v∧A3 w' w.heap.size 9 1 v (F2 s).length (V5 (F2 s))∧Below w.heap.size w w':=by
 obtain⟨i0,hi,hz0,hz1,hz2⟩:=info_parts Tryz.info9;go_enter Tryz.func70,Tryz.ntmps70;go_wp2;go_loopw [3,4,5] (fun v x i wx=>∃(k:Nat) (D:List ByteArray) (cur:ByteArray),k≤s.size∧i=I J k∧x=.string cur∧cur.size≤k∧D.length≤k∧A3 wx w.heap.size 9 1 v D.length (V5 D)∧D++A1n cur (s.data.toList.drop k)=F2 s∧Below w.heap.size w wx) (fun _ _ i _=>s.size-(intOf i).toNat);case atStart=>exact⟨0,[],⟨#[]⟩,Nat.zero_le _,rfl,rfl,Nat.zero_le _,Nat.zero_le _,A3.nil _ _ _ _,rfl,Below.refl _ _⟩
 case round=>
  obtain⟨k,D,cur,hk,rfl,rfl,hcs,hDl,hown,heq,hbel⟩:=hrel;have HEQ:=A4 heq;have HBL:=A4 hbel;have HOW:=A4 hown;obtain⟨ao,c,hv⟩:∃ao c,u3=.slice ao D.length c:=by
   rcases hown.2 with⟨h,h0⟩|⟨g,o,cap,cur,h,_⟩
   ·exact⟨_,_,by rw[h,h0]⟩
   ·exact⟨_,_,h⟩
  obtain⟨n,hn⟩:=A8 D.length;have HN:=A4 hn;rw[←hn]at hv hown hDl;subst hv;have hsz:=hbel.size;clear heq hbel hn;by_cases hlt:k<s.size
  ·have hb256:s[k].toNat<256:=s[k].toNat_lt;by_cases hc:s[k]=10
   ·have d1:(s[k].toNat:Int)=10:=by rw[hc];rfl
    have HST:=A7T s k hlt cur hc;rw[HST]at HEQ;clear HST;go_wp2_with (at_builtin;refine B5 _ rfl (.tmp 16) (.tmp 18) 58 rfl 9 i0 _ 1 16 Tryz.underlying58 hi hz0 hz1 hz2 rfl Z w.heap.size (.slice ao n c) n (V5 D) rfl (by exact hown.other (fun g _ hlt=>Below.heap_alloc _ _ _ hlt)) ⟨wr.heap.size,0,none⟩ 1 [.string cur] rfl rfl (by exact A1k _ _ _ _ rfl) (A1R cur) (by unfold maxLen;omega) O Zo ?_;intro g' o' cap' w8 hown' hfr);go_roundw;case rel=>
     refine⟨k+1,D++[cur],⟨#[]⟩,O,Zn,rfl,Nat.zero_le _,by rw[List.length_append,←HN.o];show n+1≤_;omega,?_,?_,?_⟩
     ·rw[List.length_append,←HN.o];have e:V5 (D++[cur])=V5 D++[.string cur]:=by simp[V5]
      rw[e];exact hown'
     ·rw[List.append_assoc];exact HEQ.o
     ·exact(HBL.o.alloc HBL.o.size _).trans (hfr.below (fun g hg=>(HOW.o.lt hg).1) Zo)
    case measure=>simp[intOf];omega
   ·have d1:¬(s[k].toNat:Int)=10:=by
     intro h;apply hc;have:s[k].toNat=10:=O;exact UInt8.toNat_inj.1 (by rw[this];rfl)
    have HST:=A9s s k hlt cur hc;rw[HST]at HEQ;have c4:(k:Int)+1≤s.size:=O;clear HST;go_wp2;go_roundw;case rel=>
     refine⟨k+1,D,_,O,Zn,rfl,?_,by rw[←HN.o];omega,HOW.o,HEQ.o,HBL.o⟩;rw[ByteArray.size_append,ByteArray.size_extract];omega
    case measure=>simp[intOf];omega
  ·have HD:Hd (s.data.toList.drop k=[]):=List.drop_eq_nil_of_le (by rw[D8];omega);cases he:(cur.toList==([]:List UInt8))
   ·have HC:Hd (F2 s=D++[cur]):=by
     show _=_;rw[←HEQ.o,HD.o];unfold A1n;have:cur.data.toList≠[]:=by
      intro h;rw[ByteArray.toList_eq,h]at he;simp at he
     rw[F4,if_neg this,List.map_cons,A1T];rfl
    go_wp2_with (at_builtin;refine B5 _ rfl (.tmp 29) (.tmp 31) 58 rfl 9 i0 _ 1 16 Tryz.underlying58 hi hz0 hz1 hz2 rfl Z w.heap.size (.slice ao n c) n (V5 D) rfl (by exact hown.other (fun g _ hlt=>Below.heap_alloc _ _ _ hlt)) ⟨wr.heap.size,0,none⟩ 1 [.string cur] rfl rfl (by exact A1k _ _ _ _ rfl) (A1R cur) (by unfold maxLen;omega) O Zo ?_;intro g' o' cap' w8 hown' hfr);go_ret;refine⟨_,rfl,?_,?_⟩
    ·rw[HC.o,List.length_append,←HN.o];have e:V5 (D++[cur])=V5 D++[.string cur]:=by simp[V5]
     rw[e];exact hown'
    ·exact(HBL.o.alloc HBL.o.size _).trans (hfr.below (fun g hg=>(HOW.o.lt hg).1) Zo)
   ·have HC:Hd (F2 s=D):=by
     show _=_;rw[←HEQ.o,HD.o];unfold A1n;have:cur.data.toList=[]:=by
      have:=eq_of_beq he;rwa [ByteArray.toList_eq]at this
     rw[F4,if_pos this];simp
    go_wp2;go_ret;refine⟨_,rfl,?_,HBL.o⟩;rw[HC.o];have:=HOW.o;rw[←HN.o]at this⊢;exact this
def tl (x:ByteArray):ByteArray:=x.extract 1 x.size
theorem A7c (x:ByteArray):(tl x).size≤x.size:=by
 unfold tl;rw[ByteArray.size_extract];omega
def A4G (L:List S2)(x:ByteArray):List S2:=L.dropLast++(L.getLast?.map fun y=>⟨y.n,y.b++x⟩).toList
theorem S6 (A:List S2)(y:S2)(x:ByteArray):A4G (A++[y]) x=A++[⟨y.n,y.b++x⟩]:=by simp[A4G]
theorem Y9 {L:List S2}(h:L≠[]):∃A y,L=A++[y]:=by
 rcases List.eq_nil_or_concat L with a|⟨A,y,a⟩
 ·exact absurd a h
 ·exact⟨A,y,by simpa using a⟩
def B2S (x:ByteArray):Decidable (G6 x):=by unfold G6;infer_instance
def B2n (x:ByteArray):Decidable (E7 x):=by unfold E7;infer_instance
def B2O (L:List S2)(x:ByteArray):Decidable (X2 L x):=by unfold X2;infer_instance
def B2q (x:ByteArray):Decidable (good x):=by unfold good;infer_instance
def B2P (L:List S2):Decidable (L=[]):=match L with
 |[]=>isTrue rfl
 |_::_=>isFalse (fun h=>by cases h)
def E6 (L:List S2)(x:ByteArray):Nat×List S2:=
 @ite _ (G6 x) (B2S x) (@ite _ (E7 (tl x)) (B2n (tl x)) (@ite _ (X2 L (tl x)) (B2O L (tl x)) (5,[]) (0,L++[⟨tl x,⟨#[]⟩⟩])) (4,[]))
  (@ite _ (L=[]) (B2P L) (3,[]) (@ite _ (good x) (B2q x) (0,A4G L x) (2,[])))
def D6:Nat→List S2→List ByteArray→List S2×Nat×Nat
 |_,L,[]=>(L,0,0)
 |i,L,x::r=>if (E6 L x).1=0 then D6 (i+1) (E6 L x).2 r else([],(E6 L x).1,i)
theorem A0i {L:List S2}{x:ByteArray}(h:G6 x)(h1:¬E7 (tl x)):E6 L x=(4,[]):=by
 unfold E6;rw[if_pos h,if_neg h1]
theorem W6 {L:List S2}{x:ByteArray}(h:G6 x)(h1:E7 (tl x))(a:X2 L (tl x)):E6 L x=(5,[]):=by
 unfold E6;rw[if_pos h,if_pos h1,if_pos a]
theorem W9 {L:List S2}{x:ByteArray}(h:G6 x)(h1:E7 (tl x))(a:¬X2 L (tl x)):E6 L x=(0,L++[⟨tl x,⟨#[]⟩⟩]):=by
 unfold E6;rw[if_pos h,if_pos h1,if_neg a]
theorem T7 {L:List S2}{x:ByteArray}(h:¬G6 x)(h1:L=[]):E6 L x=(3,[]):=by
 unfold E6;rw[if_neg h,if_pos h1]
theorem T9 {L:List S2}{x:ByteArray}(h:¬G6 x)(h1:L≠[])(a:¬good x):E6 L x=(2,[]):=by
 unfold E6;rw[if_neg h,if_neg h1,if_neg a]
theorem Q8 {L:List S2}{x:ByteArray}(h:¬G6 x)(h1:L≠[])(a:good x):E6 L x=(0,A4G L x):=by
 unfold E6;rw[if_neg h,if_neg h1,if_pos a]
theorem P4 {i:Nat}{L:List S2}{x:ByteArray}{r:List ByteArray}{e:Nat}(h:E6 L x=(e,[]))(he:e≠0):D6 i L (x::r)=([],e,i):=by
 rw[D6,h,if_neg he]
theorem A17 {i:Nat}{L a:List S2}{x:ByteArray}{r:List ByteArray}(h:E6 L x=(0,a)):D6 i L (x::r)=D6 (i+1) a r:=by
 rw[D6,h,if_pos rfl]
theorem A0v:∀(l cur:List UInt8),∀x∈F4 cur l,x.length≤cur.length+l.length
 |[],cur,x,h=>by
  rw[F4]at h
  split at h
  ·simp at h
  ·simp at h;subst h;simp
 |c::r,cur,x,h=>by
  rw[F4]at h
  split at h
  ·rw[List.mem_cons]at h
   rcases h with rfl|h
   ·simp
   ·have:=A0v r [] x h
    simp at this⊢
    omega
  ·have:=A0v r (cur++[c]) x h
   simp at this⊢
   omega
theorem A2j (s:ByteArray):∀x∈F2 s,x.size≤s.size:=by
 intro x a;unfold F2 at a;rw[List.mem_map]at a;obtain⟨l,b,rfl⟩:=a;have:=A0v s.data.toList [] l b;rw[D8]at this;show l.toArray.size≤_;simp at this⊢;exact this
theorem A00 (s:ByteArray):(F2 s).length≤s.size:=by
 unfold F2;rw[List.length_map];have:=P7 s.data.toList [];rw[D8]at this;simpa using this
theorem A5f (L:List S2)(x:ByteArray):(A4G L x).length=L.length:=by
 by_cases h:L=[]
 ·subst h;rfl
 ·obtain⟨A,y,rfl⟩:=Y9 h;rw[S6];simp
theorem Tryz.info88:(Tryz.prog.info? 88).map (fun i=>(i.zero,i.size,i.bytes))=some (some (.agg #[.string ⟨#[]⟩,.string ⟨#[]⟩]),2,32):=U
theorem A3.set2 {w:World}{base g o n cap:Nat}{X:List S2}(h:A3 w base 88 2 (.slice (some ⟨g,o,none⟩) n cap) n (B4 X))(t:X.length=n)(j:Nat)(u:j<n)(y:S2) :
 A3 ((w.setCell ⟨g,o+j*2,none⟩ (.string y.n)).setCell ⟨g,o+j*2+1,none⟩ (.string y.b)) base 88 2 (.slice (some ⟨g,o,none⟩) n cap) n (B4 (X.set j y)):=by
 obtain⟨a,h⟩:=h;refine⟨by rw[X5]at a⊢;rw[List.length_set];exact a,?_⟩;rcases h with⟨h,_⟩|⟨g',o',cap',cur,he,h1,l,c,m,d,f⟩
 ·simp at h
 ·simp only[Value.slice.injEq,Option.some.injEq,Addr.mk.injEq,and_true,true_and]at he;obtain⟨⟨rfl,rfl⟩,rfl⟩:=he;have p:=(D7.of_setCell (i:=o+j*2) (.string y.n) l).setCell (i:=o+j*2+1) (.string y.b);refine Or.inr ⟨g,o,cap,_,rfl,h1,p.here,c,m,by simpa using d,?_⟩;rw[A2B]at f⊢;intro q r;rw[List.length_set]at r;have v:o+n*2≤cur.size:=Nat.le_trans (Nat.add_le_add_left (Nat.mul_le_mul_right 2 c) o) d;by_cases k:q=j
  ·subst k;simp only[List.getElem_set_self];refine⟨?_,?_⟩
   ·rw[Array.getElem?_setIfInBounds_ne O,show o+2*q=o+q*2 by omega,Array.getElem?_setIfInBounds_self_of_lt O]
   ·rw[show o+(2*q+1)=o+q*2+1 by omega,Array.getElem?_setIfInBounds_self_of_lt Zo]
  ·have s:j≠q:=fun h=>k h.symm;have:=f q O;rw[List.getElem_set_ne s];refine⟨?_,?_⟩
   ·rw[Array.getElem?_setIfInBounds_ne O,Array.getElem?_setIfInBounds_ne O];exact this.1
   ·rw[Array.getElem?_setIfInBounds_ne O,Array.getElem?_setIfInBounds_ne O];exact this.2
theorem A2n (x y:ByteArray):∀u∈([.string x,.string y]:List Value),u.oneCell'=true:=by
 intro u hu;simp at hu;rcases hu with rfl|rfl<;>rfl
theorem A3l (W:World)(x y:Value)(t:TypeId)(s:Nat)(hs:s=W.heap.size):∀j u,([x,y]:List Value)[j]?=some u→(W.alloc (.cells #[x,y] t)).cell? ((⟨s,0,none⟩:Addr).add j)=some u:=by
 intro j u a;subst hs;rw[Addr.add_lit,Nat.zero_add];refine A1 (heap_alloc_new W _) ?_;simpa using a
def Small (L:List S2)(k:Nat):Prop:=∀y∈L,y.b.size≤8000*k
theorem Small.mono {L:List S2}{k a:Nat}(h:Small L k)(hk:k≤a):Small L a:=fun y b=>Nat.le_trans (h y b) (Nat.mul_le_mul_left _ hk)
theorem A3.low {w:World}{base a:Nat}{e:TypeId}{size:Nat}{v:Value}{n:Nat}{xs:List Value}(h:A3 w base e size v n xs)(d:a≤base):A3 w a e size v n xs:=by
 obtain⟨b,h⟩:=h;refine⟨b,?_⟩;rcases h with⟨rfl,rfl⟩|⟨g,o,cap,cur,rfl,h1,c⟩
 ·exact Or.inl ⟨rfl,rfl⟩
 ·exact Or.inr ⟨g,o,cap,cur,rfl,O,c⟩
def A7 (s:ByteArray):List S2×Nat×Nat:=if 8000<s.size then([],1,0) else D6 0 [] (F2 s)
theorem A1g (s:ByteArray)(w:World)(hs:s.size≤140737488351232) :
 Calls Tryz.prog 38 #[.string s] w fun e w'=>∃v,e=.returned (.tuple #[v,I J (A7 s).2.1,I J (A7 s).2.2])∧A3 w' w.heap.size 88 2 v (A7 s).1.length (B4 (A7 s).1)∧((A7 s).2.1≠0→v=.slice none 0 0)∧Below w.heap.size w w':=by
 obtain⟨i0,hi,az,aA,aB⟩:=info_parts Tryz.info88;by_cases h8:8000<s.size
 ·have HR:Hd (A7 s=([],1,0)):=by show _=_;unfold A7;rw[if_pos h8]
  have c1:(8000:Int)<s.size:=O;go_enter Tryz.func38,Tryz.ntmps38;go_wp2;go_ret3;rw[HR.o];exact⟨_,rfl,A3.nil _ _ _ _,fun _=>rfl,Below.refl _ _⟩
 ·have HR:Hd (A7 s=D6 0 [] (F2 s)):=by show _=_;unfold A7;rw[if_neg h8]
  have aC:s.size≤8000:=O;have c1:¬(8000:Int)<s.size:=O;go_enter Tryz.func38,Tryz.ntmps38;go_wp2_with fail;refine(A7W s w aC).mono ?_;rintro e w1 ⟨lv,rfl,M,ac⟩;have aq:=A00 s;have ad:=A2j s;obtain⟨LS,ae⟩:=A8 (F2 s);rw[←ae]at M aq ad;have aD:Hd (A7 s=D6 0 [] LS):=by rw[ae];exact HR.o
  obtain⟨N,hN⟩:=A8 LS.length;have HN:=A4 hN;rw[←hN]at M aq;obtain⟨aE,lc,aF⟩:∃F c,lv=.slice F N c:=by
   rcases M.2 with⟨h,h0⟩|⟨g,o,cap,cur,h,_⟩
   ·exact⟨_,_,by rw[h,h0]⟩
   ·exact⟨_,_,h⟩
  subst aF;have aG:=A4 M;have aH:=A4 ad;have aI:=A4 ac;have ar:=ac.size;clear M ad ac hN ae HR;go_wp2;go_loopw [5,7] (fun v i wx=>∃(k:Nat) (L:List S2),k≤N∧i=I J k∧L.length≤k∧Small L k∧A3 wx w1.heap.size 88 2 v L.length (B4 L)∧A7 s=D6 k L (LS.drop k)∧Below w1.heap.size w1 wx) (fun _ i _=>N-(intOf i).toNat);case atStart=>exact⟨0,[],Nat.zero_le _,rfl,Nat.zero_le _,fun y C=>absurd C Zs,A3.nil _ _ _ _,aD.o,Below.refl _ _⟩
  case round=>
   obtain⟨k,L,hk,rfl,aJ,au,l,av,ab⟩:=hrel;have u:=A4 av;have P:=A4 ab;have Q:=A4 au;have aU:=ab.size;have G:Hd (Below w.heap.size w wr):=aI.o.trans (ab.mono ar);obtain⟨F,c,hv⟩:∃F c,u5=.slice F L.length c:=by
    rcases l.2 with⟨h,h0⟩|⟨g,o,cap,cur,h,_⟩
    ·exact⟨_,_,by rw[h,h0]⟩
    ·exact⟨_,_,h⟩
   obtain⟨n,hn⟩:=A8 L.length;have q:=A4 hn;have R:=A4 l;rw[←hn]at hv l aJ;subst hv;clear av ab au hn;by_cases aK:k<N
   ·have af:k<LS.length:=by rw[←HN.o];exact aK
    have aV:(k:Int)<N:=O;obtain⟨lg,lo,aL,aM,ag⟩:∃g o,aE=some ⟨g,o,none⟩∧g<w1.heap.size∧w1.cell? ⟨g,o+k,none⟩=some (.string LS[k]):=by
     rcases aG.o.2 with⟨_,h⟩|⟨g,o,cap,cur,h,_,p,_,_,_,h6⟩
     ·omega
     ·simp only[Value.slice.injEq]at h;refine⟨g,o,h.1,lt_of_block p,A1 p (h6 _ _ ?_)⟩;unfold V5;rw[List.getElem?_map,List.getElem?_eq_getElem af];rfl
    subst aL;have aN:=aH.o LS[k] (List.getElem_mem af);have B:Hd (LS.drop k=LS[k]::LS.drop (k+1)):=List.drop_eq_getElem_cons af;obtain⟨x,hx⟩:=A8 (LS[k]);rw[←hx]at ag aN B;clear hx;have a1:wr.cell? ⟨lg,lo+k,none⟩=some (.string x):=(P.o.cell aM).trans ag;have aW:=A7c x;clear ag;by_cases D:G6 x
    ·have aw:0<x.size:=D.1;have aO:(0:Int)<x.size:=O;have aX:(1:Int)≤x.size:=O;have ax:(x.toList==([]:List UInt8))=false:=by
      rw[ByteArray.toList_eq];cases S:x.data.toList with
      |nil=>have:=D8 x;rw[S]at this;simp at this;omega
      |cons c r=>rfl
     have aP:x[0]=62:=D.2;have d1:(x[0].toNat:Int)=62:=by rw[aP];rfl
     have t:=A4 D;clear D;go_wp2_with fail;refine(A8k (tl x) _ O).mono ?_;rintro e w2 ⟨p,rfl⟩;rcases p with⟨T,rfl⟩|⟨T,rfl⟩
     ·have ay:=A4 T;clear T;go_wp2_with fail;refine(B0T L (tl x) w1.heap.size (.slice F n c) _ (by have:=q.o;omega) R.o).mono ?_;rintro e w3 ⟨V,rfl⟩;rcases V with⟨W,rfl⟩|⟨W,rfl⟩
      ·have a:Hd (A7 s=([],5,k)):=by show _=_;rw[u.o,B.o];exact P4 (W6 t.o ay.o W) Z
       clear W;go_wp2;go_ret3;rw[a.o];exact⟨_,rfl,A3.nil _ _ _ _,fun _=>rfl,G.o⟩
      ·have a:Hd (A7 s=D6 (k+1) (L++[⟨tl x,⟨#[]⟩⟩]) (LS.drop (k+1))):=by show _=_;rw[u.o,B.o];exact A17 (W9 t.o ay.o W)
       clear W;go_wp2_with (at_builtin;refine B5 _ rfl (.tmp 52) (.tmp 55) 77 rfl 88 i0 _ 2 32 Tryz.underlying77 hi az aA aB rfl Z w1.heap.size (.slice F n c) n (B4 L) rfl (by exact l.other (fun g _ aQ=>Below.heap_alloc _ _ _ aQ)) ⟨w3.heap.size,0,none⟩ 1 [.string (tl x),.string ⟨#[]⟩] rfl rfl (by exact A3l _ _ _ _ _ rfl) (A2n _ _) (by unfold maxLen;omega) O Zo ?_;intro g' o' cap' w4 aR aS);go_roundw;case rel=>
        refine⟨k+1,L++[⟨tl x,⟨#[]⟩⟩],O,Zn,by rw[List.length_append,←q.o];show n+1≤_;omega,?_,?_,a.o,?_⟩
        ·intro y C;rw[List.mem_append]at C;rcases C with C|C
         ·exact(Q.o.mono (Nat.le_succ k)) y C
         ·simp at C;subst C;exact Nat.zero_le _
        ·rw[List.length_append,←q.o,A02];exact aR
        ·exact(P.o.alloc P.o.size _).trans (aS.below (fun g hg=>(R.o.lt hg).1) Zo)
       case measure=>simp[intOf];omega
     ·have a:Hd (A7 s=([],4,k)):=by show _=_;rw[u.o,B.o];exact P4 (A0i t.o T) Z
      clear T;go_wp2;go_ret3;rw[a.o];exact⟨_,rfl,A3.nil _ _ _ _,fun _=>rfl,G.o⟩
    ·by_cases aw:0<x.size
     ·have aO:(0:Int)<x.size:=O;have ax:(x.toList==([]:List UInt8))=false:=by
       rw[ByteArray.toList_eq];cases S:x.data.toList with
       |nil=>have:=D8 x;rw[S]at this;simp at this;omega
       |cons c r=>rfl
      have d1:¬(x[0].toNat:Int)=62:=fun h=>D ⟨aw,UInt8.toNat_inj.1 (by have:x[0].toNat=62:=O;rw[this];rfl)⟩;have t:=A4 D;clear D;by_cases X:n=0
      ·have a:Hd (A7 s=([],3,k)):=by show _=_;rw[u.o,B.o];exact P4 (T7 t.o (List.eq_nil_of_length_eq_zero (by rw[←q.o,X]))) Z
       subst X;go_wp2;go_ret3;rw[a.o];exact⟨_,rfl,A3.nil _ _ _ _,fun _=>rfl,G.o⟩
      ·obtain⟨m,rfl⟩:∃m,n=m+1:=⟨n-1,O⟩;have H:Hd (L≠[]):=fun h=>by have:=q.o;rw[h]at this;simp at this
       go_wp2_with fail;refine(A0R x _ O).mono ?_;rintro e w2 ⟨p,rfl⟩;rcases p with⟨j,rfl⟩|⟨j,rfl⟩
       ·have aT:=A4 j;obtain⟨A,y,d⟩:=Y9 H.o;have ah:=A4 d;have ai:y.b.size≤8000*k:=Q.o y (by rw[d];simp);have K:A.length=m:=by have:=q.o;rw[d]at this;simp at this;omega
        have Y:=A4 K;have a:Hd (A7 s=D6 (k+1) (A++[⟨y.n,y.b++x⟩]) (LS.drop (k+1))):=by show _=_;rw[u.o,B.o,A17 (Q8 t.o H.o j),d,S6]
        obtain⟨g,o,aj,ak⟩:∃g o,F=some ⟨g,o,none⟩∧∃cur,w2.heap[g]?=some (.cells cur 88 (0,0))∧o+(m+1)*2≤cur.size:=by
         rcases l.2 with⟨_,h⟩|⟨g,o,cap,cur,h,_,p,V,_,h5,_⟩
         ·omega
         ·simp only[Value.slice.injEq]at h;exact⟨g,o,h.1,cur,p,Nat.le_trans (Nat.add_le_add_left (Nat.mul_le_mul_right 2 V) o) h5⟩
        subst aj;obtain⟨cur,E,al⟩:=ak;obtain⟨b1,b2⟩:=l.seqs m (by rw[d];simp;omega);have aa:L[m]'(by rw[d];simp;omega)=y:=by simp[d,←K]
        rw[aa]at b1 b2;have f1:w2.frozen? ⟨g,o+m*2,none⟩=false:=frozen_of_row _ _ _ _ _ E;have f2:w2.frozen? ⟨g,o+m*2+1,none⟩=false:=frozen_of_row _ _ _ _ _ E;have am:Hd (A3 ((w2.setCell ⟨g,o+m*2,none⟩ (.string y.n)).setCell ⟨g,o+m*2+1,none⟩ (.string (y.b++x))) w1.heap.size 88 2 (.slice (some ⟨g,o,none⟩) (m+1) c) (m+1) (B4 (L.set m ⟨y.n,y.b++x⟩))):=l.set2 (q.o.symm) m O ⟨y.n,y.b++x⟩;have an:Hd (L.set m ⟨y.n,y.b++x⟩=A++[⟨y.n,y.b++x⟩]):=by
         show _=_;rw[d,←K];simp
        have e1:((m+1:Nat):Int)-1=m:=O;have e2:(m:Int)<((m+1:Nat):Int):=O;have ap:∀v1 v2,Hd (Below w1.heap.size w2 ((w2.setCell ⟨g,o+m*2,none⟩ v1).setCell ⟨g,o+m*2+1,none⟩ v2)):=fun v1 v2=>((D7.of_setCell (i:=o+m*2) v1 E).setCell (i:=o+m*2+1) v2).below (R.o.lt rfl).1;have HY:=A4 ai;clear E al d j l aa;go_wp2;go_region;go_wp2;go_roundw;case rel=>
         refine⟨k+1,A++[⟨y.n,y.b++x⟩],O,Zn,by rw[List.length_append,Y.o];show m+1≤_;omega,?_,?_,a.o,?_⟩
         ·intro z f;rw[List.mem_append]at f;rcases f with f|f
          ·exact(Q.o.mono (Nat.le_succ k)) z (by rw[ah.o];simp[f])
          ·simp at f;subst f;show(y.b++x).size≤_;rw[ByteArray.size_append];have:=HY.o;omega
         ·have e:(A++[(⟨y.n,y.b++x⟩:S2)]).length=m+1:=by rw[List.length_append,Y.o];rfl
          rw[e,←an.o];exact am.o.other (fun _ _ _=>rfl)
         ·have:=P.o.trans (ap (.string y.n) (.string (y.b++x))).out;exact⟨this.os,this.tape,this.output,this.size,this.block⟩
        case measure=>simp[intOf];omega
       ·have a:Hd (A7 s=([],2,k)):=by show _=_;rw[u.o,B.o];exact P4 (T9 t.o H.o j) Z
        clear j;go_wp2;go_ret3;rw[a.o];exact⟨_,rfl,A3.nil _ _ _ _,fun _=>rfl,G.o⟩
     ·have ax:(x.toList==([]:List UInt8))=true:=by
       rw[ByteArray.toList_eq];cases S:x.data.toList with
       |nil=>rfl
       |cons c r=>have:=D8 x;rw[S]at this;simp at this;omega
      have t:=A4 D;clear D;by_cases X:n=0
      ·have a:Hd (A7 s=([],3,k)):=by show _=_;rw[u.o,B.o];exact P4 (T7 t.o (List.eq_nil_of_length_eq_zero (by rw[←q.o,X]))) Z
       subst X;go_wp2;go_ret3;rw[a.o];exact⟨_,rfl,A3.nil _ _ _ _,fun _=>rfl,G.o⟩
      ·obtain⟨m,rfl⟩:∃m,n=m+1:=⟨n-1,O⟩;have H:Hd (L≠[]):=fun h=>by have:=q.o;rw[h]at this;simp at this
       go_wp2_with fail;refine(A0R x _ O).mono ?_;rintro e w2 ⟨p,rfl⟩;rcases p with⟨j,rfl⟩|⟨j,rfl⟩
       ·have aT:=A4 j;obtain⟨A,y,d⟩:=Y9 H.o;have ah:=A4 d;have ai:y.b.size≤8000*k:=Q.o y (by rw[d];simp);have K:A.length=m:=by have:=q.o;rw[d]at this;simp at this;omega
        have Y:=A4 K;have a:Hd (A7 s=D6 (k+1) (A++[⟨y.n,y.b++x⟩]) (LS.drop (k+1))):=by show _=_;rw[u.o,B.o,A17 (Q8 t.o H.o j),d,S6]
        obtain⟨g,o,aj,ak⟩:∃g o,F=some ⟨g,o,none⟩∧∃cur,w2.heap[g]?=some (.cells cur 88 (0,0))∧o+(m+1)*2≤cur.size:=by
         rcases l.2 with⟨_,h⟩|⟨g,o,cap,cur,h,_,p,V,_,h5,_⟩
         ·omega
         ·simp only[Value.slice.injEq]at h;exact⟨g,o,h.1,cur,p,Nat.le_trans (Nat.add_le_add_left (Nat.mul_le_mul_right 2 V) o) h5⟩
        subst aj;obtain⟨cur,E,al⟩:=ak;obtain⟨b1,b2⟩:=l.seqs m (by rw[d];simp;omega);have aa:L[m]'(by rw[d];simp;omega)=y:=by simp[d,←K]
        rw[aa]at b1 b2;have f1:w2.frozen? ⟨g,o+m*2,none⟩=false:=frozen_of_row _ _ _ _ _ E;have f2:w2.frozen? ⟨g,o+m*2+1,none⟩=false:=frozen_of_row _ _ _ _ _ E;have am:Hd (A3 ((w2.setCell ⟨g,o+m*2,none⟩ (.string y.n)).setCell ⟨g,o+m*2+1,none⟩ (.string (y.b++x))) w1.heap.size 88 2 (.slice (some ⟨g,o,none⟩) (m+1) c) (m+1) (B4 (L.set m ⟨y.n,y.b++x⟩))):=l.set2 (q.o.symm) m O ⟨y.n,y.b++x⟩;have an:Hd (L.set m ⟨y.n,y.b++x⟩=A++[⟨y.n,y.b++x⟩]):=by
         show _=_;rw[d,←K];simp
        have e1:((m+1:Nat):Int)-1=m:=O;have e2:(m:Int)<((m+1:Nat):Int):=O;have ap:∀v1 v2,Hd (Below w1.heap.size w2 ((w2.setCell ⟨g,o+m*2,none⟩ v1).setCell ⟨g,o+m*2+1,none⟩ v2)):=fun v1 v2=>((D7.of_setCell (i:=o+m*2) v1 E).setCell (i:=o+m*2+1) v2).below (R.o.lt rfl).1;have HY:=A4 ai;clear E al d j l aa;go_wp2;go_region;go_wp2;go_roundw;case rel=>
         refine⟨k+1,A++[⟨y.n,y.b++x⟩],O,Zn,by rw[List.length_append,Y.o];show m+1≤_;omega,?_,?_,a.o,?_⟩
         ·intro z f;rw[List.mem_append]at f;rcases f with f|f
          ·exact(Q.o.mono (Nat.le_succ k)) z (by rw[ah.o];simp[f])
          ·simp at f;subst f;show(y.b++x).size≤_;rw[ByteArray.size_append];have:=HY.o;omega
         ·have e:(A++[(⟨y.n,y.b++x⟩:S2)]).length=m+1:=by rw[List.length_append,Y.o];rfl
          rw[e,←an.o];exact am.o.other (fun _ _ _=>rfl)
         ·have:=P.o.trans (ap (.string y.n) (.string (y.b++x))).out;exact⟨this.os,this.tape,this.output,this.size,this.block⟩
        case measure=>simp[intOf];omega
       ·have a:Hd (A7 s=([],2,k)):=by show _=_;rw[u.o,B.o];exact P4 (T9 t.o H.o j) Z
        clear j;go_wp2;go_ret3;rw[a.o];exact⟨_,rfl,A3.nil _ _ _ _,fun _=>rfl,G.o⟩
   ·have a:Hd (A7 s=(L,0,0)):=by
     show _=_;rw[u.o,List.drop_eq_nil_of_le (by rw[←HN.o];omega),D6]
    go_wp2;go_ret3;rw[a.o];refine⟨_,rfl,?_,fun h=>absurd rfl h,G.o⟩;exact R.o.low ar
theorem A3.form {w:World}{base:Nat}{e:TypeId}{size:Nat}{v:Value}{n:Nat}{xs:List Value}(h:A3 w base e size v n xs):∃a c,v=.slice a n c:=by
 rcases h.2 with⟨rfl,rfl⟩|⟨g,o,cap,cur,rfl,_⟩
 ·exact⟨_,_,rfl⟩
 ·exact⟨_,_,rfl⟩
def A7O (m:Nat):UInt8:=([65,67,71,84,78]:List UInt8).getD m 0
theorem B0A (m:Nat)(h:m<(⟨#[65,67,71,84,78]⟩:ByteArray).size):(⟨#[65,67,71,84,78]⟩:ByteArray)[m]=A7O m:=by
 have:m<5:=h;rcases (show m=0∨m=1∨m=2∨m=3∨m=4 by omega) with rfl|rfl|rfl|rfl|rfl<;>rfl
theorem A7J (c:UInt8)(h:0≤B2 c):A7O (B2 c).toNat=c:=by
 rcases Q1 c with⟨rfl,_⟩|⟨rfl,_⟩|⟨rfl,_⟩|⟨rfl,_⟩|⟨rfl,_⟩|⟨a,_⟩
 ·rfl
 ·rfl
 ·rfl
 ·rfl
 ·rfl
 ·omega
theorem A4N (x:Int):∀u∈([.int .u8 x]:List Value),u.oneCell'=true:=by
 intro u hu;simp at hu;subst hu;rfl
theorem A74 {w W w2:World}{B base g' o' cap' n k:Nat}{sv m bv:Value}{b:List UInt8}{c:UInt8}{ob:Obj}
 (y:B<w.heap.size)(q:b.length=n)
 (r:W=(w.drewN k).alloc ob)
 (o:w2.heap[B]?=some (.cells #[sv,m,bv] 167 (0,0)))
 (p:A3 w2 base 5 1 (.slice (some ⟨g',o',none⟩) (n+1) cap') (n+1) (Lib.byteCells b++[.int .u8 (c.toNat:Int)]))(d:I9 W w2 bv g') :
 ∃l,A3 (w2.setCell ⟨B,2,none⟩ (.slice (some ⟨g',o',none⟩) (n+1) cap')) base 5 1 l (b++[c]).length (Lib.byteCells (b++[c]))∧
  (w2.setCell ⟨B,2,none⟩ (.slice (some ⟨g',o',none⟩) (n+1) cap')).heap[B]?=some (.cells #[sv,m,l] 167 (0,0))∧
  PFr w (w2.setCell ⟨B,2,none⟩ (.slice (some ⟨g',o',none⟩) (n+1) cap')) bv l B:=by
 subst r;have a:=D7.of_setCell (i:=2) (.slice (some ⟨g',o',none⟩) (n+1) cap') o;have s:(Value.slice (some ⟨g',o',none⟩) (n+1) cap').ownBlock≠some B:=p.tag Z o;have t:=d.size;simp at t;have z:(w.drewN k).heap.size=w.heap.size:=rfl;refine⟨.slice (some ⟨g',o',none⟩) (n+1) cap',?_,a.here,⟨?_,?_,?_,?_,?_,?_⟩⟩
 ·have e:Lib.byteCells (b++[c])=Lib.byteCells b++[.int .u8 (c.toNat:Int)]:=by simp[Lib.byteCells]
  rw[e,List.length_append,q];exact p.other (fun g f _=>a.other g (fun e=>s (by rw[f,e])))
 ·exact a.os.trans d.os
 ·exact a.tape.trans d.tape
 ·exact a.output.trans d.output
 ·rw[a.size];omega
 ·intro j u v x;rw[a.other j v,d.other j Zo x];exact Below.heap_alloc (w.drewN k) ob j u
 ·intro g f;simp only[Value.ownBlock,Option.some.injEq]at f;subst f;rcases d.new with h|h
  ·exact Or.inl h
  ·right;have:w.heap.size+1≤g':=by simpa using h
   omega
theorem A8J (B base m n:Nat)(p:Int)(sv h bv:Value)(b:List UInt8)(q:b.length=n)(w:World)(hm:m<5)
 (a:w.heap[B]?=some (.cells #[sv,h,bv] 167 (0,0)))(j:A3 w base 5 1 bv n (Lib.byteCells b))(F:base≤w.heap.size)(G:n≤1000000000) :
 Calls Tryz.prog 101 #[.pointer (some ⟨B,0,none⟩),I J p,I J m] w fun e w'=>e=.returned (.tuple #[])∧
  ∃k,A3 w' base 5 1 k (b++[A7O m]).length (Lib.byteCells (b++[A7O m]))∧w'.heap[B]?=some (.cells #[sv,h,k] 167 (0,0))∧PFr w w' bv k B:=by
 obtain⟨i0,hi,v,x,y⟩:=info_parts Tryz.info5;obtain⟨d,c,rfl⟩:=j.form;have r:=lt_of_block a;have s:(Value.slice d n c).ownBlock≠some B:=j.tag Z a;have z:=A4 q;have A:=A4 s;have C:=A4 a;have c2:w.cell? ⟨B,2,none⟩=some (.slice d n c):=A1 a rfl;have f2:w.frozen? ⟨B,2,none⟩=false:=frozen_of_row _ _ _ _ _ a;have H:∀l ob,((w.drewN l).alloc ob).cell? ⟨B,2,none⟩=some (.slice d n c):=fun l ob=>N1 c2 _ l;have K:(m:Int)<5:=O;clear a q s;go_enter Tryz.func101,Tryz.ntmps101;go_region_law (refine G3 rfl (.tmp 10) (.tmp 13) 63 rfl 5 i0 _ 1 1 Tryz.underlying63 hi v x y rfl Z base (.slice d n c) n (Lib.byteCells b) (by simp[Act.eval]) (by exact j.other (fun g _ D=>Below.heap_alloc (w.drewN _) _ _ D)) ⟨w.heap.size,0,none⟩ 1 [.int .u8 ((⟨#[65,67,71,84,78]⟩:ByteArray)[m].toNat:Int)] (by simp[Act.eval]) rfl (by exact A1k (w.drewN _) _ _ _ rfl) (A4N _) (by unfold maxLen;omega) O Zo ?_;intro g' o' cap' w2 t u;have f:w2.heap[B]?=some (.cells #[sv,h,.slice d n c] 167 (0,0)):=(u.other B Zo A.o).trans ((Below.heap_alloc (w.drewN _) _ _ r).trans C.o);have E:Hd _:=f;have L:=A1 f (i:=2) rfl;have M:w2.frozen? ⟨B,2,none⟩=false:=frozen_of_row w2 _ _ _ _ f;clear f);all_goals go_end0
 all_goals (rw[B0A m hm]at t;exact⟨rfl,A74 r z.o rfl E.o t u⟩)
end
end Mn
end Go.Proofs.YtilcmkiihefkkaaGreatDoor
