import Derived.Lib.BufferWrite
import Derived.Test.YtilcmkiihefkkaaGreatDoorJl16
set_option linter.unusedVariables false
set_option linter.unusedSimpArgs false
set_option maxRecDepth 1000000
set_option maxHeartbeats 64000000
open Go.Value renaming int→I
open Go.IntKind renaming i64→J
namespace Go.Proofs.YtilcmkiihefkkaaGreatDoor
namespace Mn
section
open Go.RowKit
theorem A45 {w:World}{B g n:Nat}(h:B≤g):Below B w (w.freeze ⟨g,0,none⟩ n):=by
 unfold World.freeze
 split
 ·exact Below.refl _ _
 ·refine⟨rfl,rfl,rfl,Zs,?_⟩
  intro k hk
  simp only[Array.getElem?_modify]
  rw[if_neg O]
theorem A4r {w:World}{B g:Nat}(cs:Array Value)(h:B≤g):Below B w (w.setRow g cs):=
 ⟨rfl,rfl,rfl,Zs,fun k hk=>setRow_other w g k cs O⟩
theorem A7j (s:ByteArray)(w1:World)(g:Nat)(cur:Array Value)(ty:TypeId)(h1:1≤s.size)(i:s.size≤8000)(d:w1.heap[g]?=some (.cells cur 5 (0,0)))(k:cur.size=s.size) :
 (Builtin.unsafeString_ #[309,3] ty #[.pointer (some ⟨g,0,none⟩),I J s.size]).run Tryz.prog (w1.setRow g (Lib.byteCells s.data.toList++List.drop s.size cur.toList).toArray)=.ok (.string s) ((w1.setRow g (Lib.byteCells s.data.toList++List.drop s.size cur.toList).toArray).freeze ⟨g,0,none⟩ s.size):=by
 have c:=setRow_heap w1 g cur (Lib.byteCells s.data.toList++List.drop s.size cur.toList).toArray 5 (0,0) d
 have a:=E8 s
 have hlen:(Lib.byteCells s.data.toList++List.drop s.size cur.toList).toArray.size=s.size:=by simp[Lib.byteCells_length];omega
 have:=Lib.run_unsafeString_row (P:=Tryz.prog) (w1.setRow g (Lib.byteCells s.data.toList++List.drop s.size cur.toList).toArray) 309 3 ty 5 Tryz.underlying309 U g s.size (by unfold World.shape?;rw[c];simp only[hlen]) s.data.toList (by intro h;rw[h]at a;simp at a;omega) O O (by
  intro j x b
  rw[Addr.add_lit,Nat.zero_add]
  refine A1 c ?_
  have f:j<s.data.toList.length:=by
   rcases Nat.lt_or_ge j s.data.toList.length with h|h
   ·exact h
   ·rw[List.getElem?_eq_none h]at b;exact absurd b Zs
  rw[List.getElem?_toArray,List.getElem?_append_left (by rw[Lib.byteCells_length];exact f)]
  unfold Lib.byteCells
  rw[List.getElem?_map,b]
  rfl)
 rw[a,A1E]at this
 exact this
theorem A9r (s:ByteArray)(w:World)(h1:1≤s.size)(d:s.size≤8000) :
 Calls Tryz.prog 143 #[.string s] w fun e w'=>e=.returned (.string s)∧Below w.heap.size w w':=by
 obtain⟨i0,hi,f,c,i⟩:=info_parts Tryz.info5
 have c0:(s.size:Int)≠0:=O
 have c1:(0:Int)<s.size:=O
 go_enter Tryz.func143,Tryz.ntmps143
 go_wp2_with (at_make;refine wpList_make_full _ rfl _ _ 63 rfl w.heap.size 5 i0 (.int .u8 0) 1 Tryz.underlying63 hi f c .i64 .i64 s.size s.size s.size rfl rfl rfl rfl (by rw[i];omega) (by unfold maxLen;omega) Zs ?_;intro w1 j l;obtain⟨cur,a,b⟩:∃cur,w1.heap[w.heap.size]?=some (.cells cur 5 (0,0))∧cur.size=s.size:=(by
  rcases j.2 with⟨h,_⟩|⟨g,cap,cur,h,_,a,_,_,b,_⟩
  ·simp at h
  ·simp only[Value.slice.injEq,Option.some.injEq,Addr.mk.injEq,and_true,true_and]at h
   obtain⟨rfl,rfl⟩:=h
   exact⟨cur,a,by simpa using b⟩);have m:=fun ty=>Lib.run_copy_row_string (P:=Tryz.prog) w1 63 9 ty 5 w.heap.size 0 s.size s.size s cur 5 Tryz.underlying63 (by rw[hi];simp[c]) a (Nat.le_refl _) O;simp only[List.take_zero,List.nil_append,Nat.zero_add]at m;have o:=fun ty=>A7j s w1 w.heap.size cur ty h1 d a b)
 go_ret
 refine⟨rfl,?_⟩
 have n:=(Below.refl w.heap.size w).grown l (Nat.le_refl _) (fun k hk=>by cases hk)
 exact(n.trans (A4r _ (Nat.le_refl _))).trans (A45 (Nat.le_refl _))
theorem A3x (s:ByteArray)(w:World)(h1:1≤s.size)(a:s.size≤8000) :
 Calls Tryz.prog 107 #[.string s] w fun e w'=>e=.returned (.string s)∧Below w.heap.size w w':=by
 go_enter Tryz.func107,Tryz.ntmps107
 go_wp2_with (go_at_call 143;refine(A9r s _ h1 a).mono ?_;rintro e w' ⟨rfl,b⟩)
 go_ret
 exact⟨rfl,b⟩
structure S2 where
 n:ByteArray
 b:ByteArray
def B3 (L:List S2):List Value:=L.flatMap fun x=>[.string x.n,.string x.b]
theorem S7 (E F:List S2):B3 (E++F)=B3 E++B3 F:=by simp[B3]
theorem Z5 (E:List S2):(B3 E).length=E.length*2:=by
 induction E with
 |nil=>rfl
 |cons x E a=>
  show(Value.string x.n::Value.string x.b::B3 E).length=_;simp only[List.length_cons,a];omega
theorem A2m (E:List S2):∀j (h:j<E.length),(B3 E)[2*j]?=some (.string E[j].n)∧(B3 E)[2*j+1]?=some (.string E[j].b):=by
 induction E with
 |nil=>intro j h;exact absurd h Zs
 |cons x E a=>
  intro j h;cases j with
  |zero=>exact⟨rfl,rfl⟩
  |succ j=>
   have:=a j (by simpa using h);show(Value.string x.n::Value.string x.b::B3 E)[2*(j+1)]?=_∧(Value.string x.n::Value.string x.b::B3 E)[2*(j+1)+1]?=_;rw[show 2*(j+1)=2*j+1+1 by omega];simpa using this
theorem A3p (X:List S2)(cur:Array Value)(o:Nat):(∀i u,(B3 X)[i]?=some u→cur[o+i]?=some u)↔∀q (h:q<X.length),cur[o+2*q]?=some (.string X[q].n)∧cur[o+(2*q+1)]?=some (.string X[q].b):=by
 constructor
 ·intro h q a;have:=A2m X q a;exact⟨h _ _ this.1,h _ _ this.2⟩
 ·intro h i u hi;have f:i<X.length*2:=by
   rcases Nat.lt_or_ge i (B3 X).length with c|c
   ·rwa [Z5]at c
   ·rw[List.getElem?_eq_none c]at hi;exact absurd hi Zs
  have a:i/2<X.length:=O;have h1:=A2m X (i/2) a;have d:=h (i/2) a;rcases (show i=2*(i/2)∨i=2*(i/2)+1 by omega) with he|he
  ·rw[he]at hi⊢;rw[h1.1]at hi;rw[d.1];exact hi
  ·rw[he]at hi⊢;rw[h1.2]at hi;rw[d.2];exact hi
theorem A3.seqs {w:World}{base g o cap n:Nat}{L:List S2}(h:A3 w base 88 2 (.slice (some ⟨g,o,none⟩) n cap) n (B3 L)) :
 ∀j (a:j<L.length),w.cell? ⟨g,o+j*2,none⟩=some (.string L[j].n)∧w.cell? ⟨g,o+j*2+1,none⟩=some (.string L[j].b):=by
 rcases h.2 with⟨h,_⟩|⟨_,_,_,cur,he,h1,c,f,i,k,d⟩
 ·simp at h
 ·simp only[Value.slice.injEq,Option.some.injEq,Addr.mk.injEq,and_true,true_and]at he;obtain⟨⟨rfl,rfl⟩,rfl⟩:=he;intro j a;have:=A2m L j a;rw[Nat.mul_comm];exact⟨A1 c (d _ _ this.1),A1 c (d _ _ this.2)⟩
def O1 (L:List S2)(s:ByteArray):Prop:=∃x∈L,x.n=s
theorem A8j (L:List S2)(s:ByteArray)(base:Nat)(v:Value)(w:World)(z:L.length<4398046511104)
 (f:A3 w base 88 2 v L.length (B3 L)) :
 Calls Tryz.prog 35 #[v,.string s] w fun e w'=>((O1 L s∧e=.returned (.bool true))∨(¬O1 L s∧e=.returned (.bool false)))∧w'=w:=by
 obtain⟨n,d⟩:=A8 L.length;have q:=A4 d;have l:Hd (A3 w base 88 2 v n (B3 L)):=by rw[←d]at f;exact f
 obtain⟨m,c,A⟩:∃m c,v=.slice m n c:=by
  rcases l.o.2 with⟨h,B⟩|⟨g,o,cap,cur,h,_⟩
  ·exact⟨_,_,by rw[h,B]⟩
  ·exact⟨_,_,h⟩
 subst A;rw[←d]at z;clear f d;go_enter Tryz.func35,Tryz.ntmps35;go_wp2;go_loop [5] (fun i=>∃k:Nat,k≤n∧i=I J k∧∀j (a:j<L.length),j<k→L[j].n≠s) (fun i=>n-(intOf i).toNat);case atStart=>exact⟨0,Nat.zero_le _,rfl,fun j a h=>absurd h O⟩
 case round=>
  obtain⟨k,hk,rfl,r⟩:=hrel;have t:=A4 r;clear r;by_cases C:k<n
  ·have u:k<L.length:=by rw[←q.o];exact C
   obtain⟨g,o,D⟩:∃g o,m=some ⟨g,o,none⟩:=by
    rcases l.o.2 with⟨_,h⟩|⟨g,o,cap,cur,h,_⟩
    ·omega
    ·simp only[Value.slice.injEq]at h;exact⟨g,o,h.1⟩
   subst D;obtain⟨E,_⟩:=l.o.seqs k u;have M:(k:Int)<n:=O;obtain⟨h,p⟩:=A8 (L[k].n);have y:=A4 p;rw[←p]at E;clear p;cases he:(h.toList==s.toList)
   ·have b:Hd (h≠s):=fun e=>by rw[e]at he;simp at he
    go_wp2;go_round;case rel=>
     refine⟨k+1,O,Zn,fun j a h=>?_⟩;by_cases F:j<k
     ·exact t.o j a F
     ·obtain rfl:j=k:=O;rw[←y.o];exact b.o
    case measure=>simp[intOf];omega
   ·have b:Hd (O1 L s):=⟨L[k],List.getElem_mem u,by
     rw[←y.o];have:=eq_of_beq he;rw[ByteArray.toList_eq,ByteArray.toList_eq]at this;exact WideShapes.bytes_inj this⟩
    go_wp2;go_ret;exact⟨Or.inl ⟨b.o,rfl⟩,rfl⟩
  ·have b:Hd (¬O1 L s):=by
    rintro⟨x,G,H⟩;obtain⟨j,a,K⟩:=List.getElem_of_mem G;exact t.o j a (by have:=q.o;omega) (by rw[K];exact H)
   go_wp2;go_ret;exact⟨Or.inr ⟨b.o,rfl⟩,rfl⟩
theorem Tryz.info9:(Tryz.prog.info? 9).map (fun i=>(i.zero,i.size,i.bytes))=some (some (.string ⟨#[]⟩),1,16):=U
def Y1 (L:List ByteArray):List Value:=L.map .string
theorem L1.below {w w':World}{v:Value}{g' base:Nat}(h:L1 w w' v g')(hv:∀g,v.ownBlock=some g→base≤g)(hb:base≤w.heap.size):Below base w w':=
 ⟨h.os,h.tape,h.output,h.size,fun j hj=>h.other j O (fun he=>by have:=hv j he;omega)⟩
theorem A1x (W:World)(x:Value)(t:TypeId)(s:Nat)(hs:s=W.heap.size):∀j u,([x]:List Value)[j]?=some u→(W.alloc (.cells #[x] t)).cell? ((⟨s,0,none⟩:Addr).add j)=some u:=by
 intro j u hj;subst hs;rw[Addr.add_lit,Nat.zero_add];refine A1 (heap_alloc_new W _) ?_;simpa using hj
theorem A1F (x:ByteArray):∀u∈([.string x]:List Value),u.oneCell'=true:=by
 intro u hu;simp at hu;subst hu;rfl
def A1D (cur:ByteArray)(l:List UInt8):List ByteArray:=(F3 cur.data.toList l).map fun l=>⟨l.toArray⟩
theorem A8K (s:ByteArray)(k:Nat)(h:k<s.size)(cur:ByteArray)(hc:s[k]=10):A1D cur (s.data.toList.drop k)=cur::A1D ⟨#[]⟩ (s.data.toList.drop (k+1)):=by
 have hl:=E8 s;unfold A1D;rw[List.drop_eq_getElem_cons O,F3,if_pos (by rw[←hc];rw[Array.getElem_toList];rfl),List.map_cons,A1E]
theorem B0t (s:ByteArray)(k:Nat)(h:k<s.size)(cur:ByteArray)(hc:s[k]≠10):A1D cur (s.data.toList.drop k)=A1D (cur++s.extract k (k+1)) (s.data.toList.drop (k+1)):=by
 have hl:=E8 s;have hk:k<s.data.toList.length:=O;have hg:s.data.toList[k]=s[k]:=by rw[Array.getElem_toList];rfl
 unfold A1D;rw[List.drop_eq_getElem_cons hk,F3,if_neg (by rw[hg];exact hc)];congr 2;rw[ByteArray.data_append,Array.toList_append,I7];congr 1;rw[List.drop_eq_getElem_cons hk,show k+1-k=1 by omega];rfl
theorem A8D (s:ByteArray)(w:World)(hs:s.size≤8000) :
 Calls Tryz.prog 70 #[.string s] w fun e w'=>∃v,e=.returned v∧A3 w' w.heap.size 9 1 v (F6 s).length (Y1 (F6 s))∧Below w.heap.size w w':=by
 obtain⟨i0,hi,hz0,hz1,hz2⟩:=info_parts Tryz.info9;go_enter Tryz.func70,Tryz.ntmps70;go_wp2;go_loopw [3,4,5] (fun v x i wx=>∃(k:Nat) (D:List ByteArray) (cur:ByteArray),k≤s.size∧i=I J k∧x=.string cur∧cur.size≤k∧D.length≤k∧A3 wx w.heap.size 9 1 v D.length (Y1 D)∧D++A1D cur (s.data.toList.drop k)=F6 s∧Below w.heap.size w wx) (fun _ _ i _=>s.size-(intOf i).toNat);case atStart=>exact⟨0,[],⟨#[]⟩,Nat.zero_le _,rfl,rfl,Nat.zero_le _,Nat.zero_le _,A3.nil _ _ _ _,rfl,Below.refl _ _⟩
 case round=>
  obtain⟨k,D,cur,hk,rfl,rfl,hcs,hDl,hown,heq,hbel⟩:=hrel;have HEQ:=A4 heq;have HBL:=A4 hbel;have HOW:=A4 hown;obtain⟨ao,c,hv⟩:∃ao c,u3=.slice ao D.length c:=by
   rcases hown.2 with⟨h,h0⟩|⟨g,o,cap,cur,h,_⟩
   ·exact⟨_,_,by rw[h,h0]⟩
   ·exact⟨_,_,h⟩
  obtain⟨n,hn⟩:=A8 D.length;have HN:=A4 hn;rw[←hn]at hv hown hDl;subst hv;have hsz:=hbel.size;clear heq hbel hn;by_cases hlt:k<s.size
  ·have hb256:s[k].toNat<256:=s[k].toNat_lt;by_cases hc:s[k]=10
   ·have d1:(s[k].toNat:Int)=10:=by rw[hc];rfl
    have HST:=A8K s k hlt cur hc;rw[HST]at HEQ;clear HST;go_wp2_with (at_builtin;refine B6 _ rfl (.tmp 16) (.tmp 18) 58 rfl 9 i0 _ 1 16 Tryz.underlying58 hi hz0 hz1 hz2 rfl Z w.heap.size (.slice ao n c) n (Y1 D) rfl (by exact hown.other (fun g _ hlt=>Below.heap_alloc _ _ _ hlt)) ⟨wr.heap.size,0,none⟩ 1 [.string cur] rfl rfl (by exact A1x _ _ _ _ rfl) (A1F cur) (by unfold maxLen;omega) O Zo ?_;intro g' o' cap' w8 hown' hfr);go_roundw;case rel=>
     refine⟨k+1,D++[cur],⟨#[]⟩,O,Zn,rfl,Nat.zero_le _,by rw[List.length_append,←HN.o];show n+1≤_;omega,?_,?_,?_⟩
     ·rw[List.length_append,←HN.o];have e:Y1 (D++[cur])=Y1 D++[.string cur]:=by simp[Y1]
      rw[e];exact hown'
     ·rw[List.append_assoc];exact HEQ.o
     ·exact(HBL.o.alloc HBL.o.size _).trans (hfr.below (fun g hg=>(HOW.o.lt hg).1) Zo)
    case measure=>simp[intOf];omega
   ·have d1:¬(s[k].toNat:Int)=10:=by
     intro h;apply hc;have:s[k].toNat=10:=O;exact UInt8.toNat_inj.1 (by rw[this];rfl)
    have HST:=B0t s k hlt cur hc;rw[HST]at HEQ;have c4:(k:Int)+1≤s.size:=O;clear HST;go_wp2;go_roundw;case rel=>
     refine⟨k+1,D,_,O,Zn,rfl,?_,by rw[←HN.o];omega,HOW.o,HEQ.o,HBL.o⟩;rw[ByteArray.size_append,ByteArray.size_extract];omega
    case measure=>simp[intOf];omega
  ·have HD:Hd (s.data.toList.drop k=[]):=List.drop_eq_nil_of_le (by rw[E8];omega);cases he:(cur.toList==([]:List UInt8))
   ·have HC:Hd (F6 s=D++[cur]):=by
     show _=_;rw[←HEQ.o,HD.o];unfold A1D;have:cur.data.toList≠[]:=by
      intro h;rw[ByteArray.toList_eq,h]at he;simp at he
     rw[F3,if_neg this,List.map_cons,A1E];rfl
    go_wp2_with (at_builtin;refine B6 _ rfl (.tmp 29) (.tmp 31) 58 rfl 9 i0 _ 1 16 Tryz.underlying58 hi hz0 hz1 hz2 rfl Z w.heap.size (.slice ao n c) n (Y1 D) rfl (by exact hown.other (fun g _ hlt=>Below.heap_alloc _ _ _ hlt)) ⟨wr.heap.size,0,none⟩ 1 [.string cur] rfl rfl (by exact A1x _ _ _ _ rfl) (A1F cur) (by unfold maxLen;omega) O Zo ?_;intro g' o' cap' w8 hown' hfr);go_ret;refine⟨_,rfl,?_,?_⟩
    ·rw[HC.o,List.length_append,←HN.o];have e:Y1 (D++[cur])=Y1 D++[.string cur]:=by simp[Y1]
     rw[e];exact hown'
    ·exact(HBL.o.alloc HBL.o.size _).trans (hfr.below (fun g hg=>(HOW.o.lt hg).1) Zo)
   ·have HC:Hd (F6 s=D):=by
     show _=_;rw[←HEQ.o,HD.o];unfold A1D;have:cur.data.toList=[]:=by
      have:=eq_of_beq he;rwa [ByteArray.toList_eq]at this
     rw[F3,if_pos this];simp
    go_wp2;go_ret;refine⟨_,rfl,?_,HBL.o⟩;rw[HC.o];have:=HOW.o;rw[←HN.o]at this⊢;exact this
def tl (x:ByteArray):ByteArray:=x.extract 1 x.size
theorem A8l (x:ByteArray):(tl x).size≤x.size:=by
 unfold tl;rw[ByteArray.size_extract];omega
def A5g (L:List S2)(x:ByteArray):List S2:=L.dropLast++(L.getLast?.map fun y=>⟨y.n,y.b++x⟩).toList
theorem O8 (A:List S2)(y:S2)(x:ByteArray):A5g (A++[y]) x=A++[⟨y.n,y.b++x⟩]:=by simp[A5g]
theorem Z3 {L:List S2}(h:L≠[]):∃A y,L=A++[y]:=by
 rcases List.eq_nil_or_concat L with a|⟨A,y,a⟩
 ·exact absurd a h
 ·exact⟨A,y,by simpa using a⟩
def B4g (x:ByteArray):Decidable (G3 x):=by unfold G3;infer_instance
def B3N (x:ByteArray):Decidable (D8 x):=by unfold D8;infer_instance
def B38 (L:List S2)(x:ByteArray):Decidable (O1 L x):=by unfold O1;infer_instance
def B3L (x:ByteArray):Decidable (good x):=by unfold good;infer_instance
def B33 (L:List S2):Decidable (L=[]):=match L with
 |[]=>isTrue rfl
 |_::_=>isFalse (fun h=>by cases h)
def F2 (L:List S2)(x:ByteArray):Nat×List S2:=
 @ite _ (G3 x) (B4g x) (@ite _ (D8 (tl x)) (B3N (tl x)) (@ite _ (O1 L (tl x)) (B38 L (tl x)) (5,[]) (0,L++[⟨tl x,⟨#[]⟩⟩])) (4,[]))
  (@ite _ (L=[]) (B33 L) (3,[]) (@ite _ (good x) (B3L x) (0,A5g L x) (2,[])))
def D9:Nat→List S2→List ByteArray→List S2×Nat×Nat
 |_,L,[]=>(L,0,0)
 |i,L,x::r=>if (F2 L x).1=0 then D9 (i+1) (F2 L x).2 r else ([],(F2 L x).1,i)
theorem W9 {L:List S2}{x:ByteArray}(h:G3 x)(h1:¬D8 (tl x)):F2 L x=(4,[]):=by
 unfold F2;rw[if_pos h,if_neg h1]
theorem T3 {L:List S2}{x:ByteArray}(h:G3 x)(h1:D8 (tl x))(a:O1 L (tl x)):F2 L x=(5,[]):=by
 unfold F2;rw[if_pos h,if_pos h1,if_pos a]
theorem O9 {L:List S2}{x:ByteArray}(h:G3 x)(h1:D8 (tl x))(a:¬O1 L (tl x)):F2 L x=(0,L++[⟨tl x,⟨#[]⟩⟩]):=by
 unfold F2;rw[if_pos h,if_pos h1,if_neg a]
theorem R2 {L:List S2}{x:ByteArray}(h:¬G3 x)(h1:L=[]):F2 L x=(3,[]):=by
 unfold F2;rw[if_neg h,if_pos h1]
theorem R5 {L:List S2}{x:ByteArray}(h:¬G3 x)(h1:L≠[])(a:¬good x):F2 L x=(2,[]):=by
 unfold F2;rw[if_neg h,if_neg h1,if_neg a]
theorem M6 {L:List S2}{x:ByteArray}(h:¬G3 x)(h1:L≠[])(a:good x):F2 L x=(0,A5g L x):=by
 unfold F2;rw[if_neg h,if_neg h1,if_pos a]
theorem S6 {i:Nat}{L:List S2}{x:ByteArray}{r:List ByteArray}{e:Nat}(h:F2 L x=(e,[]))(he:e≠0):D9 i L (x::r)=([],e,i):=by
 rw[D9,h,if_neg he]
theorem A0i {i:Nat}{L a:List S2}{x:ByteArray}{r:List ByteArray}(h:F2 L x=(0,a)):D9 i L (x::r)=D9 (i+1) a r:=by
 rw[D9,h,if_pos rfl]
theorem A0T:∀(l cur:List UInt8),∀x∈F3 cur l,x.length≤cur.length+l.length
 |[],cur,x,h=>by
  rw[F3]at h
  split at h
  ·simp at h
  ·simp at h;subst h;simp
 |c::r,cur,x,h=>by
  rw[F3]at h
  split at h
  ·rw[List.mem_cons]at h
   rcases h with rfl|h
   ·simp
   ·have:=A0T r [] x h
    simp at this⊢
    omega
  ·have:=A0T r (cur++[c]) x h
   simp at this⊢
   omega
theorem A2C (s:ByteArray):∀x∈F6 s,x.size≤s.size:=by
 intro x a;unfold F6 at a;rw[List.mem_map]at a;obtain⟨l,b,rfl⟩:=a;have:=A0T s.data.toList [] l b;rw[E8]at this;show l.toArray.size≤_;simp at this⊢;exact this
theorem A1m (s:ByteArray):(F6 s).length≤s.size:=by
 unfold F6;rw[List.length_map];have:=S4 s.data.toList [];rw[E8]at this;simpa using this
theorem A6i (L:List S2)(x:ByteArray):(A5g L x).length=L.length:=by
 by_cases h:L=[]
 ·subst h;rfl
 ·obtain⟨A,y,rfl⟩:=Z3 h;rw[O8];simp
theorem Tryz.info88:(Tryz.prog.info? 88).map (fun i=>(i.zero,i.size,i.bytes))=some (some (.agg #[.string ⟨#[]⟩,.string ⟨#[]⟩]),2,32):=U
theorem A3.set2 {w:World}{base g o n cap:Nat}{X:List S2}(h:A3 w base 88 2 (.slice (some ⟨g,o,none⟩) n cap) n (B3 X))(t:X.length=n)(j:Nat)(u:j<n)(y:S2) :
 A3 ((w.setCell ⟨g,o+j*2,none⟩ (.string y.n)).setCell ⟨g,o+j*2+1,none⟩ (.string y.b)) base 88 2 (.slice (some ⟨g,o,none⟩) n cap) n (B3 (X.set j y)):=by
 obtain⟨a,h⟩:=h;refine⟨by rw[Z5]at a⊢;rw[List.length_set];exact a,?_⟩;rcases h with⟨h,_⟩|⟨g',o',cap',cur,he,h1,l,c,m,d,f⟩
 ·simp at h
 ·simp only[Value.slice.injEq,Option.some.injEq,Addr.mk.injEq,and_true,true_and]at he;obtain⟨⟨rfl,rfl⟩,rfl⟩:=he;have p:=(E1.of_setCell (i:=o+j*2) (.string y.n) l).setCell (i:=o+j*2+1) (.string y.b);refine Or.inr ⟨g,o,cap,_,rfl,h1,p.here,c,m,by simpa using d,?_⟩;rw[A3p]at f⊢;intro q r;rw[List.length_set]at r;have v:o+n*2≤cur.size:=Nat.le_trans (Nat.add_le_add_left (Nat.mul_le_mul_right 2 c) o) d;by_cases k:q=j
  ·subst k;simp only[List.getElem_set_self];refine⟨?_,?_⟩
   ·rw[Array.getElem?_setIfInBounds_ne O,show o+2*q=o+q*2 by omega,Array.getElem?_setIfInBounds_self_of_lt O]
   ·rw[show o+(2*q+1)=o+q*2+1 by omega,Array.getElem?_setIfInBounds_self_of_lt Zo]
  ·have s:j≠q:=fun h=>k h.symm;have:=f q O;rw[List.getElem_set_ne s];refine⟨?_,?_⟩
   ·rw[Array.getElem?_setIfInBounds_ne O,Array.getElem?_setIfInBounds_ne O];exact this.1
   ·rw[Array.getElem?_setIfInBounds_ne O,Array.getElem?_setIfInBounds_ne O];exact this.2
theorem A2z (x y:ByteArray):∀u∈([.string x,.string y]:List Value),u.oneCell'=true:=by
 intro u hu;simp at hu;rcases hu with rfl|rfl<;>rfl
theorem A2O (W:World)(x y:Value)(t:TypeId)(s:Nat)(hs:s=W.heap.size):∀j u,([x,y]:List Value)[j]?=some u→(W.alloc (.cells #[x,y] t)).cell? ((⟨s,0,none⟩:Addr).add j)=some u:=by
 intro j u a;subst hs;rw[Addr.add_lit,Nat.zero_add];refine A1 (heap_alloc_new W _) ?_;simpa using a
def Small (L:List S2)(k:Nat):Prop:=∀y∈L,y.b.size≤8000*k
theorem Small.mono {L:List S2}{k a:Nat}(h:Small L k)(hk:k≤a):Small L a:=fun y b=>Nat.le_trans (h y b) (Nat.mul_le_mul_left _ hk)
theorem A3.low {w:World}{base a:Nat}{e:TypeId}{size:Nat}{v:Value}{n:Nat}{xs:List Value}(h:A3 w base e size v n xs)(d:a≤base):A3 w a e size v n xs:=by
 obtain⟨b,h⟩:=h;refine⟨b,?_⟩;rcases h with⟨rfl,rfl⟩|⟨g,o,cap,cur,rfl,h1,c⟩
 ·exact Or.inl ⟨rfl,rfl⟩
 ·exact Or.inr ⟨g,o,cap,cur,rfl,O,c⟩
def A7 (s:ByteArray):List S2×Nat×Nat:=if 8000<s.size then ([],1,0) else D9 0 [] (F6 s)
theorem A1n (s:ByteArray)(w:World)(hs:s.size≤140737488351232) :
 Calls Tryz.prog 38 #[.string s] w fun e w'=>∃v,e=.returned (.tuple #[v,I J (A7 s).2.1,I J (A7 s).2.2])∧A3 w' w.heap.size 88 2 v (A7 s).1.length (B3 (A7 s).1)∧((A7 s).2.1≠0→v=.slice none 0 0)∧Below w.heap.size w w':=by
 obtain⟨i0,hi,az,aA,aB⟩:=info_parts Tryz.info88;by_cases h8:8000<s.size
 ·have HR:Hd (A7 s=([],1,0)):=by show _=_;unfold A7;rw[if_pos h8]
  have c1:(8000:Int)<s.size:=O;go_enter Tryz.func38,Tryz.ntmps38;go_wp2;go_ret3;rw[HR.o];exact⟨_,rfl,A3.nil _ _ _ _,fun _=>rfl,Below.refl _ _⟩
 ·have HR:Hd (A7 s=D9 0 [] (F6 s)):=by show _=_;unfold A7;rw[if_neg h8]
  have aC:s.size≤8000:=O;have c1:¬(8000:Int)<s.size:=O;go_enter Tryz.func38,Tryz.ntmps38;go_wp2_with fail;refine(A8D s w aC).mono ?_;rintro e w1 ⟨lv,rfl,M,ac⟩;have aq:=A1m s;have ad:=A2C s;obtain⟨LS,ae⟩:=A8 (F6 s);rw[←ae]at M aq ad;have aD:Hd (A7 s=D9 0 [] LS):=by rw[ae];exact HR.o
  obtain⟨N,hN⟩:=A8 LS.length;have HN:=A4 hN;rw[←hN]at M aq;obtain⟨aE,lc,aF⟩:∃F c,lv=.slice F N c:=by
   rcases M.2 with⟨h,h0⟩|⟨g,o,cap,cur,h,_⟩
   ·exact⟨_,_,by rw[h,h0]⟩
   ·exact⟨_,_,h⟩
  subst aF;have aG:=A4 M;have aH:=A4 ad;have aI:=A4 ac;have ar:=ac.size;clear M ad ac hN ae HR;go_wp2;go_loopw [5,7] (fun v i wx=>∃(k:Nat) (L:List S2),k≤N∧i=I J k∧L.length≤k∧Small L k∧A3 wx w1.heap.size 88 2 v L.length (B3 L)∧A7 s=D9 k L (LS.drop k)∧Below w1.heap.size w1 wx) (fun _ i _=>N-(intOf i).toNat);case atStart=>exact⟨0,[],Nat.zero_le _,rfl,Nat.zero_le _,fun y C=>absurd C Zs,A3.nil _ _ _ _,aD.o,Below.refl _ _⟩
  case round=>
   obtain⟨k,L,hk,rfl,aJ,au,l,av,ab⟩:=hrel;have u:=A4 av;have P:=A4 ab;have Q:=A4 au;have aU:=ab.size;have G:Hd (Below w.heap.size w wr):=aI.o.trans (ab.mono ar);obtain⟨F,c,hv⟩:∃F c,u5=.slice F L.length c:=by
    rcases l.2 with⟨h,h0⟩|⟨g,o,cap,cur,h,_⟩
    ·exact⟨_,_,by rw[h,h0]⟩
    ·exact⟨_,_,h⟩
   obtain⟨n,hn⟩:=A8 L.length;have q:=A4 hn;have R:=A4 l;rw[←hn]at hv l aJ;subst hv;clear av ab au hn;by_cases aK:k<N
   ·have af:k<LS.length:=by rw[←HN.o];exact aK
    have aV:(k:Int)<N:=O;obtain⟨lg,lo,aL,aM,ag⟩:∃g o,aE=some ⟨g,o,none⟩∧g<w1.heap.size∧w1.cell? ⟨g,o+k,none⟩=some (.string LS[k]):=by
     rcases aG.o.2 with⟨_,h⟩|⟨g,o,cap,cur,h,_,p,_,_,_,h6⟩
     ·omega
     ·simp only[Value.slice.injEq]at h;refine⟨g,o,h.1,lt_of_block p,A1 p (h6 _ _ ?_)⟩;unfold Y1;rw[List.getElem?_map,List.getElem?_eq_getElem af];rfl
    subst aL;have aN:=aH.o LS[k] (List.getElem_mem af);have B:Hd (LS.drop k=LS[k]::LS.drop (k+1)):=List.drop_eq_getElem_cons af;obtain⟨x,hx⟩:=A8 (LS[k]);rw[←hx]at ag aN B;clear hx;have a1:wr.cell? ⟨lg,lo+k,none⟩=some (.string x):=(P.o.cell aM).trans ag;have aW:=A8l x;clear ag;by_cases D:G3 x
    ·have aw:0<x.size:=D.1;have aO:(0:Int)<x.size:=O;have aX:(1:Int)≤x.size:=O;have ax:(x.toList==([]:List UInt8))=false:=by
      rw[ByteArray.toList_eq];cases S:x.data.toList with
      |nil=>have:=E8 x;rw[S]at this;simp at this;omega
      |cons c r=>rfl
     have aP:x[0]=62:=D.2;have d1:(x[0].toNat:Int)=62:=by rw[aP];rfl
     have t:=A4 D;clear D;go_wp2_with fail;refine(A39 (tl x) _ O).mono ?_;rintro e w2 ⟨p,rfl⟩;rcases p with⟨T,rfl⟩|⟨T,rfl⟩
     ·have ay:=A4 T;clear T;go_wp2_with fail;refine(A8j L (tl x) w1.heap.size (.slice F n c) _ (by have:=q.o;omega) R.o).mono ?_;rintro e w3 ⟨V,rfl⟩;rcases V with⟨W,rfl⟩|⟨W,rfl⟩
      ·have a:Hd (A7 s=([],5,k)):=by show _=_;rw[u.o,B.o];exact S6 (T3 t.o ay.o W) Z
       clear W;go_wp2;go_ret3;rw[a.o];exact⟨_,rfl,A3.nil _ _ _ _,fun _=>rfl,G.o⟩
      ·have a:Hd (A7 s=D9 (k+1) (L++[⟨tl x,⟨#[]⟩⟩]) (LS.drop (k+1))):=by show _=_;rw[u.o,B.o];exact A0i (O9 t.o ay.o W)
       clear W;go_wp2_with (at_builtin;refine B6 _ rfl (.tmp 52) (.tmp 55) 77 rfl 88 i0 _ 2 32 Tryz.underlying77 hi az aA aB rfl Z w1.heap.size (.slice F n c) n (B3 L) rfl (by exact l.other (fun g _ aQ=>Below.heap_alloc _ _ _ aQ)) ⟨w3.heap.size,0,none⟩ 1 [.string (tl x),.string ⟨#[]⟩] rfl rfl (by exact A2O _ _ _ _ _ rfl) (A2z _ _) (by unfold maxLen;omega) O Zo ?_;intro g' o' cap' w4 aR aS);go_roundw;case rel=>
        refine⟨k+1,L++[⟨tl x,⟨#[]⟩⟩],O,Zn,by rw[List.length_append,←q.o];show n+1≤_;omega,?_,?_,a.o,?_⟩
        ·intro y C;rw[List.mem_append]at C;rcases C with C|C
         ·exact(Q.o.mono (Nat.le_succ k)) y C
         ·simp at C;subst C;exact Nat.zero_le _
        ·rw[List.length_append,←q.o,S7];exact aR
        ·exact(P.o.alloc P.o.size _).trans (aS.below (fun g hg=>(R.o.lt hg).1) Zo)
       case measure=>simp[intOf];omega
     ·have a:Hd (A7 s=([],4,k)):=by show _=_;rw[u.o,B.o];exact S6 (W9 t.o T) Z
      clear T;go_wp2;go_ret3;rw[a.o];exact⟨_,rfl,A3.nil _ _ _ _,fun _=>rfl,G.o⟩
    ·by_cases aw:0<x.size
     ·have aO:(0:Int)<x.size:=O;have ax:(x.toList==([]:List UInt8))=false:=by
       rw[ByteArray.toList_eq];cases S:x.data.toList with
       |nil=>have:=E8 x;rw[S]at this;simp at this;omega
       |cons c r=>rfl
      have d1:¬(x[0].toNat:Int)=62:=fun h=>D ⟨aw,UInt8.toNat_inj.1 (by have:x[0].toNat=62:=O;rw[this];rfl)⟩;have t:=A4 D;clear D;by_cases X:n=0
      ·have a:Hd (A7 s=([],3,k)):=by show _=_;rw[u.o,B.o];exact S6 (R2 t.o (List.eq_nil_of_length_eq_zero (by rw[←q.o,X]))) Z
       subst X;go_wp2;go_ret3;rw[a.o];exact⟨_,rfl,A3.nil _ _ _ _,fun _=>rfl,G.o⟩
      ·obtain⟨m,rfl⟩:∃m,n=m+1:=⟨n-1,O⟩;have H:Hd (L≠[]):=fun h=>by have:=q.o;rw[h]at this;simp at this
       go_wp2_with fail;refine(A0h x _ O).mono ?_;rintro e w2 ⟨p,rfl⟩;rcases p with⟨j,rfl⟩|⟨j,rfl⟩
       ·have aT:=A4 j;obtain⟨A,y,d⟩:=Z3 H.o;have ah:=A4 d;have ai:y.b.size≤8000*k:=Q.o y (by rw[d];simp);have K:A.length=m:=by have:=q.o;rw[d]at this;simp at this;omega
        have Y:=A4 K;have a:Hd (A7 s=D9 (k+1) (A++[⟨y.n,y.b++x⟩]) (LS.drop (k+1))):=by show _=_;rw[u.o,B.o,A0i (M6 t.o H.o j),d,O8]
        obtain⟨g,o,aj,ak⟩:∃g o,F=some ⟨g,o,none⟩∧∃cur,w2.heap[g]?=some (.cells cur 88 (0,0))∧o+(m+1)*2≤cur.size:=by
         rcases l.2 with⟨_,h⟩|⟨g,o,cap,cur,h,_,p,V,_,h5,_⟩
         ·omega
         ·simp only[Value.slice.injEq]at h;exact⟨g,o,h.1,cur,p,Nat.le_trans (Nat.add_le_add_left (Nat.mul_le_mul_right 2 V) o) h5⟩
        subst aj;obtain⟨cur,E,al⟩:=ak;obtain⟨b1,b2⟩:=l.seqs m (by rw[d];simp;omega);have aa:L[m]'(by rw[d];simp;omega)=y:=by simp[d,←K]
        rw[aa]at b1 b2;have f1:w2.frozen? ⟨g,o+m*2,none⟩=false:=frozen_of_row _ _ _ _ _ E;have f2:w2.frozen? ⟨g,o+m*2+1,none⟩=false:=frozen_of_row _ _ _ _ _ E;have am:Hd (A3 ((w2.setCell ⟨g,o+m*2,none⟩ (.string y.n)).setCell ⟨g,o+m*2+1,none⟩ (.string (y.b++x))) w1.heap.size 88 2 (.slice (some ⟨g,o,none⟩) (m+1) c) (m+1) (B3 (L.set m ⟨y.n,y.b++x⟩))):=l.set2 (q.o.symm) m O ⟨y.n,y.b++x⟩;have an:Hd (L.set m ⟨y.n,y.b++x⟩=A++[⟨y.n,y.b++x⟩]):=by
         show _=_;rw[d,←K];simp
        have e1:((m+1:Nat):Int)-1=m:=O;have e2:(m:Int)<((m+1:Nat):Int):=O;have ap:∀v1 v2,Hd (Below w1.heap.size w2 ((w2.setCell ⟨g,o+m*2,none⟩ v1).setCell ⟨g,o+m*2+1,none⟩ v2)):=fun v1 v2=>((E1.of_setCell (i:=o+m*2) v1 E).setCell (i:=o+m*2+1) v2).below (R.o.lt rfl).1;have HY:=A4 ai;clear E al d j l aa;go_wp2;go_region;go_wp2;go_roundw;case rel=>
         refine⟨k+1,A++[⟨y.n,y.b++x⟩],O,Zn,by rw[List.length_append,Y.o];show m+1≤_;omega,?_,?_,a.o,?_⟩
         ·intro z f;rw[List.mem_append]at f;rcases f with f|f
          ·exact(Q.o.mono (Nat.le_succ k)) z (by rw[ah.o];simp[f])
          ·simp at f;subst f;show(y.b++x).size≤_;rw[ByteArray.size_append];have:=HY.o;omega
         ·have e:(A++[(⟨y.n,y.b++x⟩:S2)]).length=m+1:=by rw[List.length_append,Y.o];rfl
          rw[e,←an.o];exact am.o.other (fun _ _ _=>rfl)
         ·have:=P.o.trans (ap (.string y.n) (.string (y.b++x))).out;exact⟨this.os,this.tape,this.output,this.size,this.block⟩
        case measure=>simp[intOf];omega
       ·have a:Hd (A7 s=([],2,k)):=by show _=_;rw[u.o,B.o];exact S6 (R5 t.o H.o j) Z
        clear j;go_wp2;go_ret3;rw[a.o];exact⟨_,rfl,A3.nil _ _ _ _,fun _=>rfl,G.o⟩
     ·have ax:(x.toList==([]:List UInt8))=true:=by
       rw[ByteArray.toList_eq];cases S:x.data.toList with
       |nil=>rfl
       |cons c r=>have:=E8 x;rw[S]at this;simp at this;omega
      have t:=A4 D;clear D;by_cases X:n=0
      ·have a:Hd (A7 s=([],3,k)):=by show _=_;rw[u.o,B.o];exact S6 (R2 t.o (List.eq_nil_of_length_eq_zero (by rw[←q.o,X]))) Z
       subst X;go_wp2;go_ret3;rw[a.o];exact⟨_,rfl,A3.nil _ _ _ _,fun _=>rfl,G.o⟩
      ·obtain⟨m,rfl⟩:∃m,n=m+1:=⟨n-1,O⟩;have H:Hd (L≠[]):=fun h=>by have:=q.o;rw[h]at this;simp at this
       go_wp2_with fail;refine(A0h x _ O).mono ?_;rintro e w2 ⟨p,rfl⟩;rcases p with⟨j,rfl⟩|⟨j,rfl⟩
       ·have aT:=A4 j;obtain⟨A,y,d⟩:=Z3 H.o;have ah:=A4 d;have ai:y.b.size≤8000*k:=Q.o y (by rw[d];simp);have K:A.length=m:=by have:=q.o;rw[d]at this;simp at this;omega
        have Y:=A4 K;have a:Hd (A7 s=D9 (k+1) (A++[⟨y.n,y.b++x⟩]) (LS.drop (k+1))):=by show _=_;rw[u.o,B.o,A0i (M6 t.o H.o j),d,O8]
        obtain⟨g,o,aj,ak⟩:∃g o,F=some ⟨g,o,none⟩∧∃cur,w2.heap[g]?=some (.cells cur 88 (0,0))∧o+(m+1)*2≤cur.size:=by
         rcases l.2 with⟨_,h⟩|⟨g,o,cap,cur,h,_,p,V,_,h5,_⟩
         ·omega
         ·simp only[Value.slice.injEq]at h;exact⟨g,o,h.1,cur,p,Nat.le_trans (Nat.add_le_add_left (Nat.mul_le_mul_right 2 V) o) h5⟩
        subst aj;obtain⟨cur,E,al⟩:=ak;obtain⟨b1,b2⟩:=l.seqs m (by rw[d];simp;omega);have aa:L[m]'(by rw[d];simp;omega)=y:=by simp[d,←K]
        rw[aa]at b1 b2;have f1:w2.frozen? ⟨g,o+m*2,none⟩=false:=frozen_of_row _ _ _ _ _ E;have f2:w2.frozen? ⟨g,o+m*2+1,none⟩=false:=frozen_of_row _ _ _ _ _ E;have am:Hd (A3 ((w2.setCell ⟨g,o+m*2,none⟩ (.string y.n)).setCell ⟨g,o+m*2+1,none⟩ (.string (y.b++x))) w1.heap.size 88 2 (.slice (some ⟨g,o,none⟩) (m+1) c) (m+1) (B3 (L.set m ⟨y.n,y.b++x⟩))):=l.set2 (q.o.symm) m O ⟨y.n,y.b++x⟩;have an:Hd (L.set m ⟨y.n,y.b++x⟩=A++[⟨y.n,y.b++x⟩]):=by
         show _=_;rw[d,←K];simp
        have e1:((m+1:Nat):Int)-1=m:=O;have e2:(m:Int)<((m+1:Nat):Int):=O;have ap:∀v1 v2,Hd (Below w1.heap.size w2 ((w2.setCell ⟨g,o+m*2,none⟩ v1).setCell ⟨g,o+m*2+1,none⟩ v2)):=fun v1 v2=>((E1.of_setCell (i:=o+m*2) v1 E).setCell (i:=o+m*2+1) v2).below (R.o.lt rfl).1;have HY:=A4 ai;clear E al d j l aa;go_wp2;go_region;go_wp2;go_roundw;case rel=>
         refine⟨k+1,A++[⟨y.n,y.b++x⟩],O,Zn,by rw[List.length_append,Y.o];show m+1≤_;omega,?_,?_,a.o,?_⟩
         ·intro z f;rw[List.mem_append]at f;rcases f with f|f
          ·exact(Q.o.mono (Nat.le_succ k)) z (by rw[ah.o];simp[f])
          ·simp at f;subst f;show(y.b++x).size≤_;rw[ByteArray.size_append];have:=HY.o;omega
         ·have e:(A++[(⟨y.n,y.b++x⟩:S2)]).length=m+1:=by rw[List.length_append,Y.o];rfl
          rw[e,←an.o];exact am.o.other (fun _ _ _=>rfl)
         ·have:=P.o.trans (ap (.string y.n) (.string (y.b++x))).out;exact⟨this.os,this.tape,this.output,this.size,this.block⟩
        case measure=>simp[intOf];omega
       ·have a:Hd (A7 s=([],2,k)):=by show _=_;rw[u.o,B.o];exact S6 (R5 t.o H.o j) Z
        clear j;go_wp2;go_ret3;rw[a.o];exact⟨_,rfl,A3.nil _ _ _ _,fun _=>rfl,G.o⟩
   ·have a:Hd (A7 s=(L,0,0)):=by
     show _=_;rw[u.o,List.drop_eq_nil_of_le (by rw[←HN.o];omega),D9]
    go_wp2;go_ret3;rw[a.o];refine⟨_,rfl,?_,fun h=>absurd rfl h,G.o⟩;exact R.o.low ar
theorem A3.form {w:World}{base:Nat}{e:TypeId}{size:Nat}{v:Value}{n:Nat}{xs:List Value}(h:A3 w base e size v n xs):∃a c,v=.slice a n c:=by
 rcases h.2 with⟨rfl,rfl⟩|⟨g,o,cap,cur,rfl,_⟩
 ·exact⟨_,_,rfl⟩
 ·exact⟨_,_,rfl⟩
def A9z (m:Nat):UInt8:=([65,67,71,84,78]:List UInt8).getD m 0
theorem B0h (m:Nat)(h:m<(⟨#[65,67,71,84,78]⟩:ByteArray).size):(⟨#[65,67,71,84,78]⟩:ByteArray)[m]=A9z m:=by
 have:m<5:=h;rcases (show m=0∨m=1∨m=2∨m=3∨m=4 by omega) with rfl|rfl|rfl|rfl|rfl<;>rfl
theorem A9h (c:UInt8)(h:0≤B4 c):A9z (B4 c).toNat=c:=by
 rcases R9 c with⟨rfl,_⟩|⟨rfl,_⟩|⟨rfl,_⟩|⟨rfl,_⟩|⟨rfl,_⟩|⟨a,_⟩
 ·rfl
 ·rfl
 ·rfl
 ·rfl
 ·rfl
 ·omega
theorem A4D (x:Int):∀u∈([.int .u8 x]:List Value),u.oneCell'=true:=by
 intro u hu;simp at hu;subst hu;rfl
theorem A9a {w W w2:World}{B base g' o' cap' n k:Nat}{sv m bv:Value}{b:List UInt8}{c:UInt8}{ob:Obj}
 (y:B<w.heap.size)(q:b.length=n)
 (r:W=(w.drewN k).alloc ob)
 (o:w2.heap[B]?=some (.cells #[sv,m,bv] 167 (0,0)))
 (p:A3 w2 base 5 1 (.slice (some ⟨g',o',none⟩) (n+1) cap') (n+1) (Lib.byteCells b++[.int .u8 (c.toNat:Int)]))(d:L1 W w2 bv g') :
 ∃l,A3 (w2.setCell ⟨B,2,none⟩ (.slice (some ⟨g',o',none⟩) (n+1) cap')) base 5 1 l (b++[c]).length (Lib.byteCells (b++[c]))∧
  (w2.setCell ⟨B,2,none⟩ (.slice (some ⟨g',o',none⟩) (n+1) cap')).heap[B]?=some (.cells #[sv,m,l] 167 (0,0))∧
  PFr w (w2.setCell ⟨B,2,none⟩ (.slice (some ⟨g',o',none⟩) (n+1) cap')) bv l B:=by
 subst r;have a:=E1.of_setCell (i:=2) (.slice (some ⟨g',o',none⟩) (n+1) cap') o;have s:(Value.slice (some ⟨g',o',none⟩) (n+1) cap').ownBlock≠some B:=p.tag Z o;have t:=d.size;simp at t;have z:(w.drewN k).heap.size=w.heap.size:=rfl;refine⟨.slice (some ⟨g',o',none⟩) (n+1) cap',?_,a.here,⟨?_,?_,?_,?_,?_,?_⟩⟩
 ·have e:Lib.byteCells (b++[c])=Lib.byteCells b++[.int .u8 (c.toNat:Int)]:=by simp[Lib.byteCells]
  rw[e,List.length_append,q];exact p.other (fun g f _=>a.other g (fun e=>s (by rw[f,e])))
 ·exact a.os.trans d.os
 ·exact a.tape.trans d.tape
 ·exact a.output.trans d.output
 ·rw[a.size];omega
 ·intro j u v x;rw[a.other j v,d.other j Zo x];exact Below.heap_alloc (w.drewN k) ob j u
 ·intro g f;simp only[Value.ownBlock,Option.some.injEq]at f;subst f;rcases d.new with h|h
  ·exact Or.inl h
  ·right;have:w.heap.size+1≤g':=by simpa using h
   omega
theorem A9D (B base m n:Nat)(p:Int)(sv h bv:Value)(b:List UInt8)(q:b.length=n)(w:World)(hm:m<5)
 (a:w.heap[B]?=some (.cells #[sv,h,bv] 167 (0,0)))(j:A3 w base 5 1 bv n (Lib.byteCells b))(F:base≤w.heap.size)(G:n≤1000000000) :
 Calls Tryz.prog 101 #[.pointer (some ⟨B,0,none⟩),I J p,I J m] w fun e w'=>e=.returned (.tuple #[])∧
  ∃k,A3 w' base 5 1 k (b++[A9z m]).length (Lib.byteCells (b++[A9z m]))∧w'.heap[B]?=some (.cells #[sv,h,k] 167 (0,0))∧PFr w w' bv k B:=by
 obtain⟨i0,hi,v,x,y⟩:=info_parts Tryz.info5;obtain⟨d,c,rfl⟩:=j.form;have r:=lt_of_block a;have s:(Value.slice d n c).ownBlock≠some B:=j.tag Z a;have z:=A4 q;have A:=A4 s;have C:=A4 a;have c2:w.cell? ⟨B,2,none⟩=some (.slice d n c):=A1 a rfl;have f2:w.frozen? ⟨B,2,none⟩=false:=frozen_of_row _ _ _ _ _ a;have H:∀l ob,((w.drewN l).alloc ob).cell? ⟨B,2,none⟩=some (.slice d n c):=fun l ob=>O7 c2 _ l;have K:(m:Int)<5:=O;clear a q s;go_enter Tryz.func101,Tryz.ntmps101;go_region_law (refine H9 rfl (.tmp 10) (.tmp 13) 63 rfl 5 i0 _ 1 1 Tryz.underlying63 hi v x y rfl Z base (.slice d n c) n (Lib.byteCells b) (by simp[Act.eval]) (by exact j.other (fun g _ D=>Below.heap_alloc (w.drewN _) _ _ D)) ⟨w.heap.size,0,none⟩ 1 [.int .u8 ((⟨#[65,67,71,84,78]⟩:ByteArray)[m].toNat:Int)] (by simp[Act.eval]) rfl (by exact A1x (w.drewN _) _ _ _ rfl) (A4D _) (by unfold maxLen;omega) O Zo ?_;intro g' o' cap' w2 t u;have f:w2.heap[B]?=some (.cells #[sv,h,.slice d n c] 167 (0,0)):=(u.other B Zo A.o).trans ((Below.heap_alloc (w.drewN _) _ _ r).trans C.o);have E:Hd _:=f;have L:=A1 f (i:=2) rfl;have M:w2.frozen? ⟨B,2,none⟩=false:=frozen_of_row w2 _ _ _ _ f;clear f);all_goals go_end0
 all_goals (rw[B0h m hm]at t;exact⟨rfl,A9a r z.o rfl E.o t u⟩)
theorem A3u {w:World}{base n:Nat}{b:Option Addr}{c:Nat}{a:List UInt8}(d:a.length=n)(h:A3 w base 5 1 (.slice b n c) n (Lib.byteCells a)) :
 (convert 63 9 (.slice b n c)).run Tryz.prog w=.ok (.string ⟨a.toArray⟩) w:=by
 rcases h.2 with⟨h1,m⟩|⟨g,o,cap,cur,h1,_,f,_,_,_,i⟩
 ·have k:a=[]:=List.eq_nil_of_length_eq_zero O;subst k;simp only[Value.slice.injEq]at h1;obtain⟨rfl,rfl,rfl⟩:=h1;exact run_convert_bytes_nil w 63 5 Tryz.underlying63 Tryz.underlying5 0 0 9 Tryz.underlying9
 ·simp only[Value.slice.injEq,true_and]at h1;obtain⟨rfl,rfl⟩:=h1;have:=run_convert_bytes_back (P:=Tryz.prog) w 63 9 5 ⟨g,o,none⟩ c a Tryz.underlying63 Tryz.underlying5 Tryz.underlying9 (by
   intro j l;rw[Addr.add_lit];refine A1 f (i j _ ?_);unfold Lib.byteCells;rw[List.getElem?_map,List.getElem?_eq_getElem l];rfl)
  rw[d]at this;exact this
theorem A3.setB {w:World}{base g o n cap:Nat}{X:List S2}(h:A3 w base 88 2 (.slice (some ⟨g,o,none⟩) n cap) n (B3 X))(t:X.length=n)(j:Nat)(u:j<n)(b:ByteArray) :
 A3 (w.setCell ⟨g,o+j*2+1,none⟩ (.string b)) base 88 2 (.slice (some ⟨g,o,none⟩) n cap) n (B3 (X.set j ⟨(X[j]'O).n,b⟩)):=by
 obtain⟨a,h⟩:=h;refine⟨by rw[Z5]at a⊢;rw[List.length_set];exact a,?_⟩;rcases h with⟨h,_⟩|⟨g',o',cap',cur,he,h1,m,c,p,d,f⟩
 ·simp at h
 ·simp only[Value.slice.injEq,Option.some.injEq,Addr.mk.injEq,and_true,true_and]at he;obtain⟨⟨rfl,rfl⟩,rfl⟩:=he;have r:=E1.of_setCell (i:=o+j*2+1) (.string b) m;refine Or.inr ⟨g,o,cap,_,rfl,h1,r.here,c,p,by simpa using d,?_⟩;rw[A3p]at f⊢;intro q k;rw[List.length_set]at k;have v:o+n*2≤cur.size:=Nat.le_trans (Nat.add_le_add_left (Nat.mul_le_mul_right 2 c) o) d;have:=f q k;by_cases l:q=j
  ·subst l;simp only[List.getElem_set_self];refine⟨?_,?_⟩
   ·rw[Array.getElem?_setIfInBounds_ne O];exact this.1
   ·rw[show o+(2*q+1)=o+q*2+1 by omega,Array.getElem?_setIfInBounds_self_of_lt O]
  ·have s:j≠q:=fun h=>l h.symm;rw[List.getElem_set_ne s];refine⟨?_,?_⟩
   ·rw[Array.getElem?_setIfInBounds_ne O];exact this.1
   ·rw[Array.getElem?_setIfInBounds_ne O];exact this.2
structure FFr (w w':World)(sv:Value)(B:Nat):Prop where
 os:w'.os=w.os
 tape:w'.tape=w.tape
 output:w'.output=w.output
 size:w'.heap.size=w.heap.size
 other:∀j,j≠B→sv.ownBlock≠some j→w'.heap[j]?=w.heap[j]?
theorem A6P (B:Nat)(a:Option Addr)(c:Nat)(d bv:Value)(w:World)
 (b:w.heap[B]?=some (.cells #[.slice a 0 c,d,bv] 167 (0,0))) :
 Calls Tryz.prog 75 #[.pointer (some ⟨B,0,none⟩)] w fun e w'=>e=.returned (.tuple #[])∧w'=w:=by
 have c0:w.cell? ⟨B,0,none⟩=some (.slice a 0 c):=A1 b rfl;clear b;go_enter Tryz.func75,Tryz.ntmps75;go_wp2;(try simp only[Exit.inBlock,Exit.then]);refine bodyPost_ret (results_none rfl _ _ _) rfl ?_;exact⟨rfl,rfl⟩
theorem A5O (B base m n g o sc b:Nat)(c:Option Addr)(p:Value)(A:List S2)(y:S2)(d:A.length=m)(a:List UInt8)(D:a.length=n)(w:World)
 (f:w.heap[B]?=some (.cells #[.slice (some ⟨g,o,none⟩) (m+1) sc,p,.slice c n b] 167 (0,0)))
 (hs:A3 w base 88 2 (.slice (some ⟨g,o,none⟩) (m+1) sc) (m+1) (B3 (A++[y])))
 (u:A3 w base 5 1 (.slice c n b) n (Lib.byteCells a))(L:n≤1000000000)(hm:m≤1000000000)(M:(b:Int)≤9223372036854775807) :
 Calls Tryz.prog 75 #[.pointer (some ⟨B,0,none⟩)] w fun e w'=>e=.returned (.tuple #[])∧
  w'.heap[B]?=some (.cells #[.slice (some ⟨g,o,none⟩) (m+1) sc,p,.slice c 0 b] 167 (0,0))∧
  A3 w' base 88 2 (.slice (some ⟨g,o,none⟩) (m+1) sc) (m+1) (B3 (A++[⟨y.n,⟨a.toArray⟩⟩]))∧FFr w w' (.slice (some ⟨g,o,none⟩) (m+1) sc) B:=by
 have c0:w.cell? ⟨B,0,none⟩=some (.slice (some ⟨g,o,none⟩) (m+1) sc):=A1 f rfl;have c2:w.cell? ⟨B,2,none⟩=some (.slice c n b):=A1 f rfl;have f2:w.frozen? ⟨B,2,none⟩=false:=frozen_of_row _ _ _ _ _ f;have N:=A3u D (w:=w.drew) (u.other (fun _ _ _=>rfl));obtain⟨cur,k,E⟩:∃cur,w.heap[g]?=some (.cells cur 88 (0,0))∧o+(m+1)*2≤cur.size:=by
  rcases hs.2 with⟨h,_⟩|⟨g',o',cap,cur,h,_,q,F,_,G,_⟩
  ·simp at h
  ·simp only[Value.slice.injEq,Option.some.injEq,Addr.mk.injEq,and_true,true_and]at h;obtain⟨⟨rfl,rfl⟩,rfl⟩:=h;exact⟨cur,q,Nat.le_trans (Nat.add_le_add_left (Nat.mul_le_mul_right 2 F) o) G⟩
 obtain⟨b1,b2⟩:=hs.seqs m (by rw[List.length_append,d];simp);have v:g≠B:=fun e=>by subst e;rw[f]at k;simp at k
 have H:¬B=g:=fun e=>v e.symm;have P:w.frozen? ⟨g,o+m*2+1,none⟩=false:=frozen_of_row _ _ _ _ _ k;have r:(A++[y])[m]'(by rw[List.length_append,d];simp)=y:=by simp[←d]
 rw[r]at b1 b2;have s:=hs.setB (by rw[List.length_append,d];rfl) m O ⟨a.toArray⟩;have x:(A++[y]).set m ⟨((A++[y])[m]'(by rw[List.length_append,d];simp)).n,⟨a.toArray⟩⟩=A++[⟨y.n,⟨a.toArray⟩⟩]:=by
  rw[r,←d];simp
 rw[x]at s;have K:=A4 s;have e1:((m+1:Nat):Int)-1=m:=O;have Q:(m:Int)<((m+1:Nat):Int):=O;have R:(((m+1:Nat):Int)==0)=false:=by rw[beq_eq_false_iff_ne];omega
 have t:Hd (E1 w (w.setCell ⟨g,o+m*2+1,none⟩ (.string ⟨a.toArray⟩)) g _):=E1.of_setCell (i:=o+m*2+1) (.string ⟨a.toArray⟩) k;have z:(w.setCell ⟨g,o+m*2+1,none⟩ (.string ⟨a.toArray⟩)).heap[B]?=some (.cells #[.slice (some ⟨g,o,none⟩) (m+1) sc,p,.slice c n b] 167 (0,0)):=(t.o.other B H).trans f;have l:Hd (E1 (w.setCell ⟨g,o+m*2+1,none⟩ (.string ⟨a.toArray⟩)) ((w.setCell ⟨g,o+m*2+1,none⟩ (.string ⟨a.toArray⟩)).setCell ⟨B,2,none⟩ (.slice c 0 b)) B _):=E1.of_setCell (i:=2) (.slice c 0 b) z;clear s x f r k E hs u z;go_enter Tryz.func75,Tryz.ntmps75;go_wp2;go_region;go_wp2;go_end0;refine⟨rfl,l.o.here,K.o.other (fun j C _=>l.o.other j (fun e=>?_)),⟨rfl,rfl,rfl,l.o.size.trans t.o.size,fun j h1 q=>(l.o.other j h1).trans (t.o.other j (fun e=>q (by simp[Value.ownBlock,e])))⟩⟩;simp only[Value.ownBlock,Option.some.injEq]at C;exact v (C.trans e)
end
section
open Go.RowKit Go.Maps
def B0g (L:List S2):List S2:=L.dropLast++(L.getLast?.map fun y=>⟨y.n,⟨#[]⟩⟩).toList
def U3 (L:List S2):List UInt8:=(L.getLast?.map fun y=>y.b.data.toList).getD []
theorem A1u (A:List S2)(y:S2):B0g (A++[y])=A++[⟨y.n,⟨#[]⟩⟩]:=by simp[B0g]
theorem S5 (A:List S2)(y:S2):U3 (A++[y])=y.b.data.toList:=by simp[U3]
theorem A5u:Keyed Tryz.prog 9:=string_keyed Tryz.underlying9
theorem A4b (w:World):(zeroValue 3).run Tryz.prog w=.ok (I J 0) w:=U
structure PrP (base B Bm:Nat)(L:List S2)(sv bv:Value)(D:DataW Unit)(w:World):Prop where
 par:w.heap[B]?=some (.cells #[sv,.map (some Bm),bv] 167 (0,0))
 seqs:A3 w base 88 2 sv L.length (B3 (B0g L))
 bases:A3 w base 5 1 bv (U3 L).length (Lib.byteCells (U3 L))
 map:w.ownsMap Tryz.prog 9 (plainElem Tryz.prog 3) Bm L.length D
 has:∀s:ByteArray,Maps.has D (.string s.data.toList)=true↔O1 L s
 low:base≤w.heap.size
 lowB:base≤B
 lowM:base≤Bm
theorem G7 {w w':World}{P:Program}{k:TypeId}{R:Value→Option (DataW Unit×List MemPlace)}{b n:Nat}{D:DataW Unit}(h:w.ownsMap P k R b n D)(a:w'.heap[b]?=w.heap[b]?):w'.ownsMap P k R b n D:=by
 obtain⟨es,clock,h1,c⟩:=h;exact⟨es,clock,a.trans h1,c⟩
theorem X7 {w:World}{P:Program}{k:TypeId}{R:Value→Option (DataW Unit×List MemPlace)}{b n:Nat}{D:DataW Unit}(h:w.ownsMap P k R b n D){g:Nat}{cs:Array Value}{t:TypeId}(a:w.heap[g]?=some (.cells cs t (0,0))):g≠b:=by
 obtain⟨es,clock,h1,c⟩:=h;intro e;subst e;rw[a]at h1;simp at h1
theorem A3.neMap {w:World}{base:Nat}{e:TypeId}{size:Nat}{v:Value}{n:Nat}{xs:List Value}(h:A3 w base e size v n xs){P:Program}{k:TypeId}{R:Value→Option (DataW Unit×List MemPlace)}{b a:Nat}{D:DataW Unit}(hm:w.ownsMap P k R b a D):v.ownBlock≠some b:=by
 obtain⟨_,h⟩:=h;rcases h with⟨rfl,rfl⟩|⟨g,o,cap,cur,rfl,h1,c,d⟩
 ·simp[Value.ownBlock]
 ·intro e;simp only[Value.ownBlock,Option.some.injEq]at e;exact X7 hm c e
theorem A3.apart {w:World}{base:Nat}{e b:TypeId}{size c:Nat}{v v':Value}{n d:Nat}{xs f:List Value}(h:A3 w base e size v n xs)(i:A3 w base b c v' d f)(he:e≠b){g:Nat}(a:v.ownBlock=some g):v'.ownBlock≠some g:=by
 obtain⟨_,h⟩:=h;rcases h with⟨rfl,rfl⟩|⟨g2,o,cap,cur,rfl,h1,j,k⟩
 ·simp[Value.ownBlock]at a
 ·simp only[Value.ownBlock,Option.some.injEq]at a;subst a;exact i.tag he j
theorem A3j (base B i:Nat)(L:List S2)(sv bv:Value)(D:DataW Unit)(w:World)(h:PrP base B i L sv bv D w)(x:L.length≤100000000)(k:(U3 L).length≤1000000000) :
 Calls Tryz.prog 75 #[.pointer (some ⟨B,0,none⟩)] w fun e w'=>e=.returned (.tuple #[])∧∃l,w'.heap[B]?=some (.cells #[sv,.map (some i),l] 167 (0,0))∧A3 w' base 88 2 sv L.length (B3 L)∧A3 w' base 5 1 l 0 []∧FFr w w' sv B:=by
 by_cases m:L=[]
 ·subst m;obtain⟨z,c,rfl⟩:=h.seqs.form;refine(A6P B z c _ bv w h.par).mono ?_;rintro e w' ⟨rfl,rfl⟩;exact⟨rfl,bv,h.par,h.seqs,h.bases,⟨rfl,rfl,rfl,rfl,fun _ _ _=>rfl⟩⟩
 ·obtain⟨A,y,rfl⟩:=Z3 m;have hs:=h.seqs;have a:=h.bases;have p:=h.par;rw[A1u,List.length_append]at hs;rw[S5]at a k;obtain⟨q,d,rfl⟩:=a.form;rcases hs.2 with⟨_,r⟩|⟨g,o,sc,cur,rfl,h1,P,Q,s,R,S⟩
  ·simp at r
  ·have C:(d:Int)≤9223372036854775807:=by
    rcases a.2 with⟨h1,_⟩|⟨_,_,_,_,h1,_,_,_,s,_⟩
    ·simp only[Value.slice.injEq]at h1;omega
    ·simp only[Value.slice.injEq]at h1;obtain⟨_,_,rfl⟩:=h1;unfold maxLen at s;omega
   rw[List.length_append]at x;refine(A5O B base A.length _ g o sc d q _ A ⟨y.n,⟨#[]⟩⟩ rfl y.b.data.toList rfl w p hs a k O C).mono ?_;rintro e w' ⟨rfl,E,t,v⟩;refine⟨rfl,_,E,?_,?_,v⟩
   ·rw[A1E]at t;rw[List.length_append];exact t
   ·have:A3 w' base 5 1 (.slice q y.b.data.toList.length d) _ _:=a.other (fun j f T=>v.other j (fun e=>by subst e;exact a.tag Z p f) (a.apart hs Z f));rcases this.2 with⟨h1,r⟩|⟨g2,F,cap,G,h1,H,K,V,M,N,W⟩
    ·simp only[Value.slice.injEq]at h1;obtain⟨rfl,_,rfl⟩:=h1;exact A3.nil _ _ _ _
    ·simp only[Value.slice.injEq,true_and]at h1;obtain⟨rfl,rfl⟩:=h1;exact⟨rfl,Or.inr ⟨g2,F,d,G,rfl,H,K,Nat.zero_le _,M,N,fun j u f=>by simp at f⟩⟩
end
section
open Go.RowKit Go.Maps Go.WideMaps
theorem A9o {base B f g' o' cap':Nat}{L:List S2}{sv bv:Value}{D:DataW Unit}{d:DataW Unit}{w1 a o h:World}{nm:ByteArray}{ob:Obj}
 (v:a.heap[B]?=some (.cells #[sv,.map (some f),bv] 167 (0,0)))(p:A3 a base 5 1 bv 0 [])(hs:A3 a base 88 2 sv L.length (B3 L))
 (hm:a.ownsMap Tryz.prog 9 (plainElem Tryz.prog 3) f (L.length+1) (D.put (.string nm.data.toList) d))(z:Maps.IsMap D)(A:∀s:ByteArray,Maps.has D (.string s.data.toList)=true↔O1 L s)
 (R:base≤a.heap.size)(C:base≤B)(E:base≤f)(j:Below base w1 a)
 (k:Below a.heap.size a.drew o)(w:A3 h base 88 2 (.slice (some ⟨g',o',none⟩) (L.length+1) cap') (L.length+1) (B3 L++[.string nm,.string ⟨#[]⟩]))
 (l:L1 (o.alloc ob) h sv g')(y:h.heap[B]?=some (.cells #[sv,.map (some f),bv] 167 (0,0))) :
 (∃sv' F G,PrP base B f (L++[⟨nm,⟨#[]⟩⟩]) sv' F G (h.setCell ⟨B,0,none⟩ (.slice (some ⟨g',o',none⟩) (L.length+1) cap')))∧Below base w1 (h.setCell ⟨B,0,none⟩ (.slice (some ⟨g',o',none⟩) (L.length+1) cap')):=by
 have c:=E1.of_setCell (i:=0) (.slice (some ⟨g',o',none⟩) (L.length+1) cap') y;have H:=k.size;have K:=l.size;simp at H K;have r:∀q,q<a.heap.size→q≠B→sv.ownBlock≠some q→(h.setCell ⟨B,0,none⟩ (.slice (some ⟨g',o',none⟩) (L.length+1) cap')).heap[q]?=a.heap[q]?:=fun q t M N=>by
  rw[c.other q M,l.other q (by simp;omega) N,Below.heap_alloc o ob q (by omega),k.block q t];rfl
 refine⟨⟨.slice (some ⟨g',o',none⟩) (L.length+1) cap',bv,D.put (.string nm.data.toList) d,⟨c.here,?_,?_,?_,?_,?_,C,E⟩⟩,?_⟩
 ·rw[A1u,List.length_append,S7];exact w.other (fun g m _=>c.other g (fun e=>by subst e;exact w.tag (by decide) y m))
 ·rw[S5];exact p.other (fun g m P=>r g P (fun e=>by subst e;exact p.tag (by decide) v m) (p.apart hs (by decide) m))
 ·rw[List.length_append];exact G7 hm (r f hm.lt (fun e=>X7 hm v e.symm) (hs.neMap hm))
 ·intro s;by_cases u:s=nm
  ·subst u;constructor
   ·intro _;exact⟨⟨s,⟨#[]⟩⟩,by simp,rfl⟩
   ·intro _;exact Maps.has_put_same z (show WideAt.IsKeyLit (.string s.data.toList) from trivial) d
  ·have Q:(Lit.string s.data.toList)≠Lit.string nm.data.toList:=fun e=>u (by
    simp only[Lit.string.injEq]at e;exact WideShapes.bytes_inj e)
   rw[Maps.has_put_other Q,A s];constructor
   ·rintro⟨x,b,n⟩;exact⟨x,by simp[b],n⟩
   ·rintro⟨x,b,n⟩;rw[List.mem_append]at b;rcases b with b|b
    ·exact⟨x,b,n⟩
    ·simp at b;subst b;exact absurd n.symm u
 ·rw[c.size];omega
 ·have S:=j.size;refine⟨c.os.trans (l.os.trans (k.os.trans j.os)),c.tape.trans (l.tape.trans (k.tape.trans j.tape)),c.output.trans (l.output.trans (k.output.trans j.output)),by rw[c.size];omega,fun q t=>?_⟩;rw[r q (by omega) (by omega) (fun he=>by have:=(hs.lt he).1;omega)];exact j.block q t
theorem A88 (base B b:Nat)(L:List S2)(sv bv:Value)(D:DataW Unit)(w:World)(nm:ByteArray)(h:PrP base B b L sv bv D w)(hL:L.length≤100000000)(hb:(U3 L).length≤1000000000)(T:nm.size≤8000) :
 Calls Tryz.prog 100 #[.pointer (some ⟨B,0,none⟩),.string nm] w fun e w'=>
  ((¬D8 nm∧e=.returned (.int .i64 4))∨(D8 nm∧O1 L nm∧e=.returned (.int .i64 5))∨
    (D8 nm∧¬O1 L nm∧e=.returned (.int .i64 0)∧∃sv' ak D',PrP base B b (L++[⟨nm,⟨#[]⟩⟩]) sv' ak D' w'))∧Below base w w':=by
 obtain⟨i0,hi,al,am,an⟩:=info_parts Tryz.info88;have f:Hd (PrP base B b L sv bv D w):=h;have F:=keyOf_string_mk (P:=Tryz.prog) Tryz.underlying9 (s:=nm) (by unfold maxLen;omega);have G:=h.map;have c1:w.cell? ⟨B,1,none⟩=some (.map (some b)):=A1 h.par rfl;have V:=h.has nm;have W:Hd (Maps.has D (.string nm.data.toList)=true↔O1 L nm):=V;clear h V;go_enter Tryz.func100,Tryz.ntmps100;go_wp2_with fail;refine(A3J nm w T).mono ?_;rintro e w1 ⟨h1,rfl⟩;rcases h1 with⟨u,rfl⟩|⟨u,rfl⟩
 ·have v:Hd (D8 nm):=u;clear u;cases x:Maps.has D (.string nm.data.toList)
  ·have H:Hd (¬O1 L nm):=fun h=>by rw[W.o.2 h]at x;exact absurd x (by simp)
   go_wp2_with (at_lookup;refine wpList_lookup_own_ok_int _ rfl _ _ 141 rfl 9 3 .i64 A5u Tryz.underlying141 Tryz.underlying3 (A4b _) b L.length D rfl G _ _ rfl F ?_;intro c X Y;rw[x]);refine(A3j base B b L sv bv D _ f.o hL hb).mono ?_;rintro e w2 ⟨rfl,k,z,K,aa,M⟩;have y:w2.ownsMap Tryz.prog 9 (plainElem Tryz.prog 3) b L.length D:=G7 f.o.map (M.other b (fun e=>X7 f.o.map f.o.par e.symm) (f.o.seqs.neMap f.o.map));have N:Hd (w2.heap[B]?=some (.cells #[sv,.map (some b),k] 167 (0,0))):=z;have ab:Hd (A3 w2 base 88 2 sv L.length (B3 L)):=K;have ac:Hd (A3 w2 base 5 1 k 0 []):=aa;have ap:Hd (FFr w1 w2 sv B):=M;have d0:w2.cell? ⟨B,0,none⟩=some sv:=A1 z rfl;have d1:w2.cell? ⟨B,1,none⟩=some (.map (some b)):=A1 z rfl;obtain⟨j,sc,aq⟩:=K.form;subst aq;clear z K aa M G c1;go_wp2;obtain⟨d,ar,ad,n⟩:=y.drew.update A5u Tryz.underlying141 (by unfold maxLen;omega) F (plainElem_int (a:=(L.length:Int)) Tryz.underlying3 (WalkArith.wf_i64 (by omega)));go_region;have au:B≠b:=X7 y N.o;have av:=lt_of_block N.o;have ae:=n.size;have p:∀q,q<w2.heap.size→q≠b→d.heap[q]?=w2.heap[q]?:=fun q hq aw=>n.block q hq (fun e=>aw (Option.some.inj e));have aI:Hd (∀q,q<w2.heap.size→q≠b→d.heap[q]?=w2.heap[q]?):=p;have A:d.heap[B]?=some (.cells #[.slice j L.length sc,.map (some b),k] 167 (0,0)):=(p B av au).trans N.o;have af:A3 d base 88 2 (.slice j L.length sc) L.length (B3 L):=ab.o.other (fun g Q m=>p g m (fun e=>by subst e;exact ab.o.neMap y Q));have ag:A3 d base 5 1 k 0 []:=ac.o.other (fun g Q m=>p g m (fun e=>by subst e;exact ac.o.neMap y Q));have R:Hd (d.heap[B]?=some (.cells #[.slice j L.length sc,.map (some b),k] 167 (0,0))):=A;have ax:Hd (A3 d base 5 1 k 0 []):=ag;have S:Hd (A3 d base 88 2 (.slice j L.length sc) L.length (B3 L)):=af;have ay:Hd (d.ownsMap Tryz.prog 9 (plainElem Tryz.prog 3) b (L.length+1) (D.put (.string nm.data.toList) (.lit (.int .i64 (L.length:Int))))):=ad;have az:Hd (w2.heap.size≤d.heap.size):=ae;have ah:Hd (Below base w1 d):=by
    have r:=ap.o;refine⟨n.os.trans r.os,n.tape.trans r.tape,n.output.trans r.output,by have:=az.o;have:=r.size;omega,fun q hq=>?_⟩;have h1:=f.o.low;have h2:=f.o.lowB;have h3:=f.o.lowM;rw[p q (by have:=r.size;omega) (by omega),r.other q (by omega) (fun he=>by have:=(f.o.seqs.lt he).1;omega)]
   have k0:d.cell? ⟨B,0,none⟩=some (.slice j L.length sc):=A1 A rfl;have aA:base≤d.heap.size:=by have:=ah.o.size;have:=f.o.low;omega
   have aB:1≤nm.size:=v.o.1;have aC:B<d.heap.size:=lt_of_block A;clear ar ad n ae p A af ag d0 d1 y X Y;go_wp2;go_region_law (first|(refine H9 rfl (.tmp 36) (.tmp 40) 77 rfl 88 i0 _ 2 32 Tryz.underlying77 hi al am an rfl (by decide) base (.slice j L.length sc) L.length (B3 L) (by simp[Act.eval]) (by exact aD.other (fun g _ m=>Below.heap_alloc _ _ _ m)) ⟨l.heap.size,0,none⟩ 1 [.string nm,.string ⟨#[]⟩] (by simp[Act.eval]) rfl (by exact A2O _ _ _ _ _ rfl) (A2z _ _) (by unfold maxLen;omega) (by omega) (by have:=ai.o.size;simp at this⊢;omega) ?_;intro g' o' cap' w6 aE aj;have C:w6.heap[B]?=some (.cells #[.slice j L.length sc,.map (some b),k] 167 (0,0)):=(aj.other B (by simp;omega) (S.o.tag (by decide) R.o)).trans ((Below.heap_alloc l _ B aF).trans aG.o);have k6:=A1 C (i:=0) rfl;have f6:w6.frozen? ⟨B,0,none⟩=false:=frozen_of_row _ _ _ _ _ C;have aH:Hd _:=C;clear C)|(go_simp;go_at_call 107;refine(A3x nm _ aB T).mono ?_;rintro e l ⟨rfl,E⟩;have t:l.heap[B]?=some (.cells #[.slice j L.length sc,.map (some b),k] 167 (0,0)):=(E.block B aC).trans R.o;have aD:A3 l base 88 2 (.slice j L.length sc) L.length (B3 L):=S.o.other (fun g _ m=>E.block g m);have k5:l.cell? ⟨B,0,none⟩=some (.slice j L.length sc):=A1 t rfl;have aJ:∀ob,(l.alloc ob).cell? ⟨B,0,none⟩=some (.slice j L.length sc):=(fun ob=>A1 ((Below.heap_alloc l ob B (lt_of_block t)).trans t) rfl);have aF:=lt_of_block t;have aG:Hd _:=t;have ai:Hd (Below d.heap.size d.drew l):=E;clear t E));all_goals go_wp2
   all_goals go_ret
   all_goals (obtain⟨r1,r2⟩:=A9o R.o ax.o S.o ay.o f.o.map.isMap f.o.has aA f.o.lowB f.o.lowM ah.o ai.o aE aj aH.o)
   all_goals exact⟨Or.inr (Or.inr ⟨v.o,H.o,rfl,r1⟩),r2⟩
  ·have H:Hd (O1 L nm):=W.o.1 x;go_wp2_with (at_lookup;refine wpList_lookup_own_ok_int _ rfl _ _ 141 rfl 9 3 .i64 A5u Tryz.underlying141 Tryz.underlying3 (A4b _) b L.length D rfl G _ _ rfl F ?_;intro c X Y;rw[x]);go_ret;exact⟨Or.inr (Or.inl ⟨v.o,H.o,rfl⟩),Below.refl _ _⟩
 ·have v:Hd (¬D8 nm):=u;clear u;go_wp2;go_ret;exact⟨Or.inl ⟨v.o,rfl⟩,Below.refl _ _⟩
end
section
open Go.RowKit Go.Maps
def B4c (o:Obj):Prop:=∀cs,o≠.cells cs 5 (0,0)
def LI (w:World)(base B:Nat)(sv mv:Value)(bs:List UInt8)(x:ByteArray)(k:Nat)(wr:World):Prop:=
 ∃bv',wr.heap[B]?=some (.cells #[sv,mv,bv'] 167 (0,0))∧A3 wr base 5 1 bv' (bs++x.data.toList.take k).length (Lib.byteCells (bs++x.data.toList.take k))∧
  (∀q o,q≠B→B4c o→w.heap[q]?=some o→wr.heap[q]?=some o)∧Below base w wr∧base≤wr.heap.size
theorem B1W (args:Array Value)(w:World):(callFunc 101 args).run Tryz.prog w=.ok (.enter 101 args) w:=by
 obtain⟨c,a⟩:∃c,Tryz.f101.body=some c:=⟨_,rfl⟩;exact Q4 Tryz.func101 U a args w
theorem B2S (w:World)(base B:Nat)(sv c:Value)(a:List UInt8)(x:ByteArray)(C:base≤B)(n:a.length+x.size≤100000000)(k:Nat)(hk:k<x.size)(wr:World)(p:0≤B4 x[k])(h:LI w base B sv c a x k wr) :
 Calls Tryz.prog 101 #[.pointer (some ⟨B,0,none⟩),I J k,I J (B4 x[k])] wr fun e w'=>e=.returned (.tuple #[])∧LI w base B sv c a x (k+1) w':=by
 obtain⟨bv,r,ho,s,d,t⟩:=h;have D:=K8 x[k];have hlen:=E8 x;obtain⟨m,hm⟩:∃m:Nat,B4 x[k]=m:=⟨(B4 x[k]).toNat,O⟩;rw[hm];have E:(a++x.data.toList.take k).length≤100000000:=by rw[List.length_append,List.length_take];omega
 refine(A9D B base m _ k sv c bv (a++x.data.toList.take k) rfl wr O r ho t O).mono ?_;rintro e w' ⟨rfl,u,v,y,b⟩;have z:=b.size;have e1:a++x.data.toList.take (k+1)=a++x.data.toList.take k++[A9z m]:=by
  have A:k<x.data.toList.length:=O;rw[List.take_succ_eq_append_getElem A,List.append_assoc];congr 2;have:A9z (B4 x[k]).toNat=x[k]:=A9h _ p;rw[hm]at this;simp at this;rw[this,Array.getElem_toList];rfl
 refine⟨rfl,u,y,by rw[e1];exact v,?_,?_,O⟩
 ·intro q o f i j;have h1:=s q o f i j;rw[b.other q (lt_of_block h1) f (fun he=>?_)]
  ·exact h1
  ·rcases ho.2 with⟨h,_⟩|⟨g,F,cap,cur,h,_,l,_⟩
   ·rw[h]at he;simp[Value.ownBlock]at he
   ·rw[h]at he;simp only[Value.ownBlock,Option.some.injEq]at he;subst he;rw[h1]at l;exact i cur (Option.some.inj l)
 ·have n:=d.size;exact d.trans ⟨b.os,b.tape,b.output,z,fun q j=>b.other q O O (fun he=>by have:=(ho.lt he).1;omega)⟩
theorem A86 (A:List S2)(y:S2)(b:ByteArray)(s:ByteArray):O1 (A++[⟨y.n,b⟩]) s↔O1 (A++[y]) s:=by
 unfold O1;constructor
 ·rintro⟨z,a,c⟩;rw[List.mem_append]at a;rcases a with a|a
  ·exact⟨z,by simp[a],c⟩
  ·simp at a;subst a;exact⟨y,Zs,c⟩
 ·rintro⟨z,a,c⟩;rw[List.mem_append]at a;rcases a with a|a
  ·exact⟨z,by simp[a],c⟩
  ·simp at a;subst a;exact⟨⟨z.n,b⟩,Zs,c⟩
theorem B0u (base B l:Nat)(L:List S2)(sv bv:Value)(D:DataW Unit)(w:World)(x:ByteArray)(h:PrP base B l L sv bv D w)(S:L.length≤100000000)(hb:(U3 L).length≤90000000)(T:x.size≤8000) :
 Calls Tryz.prog 74 #[.pointer (some ⟨B,0,none⟩),.string x] w fun e w'=>e=.returned (I J (F2 L x).1)∧((F2 L x).1=0→∃sv' C V,PrP base B l (F2 L x).2 sv' C V w')∧Below base w w':=by
 have m:=A4 h;have ah:=A8l x;have c0:w.cell? ⟨B,0,none⟩=some sv:=A1 h.par rfl;obtain⟨N,sc,W⟩:=h.seqs.form;subst W;clear h;go_enter Tryz.func74,Tryz.ntmps74;go_wp2_with fail;refine(A2R x w T).mono ?_;rintro e w1 ⟨h1,rfl⟩;rcases h1 with⟨p,rfl⟩|⟨p,rfl⟩
 ·have i:=A4 p;clear p;go_wp2_with fail;refine(A88 base B l L _ bv D _ (tl x) m.o S O O).mono ?_;rintro e w2 ⟨c,G⟩;rcases c with⟨f,rfl⟩|⟨f,r,rfl⟩|⟨f,r,rfl,hex⟩
  ·have a:Hd (F2 L x=(4,[])):=W9 i.o f;clear f;go_wp2;go_ret;rw[a.o];exact⟨rfl,fun h=>absurd h Z,G⟩
  ·have a:Hd (F2 L x=(5,[])):=T3 i.o f r;clear f r;go_wp2;go_ret;rw[a.o];exact⟨rfl,fun h=>absurd h Z,G⟩
  ·have a:Hd (F2 L x=(0,L++[⟨tl x,⟨#[]⟩⟩])):=O9 i.o f r;have X:=A4 hex;clear f r hex;go_wp2;go_ret;rw[a.o];exact⟨rfl,fun _=>X.o,G⟩
 ·have i:=A4 p;clear p;by_cases t:L=[]
  ·have a:Hd (F2 L x=(3,[])):=R2 i.o t;subst t;go_wp2;go_ret;rw[a.o];exact⟨rfl,fun h=>absurd h Z,Below.refl _ _⟩
  ·have H:=A4 t;have ai:((L.length:Int)==0)=false:=by
    rw[beq_eq_false_iff_ne];intro h;exact t (List.eq_nil_of_length_eq_zero O)
   clear t;go_wp2_with fail;refine(N1 101 B1W _ x _ O (LI w1 base B (.slice N L.length sc) (.map (some l)) (U3 L) x) (fun k hk wr Y h=>B2S w1 base B _ _ (U3 L) x m.o.lowB O k hk wr Y h) ?_).mono ?_
   ·refine⟨bv,m.o.par,?_,fun q o _ _ h=>h,Below.refl _ _,m.o.low⟩;rw[List.take_zero,List.append_nil];exact m.o.bases
   ·rintro e w2 ⟨k,hk,⟨C,E,u,F,P,aa⟩,K,ab⟩;rcases ab with⟨rfl,rfl⟩|⟨ac,ad,rfl⟩
    ·have Q:good x:=fun j R=>K j R R;have a:Hd (F2 L x=(0,A5g L x)):=M6 i.o H.o Q;have HX:Hd (PrP base B l (A5g L x) (.slice N L.length sc) C D w2):=by
      obtain⟨A,y,ae⟩:=Z3 H.o;have d:=m.o;rw[ae]at d u E⊢;rw[O8];have af:∀v n xs e sz,e≠5→e≠167→A3 w1 base e sz v n xs→A3 w2 base e sz v n xs:=fun v n xs e sz h5 ag ho=>by
       refine ho.other (fun g z aj=>?_);rcases ho.2 with⟨h,_⟩|⟨g2,o2,cap,cur,h,_,c,_⟩
       ·rw[h]at z;simp[Value.ownBlock]at z
       ·rw[h]at z;simp only[Value.ownBlock,Option.some.injEq]at z;subst z;rw[F g2 _ (fun e'=>by subst e';rw[d.par]at c;simp at c;exact ag c.2.symm) (fun cs he=>by simp at he;exact h5 he.2) c,c]
      have M:=af _ _ _ _ _ Z Z d.seqs;refine⟨E,?_,?_,?_,?_,aa,d.lowB,d.lowM⟩
      ·rw[A1u]at M⊢;simp only[List.length_append,List.length_cons,List.length_nil]at M⊢;exact M
      ·rw[S5]at u⊢;have e1:(y.b++x).data.toList=y.b.data.toList++x.data.toList.take x.size:=by
        rw[ByteArray.data_append,Array.toList_append,List.take_of_length_le (by rw[E8];exact Nat.le_refl _)]
       show A3 w2 base 5 1 C (y.b++x).data.toList.length (Lib.byteCells (y.b++x).data.toList);rw[e1];exact u
      ·have hm:=d.map;rw[List.length_append]at hm⊢;obtain⟨es,clock,h1,c⟩:=hm;exact⟨es,clock,F l _ (fun e=>X7 d.map d.par e.symm) (fun cs he=>by simp at he) h1,c⟩
      ·intro s;rw[d.has s];exact(A86 A y _ s).symm
     clear Q K u F E;go_wp2;go_ret;rw[a.o];exact⟨rfl,fun _=>⟨_,_,_,HX.o⟩,P⟩
    ·have a:Hd (F2 L x=(2,[])):=R5 i.o H.o (fun h=>absurd (h k ac) O);clear K u F E ad;go_wp2;go_ret;rw[a.o];exact⟨rfl,fun h=>absurd h Z,P⟩
def B3F:Value→Nat
 |.string s=>s.size
 |_=>0
theorem PrP.drew {base B a:Nat}{L:List S2}{sv bv:Value}{D:DataW Unit}{w:World}(h:PrP base B a L sv bv D w)(n:Nat):PrP base B a L sv bv D (w.drewN n):=
 ⟨h.par,h.seqs.other (fun _ _ _=>rfl),h.bases.other (fun _ _ _=>rfl),G7 h.map rfl,h.has,h.low,h.lowB,h.lowM⟩
theorem A7H (L:List S2)(x:ByteArray)(h:(F2 L x).1=0):(F2 L x).2.length≤L.length+1∧(U3 (F2 L x).2).length≤(U3 L).length+x.size:=by
 by_cases a:G3 x
 ·by_cases c:D8 (tl x)
  ·by_cases d:O1 L (tl x)
   ·rw[T3 a c d]at h;exact absurd h Z
   ·rw[O9 a c d];refine⟨Zs,?_⟩;show(U3 (L++[_])).length≤_;rw[S5];exact Nat.zero_le _
  ·rw[W9 a c]at h;exact absurd h Z
 ·by_cases b:L=[]
  ·rw[R2 a b]at h;exact absurd h Z
  ·by_cases f:good x
   ·rw[M6 a b f];refine⟨by show(A5g L x).length≤_;rw[A6i];omega,?_⟩;obtain⟨A,y,rfl⟩:=Z3 b;show(U3 (A5g (A++[y]) x)).length≤_;rw[O8,S5,S5,E8,E8,ByteArray.size_append];exact Nat.le_refl _
   ·rw[R5 a b f]at h;exact absurd h Z
theorem A27:∀(l:List ByteArray) (i:Nat) (L:List S2),(D9 i L l).2.1≠0→(D9 i L l).1=[]
 |[],i,L,h=>by rw[D9]at h;exact absurd rfl h
 |x::r,i,L,h=>by
  rw[D9]at h⊢
  split
  ·rename_i a
   rw[if_pos a]at h
   exact A27 r _ _ h
  ·rfl
theorem T5:∀(l:List ByteArray) (i:Nat) (L:List S2),(D9 i L l).2.1=0→(D9 i L l).2.2=0
 |[],i,L,h=>by rw[D9]
 |x::r,i,L,h=>by
  rw[D9]at h⊢
  split
  ·rename_i a
   rw[if_pos a]at h
   exact T5 r _ _ h
  ·rename_i a
   rw[if_neg a]at h
   exact absurd h a
theorem A64:F6 ⟨#[]⟩=[]:=by simp[F6,F3]
theorem A8M {s:ByteArray}(h:s.size=0):s=⟨#[]⟩:=by
 cases s with
 |mk d=>have:d.size=0:=h;simp at this;subst this;rfl
theorem A48 (base B d:Nat)(s:ByteArray)(w:World)(hs:s.size≤8000)(sv bv:Value)(D:DataW Unit)(h:PrP base B d [] sv bv D w)(R:List S2×Nat×Nat)(t:D9 0 [] (F6 s)=R) :
 Calls Tryz.prog 73 #[.string s,.func (.func 74) #[.pointer (some ⟨B,0,none⟩)] #[]] w fun e w'=>e=.returned (.tuple #[I J R.2.1,I J R.2.2])∧(R.2.1=0→∃sv bv D,PrP base B d R.1 sv bv D w'∧R.1.length≤8000∧(U3 R.1).length≤90000000)∧Below base w w':=by
 have P:=A4 h;have Q:=A4 t;clear h t;go_enter Tryz.func73,Tryz.ntmps73;go_wp2;go_loopw [0,6] (fun x i wx=>∃(k:Nat) (rest:ByteArray) (L:List S2) (sv bv:Value) (D:DataW Unit),x=.string rest∧i=I J k∧k+rest.size≤s.size∧L.length≤k∧(U3 L).length≤8000*k∧PrP base B d L sv bv D wx∧D9 k L (F6 rest)=R∧Below base w wx) (fun x _ _=>B3F x);case atStart=>exact⟨0,s,[],sv,bv,D,rfl,rfl,O,Nat.zero_le _,Nat.zero_le _,P.o,Q.o,Below.refl _ _⟩
 case round=>
  obtain⟨k,rest,L,sv,bv,D,rfl,rfl,Y,aa,ab,u,heq,v⟩:=hrel;have y:=A4 u;have l:=A4 heq;have z:=A4 v;clear u heq v;by_cases A:rest.size=0
  ·obtain rfl:=A8M A;have n:Hd (R=(L,0,0)):=by
    show _=_;rw[←l.o,A64,D9]
   go_wp2;go_ret2;rw[n.o];exact⟨rfl,fun _=>⟨sv,bv,D,y.o,by show L.length≤_;omega,by show(U3 L).length≤_;omega⟩,z.o⟩
  ·have ac:(rest.toList==([]:List UInt8))=false:=by
    rw[ByteArray.toList_eq];cases S:rest.data.toList with
    |nil=>have:=E8 rest;rw[S]at this;simp at this;omega
    |cons c r=>rfl
   go_wp2_with fail;refine(B0U rest _ O A).mono ?_;rintro e w1 ⟨x,C,f,rfl,T,m,rfl⟩;obtain⟨ad,ae,F⟩:=T;have G:=A4 F;clear F;go_wp2_with fail;refine(B0u base B d L sv bv D _ x (y.o.drew m) O O O).mono ?_;rintro e w2 ⟨rfl,hex,a⟩;have H:Hd (Below base w w2):=z.o.trans ⟨a.os,a.tape,a.output,a.size,a.block⟩;obtain⟨E,g⟩:=A8 ((F2 L x).1);have j:=A4 g;have V:Hd (E=0→∃sv' p q,PrP base B d (F2 L x).2 sv' p q w2):=fun h=>hex (by rw[←g];exact h);rw[←g];clear hex a g;by_cases b:E=0
   ·have K:=A7H L x (by rw[←j.o,b]);have W:Hd (D9 (k+1) (F2 L x).2 (F6 C)=R):=by
     show _=_;rw[←l.o,G.o,D9,if_pos (by rw[←j.o,b])]
    obtain⟨sv',p,q,M⟩:=V.o b;have X:=A4 M;have N:=A4 K;clear K M;subst b;go_wp2;go_roundw;case rel=>
     exact⟨k+1,C,(F2 L x).2,sv',p,q,rfl,Zn,O,by have:=N.o.1;omega,by have:=N.o.2;omega,X.o,W.o,H.o⟩
    case measure=>simp[B3F];omega
   ·have n:Hd (R=([],E,k)):=by
     show _=_;rw[←l.o,G.o,D9,if_neg (by rw[←j.o];exact b),←j.o]
    go_wp2;go_ret2;rw[n.o];exact⟨rfl,fun h=>absurd h b,H.o⟩
theorem A4c (s:ByteArray)(w:World)(hs:s.size≤140737488351232) :
 Calls Tryz.prog 49 #[.string s] w fun e w'=>∃v,e=.returned (.tuple #[v,I J (A7 s).2.1,I J (A7 s).2.2])∧A3 w' w.heap.size 88 2 v (A7 s).1.length (B3 (A7 s).1)∧((A7 s).2.1≠0→v=.slice none 0 0)∧Below w.heap.size w w':=by
 by_cases j:8000<s.size
 ·have a:Hd (A7 s=([],1,0)):=by show _=_;unfold A7;rw[if_pos j]
  have c1:(8000:Int)<s.size:=O;go_enter Tryz.func49,Tryz.ntmps49;go_wp2;go_ret3;rw[a.o];exact⟨_,rfl,A3.nil _ _ _ _,fun _=>rfl,Below.refl _ _⟩
 ·have a:Hd (D9 0 [] (F6 s)=A7 s):=by show _=_;unfold A7;rw[if_neg j]
  have u:s.size≤8000:=O;have c1:¬(8000:Int)<s.size:=O;have H:=run_makeMap (P:=Tryz.prog) 141 w;go_enter Tryz.func49,Tryz.ntmps49;go_wp2_with fail;have k:Hd (PrP w.heap.size (w.heap.size+1) w.heap.size [] (.slice none 0 0) (.slice none 0 0) (.map []) ((w.alloc (.map #[] 0)).alloc (.cells #[.slice none 0 0,.map (some w.heap.size),.slice none 0 0] 167))):=by
   refine⟨by simpa using heap_alloc_new (w.alloc (.map #[] 0)) _,A3.nil _ _ _ _,A3.nil _ _ _ _,(World.ownsMap_made w _ _ _).alloc _,fun x=>?_,Zo,O,Nat.le_refl _⟩;constructor
   ·intro h;simp[Maps.has]at h
   ·rintro⟨_,h,_⟩;simp at h
  refine(A48 w.heap.size (w.heap.size+1) w.heap.size s _ u _ _ _ k.o (A7 s) a.o).mono ?_;rintro e w2 ⟨rfl,hex,l⟩;obtain⟨L,F,K,f⟩:∃L F K,A7 s=(L,F,K):=⟨_,_,_,rfl⟩;have b:=A4 f;rw[f]at hex⊢;have y:=A4 hex;have m:Hd (Below w.heap.size w w2):=by
   have h1:Below w.heap.size w (w.alloc (.map #[] 0)):=(Below.refl _ w).alloc (Nat.le_refl _) _;have z:=h1.alloc h1.size (.cells #[.slice none 0 0,.map (some w.heap.size),.slice none 0 0] 167);exact z.trans l
  clear hex l f k;by_cases g:F=0
  ·obtain⟨sv,bv,D,n,M,N⟩:=y.o g;subst g;have p:=A4 n;clear n;go_wp2_with fail;refine(A3j w.heap.size (w.heap.size+1) w.heap.size L sv bv D w2 p.o O O).mono ?_;rintro e r ⟨rfl,Q,t,i,A,d⟩;have c0:r.cell? ⟨w.heap.size+1,0,none⟩=some sv:=A1 t rfl;have B:=A4 i;have C:Hd (Below w.heap.size w r):=m.o.trans ⟨d.os,d.tape,d.output,by rw[d.size];exact Nat.le_refl _,fun q R=>d.other q O (fun he=>by have:=(p.o.seqs.lt he).1;omega)⟩;obtain⟨S,c,E⟩:=i.form;subst E;clear t i A d;go_wp2;go_ret3;rw[b.o];obtain rfl:K=0:=by
    have:=T5 (F6 s) 0 [] (by rw[a.o,b.o]);rw[a.o,b.o]at this;exact this
   exact⟨_,rfl,B.o,fun h=>absurd rfl h,C.o⟩
  ·go_wp2;go_ret3;rw[b.o];have G:L=[]:=by
    have:=A27 (F6 s) 0 [] (by rw[a.o,b.o];exact g);rw[a.o,b.o]at this;exact this
   subst G;exact⟨_,rfl,A3.nil _ _ _ _,fun _=>rfl,m.o⟩
end
end Mn
end Go.Proofs.YtilcmkiihefkkaaGreatDoor
