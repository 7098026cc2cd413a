import Derived.Lib.Bytealg
import Derived.Test.YtilcmkiihefkkaaGreatDoorProg
import Derived.WalkLawsBesides
import Derived.WalkSpells
import Derived.Test.YtilcmkiihefkkaaGreatDoorJl5
set_option linter.unusedVariables false
set_option linter.unusedSimpArgs false
set_option maxRecDepth 1000000
set_option maxHeartbeats 64000000
open Go.Value renaming int→I
open Go.IntKind renaming i64→J
namespace Go.Proofs.YtilcmkiihefkkaaGreatDoor
namespace Mn
section
open Go.RowKit
def B4 (c:UInt8):Int:=Lib.indexByte [65,67,71,84,78] c
theorem B0E (s:ByteArray)(c:Int)(w:World) :
 Calls Tryz.prog 102 #[.string s,.int .u8 c] w fun e w'=>e=.returned (I J (Lib.indexByte s.data.toList c.toNat.toUInt8))∧w'=w:=by
 go_enter Tryz.func102,Tryz.ntmps102;go_wp2;rw[run_callFunc_extern Tryz.func131 U U U (e:=Extern.BytealgIndexByte.indexByte) U,Lib.run_indexByteString];simp only[Result.andThen];rw[Oper.upon_value];go_wp2;go_ret;exact⟨rfl,rfl⟩
theorem Q6 (c:UInt8)(w:World) :
 Calls Tryz.prog 76 #[.string ⟨#[65,67,71,84,78]⟩,.int .u8 c.toNat] w fun e w'=>e=.returned (I J (B4 c))∧w'=w:=by
 go_enter Tryz.func76,Tryz.ntmps76;go_wp2_with (first|(go_at_call 102;refine(B0E _ _ _).mono ?_;rintro e w' ⟨rfl,rfl⟩)|go_in);go_ret;exact⟨rfl,rfl⟩
theorem R9 (c:UInt8):(c=65∧B4 c=0)∨(c=67∧B4 c=1)∨(c=71∧B4 c=2)∨(c=84∧B4 c=3)∨(c=78∧B4 c=4)∨(B4 c=-1∧c≠65∧c≠67∧c≠71∧c≠84∧c≠78):=by
 unfold B4 Lib.indexByte Lib.indexByte Lib.indexByte Lib.indexByte Lib.indexByte Lib.indexByte;by_cases h1:c=65
 ·subst h1;decide
 by_cases a:c=67
 ·subst a;decide
 by_cases b:c=71
 ·subst b;decide
 by_cases d:c=84
 ·subst d;decide
 by_cases f:c=78
 ·subst f;decide
 simp[h1,a,b,d,f,Ne.symm h1,Ne.symm a,Ne.symm b,Ne.symm d,Ne.symm f]
theorem K8 (c:UInt8):-1≤B4 c∧B4 c<5:=by
 rcases R9 c with h|h|h|h|h|h<;>omega
theorem Q4 {f:Nat}{fn:Func}{c:Code}(a:Tryz.prog.funcs[f]?=some fn)(b:(fn.name== "runtime.NumGoroutine")=false)(d:fn.body=some c)(args:Array Value)(w:World) :
 (callFunc f args).run Tryz.prog w=.ok (.enter f args) w:=by
 have h1:fn.name≠ "runtime.NumGoroutine":=by simpa using b
 simp[callFunc,a,h1,d]
theorem N1 (F:Nat)(v:∀args w,(callFunc F args).run Tryz.prog w=.ok (.enter F args) w)(r:Value)(s:ByteArray)(w:World)(hs:s.size≤140737488351232)(a:Nat→World→Prop)
 (f:∀k (hk:k<s.size) w,0≤B4 s[k]→a k w→Calls Tryz.prog F #[r,I J k,I J (B4 s[k])] w fun e w'=>e=.returned (.tuple #[])∧a (k+1) w')
 (n:a 0 w) :
 Calls Tryz.prog 50 #[.string s,.func (.func F) #[r] #[]] w fun e w'=>
  ∃k,k≤s.size∧a k w'∧(∀j (b:j<s.size),j<k→0≤B4 s[j])∧
   ((k=s.size∧e=.returned (I J 0))∨(∃hk:k<s.size,B4 s[k]<0∧e=.returned (I J 2))):=by
 have p:=A4 f;clear f;go_enter Tryz.func50,Tryz.ntmps50;go_wp2;go_loopw [9] (fun i wr=>∃k:Nat,k≤s.size∧i=I J k∧a k wr∧(∀j (b:j<s.size),j<k→0≤B4 s[j])) (fun i _=>s.size-(intOf i).toNat);case atStart=>exact⟨0,Nat.zero_le _,rfl,n,fun j b h=>absurd h O⟩
 case round=>
  obtain⟨k,hk,rfl,c,g⟩:=hrel;have d:=A4 g;clear g;by_cases l:k<s.size
  ·have x:=K8 s[k];by_cases q:B4 s[k]<0
   ·go_wp2_with (go_at_call 76;refine(Q6 _ _).mono ?_;rintro e w' ⟨rfl,rfl⟩);go_ret;exact⟨k,hk,c,d.o,Or.inr ⟨l,q,rfl⟩⟩
   ·have m:0≤B4 s[k]:=O;go_wp2_with (first|(go_at_call 76;refine(Q6 _ _).mono ?_;rintro e w' ⟨rfl,rfl⟩));refine(p.o k l _ m c).mono ?_;rintro e w' ⟨rfl,t⟩;go_wp2;go_roundw;case rel=>
     refine⟨k+1,O,Zn,t,fun j b h=>?_⟩;by_cases u:j<k
     ·exact d.o j b u
     ·obtain rfl:j=k:=O;exact m
    case measure=>simp[intOf];omega
  ·go_wp2;go_ret;exact⟨k,hk,c,d.o,Or.inl ⟨O,rfl⟩⟩
def pbyte (m:Nat):UInt8:=([84,71,67,65,78]:List UInt8).getD m 0
theorem A8w (m:Nat)(h:m<(⟨#[84,71,67,65,78]⟩:ByteArray).size):(⟨#[84,71,67,65,78]⟩:ByteArray)[m]=pbyte m:=by
 have:m<5:=h;rcases (show m=0∨m=1∨m=2∨m=3∨m=4 by omega) with rfl|rfl|rfl|rfl|rfl<;>rfl
theorem A9w (B g n p m:Nat)(cur:Array Value)(w:World)(h:p<n)(i:n≤140737488351232)(hm:m<5)
 (b:w.heap[B]?=some (.cells #[.slice (some ⟨g,0,none⟩) n n] 125 (0,0)))(a:w.heap[g]?=some (.cells cur 5 (0,0)))(d:cur.size=n) :
 Calls Tryz.prog 51 #[.pointer (some ⟨B,0,none⟩),I J p,I J m] w fun e w'=>e=.returned (.tuple #[])∧E1 w w' g (.cells (cur.setIfInBounds (n-1-p) (.int .u8 ((pbyte m).toNat:Int))) 5 (0,0)):=by
 have h1:((n:Int)-1-p).toNat=n-1-p:=O;have j:0≤(n:Int)-1-p:=O;have k:(n:Int)-1-p<n:=O;have l:(m:Int)<5:=O;have q:((n-1-p:Nat):Int)<n:=O;have r:=cell_of_one b;obtain⟨x,c⟩:∃x,cur[n-1-p]?=some x:=⟨cur[n-1-p]'O,Zs⟩;have s:w.cell? ⟨g,n-1-p,none⟩=some x:=by rw[cell_of_row w g _ cur 5 (0,0) a];exact c
 have t:w.frozen? ⟨g,n-1-p,none⟩=false:=frozen_of_row w g _ cur 5 a;have f:Hd (∀v,E1 w (w.setCell ⟨g,n-1-p,none⟩ v) g (.cells (cur.setIfInBounds (n-1-p) v) 5 (0,0))):=fun v=>E1.of_setCell v a;clear c b a d;go_enter Tryz.func51,Tryz.ntmps51;go_region;all_goals go_end0
 all_goals refine⟨rfl,?_⟩
 all_goals (have:=(f.o (.int .u8 ((pbyte m).toNat:Int))).drew;rw[←A8w m hm]at this⊢;exact this)
def good (s:ByteArray):Prop:=∀j (hj:j<s.size),0≤B4 s[j]
def J2 (l:List UInt8):List UInt8:=(l.map fun c=>pbyte (B4 c).toNat).reverse
theorem Q1 (l:List UInt8):(J2 l).length=l.length:=by simp[J2]
theorem Tryz.info5:(Tryz.prog.info? 5).map (fun i=>(i.zero,i.size,i.bytes))=some (some (.int .u8 0),1,1):=U
theorem B2s (args:Array Value)(w:World):(callFunc 51 args).run Tryz.prog w=.ok (.enter 51 args) w:=by
 obtain⟨c,a⟩:∃c,Tryz.f51.body=some c:=⟨_,rfl⟩;exact Q4 Tryz.func51 U a args w
def TI (w:World)(s:ByteArray)(B g:Nat)(k:Nat)(wr:World):Prop:=
 ∃cur,wr.heap[B]?=some (.cells #[.slice (some ⟨g,0,none⟩) s.size s.size] 125 (0,0))∧wr.heap[g]?=some (.cells cur 5 (0,0))∧cur.size=s.size∧
  (∀j (hj:j<s.size),j<k→cur[s.size-1-j]?=some (.int .u8 ((pbyte (B4 s[j]).toNat).toNat:Int)))∧Below w.heap.size w wr
theorem B2x (w:World)(s:ByteArray)(B g:Nat)(c:g≠B)(hw:w.heap.size≤g)(hs:s.size≤140737488351232)(k:Nat)(hk:k<s.size)(wr:World)(n:0≤B4 s[k])(h:TI w s B g k wr) :
 Calls Tryz.prog 51 #[.pointer (some ⟨B,0,none⟩),I J k,I J (B4 s[k])] wr fun e w'=>e=.returned (.tuple #[])∧TI w s B g (k+1) w':=by
 obtain⟨cur,a,d,b,f,i⟩:=h;have o:=K8 s[k];obtain⟨m,hm⟩:∃m:Nat,B4 s[k]=m:=⟨(B4 s[k]).toNat,O⟩;rw[hm];refine(A9w B g s.size k m cur wr hk hs O a d b).mono ?_;rintro e w' ⟨rfl,hu⟩;refine⟨rfl,_,(hu.other B (Ne.symm c)).trans a,hu.here,by simpa using b,?_,i.trans (hu.below hw)⟩;intro j l p;by_cases h:j=k
 ·subst h;rw[Array.getElem?_setIfInBounds_self_of_lt O,hm];simp
 ·rw[Array.getElem?_setIfInBounds_ne O];exact f j l O
theorem A6T (s:ByteArray)(w:World)(hs:s.size≤140737488351232) :
 Calls Tryz.prog 20 #[.string s] w fun e w'=>((good s∧e=.returned (.tuple #[.string ⟨(J2 s.data.toList).toArray⟩,I J 0]))∨(¬good s∧e=.returned (.tuple #[.string ⟨#[]⟩,I J 2])))∧Below w.heap.size w w':=by
 obtain⟨i0,hi,u,v,x⟩:=info_parts Tryz.info5;go_enter Tryz.func20,Tryz.ntmps20;go_wp2_with (at_make;refine wpList_make_full _ rfl _ _ 63 rfl w.heap.size 5 i0 (.int .u8 0) 1 Tryz.underlying63 hi u v .i64 .i64 s.size s.size s.size rfl rfl rfl rfl (by rw[x];omega) (by unfold maxLen;omega) Zs ?_;intro w1 d f);have y:w.heap.size<w1.heap.size:=(d.lt _ rfl).2;obtain⟨cur,a,b⟩:∃cur,w1.heap[w.heap.size]?=some (.cells cur 5 (0,0))∧cur.size=s.size:=by
  rcases d.2 with⟨h,_⟩|⟨g,cap,cur,h,_,a,_,_,b,_⟩
  ·simp at h
  ·simp only[Value.slice.injEq,Option.some.injEq,Addr.mk.injEq,and_true,true_and]at h;obtain⟨rfl,rfl⟩:=h;exact⟨cur,a,by simpa using b⟩
 refine(N1 51 B2s _ s _ hs (TI w s w1.heap.size w.heap.size) (fun k hk wr z h=>B2x w s _ _ O (Nat.le_refl _) hs k hk wr z h) ?_).mono ?_
 ·refine⟨cur,by simpa using heap_alloc_new w1 _,?_,b,fun j c h=>absurd h O,?_⟩
  ·rw[Below.heap_alloc _ _ _ y];exact a
  ·exact(((Below.refl _ w).grown f (Nat.le_refl _) (fun k hk=>by cases hk))).alloc O _
 ·rintro e w' ⟨k,hk,⟨A,B,i,p,l,q⟩,m,C⟩;have F:=cell_of_one B;rcases C with⟨rfl,rfl⟩|⟨D,E,rfl⟩
  ·have r:good s:=fun j c=>m j c c;have G:(convert 63 9 (.slice (some ⟨w.heap.size,0,none⟩) s.size s.size)).run Tryz.prog w'=.ok (.string ⟨(J2 s.data.toList).toArray⟩) w':=by
    have:=run_convert_bytes_back (P:=Tryz.prog) w' 63 9 5 ⟨w.heap.size,0,none⟩ s.size (J2 s.data.toList) Tryz.underlying63 Tryz.underlying5 Tryz.underlying9 (by
     intro j c;have H:j<s.size:=by simpa[Q1] using c
     have:=l (s.size-1-j) O O;rw[Addr.add_lit,cell_of_row w' _ _ A 5 (0,0) i,Nat.zero_add];rw[show s.size-1-(s.size-1-j)=j by omega]at this;rw[this];simp[J2];rfl)
    rw[Q1]at this;simpa using this
   have n:=A4 r;clear r l m i p a b d f;go_wp2;go_ret2;exact⟨Or.inl ⟨n.o,rfl⟩,q⟩
  ·have t:¬good s:=fun h=>absurd (h k D) O;have n:=A4 t;clear l m i p a b d f t E;go_wp2;go_ret2;exact⟨Or.inr ⟨n.o,rfl⟩,q⟩
structure W3 where
 h:Int
 p:Int
 b:Bool
def W3.cells (x:W3):List Value:=[I J x.h,I J x.p,.bool x.b]
def A6 (L:List W3):List Value:=L.flatMap W3.cells
theorem T1 (x:W3)(L:List W3):A6 (x::L)=I J x.h::I J x.p::.bool x.b::A6 L:=rfl
theorem L5 (L M:List W3):A6 (L++M)=A6 L++A6 M:=by simp[A6]
theorem L4 (L:List W3):(A6 L).length=L.length*3:=by
 induction L with
 |nil=>rfl
 |cons x L a=>rw[T1];simp only[List.length_cons,a];omega
theorem J3 (L:List W3):∀j (h:j<L.length),(A6 L)[3*j]?=some (I J L[j].h)∧(A6 L)[3*j+1]?=some (I J L[j].p)∧(A6 L)[3*j+2]?=some (.bool L[j].b):=by
 induction L with
 |nil=>intro j h;exact absurd h Zs
 |cons x L a=>
  intro j h;cases j with
  |zero=>exact⟨rfl,rfl,rfl⟩
  |succ j=>
   have:=a j (by simpa using h);rw[T1,show 3*(j+1)=3*j+1+1+1 by omega,show 3*j+1+1+1+1=3*j+1+1+1+1 by rfl];simpa using this
def cut0:Value→Value
 |.slice a _ cap=>.slice a 0 cap
 |v=>v
theorem B2v (k W next run place:Int)(b:Nat)(ov pv:Value)(w:World)(f:(ov=.slice none 0 0)∨∃a n cap,ov=.slice (some a) n cap)
 (c:w.heap[b]?=some (.cells #[I J k,I J W,I J next,I J run,ov,pv] 230 (0,0)))
 (g:0≤place)(h:place≤140737488351232)(heq:(place !=next)=true) :
 Calls Tryz.prog 150 #[.pointer (some ⟨b,0,none⟩),I J place] w fun e w'=>e=.returned (.tuple #[])∧
  E1 w w' b (.cells #[I J k,I J W,I J (place+1),I J 1,cut0 ov,pv] 230 (0,0)):=by
 have c1:w.cell? ⟨b,1,none⟩=some (I J W):=A1 c rfl;have c2:w.cell? ⟨b,2,none⟩=some (I J next):=A1 c rfl;have c3:w.cell? ⟨b,3,none⟩=some (I J run):=A1 c rfl;have c4:w.cell? ⟨b,4,none⟩=some ov:=A1 c rfl;have f2:w.frozen? ⟨b,2,none⟩=false:=frozen_of_row w _ _ _ _ c;have f3:w.frozen? ⟨b,3,none⟩=false:=frozen_of_row w _ _ _ _ c;have f4:w.frozen? ⟨b,4,none⟩=false:=frozen_of_row w _ _ _ _ c;have d:=A4 c;clear c;rcases f with rfl|⟨a,n,cap,rfl⟩
 ·go_enter Tryz.func150,Tryz.ntmps150;go_wp2;go_quiet (fail);go_wp2;go_end0;exact⟨rfl,((((E1.of_setCell _ d.o).setCell _).setCell _).setCell _).drewN _⟩
 ·go_enter Tryz.func150,Tryz.ntmps150;go_wp2;go_quiet (fail);go_wp2;go_end0;exact⟨rfl,((((E1.of_setCell _ d.o).setCell _).setCell _).setCell _).drewN _⟩
theorem A6B (k W next run place:Int)(a:Nat)(c:Option Addr)(cap:Nat)(pv:Value)(w:World) 
 (b:w.heap[a]?=some (.cells #[I J k,I J W,I J next,I J run,.slice c 0 cap,pv] 230 (0,0)))
 (f:0≤place)(g:place≤140737488351232)(h:0≤run)(i:run≤140737488351232)(heq:(place !=next)=false) :
 Calls Tryz.prog 150 #[.pointer (some ⟨a,0,none⟩),I J place] w fun e w'=>e=.returned (.tuple #[])∧
  E1 w w' a (.cells #[I J k,I J W,I J (place+1),I J (run+1),.slice c 0 cap,pv] 230 (0,0)):=by
 have c1:w.cell? ⟨a,1,none⟩=some (I J W):=A1 b rfl;have c2:w.cell? ⟨a,2,none⟩=some (I J next):=A1 b rfl;have c3:w.cell? ⟨a,3,none⟩=some (I J run):=A1 b rfl;have c4:w.cell? ⟨a,4,none⟩=some (.slice c 0 cap):=A1 b rfl;have f2:w.frozen? ⟨a,2,none⟩=false:=frozen_of_row w _ _ _ _ b;have f3:w.frozen? ⟨a,3,none⟩=false:=frozen_of_row w _ _ _ _ b;have d:=A4 b;clear b;go_enter Tryz.func150,Tryz.ntmps150;go_wp2;go_quiet (fail);go_wp2;go_end0;exact⟨rfl,((E1.of_setCell _ d.o).setCell _).drewN _⟩
def B4a (p0 lim:Int)(g o n cap:Nat)(ov':Value):Prop:=
 (p0≤lim∧(ov'=.slice (some ⟨g,o+3,none⟩) (n-1) (cap-1)∨(cap=1∧ov'=.slice (some ⟨g,o,none⟩) 0 0)))∨(¬p0≤lim∧ov'=.slice (some ⟨g,o,none⟩) n cap)
theorem A94 (k W next run place:Int)(a g o n cap:Nat)(pv:Value)(w:World)(c:Int)
 (b:w.heap[a]?=some (.cells #[I J k,I J W,I J next,I J run,.slice (some ⟨g,o,none⟩) n cap,pv] 230 (0,0)))
 (j:0<n)(l:n≤cap)(i:cap≤maxLen)(m:w.cell? ⟨g,o+1,none⟩=some (I J c))
 (p:0≤place)(q:place≤140737488351232)(r:0≤run)(s:run≤140737488351232)(t:1≤W)(u:W≤20)(heq:(place !=next)=false)(v:g≠a) :
 Calls Tryz.prog 150 #[.pointer (some ⟨a,0,none⟩),I J place] w fun e w'=>e=.returned (.tuple #[])∧
  ∃f,B4a c (place-W) g o n cap f∧
  E1 w w' a (.cells #[I J k,I J W,I J (place+1),I J (run+1),f,pv] 230 (0,0)):=by
 have c1:w.cell? ⟨a,1,none⟩=some (I J W):=A1 b rfl;have c2:w.cell? ⟨a,2,none⟩=some (I J next):=A1 b rfl;have c3:w.cell? ⟨a,3,none⟩=some (I J run):=A1 b rfl;have c4:w.cell? ⟨a,4,none⟩=some (.slice (some ⟨g,o,none⟩) n cap):=A1 b rfl;have f2:w.frozen? ⟨a,2,none⟩=false:=frozen_of_row w _ _ _ _ b;have f3:w.frozen? ⟨a,3,none⟩=false:=frozen_of_row w _ _ _ _ b;have f4:w.frozen? ⟨a,4,none⟩=false:=frozen_of_row w _ _ _ _ b;have x:(0:Int)<n:=O;have d:=A4 b;clear b;unfold maxLen at i;by_cases h:c≤place-W
 ·by_cases h1:cap=1
  ·go_enter Tryz.func150,Tryz.ntmps150;go_wp2;go_quiet (fail);go_wp2;go_end0;exact⟨rfl,_,Or.inl ⟨h,Or.inr ⟨h1,by rw[show n-1=0 by omega]⟩⟩,(((E1.of_setCell _ d.o).setCell _).drewN _).setCell _⟩
  ·have y:1<cap:=O;go_enter Tryz.func150,Tryz.ntmps150;go_wp2;go_quiet (fail);go_wp2;go_end0;exact⟨rfl,_,Or.inl ⟨h,Or.inl rfl⟩,(((E1.of_setCell _ d.o).setCell _).drewN _).setCell _⟩
 ·go_enter Tryz.func150,Tryz.ntmps150;go_wp2;go_quiet (fail);go_wp2;go_end0;exact⟨rfl,_,Or.inr ⟨O,rfl⟩,((E1.of_setCell _ d.o).setCell _).drewN _⟩
end
end Mn
section
open Go.RowKit
def B4 (c:UInt8):Int:=Lib.indexByte [65,67,71,84,78] c
theorem B0E (s:ByteArray)(c:Int)(w:World) :
 Calls Tryz.prog 102 #[.string s,.int .u8 c] w fun e w'=>e=.returned (I J (Lib.indexByte s.data.toList c.toNat.toUInt8))∧w'=w:=by
 go_enter Tryz.func102,Tryz.ntmps102;go_wp2;rw[run_callFunc_extern Tryz.func131 U U U (e:=Extern.BytealgIndexByte.indexByte) U,Lib.run_indexByteString];simp only[Result.andThen];rw[Oper.upon_value];go_wp2;go_ret;exact⟨rfl,rfl⟩
theorem Q6 (c:UInt8)(w:World) :
 Calls Tryz.prog 76 #[.string ⟨#[65,67,71,84,78]⟩,.int .u8 c.toNat] w fun e w'=>e=.returned (I J (B4 c))∧w'=w:=by
 go_enter Tryz.func76,Tryz.ntmps76;go_wp2_with (first|(go_at_call 102;refine(B0E _ _ _).mono ?_;rintro e w' ⟨rfl,rfl⟩)|go_in);go_ret;exact⟨rfl,rfl⟩
theorem R9 (c:UInt8):(c=65∧B4 c=0)∨(c=67∧B4 c=1)∨(c=71∧B4 c=2)∨(c=84∧B4 c=3)∨(c=78∧B4 c=4)∨(B4 c=-1∧c≠65∧c≠67∧c≠71∧c≠84∧c≠78):=by
 unfold B4 Lib.indexByte Lib.indexByte Lib.indexByte Lib.indexByte Lib.indexByte Lib.indexByte;by_cases h1:c=65
 ·subst h1;decide
 by_cases a:c=67
 ·subst a;decide
 by_cases b:c=71
 ·subst b;decide
 by_cases d:c=84
 ·subst d;decide
 by_cases f:c=78
 ·subst f;decide
 simp[h1,a,b,d,f,Ne.symm h1,Ne.symm a,Ne.symm b,Ne.symm d,Ne.symm f]
theorem K8 (c:UInt8):-1≤B4 c∧B4 c<5:=by
 rcases R9 c with h|h|h|h|h|h<;>omega
theorem Q4 {f:Nat}{fn:Func}{c:Code}(a:Tryz.prog.funcs[f]?=some fn)(b:(fn.name== "runtime.NumGoroutine")=false)(d:fn.body=some c)(args:Array Value)(w:World) :
 (callFunc f args).run Tryz.prog w=.ok (.enter f args) w:=by
 have h1:fn.name≠ "runtime.NumGoroutine":=by simpa using b
 simp[callFunc,a,h1,d]
theorem N1 (F:Nat)(v:∀args w,(callFunc F args).run Tryz.prog w=.ok (.enter F args) w)(r:Value)(s:ByteArray)(w:World)(hs:s.size≤140737488351232)(a:Nat→World→Prop)
 (f:∀k (hk:k<s.size) w,0≤B4 s[k]→a k w→Calls Tryz.prog F #[r,I J k,I J (B4 s[k])] w fun e w'=>e=.returned (.tuple #[])∧a (k+1) w')
 (n:a 0 w) :
 Calls Tryz.prog 50 #[.string s,.func (.func F) #[r] #[]] w fun e w'=>
  ∃k,k≤s.size∧a k w'∧(∀j (b:j<s.size),j<k→0≤B4 s[j])∧
   ((k=s.size∧e=.returned (I J 0))∨(∃hk:k<s.size,B4 s[k]<0∧e=.returned (I J 2))):=by
 have p:=A4 f;clear f;go_enter Tryz.func50,Tryz.ntmps50;go_wp2;go_loopw [9] (fun i wr=>∃k:Nat,k≤s.size∧i=I J k∧a k wr∧(∀j (b:j<s.size),j<k→0≤B4 s[j])) (fun i _=>s.size-(intOf i).toNat);case atStart=>exact⟨0,Nat.zero_le _,rfl,n,fun j b h=>absurd h O⟩
 case round=>
  obtain⟨k,hk,rfl,c,g⟩:=hrel;have d:=A4 g;clear g;by_cases l:k<s.size
  ·have x:=K8 s[k];by_cases q:B4 s[k]<0
   ·go_wp2_with (go_at_call 76;refine(Q6 _ _).mono ?_;rintro e w' ⟨rfl,rfl⟩);go_ret;exact⟨k,hk,c,d.o,Or.inr ⟨l,q,rfl⟩⟩
   ·have m:0≤B4 s[k]:=O;go_wp2_with (first|(go_at_call 76;refine(Q6 _ _).mono ?_;rintro e w' ⟨rfl,rfl⟩));refine(p.o k l _ m c).mono ?_;rintro e w' ⟨rfl,t⟩;go_wp2;go_roundw;case rel=>
     refine⟨k+1,O,Zn,t,fun j b h=>?_⟩;by_cases u:j<k
     ·exact d.o j b u
     ·obtain rfl:j=k:=O;exact m
    case measure=>simp[intOf];omega
  ·go_wp2;go_ret;exact⟨k,hk,c,d.o,Or.inl ⟨O,rfl⟩⟩
def good (s:ByteArray):Prop:=∀j (hj:j<s.size),0≤B4 s[j]
end
end Go.Proofs.YtilcmkiihefkkaaGreatDoor
