import Derived.Test.YtilcmkiihefkkaaGreatDoorProg
import Derived.WalkLawsBesides
import Derived.WalkSpells
import Derived.Test.YtilcmkiihefkkaaGreatDoorJf3
set_option linter.unusedVariables false
set_option linter.unusedSimpArgs false
set_option maxRecDepth 1000000
set_option maxHeartbeats 64000000
open Go.Value renaming int→I
open Go.IntKind renaming i64→J
namespace Go.Proofs.YtilcmkiihefkkaaGreatDoor
namespace Mn
section
open Go.RowKit
def okA (x:Int×Int):Prop:=0≤x.1∧x.1≤10000∧0≤x.2∧x.2≤10000
theorem A5r (a b:Int×Int)(w:World) :
 Calls Tryz.prog 167 #[.agg #[I J a.1,I J a.2],.agg #[I J b.1,I J b.2]] w fun e w'=>e=.returned (.bool (A29 a b))∧Below w.heap.size w w':=by
 obtain⟨f,ap⟩:=a;obtain⟨g,d⟩:=b;have i:Hd (∀c:Bool,(c=(decide (ap<d)||(decide (ap=d)&&decide (f<g))))→c=A29 (f,ap) (g,d)):=by
  intro c l;rw[l];rfl
 have al:∀(o p:Obj),Below w.heap.size w ((w.alloc o).alloc p):=fun o p=>((Below.refl _ w).alloc (Nat.le_refl _) o).alloc Zs p;by_cases h1:ap<d
 ·have k:=i.o true (by simp[h1]);have h:=A4 k;clear k;go_enter Tryz.func167,Tryz.ntmps167;go_wp2;go_ret;exact⟨congrArg (fun b=>Ending.returned (.bool b)) h.o,al _ _⟩
 ·by_cases j:ap=d
  ·have h:Hd (decide (f<g)=A29 (f,ap) (g,d)):=i.o _ (by simp[j]);subst j;go_enter Tryz.func167,Tryz.ntmps167;go_wp2;go_ret;exact⟨congrArg (fun b=>Ending.returned (.bool b)) h.o,al _ _⟩
  ·have h:Hd (false=A29 (f,ap) (g,d)):=i.o _ (by simp[h1,j]);go_enter Tryz.func167,Tryz.ntmps167;go_wp2;go_ret;exact⟨congrArg (fun b=>Ending.returned (.bool b)) h.o,al _ _⟩
theorem A0D:∀(f x:Nat),x<2^f→Go.Lib.bitLenAux (f+1) x=Go.Lib.bitLenAux f x
 |0,x,h=>by
  have:x=0:=by simpa using h
  subst this;rfl
 |f+1,x,h=>by
  unfold Go.Lib.bitLenAux
  by_cases a:x=0
  ·rw[if_pos a,if_pos a]
  ·rw[if_neg a,if_neg a,A0D f (x/2) (by rw[Nat.pow_succ]at h;omega)]
theorem bitLen_half (n:Nat)(h:0<n)(a:n<1048576):Go.Lib.bitLen n=Go.Lib.bitLen (n/2)+1:=by
 have b:n/2<2^63:=by
  have:(1048576:Nat)≤2^63:=Z;omega
 unfold Go.Lib.bitLen;rw[←A0D 64 n (by have:(1048576:Nat)≤2^64:=Z;omega)];show(if n=0 then 0 else 1+Go.Lib.bitLenAux 64 (n/2))=_;rw[if_neg O,Nat.add_comm]
theorem X0 (n:Nat)(a:n<1048576):Go.Lib.bitLen n≤20:=by
 have:∀f n,n<2^f→∀g,Go.Lib.bitLenAux g n≤f:=by
  intro f;induction f with
  |zero=>intro n h g
         have:n=0:=by simpa using h
         subst this
         cases g<;>simp[Go.Lib.bitLenAux]
  |succ f b=>
   intro n h g;cases g with
   |zero=>simp[Go.Lib.bitLenAux]
   |succ g=>
    unfold Go.Lib.bitLenAux;split
    ·omega
    ·have:=b (n/2) (by rw[Nat.pow_succ]at h;omega) g;omega
 exact this 20 n (by simpa using a) 64
theorem A53 (n:Nat)(w:World)(h:n<1048576) :
 Calls Tryz.prog 168 #[I J n] w fun e w'=>e=.returned (I J (Go.Lib.bitLen n:Nat))∧w'=w:=by
 have g:Hd (Go.Lib.bitLen n≤20):=X0 n h;obtain⟨L,a⟩:=A8 (Go.Lib.bitLen n);rw[←a];rw[←a]at g;have j:Hd (0+Go.Lib.bitLen n=L):=by rw[a];exact Nat.zero_add _
 clear a;go_enter Tryz.func168,Tryz.ntmps168;go_wp2;go_loopw [0,3] (fun i b wr=>∃m c:Nat,i=I J m∧b=I J c∧m<1048576∧Hd (c+Go.Lib.bitLen m=L)∧c<100∧wr=w) (fun i _ _=>(intOf i).toNat);case atStart=>exact⟨n,0,rfl,rfl,h,j,O,by first|rfl|trivial⟩
 case round=>
  obtain⟨m,c,rfl,rfl,hm,d,s,rfl⟩:=hrel;by_cases p:0<m
  ·have k:Hd (Go.Lib.bitLen m=Go.Lib.bitLen (m/2)+1):=bitLen_half m p hm;have l:Hd ((m:Int).tdiv 2=((m/2:Nat):Int)):=by
    show(m:Int).tdiv 2=_;rw[Int.tdiv_eq_ediv_of_nonneg O];omega
   have t:(0:Int)<m:=O;go_wp2;go_roundw;case rel=>
    refine⟨m/2,c+1,?_,Zn,O,?_,?_,by first|rfl|trivial⟩
    ·have:=l.o;first|(rw[this])|go_num|simp_all
    ·have h1:=k.o;have f:=d.o;show c+1+_=L;omega
    ·have h1:=k.o;have f:=d.o;have u:=g.o;omega
   case measure=>have:=l.o;simp[intOf];omega
  ·have q:m=0:=O;subst q;have f:=d.o;have r:c=L:=by simpa[Go.Lib.bitLen,Go.Lib.bitLenAux] using f
   subst r;clear f d j g;go_wp2;go_ret;exact⟨rfl,rfl⟩
theorem A3o (a b:Int×Int)(k:Int)(w:World)(m:okA a)(n:okA b)(q:fol a b)(A:1≤k)(C:k≤12) :
 Calls Tryz.prog 123 #[.agg #[I J a.1,I J a.2],.agg #[I J b.1,I J b.2],I J k] w fun e w'=>e=.returned (I J (qtr a b k))∧Below w.heap.size w w':=by
 obtain⟨c,ap⟩:=a;obtain⟨f,g⟩:=b;obtain⟨s,a2,a3,a4⟩:=m;obtain⟨b1,b2,b3,b4⟩:=n;obtain⟨f1,f2⟩:=q;simp only at s a2 a3 a4 b1 b2 b3 b4 f1 f2;have al:∀(o p:Obj),Below w.heap.size w ((w.alloc o).alloc p):=fun o p=>((Below.refl _ w).alloc (Nat.le_refl _) o).alloc Zs p;have t:=A4 al;clear al;obtain⟨d,h⟩:∃d:Nat,(d:Int)=apt (g-ap) (f-c):=⟨(apt (g-ap) (f-c)).toNat,by unfold apt;omega⟩;have u:=X0 d (by unfold apt at h;omega);obtain⟨B,j⟩:=A8 (Go.Lib.bitLen d);have v:∀(x:Int) W,x=d→Calls Tryz.prog 168 #[I J x] W fun e w'=>e=.returned (I J (B:Nat))∧w'=W:=fun x W y=>by rw[j,y];exact A53 d W (by unfold apt at h;omega)
 have l:Hd (∀r:Int,r=4*lst (g-ap) (f-c) k-d-2*B→r=qtr (c,ap) (f,g) k):=by
  intro r z;rw[z];unfold qtr;simp only;rw[←h,Int.toNat_natCast,←j]
 rw[←j]at u;clear j;unfold lst at l;unfold apt at h;go_enter Tryz.func123,Tryz.ntmps123;go_wp2_with (go_at_call 168;refine(v _ _ O).mono ?_;rintro e w' ⟨rfl,rfl⟩);all_goals (go_ret;exact⟨congrArg (fun i=>Ending.returned (I J i)) (l.o _ O),t.o _ _⟩)
end
end Mn
end Go.Proofs.YtilcmkiihefkkaaGreatDoor
