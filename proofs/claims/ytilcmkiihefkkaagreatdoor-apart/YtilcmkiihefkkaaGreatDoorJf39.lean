import Derived.Test.YtilcmkiihefkkaaGreatDoorJf19
import Derived.Test.YtilcmkiihefkkaaGreatDoorJf36
set_option linter.unusedVariables false
set_option linter.unusedSimpArgs false
set_option maxRecDepth 1000000
set_option maxHeartbeats 64000000
open Go.Value renaming int→I
open Go.IntKind renaming i64→J
namespace Go.Proofs.YtilcmkiihefkkaaGreatDoor
namespace Mn
section
open Go.RowKit Go.Shelf Go.Lib
theorem B0j (q:Int)(a:q.natAbs<2^53)(w:World) :
 Calls Tryz.prog 189 #[.float .f64 (fq q)] w fun e w'=>e=.returned (.bool false)∧w'=w:=by
 have ho:FloatKind.f64.format.order (fq q) (fq q)=some .eq:=by
  have:=A0p q q a a;rw[show compare q q=.eq by simp[compare,compareOfLessAndEq]]at this;exact this
 go_enter Tryz.func189,Tryz.ntmps189;go_wp2;go_ret;exact⟨by first|rfl|(rw[ho];rfl)|simp[ho],rfl⟩
def E4 (a b:Int):Int:=if a<b then -1 else if b<a then 1 else 0
theorem A5Y (q r:Int)(b:q.natAbs<2^53)(c:r.natAbs<2^53)(w:World) :
 Calls Tryz.prog 140 #[.float .f64 (fq q),.float .f64 (fq r)] w fun e w'=>e=.returned (I J (E4 q r))∧w'=w:=by
 have n1:=B0j q b;have d:=B0j r c;have ho:FloatKind.f64.format.order (fq q) (fq r)=some (compare q r):=A0p q r b c;rcases Int.lt_trichotomy q r with h|h|h
 ·have a:compare q r=.lt:=by simp[compare,compareOfLessAndEq,h]
  have e:E4 q r=-1:=by unfold E4;rw[if_pos h]
  rw[a]at ho;rw[e];clear b c h a e;generalize fq q=x at *;generalize fq r=y at *;have f:∀z,(z=x∨z=y)→∀w,Calls Tryz.prog 189 #[.float .f64 z] w fun e w'=>e=.returned (.bool false)∧w'=w:=by
   rintro z (rfl|rfl)
   ·exact n1
   ·exact d
  clear n1 d;go_enter Tryz.func140,Tryz.ntmps140;go_wp2_with (go_at_call 189;(refine(f _ (by first|exact Or.inl rfl|exact Or.inr rfl) _).mono ?_;rintro e w' ⟨rfl,rfl⟩));go_ret;exact⟨rfl,rfl⟩
 ·subst h;have a:compare q q=.eq:=by simp[compare,compareOfLessAndEq]
  have e:E4 q q=0:=by unfold E4;rw[if_neg O,if_neg O]
  rw[a]at ho;rw[e];clear b c a e d;generalize fq q=x at *;go_enter Tryz.func140,Tryz.ntmps140;go_wp2_with (go_at_call 189;(refine(n1 _).mono ?_;rintro e w' ⟨rfl,rfl⟩));go_ret;exact⟨rfl,rfl⟩
 ·have a:compare q r=.gt:=by
   have h1:¬q<r:=O;have g:¬q=r:=O;simp[compare,compareOfLessAndEq,h1,g]
  have e:E4 q r=1:=by unfold E4;rw[if_neg O,if_pos h]
  rw[a]at ho;rw[e];clear b c h a e;generalize fq q=x at *;generalize fq r=y at *;have f:∀z,(z=x∨z=y)→∀w,Calls Tryz.prog 189 #[.float .f64 z] w fun e w'=>e=.returned (.bool false)∧w'=w:=by
   rintro z (rfl|rfl)
   ·exact n1
   ·exact d
  clear n1 d;go_enter Tryz.func140,Tryz.ntmps140;go_wp2_with (go_at_call 189;(refine(f _ (by first|exact Or.inl rfl|exact Or.inr rfl) _).mono ?_;rintro e w' ⟨rfl,rfl⟩));go_ret;exact⟨rfl,rfl⟩
theorem A0s (a b:Int):Lib.compareInt a b=E4 a b:=by
 unfold Lib.compareInt E4;rfl
theorem A05 (a b:Int×Int)(w:World) :
 Calls Tryz.prog 178 #[.agg #[I J a.1,I J a.2],.agg #[I J b.1,I J b.2]] w fun e w'=>e=.returned (.bool (A4l b a))∧Below w.heap.size w w':=by
 obtain⟨c,ap⟩:=a;obtain⟨d,f⟩:=b;have al:∀(o p:Obj),Below w.heap.size w ((w.alloc o).alloc p):=fun o p=>((Below.refl _ w).alloc (Nat.le_refl _) o).alloc Zs p;by_cases h1:f<ap
 ·have g:Hd (decide (d<c)=A4l (d,f) (c,ap)):=by
   show _=_;unfold A4l;simp[h1]
  go_enter Tryz.func178,Tryz.ntmps178;go_wp2;go_ret;exact⟨congrArg (fun b=>Ending.returned (.bool b)) g.o,al _ _⟩
 ·have g:Hd (false=A4l (d,f) (c,ap)):=by
   show _=_;unfold A4l;simp[h1]
  go_enter Tryz.func178,Tryz.ntmps178;go_wp2;go_ret;exact⟨congrArg (fun b=>Ending.returned (.bool b)) g.o,al _ _⟩
theorem A2s (x:Int×Int)(w:World) :
 Calls Tryz.prog 174 #[.agg #[I J x.1,I J x.2]] w fun e w'=>e=.returned (.bool (A0C x))∧Below w.heap.size w w':=by
 obtain⟨r,p⟩:=x;have al:∀(o:Obj),Below w.heap.size w (w.alloc o):=fun o=>((Below.refl _ w).alloc (Nat.le_refl _) o);by_cases h1:min r p<0
 ·have a:Hd (true=A0C (r,p)):=by
   show _=_;symm;rw[A21];unfold okA;simp only;omega
  go_enter Tryz.func174,Tryz.ntmps174;go_wp2;go_ret;exact⟨congrArg (fun b=>Ending.returned (.bool b)) a.o,al _⟩
 ·have a:Hd (decide (10000<max r p)=A0C (r,p)):=by
   show _=_;rw[Bool.eq_iff_iff,decide_eq_true_iff,A21];unfold okA;simp only;omega
  go_enter Tryz.func174,Tryz.ntmps174;go_wp2;go_ret;exact⟨congrArg (fun b=>Ending.returned (.bool b)) a.o,al _⟩
def cfA (a b:Int×Int):Int:=if E4 a.2 b.2=0 then E4 a.1 b.1 else E4 a.2 b.2
theorem B2b (a b:Int×Int):decide (cfA a b<0)=A29 a b:=by
 rw[Bool.eq_iff_iff,decide_eq_true_iff,A1A];unfold cfA E4 bef;split<;>split<;>(try split)<;>(try split)<;>omega
theorem A3L (x y:Int)(b:Nat)(w:World)(h1:w.cell? ⟨b,0,none⟩=some (I J x))(k:w.cell? ⟨b,1,none⟩=some (I J y))(z:Int)(g:z=if x=0 then y else x) :
 Calls Tryz.prog 139 #[.slice (some ⟨b,0,none⟩) 2 2] w fun e w'=>e=.returned (I J z)∧w'=w:=by
 have c:=A4 g;clear g;go_enter Tryz.func139,Tryz.ntmps139;go_wp2;go_loopw [8] (fun d wr=>∃i:Nat,i≤2∧d=I J i∧(1≤i→x=0)∧(2≤i→y=0)∧wr=w) (fun d _=>2-(intOf d).toNat);case atStart=>exact⟨0,O,rfl,O,O,by first|rfl|trivial⟩
 case round=>
  obtain⟨i,hi,rfl,h,j,rfl⟩:=hrel;rcases (show i=0∨i=1∨i=2 by omega) with rfl|rfl|rfl
  ·by_cases a:x=0
   ·subst a;go_wp2;go_roundw;case rel=>exact⟨1,O,rfl,fun _=>by first|rfl|trivial,O,by first|rfl|trivial⟩
    case measure=>simp[intOf]
   ·have e:z=x:=by rw[c.o,if_neg a]
    subst e;go_wp2;go_ret;exact⟨rfl,rfl⟩
  ·have a:=h O;subst a;by_cases f:y=0
   ·subst f;go_wp2;go_roundw;case rel=>exact⟨2,O,rfl,fun _=>by first|rfl|trivial,fun _=>by first|rfl|trivial,by first|rfl|trivial⟩
    case measure=>simp[intOf]
   ·have e:z=y:=by rw[c.o,if_pos rfl]
    subst e;go_wp2;go_ret;exact⟨rfl,rfl⟩
  ·have a:=h O;have f:=j O;have e:z=0:=by rw[c.o,a,f];rfl
   subst e;go_wp2;go_ret;exact⟨rfl,rfl⟩
theorem A5T {w:World}{b i:Nat}{cs:Array Value}{t:TypeId}{v:Value}(h:w.heap[b]?=some (.cells cs t (0,0)))(a:cs[i]?=some v):w.drew.cell? ⟨b,i,none⟩=some v:=by
 have:w.drew.heap[b]?=some (.cells cs t (0,0)):=h;rw[cell_of_row w.drew b i cs t (0,0) this];exact a
end
end Mn
end Go.Proofs.YtilcmkiihefkkaaGreatDoor
