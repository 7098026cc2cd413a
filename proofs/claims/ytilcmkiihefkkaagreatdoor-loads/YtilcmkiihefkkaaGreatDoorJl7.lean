import Derived.DeepKeys4
import Derived.Test.YtilcmkiihefkkaaGreatDoorProg
import Derived.WideKeyEntry
import Derived.Test.YtilcmkiihefkkaaGreatDoorJl6
set_option linter.unusedVariables false
set_option linter.unusedSimpArgs false
set_option maxRecDepth 1000000
set_option maxHeartbeats 64000000
open Go.Value renaming int→I
open Go.IntKind renaming i64→J
namespace Go.Proofs.YtilcmkiihefkkaaGreatDoor
namespace Mn
section
open Go.RowKit Go.Maps Go.WideElems Go.ChangeMaps Go.MapKept Go.WideMaps
section
variable {κ α:Type} {P:Program} {kl:κ→Lit} {ok:κ→Prop} {enc:List α→List Value} {K E sz:Nat} {w:World} {base B n:Nat} {V:κ→Value} {L:κ→List α}
theorem GrP.put (h:GrP P kl ok enc K E sz w base B n V L){q:κ→κ→Bool}(z:∀a b,q a b=true↔a=b)(A:∀a b,ok a→ok b→kl a=kl b→a=b){x:κ}(f:ok x)(C:WideAt.IsKeyLit (kl x))
 {r:World}{v':Value}{g':Nat}{l':List α}(S:∀D:DataW Value,w.ownsMap P K X9 B n D→r.ownsMap P K X9 B (n+1) (D.put (kl x) (.held v')))
 (T:∀j,j<w.heap.size→j≠B→(V x).ownBlock≠some j→r.heap[j]?=w.heap[j]?)
 (W:A3 r base E sz v' l'.length (enc l'))(F:v'.ownBlock=some g')(G:(V x).ownBlock=some g'∨w.heap.size≤g')(X:l'.isEmpty=false) :
 GrP P kl ok enc K E sz r base B (n+1) (I0 q V x v') (I0 q L x l'):=by
 have ac:=h.ne f;obtain⟨D,t,h1,Y,h3⟩:=h.map;have k:∀{y:κ},y≠x→q y x=false:=fun {y} c=>by cases aa:q y x with|false=>rfl|true=>exact absurd ((z y x).1 aa) c
 have m:q x x=true:=(z x x).2 rfl;refine⟨⟨_,S D t,?_,?_,?_⟩,?_,?_⟩
 ·intro y c;by_cases d:y=x
  ·subst d;rw[Maps.atKey_put_same t.isMap C];simp[I0,m]
  ·rw[Maps.atKey_put_other (fun e=>d (A _ _ c f e)),h1 y c];simp[I0,k d]
 ·intro y c;by_cases d:y=x
  ·subst d;rw[Maps.has_put_same t.isMap C];simp only[I0,m,if_true];rw[X];rfl
  ·rw[Maps.has_put_other (fun e=>d (A _ _ c f e)),Y y c];simp[I0,k d]
 ·intro l H;by_cases M:l=kl x
  ·exact⟨x,f,M⟩
  ·rw[Maps.has_put_other M]at H;exact h3 l H
 ·intro y c;by_cases d:y=x
  ·subst d;simp only[I0,m,if_true];exact W
  ·simp only[I0,k d];simp only[Bool.false_eq_true,if_false];refine(h.own y c).other (fun g N ab=>T g ab (fun e=>h.ne c (e▸N)) (fun e=>h.apart y x g c f d N e))
 ·intro a b g u v s i;by_cases Q:a=x
  ·subst Q;simp only[I0,m,if_true]at i;simp only[I0,k (Ne.symm s),Bool.false_eq_true,if_false];intro o;rw[F]at i;have:g'=g:=by simpa using i
   subst this;rcases G with p|p
   ·exact h.apart a b g' f v s p o
   ·have:=((h.own b v).lt o).2;omega
  ·simp only[I0,k Q,Bool.false_eq_true,if_false]at i;by_cases R:b=x
   ·subst R;simp only[I0,m,if_true];intro o;rw[F]at o;have:g'=g:=by simpa using o
    subst this;rcases G with p|p
    ·exact h.apart a b g' u f s i p
    ·have:=((h.own a u).lt i).2;omega
   ·simp only[I0,k R,Bool.false_eq_true,if_false];exact h.apart a b g u v s i
theorem GrP.entry (h:GrP P kl ok enc K E sz w base B n V L)(H:KeyLaw P K){t e:TypeId}(ht:P.underlying t=some (.map K e))(r:∀u:World,(zeroValue e).run P u=.ok A1c u){q:κ→κ→Bool}(hq:∀a b,q a b=true↔a=b)
 (aa:∀a b,ok a→ok b→kl a=kl b→a=b){x:κ}(s:ok x){key:Value}(i:keyOf P K key=some (kl x))(hn:n<maxLen) :
 ∃(st:Nat) (l:Array MapEntry) (m:Nat),(Instr.mapEntry t (.map (some B)) key).run P w=.ok (.tuple #[V x,goInt st]) (setBlock w B (.map l m))∧
  ∀(w2:World) (v':Value) (g':Nat) (l':List α),w2.heap[B]?=some (.map l m)→w.heap.size≤w2.heap.size→(∀j,j<w.heap.size→j≠B→(V x).ownBlock≠some j→w2.heap[j]?=w.heap[j]?)→
   A3 w2 base E sz v' l'.length (enc l')→v'.ownBlock=some g'→((V x).ownBlock=some g'∨w.heap.size≤g')→l'.isEmpty=false→
   ∃c,(Instr.entryStore t (.map (some B)) (goInt st) v').run P w2=.ok () c∧GrP P kl ok enc K E sz c base B (n+1) (I0 q V x v') (I0 q L x l')∧(∀j,j≠B→c.heap[j]?=w2.heap[j]?)∧c.heap.size=w2.heap.size∧c.os=w2.os∧c.tape=w2.tape∧c.output=w2.output:=by
 have o:Keyed P K:=Keyed.of_law H;have M:=h.look o ht (r w) s i;obtain⟨D,⟨es,clock,p,F,ab,hD⟩,h1,h2,h3⟩:=h.map;obtain⟨v0,st,l,m,ac,N,ad⟩:=entry_then_store H ht r p F i;have hv:v0=V x:=by
  have ap:w.ownsMap P K X9 B n D:=⟨es,clock,p,F,ab,hD⟩;rcases Maps.fit_look false o ht (r w) p F i with⟨f,v,_⟩|⟨e0,y,Q,R,f,_⟩
  ·rw[M]at f;rcases N with⟨e1,z,A,rfl⟩|⟨_,rfl⟩
   ·exact absurd A (v e1 z)
   ·simp at f;exact f.symm
  ·rw[M]at f;rcases N with⟨e1,z,A,rfl⟩|⟨v,_⟩
   ·simp at f;have ae:=(stamped_iff es clock).1 F.stamped;have:=entry_eq_of_key ae.2.2 z Q (A.trans R.symm);rw[this,f]
   ·exact absurd R (v e0 Q)
 subst hv;refine⟨st,l,m,ac,fun w2 v' g' l' k aq af ag S T ah=>?_⟩;obtain⟨ai,aj,ak,al⟩:=ad w2 v' k;have am:=h.ne s;refine⟨_,ak,h.put (v':=v') (g':=g') (l':=l') hq aa s (o.key i) (fun D' an=>?_) (fun j C W ao=>?_) ?_ S T ah,fun j C=>heap_setBlock_other k _ C,by simp[setBlock],rfl,rfl,rfl⟩
 ·obtain⟨w',G,X,_⟩:=an.update o ht hn i (val:=v') (d:=.held v') (ps:=[]) rfl;rw[al]at G;have e:w'=setBlock w B (.map ai aj):=by simp at G;exact G.symm
  rw[e]at X;exact ownsMap_at X ((heap_setBlock_same k _).trans (heap_setBlock_same p _).symm)
 ·rw[heap_setBlock_other k _ W];exact af j C W ao
 ·refine ag.other (fun g Y ar=>heap_setBlock_other k _ (fun e=>?_));rw[S]at Y;have:g'=g:=by simpa using Y
  subst this;subst e;rcases T with h'|h'
  ·exact am h'
  ·have:=h.lt;omega
end
def kS (x:Int×Bool):Lit:=.string (keyBytes [.int .i64 x.1,.bool x.2])
def okS (x:Int×Bool):Prop:=(Lit.int .i64 x.1).wf=true
def eqS (a b:Int×Bool):Bool:=decide (a=b)
theorem S8 (a b:Int×Bool):eqS a b=true↔a=b:=by simp[eqS]
def vS (x:Int×Bool):Value:=.agg #[I J x.1,.bool x.2]
theorem B0Y:laidOutB Tryz.prog=true:=U
theorem B27:(match Tryz.prog.underlying 178 with|some (.array _ _)|some (.struct _)=>true|_=>false)=true:=by rw[Tryz.underlying178]
theorem B1B:(178:TypeId)<Tryz.prog.types.size:=of_decide_eq_true U
theorem A9v:KeyLaw Tryz.prog 178:=deep_law_laid B0Y (m:=2) O B1B U B27
theorem B1f (x:Int×Bool)(h:okS x):keyOf Tryz.prog 178 (vS x)=some (kS x):=by
 have hk:Tryz.prog.keyType 178=true:=U;have a:Tryz.prog.cellsOf 178=2:=U;have b:Tryz.prog.cellsOf 3=1:=U;have c:Tryz.prog.cellsOf 4=1:=U;have hs:∃m,Tryz.prog.types.size+1=m+2:=⟨Tryz.prog.types.size-1,by have h:(178:Nat)<Tryz.prog.types.size:=B1B;omega⟩;obtain⟨m,hm⟩:=hs;have d:(vS x).formed Tryz.prog 178=true:=by simp[vS,Value.formed,Tryz.underlying178,a]
 have hw:(Lit.int .i64 x.1).wf=true:=h;unfold keyOf;rw[Tryz.underlying178];simp only[hk,d,Bool.and_self,if_true,hm];simp[Program.keyLits,Tryz.underlying178,Tryz.underlying3,Tryz.underlying4,a,b,c,vS,Value.cells,hw,kS]
theorem B0a (a b:Int×Bool)(c:okS a)(d:okS b)(h:kS a=kS b):a=b:=by
 have h1:=B1f a c;have f:=B1f b d;rw[h]at h1;have:=(Keyed.of_law A9v).inj h1 f;simp only[vS,Value.agg.injEq,Array.mk.injEq,List.cons.injEq,Value.int.injEq,Value.bool.injEq,true_and,and_true]at this;exact Prod.ext this.1 this.2
theorem A6k (w:World):(zeroValue 115).run Tryz.prog w=.ok A1c w:=U
end
end Mn
end Go.Proofs.YtilcmkiihefkkaaGreatDoor
