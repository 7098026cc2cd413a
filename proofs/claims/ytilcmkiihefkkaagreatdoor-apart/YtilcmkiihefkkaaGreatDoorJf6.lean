import Derived.Maps.RangeWalk
import Derived.Test.YtilcmkiihefkkaaGreatDoorJf5
set_option linter.unusedVariables false
set_option linter.unusedSimpArgs false
set_option maxRecDepth 1000000
set_option maxHeartbeats 64000000
namespace Go.Proofs.YtilcmkiihefkkaaGreatDoor
namespace Mn
section
open Go.RowKit Go.Maps
def T8 (v:Value):Option (DataW Value×List MemPlace):=some (.held v,[])
def A0X:Value:=.slice none 0 0
def G4 {κ β:Type}(q:κ→κ→Bool)(f:κ→β)(x:κ)(v:β):κ→β:=fun y=>if q y x=true then v else f y
structure GrP {κ α:Type}(P:Program)(kl:κ→Lit)(ok:κ→Prop)(enc:List α→List Value)(K E sz:Nat)(w:World)(base B n:Nat)(V:κ→Value)(L:κ→List α):Prop where
 map:∃D:DataW Value,w.ownsMap P K T8 B n D∧(∀x,ok x→D.atKey (kl x) (.held A0X)=.held (V x))∧(∀x,ok x→Maps.has D (kl x)=!(L x).isEmpty)∧(∀l,Maps.has D l=true→∃x,ok x∧l=kl x)
 own:∀x,ok x→A3 w base E sz (V x) (L x).length (enc (L x))
 apart:∀x y g,ok x→ok y→x≠y→(V x).ownBlock=some g→(V y).ownBlock≠some g
theorem ownsMap_at {H:Type}{P:Program}{k:TypeId}{R:Value→Option (DataW H×List MemPlace)}{w w':World}{b n:Nat}{D:DataW H}(h:w.ownsMap P k R b n D)(e:w'.heap[b]?=w.heap[b]?):w'.ownsMap P k R b n D:=by
 obtain⟨es,clock,a,F,hs,c⟩:=h;exact⟨es,clock,e.trans a,F,hs,c⟩
section
variable {κ α:Type} {P:Program} {kl:κ→Lit} {ok:κ→Prop} {enc:List α→List Value} {K E sz:Nat} {w:World} {base B n:Nat} {V:κ→Value} {L:κ→List α}
theorem GrP.lt (h:GrP P kl ok enc K E sz w base B n V L):B<w.heap.size:=by
 obtain⟨D,a,_⟩:=h.map;exact a.lt
theorem GrP.ne (h:GrP P kl ok enc K E sz w base B n V L){x:κ}(b:ok x):(V x).ownBlock≠some B:=by
 obtain⟨D,⟨es,clock,c,_⟩,_⟩:=h.map;obtain⟨_,ho⟩:=h.own x b;rcases ho with⟨e,_⟩|⟨g,o,cap,cur,e,_,a,_⟩
 ·rw[e];simp[Value.ownBlock]
 ·rw[e];simp only[Value.ownBlock,ne_eq,Option.some.injEq];intro d;rw[d,c]at a;cases a
theorem GrP.kept (h:GrP P kl ok enc K E sz w base B n V L){w':World}(hk:∀j,j<w.heap.size→w'.heap[j]?=w.heap[j]?):GrP P kl ok enc K E sz w' base B n V L:=by
 obtain⟨D,a,r⟩:=h.map;exact⟨⟨D,ownsMap_at a (hk _ a.lt),r⟩,fun x b=>(h.own x b).other (fun g _ c=>hk g c),h.apart⟩
theorem GrP.mono (h:GrP P kl ok enc K E sz w base B n V L){a:Nat}(b:n≤a):GrP P kl ok enc K E sz w base B a V L:=by
 obtain⟨D,c,r⟩:=h.map;exact⟨⟨D,c.mono b,r⟩,h.own,h.apart⟩
theorem GrP.made (w:World)(P:Program)(a:κ→Lit)(ok:κ→Prop)(enc:List α→List Value)(b:enc []=[])(K E sz base:Nat):GrP P a ok enc K E sz (w.alloc (.map #[] 0)) base w.heap.size 0 (fun _=>A0X) (fun _=>[]):=
 ⟨⟨.map [],World.ownsMap_made w P K T8,fun _ _=>rfl,fun _ _=>rfl,fun l c=>by cases c⟩,fun x _=>by show A3 _ _ _ _ _ 0 (enc []);rw[b];exact A3.nil _ _ _ _,fun x y g _ _ _ d=>by cases d⟩
theorem GrP.look (h:GrP P kl ok enc K E sz w base B n V L)(b:Keyed P K){t e:TypeId}(ht:P.underlying t=some (.map K e))(c:(zeroValue e).run P w=.ok A0X w){x:κ}(d:ok x){key:Value}(f:keyOf P K key=some (kl x)) :
 (Instr.lookup t (.map (some B)) key false).run P w=.ok (V x) w:=by
 obtain⟨D,g,h1,_⟩:=h.map;obtain⟨v,ps,i,a⟩:=g.lookup b ht c (zd:=.held A0X) (zp:=[]) rfl f;rw[h1 x d]at a;simp only[T8,Option.some.injEq,Prod.mk.injEq,DataW.held.injEq]at a;rw[i,a.1]
theorem GrP.store (h:GrP P kl ok enc K E sz w base B n V L)(Q:Keyed P K){t e:TypeId}(ht:P.underlying t=some (.map K e)){q:κ→κ→Bool}(c:∀a b,q a b=true↔a=b)
 (R:∀a b,ok a→ok b→kl a=kl b→a=b){x:κ}(o:ok x){key:Value}(S:keyOf P K key=some (kl x))(hn:n<maxLen)
 {w2:World}{v':Value}{g':Nat}{l':List α}(ae:w.heap.size≤w2.heap.size)(T:∀j,j<w.heap.size→(V x).ownBlock≠some j→w2.heap[j]?=w.heap[j]?)
 (af:A3 w2 base E sz v' l'.length (enc l'))(C:v'.ownBlock=some g')(F:(V x).ownBlock=some g'∨w.heap.size≤g')(ag:l'.isEmpty=false) :
 ∃r,(Instr.mapUpdate t (.map (some B)) key v').run P w2=.ok () r∧GrP P kl ok enc K E sz r base B (n+1) (G4 q V x v') (G4 q L x l')∧w2.grownBy r (some B):=by
 have ah:=h.lt;have W:=h.ne o;obtain⟨D,G,h1,h2,h3⟩:=h.map;have ai:=ownsMap_at G (T B ah W);obtain⟨r,aj,ak,X⟩:=ai.update Q ht hn S (val:=v') (d:=.held v') (ps:=[]) rfl;have Y:WideAt.IsKeyLit (kl x):=Q.key S;have aa:∀j,j<w2.heap.size→j≠B→r.heap[j]?=w2.heap[j]?:=fun j hj al=>X.block j hj (fun e=>al (by simpa using e));refine⟨r,aj,⟨⟨_,ak,?_,?_,?_⟩,?_,?_⟩,X⟩
 ·intro y k;by_cases f:y=x
  ·subst f;rw[Maps.atKey_put_same G.isMap Y];simp[G4,(c y y).2 rfl]
  ·have s:q y x=false:=by cases i:q y x with|false=>rfl|true=>exact absurd ((c y x).1 i) f
   rw[Maps.atKey_put_other (fun e=>f (R _ _ k o e)),h1 y k];simp[G4,s]
 ·intro y k;by_cases f:y=x
  ·subst f;rw[Maps.has_put_same G.isMap Y];simp only[G4,(c y y).2 rfl,if_true];rw[ag];rfl
  ·have s:q y x=false:=by cases i:q y x with|false=>rfl|true=>exact absurd ((c y x).1 i) f
   rw[Maps.has_put_other (fun e=>f (R _ _ k o e)),h2 y k];simp[G4,s]
 ·intro l hl;by_cases ab:l=kl x
  ·exact⟨x,o,ab⟩
  ·rw[Maps.has_put_other ab]at hl;exact h3 l hl
 ·intro y k;by_cases f:y=x
  ·subst f;simp only[G4,(c y y).2 rfl,if_true];refine af.other (fun g u z=>aa g z (fun e=>?_));rw[C]at u;have:g'=g:=by simpa using u
   subst this;subst e;rcases F with m|m
   ·exact W m
   ·omega
  ·have s:q y x=false:=by cases i:q y x with|false=>rfl|true=>exact absurd ((c y x).1 i) f
   simp only[G4,s];simp only[Bool.false_eq_true,if_false];refine(h.own y k).other (fun g u z=>?_);rw[aa g (Nat.lt_of_lt_of_le z ae) (fun e=>h.ne k (e▸u))];exact T g z (fun e=>h.apart y x g k o f u e)
 ·intro a b g H M A p;by_cases ac:a=x
  ·subst ac;have N:q b a=false:=by cases i:q b a with|false=>rfl|true=>exact absurd ((c b a).1 i).symm A
   simp only[G4,(c a a).2 rfl,if_true]at p;simp only[G4,N,Bool.false_eq_true,if_false];intro v;rw[C]at p;have:g'=g:=by simpa using p
   subst this;rcases F with m|m
   ·exact h.apart a b g' o M A m v
   ·have:=((h.own b M).lt v).2;omega
  ·have am:q a x=false:=by cases i:q a x with|false=>rfl|true=>exact absurd ((c a x).1 i) ac
   simp only[G4,am,Bool.false_eq_true,if_false]at p;by_cases ad:b=x
   ·subst ad;simp only[G4,(c b b).2 rfl,if_true];intro v;rw[C]at v;have:g'=g:=by simpa using v
    subst this;rcases F with m|m
    ·exact h.apart a b g' H o A p m
    ·have:=((h.own a H).lt p).2;omega
   ·have N:q b x=false:=by cases i:q b x with|false=>rfl|true=>exact absurd ((c b x).1 i) ad
    simp only[G4,N,Bool.false_eq_true,if_false];exact h.apart a b g H M A p
end
end
end Mn
end Go.Proofs.YtilcmkiihefkkaaGreatDoor
