import Derived.BigQuiet
import Derived.Deep.RegionLawGrows
import Derived.WalkKit
import Derived.Test.YtilcmkiihefkkaaGreatDoorJf1
set_option linter.unusedVariables false
set_option linter.unusedSimpArgs false
set_option maxRecDepth 1000000
set_option maxHeartbeats 64000000
namespace Go.Proofs.YtilcmkiihefkkaaGreatDoor
namespace Mn
section
open Go.RowKit
structure D7 (w w':World)(g:Nat)(o:Obj):Prop where
 os:w'.os=w.os
 tape:w'.tape=w.tape
 output:w'.output=w.output
 size:w'.heap.size=w.heap.size
 here:w'.heap[g]?=some o
 other:∀j,j≠g→w'.heap[j]?=w.heap[j]?
theorem D7.below {w w':World}{g:Nat}{o:Obj}(h:D7 w w' g o){B:Nat}(a:B≤g):Below B w w':=
 ⟨h.os,h.tape,h.output,by rw[h.size];exact Nat.le_refl _,fun k hk=>h.other k O⟩
theorem D7.of_setCell {w:World}{g i:Nat}{cs:Array Value}{t:TypeId}(v:Value)(a:w.heap[g]?=some (.cells cs t (0,0))) :
 D7 w (w.setCell ⟨g,i,none⟩ v) g (.cells (cs.setIfInBounds i v) t (0,0)):=
 ⟨rfl,rfl,rfl,Zs,heap_setCell_same w g i cs t v a,fun j b=>heap_setCell_other w _ j v b⟩
theorem D7.drew {w w':World}{g:Nat}{o:Obj}(h:D7 w w' g o):D7 w w'.drew g o:=⟨h.os,h.tape,h.output,h.size,h.here,h.other⟩
theorem D7.drewN {w w':World}{g:Nat}{o:Obj}(h:D7 w w' g o)(n:Nat):D7 w (w'.drewN n) g o:=⟨h.os,h.tape,h.output,h.size,h.here,h.other⟩
theorem D7.setCell {w w':World}{B i:Nat}{cs:Array Value}{t:TypeId}(h:D7 w w' B (.cells cs t (0,0)))(v:Value):D7 w (w'.setCell ⟨B,i,none⟩ v) B (.cells (cs.setIfInBounds i v) t (0,0)):=
 ⟨h.os,h.tape,h.output,by simpa using h.size,heap_setCell_same w' B i cs t v h.here,fun j a=>(heap_setCell_other w' _ j v a).trans (h.other j a)⟩
theorem A1 {w:World}{b i:Nat}{cs:Array Value}{t:TypeId}{v:Value}(h:w.heap[b]?=some (.cells cs t (0,0)))(a:cs[i]?=some v):w.cell? ⟨b,i,none⟩=some v:=by
 rw[cell_of_row w b i cs t (0,0) h];exact a
def A3 (w:World)(base:Nat)(e:TypeId)(size:Nat)(v:Value)(n:Nat)(xs:List Value):Prop:=
 xs.length=n*size∧
 ((v=.slice none 0 0∧n=0)∨∃g o cap cur,v=.slice (some ⟨g,o,none⟩) n cap∧base≤g∧w.heap[g]?=some (.cells cur e (0,0))∧n≤cap∧cap≤maxLen∧o+cap*size≤cur.size∧
   (∀j u,xs[j]?=some u→cur[o+j]?=some u))
theorem A3.nil (w:World)(base:Nat)(e:TypeId)(size:Nat):A3 w base e size (.slice none 0 0) 0 []:=⟨Zs,Or.inl ⟨rfl,rfl⟩⟩
theorem A3.other {w w':World}{base:Nat}{e:TypeId}{size:Nat}{v:Value}{n:Nat}{xs:List Value}(h:A3 w base e size v n xs)(hk:∀g,v.ownBlock=some g→g<w.heap.size→w'.heap[g]?=w.heap[g]?):A3 w' base e size v n xs:=by
 obtain⟨a,h⟩:=h;rcases h with⟨rfl,rfl⟩|⟨g,o,cap,cur,rfl,h1,b,c⟩
 ·exact⟨a,Or.inl ⟨rfl,rfl⟩⟩
 ·exact⟨a,Or.inr ⟨g,o,cap,cur,rfl,h1,(hk g rfl (lt_of_block b)).trans b,c⟩⟩
theorem A3.tag {w:World}{base:Nat}{e:TypeId}{size:Nat}{v:Value}{n:Nat}{xs:List Value}(h:A3 w base e size v n xs){B:Nat}{cs:Array Value}{t:TypeId}(ht:t≠e)(a:w.heap[B]?=some (.cells cs t (0,0))):v.ownBlock≠some B:=by
 obtain⟨_,h⟩:=h;rcases h with⟨rfl,rfl⟩|⟨g,o,cap,cur,rfl,h1,b,c⟩
 ·simp[Value.ownBlock]
 ·intro e;simp only[Value.ownBlock,Option.some.injEq]at e;subst e;rw[b]at a;simp at a;exact ht a.2.symm
theorem A3.lt {w:World}{base:Nat}{e:TypeId}{size:Nat}{v:Value}{n:Nat}{xs:List Value}(h:A3 w base e size v n xs){g:Nat}(a:v.ownBlock=some g):base≤g∧g<w.heap.size:=by
 obtain⟨_,h⟩:=h;rcases h with⟨rfl,rfl⟩|⟨g',o,cap,cur,rfl,h1,b,c⟩
 ·simp[Value.ownBlock]at a
 ·simp only[Value.ownBlock,Option.some.injEq]at a;subst a;exact⟨h1,lt_of_block b⟩
theorem A3.of_ownsRow {w:World}{base b:Nat}{e:TypeId}{size:Nat}{v:Value}{n:Nat}{xs:List Value}(h:w.ownsRow base e size v n xs)(l:b≤base):A3 w b e size v n xs:=by
 obtain⟨c,h⟩:=h;refine⟨c,?_⟩;rcases h with⟨rfl,rfl⟩|⟨g,cap,cur,rfl,h1,d,f,i,m,k⟩
 ·exact Or.inl ⟨rfl,rfl⟩
 ·refine Or.inr ⟨g,0,cap,cur,rfl,O,d,f,i,O,?_⟩;intro j u a;rw[←k]at a;rw[List.getElem?_take]at a;split at a
  ·simpa using a
  ·exact absurd a Zs
structure I9 (w w':World)(v:Value)(g':Nat):Prop where
 os:w'.os=w.os
 tape:w'.tape=w.tape
 output:w'.output=w.output
 size:w.heap.size≤w'.heap.size
 other:∀j,j<w.heap.size→v.ownBlock≠some j→w'.heap[j]?=w.heap[j]?
 new:v.ownBlock=some g'∨w.heap.size≤g'
 lt:g'<w'.heap.size
theorem F8 (g:Nat):∀(a:List Value) (o:Nat) (w:World),(w.setCells g o a).tape=w.tape∧(w.setCells g o a).os=w.os∧(w.setCells g o a).output=w.output∧(w.setCells g o a).heap.size=w.heap.size
 |[],_,_=>⟨rfl,rfl,rfl,rfl⟩
 |v::r,o,w=>by
  have:=F8 g r (o+1) (w.setCell ⟨g,o,none⟩ v)
  rw[World.setCells]
  exact⟨this.1,this.2.1,this.2.2.1,by rw[this.2.2.2];simp⟩
theorem B8 (g:Nat):∀(a:List Value) (o:Nat) (w:World) (j:Nat),j≠g→(w.setCells g o a).heap[j]?=w.heap[j]?
 |[],_,_,_,_=>rfl
 |v::r,o,w,j,h=>by
  rw[World.setCells,B8 g r (o+1) _ j h]
  exact heap_setCell_other w _ j v h
theorem C9 (g:Nat)(e:TypeId):∀(c:List Value) (o:Nat) (w:World) (cur:Array Value),w.heap[g]?=some (.cells cur e (0,0))→
 ∃a:Array Value,(w.setCells g o c).heap[g]?=some (.cells a e (0,0))∧a.size=cur.size∧(∀j,j<o→a[j]?=cur[j]?)∧(∀j u,c[j]?=some u→o+j<cur.size→a[o+j]?=some u)
 |[],o,w,cur,h=>⟨cur,h,rfl,fun _ _=>rfl,fun j u b=>by simp at b⟩
 |v::r,o,w,cur,h=>by
  obtain⟨a,h1,f,d,i⟩:=C9 g e r (o+1) (w.setCell ⟨g,o,none⟩ v) (cur.setIfInBounds o v) (heap_setCell_same w g o cur e v h)
  refine⟨a,h1,by simpa using f,?_,?_⟩
  ·intro j b
   rw[d j O,Array.getElem?_setIfInBounds_ne O]
  ·intro j u b k
   cases j with
   |zero=>
    simp at b
    subst b
    rw[Nat.add_zero,d o O,Array.getElem?_setIfInBounds_self_of_lt O]
   |succ j=>
    have:=i j u (by simpa using b) Zo
    rwa [show o+(j+1)=o+1+j by omega]
theorem A1u {P:Program}(w:World)(t ty e:TypeId)(i:TypeInfo)(z:Value)(size bytes:Nat)(h1:P.underlying t=some (.slice e))(p:P.info? e=some i)(D:i.zero=some z)(q:i.size=size)(E:i.bytes=bytes)(F:z.cells.size=size)(G:0<size)
 (base:Nat)(v:Value)(n:Nat)(xs:List Value)(r:A3 w base e size v n xs)
 (f:Addr)(c:Nat)(news:List Value)(Q:news.length=size)(s:∀j u,news[j]?=some u→w.cell? (f.add j)=some u)(H:∀u∈news,u.oneCell'=true)
 (b1:n+1≤maxLen)(b2:(n+1)*bytes≤140737488355328)(K:base≤w.heap.size) :
 ∃g' o' cap' w',(Builtin.append_ #[t,t] ty #[v,.slice (some f) 1 c]).run P w=.ok (.slice (some ⟨g',o',none⟩) (n+1) cap') w'∧A3 w' base e size (.slice (some ⟨g',o',none⟩) (n+1) cap') (n+1) (xs++news)∧I9 w w' v g':=by
 have x:news.length=1*size:=O;obtain⟨y,r⟩:=r;rcases r with⟨rfl,rfl⟩|⟨g,o,cap,cur,rfl,A,d,Y,R,S,L⟩
 ·obtain rfl:xs=[]:=List.eq_nil_of_length_eq_zero (by simpa using y);obtain⟨v',w',k,l,b,_⟩:=run_append_own (P:=P) w w.heap.size t ty e i z size bytes h1 p D q E F G (.slice none 0 0) 0 [] (World.ownsRow_nil w _ e size) f 1 c news x s H b1 b2 (Nat.le_refl _);rcases l.2 with⟨_,B⟩|⟨g,cap,cur,rfl,A,d,_⟩
  ·exact absurd B Zs
  ·exact⟨g,0,cap,w',k,A3.of_ownsRow l K,⟨b.os,b.tape,b.output,b.size,fun j a _=>b.block j a (by simp[Value.ownBlock]),Or.inr A,lt_of_block d⟩⟩
 ·by_cases C:n+1≤cap
  ·subst q;have aa:o+(n+1)*i.size≤cur.size:=Nat.le_trans (Nat.add_le_add_left (Nat.mul_le_mul_right _ C) o) S;have hex:(n+1)*i.size=n*i.size+i.size:=by rw[Nat.add_mul,Nat.one_mul]
   have k:=run_append_room_cells (P:=P) w t ty e i h1 p g o n cap f 1 c news x s H C
    (fun j a=>by rw[cell_of_row w g _ cur e (0,0) d];simp;omega) (fun j _=>frozen_of_row w g _ cur e d)
   obtain⟨M,N,q2,T,V⟩:=C9 g e news (o+n*i.size) w cur d;have m:=F8 g news (o+n*i.size) w;refine⟨g,o,cap,_,k,⟨by rw[List.length_append,y,Q];omega,Or.inr ⟨g,o,cap,M,rfl,A,N,C,R,O,?_⟩⟩,⟨m.2.1,m.1,m.2.2.1,by rw[m.2.2.2];exact Nat.le_refl _,fun j _ a=>B8 g news _ w j (fun h=>a (by simp[Value.ownBlock,h])),Or.inl rfl,lt_of_block N⟩⟩;intro j u a;rw[List.getElem?_append]at a;split at a
   ·rw[T _ O];exact L j u a
   ·have:=V (j-xs.length) u a (by
     have:j-xs.length<news.length:=by
      rcases Nat.lt_or_ge (j-xs.length) news.length with h|h
      ·exact h
      ·rw[List.getElem?_eq_none h]at a;exact absurd a Zs
     omega)
    rwa [show o+n*i.size+(j-xs.length)=o+j by omega]at this
  ·obtain⟨v',w',k,l,b⟩:=run_append_arg_grows (P:=P) w t ty e i z size bytes h1 p D q E F G ⟨g,o,none⟩ n cap xs y (fun j u a=>by rw[Addr.add_lit,cell_of_row w g _ cur e (0,0) d];exact L j u a) f 1 c news x s O b1 b2;rcases l.2 with⟨_,B⟩|⟨g',cap',M,rfl,W,X,_⟩
   ·exact absurd B Zs
   ·exact⟨g',0,cap',w',k,A3.of_ownsRow l K,⟨b.os,b.tape,b.output,b.size,fun j a _=>b.block j a Zs,Or.inr W,lt_of_block X⟩⟩
theorem G3 {P:Program}{ops:Array Oper}{o:Oper}{a:Act}{w:World}{K:Act→World→Prop}{Q:Exit→Act→World→Prop}{E:Prop}
 (d:o.guard=none)(s x:Operand)(t:TypeId)(f:o.op=Op.call {callee:=Callee.builtin Builtin.append,args:=#[s,x],argTypes:=#[t,t]})
 (e:TypeId)(i:TypeInfo)(z:Value)(size bytes:Nat)(h1:P.underlying t=some (.slice e))(g:P.info? e=some i)(h:i.zero=some z)(k:i.size=size)(l:i.bytes=bytes)(m:z.cells.size=size)(p:0<size)
 (base:Nat)(v:Value)(n:Nat)(xs:List Value)(hs:a.eval s=v)(q:A3 w base e size v n xs)
 (b:Addr)(c:Nat)(news:List Value)(r:a.eval x=.slice (some b) 1 c)(y:news.length=size)(A:∀j u,news[j]?=some u→w.cell? (b.add j)=some u)(B:∀u∈news,u.oneCell'=true)
 (b1:n+1≤maxLen)(b2:(n+1)*bytes≤140737488355328)(C:base≤w.heap.size)
 (D:∀g' o' cap' w',A3 w' base e size (.slice (some ⟨g',o',none⟩) (n+1) cap') (n+1) (xs++news)→I9 w w' v g'→K (a.put o.dst (.slice (some ⟨g',o',none⟩) (n+1) cap')) w') :
 if Region.wanted o (yielded ops a.tmps)=true then Oper.wp P o a w K Q else E:=by
 have hw:Region.wanted o (yielded ops a.tmps)=true:=by simp[Region.wanted,d]
 rw[if_pos hw];obtain⟨g',o',cap',w',F,G,H⟩:=A1u (P:=P) w t o.type e i z size bytes h1 g h k l m p base v n xs q b c news y A B b1 b2 C;unfold Oper.wp;simp[execOp,f,resolve,invoke,builtin,hs,r,F,Result.andThen];exact D g' o' cap' w' G H
theorem B5 {P:Program}(w:World){ops:Array Oper}{rest:List Oper}{o:Oper}{a:Act}{Q:Exit→Act→World→Prop}
 (d:o.guard=none)(s x:Operand)(t:TypeId)(f:o.op=Op.call {callee:=Callee.builtin Builtin.append,args:=#[s,x],argTypes:=#[t,t]})
 (e:TypeId)(i:TypeInfo)(z:Value)(size bytes:Nat)(h1:P.underlying t=some (.slice e))(g:P.info? e=some i)(h:i.zero=some z)(k:i.size=size)(l:i.bytes=bytes)(m:z.cells.size=size)(p:0<size)
 (base:Nat)(v:Value)(n:Nat)(xs:List Value)(hs:a.eval s=v)(q:A3 w base e size v n xs)
 (b:Addr)(c:Nat)(news:List Value)(r:a.eval x=.slice (some b) 1 c)(y:news.length=size)(A:∀j u,news[j]?=some u→w.cell? (b.add j)=some u)(B:∀u∈news,u.oneCell'=true)
 (b1:n+1≤maxLen)(b2:(n+1)*bytes≤140737488355328)(C:base≤w.heap.size)
 (D:∀g' o' cap' w',A3 w' base e size (.slice (some ⟨g',o',none⟩) (n+1) cap') (n+1) (xs++news)→I9 w w' v g'→wpList P ops Q rest (a.put o.dst (.slice (some ⟨g',o',none⟩) (n+1) cap')) w') :
 wpList P ops Q (o::rest) a w:=by
 refine wpList_plain d fun K E=>?_;obtain⟨g',o',cap',w',F,G,H⟩:=A1u (P:=P) w t o.type e i z size bytes h1 g h k l m p base v n xs q b c news y A B b1 b2 C;unfold Oper.wp;simp[execOp,f,resolve,invoke,builtin,hs,r,F,Result.andThen];exact E _ _ (D g' o' cap' w' G H)
end
end Mn
section
open Go.RowKit
structure D7 (w w':World)(g:Nat)(o:Obj):Prop where
 os:w'.os=w.os
 tape:w'.tape=w.tape
 output:w'.output=w.output
 size:w'.heap.size=w.heap.size
 here:w'.heap[g]?=some o
 other:∀j,j≠g→w'.heap[j]?=w.heap[j]?
theorem D7.below {w w':World}{g:Nat}{o:Obj}(h:D7 w w' g o){B:Nat}(a:B≤g):Below B w w':=
 ⟨h.os,h.tape,h.output,by rw[h.size];exact Nat.le_refl _,fun k hk=>h.other k O⟩
theorem D7.of_setCell {w:World}{g i:Nat}{cs:Array Value}{t:TypeId}(v:Value)(a:w.heap[g]?=some (.cells cs t (0,0))) :
 D7 w (w.setCell ⟨g,i,none⟩ v) g (.cells (cs.setIfInBounds i v) t (0,0)):=
 ⟨rfl,rfl,rfl,Zs,heap_setCell_same w g i cs t v a,fun j b=>heap_setCell_other w _ j v b⟩
theorem D7.setCell {w w':World}{B i:Nat}{cs:Array Value}{t:TypeId}(h:D7 w w' B (.cells cs t (0,0)))(v:Value):D7 w (w'.setCell ⟨B,i,none⟩ v) B (.cells (cs.setIfInBounds i v) t (0,0)):=
 ⟨h.os,h.tape,h.output,by simpa using h.size,heap_setCell_same w' B i cs t v h.here,fun j a=>(heap_setCell_other w' _ j v a).trans (h.other j a)⟩
theorem A1 {w:World}{b i:Nat}{cs:Array Value}{t:TypeId}{v:Value}(h:w.heap[b]?=some (.cells cs t (0,0)))(a:cs[i]?=some v):w.cell? ⟨b,i,none⟩=some v:=by
 rw[cell_of_row w b i cs t (0,0) h];exact a
def A3 (w:World)(base:Nat)(e:TypeId)(size:Nat)(v:Value)(n:Nat)(xs:List Value):Prop:=
 xs.length=n*size∧
 ((v=.slice none 0 0∧n=0)∨∃g o cap cur,v=.slice (some ⟨g,o,none⟩) n cap∧base≤g∧w.heap[g]?=some (.cells cur e (0,0))∧n≤cap∧cap≤maxLen∧o+cap*size≤cur.size∧
   (∀j u,xs[j]?=some u→cur[o+j]?=some u))
theorem A3.nil (w:World)(base:Nat)(e:TypeId)(size:Nat):A3 w base e size (.slice none 0 0) 0 []:=⟨Zs,Or.inl ⟨rfl,rfl⟩⟩
theorem A3.other {w w':World}{base:Nat}{e:TypeId}{size:Nat}{v:Value}{n:Nat}{xs:List Value}(h:A3 w base e size v n xs)(hk:∀g,v.ownBlock=some g→g<w.heap.size→w'.heap[g]?=w.heap[g]?):A3 w' base e size v n xs:=by
 obtain⟨a,h⟩:=h;rcases h with⟨rfl,rfl⟩|⟨g,o,cap,cur,rfl,h1,b,c⟩
 ·exact⟨a,Or.inl ⟨rfl,rfl⟩⟩
 ·exact⟨a,Or.inr ⟨g,o,cap,cur,rfl,h1,(hk g rfl (lt_of_block b)).trans b,c⟩⟩
theorem A3.tag {w:World}{base:Nat}{e:TypeId}{size:Nat}{v:Value}{n:Nat}{xs:List Value}(h:A3 w base e size v n xs){B:Nat}{cs:Array Value}{t:TypeId}(ht:t≠e)(a:w.heap[B]?=some (.cells cs t (0,0))):v.ownBlock≠some B:=by
 obtain⟨_,h⟩:=h;rcases h with⟨rfl,rfl⟩|⟨g,o,cap,cur,rfl,h1,b,c⟩
 ·simp[Value.ownBlock]
 ·intro e;simp only[Value.ownBlock,Option.some.injEq]at e;subst e;rw[b]at a;simp at a;exact ht a.2.symm
theorem A3.lt {w:World}{base:Nat}{e:TypeId}{size:Nat}{v:Value}{n:Nat}{xs:List Value}(h:A3 w base e size v n xs){g:Nat}(a:v.ownBlock=some g):base≤g∧g<w.heap.size:=by
 obtain⟨_,h⟩:=h;rcases h with⟨rfl,rfl⟩|⟨g',o,cap,cur,rfl,h1,b,c⟩
 ·simp[Value.ownBlock]at a
 ·simp only[Value.ownBlock,Option.some.injEq]at a;subst a;exact⟨h1,lt_of_block b⟩
theorem A3.of_ownsRow {w:World}{base b:Nat}{e:TypeId}{size:Nat}{v:Value}{n:Nat}{xs:List Value}(h:w.ownsRow base e size v n xs)(l:b≤base):A3 w b e size v n xs:=by
 obtain⟨c,h⟩:=h;refine⟨c,?_⟩;rcases h with⟨rfl,rfl⟩|⟨g,cap,cur,rfl,h1,d,f,i,m,k⟩
 ·exact Or.inl ⟨rfl,rfl⟩
 ·refine Or.inr ⟨g,0,cap,cur,rfl,O,d,f,i,O,?_⟩;intro j u a;rw[←k]at a;rw[List.getElem?_take]at a;split at a
  ·simpa using a
  ·exact absurd a Zs
structure I9 (w w':World)(v:Value)(g':Nat):Prop where
 os:w'.os=w.os
 tape:w'.tape=w.tape
 output:w'.output=w.output
 size:w.heap.size≤w'.heap.size
 other:∀j,j<w.heap.size→v.ownBlock≠some j→w'.heap[j]?=w.heap[j]?
 new:v.ownBlock=some g'∨w.heap.size≤g'
 lt:g'<w'.heap.size
theorem F8 (g:Nat):∀(a:List Value) (o:Nat) (w:World),(w.setCells g o a).tape=w.tape∧(w.setCells g o a).os=w.os∧(w.setCells g o a).output=w.output∧(w.setCells g o a).heap.size=w.heap.size
 |[],_,_=>⟨rfl,rfl,rfl,rfl⟩
 |v::r,o,w=>by
  have:=F8 g r (o+1) (w.setCell ⟨g,o,none⟩ v)
  rw[World.setCells]
  exact⟨this.1,this.2.1,this.2.2.1,by rw[this.2.2.2];simp⟩
theorem B8 (g:Nat):∀(a:List Value) (o:Nat) (w:World) (j:Nat),j≠g→(w.setCells g o a).heap[j]?=w.heap[j]?
 |[],_,_,_,_=>rfl
 |v::r,o,w,j,h=>by
  rw[World.setCells,B8 g r (o+1) _ j h]
  exact heap_setCell_other w _ j v h
theorem C9 (g:Nat)(e:TypeId):∀(c:List Value) (o:Nat) (w:World) (cur:Array Value),w.heap[g]?=some (.cells cur e (0,0))→
 ∃a:Array Value,(w.setCells g o c).heap[g]?=some (.cells a e (0,0))∧a.size=cur.size∧(∀j,j<o→a[j]?=cur[j]?)∧(∀j u,c[j]?=some u→o+j<cur.size→a[o+j]?=some u)
 |[],o,w,cur,h=>⟨cur,h,rfl,fun _ _=>rfl,fun j u b=>by simp at b⟩
 |v::r,o,w,cur,h=>by
  obtain⟨a,h1,f,d,i⟩:=C9 g e r (o+1) (w.setCell ⟨g,o,none⟩ v) (cur.setIfInBounds o v) (heap_setCell_same w g o cur e v h)
  refine⟨a,h1,by simpa using f,?_,?_⟩
  ·intro j b
   rw[d j O,Array.getElem?_setIfInBounds_ne O]
  ·intro j u b k
   cases j with
   |zero=>
    simp at b
    subst b
    rw[Nat.add_zero,d o O,Array.getElem?_setIfInBounds_self_of_lt O]
   |succ j=>
    have:=i j u (by simpa using b) Zo
    rwa [show o+(j+1)=o+1+j by omega]
theorem A1u {P:Program}(w:World)(t ty e:TypeId)(i:TypeInfo)(z:Value)(size bytes:Nat)(h1:P.underlying t=some (.slice e))(p:P.info? e=some i)(D:i.zero=some z)(q:i.size=size)(E:i.bytes=bytes)(F:z.cells.size=size)(G:0<size)
 (base:Nat)(v:Value)(n:Nat)(xs:List Value)(r:A3 w base e size v n xs)
 (f:Addr)(c:Nat)(news:List Value)(Q:news.length=size)(s:∀j u,news[j]?=some u→w.cell? (f.add j)=some u)(H:∀u∈news,u.oneCell'=true)
 (b1:n+1≤maxLen)(b2:(n+1)*bytes≤140737488355328)(K:base≤w.heap.size) :
 ∃g' o' cap' w',(Builtin.append_ #[t,t] ty #[v,.slice (some f) 1 c]).run P w=.ok (.slice (some ⟨g',o',none⟩) (n+1) cap') w'∧A3 w' base e size (.slice (some ⟨g',o',none⟩) (n+1) cap') (n+1) (xs++news)∧I9 w w' v g':=by
 have x:news.length=1*size:=O;obtain⟨y,r⟩:=r;rcases r with⟨rfl,rfl⟩|⟨g,o,cap,cur,rfl,A,d,Y,R,S,L⟩
 ·obtain rfl:xs=[]:=List.eq_nil_of_length_eq_zero (by simpa using y);obtain⟨v',w',k,l,b,_⟩:=run_append_own (P:=P) w w.heap.size t ty e i z size bytes h1 p D q E F G (.slice none 0 0) 0 [] (World.ownsRow_nil w _ e size) f 1 c news x s H b1 b2 (Nat.le_refl _);rcases l.2 with⟨_,B⟩|⟨g,cap,cur,rfl,A,d,_⟩
  ·exact absurd B Zs
  ·exact⟨g,0,cap,w',k,A3.of_ownsRow l K,⟨b.os,b.tape,b.output,b.size,fun j a _=>b.block j a (by simp[Value.ownBlock]),Or.inr A,lt_of_block d⟩⟩
 ·by_cases C:n+1≤cap
  ·subst q;have aa:o+(n+1)*i.size≤cur.size:=Nat.le_trans (Nat.add_le_add_left (Nat.mul_le_mul_right _ C) o) S;have hex:(n+1)*i.size=n*i.size+i.size:=by rw[Nat.add_mul,Nat.one_mul]
   have k:=run_append_room_cells (P:=P) w t ty e i h1 p g o n cap f 1 c news x s H C
    (fun j a=>by rw[cell_of_row w g _ cur e (0,0) d];simp;omega) (fun j _=>frozen_of_row w g _ cur e d)
   obtain⟨M,N,q2,T,V⟩:=C9 g e news (o+n*i.size) w cur d;have m:=F8 g news (o+n*i.size) w;refine⟨g,o,cap,_,k,⟨by rw[List.length_append,y,Q];omega,Or.inr ⟨g,o,cap,M,rfl,A,N,C,R,O,?_⟩⟩,⟨m.2.1,m.1,m.2.2.1,by rw[m.2.2.2];exact Nat.le_refl _,fun j _ a=>B8 g news _ w j (fun h=>a (by simp[Value.ownBlock,h])),Or.inl rfl,lt_of_block N⟩⟩;intro j u a;rw[List.getElem?_append]at a;split at a
   ·rw[T _ O];exact L j u a
   ·have:=V (j-xs.length) u a (by
     have:j-xs.length<news.length:=by
      rcases Nat.lt_or_ge (j-xs.length) news.length with h|h
      ·exact h
      ·rw[List.getElem?_eq_none h]at a;exact absurd a Zs
     omega)
    rwa [show o+n*i.size+(j-xs.length)=o+j by omega]at this
  ·obtain⟨v',w',k,l,b⟩:=run_append_arg_grows (P:=P) w t ty e i z size bytes h1 p D q E F G ⟨g,o,none⟩ n cap xs y (fun j u a=>by rw[Addr.add_lit,cell_of_row w g _ cur e (0,0) d];exact L j u a) f 1 c news x s O b1 b2;rcases l.2 with⟨_,B⟩|⟨g',cap',M,rfl,W,X,_⟩
   ·exact absurd B Zs
   ·exact⟨g',0,cap',w',k,A3.of_ownsRow l K,⟨b.os,b.tape,b.output,b.size,fun j a _=>b.block j a Zs,Or.inr W,lt_of_block X⟩⟩
theorem G3 {P:Program}{ops:Array Oper}{o:Oper}{a:Act}{w:World}{K:Act→World→Prop}{Q:Exit→Act→World→Prop}{E:Prop}
 (d:o.guard=none)(s x:Operand)(t:TypeId)(f:o.op=Op.call {callee:=Callee.builtin Builtin.append,args:=#[s,x],argTypes:=#[t,t]})
 (e:TypeId)(i:TypeInfo)(z:Value)(size bytes:Nat)(h1:P.underlying t=some (.slice e))(g:P.info? e=some i)(h:i.zero=some z)(k:i.size=size)(l:i.bytes=bytes)(m:z.cells.size=size)(p:0<size)
 (base:Nat)(v:Value)(n:Nat)(xs:List Value)(hs:a.eval s=v)(q:A3 w base e size v n xs)
 (b:Addr)(c:Nat)(news:List Value)(r:a.eval x=.slice (some b) 1 c)(y:news.length=size)(A:∀j u,news[j]?=some u→w.cell? (b.add j)=some u)(B:∀u∈news,u.oneCell'=true)
 (b1:n+1≤maxLen)(b2:(n+1)*bytes≤140737488355328)(C:base≤w.heap.size)
 (D:∀g' o' cap' w',A3 w' base e size (.slice (some ⟨g',o',none⟩) (n+1) cap') (n+1) (xs++news)→I9 w w' v g'→K (a.put o.dst (.slice (some ⟨g',o',none⟩) (n+1) cap')) w') :
 if Region.wanted o (yielded ops a.tmps)=true then Oper.wp P o a w K Q else E:=by
 have hw:Region.wanted o (yielded ops a.tmps)=true:=by simp[Region.wanted,d]
 rw[if_pos hw];obtain⟨g',o',cap',w',F,G,H⟩:=A1u (P:=P) w t o.type e i z size bytes h1 g h k l m p base v n xs q b c news y A B b1 b2 C;unfold Oper.wp;simp[execOp,f,resolve,invoke,builtin,hs,r,F,Result.andThen];exact D g' o' cap' w' G H
theorem B5 {P:Program}(w:World){ops:Array Oper}{rest:List Oper}{o:Oper}{a:Act}{Q:Exit→Act→World→Prop}
 (d:o.guard=none)(s x:Operand)(t:TypeId)(f:o.op=Op.call {callee:=Callee.builtin Builtin.append,args:=#[s,x],argTypes:=#[t,t]})
 (e:TypeId)(i:TypeInfo)(z:Value)(size bytes:Nat)(h1:P.underlying t=some (.slice e))(g:P.info? e=some i)(h:i.zero=some z)(k:i.size=size)(l:i.bytes=bytes)(m:z.cells.size=size)(p:0<size)
 (base:Nat)(v:Value)(n:Nat)(xs:List Value)(hs:a.eval s=v)(q:A3 w base e size v n xs)
 (b:Addr)(c:Nat)(news:List Value)(r:a.eval x=.slice (some b) 1 c)(y:news.length=size)(A:∀j u,news[j]?=some u→w.cell? (b.add j)=some u)(B:∀u∈news,u.oneCell'=true)
 (b1:n+1≤maxLen)(b2:(n+1)*bytes≤140737488355328)(C:base≤w.heap.size)
 (D:∀g' o' cap' w',A3 w' base e size (.slice (some ⟨g',o',none⟩) (n+1) cap') (n+1) (xs++news)→I9 w w' v g'→wpList P ops Q rest (a.put o.dst (.slice (some ⟨g',o',none⟩) (n+1) cap')) w') :
 wpList P ops Q (o::rest) a w:=by
 refine wpList_plain d fun K E=>?_;obtain⟨g',o',cap',w',F,G,H⟩:=A1u (P:=P) w t o.type e i z size bytes h1 g h k l m p base v n xs q b c news y A B b1 b2 C;unfold Oper.wp;simp[execOp,f,resolve,invoke,builtin,hs,r,F,Result.andThen];exact E _ _ (D g' o' cap' w' G H)
end
end Go.Proofs.YtilcmkiihefkkaaGreatDoor
