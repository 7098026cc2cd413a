import Derived.Test.YtilcmkiihefkkaaGreatDoorJf34
import Derived.Test.YtilcmkiihefkkaaGreatDoorJf44
import Derived.Test.YtilcmkiihefkkaaGreatDoorJf45
set_option linter.unusedVariables false
set_option linter.unusedSimpArgs false
set_option maxRecDepth 1000000
set_option maxHeartbeats 64000000
open Go.Value renaming int→I
open Go.IntKind renaming i64→J
namespace Go.Proofs.YtilcmkiihefkkaaGreatDoor
namespace Mn
section
open Go.RowKit
theorem RdR.kept {w w':World}{t:TypeId}{a:Option Addr}{n:Nat}{xs:List Value}(h:RdR w t a n xs)(c:∀g o cur,a=some ⟨g,o,none⟩→w.heap[g]?=some (.cells cur t (0,0))→w'.heap[g]?=w.heap[g]?):RdR w' t a n xs:=fun d=>by
 obtain⟨g,o,cur,h1,b,f⟩:=h d
 exact⟨g,o,cur,h1,(c g o cur h1 b).trans b,f⟩
theorem EnH.kept {w w':World}{v:Value}{m:Int}(h:EnH w v m)(a:∀(g:Nat) (cur:Array Value),v.ownBlock=some g→w.heap[g]?=some (.cells cur 99 (0,0))→w'.heap[g]?=w.heap[g]?):EnH w' v m:=by
 obtain⟨n,mk,b,c,h1,d,f,rfl,i⟩:=h;exact⟨n,mk,b,c,h1,d,f,rfl,i.kept (fun g o cur e j=>a g cur (by rw[e];rfl) j)⟩
theorem EnF.kept {w w':World}{v:Value}{m:Int}(h:EnF w v m)(a:∀(g:Nat) (cur:Array Value),v.ownBlock=some g→w.heap[g]?=some (.cells cur 71 (0,0))→w'.heap[g]?=w.heap[g]?):EnF w' v m:=by
 obtain⟨n,mk,b,c,h1,d,f,rfl,i⟩:=h;exact⟨n,mk,b,c,h1,d,f,rfl,i.kept (fun g o cur e j=>a g cur (by rw[e];rfl) j)⟩
theorem A3.twoTags {w:World}{base c:Nat}{e a:TypeId}{size d:Nat}{v v2:Value}{n f:Nat}{xs i:List Value}(h:A3 w base e size v n xs)(j:A3 w c a d v2 f i)(k:e≠a){g:Nat}(b:v.ownBlock=some g):v2.ownBlock≠some g:=by
 rcases h.2 with⟨rfl,_⟩|⟨g1,o,cap,cur,rfl,_,l,_⟩
 ·cases b
 ·have e1:g1=g:=by simpa[Value.ownBlock] using b
  subst e1;exact j.tag k l
structure BwI (wE wI:World)(S1:Nat)(w:World)(Bb:Nat)(hv fv:Value)(EH EF:List (Value×Int)):Prop where
 bE:Below wE.heap.size wE w
 sz:wI.heap.size≤w.heap.size
 ix:∀g,S1≤g→g<wI.heap.size→w.heap[g]?=wI.heap[g]?
 bk:w.heap[Bb]?=some (.cells #[.slice none 0 0,.slice none 0 0,.slice none 0 0,hv,fv] 40 (0,0))
 b0:wE.heap.size≤Bb
 bo:Bb<S1∨wI.heap.size≤Bb
 ho:∀g,hv.ownBlock=some g→g<S1∨wI.heap.size≤g
 fo:∀g,fv.ownBlock=some g→g<S1∨wI.heap.size≤g
 eh:A3 w wE.heap.size 121 2 hv EH.length (D1 EH)
 ef:A3 w wE.heap.size 123 2 fv EF.length (D1 EF)
 ah:∀p∈EH,EnH w p.1 p.2
 af:∀p∈EF,EnF w p.1 p.2
section
variable {wE wI:World} {S1:Nat} {w w':World} {Bb:Nat} {hv fv:Value} {EH EF:List (Value×Int)}
theorem BwI.keep (h:BwI wE wI S1 w Bb hv fv EH EF)(a:Below w.heap.size w w'):BwI wE wI S1 w' Bb hv fv EH EF:=
 {bE:=h.bE.trans (a.mono h.bE.size),sz:=Nat.le_trans h.sz a.size,ix:=fun g h1 d=>(a.block g (Nat.lt_of_lt_of_le d h.sz)).trans (h.ix g h1 d)
  bk:=(a.block _ (lt_of_block h.bk)).trans h.bk,b0:=h.b0,bo:=h.bo,ho:=h.ho,fo:=h.fo
  eh:=h.eh.other (fun g _ b=>a.block g b),ef:=h.ef.other (fun g _ b=>a.block g b)
  ah:=fun p c=>(h.ah p c).kept (fun g cur _ b=>a.block g (lt_of_block b)),af:=fun p c=>(h.af p c).kept (fun g cur _ b=>a.block g (lt_of_block b))}
theorem BwI.hits {j:World}(h:BwI wE wI S1 j Bb hv fv EH EF)(r:Below j.heap.size j w){n:Nat}{v0 A x:Value}{y:List Value}{L:List W3}(s:A3 w j.heap.size 99 3 v0 n (A6 L))(F:n<4398046511000)(hk:EH.length≤100000000)
 (b:BhI (.slice none 0 0) (.slice none 0 0) (.slice none 0 0) fv w wE.heap.size Bb EH.length n v0 hv EH y 3 A x w'):BwI wE wI S1 w' Bb x fv (EH++y.map fun v=>(v,(EH.length:Int))) EF:=by
 have a:=h.keep r;have u:∀g,v0.ownBlock=some g→j.heap.size≤g:=fun g m=>(s.lt m).1;have G:=h.bE.size;have H:=h.sz;have k:∀q,q<w.heap.size→q≠Bb→hv.ownBlock≠some q→v0.ownBlock≠some q→w'.heap[q]?=w.heap[q]?:=b.other;refine {bE:=⟨b.os.trans a.bE.os,b.tape.trans a.bE.tape,b.output.trans a.bE.output,Nat.le_trans a.bE.size (Nat.le_of_lt b.size),?_⟩,sz:=Nat.le_trans a.sz (Nat.le_of_lt b.size),ix:=?_,bk:=b.book,b0:=h.b0,bo:=h.bo,ho:=?_,fo:=h.fo,eh:=?_,ef:=?_,ah:=?_,af:=?_}
 ·intro q l;refine(k q (by have:=a.bE.size;omega) (by have:=h.b0;omega) (fun e=>?_) (fun e=>?_)).trans (a.bE.block q l)
  ·have:=(a.eh.lt e).1;omega
  ·have:=u q e;omega
 ·intro q h1 B;refine(k q (by have:=a.sz;omega) (by have:=h.bo;omega) (fun e=>?_) (fun e=>?_)).trans (a.ix q h1 B)
  ·have:=h.ho q e;omega
  ·have:=u q e;omega
 ·intro g m;rcases b.nw g m with e|e
  ·exact h.ho g e
  ·right;have:=a.sz;omega
 ·have:=b.ent;rw[List.length_append,List.length_map];exact this
 ·refine a.ef.other (fun q l C=>k q C ?_ ?_ ?_)
  ·exact fun e=>a.ef.tag Z a.bk (e▸l)
  ·exact a.ef.twoTags a.eh Z l
  ·exact a.ef.twoTags s Z l
 ·intro p f;rcases List.mem_append.1 f with f|f
  ·refine(h.ah p f).kept (fun g cur _ d=>?_);have z:=lt_of_block d;have o:=(r.block g z).trans d;refine(k g (lt_of_block o) (fun e=>?_) (fun e=>?_) (fun e=>?_)).trans (r.block g z)
   ·subst e;rw[a.bk]at o;simp at o
   ·exact a.eh.tag (t:=99) Z o e
   ·have:=u g e;omega
  ·obtain⟨v,D,rfl⟩:=List.mem_map.1 f;obtain⟨i,hi,ho,_⟩:=b.sl v D;obtain⟨E,c,rfl⟩:=ho.form;exact⟨n+i,EH.length,E,c,rfl,hk,O,rfl,RdR.of ho⟩
 ·intro p f;refine(a.af p f).kept (fun g cur m d=>k g (lt_of_block d) (fun e=>?_) (fun e=>?_) (fun e=>?_))
  ·subst e;rw[a.bk]at d;simp at d
  ·have:=a.eh.tag (t:=71) Z d;exact this e
  ·have:=s.tag (t:=71) Z d;exact this e
theorem BwI.founds {j:World}(h:BwI wE wI S1 j Bb hv fv EH EF)(r:Below j.heap.size j w){n:Nat}{v0 A x:Value}{y:List Value}{L:List FD}(s:A3 w j.heap.size 71 13 v0 n (C0 L))(F:n<100000000000)(hk:EF.length≤100000000)
 (b:BfI (.slice none 0 0) (.slice none 0 0) (.slice none 0 0) hv w wE.heap.size Bb EF.length n v0 fv EF y 3 A x w'):BwI wE wI S1 w' Bb hv x EH (EF++y.map fun v=>(v,(EF.length:Int))):=by
 have a:=h.keep r;have u:∀g,v0.ownBlock=some g→j.heap.size≤g:=fun g m=>(s.lt m).1;have G:=h.bE.size;have H:=h.sz;have k:∀q,q<w.heap.size→q≠Bb→fv.ownBlock≠some q→v0.ownBlock≠some q→w'.heap[q]?=w.heap[q]?:=b.other;refine {bE:=⟨b.os.trans a.bE.os,b.tape.trans a.bE.tape,b.output.trans a.bE.output,Nat.le_trans a.bE.size (Nat.le_of_lt b.size),?_⟩,sz:=Nat.le_trans a.sz (Nat.le_of_lt b.size),ix:=?_,bk:=b.book,b0:=h.b0,bo:=h.bo,ho:=h.ho,fo:=?_,eh:=?_,ef:=?_,ah:=?_,af:=?_}
 ·intro q l;refine(k q (by have:=a.bE.size;omega) (by have:=h.b0;omega) (fun e=>?_) (fun e=>?_)).trans (a.bE.block q l)
  ·have:=(a.ef.lt e).1;omega
  ·have:=u q e;omega
 ·intro q h1 B;refine(k q (by have:=a.sz;omega) (by have:=h.bo;omega) (fun e=>?_) (fun e=>?_)).trans (a.ix q h1 B)
  ·have:=h.fo q e;omega
  ·have:=u q e;omega
 ·intro g m;rcases b.nw g m with e|e
  ·exact h.fo g e
  ·right;have:=a.sz;omega
 ·refine a.eh.other (fun q l C=>k q C ?_ ?_ ?_)
  ·exact fun e=>a.eh.tag Z a.bk (e▸l)
  ·exact a.eh.twoTags a.ef Z l
  ·exact a.eh.twoTags s Z l
 ·have:=b.ent;rw[List.length_append,List.length_map];exact this
 ·intro p f;refine(a.ah p f).kept (fun g cur m d=>k g (lt_of_block d) (fun e=>?_) (fun e=>?_) (fun e=>?_))
  ·subst e;rw[a.bk]at d;simp at d
  ·have:=a.ef.tag (t:=99) Z d;exact this e
  ·have:=s.tag (t:=99) Z d;exact this e
 ·intro p f;rcases List.mem_append.1 f with f|f
  ·refine(h.af p f).kept (fun g cur _ d=>?_);have z:=lt_of_block d;have o:=(r.block g z).trans d;refine(k g (lt_of_block o) (fun e=>?_) (fun e=>?_) (fun e=>?_)).trans (r.block g z)
   ·subst e;rw[a.bk]at o;simp at o
   ·exact a.ef.tag (t:=71) Z o e
   ·have:=u g e;omega
  ·obtain⟨v,D,rfl⟩:=List.mem_map.1 f;obtain⟨i,hi,ho,_⟩:=b.sl v D;obtain⟨E,c,rfl⟩:=ho.form;exact⟨n+i,EF.length,E,c,rfl,hk,O,rfl,RdR.of ho⟩
end
theorem IxP.range {w w':World}{base X:Nat}{R:List S2}{k W sc:Nat}(h:IxP w base X R k W sc)(a:∀g,base≤g→g<w.heap.size→w'.heap[g]?=w.heap[g]?):IxP w' base X R k W sc:=by
 obtain⟨n,o,V,h1,f,b,i,j⟩:=h;obtain⟨D,l,r⟩:=b.map;exact⟨n,o,V,(a _ i (lt_of_block h1)).trans h1,f.other (fun g c d=>a g (f.lt c).1 d),⟨⟨D,ownsMap_at l (a _ j l.lt),r⟩,fun x m=>(b.own x m).other (fun g c d=>a g ((b.own x m).lt c).1 d),b.apart⟩,i,j⟩
theorem RxP.range {w w':World}{base Y:Nat}{R:List S2}{k W sc:Nat}(h:RxP w base Y R k W sc)(a:∀g,base≤g→g<w.heap.size→w'.heap[g]?=w.heap[g]?):RxP w' base Y R k W sc:=by
 obtain⟨j,l,h1,d,f,i⟩:=h;exact⟨j,l,(a _ i (lt_of_block h1)).trans h1,d.other (fun g b c=>a g (d.lt b).1 c),f.other (fun g b c=>a g (f.lt b).1 c),i⟩
end
def M1 (G:Int×Bool→List (Int×Int))(t:Int)(a:Cd):Prop:=G (sd a)≠[]∧tw (sd a)<t
structure J9 (G:Int×Bool→List (Int×Int))(k:Int)(t:Int)(a0:Cd)(oth:Int):Prop where
 mem:M1 G t a0
 fst:∀b,M1 G t b→b=a0∨ltC (fun q=>D0 (G q) k) a0 b
 up:∀b,M1 G t b→b≠a0→D0 (G (sd b)) k≤oth
 at':(oth=0∧∀b,M1 G t b→b=a0)∨∃b,M1 G t b∧b≠a0∧D0 (G (sd b)) k=oth
section
variable {G:Int×Bool→List (Int×Int)} {k t:Int} {a a0:Cd} {oth:Int}
theorem I2 (d:tw (sd a)=t){b:Cd}(c:M1 G (t+1) b):b=a∨M1 G t b:=by
 by_cases h:tw (sd b)=t
 ·left;exact A4k b a (h.trans d.symm)
 ·right;exact⟨c.1,by have:=c.2;omega⟩
theorem A4u (d:tw (sd a)=t){b:Cd}(c:M1 G t b):b≠a:=fun e=>by have:=c.2;rw[e]at this;omega
theorem A0H {b:Cd}(a:M1 G t b):M1 G (t+1) b:=⟨a.1,by have:=a.2;omega⟩
theorem A70 (d:tw (sd a)=t)(he:G (sd a)=[])(h:∀b,¬M1 G t b):∀b,¬M1 G (t+1) b:=fun b c=>by
 rcases I2 d c with rfl|c
 ·exact c.1 he
 ·exact h b c
theorem A6s (d:tw (sd a)=t)(he:G (sd a)≠[])(h:∀b,¬M1 G t b):J9 G k (t+1) a 0:=by
 have all:∀b,M1 G (t+1) b→b=a:=fun b c=>by
  rcases I2 d c with e|c
  ·exact e
  ·exact absurd c (h b)
 exact⟨⟨he,O⟩,fun b c=>Or.inl (all b c),fun b c f=>absurd (all b c) f,Or.inl ⟨rfl,all⟩⟩
theorem J9.skip (f:tw (sd a)=t)(he:G (sd a)=[])(h:J9 G k t a0 oth):J9 G k (t+1) a0 oth:=by
 have all:∀b,M1 G (t+1) b→M1 G t b:=fun b c=>by
  rcases I2 f c with rfl|c
  ·exact absurd he c.1
  ·exact c
 refine⟨A0H h.mem,fun b c=>h.fst b (all b c),fun b c=>h.up b (all b c),?_⟩;rcases h.at' with⟨h1,d⟩|⟨b,h1,d⟩
 ·exact Or.inl ⟨h1,fun b c=>d b (all b c)⟩
 ·exact Or.inr ⟨b,A0H h1,d⟩
theorem J9.better (d:tw (sd a)=t)(he:G (sd a)≠[])(h:J9 G k t a0 oth)(g:D0 (G (sd a0)) k<D0 (G (sd a)) k):J9 G k (t+1) a (D0 (G (sd a0)) k):=by
 have hle:∀b,M1 G t b→D0 (G (sd b)) k≤D0 (G (sd a0)) k:=fun b c=>by
  rcases h.fst b c with e|h1
  ·rw[e];exact Int.le_refl _
  ·unfold ltC at h1;dsimp only at h1;omega
 refine⟨⟨he,O⟩,fun b c=>?_,fun b c f=>?_,Or.inr ⟨a0,A0H h.mem,A4u d h.mem,rfl⟩⟩
 ·rcases I2 d c with e|c
  ·exact Or.inl e
  ·right;have:=hle b c;unfold ltC;dsimp only;omega
 ·rcases I2 d c with e|c
  ·exact absurd e f
  ·exact hle b c
theorem J9.second (d:tw (sd a)=t)(he:G (sd a)≠[])(h:J9 G k t a0 oth)(g:D0 (G (sd a)) k≤D0 (G (sd a0)) k)(ho:oth<D0 (G (sd a)) k):J9 G k (t+1) a0 (D0 (G (sd a)) k):=by
 have i:=h.mem.2;refine⟨A0H h.mem,fun b c=>?_,fun b c f=>?_,Or.inr ⟨a,⟨he,O⟩,fun e=>A4u d h.mem e.symm,rfl⟩⟩
 ·rcases I2 d c with e|c
  ·right;rw[e];unfold ltC;dsimp only;omega
  ·exact h.fst b c
 ·rcases I2 d c with e|c
  ·rw[e];exact Int.le_refl _
  ·have:=h.up b c f;omega
theorem J9.less (d:tw (sd a)=t)(he:G (sd a)≠[])(h:J9 G k t a0 oth)(i:D0 (G (sd a)) k≤D0 (G (sd a0)) k)(ho:D0 (G (sd a)) k≤oth):J9 G k (t+1) a0 oth:=by
 have j:=h.mem.2;refine⟨A0H h.mem,fun b c=>?_,fun b c g=>?_,?_⟩
 ·rcases I2 d c with e|c
  ·right;rw[e];unfold ltC;dsimp only;omega
  ·exact h.fst b c
 ·rcases I2 d c with e|c
  ·rw[e];exact ho
  ·exact h.up b c g
 ·right;rcases h.at' with⟨h1,f⟩|⟨b,h1,f⟩
  ·exact⟨a,⟨he,O⟩,fun e=>A4u d h.mem e.symm,by have:=(Q6 (G (sd a)) k).1;omega⟩
  ·exact⟨b,A0H h1,f⟩
theorem J9.done {C:List Cd}(h:J9 G k t a0 oth)(n:∀b,G (sd b)≠[]→tw (sd b)<t)(g:IsC G k C):∃tl,C=a0::tl∧A9g G k C=oth:=by
 have hm:a0∈C:=(g.2 a0).2 h.mem.1;have hs:∀b∈C,M1 G t b:=fun b a=>⟨(g.2 b).1 a,n b ((g.2 b).1 a)⟩;cases C with
 |nil=>cases hm
 |cons c tl=>
  have i:=List.pairwise_cons.1 g.1;have e:c=a0:=by
   rcases List.mem_cons.1 hm with e|hm
   ·exact e.symm
   ·have h1:=i.1 a0 hm;rcases h.fst c (hs c (List.mem_cons_self)) with e|f
    ·exact e
    ·unfold ltC at h1 f;dsimp only at h1 f;omega
  subst e;refine⟨tl,rfl,?_⟩;cases tl with
  |nil=>
   show(0:Int)=oth;rcases h.at' with⟨h1,_⟩|⟨b,h1,f,_⟩
   ·exact h1.symm
   ·have:=(g.2 b).2 h1.1;rw[List.mem_singleton]at this;exact absurd this f
  |cons d r=>
   show D0 (G (sd d)) k=oth;have j:d≠c:=fun e=>by
    have:=i.1 d (List.mem_cons_self);rw[e]at this;unfold ltC at this;omega
   have l:=hs d (List.mem_cons_of_mem _ (List.mem_cons_self));have h1:=h.up d l j;rcases h.at' with⟨_,f⟩|⟨b,f,o,m⟩
   ·exact absurd (f d l) j
   ·have a:=(g.2 b).2 f.1;rcases List.mem_cons.1 a with e|a
    ·exact absurd e o
    ·rcases List.mem_cons.1 a with e|a
     ·rw[e]at m;exact m
     ·have:=(List.pairwise_cons.1 i.2).1 b a;unfold ltC at this;dsimp only at this;omega
theorem A8G {C:List Cd}(h:∀b,¬M1 G t b)(a:∀b,G (sd b)≠[]→tw (sd b)<t)(d:IsC G k C):C=[]:=by
 cases C with
 |nil=>rfl
 |cons c tl=>
  have:=(d.2 c).1 (List.mem_cons_self);exact absurd ⟨this,a c this⟩ (h c)
end
def M6 (R:List S2)(k W sc:Nat)(rn rb:ByteArray)(res:Option FD):Prop:=
 (300<rb.size∧res=none)∨(rb.size≤300∧400<(R3 k W R rb).1∧res=none)∨(rb.size≤300∧(R3 k W R rb).1≤400∧∀C,IsC (R3 k W R rb).2 k C→res=A3k R k sc rn rb (R3 k W R rb).2 C)
theorem A8B {R:List S2}{k W sc:Nat}{rn rb:ByteArray}{a b:Option FD}(h:A5W R k W sc rn rb a)(c:M6 R k W sc rn rb b):a=b:=by
 rcases h with⟨h1,rfl⟩|⟨h1,d,rfl⟩|⟨h1,d,C,f,rfl⟩<;>rcases c with⟨k1,rfl⟩|⟨k1,k2,rfl⟩|⟨k1,k2,g⟩<;>first|rfl|omega|exact(g C f).symm
section
open Go.RowKit Go.Shelf Go.Lib
attribute [local go_sem] C4
def K7:Nat→Code→Option Code
 |0,c=>some c
 |n+1,.seq _ b=>K7 n b
 |n+1,.scope c=>K7 (n+1) c
 |_+1,_=>none
theorem rt3 (Y k W sc i d or F g sn:Nat)(S:Value)(rn rb fn l f:ByteArray)(f1 f2 f5 f6:Int)(bk:Bool)(sq oq:Int)(a w:World)
 (G:a.heap[Y]?=some (.cells (ixC k W sc (.slice (some ⟨d,or,none⟩) g F) S) 93 (0,0)))(T:a.cell? ⟨d,or+i*2,none⟩=some (.string fn))(aj:d<a.heap.size)(ax:i<g)(ay:g<100000)
 (V:Below a.heap.size a w)(X:w.heap[a.heap.size]?=some (.cells #[.string rn,.string rb] 88 (0,0)))(h1:w.heap[a.heap.size+1]?=some (.cells #[.string ⟨#[]⟩,I J 0,I J 0,.bool false,.string ⟨#[]⟩,I J 0,I J 0,.float .f64 0,.float .f64 0,I J 0,.string ⟨#[]⟩,I J 0,.float .f64 0] 71 (0,0)))
 (h:w.heap[a.heap.size+2]?=some (.cells #[.string ⟨#[]⟩,I J f1,I J f2,.bool bk,.string ⟨#[]⟩,I J f5,I J f6,.float .f64 (fq sq),.float .f64 (fq oq),I J 0,.string f,I J sn,.float .f64 0] 71 (0,0)))(az:a.heap.size+3≤w.heap.size)
 (ak:sn≤l.size)(al:0<l.size)(aA:l.size≤900)(aa:0≤oq)(ab:oq≤sq)(ac:0<sq)(ad:sq≤100000)
 (fa:Act)(am:Fr 273 [(0,.pointer (some ⟨Y,0,none⟩)),(3,.pointer (some ⟨a.heap.size,0,none⟩)),(4,.pointer (some ⟨a.heap.size+1,0,none⟩)),(6,.pointer (some ⟨a.heap.size+2,0,none⟩)),(13,I J i),(23,.string l),(24,I J sn)] fa)(Q:Ending→World→Prop)
 (H:∀w',Below a.heap.size a w'→Q (.returned (.tuple #[.agg #[.string rn,I J f1,I J f2,.bool bk,.string fn,I J f5,I J f6,.float .f64 (fq sq),.float .f64 (fq oq),I J (Y1 sq oq),.string f,I J sn,.float .f64 (shr sn l.size)],.bool true])) w')(B:Code)(hB:Tryz.f71.body.bind (K7 24)=some B) :
 Code.wp Tryz.prog B (bodyPost Tryz.prog Tryz.f71 Q) fa w:=by
 have s:=hB;conv at s=>lhs;whnf
 injection s with s;subst s;clear hB;obtain⟨f0,rfl,K⟩:=am;simp only[Hs]at K;simp only[fr,Y7,Nat.reduceAdd,K];clear K;obtain⟨A,B1,u,m,hA,L,M,ae,aB,hle,af⟩:=A8X sq oq aa ab ac ad;rw[fq4]at L;rw[B1S]at M;have q1:∀W t,(binOp .quo t (.float .f64 (fq oq)) (.float .f64 (fq sq))).run Tryz.prog W=.ok (.float .f64 A) W:=fun W t=>run_float_arith W .quo t .f64 _ _ _ hA;have q2:∀W t,(binOp .sub t (.float .f64 4607182418800017408) (.float .f64 A)).run Tryz.prog W=.ok (.float .f64 B1) W:=fun W t=>run_float_arith W .sub t .f64 _ _ _ L;have q3:∀W t,(binOp .mul t (.float .f64 B1) (.float .f64 4633641066610819072)).run Tryz.prog W=.ok (.float .f64 u) W:=fun W t=>run_float_arith W .mul t .f64 _ _ _ M;have aC:(1048576:Nat)≤2^50:=Z;have an:∀x t,(binOp .quo t (.float .f64 (fq (4*(sn:Int)))) (.float .f64 (fq (4*(l.size:Int))))).run Tryz.prog x=.ok (.float .f64 (shr sn l.size)) x:=fun x t=>run_float_arith x .quo t .f64 _ _ _ (A0S sn l.size ak al O).1;have fs:floatOfInt .f64 (sn:Int)=fq (4*(sn:Int)):=I8 sn O;have fl:floatOfInt .f64 (l.size:Int)=fq (4*(l.size:Int)):=I8 l.size O;have ao:Hd (∀n:Nat,n<m→FloatKind.f64.format.order (fq (4*((n:Int)+1))) u=some .lt∨FloatKind.f64.format.order (fq (4*((n:Int)+1))) u=some .eq):=fun n hn=>hle (n+1) hn;have ap:Hd (FloatKind.f64.format.order (fq (4*((m:Int)+1))) u=some .gt):=af;rw[ae]at H;have HQ:=A4 H;have HY:Hd (a.heap[Y]?=some (.cells (ixC k W sc (.slice (some ⟨d,or,none⟩) g F) S) 93 (0,0))):=G;have aq:Hd (a.cell? ⟨d,or+i*2,none⟩=some (.string fn)):=T;have ar:=lt_of_block G;have N:Hd (Below a.heap.size a w):=V;have H0:Hd (w.heap[a.heap.size]?=some (.cells #[.string rn,.string rb] 88 (0,0))):=X;have H1:=A4 h1;have H2:=A4 h;generalize fq sq=q at *;generalize fq oq=r at *;obtain⟨y,ag⟩:=A8 (shr sn l.size);rw[←ag]at an HQ;clear H G T V X h1 hA L M hle af ae ag aa ab ac ad;have c8:=A1 h (i:=8) rfl;have c7:=A1 h (i:=7) rfl;have c9:=A1 h (i:=9) rfl;have cz:∀off,w.frozen? ⟨a.heap.size+2,off,none⟩=false:=fun off=>frozen_of_row _ _ _ _ _ h;clear h;have au:Hd (D7 w (w.setCell ⟨a.heap.size+2,9,none⟩ (I J 0)) (a.heap.size+2) (.cells #[.string ⟨#[]⟩,I J f1,I J f2,.bool bk,.string ⟨#[]⟩,I J f5,I J f6,.float .f64 q,.float .f64 r,I J ((0:Nat):Int),.string f,I J sn,.float .f64 0] 71 (0,0))):=by
  have:=D7.of_setCell (i:=9) (I J 0) H2.o;simp only[List.setIfInBounds_toArray,List.set_cons_zero,List.set_cons_succ]at this;exact this
 go_wp2_with fail;go_loopw [243] (fun v wr=>∃n:Nat,n≤m∧D7 w wr (a.heap.size+2) (.cells #[.string ⟨#[]⟩,I J f1,I J f2,.bool bk,.string ⟨#[]⟩,I J f5,I J f6,.float .f64 q,.float .f64 r,I J n,.string f,I J sn,.float .f64 0] 71 (0,0))) (fun _ wr=>m-(RowKit.intOf ((wr.cell? ⟨a.heap.size+2,9,none⟩).getD undef)).toNat);case atStart=>exact⟨0,Nat.zero_le _,au.o⟩
 case round=>
  obtain⟨n,hn,z⟩:=hrel;have p:=A4 z;have c9:=A1 z.here (i:=9) rfl;have cz:∀off,wr.frozen? ⟨a.heap.size+2,off,none⟩=false:=fun off=>frozen_of_row _ _ _ _ _ z.here;have hw:IntKind.i64.wrap ((n:Int)+1)=(n:Int)+1:=Zw;have aD:floatOfInt .f64 ((n:Int)+1)=fq (4*((n:Int)+1)):=I8 _ O;clear z;by_cases av:n<m
  ·have C:=ao.o n av;have D:Hd (D7 w (wr.setCell ⟨a.heap.size+2,9,none⟩ (I J ((n:Int)+1))) (a.heap.size+2) (.cells #[.string ⟨#[]⟩,I J f1,I J f2,.bool bk,.string ⟨#[]⟩,I J f5,I J f6,.float .f64 q,.float .f64 r,I J ((n+1:Nat):Int),.string f,I J sn,.float .f64 0] 71 (0,0))):=by
    have:=p.o.setCell (i:=9) (I J ((n:Int)+1));simp only[List.setIfInBounds_toArray,List.set_cons_zero,List.set_cons_succ]at this;exact this
   generalize fq (4*((n:Int)+1))=fN at *;rcases C with C|C
   ·go_wp2_with fail;go_roundw;case rel=>exact⟨n+1,O,D.o⟩
    case measure=>
     have e1:=A1 D.o.here (i:=9) rfl;rw[c9,e1];simp[RowKit.intOf];omega
   ·go_wp2_with fail;go_roundw;case rel=>exact⟨n+1,O,D.o⟩
    case measure=>
     have e1:=A1 D.o.here (i:=9) rfl;rw[c9,e1];simp[RowKit.intOf];omega
  ·have aw:n=m:=O;subst aw;have C:=ap.o;generalize fq (4*((n:Int)+1))=fN at *;have E:∀j,j≠a.heap.size+2→wr.heap[j]?=w.heap[j]?:=p.o.other;have d0:wr.cell? ⟨a.heap.size,0,none⟩=some (.string rn):=A1 ((E _ O).trans H0.o) rfl;have d3:wr.cell? ⟨Y,3,none⟩=some (.slice (some ⟨d,or,none⟩) g F):=A1 ((E _ O).trans ((N.o.block Y ar).trans HY.o)) rfl;have ah:wr.heap[d]?=a.heap[d]?:=(E d O).trans (N.o.block d aj);have d4:wr.cell? ⟨d,or+i*2,none⟩=some (.string fn):=(World.cell?_of_block ah).trans aq.o;have f12:=A1 p.o.here (i:=12) rfl;have f0:=A1 p.o.here (i:=0) rfl;have f4:=A1 p.o.here (i:=4) rfl;have aE:(i:Int)<(g:Int):=O;go_upto_region 61 with fail;obtain⟨wX,P⟩:=A8 (((wr.setCell ⟨a.heap.size+2,12,none⟩ (.float .f64 y)).setCell ⟨a.heap.size+2,0,none⟩ (.string rn)).setCell ⟨a.heap.size+2,4,none⟩ (.string fn));have R:D7 w wX (a.heap.size+2) (.cells #[.string rn,I J f1,I J f2,.bool bk,.string fn,I J f5,I J f6,.float .f64 q,.float .f64 r,I J n,.string f,I J sn,.float .f64 y] 71 (0,0)):=by
    have:=((p.o.setCell (i:=12) (.float .f64 y)).setCell (i:=0) (.string rn)).setCell (i:=4) (.string fn);simp only[List.setIfInBounds_toArray,List.set_cons_zero,List.set_cons_succ]at this;rw[P];exact this
   rw[←P];clear P c9 cz f12 f0 f4 d0 d3 d4 ah E;have c:=R.here;have v0:=A1 c (i:=0) rfl;have v1:=A1 c (i:=1) rfl;have v2:=A1 c (i:=2) rfl;have v3:=A1 c (i:=3) rfl;have v4:=A1 c (i:=4) rfl;have v5:=A1 c (i:=5) rfl;have v6:=A1 c (i:=6) rfl;have v7:=A1 c (i:=7) rfl;have v8:=A1 c (i:=8) rfl;have v9:=A1 c (i:=9) rfl;have v10:=A1 c (i:=10) rfl;have v11:=A1 c (i:=11) rfl;have v12:=A1 c (i:=12) rfl;have b:=(R.other (a.heap.size+1) O).trans H1.o;have z0:=A1 b (i:=0) rfl;have z1:=A1 b (i:=1) rfl;have z2:=A1 b (i:=2) rfl;have z3:=A1 b (i:=3) rfl;have z4:=A1 b (i:=4) rfl;have z5:=A1 b (i:=5) rfl;have z6:=A1 b (i:=6) rfl;have z7:=A1 b (i:=7) rfl;have z8:=A1 b (i:=8) rfl;have z9:=A1 b (i:=9) rfl;have aF:=A1 b (i:=10) rfl;have aG:=A1 b (i:=11) rfl;have z12:=A1 b (i:=12) rfl;have zz:∀off,wX.frozen? ⟨a.heap.size+1,off,none⟩=false:=fun off=>frozen_of_row _ _ _ _ _ b;go_wp2_with fail;have ai:=R7 (.string rn) (I J f1) (I J f2) (.bool bk) (.string fn) (I J f5) (I J f6) (.float .f64 q) (.float .f64 r) (I J n) (.string f) (I J sn) (.float .f64 y) b;refine bodyPost_ret (C2 rfl _ _ (a.heap.size+1) 71 _ _ _ rfl ai.here Tryz.underlying71 rfl U) rfl ?_;exact HQ.o _ (N.o.trans ((R.below O).trans (ai.below O)))
def A0m:Nat→Code→Code→Option Code
 |0,C,_=>some C
 |n+1,C,.seq a b=>match A0m n C b with
  |some d=>some (.seq a d)
  |none=>none
 |n+1,C,.scope c=>A0m (n+1) C c
 |_+1,_,_=>none
def LtF (a b:ByteArray):Prop:=scE a.data.toList b.data.toList=0∧∃l:ByteArray,l.size=X4 a.data.toList b.data.toList∧(∀W,Calls Tryz.prog 96 #[.string a,.string b] W fun e w'=>e=.returned (.tuple #[.string l,I J (scN a.data.toList b.data.toList:Nat)])∧Below W.heap.size W w')∧(∀W,Calls Tryz.prog 97 #[.string l] W fun e w'=>e=.returned (.string ⟨(scT a.data.toList b.data.toList).toArray⟩)∧Below W.heap.size W w')
theorem rt1 (p:Bool)(Y k W sc i g o cp m h n c f t or cr G:Nat)(lv:Value)(rn rb fn q:ByteArray)(sq oq:Int)(b w:World)
 (hY:b.heap[Y]?=some (.cells (ixC k W sc (.slice (some ⟨t,or,none⟩) G cr) lv) 93 (0,0)))(aD:b.cell? ⟨t,or+i*2,none⟩=some (.string fn))(aE:b.cell? ⟨t,or+i*2+1,none⟩=some (.string q))(aF:t<b.heap.size)(ba:i<G)(bc:G<100000)
 (hb:Below b.heap.size b w)(h0:w.heap[b.heap.size]?=some (.cells #[.string rn,.string rb] 88 (0,0)))(h1:w.heap[b.heap.size+1]?=some (.cells #[.string ⟨#[]⟩,I J 0,I J 0,.bool false,.string ⟨#[]⟩,I J 0,I J 0,.float .f64 0,.float .f64 0,I J 0,.string ⟨#[]⟩,I J 0,.float .f64 0] 71 (0,0)))
 (h2:w.heap[b.heap.size+2]?=some (.cells #[.string ⟨#[]⟩,I J 0,I J 0,.bool p,.string ⟨#[]⟩,I J 0,I J 0,.float .f64 (fq sq),.float .f64 (fq oq),I J 0,.string ⟨#[]⟩,I J 0,.float .f64 0] 71 (0,0)))(bd:b.heap.size+3≤w.heap.size)
 (be:g≠b.heap.size+1)(bf:g≠b.heap.size+2)(bD:0<m)(bE:m≤400)
 (aG:w.cell? ⟨g,o,none⟩=some (I J h)∧w.cell? ⟨g,o+1,none⟩=some (I J n))(aH:w.cell? ⟨g,o+(m-1)*2,none⟩=some (I J c)∧w.cell? ⟨g,o+(m-1)*2+1,none⟩=some (I J f))
 (hk:k≤12)(bF:h<c+k)(bG:c+k≤rb.size)(bH:n≤f+k)(bI:f+k≤q.size)(bJ:rb.size≤300)(bK:q.size≤100000)(aI:good rb)(hL:(q.extract n (f+k)).size≤600→LtF ((M7 p rb).extract h (c+k)) (q.extract n (f+k)))
 (aJ:0≤oq)(aK:oq≤sq)(aL:0<sq)(aM:sq≤100000)
 (fa:Act)(bg:Fr 273 [(0,.pointer (some ⟨Y,0,none⟩)),(3,.pointer (some ⟨b.heap.size,0,none⟩)),(4,.pointer (some ⟨b.heap.size+1,0,none⟩)),(6,.pointer (some ⟨b.heap.size+2,0,none⟩)),(7,I J rb.size),(11,.bool true),(12,.slice (some ⟨g,o,none⟩) m cp),(13,I J i)] fa)(Q:Ending→World→Prop)
 (hQ:∀res w',res=(if FloatKind.f64.format.order (fq sq) sc=some .lt then none else if fnE k rb q p h n c f=0 then some (A2t k rn rb fn q p h n c f sq oq) else none)→Below b.heap.size b w'→Q (.returned (.tuple (A0w res))) w')
 (C:Code)(hC:Tryz.f71.body.bind (K7 24)=some C)(B:Code)(hB:(Tryz.f71.body.bind (K7 10)).bind (A0m 14 C)=some B) :
 Code.wp Tryz.prog B (bodyPost Tryz.prog Tryz.f71 Q) fa w:=by
 have z:=hB;conv at z=>lhs;whnf
 injection z with z;subst z;clear hB;obtain⟨f0,rfl,al⟩:=bg;simp only[Hs]at al;simp only[fr,Y7,Nat.reduceAdd,al];clear al;have bh:=lt_of_block hY;have HY:=A4 hY;have am:Hd (b.cell? ⟨t,or+i*2,none⟩=some (.string fn)∧b.cell? ⟨t,or+i*2+1,none⟩=some (.string q)):=⟨aD,aE⟩;have HQ:=A4 hQ;have bi:=A4 aI;have HL:=A4 hL;have ac:Hd ((0≤oq∧oq≤sq)∧0<sq∧sq≤100000):=⟨⟨aJ,aK⟩,aL,aM⟩;have bj:=A4 hC;have aN:=A4 aG;have aO:=A4 aH;obtain⟨u,ad⟩:=A8 (fq sq);obtain⟨H,an⟩:=A8 (fq oq);rw[←ad]at HQ;rw[←ad,←an]at h2;have bk:Hd (u=fq sq∧H=fq oq):=⟨ad,an⟩;clear ad an hQ hY aD aE aI hL aJ aK aL aM hC aG aH;have keep:∀d:World,(∀j,j≠b.heap.size+1→j≠b.heap.size+2→d.heap[j]?=w.heap[j]?)→d.cell? ⟨g,o,none⟩=some (I J h)∧d.cell? ⟨g,o+1,none⟩=some (I J n)∧d.cell? ⟨g,o+(m-1)*2,none⟩=some (I J c)∧d.cell? ⟨g,o+(m-1)*2+1,none⟩=some (I J f)∧d.cell? ⟨Y,0,none⟩=some (I J k)∧d.cell? ⟨Y,2,none⟩=some (.float .f64 sc)∧d.cell? ⟨Y,3,none⟩=some (.slice (some ⟨t,or,none⟩) G cr)∧d.cell? ⟨t,or+i*2,none⟩=some (.string fn)∧d.cell? ⟨t,or+i*2+1,none⟩=some (.string q)∧d.cell? ⟨b.heap.size,1,none⟩=some (.string rb):=by
  intro d hW;have eg:=hW g be bf;have eY:=(hW Y O O).trans ((hb.block Y bh).trans HY.o);have er:=(hW t O O).trans (hb.block t aF);have e0:=(hW b.heap.size O O).trans h0;exact⟨(World.cell?_of_block eg).trans aN.o.1,(World.cell?_of_block eg).trans aN.o.2,(World.cell?_of_block eg).trans aO.o.1,(World.cell?_of_block eg).trans aO.o.2,A1 eY rfl,A1 eY rfl,A1 eY rfl,(World.cell?_of_block er).trans am.o.1,(World.cell?_of_block er).trans am.o.2,A1 e0 rfl⟩
 have V:=A4 keep;have N:=keep w (fun _ _ _=>rfl);clear keep;go_wp2_with fail;rename_i K1 ae;have c7:=A1 h2 (i:=7) rfl;by_cases X:FloatKind.f64.format.order u sc=some .lt
 ·have hO:(FloatKind.f64.format.order u sc==some Ordering.lt)=true:=by rw[X];rfl
  refine A5 12 (fun d=>d.cell? ⟨b.heap.size+2,7,none⟩=some (.float .f64 u)∧d.cell? ⟨Y,2,none⟩=some (.float .f64 sc)) U ⟨c7,N.2.2.2.2.2.1⟩ (fun hH=>?_);refine A2 0 ?_;refine A2 1 ?_;refine A2 2 ?_;refine A2 3 ?_;refine A2 4 ?_;refine A2 5 ?_;refine A2 6 ?_;refine A2 7 ?_;refine A2 8 ?_;refine A2 9 ?_;refine A2 10 ?_;refine A2 11 ?_;refine J5 ?_;refine ae _ _ ?_;clear ae hH;have z0:=A1 h1 (i:=0) rfl;have z1:=A1 h1 (i:=1) rfl;have z2:=A1 h1 (i:=2) rfl;have z3:=A1 h1 (i:=3) rfl;have z4:=A1 h1 (i:=4) rfl;have z5:=A1 h1 (i:=5) rfl;have z6:=A1 h1 (i:=6) rfl;have z7:=A1 h1 (i:=7) rfl;have z8:=A1 h1 (i:=8) rfl;have z9:=A1 h1 (i:=9) rfl;have bl:=A1 h1 (i:=10) rfl;have bm:=A1 h1 (i:=11) rfl;have z12:=A1 h1 (i:=12) rfl;have zz:∀off,w.frozen? ⟨b.heap.size+1,off,none⟩=false:=fun off=>frozen_of_row _ _ _ _ _ h1;go_wp2_with fail;have aa:=(R7 (.string ⟨#[]⟩) (I J 0) (I J 0) (.bool false) (.string ⟨#[]⟩) (I J 0) (I J 0) (.float .f64 0) (.float .f64 0) (I J 0) (.string ⟨#[]⟩) (I J 0) (.float .f64 0) h1).drew;refine bodyPost_ret (C2 rfl _ _ (b.heap.size+1) 71 _ _ _ rfl aa.here Tryz.underlying71 rfl U) rfl ?_;exact HQ.o none _ (by rw[if_pos X]) (hb.trans (aa.below O))
 ·have hO:(FloatKind.f64.format.order u sc==some Ordering.lt)=false:=by rw[beq_eq_false_iff_ne];exact X
  have aP:=A4 X;refine A5 12 (fun d=>d.cell? ⟨b.heap.size+2,7,none⟩=some (.float .f64 u)∧d.cell? ⟨Y,2,none⟩=some (.float .f64 sc)) U ⟨c7,N.2.2.2.2.2.1⟩ (fun hH=>?_);refine A2 0 ?_;refine A2 1 ?_;refine A2 2 ?_;refine A2 3 ?_;refine A2 4 ?_;refine A2 5 ?_;refine A2 6 ?_;refine A2 7 ?_;refine A2 8 ?_;refine A2 9 ?_;refine A2 10 ?_;refine A2 11 ?_;refine J5 ?_;refine ae _ _ ?_;clear ae hH N c7 X;have ao:w.drew.heap[b.heap.size+2]?=_:=h2;have N:=V.o w.drew (fun _ _ _=>rfl);have c1:=A1 ao (i:=1) rfl;have A:∀off,w.drew.frozen? ⟨b.heap.size+2,off,none⟩=false:=fun off=>frozen_of_row _ _ _ _ _ ao;have bL:(0:Int)<(m:Int):=O;have bn:=N.1;go_upto_region 35 with fail;rename_i K2 aQ;have bM:IntKind.i64.wrap ((m:Int)-1)=((m-1:Nat):Int):=Zw;have bN:((m-1:Nat):Int)<(m:Int):=O;have bO:IntKind.i64.wrap ((c:Int)+k)=(c:Int)+k:=Zw;have bP:IntKind.i64.wrap ((f:Int)+k)=(f:Int)+k:=Zw;obtain⟨wB,ap⟩:=A8 ((w.setCell ⟨b.heap.size+2,1,none⟩ (I J h)).drew);have UB:D7 w wB (b.heap.size+2) (.cells #[.string ⟨#[]⟩,I J h,I J 0,.bool p,.string ⟨#[]⟩,I J 0,I J 0,.float .f64 u,.float .f64 H,I J 0,.string ⟨#[]⟩,I J 0,.float .f64 0] 71 (0,0)):=by
   have:=(D7.of_setCell (i:=1) (I J (h:Int)) h2).drew;simp only[List.setIfInBounds_toArray,List.set_cons_zero,List.set_cons_succ]at this;rw[ap];exact this
  rw[←ap];clear ap c1 A bn N ao;have kB:=V.o wB (fun j _ x=>UB.other j x);have z:=UB.here;have c2:=A1 z (i:=2) rfl;have A:∀off,wB.frozen? ⟨b.heap.size+2,off,none⟩=false:=fun off=>frozen_of_row _ _ _ _ _ z;refine A5 14 (fun d=>d.cell? ⟨g,o+(m-1)*2,none⟩=some (I J c)∧d.cell? ⟨Y,0,none⟩=some (I J k)) U ⟨kB.2.2.1,kB.2.2.2.2.1⟩ (fun hH=>?_);refine A2 0 ?_;refine A2 1 ?_;refine A2 2 ?_;refine A2 3 ?_;refine A2 4 ?_;refine A2 5 ?_;refine A2 6 ?_;refine A2 7 ?_;refine A2 8 ?_;refine A2 9 ?_;refine A2 10 ?_;refine A2 11 ?_;refine A2 12 ?_;refine A2 13 ?_;refine B6 (i:=14) U rfl U U (fun K hK=>?_);go_simp;refine hK.out _ _ ?_;clear hK K hH;refine aQ _ _ ?_;clear aQ;obtain⟨wC,aq⟩:=A8 ((wB.setCell ⟨b.heap.size+2,2,none⟩ (I J ((c:Int)+k))).drew);have af:D7 w wC (b.heap.size+2) (.cells #[.string ⟨#[]⟩,I J h,I J ((c:Int)+k),.bool p,.string ⟨#[]⟩,I J 0,I J 0,.float .f64 u,.float .f64 H,I J 0,.string ⟨#[]⟩,I J 0,.float .f64 0] 71 (0,0)):=by
   have:=(UB.setCell (i:=2) (I J ((c:Int)+k))).drew;simp only[List.setIfInBounds_toArray,List.set_cons_zero,List.set_cons_succ]at this;rw[aq];exact this
  rw[←aq];clear aq c2 A kB z;have kC:=V.o wC (fun j _ x=>af.other j x);have ar:=af.here;have c5:=A1 ar (i:=5) rfl;have A:∀off,wC.frozen? ⟨b.heap.size+2,off,none⟩=false:=fun off=>frozen_of_row _ _ _ _ _ ar;have bo:=kC.2.1;go_upto_region 37 with fail;rename_i K3 aR;obtain⟨wD,au⟩:=A8 (wC.setCell ⟨b.heap.size+2,5,none⟩ (I J n));have ag:D7 w wD (b.heap.size+2) (.cells #[.string ⟨#[]⟩,I J h,I J ((c:Int)+k),.bool p,.string ⟨#[]⟩,I J n,I J 0,.float .f64 u,.float .f64 H,I J 0,.string ⟨#[]⟩,I J 0,.float .f64 0] 71 (0,0)):=by
   have:=af.setCell (i:=5) (I J (n:Int));simp only[List.setIfInBounds_toArray,List.set_cons_zero,List.set_cons_succ]at this;rw[au];exact this
  rw[←au];clear au c5 A kC bo ar af UB;have kD:=V.o wD (fun j _ x=>ag.other j x);have av:=ag.here;have c6:=A1 av (i:=6) rfl;have A:∀off,wD.frozen? ⟨b.heap.size+2,off,none⟩=false:=fun off=>frozen_of_row _ _ _ _ _ av;refine A5 14 (fun d=>d.cell? ⟨g,o+(m-1)*2+1,none⟩=some (I J f)∧d.cell? ⟨Y,0,none⟩=some (I J k)) U ⟨kD.2.2.2.1,kD.2.2.2.2.1⟩ (fun hH=>?_);refine A2 0 ?_;refine A2 1 ?_;refine A2 2 ?_;refine A2 3 ?_;refine A2 4 ?_;refine A2 5 ?_;refine A2 6 ?_;refine A2 7 ?_;refine A2 8 ?_;refine A2 9 ?_;refine A2 10 ?_;refine A2 11 ?_;refine A2 12 ?_;refine A2 13 ?_;refine B6 (i:=14) U rfl U U (fun K hK=>?_);go_simp;refine hK.out _ _ ?_;clear hK K hH;refine aR _ _ ?_;clear aR;obtain⟨v,aw⟩:=A8 ((wD.setCell ⟨b.heap.size+2,6,none⟩ (I J ((f:Int)+k))).drew);have P:D7 w v (b.heap.size+2) (.cells #[.string ⟨#[]⟩,I J h,I J ((c:Int)+k),.bool p,.string ⟨#[]⟩,I J n,I J ((f:Int)+k),.float .f64 u,.float .f64 H,I J 0,.string ⟨#[]⟩,I J 0,.float .f64 0] 71 (0,0)):=by
   have:=(ag.setCell (i:=6) (I J ((f:Int)+k))).drew;simp only[List.setIfInBounds_toArray,List.set_cons_zero,List.set_cons_succ]at this;rw[aw];exact this
  rw[←aw];clear aw c6 A kD av ag;have kE:=V.o v (fun j _ x=>P.other j x);have R:=P.here;have c1:=A1 R (i:=1) rfl;have c2:=A1 R (i:=2) rfl;have c3:=A1 R (i:=3) rfl;have c5:=A1 R (i:=5) rfl;have c6:=A1 R (i:=6) rfl;have bp:=kE.2.2.2.2.2.2.2.2.2;have aS:=A4 kE;clear kE;rcases Bool.eq_false_or_eq_true p with y|y;focus
   go_wp2_with fail;refine(A2l rb v O).mono ?_;rintro e wT ⟨⟨_,rfl⟩|⟨bq,_⟩,aT⟩;rotate_left
   ·exact absurd bi.o bq
   rw[aT];clear aT;go_upto_region 41 with fail;obtain⟨bs,ax⟩:=A8 (⟨(F9 rb.data.toList).toArray⟩:ByteArray);have ay:M7 p rb=bs:=by rw[y,ax];rfl
   have br:bs.size=rb.size:=by rw[←ay];exact N0 _ _
   rw[←ax];have i1:(h:Int)≤(c:Int)+k:=O;have i2:(c:Int)+k≤bs.size:=O;have i7:(0:Int)≤(c:Int)+k:=O;have t1:((c:Int)+k).toNat=c+k:=O;clear ax;go_wp2_with fail;obtain⟨a,L⟩:=A8 (bs.extract h (c+k):ByteArray);rw[←L];have S:Hd ((M7 p rb).extract h (c+k)=a):=by rw[ay];exact L.symm
   clear L ay br i1 i2 i7 t1
  rotate_left;focus
   go_wp2_with fail;obtain⟨a,L⟩:=A8 (rb.extract h (c+k):ByteArray);rw[←L];have S:Hd ((M7 p rb).extract h (c+k)=a):=by rw[y];exact L.symm
   clear L
  all_goals
   have aU:=S.o;rw[aU]at HL;have bt:=A4 y;clear aU y;rename_i K4 aV;obtain⟨s,ah⟩:=A8 (q.extract n (f+k):ByteArray);have bQ:(i:Int)<(G:Int):=O;have i3:(n:Int)≤(f:Int)+k:=O;have i4:(f:Int)+k≤q.size:=O;have i8:(0:Int)≤(f:Int)+k:=O;have t2:((f:Int)+k).toNat=f+k:=O;refine A5 14 (fun d=>d.cell? ⟨Y,3,none⟩=some (.slice (some ⟨t,or,none⟩) G cr)∧d.cell? ⟨t,or+i*2+1,none⟩=some (.string q)∧d.cell? ⟨b.heap.size+2,5,none⟩=some (I J n)∧d.cell? ⟨b.heap.size+2,6,none⟩=some (I J ((f:Int)+k))) U ⟨aS.o.2.2.2.2.2.2.1,aS.o.2.2.2.2.2.2.2.2.1,c5,c6⟩ (fun hH=>?_);refine A2 0 ?_;refine A2 1 ?_;refine A2 2 ?_;refine A2 3 ?_;refine A2 4 ?_;refine A2 5 ?_;refine A2 6 ?_;refine A2 7 ?_;refine A2 8 ?_;refine A2 9 ?_;refine A2 10 ?_;refine A2 11 ?_;refine A2 12 ?_;refine A2 13 ?_;refine J5 ?_;refine aV _ _ ?_;clear aV hH i3 i4 i8 t2;rw[←ah];rw[←ah]at HL;have az:=A4 ah;clear ah;have r:=(P.other (b.heap.size+1) O).trans h1;have M:Below b.heap.size b v:=hb.trans (P.below O);have bR:b.heap.size+3≤v.heap.size:=by rw[P.size];exact bd
   have bu:=(P.other b.heap.size O).trans h0;have aW:Hd (fnE k rb q p h n c f=scE a.data.toList s.data.toList):=by show _=_;unfold fnE;rw[S.o,az.o]
   by_cases h6:s.size≤600
   ·have bv:¬(600:Int)<(s.size:Int):=O;obtain⟨he,l,aX,cL,cR⟩:=HL.o h6;obtain⟨sn,aA⟩:=A8 (scN a.data.toList s.data.toList);obtain⟨D,aB⟩:=A8 (⟨(scT a.data.toList s.data.toList).toArray⟩:ByteArray);rw[←aA]at cL;rw[←aB]at cR;have bw:Hd (l.size=X4 a.data.toList s.data.toList∧sn=scN a.data.toList s.data.toList∧D=⟨(scT a.data.toList s.data.toList).toArray⟩∧scE a.data.toList s.data.toList=0):=⟨aX,aA,aB,he⟩;clear aX aA aB he HL;go_wp2_with fail;refine(cL _).mono ?_;rintro e wF ⟨rfl,ai⟩;go_wp2_with fail;refine(cR _).mono ?_;rintro e E ⟨rfl,aj⟩;have aY:∀j,j<b.heap.size+3→wF.heap[j]?=v.heap[j]?:=fun j x=>ai.block j (by show j<v.heap.size;omega);have bS:b.heap.size+3≤wF.heap.size:=by have h3:=ai.size;have h4:v.drew.heap.size=v.heap.size:=rfl;omega
    have ak:∀j,j<b.heap.size+3→E.heap[j]?=v.heap[j]?:=fun j x=>(aj.block j O).trans (aY j x);have aC:Below b.heap.size b v.drew:=⟨M.os,M.tape,M.output,M.size,M.block⟩;have aZ:Below b.heap.size b E:=(aC.trans (ai.mono aC.size)).trans (aj.mono O);have bx:b.heap.size+3≤E.heap.size:=by have h3:=aj.size;omega
    have bz:=(ak b.heap.size O).trans bu;have bA:=(ak (b.heap.size+1) O).trans r;have F:=(ak (b.heap.size+2) O).trans R;have bB:=A4 aZ;clear c1 c2 c3 c5 c6 aY ak ai aj M aC aZ cL cR bp;have bT:=A1 F (i:=10) rfl;have bU:=A1 F (i:=11) rfl;have c1:=A1 F (i:=1) rfl;have c2:=A1 F (i:=2) rfl;have c3:=A1 F (i:=3) rfl;have A:∀off,E.frozen? ⟨b.heap.size+2,off,none⟩=false:=fun off=>frozen_of_row _ _ _ _ _ F;have y:=bt.o;go_wp2_with fail;first
     |(have hV:p=false:=y;obtain⟨wH,ab⟩:=A8 ((E.setCell ⟨b.heap.size+2,10,none⟩ (.string D)).setCell ⟨b.heap.size+2,11,none⟩ (I J sn));have T:D7 E wH (b.heap.size+2) (.cells #[.string ⟨#[]⟩,I J h,I J ((c:Int)+k),.bool p,.string ⟨#[]⟩,I J n,I J ((f:Int)+k),.float .f64 u,.float .f64 H,I J 0,.string D,I J sn,.float .f64 0] 71 (0,0)):=(by have:=(D7.of_setCell (i:=10) (.string D) F).setCell (i:=11) (I J (sn:Int));simp only[List.setIfInBounds_toArray,List.set_cons_zero,List.set_cons_succ]at this;rw[ab];exact this))
     |(have hV:p=true:=y;obtain⟨wH,ab⟩:=A8 ((((E.setCell ⟨b.heap.size+2,10,none⟩ (.string D)).setCell ⟨b.heap.size+2,11,none⟩ (I J sn)).setCell ⟨b.heap.size+2,2,none⟩ (I J ((rb.size:Int)-h))).setCell ⟨b.heap.size+2,1,none⟩ (I J ((rb.size:Int)-((c:Int)+k))));have T:D7 E wH (b.heap.size+2) (.cells #[.string ⟨#[]⟩,I J ((rb.size:Int)-((c:Int)+k)),I J ((rb.size:Int)-h),.bool p,.string ⟨#[]⟩,I J n,I J ((f:Int)+k),.float .f64 u,.float .f64 H,I J 0,.string D,I J sn,.float .f64 0] 71 (0,0)):=(by have:=(((D7.of_setCell (i:=10) (.string D) F).setCell (i:=11) (I J (sn:Int))).setCell (i:=2) (I J ((rb.size:Int)-h))).setCell (i:=1) (I J ((rb.size:Int)-((c:Int)+k)));simp only[List.setIfInBounds_toArray,List.set_cons_zero,List.set_cons_succ]at this;rw[ab];exact this))
    rw[←ab];clear ab;obtain⟨e1,e2,e3,e4⟩:=bw.o;obtain⟨l1,l2,l3,l4,l5⟩:=A1F _ _ e4;have bV:0<a.data.toList.length:=by
     have h3:a.data.toList.length=a.size:=Array.length_toList;rw[h3,←S.o,ByteArray.size_extract,N0];omega
    obtain⟨rfl,rfl⟩:=bk.o;subst y;refine rt3 Y k W sc i t or cr G sn lv rn rb fn l D _ _ n ((f:Int)+k) _ sq oq b wH HY.o am.o.1 aF ba bc (bB.o.trans (T.below O)) ((T.other _ O).trans bz) ((T.other _ O).trans bA) T.here (by rw[T.size];exact bx) (by rw[e1,e2];exact l3) (by rw[e1];omega) (by rw[e1];exact l1) ac.o.1.1 ac.o.1.2 ac.o.2.1 ac.o.2.2 _ (Fr.of _ rfl ⟨rfl,rfl,rfl,rfl,rfl,rfl,rfl,trivial⟩) Q ?_ C bj.o;intro w' bC;have hq:=HQ.o (some (A2t k rn rb fn q _ h n c f sq oq)) w' (by rw[if_neg aP.o,if_pos (aW.o.trans e4)]) bC;unfold A0w at hq;dsimp only at hq;first|rw[B2B k rn rb fn q h n c f sq oq a.data.toList s.data.toList (by rw[S.o]) (by rw[az.o])]at hq|rw[B2F k rn rb fn q h n c f sq oq a.data.toList s.data.toList (by rw[S.o]) (by rw[az.o])]at hq
    rw[e1,e2,e3];exact hq
   ·have bv:(600:Int)<(s.size:Int):=O;have z0:=A1 r (i:=0) rfl;have z1:=A1 r (i:=1) rfl;have z2:=A1 r (i:=2) rfl;have z3:=A1 r (i:=3) rfl;have z4:=A1 r (i:=4) rfl;have z5:=A1 r (i:=5) rfl;have z6:=A1 r (i:=6) rfl;have z7:=A1 r (i:=7) rfl;have z8:=A1 r (i:=8) rfl;have z9:=A1 r (i:=9) rfl;have bl:=A1 r (i:=10) rfl;have bm:=A1 r (i:=11) rfl;have z12:=A1 r (i:=12) rfl;have zz:∀off,v.frozen? ⟨b.heap.size+1,off,none⟩=false:=fun off=>frozen_of_row _ _ _ _ _ r;go_wp2_with fail;have aa:=(R7 (.string ⟨#[]⟩) (I J 0) (I J 0) (.bool false) (.string ⟨#[]⟩) (I J 0) (I J 0) (.float .f64 0) (.float .f64 0) (I J 0) (.string ⟨#[]⟩) (I J 0) (.float .f64 0) r).drew;refine bodyPost_ret (C2 rfl _ _ (b.heap.size+1) 71 _ _ _ rfl aa.here Tryz.underlying71 rfl U) rfl ?_;exact HQ.o none _ (by rw[if_neg aP.o,if_neg (by rw[aW.o];unfold scE;rw[if_pos (Or.inr (by show 600<s.data.toList.length;rw[show s.data.toList.length=s.size from Array.length_toList];omega))];decide)]) (M.trans (aa.below O))
end
section
open Go.RowKit Go.Shelf Go.Lib
theorem A9r {t a b:ByteArray}{X Y c V:List UInt8}(h1:t=⟨X.toArray⟩)(d:a=⟨Y.toArray⟩)(f:b=⟨c.toArray⟩)(h:V=X++(Y++c)):(t++a)++b=⟨V.toArray⟩:=by
 rw[h1,d,f,F0,F0,h,List.append_assoc]
theorem B1o (L:List (Int×W3))(base Y k W sc:Nat)(rv lv:Value)(s:ByteArray)(w0 w:World)(hY:w0.heap[Y]?=some (.cells (ixC k W sc rv lv) 93 (0,0)))(hL:A3 w0 base 101 4 lv L.length (G5 L))(hl:L.length≤4000)
 (hh:∀p∈L,(0≤p.1∧p.1<16777216)∧(0≤p.2.h∧p.2.h<100000)∧0≤p.2.p∧p.2.p<100000)(hs:s.size≤500000000)(hb:Below w0.heap.size w0 w)
 (fa:Act)(bp:Fr 176 [(0,.pointer (some ⟨Y,0,none⟩)),(3,.string s)] fa)(Q:Ending→World→Prop)(hQ:∀A w',HsP (N6 L) A→Below w0.heap.size w0 w'→Q (.returned (.string ((s++⟨(E5 A.length 2).toArray⟩)++⟨(R9 (N6 L) 0 A).toArray⟩))) w')
 (C:Code)(hC:Tryz.f12.body.bind (K7 3)=some C) :
 Code.wp Tryz.prog C (bodyPost Tryz.prog Tryz.f12 Q) fa w:=by
 have aJ:=hC;conv at aJ=>lhs;whnf
 injection aJ with aJ;subst aJ;clear hC;obtain⟨f0,rfl,aP⟩:=bp;simp only[Hs]at aP;simp only[fr,Y7,Nat.reduceAdd,aP];clear aP;obtain⟨n,hn⟩:=A8 L.length;have HN:=A4 hn;rw[←hn]at hL hl;obtain⟨la,lc,rfl⟩:=hL.form;have HO:=A4 hL;have HY:=A4 hY;have bc:=lt_of_block hY;have HH:=A4 hh;have HQ:=A4 hQ;have bd:=A4 hb;have be:Hd (SvI L [] (-1)):=SvI.nil L (fun p hp=>(hh p hp).1.1);have G:Hd (∀k n W,n≤9223372036854775807→k≤8→Calls Tryz.prog 39 #[I J (n:Nat),I J (k:Nat)] W fun e w'=>e=.returned (.string ⟨(E5 n k).toArray⟩)∧Below W.heap.size W w'):=fun k n W h1 h2=>L4 k n W h1 h2;have bf:∀a b:Nat,(⟨(E5 a b).toArray⟩:ByteArray).size=b:=fun a b=>by show(E5 a b).toArray.size=b;rw[List.size_toArray,C8]
 have ae:=A4 bf;clear hY hL hn hh hQ hb bf;go_wp2_with fail;go_loopw [6,7,8] (fun tv lv nv wr=>∃(A:List Int) (last:Int),tv=.string ⟨(R9 (N6 L) 0 A).toArray⟩∧lv=I J last∧nv=I J A.length∧SvI L A last∧Below w0.heap.size w0 wr) (fun _ lv _ _=>A2i L (RowKit.intOf lv));case atStart=>exact⟨[],-1,rfl,rfl,rfl,be.o,bd.o⟩
 case round=>
  obtain⟨A,last,rfl,rfl,rfl,hS,H⟩:=hrel;have HS:=A4 hS;have y:=A4 H;have bq:=hS.ge (fun p hp=>(HH.o p hp).1);have bg:=hS.len;obtain⟨z,aK⟩:=A8 (⟨(R9 (N6 L) 0 A).toArray⟩:ByteArray);have ay:=A4 aK;have bh:=A2G (N6 L) (fun h=>Nat.le_trans (A4d L h) (by rw[←HN.o];exact hl)) A 0;have bH:z.size≤80000000:=by
   rw[aK];show(R9 (N6 L) 0 A).toArray.size≤_;rw[List.size_toArray];have:=Nat.mul_le_mul_right 20000 (show A.length≤4000 by rw[←HN.o]at bg;omega);omega
  obtain⟨na,aL⟩:=A8 A.length;have aQ:=A4 aL;have bI:na≤4000:=by rw[aL];have:=HN.o;omega
  obtain⟨bJ,bK,bi⟩:=bq;have bj:=A4 bi;rw[←aK,←aL];clear hS H aK bh bg aL bi be bd;go_wp2_with fail;go_loopw [9,10] (fun bv K az=>∃(j:Nat) (d:Int),j≤n∧K=I J j∧bv=I J d∧NxI last d (L.take j)∧Below w0.heap.size w0 az∧-1≤d∧d<16777216) (fun _ K _=>n-(RowKit.intOf K).toNat);case atStart=>exact⟨0,-1,Nat.zero_le _,rfl,rfl,NxI.nil last,y.o,O,O⟩
  case round=>
   clear y;obtain⟨j,d,hj,rfl,rfl,hX,H,bk,bl⟩:=hrel;have HX:=A4 hX;have y:=A4 H;have y4:wr.cell? ⟨Y,4,none⟩=some (.slice la n lc):=A1 ((H.block Y bc).trans HY.o) rfl;clear hX;by_cases bL:j<n
   ·have bm:j<L.length:=by have:=HN.o;omega
    obtain⟨g,o,cur,rfl,r,aA,F⟩:=A1Y HO.o O;have aR:=(Z5 L j bm).1;obtain⟨p,hp⟩:=A8 (L[j]);have bn:=HH.o p (by rw[hp];exact List.getElem_mem _);have ad:Hd (L.take (j+1)=L.take j++[p]):=by show _=_;rw[List.take_add_one,List.getElem?_eq_getElem bm,hp];rfl
    rw[←hp]at aR;have d0:wr.cell? ⟨g,o+j*4,none⟩=some (I J p.1):=A1 ((H.block g aA).trans r) (by have:=F _ _ aR;rwa [Nat.mul_comm]at this);obtain⟨x,u⟩:=A8 p.1;have N:=A4 u;obtain⟨aB,aS⟩:=bn.1;rw[←u]at d0 aB aS;clear hp aR r F H bn u;by_cases c1:last<x
    ·by_cases c2:d<0
     ·go_wp2_with fail;go_roundw;case rel=>exact⟨j+1,x,O,Zn,rfl,by rw[ad.o,N.o];exact HX.o.take p (by rw[←N.o];exact aB) (by rw[←N.o];exact c1) (Or.inl c2),y.o,O,aS⟩
      case measure=>simp[RowKit.intOf];omega
     ·by_cases c3:x<d
      ·go_wp2_with fail;go_roundw;case rel=>exact⟨j+1,x,O,Zn,rfl,by rw[ad.o,N.o];exact HX.o.take p (by rw[←N.o];exact aB) (by rw[←N.o];exact c1) (Or.inr (by rw[←N.o];exact c3)),y.o,O,aS⟩
       case measure=>simp[RowKit.intOf];omega
      ·go_wp2_with fail;go_roundw;case rel=>exact⟨j+1,d,O,Zn,rfl,by rw[ad.o];exact HX.o.leave p (by rw[←N.o];exact aB) (by rw[←N.o];omega),y.o,bk,bl⟩
       case measure=>simp[RowKit.intOf];omega
    ·go_wp2_with fail;go_roundw;case rel=>exact⟨j+1,d,O,Zn,rfl,by rw[ad.o];exact HX.o.leave p (by rw[←N.o];exact aB) (by rw[←N.o];omega),y.o,bk,bl⟩
     case measure=>simp[RowKit.intOf];omega
   ·have br:j=n:=O;have aw:Hd (NxI last d L):=by have:=HX.o;rw[br,HN.o,List.take_length]at this;exact this
    clear HX;by_cases c2:d<0
    ·have HD:=A4 (HS.o.done aw.o c2);have cw:=G.o 2 na;obtain⟨wn,ax⟩:=A8 (⟨(E5 na 2).toArray⟩:ByteArray);have bM:wn.size=2:=by rw[ax];exact ae.o na 2
     have bs:=A4 ax;rw[←ax]at cw;have t1:¬9223372036854775807<s.size+wn.size:=O;have t2:¬9223372036854775807<s.size+wn.size+z.size:=O;have t3:¬9223372036854775807<(s++wn).size+z.size:=by rw[ByteArray.size_append];omega
     clear ax;go_wp2_with fail;refine(cw _ O O).mono ?_;rintro e w1 ⟨rfl,aM⟩;dsimp only;go_wp2_with fail;have:=HQ.o A w1 HD.o (y.o.trans (aM.mono y.o.size));rw[←aQ.o,←bs.o,←ay.o]at this;exact this
    ·have aN:0≤d:=O;have aT:Hd (∀x∈N6 L d,(0≤x.h∧x.h<100000)∧0≤x.p∧x.p<100000):=by
      intro x u;unfold N6 at u;obtain⟨p,hp,rfl⟩:=List.mem_map.1 u;exact(HH.o p (List.mem_filter.1 hp).1).2
     have bo:(N6 L d).length≤n:=by rw[HN.o];exact A4d L d
     have cK:=A2g L base Y k W sc rv (.slice la n lc) d wr ((H.block Y bc).trans HY.o) (by rw[←HN.o];exact HO.o.other (fun g _ r=>H.block g r)) (by rw[←HN.o];omega);obtain⟨D,hD⟩:=A8 (N6 L d);have HD:=A4 hD;rw[←hD]at cK bo aT;have bN:=H.size;clear hD H;go_wp2_with fail;refine cK.mono ?_;rintro e w1 ⟨v,rfl,aM,hv⟩;dsimp only;have aO:=A4 aM;obtain⟨m,hm⟩:=A8 D.length;have HM:=A4 hm;rw[←hm]at hv bo;obtain⟨va,vc,rfl⟩:=hv.form;have HV:=A4 hv;clear cK aM hv hm;have bh:last<d:=by
      rcases aw.o with⟨h,_⟩|⟨h,_⟩
      ·omega
      ·exact h
     by_cases c4:last<0
     ·have aU:Hd (A.getLastD 0=0):=by have:=bj.o;rw[if_pos c4]at this;exact this
      obtain⟨f,aV⟩:∃f:Nat,d-0=f:=⟨(d-0).toNat,O⟩;have aW:Hd ((d-A.getLastD 0).toNat=f):=by show _=_;rw[aU.o];omega
      have al:∀c,Calls Tryz.prog 39 #[I J d,I J 3] c fun e w'=>e=.returned (.string ⟨(E5 f 3).toArray⟩)∧Below c.heap.size c w':=fun c=>by rw[show d=((f:Nat):Int) by omega];exact G.o 3 f c O O
      have am:=G.o 2 m;obtain⟨B,af⟩:=A8 (⟨(E5 f 3).toArray⟩:ByteArray);obtain⟨s2,ag⟩:=A8 (⟨(E5 m 2).toArray⟩:ByteArray);have bt:B.size=3:=by rw[af];exact ae.o f 3
      have bu:s2.size=2:=by rw[ag];exact ae.o m 2
      have ah:Hd (B=⟨(E5 f 3).toArray⟩∧s2=⟨(E5 m 2).toArray⟩):=⟨af,ag⟩;rw[←af]at al;rw[←ag]at am;have t1:¬9223372036854775807<z.size+B.size:=O;have t2:¬9223372036854775807<z.size+B.size+s2.size:=O;have t3:¬9223372036854775807<(z++B).size+s2.size:=by rw[ByteArray.size_append];omega
      clear af ag aV;go_wp2_with fail;refine(al _).mono ?_;rintro e w2 ⟨rfl,an⟩;dsimp only;have ao:Hd (Below wr.heap.size wr w2):=aO.o.trans (an.mono aO.o.size);have aC:Hd (A3 w2 wr.heap.size 99 3 (.slice va m vc) m (A6 D)):=HV.o.other (fun g _ r=>an.block g r);clear an al;go_wp2_with fail;refine(am _ O O).mono ?_;rintro e w3 ⟨rfl,ap⟩;dsimp only;have aD:Hd (Below wr.heap.size wr w3):=ao.o.trans (ap.mono ao.o.size);have aX:Hd (A3 w3 wr.heap.size 99 3 (.slice va m vc) m (A6 D)):=aC.o.other (fun g _ r=>ap.block g r);clear ap am ao aC;obtain⟨M,hM⟩:=A8 (R9 (N6 L) 0 A++(E5 f 3++E5 m 2));obtain⟨tB,P⟩:=A8 ((z++B)++s2:ByteArray);have bw:M.length=z.size+5:=by
       have:M.length=tB.size:=by
        rw[P,ay.o,ah.o.1,ah.o.2,F0,F0,hM];show _=(_:List UInt8).toArray.size;rw[List.size_toArray];simp
       rw[this,P,ByteArray.size_append,ByteArray.size_append];omega
      have aY:Hd (tB=⟨(M++(D.take 0).flatMap M3).toArray⟩):=by
       show _=_;rw[P,ay.o,ah.o.1,ah.o.2,F0,F0,hM];simp
      have aZ:=A4 hM;go_upto_region 23 with fail;rw[←P];clear P hM t1 t2 t3;go_wp2_with fail;go_loopw [6,13] (fun tv K az=>∃q:Nat,q≤m∧K=I J q∧tv=.string ⟨(M++(D.take q).flatMap M3).toArray⟩∧Below w3.heap.size w3 az) (fun _ K _=>m-(RowKit.intOf K).toNat);case atStart=>exact⟨0,Nat.zero_le _,rfl,by rw[aY.o],Below.refl _ _⟩
      case round=>
       obtain⟨q,hq,rfl,rfl,ai⟩:=hrel;have R:=A4 ai;by_cases bx:q<m
       ·have aE:q<D.length:=by have:=HM.o;omega
        obtain⟨g,o,cur,rfl,r,aA,F⟩:=A1Y aX.o O;have S:=I1 D q aE;obtain⟨x,u⟩:=A8 (D[q]);have bz:=aT.o x (by rw[u];exact List.getElem_mem _);have ad:Hd ((D.take (q+1)).flatMap M3=(D.take q).flatMap M3++M3 x):=by
         show _=_;rw[show D.take (q+1)=D.take q++[D[q]] by rw[List.take_add_one,List.getElem?_eq_getElem aE];rfl,List.flatMap_append,u];simp
        rw[←u]at S;have T:=(ai.block g aA).trans r;have e0:wr.cell? ⟨g,o+q*3,none⟩=some (I J x.h):=A1 T (by have:=F _ _ S.1;rwa [Nat.mul_comm]at this);have e1:wr.cell? ⟨g,o+q*3+1,none⟩=some (I J x.p):=A1 T (by have:=F _ _ S.2.1;rwa [Nat.mul_comm,←Nat.add_assoc]at this);have e2:wr.cell? ⟨g,o+q*3+2,none⟩=some (.bool x.b):=A1 T (by have:=F _ _ S.2.2;rwa [Nat.mul_comm,←Nat.add_assoc]at this);obtain⟨i,aF⟩:∃i:Nat,x.h=i:=⟨x.h.toNat,O⟩;obtain⟨l,t⟩:=A8 (2*x.p.toNat+(if x.b=true then 1 else 0):Nat);have aG:Hd (M3 x=E5 i 2++E5 l 2):=by show _=_;unfold M3;rw[t,aF];rfl
        have aq:=G.o 2 i;obtain⟨V,aj⟩:=A8 (⟨(E5 i 2).toArray⟩:ByteArray);obtain⟨sp,ar⟩:=A8 (⟨(E5 l 2).toArray⟩:ByteArray);have bA:V.size=2:=by rw[aj];exact ae.o i 2
        have bB:sp.size=2:=by rw[ar];exact ae.o l 2
        have E:Hd (V=⟨(E5 i 2).toArray⟩∧sp=⟨(E5 l 2).toArray⟩):=⟨aj,ar⟩;rw[←aj]at aq;obtain⟨tQ,ak⟩:=A8 (⟨(M++(D.take q).flatMap M3).toArray⟩:ByteArray);have aH:=A4 ak;have bC:tQ.size≤80100000:=by
         rw[ak];show(M++(D.take q).flatMap M3).toArray.size≤_;rw[List.size_toArray,List.length_append,Y6,List.length_take];omega
        have t1:¬9223372036854775807<tQ.size+V.size:=O;have t2:¬9223372036854775807<tQ.size+V.size+sp.size:=O;have t3:¬9223372036854775807<(tQ++V).size+sp.size:=by rw[ByteArray.size_append];omega
        have bD:IntKind.i64.wrap (2*x.p)=2*x.p:=Zw;have bE:l≤200001:=by rw[t];split<;>omega
        have bF:i≤100000:=O;rw[aF]at e0;rw[←ak];have bG:Hd (∀c:World,Below wr.heap.size wr c→c.cell? ⟨g,o+q*3,none⟩=some (I J i)):=fun c h'=>(World.cell?_of_block (h'.block g (lt_of_block T))).trans e0;clear u S F r aj ar ak T ai;cases aI:x.b
        ·rw[aI]at e2 t;have X:2*x.p=(l:Int):=by simp at t;omega
         have au:∀c,Calls Tryz.prog 39 #[I J (2*x.p),I J 2] c fun e w'=>e=.returned (.string sp)∧Below c.heap.size c w':=fun c=>by rw[X,E.o.2];exact G.o 2 l c O O
         clear X t;go_wp2_with fail;refine(aq _ O O).mono ?_;rintro e w5 ⟨rfl,aa⟩;dsimp only;have ab:=A4 aa;clear aa;go_wp2_with fail;refine(au _).mono ?_;rintro e w6 ⟨rfl,ac⟩;dsimp only;have av:Hd (Below wr.heap.size wr w6):=ab.o.trans (ac.mono ab.o.size);clear ac;go_wp2_with fail;go_roundw;case rel=>exact⟨q+1,O,Zn,congrArg Value.string (A9r aH.o E.o.1 E.o.2 (by rw[ad.o,aG.o];simp only[List.append_assoc])),R.o.trans (av.o.mono R.o.size)⟩
         case measure=>simp[RowKit.intOf];omega
        ·rw[aI]at e2 t;have X:2*x.p+1=(l:Int):=by simp at t;omega
         have au:∀c,Calls Tryz.prog 39 #[I J (2*x.p+1),I J 2] c fun e w'=>e=.returned (.string sp)∧Below c.heap.size c w':=fun c=>by rw[X,E.o.2];exact G.o 2 l c O O
         clear X t;go_wp2_with fail;refine(aq _ O O).mono ?_;rintro e w5 ⟨rfl,aa⟩;dsimp only;have ab:=A4 aa;clear aa;go_wp2_with fail;refine(au _).mono ?_;rintro e w6 ⟨rfl,ac⟩;dsimp only;have av:Hd (Below wr.heap.size wr w6):=ab.o.trans (ac.mono ab.o.size);clear ac;go_wp2_with fail;go_roundw;case rel=>exact⟨q+1,O,Zn,congrArg Value.string (A9r aH.o E.o.1 E.o.2 (by rw[ad.o,aG.o];simp only[List.append_assoc])),R.o.trans (av.o.mono R.o.size)⟩
         case measure=>simp[RowKit.intOf];omega
       ·have ba:q=m:=O;have bb:Hd ((⟨(M++(D.take q).flatMap M3).toArray⟩:ByteArray)=⟨(R9 (N6 L) 0 (A++[d])).toArray⟩):=by
         show _=_;rw[ba,HM.o,List.take_length,A1U,aW.o,aZ.o,←HD.o];unfold A1I;rw[←HM.o,List.append_assoc,List.append_assoc]
        have ax:IntKind.i64.wrap ((na:Int)+1)=((na+1:Nat):Int):=Zw;rw[bb.o];clear ai;go_wp2_with fail;go_roundw;case rel=>exact⟨A++[d],d,rfl,rfl,by rw[List.length_append,←aQ.o];rfl,HS.o.more aw.o aN,y.o.trans ((aD.o.trans (R.o.mono aD.o.size)).mono y.o.size)⟩
        case measure=>exact A5b aw.o aN
     ·have aU:Hd (A.getLastD 0=last):=by have:=bj.o;rw[if_neg c4]at this;exact this
      obtain⟨f,aV⟩:∃f:Nat,d-last=f:=⟨(d-last).toNat,O⟩;have aW:Hd ((d-A.getLastD 0).toNat=f):=by show _=_;rw[aU.o];omega
      have al:∀c,Calls Tryz.prog 39 #[I J (d-last),I J 3] c fun e w'=>e=.returned (.string ⟨(E5 f 3).toArray⟩)∧Below c.heap.size c w':=fun c=>by rw[show(d-last)=((f:Nat):Int) by omega];exact G.o 3 f c O O
      have am:=G.o 2 m;obtain⟨B,af⟩:=A8 (⟨(E5 f 3).toArray⟩:ByteArray);obtain⟨s2,ag⟩:=A8 (⟨(E5 m 2).toArray⟩:ByteArray);have bt:B.size=3:=by rw[af];exact ae.o f 3
      have bu:s2.size=2:=by rw[ag];exact ae.o m 2
      have ah:Hd (B=⟨(E5 f 3).toArray⟩∧s2=⟨(E5 m 2).toArray⟩):=⟨af,ag⟩;rw[←af]at al;rw[←ag]at am;have t1:¬9223372036854775807<z.size+B.size:=O;have t2:¬9223372036854775807<z.size+B.size+s2.size:=O;have t3:¬9223372036854775807<(z++B).size+s2.size:=by rw[ByteArray.size_append];omega
      clear af ag aV;go_wp2_with fail;refine(al _).mono ?_;rintro e w2 ⟨rfl,an⟩;dsimp only;have ao:Hd (Below wr.heap.size wr w2):=aO.o.trans (an.mono aO.o.size);have aC:Hd (A3 w2 wr.heap.size 99 3 (.slice va m vc) m (A6 D)):=HV.o.other (fun g _ r=>an.block g r);clear an al;go_wp2_with fail;refine(am _ O O).mono ?_;rintro e w3 ⟨rfl,ap⟩;dsimp only;have aD:Hd (Below wr.heap.size wr w3):=ao.o.trans (ap.mono ao.o.size);have aX:Hd (A3 w3 wr.heap.size 99 3 (.slice va m vc) m (A6 D)):=aC.o.other (fun g _ r=>ap.block g r);clear ap am ao aC;obtain⟨M,hM⟩:=A8 (R9 (N6 L) 0 A++(E5 f 3++E5 m 2));obtain⟨tB,P⟩:=A8 ((z++B)++s2:ByteArray);have bw:M.length=z.size+5:=by
       have:M.length=tB.size:=by
        rw[P,ay.o,ah.o.1,ah.o.2,F0,F0,hM];show _=(_:List UInt8).toArray.size;rw[List.size_toArray];simp
       rw[this,P,ByteArray.size_append,ByteArray.size_append];omega
      have aY:Hd (tB=⟨(M++(D.take 0).flatMap M3).toArray⟩):=by
       show _=_;rw[P,ay.o,ah.o.1,ah.o.2,F0,F0,hM];simp
      have aZ:=A4 hM;go_upto_region 23 with fail;rw[←P];clear P hM t1 t2 t3;go_wp2_with fail;go_loopw [6,13] (fun tv K az=>∃q:Nat,q≤m∧K=I J q∧tv=.string ⟨(M++(D.take q).flatMap M3).toArray⟩∧Below w3.heap.size w3 az) (fun _ K _=>m-(RowKit.intOf K).toNat);case atStart=>exact⟨0,Nat.zero_le _,rfl,by rw[aY.o],Below.refl _ _⟩
      case round=>
       obtain⟨q,hq,rfl,rfl,ai⟩:=hrel;have R:=A4 ai;by_cases bx:q<m
       ·have aE:q<D.length:=by have:=HM.o;omega
        obtain⟨g,o,cur,rfl,r,aA,F⟩:=A1Y aX.o O;have S:=I1 D q aE;obtain⟨x,u⟩:=A8 (D[q]);have bz:=aT.o x (by rw[u];exact List.getElem_mem _);have ad:Hd ((D.take (q+1)).flatMap M3=(D.take q).flatMap M3++M3 x):=by
         show _=_;rw[show D.take (q+1)=D.take q++[D[q]] by rw[List.take_add_one,List.getElem?_eq_getElem aE];rfl,List.flatMap_append,u];simp
        rw[←u]at S;have T:=(ai.block g aA).trans r;have e0:wr.cell? ⟨g,o+q*3,none⟩=some (I J x.h):=A1 T (by have:=F _ _ S.1;rwa [Nat.mul_comm]at this);have e1:wr.cell? ⟨g,o+q*3+1,none⟩=some (I J x.p):=A1 T (by have:=F _ _ S.2.1;rwa [Nat.mul_comm,←Nat.add_assoc]at this);have e2:wr.cell? ⟨g,o+q*3+2,none⟩=some (.bool x.b):=A1 T (by have:=F _ _ S.2.2;rwa [Nat.mul_comm,←Nat.add_assoc]at this);obtain⟨i,aF⟩:∃i:Nat,x.h=i:=⟨x.h.toNat,O⟩;obtain⟨l,t⟩:=A8 (2*x.p.toNat+(if x.b=true then 1 else 0):Nat);have aG:Hd (M3 x=E5 i 2++E5 l 2):=by show _=_;unfold M3;rw[t,aF];rfl
        have aq:=G.o 2 i;obtain⟨V,aj⟩:=A8 (⟨(E5 i 2).toArray⟩:ByteArray);obtain⟨sp,ar⟩:=A8 (⟨(E5 l 2).toArray⟩:ByteArray);have bA:V.size=2:=by rw[aj];exact ae.o i 2
        have bB:sp.size=2:=by rw[ar];exact ae.o l 2
        have E:Hd (V=⟨(E5 i 2).toArray⟩∧sp=⟨(E5 l 2).toArray⟩):=⟨aj,ar⟩;rw[←aj]at aq;obtain⟨tQ,ak⟩:=A8 (⟨(M++(D.take q).flatMap M3).toArray⟩:ByteArray);have aH:=A4 ak;have bC:tQ.size≤80100000:=by
         rw[ak];show(M++(D.take q).flatMap M3).toArray.size≤_;rw[List.size_toArray,List.length_append,Y6,List.length_take];omega
        have t1:¬9223372036854775807<tQ.size+V.size:=O;have t2:¬9223372036854775807<tQ.size+V.size+sp.size:=O;have t3:¬9223372036854775807<(tQ++V).size+sp.size:=by rw[ByteArray.size_append];omega
        have bD:IntKind.i64.wrap (2*x.p)=2*x.p:=Zw;have bE:l≤200001:=by rw[t];split<;>omega
        have bF:i≤100000:=O;rw[aF]at e0;rw[←ak];have bG:Hd (∀c:World,Below wr.heap.size wr c→c.cell? ⟨g,o+q*3,none⟩=some (I J i)):=fun c h'=>(World.cell?_of_block (h'.block g (lt_of_block T))).trans e0;clear u S F r aj ar ak T ai;cases aI:x.b
        ·rw[aI]at e2 t;have X:2*x.p=(l:Int):=by simp at t;omega
         have au:∀c,Calls Tryz.prog 39 #[I J (2*x.p),I J 2] c fun e w'=>e=.returned (.string sp)∧Below c.heap.size c w':=fun c=>by rw[X,E.o.2];exact G.o 2 l c O O
         clear X t;go_wp2_with fail;refine(aq _ O O).mono ?_;rintro e w5 ⟨rfl,aa⟩;dsimp only;have ab:=A4 aa;clear aa;go_wp2_with fail;refine(au _).mono ?_;rintro e w6 ⟨rfl,ac⟩;dsimp only;have av:Hd (Below wr.heap.size wr w6):=ab.o.trans (ac.mono ab.o.size);clear ac;go_wp2_with fail;go_roundw;case rel=>exact⟨q+1,O,Zn,congrArg Value.string (A9r aH.o E.o.1 E.o.2 (by rw[ad.o,aG.o];simp only[List.append_assoc])),R.o.trans (av.o.mono R.o.size)⟩
         case measure=>simp[RowKit.intOf];omega
        ·rw[aI]at e2 t;have X:2*x.p+1=(l:Int):=by simp at t;omega
         have au:∀c,Calls Tryz.prog 39 #[I J (2*x.p+1),I J 2] c fun e w'=>e=.returned (.string sp)∧Below c.heap.size c w':=fun c=>by rw[X,E.o.2];exact G.o 2 l c O O
         clear X t;go_wp2_with fail;refine(aq _ O O).mono ?_;rintro e w5 ⟨rfl,aa⟩;dsimp only;have ab:=A4 aa;clear aa;go_wp2_with fail;refine(au _).mono ?_;rintro e w6 ⟨rfl,ac⟩;dsimp only;have av:Hd (Below wr.heap.size wr w6):=ab.o.trans (ac.mono ab.o.size);clear ac;go_wp2_with fail;go_roundw;case rel=>exact⟨q+1,O,Zn,congrArg Value.string (A9r aH.o E.o.1 E.o.2 (by rw[ad.o,aG.o];simp only[List.append_assoc])),R.o.trans (av.o.mono R.o.size)⟩
         case measure=>simp[RowKit.intOf];omega
       ·have ba:q=m:=O;have bb:Hd ((⟨(M++(D.take q).flatMap M3).toArray⟩:ByteArray)=⟨(R9 (N6 L) 0 (A++[d])).toArray⟩):=by
         show _=_;rw[ba,HM.o,List.take_length,A1U,aW.o,aZ.o,←HD.o];unfold A1I;rw[←HM.o,List.append_assoc,List.append_assoc]
        have ax:IntKind.i64.wrap ((na:Int)+1)=((na+1:Nat):Int):=Zw;rw[bb.o];clear ai;go_wp2_with fail;go_roundw;case rel=>exact⟨A++[d],d,rfl,rfl,by rw[List.length_append,←aQ.o];rfl,HS.o.more aw.o aN,y.o.trans ((aD.o.trans (R.o.mono aD.o.size)).mono y.o.size)⟩
        case measure=>exact A5b aw.o aN
end
section
open Go.RowKit
def gL (k W:Nat)(R:List S2)(s:ByteArray)(q:Int×Bool):List (Int×Int):=anL s.size k (F3 k W R R.length) q (P1 k W s)
theorem A6c {k W:Nat}{R:List S2}{s:ByteArray}(h:(R3 k W R s).1≤400):(R3 k W R s).2=gL k W R s:=funext fun q=>B2j k W R s h q
theorem A4A {k W:Nat}{R:List S2}{s:ByteArray}{q:Int×Bool}{a:Int×Int}(h:a∈gL k W R s q):A22 k W R s q a:=by
 unfold gL anL at h;obtain⟨x,c,hm⟩:=List.mem_flatMap.1 h;unfold anW at hm;obtain⟨y,b,rfl⟩:=List.mem_map.1 hm;obtain⟨b,he⟩:=List.mem_filter.1 b;obtain⟨i,hi,z,d,f,rfl⟩:=A0G k W R R.length x.h y b;have e:=(Q4 _ _).1 he;exact⟨x,c,i,hi,z,d,f.symm,e,rfl⟩
def cS (f:Int×Bool→Nat):Nat→Nat
 |0=>0
 |t+1=>cS f t+f (((t/2:Nat):Int),decide (t%2=1))
theorem A7g (f:Int×Bool→Nat):∀n,cS f (2*n)=sS f n
 |0=>rfl
 |n+1=>by
  show cS f (2*n)+f (((2*n/2:Nat):Int),decide (2*n%2=1))+f ((((2*n+1)/2:Nat):Int),decide ((2*n+1)%2=1))=_
  rw[A7g f n,show 2*n/2=n by omega,show(2*n+1)/2=n by omega,decide_eq_false (show ¬2*n%2=1 by omega),decide_eq_true (show(2*n+1)%2=1 by omega)]
  rfl
theorem A7o (f:Int×Bool→Nat){a b:Nat}(h:a≤b):cS f a≤cS f b:=by
 induction b with
 |zero=>rw[show a=0 by omega];exact Nat.le_refl _
 |succ b c=>
  rcases Nat.lt_or_ge a (b+1) with h1|h1
  ·have:=c O;show _≤cS f b+_;omega
  ·rw[show a=b+1 by omega];exact Nat.le_refl _
theorem A7s (f:Int×Bool→Nat)(i q:Nat)(a:Bool)(b:q<2)(ht:a=decide (q=1)):cS f (2*i+q+1)=cS f (2*i+q)+f ((i:Int),a):=by
 show cS f (2*i+q)+f (((((2*i+q)/2:Nat):Int)),decide ((2*i+q)%2=1))=_;rw[show(2*i+q)/2=i by omega,show(2*i+q)%2=q by omega,←ht]
def cG (k W:Nat)(R:List S2)(s:ByteArray)(t:Nat):Nat:=cS (fun q=>(gL k W R s q).length) t
theorem A12 (k W:Nat)(R:List S2)(s:ByteArray):cG k W R s (2*R.length)=(R3 k W R s).1:=by
 unfold cG;rw[A7g,B0X];rfl
section
variable {R:List S2} {k W sc:Nat} {rn rb:ByteArray}
theorem B1N (d:1≤k)(f:k≤12)(g:1≤W)(c:∀x∈R,good x.b∧x.b.size≤4000)(i:good rb)(m:rb.size≤300)(q:Int×Bool):∀a∈gL k W R rb q,okA a:=by
 intro a j;have h:=(A4A j).bounds d f g (fun x l=>(c x l).1) i;have:=(c _ (R5 R q.1.toNat O)).2;unfold okA;omega
theorem B15 (a:1≤k)(c:k≤12)(d:1≤W)(f:∀x∈R,good x.b∧x.b.size≤4000)(g:good rb)(i:rb.size≤300)(q:Int×Bool)(j:gL k W R rb q≠[])(m:(gL k W R rb q).length≤400):O0 (gL k W R rb q) k=0:=by
 unfold O0;have l:(gL k W R rb q).length≠0:=fun h=>j (List.eq_nil_of_length_eq_zero h);have ho:(gL k W R rb q).any A0C=false:=by
  rw[Bool.eq_false_iff];intro h;rw[A2E]at h;exact h (B1N a c d f g i q)
 rw[if_neg O,if_neg O,if_neg l,ho];rfl
theorem B01 (h:300<rb.size):M6 R k W sc rn rb none:=Or.inl ⟨h,rfl⟩
theorem B0G {t:Nat}(h:rb.size≤300)(ht:t≤2*R.length)(a:400<cG k W R rb t):M6 R k W sc rn rb none:=by
 refine Or.inr (Or.inl ⟨h,?_,rfl⟩);rw[←A12];have:=A7o (fun q=>(gL k W R rb q).length) ht;unfold cG at *;omega
theorem A7C (c:1≤k)(d:k≤12)(f:1≤W)(g:∀x∈R,good x.b∧x.b.size≤4000)(i:good rb){t:Int}(ht:t=2*R.length)(b:Cd)(j:gL k W R rb (sd b)≠[]):tw (sd b)<t:=by
 obtain⟨a,l⟩:=List.exists_mem_of_ne_nil _ j;have h:=(A4A l).bounds c d f (fun x m=>(g x m).1) i;unfold tw;have:(sd b).1=(b.1.val:Int):=rfl;split<;>omega
theorem A7B {t:Nat}(c:1≤k)(d:k≤12)(f:1≤W)(g:∀x∈R,good x.b∧x.b.size≤4000)(i:good rb)(h:rb.size≤300)(ht:t=2*R.length)(a:cG k W R rb t≤400)(j:∀b,¬M1 (gL k W R rb) (t:Int) b):M6 R k W sc rn rb none:=by
 subst ht;rw[A12]at a;refine Or.inr (Or.inr ⟨h,a,?_⟩);rw[A6c a];intro C l;have:=A8G j (fun b m=>A7C c d f g i O b m) l;rw[this];rfl
theorem A8W (c:1≤k)(d:k≤12)(f:1≤W)(g:∀x∈R,good x.b∧x.b.size≤4000)(i:good rb)(h:rb.size<k):M6 R k W sc rn rb none:=by
 by_cases j:(R3 k W R rb).1≤400
 ·refine A7B c d f g i O rfl (by rw[A12];exact j) ?_;intro b l;obtain⟨a,m⟩:=List.exists_mem_of_ne_nil _ l.1;have h:=(A4A m).bounds c d f (fun x n=>(g x n).1) i;omega
 ·exact Or.inr (Or.inl ⟨O,O,rfl⟩)
theorem B1u {t:Nat}{a:Cd}{oq:Int}{c d f g:Nat}(j:1≤k)(l:k≤12)(m:1≤W)(o:∀x∈R,good x.b∧x.b.size≤4000)(p:good rb)(h:rb.size≤300)(ht:t=2*R.length)(i:cG k W R rb t≤400)(q:J9 (gL k W R rb) k (t:Int) a oq)
 (e0:c0 (L8 k (gL k W R rb (sd a)))=((c:Int),(d:Int)))(e1:c1 (L8 k (gL k W R rb (sd a)))=((f:Int),(g:Int))) :
 M6 R k W sc rn rb (if FloatKind.f64.format.order (fq (D0 (gL k W R rb (sd a)) k)) sc=some .lt then none else if fnE k rb (R.getD a.1.val S0).b a.2 c d f g=0 then some (A2t k rn rb (R.getD a.1.val S0).n (R.getD a.1.val S0).b a.2 c d f g (D0 (gL k W R rb (sd a)) k) oq) else none):=by
 subst ht;rw[A12]at i;refine Or.inr (Or.inr ⟨h,i,?_⟩);rw[A6c i];intro C r;obtain⟨tl,rfl,ho⟩:=q.done (fun b s=>A7C j l m o p O b s) r;unfold A3k;dsimp only;rw[e0,e1,ho];rfl
theorem A9M {t:Nat}{a:Cd}{oq:Int}(d:1≤k)(f:k≤12)(g:1≤W)(i:∀x∈R,good x.b∧x.b.size≤4000)(j:good rb)(h:rb.size≤300)(ht:t=2*R.length)(l:cG k W R rb t≤400)(m:J9 (gL k W R rb) k (t:Int) a oq) :
 ∃n o p r:Nat,CdF k R rb (sd a) (gL k W R rb (sd a)) n o p r:=by
 subst ht;rw[A12]at l;have e:=A6c l;have s:((R3 k W R rb).2 (sd a)).length≤400:=by
  rw[e];obtain⟨x,c⟩:=List.exists_mem_of_ne_nil _ m.mem.1;have w:=(A4A c).bounds d f g (fun x c=>(i x c).1) j;have y:(sd a).1=(a.1.val:Int):=rfl;have h1:=A7s (fun q=>(gL k W R rb q).length) a.1.val (if a.2=true then 1 else 0) a.2 (by split<;>omega) (by cases a.2<;>rfl);have z:=A7o (fun q=>(gL k W R rb q).length) (a:=2*a.1.val+(if a.2=true then 1 else 0)+1) (b:=2*R.length) (by split<;>omega);have u:=A12 k W R rb;unfold cG at u;have v:(gL k W R rb (sd a)).length≤400:=by
   have:(gL k W R rb (sd a)).length=(gL k W R rb ((a.1.val:Int),a.2)).length:=rfl;omega
  exact v
 have:=A1d k W R rb (sd a) d f g i j h (by rw[e];exact m.mem.1) s;rw[e]at this;exact this
theorem A7e {G:Int×Bool→List (Int×Int)}{k t:Int}{a:Cd}{oq:Int}(c:J9 G k t a oq):0≤oq∧oq≤D0 (G (sd a)) k:=by
 rcases c.at' with⟨rfl,_⟩|⟨b,h1,f,rfl⟩
 ·exact⟨Int.le_refl _,(Q6 _ _).1⟩
 ·refine⟨(Q6 _ _).1,?_⟩;rcases c.fst b h1 with e|d
  ·exact absurd e f
  ·unfold ltC at d;dsimp only at d;omega
end
end
end Mn
end Go.Proofs.YtilcmkiihefkkaaGreatDoor
