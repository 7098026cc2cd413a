import Derived.Test.YtilcmkiihefkkaaGreatDoorJf30
set_option linter.unusedVariables false
set_option linter.unusedSimpArgs false
set_option maxRecDepth 1000000
set_option maxHeartbeats 64000000
open Go.Value renaming int→I
open Go.IntKind renaming i64→J
namespace Go.Proofs.YtilcmkiihefkkaaGreatDoor
section
open Go.RowKit Go.Shelf
def uR (read ref:ByteArray)(i j:Nat):Int:=uB (read.data.toList.getD i 0) (ref.data.toList.getD j 0)
theorem P0 (read ref:ByteArray):∀i j,0≤uR read ref i j∧uR read ref i j≤4:=fun i j=>by
 unfold uR uB
 split<;>omega
def H8 (b:Nat→Nat)(i m:Nat):List Value:=(List.range i).map fun t=>.slice (some ⟨b t,0,none⟩) (m+1) (m+1)
theorem T1 (b:Nat→Nat)(i m t:Nat)(h:t<i):(H8 b i m)[t]?=some (.slice (some ⟨b t,0,none⟩) (m+1) (m+1)):=by
 simp[H8,h]
theorem A1e (b:Nat→Nat)(i m x:Nat):H8 b i m++[.slice (some ⟨x,0,none⟩) (m+1) (m+1)]=H8 (fun t=>if t=i then x else b t) (i+1) m:=by
 unfold H8;rw[List.range_succ,List.map_append];simp only[List.map_cons,List.map_nil,if_true];congr 1;refine List.map_congr_left (fun t ht=>?_);have:t≠i:=by have:=List.mem_range.1 ht;omega
 rw[if_neg this]
theorem RP.app {w w':World}{b n j:Nat}{f:Nat→Int}(h:RP w b n j f){base k:Nat}{v:Value}{xs:List Value}{g':Nat}(ho:A3 w base 56 1 v k xs)(a:I9 w w' v g'):RP w' b n j f:=by
 obtain⟨cur,h1,c⟩:=h;exact⟨cur,(a.other b (lt_of_block h1) (ho.tag Z h1)).trans h1,c⟩
theorem RP.setOther {w:World}{b n j:Nat}{f:Nat→Int}(h:RP w b n j f){G i:Nat}{cs:Array Value}(hG:w.heap[G]?=some (.cells cs 288 (0,0)))(v:Value):RP (w.setCell ⟨G,i,none⟩ v) b n j f:=by
 refine h.other (heap_setCell_other w _ b v ?_);intro he;have he:b=G:=he;subst he;obtain⟨cur,h1,_⟩:=h;rw[h1]at hG;simp at hG
theorem B0u:(Tryz.prog.info? 56).map (fun i=>(i.zero,i.size,i.bytes))=some (some (.slice none 0 0),1,24):=U
structure Tb (read ref:ByteArray)(base:Nat)(wx:World)(G iM iI iD:Nat)(vM vI vD:Value)(bM bI bD:Nat→Nat):Prop where
 hG:wx.heap[G]?=some (.cells #[.string read,.string ref,vM,vI,vD] 288 (0,0))
 oM:A3 wx base 56 1 vM iM (H8 bM iM ref.size)
 oI:A3 wx base 56 1 vI iI (H8 bI iI ref.size)
 oD:A3 wx base 56 1 vD iD (H8 bD iD ref.size)
 dMI:∀g,vM.ownBlock=some g→vI.ownBlock≠some g
 dMD:∀g,vM.ownBlock=some g→vD.ownBlock≠some g
 dID:∀g,vI.ownBlock=some g→vD.ownBlock≠some g
structure Made (w w':World)(b m:Nat):Prop where
 row:∀f,RP w' b (m+1) 0 f
 old:∀c n j f,RP w c n j f→RP w' c n j f∧c≠b
 ge:w.heap.size≤b
theorem Tb.addM {read ref:ByteArray}{base:Nat}{a wc:World}{G d v w:Nat}{x q r:Value}{A B C:Nat→Nat}(h:Tb read ref base a G d v w x q r A B C)(L:base≤a.heap.size)(N:base≤G)(y:Array Value)(P:y.size=ref.size+1)(g' o' cap':Nat)
 (E:A3 wc base 56 1 (.slice (some ⟨g',o',none⟩) (d+1) cap') (d+1) (H8 A d ref.size++[.slice (some ⟨a.heap.size,0,none⟩) (ref.size+1) (ref.size+1)]))
 (m:I9 (((a.alloc (.cells y 3)).alloc (.cells #[.slice (some ⟨a.heap.size,0,none⟩) (ref.size+1) (ref.size+1)] 56))) wc x g') :
 Tb read ref base (wc.setCell ⟨G,2,none⟩ (.slice (some ⟨g',o',none⟩) (d+1) cap')) G (d+1) v w (.slice (some ⟨g',o',none⟩) (d+1) cap') q r (fun t=>if t=d then a.heap.size else A t) B C∧
 Made a (wc.setCell ⟨G,2,none⟩ (.slice (some ⟨g',o',none⟩) (d+1) cap')) a.heap.size ref.size∧Below base a (wc.setCell ⟨G,2,none⟩ (.slice (some ⟨g',o',none⟩) (d+1) cap'))∧
 wc.heap[G]?=some (.cells #[.string read,.string ref,x,q,r] 288 (0,0)):=by
 obtain⟨l,s⟩:=A8 ((a.alloc (.cells y 3)).alloc (.cells #[.slice (some ⟨a.heap.size,0,none⟩) (ref.size+1) (ref.size+1)] 56));rw[←s]at m;have hold:∀b,b<a.heap.size→l.heap[b]?=a.heap[b]?:=fun b L=>by
  rw[s,Below.heap_alloc _ _ _ Zo,Below.heap_alloc _ _ _ L]
 have W:l.heap.size=a.heap.size+1+1:=by rw[s];simp
 have Q:=lt_of_block h.hG;have M:l.heap[G]?=some (.cells #[.string read,.string ref,x,q,r] 288 (0,0)):=(hold G Q).trans h.hG;have D:A3 l base 56 1 x d (H8 A d ref.size):=h.oM.other (fun g _ o=>hold g o);have R:A3 l base 56 1 q v (H8 B v ref.size):=h.oI.other (fun g _ o=>hold g o);have S:A3 l base 56 1 r w (H8 C w ref.size):=h.oD.other (fun g _ o=>hold g o);have u:wc.heap[G]?=some (.cells #[.string read,.string ref,x,q,r] 288 (0,0)):=(m.other G O (D.tag Z M)).trans M;have hu:=D7.of_setCell (i:=2) (.slice (some ⟨g',o',none⟩) (d+1) cap') u;have T:l.heap[a.heap.size]?=some (.cells y 3 (0,0)):=by
  rw[s,Below.heap_alloc _ _ _ Zs];exact heap_alloc_new a _
 rw[A1e]at E;refine⟨⟨hu.here,?_,?_,?_,?_,?_,?_⟩,⟨fun f=>?_,fun c n j f F=>⟨?_,?_⟩,Nat.le_refl _⟩,?_,u⟩
 ·exact E.setOther _ (E.tag Z u)
 ·have z:A3 wc base 56 1 q v (H8 B v ref.size):=R.other (fun g p o=>m.other g o (fun he=>h.dMI g he p));exact z.setOther _ (z.tag Z u)
 ·have z:A3 wc base 56 1 r w (H8 C w ref.size):=S.other (fun g p o=>m.other g o (fun he=>h.dMD g he p));exact z.setOther _ (z.tag Z u)
 ·intro g p he;have H:g'=g:=by simpa[Value.ownBlock] using p
  subst H;have V:=(h.oI.lt he).2;rcases m.new with h1|h1
  ·exact h.dMI g' h1 he
  ·omega
 ·intro g p he;have H:g'=g:=by simpa[Value.ownBlock] using p
  subst H;have V:=(h.oD.lt he).2;rcases m.new with h1|h1
  ·exact h.dMD g' h1 he
  ·omega
 ·exact h.dID
 ·have K:RP l a.heap.size (ref.size+1) 0 f:=⟨y,T,P,fun k hk=>absurd hk O⟩;exact(K.app D m).setOther u _
 ·have K:RP l c n j f:=F.other (hold c F.lt);exact(K.app D m).setOther u _
 ·have:=F.lt;omega
 ·have h1:Below base a l:=⟨by rw[s];rfl,by rw[s];rfl,by rw[s];rfl,O,fun b X=>hold b O⟩;exact(h1.trans (m.below (fun g p=>(D.lt p).1) O)).trans (hu.below N)
theorem Tb.addI {read ref:ByteArray}{base:Nat}{a wc:World}{G v d w:Nat}{q x r:Value}{A B C:Nat→Nat}(h:Tb read ref base a G v d w q x r A B C)(L:base≤a.heap.size)(N:base≤G)(y:Array Value)(P:y.size=ref.size+1)(g' o' cap':Nat)
 (E:A3 wc base 56 1 (.slice (some ⟨g',o',none⟩) (d+1) cap') (d+1) (H8 B d ref.size++[.slice (some ⟨a.heap.size,0,none⟩) (ref.size+1) (ref.size+1)]))
 (o:I9 (((a.alloc (.cells y 3)).alloc (.cells #[.slice (some ⟨a.heap.size,0,none⟩) (ref.size+1) (ref.size+1)] 56))) wc x g') :
 Tb read ref base (wc.setCell ⟨G,3,none⟩ (.slice (some ⟨g',o',none⟩) (d+1) cap')) G v (d+1) w q (.slice (some ⟨g',o',none⟩) (d+1) cap') r A (fun t=>if t=d then a.heap.size else B t) C∧
 Made a (wc.setCell ⟨G,3,none⟩ (.slice (some ⟨g',o',none⟩) (d+1) cap')) a.heap.size ref.size∧Below base a (wc.setCell ⟨G,3,none⟩ (.slice (some ⟨g',o',none⟩) (d+1) cap'))∧
 wc.heap[G]?=some (.cells #[.string read,.string ref,q,x,r] 288 (0,0)):=by
 obtain⟨l,s⟩:=A8 ((a.alloc (.cells y 3)).alloc (.cells #[.slice (some ⟨a.heap.size,0,none⟩) (ref.size+1) (ref.size+1)] 56));rw[←s]at o;have hold:∀b,b<a.heap.size→l.heap[b]?=a.heap[b]?:=fun b L=>by
  rw[s,Below.heap_alloc _ _ _ Zo,Below.heap_alloc _ _ _ L]
 have W:l.heap.size=a.heap.size+1+1:=by rw[s];simp
 have Q:=lt_of_block h.hG;have M:l.heap[G]?=some (.cells #[.string read,.string ref,q,x,r] 288 (0,0)):=(hold G Q).trans h.hG;have R:A3 l base 56 1 q v (H8 A v ref.size):=h.oM.other (fun g _ p=>hold g p);have D:A3 l base 56 1 x d (H8 B d ref.size):=h.oI.other (fun g _ p=>hold g p);have S:A3 l base 56 1 r w (H8 C w ref.size):=h.oD.other (fun g _ p=>hold g p);have u:wc.heap[G]?=some (.cells #[.string read,.string ref,q,x,r] 288 (0,0)):=(o.other G O (D.tag Z M)).trans M;have hu:=D7.of_setCell (i:=3) (.slice (some ⟨g',o',none⟩) (d+1) cap') u;have T:l.heap[a.heap.size]?=some (.cells y 3 (0,0)):=by
  rw[s,Below.heap_alloc _ _ _ Zs];exact heap_alloc_new a _
 rw[A1e]at E;refine⟨⟨hu.here,?_,?_,?_,?_,?_,?_⟩,⟨fun f=>?_,fun c n j f F=>⟨?_,?_⟩,Nat.le_refl _⟩,?_,u⟩
 ·have z:A3 wc base 56 1 q v (H8 A v ref.size):=R.other (fun g m p=>o.other g p (fun he=>h.dMI g m he));exact z.setOther _ (z.tag Z u)
 ·exact E.setOther _ (E.tag Z u)
 ·have z:A3 wc base 56 1 r w (H8 C w ref.size):=S.other (fun g m p=>o.other g p (fun he=>h.dID g he m));exact z.setOther _ (z.tag Z u)
 ·intro g m he;have H:g'=g:=by simpa[Value.ownBlock] using he
  subst H;have V:=(h.oM.lt m).2;rcases o.new with h1|h1
  ·exact h.dMI g' m h1
  ·omega
 ·exact h.dMD
 ·intro g m he;have H:g'=g:=by simpa[Value.ownBlock] using m
  subst H;have V:=(h.oD.lt he).2;rcases o.new with h1|h1
  ·exact h.dID g' h1 he
  ·omega
 ·have K:RP l a.heap.size (ref.size+1) 0 f:=⟨y,T,P,fun k hk=>absurd hk O⟩;exact(K.app D o).setOther u _
 ·have K:RP l c n j f:=F.other (hold c F.lt);exact(K.app D o).setOther u _
 ·have:=F.lt;omega
 ·have h1:Below base a l:=⟨by rw[s];rfl,by rw[s];rfl,by rw[s];rfl,O,fun b X=>hold b O⟩;exact(h1.trans (o.below (fun g m=>(D.lt m).1) O)).trans (hu.below N)
theorem Tb.addD {read ref:ByteArray}{base:Nat}{a wc:World}{G v w d:Nat}{q r x:Value}{A B C:Nat→Nat}(h:Tb read ref base a G v w d q r x A B C)(L:base≤a.heap.size)(N:base≤G)(y:Array Value)(P:y.size=ref.size+1)(g' o' cap':Nat)
 (E:A3 wc base 56 1 (.slice (some ⟨g',o',none⟩) (d+1) cap') (d+1) (H8 C d ref.size++[.slice (some ⟨a.heap.size,0,none⟩) (ref.size+1) (ref.size+1)]))
 (o:I9 (((a.alloc (.cells y 3)).alloc (.cells #[.slice (some ⟨a.heap.size,0,none⟩) (ref.size+1) (ref.size+1)] 56))) wc x g') :
 Tb read ref base (wc.setCell ⟨G,4,none⟩ (.slice (some ⟨g',o',none⟩) (d+1) cap')) G v w (d+1) q r (.slice (some ⟨g',o',none⟩) (d+1) cap') A B (fun t=>if t=d then a.heap.size else C t)∧
 Made a (wc.setCell ⟨G,4,none⟩ (.slice (some ⟨g',o',none⟩) (d+1) cap')) a.heap.size ref.size∧Below base a (wc.setCell ⟨G,4,none⟩ (.slice (some ⟨g',o',none⟩) (d+1) cap'))∧
 wc.heap[G]?=some (.cells #[.string read,.string ref,q,r,x] 288 (0,0)):=by
 obtain⟨m,s⟩:=A8 ((a.alloc (.cells y 3)).alloc (.cells #[.slice (some ⟨a.heap.size,0,none⟩) (ref.size+1) (ref.size+1)] 56));rw[←s]at o;have hold:∀b,b<a.heap.size→m.heap[b]?=a.heap[b]?:=fun b L=>by
  rw[s,Below.heap_alloc _ _ _ Zo,Below.heap_alloc _ _ _ L]
 have W:m.heap.size=a.heap.size+1+1:=by rw[s];simp
 have Q:=lt_of_block h.hG;have M:m.heap[G]?=some (.cells #[.string read,.string ref,q,r,x] 288 (0,0)):=(hold G Q).trans h.hG;have R:A3 m base 56 1 q v (H8 A v ref.size):=h.oM.other (fun g _ p=>hold g p);have S:A3 m base 56 1 r w (H8 B w ref.size):=h.oI.other (fun g _ p=>hold g p);have D:A3 m base 56 1 x d (H8 C d ref.size):=h.oD.other (fun g _ p=>hold g p);have u:wc.heap[G]?=some (.cells #[.string read,.string ref,q,r,x] 288 (0,0)):=(o.other G O (D.tag Z M)).trans M;have hu:=D7.of_setCell (i:=4) (.slice (some ⟨g',o',none⟩) (d+1) cap') u;have T:m.heap[a.heap.size]?=some (.cells y 3 (0,0)):=by
  rw[s,Below.heap_alloc _ _ _ Zs];exact heap_alloc_new a _
 rw[A1e]at E;refine⟨⟨hu.here,?_,?_,?_,?_,?_,?_⟩,⟨fun f=>?_,fun c n j f F=>⟨?_,?_⟩,Nat.le_refl _⟩,?_,u⟩
 ·have z:A3 wc base 56 1 q v (H8 A v ref.size):=R.other (fun g l p=>o.other g p (fun he=>h.dMD g l he));exact z.setOther _ (z.tag Z u)
 ·have z:A3 wc base 56 1 r w (H8 B w ref.size):=S.other (fun g l p=>o.other g p (fun he=>h.dID g l he));exact z.setOther _ (z.tag Z u)
 ·exact E.setOther _ (E.tag Z u)
 ·exact h.dMI
 ·intro g l he;have H:g'=g:=by simpa[Value.ownBlock] using he
  subst H;have V:=(h.oM.lt l).2;rcases o.new with h1|h1
  ·exact h.dMD g' l h1
  ·omega
 ·intro g l he;have H:g'=g:=by simpa[Value.ownBlock] using he
  subst H;have V:=(h.oI.lt l).2;rcases o.new with h1|h1
  ·exact h.dID g' l h1
  ·omega
 ·have K:RP m a.heap.size (ref.size+1) 0 f:=⟨y,T,P,fun k hk=>absurd hk O⟩;exact(K.app D o).setOther u _
 ·have K:RP m c n j f:=F.other (hold c F.lt);exact(K.app D o).setOther u _
 ·have:=F.lt;omega
 ·have h1:Below base a m:=⟨by rw[s];rfl,by rw[s];rfl,by rw[s];rfl,O,fun b X=>hold b O⟩;exact(h1.trans (o.below (fun g l=>(D.lt l).1) O)).trans (hu.below N)
def TbI (read ref:ByteArray)(w wx:World)(G i:Nat):Prop:=
 ∃vM vI vD bM bI bD,Tb read ref w.heap.size wx G i i i vM vI vD bM bI bD∧w.heap.size≤G∧Below w.heap.size w wx∧
  (∀t,t<i→RP wx (bM t) (ref.size+1) (ref.size+1) (fun j=>(cel 1000000000 (uR read ref) t j).m)∧RP wx (bI t) (ref.size+1) (ref.size+1) (fun j=>(cel 1000000000 (uR read ref) t j).i)∧RP wx (bD t) (ref.size+1) (ref.size+1) (fun j=>(cel 1000000000 (uR read ref) t j).d))
theorem ok9 {c:C3}{i j:Nat}(h:okC 1000000000 c i j)(hi:i≤300)(a:j≤600):okB c:=by
 obtain⟨m,y,d⟩:=c;unfold okC at h;unfold YtilcmkiihefkkaaGreatDoor.okB;simp only at h⊢;omega
theorem U9 (read ref:ByteArray)(i j:Nat)(hi:i≤300)(a:j≤600):okB (cel 1000000000 (uR read ref) i j):=ok9 (F6 1000000000 O (uR read ref) (P0 read ref) i j hi a) hi a
def GF (read ref:ByteArray)(W:World)(G i:Nat)(vM vI vD:Value)(gM oM gI oI gD oD:Nat)(bM bI bD:Nat→Nat):Prop:=
 W.cell? ⟨G,2,none⟩=some vM∧W.cell? ⟨G,3,none⟩=some vI∧W.cell? ⟨G,4,none⟩=some vD∧
 (∀t,t≤i→W.cell? ⟨gM,oM+t,none⟩=some (.slice (some ⟨bM t,0,none⟩) (ref.size+1) (ref.size+1))∧W.cell? ⟨gI,oI+t,none⟩=some (.slice (some ⟨bI t,0,none⟩) (ref.size+1) (ref.size+1))∧W.cell? ⟨gD,oD+t,none⟩=some (.slice (some ⟨bD t,0,none⟩) (ref.size+1) (ref.size+1)))∧
 (∀t k,t<i→k≤ref.size→W.cell? ⟨bM t,k,none⟩=some (I J (cel 1000000000 (uR read ref) t k).m)∧W.cell? ⟨bI t,k,none⟩=some (I J (cel 1000000000 (uR read ref) t k).i)∧W.cell? ⟨bD t,k,none⟩=some (I J (cel 1000000000 (uR read ref) t k).d))
theorem Tb.gf {read ref:ByteArray}{base:Nat}{a W:World}{G i:Nat}{w oM B x oI C y oD D p q r:Nat}{l s u:Nat→Nat}
 (h:Tb read ref base a G (i+1) (i+1) (i+1) (.slice (some ⟨w,oM,none⟩) (i+1) B) (.slice (some ⟨x,oI,none⟩) (i+1) C) (.slice (some ⟨y,oD,none⟩) (i+1) D) l s u)
 (E:∀f,RP a p (ref.size+1) 0 f)(F:∀f,RP a q (ref.size+1) 0 f)(H:∀f,RP a r (ref.size+1) 0 f)
 (v:∀t,t<i→(RP a (l t) (ref.size+1) (ref.size+1) (fun j=>(cel 1000000000 (uR read ref) t j).m)∧RP a (s t) (ref.size+1) (ref.size+1) (fun j=>(cel 1000000000 (uR read ref) t j).i)∧RP a (u t) (ref.size+1) (ref.size+1) (fun j=>(cel 1000000000 (uR read ref) t j).d))∧
  (l t≠p∧l t≠q∧l t≠r)∧(s t≠p∧s t≠q∧s t≠r)∧(u t≠p∧u t≠q∧u t≠r)) (K:G7 a W p q r) :
 GF read ref W G i (.slice (some ⟨w,oM,none⟩) (i+1) B) (.slice (some ⟨x,oI,none⟩) (i+1) C) (.slice (some ⟨y,oD,none⟩) (i+1) D) w oM x oI y oD l s u:=by
 have ne:∀{b:Nat} {cs:Array Value} {t:TypeId},t≠3→a.heap[b]?=some (.cells cs t (0,0))→b≠p∧b≠q∧b≠r:=by
  intro b cs t ht z;have aux:∀c,(∀f,RP a c (ref.size+1) 0 f)→b≠c:=by
   intro c L he;subst he;obtain⟨cur,h1,_⟩:=L (fun _=>0);rw[h1]at z;simp at z;exact ht z.2.symm
  exact⟨aux p E,aux q F,aux r H⟩
 have blk:∀{g o n c:Nat} {xs:List Value},A3 a base 56 1 (.slice (some ⟨g,o,none⟩) n c) n xs→g≠p∧g≠q∧g≠r:=by
  intro g o n c xs ho;rcases ho.2 with⟨h1,_⟩|⟨g',o',cap',cur,he,h1,M,_⟩
  ·simp at h1
  ·simp only[Value.slice.injEq,Option.some.injEq,Addr.mk.injEq,and_true,true_and]at he;obtain⟨⟨rfl,rfl⟩,rfl⟩:=he;exact ne Z M
 have cl:∀(b k:Nat),(b≠p∧b≠q∧b≠r)→W.cell? ⟨b,k,none⟩=a.cell? ⟨b,k,none⟩:=fun b k h=>World.cell?_of_block (K.other b h.1 h.2.1 h.2.2);have A:=ne Z h.hG;refine⟨(cl G 2 A).trans (A1 h.hG rfl),(cl G 3 A).trans (A1 h.hG rfl),(cl G 4 A).trans (A1 h.hG rfl),fun t ht=>⟨?_,?_,?_⟩,fun t k ht hk=>⟨?_,?_,?_⟩⟩
 ·exact(cl w _ (blk h.oM)).trans (h.oM.cell (T1 l (i+1) ref.size t O))
 ·exact(cl x _ (blk h.oI)).trans (h.oI.cell (T1 s (i+1) ref.size t O))
 ·exact(cl y _ (blk h.oD)).trans (h.oD.cell (T1 u (i+1) ref.size t O))
 ·exact(cl _ _ (v t ht).2.1).trans ((v t ht).1.1.cell k O)
 ·exact(cl _ _ (v t ht).2.2.1).trans ((v t ht).1.2.1.cell k O)
 ·exact(cl _ _ (v t ht).2.2.2).trans ((v t ht).1.2.2.cell k O)
def dgB (n:Nat):UInt8:=UInt8.ofNat (48+n)
theorem A3S (n:Nat)(h:n<10):(dgB n).toNat=48+n:=by
 unfold dgB;rw[UInt8.toNat_ofNat'];omega
theorem conv_one (W:World)(b:Nat)(c:UInt8)(h:W.cell? ⟨b,0,none⟩=some (.int .u8 (c.toNat:Int))) :
 (convert 63 9 (.slice (some ⟨b,0,none⟩) 1 1)).run Tryz.prog W=.ok (.string ⟨#[c]⟩) W:=by
 have:=run_convert_bytes_back (P:=Tryz.prog) W 63 9 5 ⟨b,0,none⟩ 1 [c] Tryz.underlying63 Tryz.underlying5 Tryz.underlying9 (by
  intro i hi;have a:i=0:=by simpa using hi
  subst a;rw[Addr.add_lit,Nat.zero_add];exact h)
 simpa using this
theorem I7 (a b:List UInt8):(⟨a.toArray⟩:ByteArray)++⟨b.toArray⟩=⟨(a++b).toArray⟩:=by
 apply ByteArray.ext;rw[ByteArray.data_append];simp
section
variable {P:Program} {ops:Array Oper} {Q:Exit→Act→World→Prop} {md:Region.Mode} {S:World→Prop} {L:Nat}
theorem J6 {i j:Nat}{d f:Oper}{fuel:Nat}{c:Array Bool}{a:Act}{w:World}(h:Region.ready md ops c=[i,j])(m:ops.toList[i]?=some d)(n:ops.toList[j]?=some f)(o:(i==L)=false)(p:(j==L)=false)
 (h1:∀K:Act→World→Prop,Shut (∀b w',S w'→D3 P md ops Q S L fuel (c.setIfInBounds i true) b w'→K b w')→if Region.wanted d (yielded ops a.tmps)=true then Oper.wp P d a w K Q else K (a.put d.dst undef) w)
 (g:∀K:Act→World→Prop,Shut (∀b w',S w'→D3 P md ops Q S L fuel (c.setIfInBounds j true) b w'→K b w')→if Region.wanted f (yielded ops a.tmps)=true then Oper.wp P f a w K Q else K (a.put f.dst undef) w):D3 P md ops Q S L (fuel+1) c a w:=by
 have hi:ops[i]?=some d:=by simpa using m
 have q:ops[j]?=some f:=by simpa using n
 have r:i≠L:=by simpa using o
 have s:j≠L:=by simpa using p
 refine⟨fun l=>(by rw[h]at l;cases l),fun k hk=>?_⟩;rw[h]at hk;rcases (show k=i∨k=j by simpa using hk) with rfl|rfl
 ·have:=h1 (fun b w'=>(k≠L→S w')∧D3 P md ops Q S L fuel (c.setIfInBounds k true) b w') (fun b w' h1 g=>⟨fun _=>h1,g⟩);unfold wpOp;simp only[hi];split
  ·rename_i hw;rw[if_pos hw]at this;exact Or.inl this
  ·rename_i hw;rw[if_neg hw]at this;exact this
 ·have:=g (fun b w'=>(k≠L→S w')∧D3 P md ops Q S L fuel (c.setIfInBounds k true) b w') (fun b w' h1 g=>⟨fun _=>h1,g⟩);unfold wpOp;simp only[q];split
  ·rename_i hw;rw[if_pos hw]at this;exact Or.inl this
  ·rename_i hw;rw[if_neg hw]at this;exact this
end
theorem A1s (n:Nat)(w:World)(h:n<10):Calls Tryz.prog 127 #[I J n] w fun e w'=>e=.returned (.string ⟨(Lib.decDigits n).toArray⟩)∧Below w.heap.size w w':=by
 rw[Lib.decDigits_one h];have c:(n:Int)<10:=O;have hw:IntKind.u8.wrap (48+(n:Int))=((dgB n).toNat:Int):=by rw[A3S n h,IntKind.wrap_u8];omega
 have b:(convert 63 9 (.slice (some ⟨w.heap.size,0,none⟩) 1 1)).run Tryz.prog (w.alloc (.cells #[.int .u8 ((dgB n).toNat:Int)] 5))=.ok (.string ⟨#[dgB n]⟩) (w.alloc (.cells #[.int .u8 ((dgB n).toNat:Int)] 5)):=conv_one _ _ _ (A1 (heap_alloc_new w _) rfl);have a:Hd (dgB n=UInt8.ofNat (48+n)):=rfl;generalize dgB n=d at hw b a;go_enter Tryz.func127,Tryz.ntmps127;go_wp2_with fail;go_ret;refine⟨?_,(Below.refl _ w).alloc (Nat.le_refl _) _⟩;rw[a.o];rfl
theorem A6M (f:Nat):∀(n:Nat) (w:World),n≤f→n≤100000→Calls Tryz.prog 127 #[I J n] w fun e w'=>e=.returned (.string ⟨(Lib.decDigits n).toArray⟩)∧Below w.heap.size w w':=by
 induction f with
 |zero=>
  intro n w z A;obtain rfl:n=0:=O;exact A1s 0 w O
 |succ f r=>
  intro n w z A;by_cases h:n<10
  ·exact A1s n w h
  ·have E:¬(n:Int)<10:=O;have hm:n%10<10:=Nat.mod_lt _ O;have hw:IntKind.u8.wrap (48+(n:Int)%10)=((dgB (n%10)).toNat:Int):=by rw[A3S _ hm,IntKind.wrap_u8];omega
   have c:=fun W=>r (n/10) W O O;clear r;have g:Hd (Lib.decDigits n=Lib.decDigits (n/10)++[dgB (n%10)]):=by
    show _=_;rw[Lib.decDigits,dif_neg h];rfl
   have B:(Lib.decDigits (n/10)).length≤21:=by
    have:=Lib.itoa_length_le ((n/10:Nat):Int) O O;rwa [Lib.itoa_nonneg]at this
   obtain⟨d,s⟩:=A8 (dgB (n%10));obtain⟨D,t⟩:=A8 (Lib.decDigits (n/10));rw[←s]at hw g;rw[←t]at c g B;have F:¬9223372036854775807<D.length+1:=O;have u:((n/10:Nat):Int)=(n:Int)/10:=O;rw[u]at c;clear s t u;have ht:(n:Int).tmod 10=(n:Int)%10:=Int.tmod_eq_emod_of_nonneg O;have G:IntKind.i64.wrap (48+(n:Int)%10)=48+(n:Int)%10:=Zw;have H:IntKind.i64.wrap ((n:Int)/10)=(n:Int)/10:=Zw;go_enter Tryz.func127,Tryz.ntmps127;go_upto_region 3 with fail;refine A5 11 (fun _=>True) U trivial (fun hH=>?_);refine A2 0 ?_;refine A2 1 ?_;refine A2 3 ?_;refine A2 4 ?_;refine A2 5 ?_;refine A2 6 ?_;refine J6 (i:=2) (j:=7) U rfl rfl U U (fun K a=>?_) (fun K a=>?_)
   ·go_simp;go_at_call 127;refine(c _).mono ?_;rintro e w2 ⟨rfl,b⟩;have v:Below w.heap.size w w2:=⟨b.os,b.tape,b.output,b.size,b.block⟩;clear b;refine E0 a trivial ?_;clear a K;refine wpS 7 fun K a=>?_;go_simp;refine E0 a trivial ?_;clear a K;have k:=conv_one (w2.alloc (.cells #[.int .u8 (d.toNat:Int)] 5)) w2.heap.size d (A1 (heap_alloc_new w2 _) rfl);refine wpS 8 fun K a=>?_;go_simp;refine E0 a trivial ?_;clear a K k;refine A2 9 ?_;refine A2 10 ?_;refine J5 ?_;clear hH;go_wp2_with fail;go_ret;refine⟨?_,v.alloc v.size _⟩;rw[g.o];exact congrArg (fun x=>Ending.returned (Value.string x)) (I7 _ _)
   ·go_simp;refine E0 a trivial ?_;clear a K;have l:(w.alloc (.cells #[.int .u8 (d.toNat:Int)] 5)).drew.cell? ⟨w.heap.size,0,none⟩=some (.int .u8 (d.toNat:Int)):=A1 (w:=(w.alloc (.cells #[.int .u8 (d.toNat:Int)] 5)).drew) (heap_alloc_new w _) rfl;have m:Below w.heap.size w (w.alloc (.cells #[.int .u8 (d.toNat:Int)] 5)).drew:=B3 ((Below.refl _ w).alloc (Nat.le_refl _) _) 1;have C:(w.alloc (.cells #[.int .u8 (d.toNat:Int)] 5)).drew.heap.size=w.heap.size+1:=Zs;generalize (w.alloc (.cells #[.int .u8 (d.toNat:Int)] 5)).drew=w1 at l m C⊢;have y:=A4 m;clear m;refine J6 (i:=2) (j:=8) U rfl rfl U U (fun K a=>?_) (fun K a=>?_)
    ·go_simp;go_at_call 127;refine(c _).mono ?_;rintro e w2 ⟨rfl,b⟩;have k:=conv_one w2 w.heap.size d ((b.cell (p:=⟨w.heap.size,0,none⟩) (by show w.heap.size<_;omega)).trans l);have q:Hd (Below w.heap.size w w2):=y.o.trans (b.mono O);clear b;refine E0 a trivial ?_;clear a K;refine wpS 8 fun K a=>?_;go_simp;refine E0 a trivial ?_;clear a K k;refine A2 9 ?_;refine A2 10 ?_;refine J5 ?_;clear hH;go_wp2_with fail;go_ret;refine⟨?_,q.o⟩;rw[g.o];exact congrArg (fun x=>Ending.returned (Value.string x)) (I7 _ _)
    ·have k:=conv_one w1 w.heap.size d l;go_simp;refine E0 a trivial ?_;clear a K k;refine wpS 2 fun K a=>?_;go_simp;go_at_call 127;refine(c _).mono ?_;rintro e w2 ⟨rfl,b⟩;have q:Hd (Below w.heap.size w w2):=y.o.trans (b.mono O);clear b;refine E0 a trivial ?_;clear a K;refine A2 9 ?_;refine A2 10 ?_;refine J5 ?_;clear hH;go_wp2_with fail;go_ret;refine⟨?_,q.o⟩;rw[g.o];exact congrArg (fun x=>Ending.returned (Value.string x)) (I7 _ _)
def lets (L:List Nat):ByteArray:=⟨(L.map Y8).toArray⟩
theorem L5 (L:List Nat):(lets L).size=L.length:=by simp[lets,ByteArray.size]
theorem A2Y (L:List Nat)(k:Nat)(h:k<(lets L).size):(lets L)[k]=Y8 (L.getD k 9):=by
 have a:k<L.length:=by rwa [L5]at h
 show(L.map Y8).toArray[k]'(by simpa using a)=_;simp[a]
theorem A2o (s:ByteArray)(k:Nat)(h:k<s.size):s.extract k (k+1)=⟨#[s[k]]⟩:=by
 apply ByteArray.ext;rw[ByteArray.data_extract];have b:k<s.data.size:=h;apply Array.ext
 ·simp;omega
 ·intro i h1 a;have hi:i=0:=by simpa using a
  subst hi;simp;rfl
theorem B0M (a b:Nat)(c:a≤2)(d:b≤2):((Y8 a).toNat:Int)=((Y8 b).toNat:Int)↔a=b:=by
 rcases (show a=0∨a=1∨a=2 by omega) with rfl|rfl|rfl<;>rcases (show b=0∨b=1∨b=2 by omega) with rfl|rfl|rfl<;>decide
theorem A8R (L:List Nat)(n:Nat)(B:L.length=n)(ao:n≤900)(T:∀x∈L,x≤2)(w:World) :
 Calls Tryz.prog 97 #[.string (lets L)] w fun e w'=>e=.returned (.string ⟨(G1 (rl L n).2).toArray⟩)∧Below w.heap.size w w':=by
 have ae:(lets L).size=n:=by rw[L5];exact B
 have l:Hd (∀k (h:k<(lets L).size),(lets L)[k]=Y8 (L.getD k 9)):=A2Y L;obtain⟨s,hs⟩:=A8 (lets L);rw[←hs]at ae l⊢;clear hs;have c:=A4 B;have C:=A4 T;clear B T;go_enter Tryz.func97,Tryz.ntmps97;go_wp2_with fail;go_loopw [3,4,5] (fun sv nv E wx=>∃k:Nat,k≤n∧E=I J k∧nv=I J (k-(rl L k).1:Nat)∧sv=.string ⟨(G1 (rl L k).2).toArray⟩∧Below w.heap.size w wx) (fun _ _ E _=>n-(intOf E).toNat);case atStart=>exact⟨0,Nat.zero_le _,rfl,rfl,rfl,Below.refl _ _⟩
 case round=>
  obtain⟨k,hk,rfl,rfl,rfl,V⟩:=hrel;have af:=(W2 L k).1;obtain⟨fr,F⟩:=A8 ((rl L k).1);obtain⟨G,m⟩:=A8 (G1 (rl L k).2);have X:=A1x L n (by rw[c.o];exact Nat.le_refl _) C.o k (by rw[c.o];exact hk);have ap:G.length≤30000:=by
   have h1:=A2S (rl L k).2 (fun p hp=>by have:=(X p hp).2.1;omega);have h2:=A2U L k;rw[m];omega
  rw[←F]at af⊢;rw[←m];have H:=A4 F;have r:=A4 m;have f:=A4 V;obtain⟨d,M⟩:=A8 (k-fr);have t:=A4 M;rw[←M];clear F m V X M;by_cases ag:k<n
  ·have Y:k<s.size:=O;have ah:(k:Int)<n:=O;have e1:=l.o k Y;obtain⟨g,u⟩:=A8 (L.getD k 9);have ai:g≤2:=by
    have N:k<L.length:=by rw[c.o];exact ag
    have:L.getD k 9∈L:=by simp[N]
    rw[u];exact C.o _ this
   have v:=A4 u;rw[←u]at e1;have aq:d≤900:=by have:=t.o;omega
   have ar:IntKind.i64.wrap ((d:Int)+1)=(d:Int)+1:=Zw;have au:IntKind.i64.wrap ((k:Int)+1)=(k:Int)+1:=Zw;have av:((k:Int)+1).toNat=k+1:=O;have aw:(0:Int)≤(k:Int)+1:=O;clear u;by_cases b:k+1=L.length∨L.getD (k+1) 9≠L.getD k 9
   ·have y:=A4 b;have z:=fun W=>A6M (d+1) (d+1) W (Nat.le_refl _) O;have aj:(Lib.decDigits (d+1)).length≤21:=by
     have:=Lib.itoa_length_le ((d+1:Nat):Int) O O;rwa [Lib.itoa_nonneg]at this
    obtain⟨D,P⟩:=A8 (Lib.decDigits (d+1));have aa:=A4 P;rw[←P]at z aj;have i:((d+1:Nat):Int)=(d:Int)+1:=O;rw[i]at z;have hx:=A2o s k Y;rw[e1]at hx;have ax:¬9223372036854775807<G.length+D.length:=O;have ay:¬9223372036854775807<G.length+D.length+1:=O;have az:(k:Int)+1≤n:=O;have aA:(k:Int)≤(k:Int)+1:=O;clear P i;by_cases ab:k+1<n
    ·have Q:k+1<s.size:=O;have ak:(k:Int)+1<n:=O;have ac:(((k:Int)+1)==(n:Int))=false:=by rw[beq_eq_false_iff_ne];omega
     have R:=l.o (k+1) Q;obtain⟨lm,A⟩:=A8 (L.getD (k+1) 9);rw[←A]at R;have al:lm≤2:=by
      have N:k+1<L.length:=by rw[c.o];exact ab
      have:L.getD (k+1) 9∈L:=by simp[N]
      rw[A];exact C.o _ this
     have aB:(((Y8 lm).toNat:Int)==((Y8 g).toNat:Int))=false:=by
      rw[beq_eq_false_iff_ne];show ¬_=_;rw[B0M lm g al ai,A,v.o];rcases b with h|h
      ·rw[c.o]at h;omega
      ·exact h
     clear b A;go_upto_region 7 with fail;refine A5 15 (fun _=>True) U trivial (fun hH=>?_);refine A2 0 ?_;refine A2 1 ?_;refine A2 2 ?_;refine A2 3 ?_;refine A2 4 ?_;refine A2 5 ?_;refine A2 6 ?_;refine A2 7 ?_;refine A2 8 ?_;refine A2 9 ?_;refine A2 10 ?_;refine A2 11 ?_;refine A2 12 ?_;refine A2 13 ?_;refine A2 14 ?_;refine J5 ?_;clear hH;go_wp2_with fail;refine A5 11 (fun _=>True) U trivial (fun hH=>?_);refine A2 0 ?_;refine A2 1 ?_;refine A2 4 ?_;refine A2 5 ?_;refine A2 6 ?_;refine A2 7 ?_;refine A2 8 ?_;refine wpS 2 fun K j=>?_;go_simp;go_at_call 127;refine(z _).mono ?_;rintro e w2 ⟨rfl,a⟩;have S:Hd (Below w.heap.size w w2):=f.o.trans ⟨a.os,a.tape,a.output,a.size,fun q i=>a.block q (Nat.lt_of_lt_of_le i f.o.size)⟩;clear a;refine E0 j trivial ?_;clear j K;refine A2 3 ?_;refine A2 9 ?_;refine A2 10 ?_;refine J5 ?_;clear hH;go_wp2_with fail;go_roundw;case rel=>
      have e:rl L (k+1)=(k+1,(rl L k).2++[(k+1-fr,g)]):=by
       rw[rl,if_pos y.o,←H.o,←v.o]
      refine⟨k+1,O,Zn,?_,?_,S.o⟩
      ·rw[e];simp
      ·rw[e];simp only;rw[N3,←r.o];refine congrArg Value.string ?_;have am:=t.o;simp only;rw[show k+1-fr=d+1 by omega,←aa.o];rw[I7,←List.append_assoc];exact I7 _ _
     case measure=>simp[intOf];omega
    ·have ac:(((k:Int)+1)==(n:Int))=true:=by rw[beq_iff_eq];omega
     clear b;go_upto_region 7 with fail;refine A5 15 (fun _=>True) U trivial (fun hH=>?_);refine A2 0 ?_;refine A2 1 ?_;refine A2 2 ?_;refine A2 3 ?_;refine A2 4 ?_;refine A2 5 ?_;refine E3 6 ?_;refine E3 7 ?_;refine E3 8 ?_;refine E3 9 ?_;refine E3 10 ?_;refine E3 11 ?_;refine E3 12 ?_;refine E3 13 ?_;refine A2 14 ?_;refine J5 ?_;clear hH;go_wp2_with fail;refine A5 11 (fun _=>True) U trivial (fun hH=>?_);refine A2 0 ?_;refine A2 1 ?_;refine A2 4 ?_;refine A2 5 ?_;refine A2 6 ?_;refine A2 7 ?_;refine A2 8 ?_;refine wpS 2 fun K j=>?_;go_simp;go_at_call 127;refine(z _).mono ?_;rintro e w2 ⟨rfl,a⟩;have S:Hd (Below w.heap.size w w2):=f.o.trans ⟨a.os,a.tape,a.output,a.size,fun q i=>a.block q (Nat.lt_of_lt_of_le i f.o.size)⟩;clear a;refine E0 j trivial ?_;clear j K;refine A2 3 ?_;refine A2 9 ?_;refine A2 10 ?_;refine J5 ?_;clear hH;go_wp2_with fail;go_roundw;case rel=>
      have e:rl L (k+1)=(k+1,(rl L k).2++[(k+1-fr,g)]):=by
       rw[rl,if_pos y.o,←H.o,←v.o]
      refine⟨k+1,O,Zn,?_,?_,S.o⟩
      ·rw[e];simp
      ·rw[e];simp only;rw[N3,←r.o];refine congrArg Value.string ?_;have am:=t.o;simp only;rw[show k+1-fr=d+1 by omega,←aa.o];rw[I7,←List.append_assoc];exact I7 _ _
     case measure=>simp[intOf];omega
   ·have ab:k+1<n:=by
     rw[c.o]at b;rcases Nat.lt_or_ge (k+1) n with h|h
     ·exact h
     ·exact absurd (Or.inl O) b
    have Q:k+1<s.size:=O;have ak:(k:Int)+1<n:=O;have ac:(((k:Int)+1)==(n:Int))=false:=by rw[beq_eq_false_iff_ne];omega
    have R:=l.o (k+1) Q;have ad:L.getD (k+1) 9=g:=by
     rw[v.o];exact Decidable.byContradiction (fun h=>b (Or.inr h))
    rw[ad]at R;have y:=A4 b;clear b ad;go_upto_region 7 with fail;refine A5 15 (fun _=>True) U trivial (fun hH=>?_);refine A2 0 ?_;refine A2 1 ?_;refine A2 2 ?_;refine A2 3 ?_;refine A2 4 ?_;refine A2 5 ?_;refine A2 6 ?_;refine A2 7 ?_;refine A2 8 ?_;refine A2 9 ?_;refine A2 10 ?_;refine A2 11 ?_;refine A2 12 ?_;refine A2 13 ?_;refine A2 14 ?_;refine J5 ?_;clear hH;go_wp2_with fail;go_roundw;case rel=>
     have e:rl L (k+1)=rl L k:=by rw[rl,if_neg y.o]
     refine⟨k+1,O,Zn,?_,?_,B3 f.o 1⟩
     ·rw[e,←H.o];have:=t.o;rw[show(k+1-fr:Nat)=d+1 by omega];go_num
     ·rw[e,←r.o]
    case measure=>simp[intOf];omega
  ·have an:k=n:=O;subst an;have ah:¬(k:Int)<k:=O;go_wp2_with fail;go_ret;refine⟨?_,f.o⟩;rw[r.o];rfl
theorem B1O (read ref:ByteArray)(i j:Nat)(hi:i<read.size)(a:j<ref.size):uB read[i] ref[j]=uR read ref i j:=by
 unfold uR;have h1:read.data.toList.getD i 0=read[i]:=by
  have:i<read.data.toList.length:=by simpa using hi
  rw[List.getD_eq_getElem?_getD,List.getElem?_eq_getElem this];rfl
 have b:ref.data.toList.getD j 0=ref[j]:=by
  have:j<ref.data.toList.length:=by simpa using a
  rw[List.getD_eq_getElem?_getD,List.getElem?_eq_getElem this];rfl
 rw[h1,b]
theorem A8j (L:List Nat)(l:Nat):lets (L++[l])=lets L++⟨#[Y8 l]⟩:=by
 have:=I7 (L.map Y8) [Y8 l];unfold lets;rw[List.map_append];exact this.symm
theorem B2k (c:C3)(a:Int)(h:a=aM c):(c.m=a∧nx c 0=0∧a=pv c 0)∨(¬c.m=a∧c.i=a∧nx c 0=1∧a=pv c 1)∨(¬c.m=a∧¬c.i=a∧nx c 0=2∧a=pv c 2):=by
 obtain⟨h1,b⟩:=nx0 c;rw[←h]at h1 b;by_cases m1:c.m=a
 ·rw[if_pos m1]at h1;rw[←h1]at b;exact Or.inl ⟨m1,h1.symm,b.symm⟩
 ·rw[if_neg m1]at h1;by_cases m2:c.i=a
  ·rw[if_pos m2]at h1;rw[←h1]at b;exact Or.inr (Or.inl ⟨m1,m2,h1.symm,b.symm⟩)
  ·rw[if_neg m2]at h1;rw[←h1]at b;exact Or.inr (Or.inr ⟨m1,m2,h1.symm,b.symm⟩)
def GL (read ref:ByteArray)(W:World)(G:Nat)(vM vI vD:Value)(gM oM gI oI gD oD:Nat)(bM bI bD:Nat→Nat):Prop:=
 W.cell? ⟨G,0,none⟩=some (.string read)∧W.cell? ⟨G,1,none⟩=some (.string ref)∧W.cell? ⟨G,2,none⟩=some vM∧W.cell? ⟨G,3,none⟩=some vI∧W.cell? ⟨G,4,none⟩=some vD∧
 (∀t,t≤read.size→W.cell? ⟨gM,oM+t,none⟩=some (.slice (some ⟨bM t,0,none⟩) (ref.size+1) (ref.size+1))∧W.cell? ⟨gI,oI+t,none⟩=some (.slice (some ⟨bI t,0,none⟩) (ref.size+1) (ref.size+1))∧W.cell? ⟨gD,oD+t,none⟩=some (.slice (some ⟨bD t,0,none⟩) (ref.size+1) (ref.size+1)))∧
 (∀t k,t≤read.size→k≤ref.size→W.cell? ⟨bM t,k,none⟩=some (I J (cel 1000000000 (uR read ref) t k).m)∧W.cell? ⟨bI t,k,none⟩=some (I J (cel 1000000000 (uR read ref) t k).i)∧W.cell? ⟨bD t,k,none⟩=some (I J (cel 1000000000 (uR read ref) t k).d))
theorem TbI.gl {read ref:ByteArray}{u w:World}{G:Nat}(h:TbI read ref u w G (read.size+1)) :
 ∃c oM m d oI n f oD o i j l,∀W,Below w.heap.size w W→GL read ref W G (.slice (some ⟨c,oM,none⟩) (read.size+1) m) (.slice (some ⟨d,oI,none⟩) (read.size+1) n) (.slice (some ⟨f,oD,none⟩) (read.size+1) o) c oM d oI f oD i j l:=by
 obtain⟨A,B,C,i,j,l,ht,_,_,a⟩:=h;have q:=ht.oM;have r:=ht.oI;have s:=ht.oD;have hG:=ht.hG;obtain⟨c,oM,m,rfl,_,v⟩:=q.addr O;obtain⟨d,oI,n,rfl,_,x⟩:=r.addr O;obtain⟨f,oD,o,rfl,_,y⟩:=s.addr O;refine⟨c,oM,m,d,oI,n,f,oD,o,i,j,l,fun W z=>?_⟩;have g:=lt_of_block hG;have cl:∀(b k:Nat),b<w.heap.size→W.cell? ⟨b,k,none⟩=w.cell? ⟨b,k,none⟩:=fun b k h=>z.cell (p:=⟨b,k,none⟩) h;refine⟨(cl G 0 g).trans (A1 hG rfl),(cl G 1 g).trans (A1 hG rfl),(cl G 2 g).trans (A1 hG rfl),(cl G 3 g).trans (A1 hG rfl),(cl G 4 g).trans (A1 hG rfl),fun t ht=>⟨?_,?_,?_⟩,fun t k ht hk=>⟨?_,?_,?_⟩⟩
 ·exact(cl c _ v).trans (q.cell (T1 i (read.size+1) ref.size t O))
 ·exact(cl d _ x).trans (r.cell (T1 j (read.size+1) ref.size t O))
 ·exact(cl f _ y).trans (s.cell (T1 l (read.size+1) ref.size t O))
 ·exact(cl _ _ (a t O).1.lt).trans ((a t O).1.cell k O)
 ·exact(cl _ _ (a t O).2.1.lt).trans ((a t O).2.1.cell k O)
 ·exact(cl _ _ (a t O).2.2.lt).trans ((a t O).2.2.cell k O)
def LtI (read ref:ByteArray)(w wx:World)(i j l:Nat)(cost:Int)(o:ByteArray):Prop:=
 ∃(L:List Nat) (f x:Nat),i≤read.size∧j≤ref.size∧i+j≤f∧L.length+(i+j)≤read.size+ref.size∧l=nx (cel 1000000000 (uR read ref) i j) x∧cost=pv (cel 1000000000 (uR read ref) i j) l∧o=lets L∧
  L++path 1000000000 (uR read ref) f i j x=path 1000000000 (uR read ref) (read.size+ref.size) read.size ref.size 0∧Below w.heap.size w wx
theorem LtI.step {read ref:ByteArray}{w wx w':World}{i j l:Nat}{cost:Int}{o:ByteArray}(y:read.size≤300)(z:ref.size≤600)(h:LtI read ref w wx i j l cost o)(r:0<i+j)(s:Below w.heap.size w w')(d g l':Nat)(n:Int)(a:d=if l=2 then i else i-1)(b:g=if l=1 then j else j-1)
 (t:l'=nx (cel 1000000000 (uR read ref) d g) l)(u:n=pv (cel 1000000000 (uR read ref) d g) l'):LtI read ref w w' d g l' n (o++⟨#[Y8 l]⟩):=by
 obtain⟨L,f,x,h1,A,B,C,p,D,v,q,E⟩:=h;obtain⟨m,rfl⟩:∃m,f=m+1:=⟨f-1,O⟩;have k:=X9 1000000000 O (cel 1000000000 (uR read ref) i j) i j O O (F6 1000000000 O (uR read ref) (P0 read ref) i j O O) r x;have hle:=A1m (cel 1000000000 (uR read ref) i j) x;rw[←p]at k hle;have F:d≤i:=by rw[a];split<;>omega
 have G:g≤j:=by rw[b];split<;>omega
 have H:d+g+1≤i+j:=by
  rcases (show l=0∨l=1∨l=2 by omega) with c|c|c
  ·have:=k.1 c;rw[c]at a b;simp at a b;omega
  ·have:=k.2.1 c;rw[c]at a b;simp at a b;omega
  ·have:=k.2.2 c;rw[c]at a b;simp at a b;omega
 refine⟨L++[l],m,l,O,O,O,Zo,t,u,by rw[A8j,v],?_,s⟩;rw[path,if_neg O,←p,←a,←b]at q;rw[List.append_assoc];exact q
def sR (read ref:ByteArray)(i j:Nat):Bool:=sB (read.data.toList.getD i 0) (ref.data.toList.getD j 0)
theorem A7p (s:ByteArray)(i:Nat)(h:i<s.size):s.data.toList.getD i 0=s[i]:=by
 have:i<s.data.toList.length:=by simpa using h
 rw[List.getD_eq_getElem?_getD,List.getElem?_eq_getElem this];rfl
theorem B2y (read ref:ByteArray)(i j:Nat)(hi:i<read.size)(a:j<ref.size):sB read[i] ref[j]=sR read ref i j:=by
 unfold sR;rw[A7p read i hi,A7p ref j a]
theorem A9J:∀(L:List Nat) (p:Nat×Nat),p.1≤(L.foldl stF p).1∧p.2≤(L.foldl stF p).2
 |[],p=>⟨Nat.le_refl _,Nat.le_refl _⟩
 |l::L,p=>by
  have h:=A9J L (stF p l)
  have h1:p.1≤(stF p l).1:=by unfold stF;simp only;split<;>omega
  have a:p.2≤(stF p l).2:=by unfold stF;simp only;split<;>omega
  exact⟨Nat.le_trans h1 h.1,Nat.le_trans a h.2⟩
def fwd (read ref:ByteArray):List Nat:=(path 1000000000 (uR read ref) (read.size+ref.size) read.size ref.size 0).reverse
theorem B1C (read ref:ByteArray)(a:read.size≤300)(hm:ref.size≤600):(fwd read ref).foldl stF (0,0)=(read.size,ref.size):=
 A2K _ _ _ (A0M 1000000000 O (uR read ref) (P0 read ref) _ _ _ 0 a hm (Nat.le_refl _))
theorem B13 (read ref:ByteArray)(a:read.size≤300)(hm:ref.size≤600)(k:Nat)(hk:k<(fwd read ref).length) :
 let p:=((fwd read ref).take k).foldl stF (0,0)
 (stF p ((fwd read ref).getD k 9)).1≤read.size∧(stF p ((fwd read ref).getD k 9)).2≤ref.size:=by
 have h:=B1C read ref a hm;have e:fwd read ref=(fwd read ref).take k++((fwd read ref).getD k 9::(fwd read ref).drop (k+1)):=by
  have h1:(fwd read ref).getD k 9=(fwd read ref)[k]:=by simp[hk]
  rw[h1];have:=List.take_append_drop k (fwd read ref);rw[List.drop_eq_getElem_cons hk]at this;exact this.symm
 rw[e,List.foldl_append,List.foldl_cons]at h;have g:=A9J ((fwd read ref).drop (k+1)) (stF (((fwd read ref).take k).foldl stF (0,0)) ((fwd read ref).getD k 9));rw[h]at g;exact g
theorem A8P (l:Nat)(L:List Nat):lets (l::L)=⟨#[Y8 l]⟩++lets L:=by
 have:=I7 [Y8 l] (L.map Y8);unfold lets;rw[List.map_cons];exact this.symm
theorem A3r (L:List Nat)(k:Nat)(h:k<L.length):(L.take (k+1)).reverse=L.getD k 9::(L.take k).reverse:=by
 rw[List.take_succ_eq_append_getElem h,List.reverse_append];simp[h]
theorem A9U (L:List Nat):(rl L L.length).1=L.length:=by
 cases h:L.length with
 |zero=>rfl
 |succ k=>
  show(if k+1=L.length∨L.getD (k+1) 9≠L.getD k 9 then(k+1,(rl L k).2++[(k+1-(rl L k).1,L.getD k 9)]) else rl L k).1=_;rw[if_pos (Or.inl h.symm)]
def B0:Code→Option Code
 |.loop c=>some c
 |.seq a b=>match B0 a with
  |some c=>some c
  |none=>B0 b
 |.block _ c=>B0 c
 |.scope c=>B0 c
 |.cond _ a b=>match B0 a with
  |some c=>some c
  |none=>B0 b
 |_=>none
def LI (read ref:ByteArray)(w:World)(G:Nat)(a:Act)(wx:World):Prop:=∃(i j l:Nat) (c:Int) (o:ByteArray),LtI read ref w wx i j l c o∧Fr 206 [(0,.pointer (some ⟨G,0,none⟩)),(1,undef),(2,.string ⟨#[]⟩),(3,I J i),(4,I J j),(5,I J c),(6,.string ⟨#[Y8 l]⟩),(7,.string o)] a
def Lmu (a:Act)(_:World):Nat:=(intOf (a.tmps.getD 3 undef)).toNat+(intOf (a.tmps.getD 4 undef)).toNat
theorem A92 (read ref:ByteArray)(R:read.size≤300)(hm:ref.size≤600)(w wr:World)(G l oM M m oI N gD oD cD:Nat)(q r bD:Nat→Nat)(ag:∀W,Below w.heap.size w W→GL read ref W G (.slice (some ⟨l,oM,none⟩) (read.size+1) M) (.slice (some ⟨m,oI,none⟩) (read.size+1) N) (.slice (some ⟨gD,oD,none⟩) (read.size+1) cD) l oM m oI gD oD q r bD)
 (i j:Nat)(c:Int)(o:ByteArray)(hI:LtI read ref w wr i j 0 c o)(hp:0<i+j)(fa:Act)(ai:Fr 206 [(0,.pointer (some ⟨G,0,none⟩)),(1,undef),(2,.string ⟨#[]⟩),(3,I J i),(4,I J j),(5,I J c),(6,.string ⟨#[Y8 0]⟩),(7,.string o)] fa)(Q0:Exit→Act→World→Prop)(hQ0:∀(c:List PanicEntry) (a:Act) (d:Option Tmp) (v:Value) (w:World),Q0 (.panic c) (a.put d v) w→Q0 (.panic c) a w)(B:Code)(hB:Tryz.f125.body.bind B0=some B) :
 Code.wp Tryz.prog B (Exit.then (fun a' w'=>LI read ref w G a' w'∧Lmu a' w'<Lmu fa wr) Q0) fa wr:=by
 have S:=hB
 conv at S=>lhs;whnf
 injection S with S
 subst S
 clear hB
 obtain⟨f0,rfl,ab⟩:=ai
 simp only[Hs]at ab
 simp only[fr,Y7,Nat.reduceAdd,ab]
 clear ab
 have T:=A4 hI
 have V:=fun x y W=>T6 x y W
 have aj:=A4 ag
 clear ag
 obtain⟨L,f,x,h1,h2,h3,h4,h5,h6,h7,h8,h9⟩:=hI
 have aq:o.size≤900:=by rw[h7,L5];omega
 have ar:¬9223372036854775807<o.size+1:=O
 have au:¬(9223372036854775807:Int)<(o.size:Int)+1:=O
 have av:o.size+1≤9223372036854775807:=O
 have aw:IntKind.i64.wrap ((i:Int)+(j:Int))=(i:Int)+j:=Zw
 have X:=A4 h9
 have ax:(0:Int)<(i:Int)+j:=O
 have ac:=X9 1000000000 O (cel 1000000000 (uR read ref) i j) i j O O (F6 1000000000 O (uR read ref) (P0 read ref) i j O O) hp x
 have hle:=A1m (cel 1000000000 (uR read ref) i j) x
 rw[←h5]at ac hle
 obtain⟨z0,s,z2,z3,z4,zr,zc⟩:=aj.o wr h9
 have ak:=ac.1 rfl
 rw[show Y8 0=(77:UInt8) from rfl]
 obtain⟨b,ad⟩:∃b,i=b+1:=⟨i - 1,O⟩
 have ay:IntKind.i64.wrap ((i:Int) - 1)=(b:Int):=Zw
 have az:(b:Int)<(read.size:Int)+1:=O
 obtain⟨g,ae⟩:∃g,j=g+1:=⟨j - 1,O⟩
 have aA:IntKind.i64.wrap ((j:Int) - 1)=(g:Int):=Zw
 have aB:(g:Int)<(ref.size:Int)+1:=O
 obtain⟨t,z,r3⟩:=zr b O
 obtain⟨s1,s2,s3⟩:=zc b g O O
 have Y:=U9 read ref b g O O
 have aa:c=aM (cel 1000000000 (uR read ref) b g)+uR read ref b g:=by rw[h6,ad,ae];rfl
 have hN:=B2k (cel 1000000000 (uR read ref) b g) (c - uR read ref b g) O
 obtain⟨cc,af⟩:=A8 (cel 1000000000 (uR read ref) b g)
 have A:=A4 af
 rw[←af]at s1 s2 s3 Y hN aa
 obtain⟨h,ci,H⟩:=cc
 unfold okB at Y
 have ah:aM ⟨h,ci,H⟩=min h (min ci H):=rfl
 have al:aI ⟨h,ci,H⟩=min (h+4) (min ci (H+4)):=rfl
 have am:aD ⟨h,ci,H⟩=min (h+4) (min (ci+4) H):=rfl
 rw[ah]at aa
 simp only at s1 s2 s3 Y hN
 have an:=P0 read ref b g
 have ao:b<read.size:=O
 have ap:g<ref.size:=O
 have P:=B1O read ref b g ao ap
 have aC:(b:Int)<read.size:=O
 have aE:(g:Int)<ref.size:=O
 obtain⟨u,hu⟩:=A8 (uR read ref b g)
 rw[←hu]at aa hN an P
 clear hu
 have aF:0≤c - u∧c - u≤1500000000:=O
 have aG:IntKind.i64.wrap (c - u)=c - u:=Zw
 have HH:=A4 hp
 have C:=A4 ad
 have D:=A4 ae
 clear h7 hp ak h1 h2 h3 h4 ad ae zr zc af Y aa h5 h6 h8 ac ah al am z4 r3 s3
 rcases hN with ⟨n1,n,p⟩ | ⟨n1,n,p,Q⟩ | ⟨n1,n,p,Q⟩
 ·have q1:((h:Int)==c - u)=true:=by rw[beq_iff_eq];exact n1
  by_cases n9:ci=c - u
  ·have q2:((ci:Int)==c - u)=true:=by rw[beq_iff_eq];exact n9
   have E:=A4 n
   have F:=A4 p
   clear n1 n p n9
   go_upto_region 14 with fail
   refine A5 18 (fun W=>W.cell? ⟨G,0,none⟩=some (.string read)∧W.cell? ⟨G,1,none⟩=some (.string ref)) U ⟨z0,s⟩ (fun hH=>?_)
   refine A2 0 ?_
   refine A2 1 ?_
   refine A2 2 ?_
   refine A2 3 ?_
   refine A2 4 ?_
   refine A2 5 ?_
   refine A2 6 ?_
   refine A2 7 ?_
   refine A2 8 ?_
   refine A2 9 ?_
   refine A2 10 ?_
   refine A2 11 ?_
   refine A2 12 ?_
   refine A2 13 ?_
   refine A2 14 ?_
   refine wpS 15 fun K k=>?_
   go_simp
   go_at_call 170
   refine (V _ _ _).mono ?_
   rintro e w9 ⟨rfl,rfl⟩
   rw[P]
   refine E0 k hH ?_
   clear k K
   refine A2 16 ?_
   refine A2 17 ?_
   refine J5 ?_
   clear hH
   have e2:wr.drew.cell? ⟨G,2,none⟩=some (.slice (some ⟨l,oM,none⟩) (read.size+1) M):=z2
   have e3:wr.drew.cell? ⟨G,3,none⟩=some (.slice (some ⟨m,oI,none⟩) (read.size+1) N):=z3
   have e4:wr.drew.cell? ⟨l,oM+b,none⟩=some (.slice (some ⟨q b,0,none⟩) (ref.size+1) (ref.size+1)):=t
   have e5:wr.drew.cell? ⟨m,oI+b,none⟩=some (.slice (some ⟨r b,0,none⟩) (ref.size+1) (ref.size+1)):=z
   have e6:wr.drew.cell? ⟨q b,g,none⟩=some (I J h):=s1
   have e7:wr.drew.cell? ⟨r b,g,none⟩=some (I J ci):=s2
   clear z0 s z2 z3 t z s1 s2
   go_wp2_with fail
   refine⟨?_,?_⟩
   ·refine⟨b,g,0,c - u,_,?_,Fr.of _ rfl ⟨rfl,rfl,rfl,rfl,rfl,rfl,rfl,rfl,trivial⟩⟩
    exact LtI.step R hm T.o HH.o (B3 X.o 1) b g 0 (c - u) (by first | (have:=C.o;simp;omega) | simp) (by first | (have:=D.o;simp;omega) | simp) (by rw[←A.o];exact E.o.symm) (by rw[←A.o];exact F.o)
   ·(try have m1:=C.o);(try have m2:=D.o);simp[Lmu,intOf];omega
  ·have q2:((ci:Int)==c - u)=false:=by rw[beq_eq_false_iff_ne];exact n9
   have E:=A4 n
   have F:=A4 p
   clear n1 n p n9
   go_upto_region 14 with fail
   refine A5 18 (fun W=>W.cell? ⟨G,0,none⟩=some (.string read)∧W.cell? ⟨G,1,none⟩=some (.string ref)) U ⟨z0,s⟩ (fun hH=>?_)
   refine A2 0 ?_
   refine A2 1 ?_
   refine A2 2 ?_
   refine A2 3 ?_
   refine A2 4 ?_
   refine A2 5 ?_
   refine A2 6 ?_
   refine A2 7 ?_
   refine A2 8 ?_
   refine A2 9 ?_
   refine A2 10 ?_
   refine A2 11 ?_
   refine A2 12 ?_
   refine A2 13 ?_
   refine A2 14 ?_
   refine wpS 15 fun K k=>?_
   go_simp
   go_at_call 170
   refine (V _ _ _).mono ?_
   rintro e w9 ⟨rfl,rfl⟩
   rw[P]
   refine E0 k hH ?_
   clear k K
   refine A2 16 ?_
   refine A2 17 ?_
   refine J5 ?_
   clear hH
   have e2:wr.drew.cell? ⟨G,2,none⟩=some (.slice (some ⟨l,oM,none⟩) (read.size+1) M):=z2
   have e3:wr.drew.cell? ⟨G,3,none⟩=some (.slice (some ⟨m,oI,none⟩) (read.size+1) N):=z3
   have e4:wr.drew.cell? ⟨l,oM+b,none⟩=some (.slice (some ⟨q b,0,none⟩) (ref.size+1) (ref.size+1)):=t
   have e5:wr.drew.cell? ⟨m,oI+b,none⟩=some (.slice (some ⟨r b,0,none⟩) (ref.size+1) (ref.size+1)):=z
   have e6:wr.drew.cell? ⟨q b,g,none⟩=some (I J h):=s1
   have e7:wr.drew.cell? ⟨r b,g,none⟩=some (I J ci):=s2
   clear z0 s z2 z3 t z s1 s2
   go_wp2_with fail
   refine⟨?_,?_⟩
   ·refine⟨b,g,0,c - u,_,?_,Fr.of _ rfl ⟨rfl,rfl,rfl,rfl,rfl,rfl,rfl,rfl,trivial⟩⟩
    exact LtI.step R hm T.o HH.o (B3 X.o 1) b g 0 (c - u) (by first | (have:=C.o;simp;omega) | simp) (by first | (have:=D.o;simp;omega) | simp) (by rw[←A.o];exact E.o.symm) (by rw[←A.o];exact F.o)
   ·(try have m1:=C.o);(try have m2:=D.o);simp[Lmu,intOf];omega
 ·have q1:((h:Int)==c - u)=false:=by rw[beq_eq_false_iff_ne];exact n1
  have q2:((ci:Int)==c - u)=true:=by rw[beq_iff_eq];exact n
  have E:=A4 p
  have F:=A4 Q
  clear n1 n p Q
  go_upto_region 14 with fail
  refine A5 18 (fun W=>W.cell? ⟨G,0,none⟩=some (.string read)∧W.cell? ⟨G,1,none⟩=some (.string ref)) U ⟨z0,s⟩ (fun hH=>?_)
  refine A2 0 ?_
  refine A2 1 ?_
  refine A2 2 ?_
  refine A2 3 ?_
  refine A2 4 ?_
  refine A2 5 ?_
  refine A2 6 ?_
  refine A2 7 ?_
  refine A2 8 ?_
  refine A2 9 ?_
  refine A2 10 ?_
  refine A2 11 ?_
  refine A2 12 ?_
  refine A2 13 ?_
  refine A2 14 ?_
  refine wpS 15 fun K k=>?_
  go_simp
  go_at_call 170
  refine (V _ _ _).mono ?_
  rintro e w9 ⟨rfl,rfl⟩
  rw[P]
  refine E0 k hH ?_
  clear k K
  refine A2 16 ?_
  refine A2 17 ?_
  refine J5 ?_
  clear hH
  have e2:wr.drew.cell? ⟨G,2,none⟩=some (.slice (some ⟨l,oM,none⟩) (read.size+1) M):=z2
  have e3:wr.drew.cell? ⟨G,3,none⟩=some (.slice (some ⟨m,oI,none⟩) (read.size+1) N):=z3
  have e4:wr.drew.cell? ⟨l,oM+b,none⟩=some (.slice (some ⟨q b,0,none⟩) (ref.size+1) (ref.size+1)):=t
  have e5:wr.drew.cell? ⟨m,oI+b,none⟩=some (.slice (some ⟨r b,0,none⟩) (ref.size+1) (ref.size+1)):=z
  have e6:wr.drew.cell? ⟨q b,g,none⟩=some (I J h):=s1
  have e7:wr.drew.cell? ⟨r b,g,none⟩=some (I J ci):=s2
  clear z0 s z2 z3 t z s1 s2
  go_wp2_with fail
  refine⟨?_,?_⟩
  ·refine⟨b,g,1,c - u,_,?_,Fr.of _ rfl ⟨rfl,rfl,rfl,rfl,rfl,rfl,rfl,rfl,trivial⟩⟩
   exact LtI.step R hm T.o HH.o (B3 X.o 1) b g 1 (c - u) (by first | (have:=C.o;simp;omega) | simp) (by first | (have:=D.o;simp;omega) | simp) (by rw[←A.o];exact E.o.symm) (by rw[←A.o];exact F.o)
  ·(try have m1:=C.o);(try have m2:=D.o);simp[Lmu,intOf];omega
 ·have q1:((h:Int)==c - u)=false:=by rw[beq_eq_false_iff_ne];exact n1
  have q2:((ci:Int)==c - u)=false:=by rw[beq_eq_false_iff_ne];exact n
  have E:=A4 p
  have F:=A4 Q
  clear n1 n p Q
  go_upto_region 14 with fail
  refine A5 18 (fun W=>W.cell? ⟨G,0,none⟩=some (.string read)∧W.cell? ⟨G,1,none⟩=some (.string ref)) U ⟨z0,s⟩ (fun hH=>?_)
  refine A2 0 ?_
  refine A2 1 ?_
  refine A2 2 ?_
  refine A2 3 ?_
  refine A2 4 ?_
  refine A2 5 ?_
  refine A2 6 ?_
  refine A2 7 ?_
  refine A2 8 ?_
  refine A2 9 ?_
  refine A2 10 ?_
  refine A2 11 ?_
  refine A2 12 ?_
  refine A2 13 ?_
  refine A2 14 ?_
  refine wpS 15 fun K k=>?_
  go_simp
  go_at_call 170
  refine (V _ _ _).mono ?_
  rintro e w9 ⟨rfl,rfl⟩
  rw[P]
  refine E0 k hH ?_
  clear k K
  refine A2 16 ?_
  refine A2 17 ?_
  refine J5 ?_
  clear hH
  have e2:wr.drew.cell? ⟨G,2,none⟩=some (.slice (some ⟨l,oM,none⟩) (read.size+1) M):=z2
  have e3:wr.drew.cell? ⟨G,3,none⟩=some (.slice (some ⟨m,oI,none⟩) (read.size+1) N):=z3
  have e4:wr.drew.cell? ⟨l,oM+b,none⟩=some (.slice (some ⟨q b,0,none⟩) (ref.size+1) (ref.size+1)):=t
  have e5:wr.drew.cell? ⟨m,oI+b,none⟩=some (.slice (some ⟨r b,0,none⟩) (ref.size+1) (ref.size+1)):=z
  have e6:wr.drew.cell? ⟨q b,g,none⟩=some (I J h):=s1
  have e7:wr.drew.cell? ⟨r b,g,none⟩=some (I J ci):=s2
  clear z0 s z2 z3 t z s1 s2
  go_wp2_with fail
  refine⟨?_,?_⟩
  ·refine⟨b,g,2,c - u,_,?_,Fr.of _ rfl ⟨rfl,rfl,rfl,rfl,rfl,rfl,rfl,rfl,trivial⟩⟩
   exact LtI.step R hm T.o HH.o (B3 X.o 1) b g 2 (c - u) (by first | (have:=C.o;simp;omega) | simp) (by first | (have:=D.o;simp;omega) | simp) (by rw[←A.o];exact E.o.symm) (by rw[←A.o];exact F.o)
  ·(try have m1:=C.o);(try have m2:=D.o);simp[Lmu,intOf];omega
theorem B0w (read ref:ByteArray)(A:read.size≤300)(hm:ref.size≤600)(w wr:World)(G S oM cM T oI cI V oD cD:Nat)(bM bI bD:Nat→Nat)(X:∀W,Below w.heap.size w W→GL read ref W G (.slice (some ⟨S,oM,none⟩) (read.size+1) cM) (.slice (some ⟨T,oI,none⟩) (read.size+1) cI) (.slice (some ⟨V,oD,none⟩) (read.size+1) cD) S oM T oI V oD bM bI bD)
 (i j:Nat)(c:Int)(o:ByteArray)(Y:LtI read ref w wr i j 1 c o)(C:0<i+j)(D:Act)(ab:Fr 206 [(0,.pointer (some ⟨G,0,none⟩)),(1,undef),(2,.string ⟨#[]⟩),(3,I J i),(4,I J j),(5,I J c),(6,.string ⟨#[Y8 1]⟩),(7,.string o)] D)(E:Exit→Act→World→Prop)(hQ0:∀(c:List PanicEntry) (a:Act) (d:Option Tmp) (v:Value) (w:World),E (.panic c) (a.put d v) w→E (.panic c) a w)(B:Code)(hB:Tryz.f125.body.bind B0=some B) :
 Code.wp Tryz.prog B (Exit.then (fun a' w'=>LI read ref w G a' w'∧Lmu a' w'<Lmu D wr) E) D wr:=by
 have s:=hB
 conv at s=>lhs;whnf
 injection s with s
 subst s
 clear hB
 obtain⟨f0,rfl,F⟩:=ab
 simp only[Hs]at F
 simp only[fr,Y7,Nat.reduceAdd,F]
 clear F
 have H:=A4 Y
 have cU:=fun x y W=>T6 x y W
 have ac:=A4 X
 clear X
 obtain⟨L,f,x,h1,h2,h3,h4,h5,h6,h7,h8,h9⟩:=Y
 have ag:o.size≤900:=by rw[h7,L5];omega
 have ah:¬9223372036854775807<o.size+1:=O
 have ai:¬(9223372036854775807:Int)<(o.size:Int)+1:=O
 have aj:o.size+1≤9223372036854775807:=O
 have ak:IntKind.i64.wrap ((i:Int)+(j:Int))=(i:Int)+j:=Zw
 have K:=A4 h9
 have al:(0:Int)<(i:Int)+j:=O
 have M:=X9 1000000000 O (cel 1000000000 (uR read ref) i j) i j O O (F6 1000000000 O (uR read ref) (P0 read ref) i j O O) C x
 have hle:=A1m (cel 1000000000 (uR read ref) i j) x
 rw[←h5]at M hle
 obtain⟨z0,z1,z2,z3,z4,zr,zc⟩:=ac.o wr h9
 have ad:=M.2.1 rfl
 rw[show Y8 1=(73:UInt8) from rfl]
 obtain⟨b,N⟩:∃b,i=b+1:=⟨i - 1,O⟩
 have am:IntKind.i64.wrap ((i:Int) - 1)=(b:Int):=Zw
 have an:(b:Int)<(read.size:Int)+1:=O
 have ao:(j:Int)<(ref.size:Int)+1:=O
 obtain⟨r1,r2,r3⟩:=zr b O
 obtain⟨s1,s2,P⟩:=zc b j O O
 have t:=U9 read ref b j O O
 have u:c=aI (cel 1000000000 (uR read ref) b j)+2:=by
  rw[h6,N]
  cases j<;>rfl
 have z:=nx1 (cel 1000000000 (uR read ref) b j)
 rw[←u]at z
 obtain⟨cc,Q⟩:=A8 (cel 1000000000 (uR read ref) b j)
 have l:=A4 Q
 rw[←Q]at s1 s2 P t z u
 obtain⟨g,ci,m⟩:=cc
 unfold okB at t
 have ae:aM ⟨g,ci,m⟩=min g (min ci m):=rfl
 have aa:aI ⟨g,ci,m⟩=min (g+4) (min ci (m+4)):=rfl
 have af:aD ⟨g,ci,m⟩=min (g+4) (min (ci+4) m):=rfl
 rw[aa]at u
 simp only at s1 s2 P t z
 have ap:0≤c∧c≤1600000000:=O
 have w6:IntKind.i64.wrap (g+6)=g+6:=Zw
 have wi:IntKind.i64.wrap (ci+2)=ci+2:=Zw
 have c6:IntKind.i64.wrap (c - 6)=c - 6:=Zw
 have c2:IntKind.i64.wrap (c - 2)=c - 2:=Zw
 have R:=A4 C
 have n:=A4 N
 clear h7 C ad h1 h2 h3 h4 N zr zc Q t u h5 h6 h8 M ae aa af z4 r3 P z0 z1
 rcases z with ⟨n1,h,k⟩ | ⟨n1,h,k,p⟩ | ⟨n1,h,k,p⟩
 ·have q1:((g+6:Int)==c)=true:=by rw[beq_iff_eq];exact n1
  have q:=A4 h
  have r:=A4 k
  clear n1 h k
  go_wp2_with fail
  refine⟨?_,?_⟩
  ·refine⟨b,j,0,c - 6,_,?_,Fr.of _ rfl ⟨rfl,rfl,rfl,rfl,rfl,rfl,rfl,rfl,trivial⟩⟩
   exact LtI.step A hm H.o R.o (K.o) b j 0 (c - 6) (by first | (have:=n.o;simp;omega) | simp) (by first | (have:=HJ1.o;simp;omega) | simp) (by rw[←l.o];exact q.o.symm) (by rw[←l.o];exact r.o)
  ·(try have m1:=n.o);(try have m2:=HJ1.o);simp[Lmu,intOf];omega
 ·have q1:((g+6:Int)==c)=false:=by rw[beq_eq_false_iff_ne];exact n1
  have q2:((ci+2:Int)==c)=true:=by rw[beq_iff_eq];exact h
  have q:=A4 k
  have r:=A4 p
  clear n1 h k p
  go_wp2_with fail
  refine⟨?_,?_⟩
  ·refine⟨b,j,1,c - 2,_,?_,Fr.of _ rfl ⟨rfl,rfl,rfl,rfl,rfl,rfl,rfl,rfl,trivial⟩⟩
   exact LtI.step A hm H.o R.o (K.o) b j 1 (c - 2) (by first | (have:=n.o;simp;omega) | simp) (by first | (have:=HJ1.o;simp;omega) | simp) (by rw[←l.o];exact q.o.symm) (by rw[←l.o];exact r.o)
  ·(try have m1:=n.o);(try have m2:=HJ1.o);simp[Lmu,intOf];omega
 ·have q1:((g+6:Int)==c)=false:=by rw[beq_eq_false_iff_ne];exact n1
  have q2:((ci+2:Int)==c)=false:=by rw[beq_eq_false_iff_ne];exact h
  have q:=A4 k
  have r:=A4 p
  clear n1 h k p
  go_wp2_with fail
  refine⟨?_,?_⟩
  ·refine⟨b,j,2,c - 6,_,?_,Fr.of _ rfl ⟨rfl,rfl,rfl,rfl,rfl,rfl,rfl,rfl,trivial⟩⟩
   exact LtI.step A hm H.o R.o (K.o) b j 2 (c - 6) (by first | (have:=n.o;simp;omega) | simp) (by first | (have:=HJ1.o;simp;omega) | simp) (by rw[←l.o];exact q.o.symm) (by rw[←l.o];exact r.o)
  ·(try have m1:=n.o);(try have m2:=HJ1.o);simp[Lmu,intOf];omega
end
end Go.Proofs.YtilcmkiihefkkaaGreatDoor
