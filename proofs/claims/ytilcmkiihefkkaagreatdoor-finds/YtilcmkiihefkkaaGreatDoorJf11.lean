import Derived.Deep.LoopGhost
import Derived.Test.YtilcmkiihefkkaaGreatDoorJf9
set_option linter.unusedVariables false
set_option linter.unusedSimpArgs false
set_option maxRecDepth 1000000
set_option maxHeartbeats 64000000
open Go.Value renaming int→I
open Go.IntKind renaming i64→J
namespace Go.Proofs.YtilcmkiihefkkaaGreatDoor
namespace Mn
section
open Go.RowKit
theorem Tryz.info114:(Tryz.prog.info? 114).map (fun i=>(i.zero,i.size,i.bytes))=some (some (.agg #[I J 0,I J 0,.bool false]),3,24):=U
def A3J (L:List W3)(h:Int)(n:Nat):Prop:=
 n≤L.length∧(∀j (hj:j<L.length),n≤j→h<L[j].h)∧(∀hj:n-1<L.length,0<n→¬h<L[n-1].h)
theorem A5h (L:List W3):∀n,A6 (L.take n)=(A6 L).take (n*3):=by
 induction L with
 |nil=>intro n;simp[A6]
 |cons x L ih=>
  intro n;cases n with
  |zero=>simp[A6]
  |succ n=>
   rw[List.take_succ_cons,Q9,Q9,ih,show(n+1)*3=n*3+1+1+1 by omega];rfl
theorem A3.take {w:World}{base g o cap:Nat}{L:List W3}(h:A3 w base 114 3 (.slice (some ⟨g,o,none⟩) L.length cap) L.length (A6 L)){n:Nat}(hn:n≤L.length) :
 A3 w base 114 3 (.slice (some ⟨g,o,none⟩) n cap) n (A6 (L.take n)):=by
 obtain⟨h0,h⟩:=h;refine⟨by rw[J3,List.length_take];congr 1;omega,?_⟩;rcases h with⟨h,_⟩|⟨g',o',cap',cur,he,h1,h2,h3,h4,h5,h6⟩
 ·simp at h
 ·simp only[Value.slice.injEq,Option.some.injEq,Addr.mk.injEq,and_true,true_and]at he;obtain⟨⟨rfl,rfl⟩,rfl⟩:=he;refine Or.inr ⟨g,o,cap,cur,rfl,h1,h2,O,h4,h5,?_⟩;intro j u hj;rw[A5h,List.getElem?_take]at hj;split at hj
  ·exact h6 j u hj
  ·exact absurd hj Zs
structure PFr (w w':World)(v v':Value)(Bk:Nat):Prop where
 os:w'.os=w.os
 tape:w'.tape=w.tape
 output:w'.output=w.output
 size:w.heap.size≤w'.heap.size
 other:∀j,j<w.heap.size→j≠Bk→v.ownBlock≠some j→w'.heap[j]?=w.heap[j]?
 new:∀g,v'.ownBlock=some g→v.ownBlock=some g∨w.heap.size≤g
theorem T2 (W:World)(x:W3)(s:Nat)(hs:s=W.heap.size):∀j u,([I J x.h,I J x.p,.bool x.b]:List Value)[j]?=some u→(W.alloc (.cells #[I J x.h,I J x.p,.bool x.b] 114)).cell? ((⟨s,0,none⟩:Addr).add j)=some u:=by
 intro j u hj;subst hs;rw[Addr.add_lit,Nat.zero_add];refine A1 (heap_alloc_new W _) ?_;simpa using hj
theorem H9 (x:W3):∀u∈([I J x.h,I J x.p,.bool x.b]:List Value),u.oneCell'=true:=by
 intro u hu;simp at hu;rcases hu with rfl|rfl|rfl<;>rfl
theorem N1 {w:World}{a:Addr}{v:Value}(h:w.cell? a=some v)(o:Obj)(nq:Nat):((w.drewN nq).alloc o).cell? a=some v:=
 (World.cell?_of_block (Below.heap_alloc (w.drewN nq) o _ (block_lt_of_cell h))).trans h
theorem A38 {w wr W w2:World}{base Bk g' o' cap' n s nq:Nat}{k Wi next run:Int}{x:W3}{ov0 ov pv:Value}{L:List W3}
 (hltB:Bk<w.heap.size)(hov:∀j,ov.ownBlock=some j→ov0.ownBlock=some j)
 (hu:D7 (w.alloc (.cells #[I J x.h,I J x.p,.bool x.b] 114)) wr Bk (.cells #[I J k,I J Wi,I J next,I J run,ov,pv] 230 (0,0)))
 (hW:W=(wr.drewN nq).alloc (.cells #[I J x.h,I J x.p,.bool x.b] 114))(hs:s=n+1)
 (hB2:w2.heap[Bk]?=some (.cells #[I J k,I J Wi,I J next,I J run,ov,pv] 230 (0,0)))
 (hown:A3 w2 base 114 3 (.slice (some ⟨g',o',none⟩) s cap') s (A6 L++[I J x.h,I J x.p,.bool x.b]))(hfr:I9 W w2 ov g') :
 ∃ov',A3 (w2.setCell ⟨Bk,4,none⟩ (.slice (some ⟨g',o',none⟩) s cap')) base 114 3 ov' (L++[x]).length (A6 (L++[x]))∧
  (w2.setCell ⟨Bk,4,none⟩ (.slice (some ⟨g',o',none⟩) s cap')).heap[Bk]?=some (.cells #[I J k,I J Wi,I J next,I J run,ov',pv] 230 (0,0))∧
  PFr w (w2.setCell ⟨Bk,4,none⟩ (.slice (some ⟨g',o',none⟩) s cap')) ov0 ov' Bk:=by
 subst hW;have hlen:s=(L++[x]).length:=by
  have:=hown.1;rw[List.length_append,J3]at this;simp at this⊢;omega
 have hU:=D7.of_setCell (i:=4) (.slice (some ⟨g',o',none⟩) s cap') hB2;have hne:(Value.slice (some ⟨g',o',none⟩) s cap').ownBlock≠some Bk:=hown.tag Z hB2;have hsz:wr.heap.size=w.heap.size+1:=by rw[hu.size];simp
 have hfs:=hfr.size;simp at hfs;refine⟨.slice (some ⟨g',o',none⟩) s cap',?_,hU.here,⟨?_,?_,?_,?_,?_,?_⟩⟩
 ·rw[←hlen,J1];exact hown.other (fun g hg _=>hU.other g (fun e=>hne (by rw[hg,e])))
 ·exact hU.os.trans (hfr.os.trans hu.os)
 ·exact hU.tape.trans (hfr.tape.trans hu.tape)
 ·exact hU.output.trans (hfr.output.trans hu.output)
 ·rw[hU.size];have:(wr.drewN nq).heap.size=wr.heap.size:=rfl;omega
 ·intro j hj hjB hjo;rw[hU.other j hjB,hfr.other j Zo (fun e=>hjo (hov j e)),Below.heap_alloc _ _ _ (by show j<wr.heap.size;omega)];show wr.heap[j]?=_;rw[hu.other j hjB,Below.heap_alloc _ _ _ hj]
 ·intro g hg;simp only[Value.ownBlock,Option.some.injEq]at hg;subst hg;rcases hfr.new with h|h
  ·exact Or.inl (hov _ h)
  ·right;have:wr.heap.size+1≤g':=by simpa using h
   omega
theorem A9I (k W next run:Int)(x:W3)(L:List W3)(base Bk g o cap:Nat)(pv:Value)(w:World)
 (hB:w.heap[Bk]?=some (.cells #[I J k,I J W,I J next,I J run,.slice (some ⟨g,o,none⟩) L.length cap,pv] 230 (0,0)))
 (hown:A3 w base 114 3 (.slice (some ⟨g,o,none⟩) L.length cap) L.length (A6 L))(hbase:base≤w.heap.size)(hL:L.length<4398046511104) :
 Calls Tryz.prog 151 #[.pointer (some ⟨Bk,0,none⟩),.agg #[I J x.h,I J x.p,.bool x.b]] w fun e w'=>e=.returned (.tuple #[])∧
  ∃n,A3J L x.h n∧∃ov',A3 w' base 114 3 ov' (L.take n++[x]).length (A6 (L.take n++[x]))∧w'.heap[Bk]?=some (.cells #[I J k,I J W,I J next,I J run,ov',pv] 230 (0,0))∧PFr w w' (.slice (some ⟨g,o,none⟩) L.length cap) ov' Bk:=by
 have hltB:=lt_of_block hB;have hgne:(Value.slice (some ⟨g,o,none⟩) L.length cap).ownBlock≠some Bk:=hown.tag Z hB;have hgB:g≠Bk:=fun e=>hgne (by simp[Value.ownBlock,e]);obtain⟨cur,hg,hlc,hcap,hcu⟩:∃cur:Array Value,w.heap[g]?=some (.cells cur 114 (0,0))∧L.length≤cap∧cap≤9223372036854775807∧∀j u,(A6 L)[j]?=some u→cur[o+j]?=some u:=by
  rcases hown.2 with⟨h,_⟩|⟨g',o',cap',cur,he,h1,h2,h3,h4,h5,h6⟩
  ·simp at h
  ·simp only[Value.slice.injEq,Option.some.injEq,Addr.mk.injEq,and_true,true_and]at he;obtain⟨⟨rfl,rfl⟩,rfl⟩:=he;exact⟨cur,h2,h3,h4,h6⟩
 have hltg:=lt_of_block hg;obtain⟨i0,hi,hz0,hz1,hz2⟩:=info_parts Tryz.info114;go_enter Tryz.func151,Tryz.ntmps151;go_wp2;go_loopg [] L.length (fun n wr=>n≤L.length∧(∀j (hj:j<L.length),n≤j→x.h<L[j].h)∧D7 (w.alloc (.cells #[I J x.h,I J x.p,.bool x.b] 114)) wr Bk (.cells #[I J k,I J W,I J next,I J run,.slice (some ⟨g,o,none⟩) n cap,pv] 230 (0,0)));case atStart=>
  refine⟨Nat.le_refl _,fun j hj h=>absurd h O,⟨rfl,rfl,rfl,rfl,?_,fun _ _=>rfl⟩⟩;rw[Below.heap_alloc _ _ _ hltB];exact hB
 case round=>
  obtain⟨hn,hall,hu⟩:=hrel;have HA:=A4 hall;clear hall;have c4:wr.cell? ⟨Bk,4,none⟩=some (.slice (some ⟨g,o,none⟩) gk cap):=A1 hu.here rfl;have f4:wr.frozen? ⟨Bk,4,none⟩=false:=frozen_of_row wr _ _ _ _ hu.here;have hbox:wr.heap[w.heap.size]?=some (.cells #[I J x.h,I J x.p,.bool x.b] 114 (0,0)):=by
   rw[hu.other _ O];exact heap_alloc_new w _
  have b0:wr.cell? ⟨w.heap.size,0,none⟩=some (I J x.h):=A1 hbox rfl;have b1:wr.cell? ⟨w.heap.size,1,none⟩=some (I J x.p):=A1 hbox rfl;have b2:wr.cell? ⟨w.heap.size,2,none⟩=some (.bool x.b):=A1 hbox rfl;have hgr:wr.heap[g]?=some (.cells cur 114 (0,0)):=by
   rw[hu.other _ hgB,Below.heap_alloc _ _ _ hltg];exact hg
  have hownr:A3 wr base 114 3 (.slice (some ⟨g,o,none⟩) gk cap) gk (A6 (L.take gk)):=
   (hown.take hn).other (fun g' hg' hlt=>by
    simp only[Value.ownBlock,Option.some.injEq]at hg'
    subst hg'
    rw[hgr,hg])
  have hszr:wr.heap.size=w.heap.size+1:=by rw[hu.size];simp
  have HS:=A4 hszr;have ha4:∀nq,((wr.drewN nq).alloc (.cells #[I J x.h,I J x.p,.bool x.b] 114)).cell? ⟨Bk,4,none⟩=some (.slice (some ⟨g,o,none⟩) gk cap):=fun nq=>N1 c4 _ nq;clear hszr;have HU:=A4 hu;clear hu;have hlast:0<gk→wr.cell? ⟨g,o+(gk-1)*3,none⟩=some (I J (L[gk-1]?.getD ⟨0,0,false⟩).h):=fun h0=>by
   have hk:=I1 L (gk-1) O;refine A1 hgr ?_;rw[Nat.mul_comm,hcu _ _ hk.1,List.getElem?_eq_getElem O];rfl
  clear hbox hgr;by_cases h0:0<gk
  ·have cl:=hlast h0;have hget:(L[gk-1]?.getD ⟨0,0,false⟩)=L[gk-1]'O:=by rw[List.getElem?_eq_getElem O];rfl
   rw[hget]at cl;clear hlast hget;have h0':(0:Int)<gk:=O;have hkI:((gk:Int)-1).toNat=gk-1:=O;have hkI2:0≤(gk:Int)-1:=O;have hkI3:(gk:Int)-1<gk:=O;by_cases hlt:x.h<L[gk-1].h
   ·have hsl:(gk:Int)-1≤cap:=O;go_wp2;go_quiet (fail);go_wp2;go_region;go_wp2;go_roundg (gk-1);case measure=>omega
    case rel=>
     refine⟨O,?_,(((HU.o.drewN _).drew).setCell _)⟩;intro j hj h;by_cases hjk:gk≤j
     ·exact HA.o j hj hjk
     ·obtain rfl:j=gk-1:=O;exact hlt
   ·go_wp2;go_quiet (fail);go_wp2;go_region_law (refine G3 rfl (.tmp 46) (.tmp 48) 110 rfl 114 i0 _ 3 24 Tryz.underlying110 hi hz0 hz1 hz2 rfl Z base _ gk (A6 (L.take gk)) (by simp[Act.eval,Act.put];rfl) (by exact hownr.other (fun g _ hlt=>Below.heap_alloc (wr.drewN _) _ _ hlt)) ⟨wr.heap.size,0,none⟩ 1 [I J x.h,I J x.p,.bool x.b] (by simp[Act.eval,Act.put]) rfl (by exact T2 (wr.drewN _) x _ rfl) (H9 x) (by unfold maxLen;omega) O (by simp;have:=HS.o;omega) ?_;intro g' o' cap' w2 hown' hfr;have hB2:w2.heap[Bk]?=some (.cells #[I J k,I J W,I J next,I J run,.slice (some ⟨g,o,none⟩) gk cap,pv] 230 (0,0)):=(hfr.other Bk (by have:=HS.o;simp;omega) (by simp[Value.ownBlock];omega)).trans ((Below.heap_alloc (wr.drewN _) _ _ (by have:=HS.o;show Bk<wr.heap.size;omega)).trans HU.o.here);have HB2:Hd _:=hB2;have q4:=A1 hB2 (i:=4) rfl;have qf:w2.frozen? ⟨Bk,4,none⟩=false:=frozen_of_row w2 _ _ _ _ hB2;clear hB2);all_goals go_end0
    all_goals exact⟨rfl,gk,⟨hn,HA.o,fun _ _=>O⟩,A38 (ov:=.slice (some ⟨g,o,none⟩) gk cap) hltB (fun j h=>by simpa[Value.ownBlock] using h) HU.o rfl rfl HB2.o hown' hfr⟩
  ·obtain rfl:gk=0:=O;clear hlast;go_wp2;go_quiet (fail);go_wp2;go_region_law (refine G3 rfl (.tmp 46) (.tmp 48) 110 rfl 114 i0 _ 3 24 Tryz.underlying110 hi hz0 hz1 hz2 rfl Z base _ 0 (A6 (L.take 0)) (by simp[Act.eval,Act.put];rfl) (by exact hownr.other (fun g _ hlt=>Below.heap_alloc (wr.drewN _) _ _ hlt)) ⟨wr.heap.size,0,none⟩ 1 [I J x.h,I J x.p,.bool x.b] (by simp[Act.eval,Act.put]) rfl (by exact T2 (wr.drewN _) x _ rfl) (H9 x) (by unfold maxLen;omega) O (by simp;have:=HS.o;omega) ?_;intro g' o' cap' w2 hown' hfr;have hB2:w2.heap[Bk]?=some (.cells #[I J k,I J W,I J next,I J run,.slice (some ⟨g,o,none⟩) 0 cap,pv] 230 (0,0)):=(hfr.other Bk (by have:=HS.o;simp;omega) (by simp[Value.ownBlock];omega)).trans ((Below.heap_alloc (wr.drewN _) _ _ (by have:=HS.o;show Bk<wr.heap.size;omega)).trans HU.o.here);have HB2:Hd _:=hB2;have q4:=A1 hB2 (i:=4) rfl;have qf:w2.frozen? ⟨Bk,4,none⟩=false:=frozen_of_row w2 _ _ _ _ hB2;clear hB2);all_goals go_end0
   all_goals exact⟨rfl,0,⟨hn,HA.o,fun _ h=>absurd h O⟩,A38 (ov:=.slice (some ⟨g,o,none⟩) 0 cap) hltB (fun j h=>by simpa[Value.ownBlock] using h) HU.o rfl rfl HB2.o hown' hfr⟩
theorem add_nil (k W next run:Int)(x:W3)(base Bk:Nat)(pv:Value)(w:World)
 (hB:w.heap[Bk]?=some (.cells #[I J k,I J W,I J next,I J run,.slice none 0 0,pv] 230 (0,0)))(hbase:base≤w.heap.size) :
 Calls Tryz.prog 151 #[.pointer (some ⟨Bk,0,none⟩),.agg #[I J x.h,I J x.p,.bool x.b]] w fun e w'=>e=.returned (.tuple #[])∧
  ∃ov',A3 w' base 114 3 ov' ([]++[x]).length (A6 ([]++[x]))∧w'.heap[Bk]?=some (.cells #[I J k,I J W,I J next,I J run,ov',pv] 230 (0,0))∧PFr w w' (.slice none 0 0) ov' Bk:=by
 have hltB:=lt_of_block hB;obtain⟨i0,hi,hz0,hz1,hz2⟩:=info_parts Tryz.info114;go_enter Tryz.func151,Tryz.ntmps151;go_wp2;go_loopg [] 0 (fun n wr=>n=0∧D7 (w.alloc (.cells #[I J x.h,I J x.p,.bool x.b] 114)) wr Bk (.cells #[I J k,I J W,I J next,I J run,.slice none 0 0,pv] 230 (0,0)));case atStart=>
  refine⟨rfl,⟨rfl,rfl,rfl,rfl,?_,fun _ _=>rfl⟩⟩;rw[Below.heap_alloc _ _ _ hltB];exact hB
 case round=>
  obtain⟨_,hu⟩:=hrel;have c4:wr.cell? ⟨Bk,4,none⟩=some (.slice none 0 0):=A1 hu.here rfl;have f4:wr.frozen? ⟨Bk,4,none⟩=false:=frozen_of_row wr _ _ _ _ hu.here;have hbox:wr.heap[w.heap.size]?=some (.cells #[I J x.h,I J x.p,.bool x.b] 114 (0,0)):=by
   rw[hu.other _ O];exact heap_alloc_new w _
  have b0:wr.cell? ⟨w.heap.size,0,none⟩=some (I J x.h):=A1 hbox rfl;have b1:wr.cell? ⟨w.heap.size,1,none⟩=some (I J x.p):=A1 hbox rfl;have b2:wr.cell? ⟨w.heap.size,2,none⟩=some (.bool x.b):=A1 hbox rfl;have hszr:wr.heap.size=w.heap.size+1:=by rw[hu.size];simp
  have HS:=A4 hszr;have ha4:∀nq,((wr.drewN nq).alloc (.cells #[I J x.h,I J x.p,.bool x.b] 114)).cell? ⟨Bk,4,none⟩=some (.slice none 0 0):=fun nq=>N1 c4 _ nq;clear hszr;have HU:=A4 hu;clear hu hbox;go_wp2;go_quiet (fail);go_wp2;go_region_law (refine G3 rfl (.tmp 46) (.tmp 48) 110 rfl 114 i0 _ 3 24 Tryz.underlying110 hi hz0 hz1 hz2 rfl Z base _ 0 (A6 []) (by simp[Act.eval,Act.put];rfl) (by exact A3.nil _ _ _ _) ⟨wr.heap.size,0,none⟩ 1 [I J x.h,I J x.p,.bool x.b] (by simp[Act.eval,Act.put]) rfl (by exact T2 (wr.drewN _) x _ rfl) (H9 x) (by unfold maxLen;omega) O (by simp;have:=HS.o;omega) ?_;intro g' o' cap' w2 hown' hfr;have hB2:w2.heap[Bk]?=some (.cells #[I J k,I J W,I J next,I J run,.slice none 0 0,pv] 230 (0,0)):=(hfr.other Bk (by have:=HS.o;simp;omega) (by simp[Value.ownBlock])).trans ((Below.heap_alloc (wr.drewN _) _ _ (by have:=HS.o;show Bk<wr.heap.size;omega)).trans HU.o.here);have HB2:Hd _:=hB2;have q4:=A1 hB2 (i:=4) rfl;have qf:w2.frozen? ⟨Bk,4,none⟩=false:=frozen_of_row w2 _ _ _ _ hB2;clear hB2);all_goals go_end0
  all_goals exact⟨rfl,A38 (L:=[]) (ov:=.slice none 0 0) hltB (fun j h=>h) HU.o rfl rfl HB2.o hown' hfr⟩
theorem A7l (k W next run:Int)(x:W3)(L:List W3)(base Bk:Nat)(ov pv:Value)(w:World)
 (hB:w.heap[Bk]?=some (.cells #[I J k,I J W,I J next,I J run,ov,pv] 230 (0,0)))
 (hown:A3 w base 114 3 ov L.length (A6 L))(hbase:base≤w.heap.size)(hL:L.length<4398046511104) :
 Calls Tryz.prog 151 #[.pointer (some ⟨Bk,0,none⟩),.agg #[I J x.h,I J x.p,.bool x.b]] w fun e w'=>e=.returned (.tuple #[])∧
  ∃n,A3J L x.h n∧∃ov',A3 w' base 114 3 ov' (L.take n++[x]).length (A6 (L.take n++[x]))∧w'.heap[Bk]?=some (.cells #[I J k,I J W,I J next,I J run,ov',pv] 230 (0,0))∧PFr w w' ov ov' Bk:=by
 have h:=hown.2;rcases h with⟨rfl,h0⟩|⟨g,o,cap,cur,rfl,_⟩
 ·obtain rfl:L=[]:=List.eq_nil_of_length_eq_zero h0;refine(add_nil k W next run x base Bk pv w hB hbase).mono ?_;rintro e w' ⟨rfl,ov',h1,h2,h3⟩;exact⟨rfl,0,⟨Nat.le_refl _,fun j hj=>absurd hj Zs,fun hj=>absurd hj Zs⟩,ov',by simpa using h1,h2,h3⟩
 ·exact A9I k W next run x L base Bk g o cap pv w hB hown hbase hL
def A0t:Value→Nat
 |.slice (some a) _ _=>a.off
 |_=>0
structure A0b (w w':World)(v:Value)(n size g' o':Nat):Prop where
 fr:I9 w w' v g'
 blk:∀(b:Nat) (cur:Array Value) (t:TypeId),w.heap[b]?=some (Obj.cells cur t (0,0))→∃cur':Array Value,w'.heap[b]?=some (Obj.cells cur' t (0,0))∧cur'.size=cur.size∧∀off,(v.ownBlock=some b→off<A0t v+n*size)→cur'[off]?=cur[off]?
 off:v.ownBlock=some g'→o'=A0t v
theorem A9Y {P:Program}(w:World)(t ty e:TypeId)(i:TypeInfo)(z:Value)(size bytes:Nat)(h1:P.underlying t=some (.slice e))(x:P.info? e=some i)(L:i.zero=some z)(y:i.size=size)(M:i.bytes=bytes)(N:z.cells.size=size)(Q:0<size)
 (base:Nat)(v:Value)(n:Nat)(xs:List Value)(A:A3 w base e size v n xs)
 (l:Addr)(c:Nat)(news:List Value)(W:news.length=size)(B:∀j u,news[j]?=some u→w.cell? (l.add j)=some u)(R:∀u∈news,u.oneCell'=true)
 (b1:n+1≤maxLen)(b2:(n+1)*bytes≤140737488355328)(S:base≤w.heap.size) :
 ∃g' o' cap' w',(Builtin.append_ #[t,t] ty #[v,.slice (some l) 1 c]).run P w=.ok (.slice (some ⟨g',o',none⟩) (n+1) cap') w'∧A3 w' base e size (.slice (some ⟨g',o',none⟩) (n+1) cap') (n+1) (xs++news)∧A0b w w' v n size g' o':=by
 have C:news.length=1*size:=O;obtain⟨D,A⟩:=A;rcases A with⟨rfl,rfl⟩|⟨g,o,cap,cur,rfl,E,k,ac,X,Y,T⟩
 ·obtain rfl:xs=[]:=List.eq_nil_of_length_eq_zero (by simpa using D);obtain⟨v',w',m,p,d,_⟩:=run_append_own (P:=P) w w.heap.size t ty e i z size bytes h1 x L y M N Q (.slice none 0 0) 0 [] (World.ownsRow_nil w _ e size) l 1 c news C B R b1 b2 (Nat.le_refl _);rcases p.2 with⟨_,F⟩|⟨g,cap,cur,rfl,E,k,_⟩
  ·exact absurd F Zs
  ·refine⟨g,0,cap,w',m,A3.of_ownsRow p S,⟨⟨d.os,d.tape,d.output,d.size,fun j a _=>d.block j a (by simp[Value.ownBlock]),Or.inr E,lt_of_block k⟩,?_,fun h=>by simp[Value.ownBlock]at h⟩⟩;intro b q t' f;exact⟨q,(d.block b (lt_of_block f) (by simp[Value.ownBlock])).trans f,rfl,fun _ _=>rfl⟩
 ·by_cases G:n+1≤cap
  ·subst y;have ae:o+(n+1)*i.size≤cur.size:=Nat.le_trans (Nat.add_le_add_left (Nat.mul_le_mul_right _ G) o) Y;have hex:(n+1)*i.size=n*i.size+i.size:=by rw[Nat.add_mul,Nat.one_mul]
   have m:=run_append_room_cells (P:=P) w t ty e i h1 x g o n cap l 1 c news C B R G
    (fun j a=>by rw[cell_of_row w g _ cur e (0,0) k];simp;omega) (fun j _=>frozen_of_row w g _ cur e k)
   obtain⟨q,H,q2,V,q4⟩:=C9 g e news (o+n*i.size) w cur k;have r:=F8 g news (o+n*i.size) w;refine⟨g,o,cap,_,m,⟨by rw[List.length_append,D,W];omega,Or.inr ⟨g,o,cap,q,rfl,E,H,G,X,O,?_⟩⟩,⟨⟨r.2.1,r.1,r.2.2.1,by rw[r.2.2.2];exact Nat.le_refl _,fun j _ a=>B8 g news _ w j (fun h=>a (by simp[Value.ownBlock,h])),Or.inl rfl,lt_of_block H⟩,?_,fun _=>rfl⟩⟩
   ·intro j u a;rw[List.getElem?_append]at a;split at a
    ·rw[V _ O];exact T j u a
    ·have:=q4 (j-xs.length) u a (by
      have:j-xs.length<news.length:=by
       rcases Nat.lt_or_ge (j-xs.length) news.length with h|h
       ·exact h
       ·rw[List.getElem?_eq_none h]at a;exact absurd a Zs
      omega)
     rwa [show o+n*i.size+(j-xs.length)=o+j by omega]at this
   ·intro b K tb f;by_cases s:b=g
    ·subst s;rw[k]at f;simp only[Option.some.injEq,Obj.cells.injEq,and_true]at f;obtain⟨rfl,rfl⟩:=f;exact⟨q,H,q2,fun off aa=>V off (aa rfl)⟩
    ·exact⟨K,(B8 g news _ w b s).trans f,rfl,fun _ _=>rfl⟩
  ·obtain⟨v',w',m,p,d⟩:=run_append_arg_grows (P:=P) w t ty e i z size bytes h1 x L y M N Q ⟨g,o,none⟩ n cap xs D (fun j u a=>by rw[Addr.add_lit,cell_of_row w g _ cur e (0,0) k];exact T j u a) l 1 c news C B O b1 b2;rcases p.2 with⟨_,F⟩|⟨g',cap',q,rfl,s,ab,_⟩
   ·exact absurd F Zs
   ·refine⟨g',0,cap',w',m,A3.of_ownsRow p S,⟨⟨d.os,d.tape,d.output,d.size,fun j a _=>d.block j a Zs,Or.inr s,lt_of_block ab⟩,?_,?_⟩⟩
    ·intro b K tb f;exact⟨K,(d.block b (lt_of_block f) Zs).trans f,rfl,fun _ _=>rfl⟩
    ·intro h;simp only[Value.ownBlock,Option.some.injEq]at h;subst h;have:=lt_of_block k;omega
theorem N4 {P:Program}(w:World){ops:Array Oper}{rest:List Oper}{o:Oper}{a:Act}{Q:Exit→Act→World→Prop}
 (d:o.guard=none)(s x:Operand)(t:TypeId)(f:o.op=Op.call {callee:=Callee.builtin Builtin.append,args:=#[s,x],argTypes:=#[t,t]})
 (e:TypeId)(i:TypeInfo)(z:Value)(size bytes:Nat)(h1:P.underlying t=some (.slice e))(g:P.info? e=some i)(h:i.zero=some z)(k:i.size=size)(l:i.bytes=bytes)(m:z.cells.size=size)(p:0<size)
 (base:Nat)(v:Value)(n:Nat)(xs:List Value)(hs:a.eval s=v)(q:A3 w base e size v n xs)
 (b:Addr)(c:Nat)(news:List Value)(r:a.eval x=.slice (some b) 1 c)(y:news.length=size)(A:∀j u,news[j]?=some u→w.cell? (b.add j)=some u)(B:∀u∈news,u.oneCell'=true)
 (b1:n+1≤maxLen)(b2:(n+1)*bytes≤140737488355328)(C:base≤w.heap.size)
 (D:∀g' o' cap' w',A3 w' base e size (.slice (some ⟨g',o',none⟩) (n+1) cap') (n+1) (xs++news)→A0b w w' v n size g' o'→wpList P ops Q rest (a.put o.dst (.slice (some ⟨g',o',none⟩) (n+1) cap')) w') :
 wpList P ops Q (o::rest) a w:=by
 refine wpList_plain d fun K E=>?_;obtain⟨g',o',cap',w',F,G,H⟩:=A9Y (P:=P) w t o.type e i z size bytes h1 g h k l m p base v n xs q b c news y A B b1 b2 C;unfold Oper.wp;simp[execOp,f,resolve,invoke,builtin,hs,r,F,Result.andThen];exact E _ _ (D g' o' cap' w' G H)
theorem A3.app {w w':World}{base:Nat}{e:TypeId}{size:Nat}{u:Value}{a:Nat}{xs:List Value}{v:Value}{n sz g' o':Nat}(h:A3 w base e size u a xs)(c:A0b w w' v n sz g' o')
 (d:∀g,u.ownBlock=some g→v.ownBlock=some g→A0t u+a*size≤A0t v+n*sz):A3 w' base e size u a xs:=by
 obtain⟨f,h⟩:=h;refine⟨f,?_⟩;rcases h with⟨rfl,rfl⟩|⟨g,o,cap,cur,rfl,h1,i,k,l,t,m⟩
 ·exact Or.inl ⟨rfl,rfl⟩
 ·obtain⟨p,q,y,r⟩:=c.blk g cur e i;refine Or.inr ⟨g,o,cap,p,rfl,h1,q,k,l,O,fun j x b=>?_⟩;have z:j<xs.length:=by
   rcases Nat.lt_or_ge j xs.length with h|h
   ·exact h
   ·rw[List.getElem?_eq_none h]at b;exact absurd b Zs
  rw[r (o+j) (fun s=>?_)]
  ·exact m j x b
  ·have:=d g rfl s;have e:A0t (.slice (some ⟨g,o,none⟩) a cap)=o:=rfl;rw[e]at this;omega
def D1 (E:List (Value×Int)):List Value:=E.flatMap fun e=>[e.1,I J e.2]
theorem A0Y (E F:List (Value×Int)):D1 (E++F)=D1 E++D1 F:=by simp[D1]
theorem A8r (E:List (Value×Int)):∀j (h:j<E.length),(D1 E)[2*j]?=some E[j].1∧(D1 E)[2*j+1]?=some (I J E[j].2):=by
 induction E with
 |nil=>intro j h;exact absurd h Zs
 |cons x E a=>
  intro j h;cases j with
  |zero=>exact⟨rfl,rfl⟩
  |succ j=>
   have:=a j (by simpa using h);show(x.1::I J x.2::D1 E)[2*(j+1)]?=_∧(x.1::I J x.2::D1 E)[2*(j+1)+1]?=_;rw[show 2*(j+1)=2*j+1+1 by omega];simpa using this
def marks (n:Nat)(k:Nat):List W3:=List.replicate n ⟨-1-(k:Int),0,false⟩
theorem A6D (X:List W3)(cur:Array Value)(o:Nat):(∀i u,(A6 X)[i]?=some u→cur[o+i]?=some u)↔∀q (h:q<X.length),cur[o+3*q]?=some (I J X[q].h)∧cur[o+(3*q+1)]?=some (I J X[q].p)∧cur[o+(3*q+2)]?=some (.bool X[q].b):=by
 constructor
 ·intro h q a;have:=I1 X q a;exact⟨h _ _ this.1,h _ _ this.2.1,h _ _ this.2.2⟩
 ·intro h i u hi;have f:i<X.length*3:=by
   rcases Nat.lt_or_ge i (A6 X).length with c|c
   ·rwa [J3]at c
   ·rw[List.getElem?_eq_none c]at hi;exact absurd hi Zs
  have a:i/3<X.length:=O;have h1:=I1 X (i/3) a;have d:=h (i/3) a;rcases (show i=3*(i/3)∨i=3*(i/3)+1∨i=3*(i/3)+2 by omega) with he|he|he
  ·rw[he]at hi⊢;rw[h1.1]at hi;rw[d.1];exact hi
  ·rw[he]at hi⊢;rw[h1.2.1]at hi;rw[d.2.1];exact hi
  ·rw[he]at hi⊢;rw[h1.2.2]at hi;rw[d.2.2];exact hi
theorem A7M (L:List W3)(k j:Nat)(h:j<L.length):(marks j k++L.drop j).set j ⟨-1-(k:Int),0,false⟩=marks (j+1) k++L.drop (j+1):=by
 unfold marks;rw[List.set_append_right _ _ Zs,List.length_replicate,Nat.sub_self,List.drop_eq_getElem_cons h,List.set_cons_zero,List.replicate_succ',List.append_assoc];rfl
structure Fr1 (w w':World)(v:Value):Prop where
 os:w'.os=w.os
 tape:w'.tape=w.tape
 output:w'.output=w.output
 size:w'.heap.size=w.heap.size
 other:∀j,j<w.heap.size→v.ownBlock≠some j→w'.heap[j]?=w.heap[j]?
theorem A51 {w wr W w2:World}{base a g' o' cap' n s q:Nat}{k l next run:Int}{x:W3}{r pv ov:Value}{L:List W3}
 (D:a<w.heap.size)(t:∀j,pv.ownBlock=some j→r.ownBlock=some j)
 (hu:D7 (w.alloc (.cells #[I J x.h,I J x.p,.bool x.b] 114)) wr a (.cells #[I J k,I J l,I J next,I J run,ov,pv] 230 (0,0)))
 (y:W=(wr.drewN q).alloc (.cells #[I J x.h,I J x.p,.bool x.b] 114))(hs:s=n+1)
 (u:w2.heap[a]?=some (.cells #[I J k,I J l,I J next,I J run,ov,pv] 230 (0,0)))
 (m:A3 w2 base 114 3 (.slice (some ⟨g',o',none⟩) s cap') s (A6 L++[I J x.h,I J x.p,.bool x.b]))(d:I9 W w2 pv g') :
 ∃o,A3 (w2.setCell ⟨a,5,none⟩ (.slice (some ⟨g',o',none⟩) s cap')) base 114 3 o (L++[x]).length (A6 (L++[x]))∧
  (w2.setCell ⟨a,5,none⟩ (.slice (some ⟨g',o',none⟩) s cap')).heap[a]?=some (.cells #[I J k,I J l,I J next,I J run,ov,o] 230 (0,0))∧
  PFr w (w2.setCell ⟨a,5,none⟩ (.slice (some ⟨g',o',none⟩) s cap')) r o a:=by
 subst y;have hlen:s=(L++[x]).length:=by
  have:=m.1;rw[List.length_append,J3]at this;simp at this⊢;omega
 have c:=D7.of_setCell (i:=5) (.slice (some ⟨g',o',none⟩) s cap') u;have z:(Value.slice (some ⟨g',o',none⟩) s cap').ownBlock≠some a:=m.tag Z u;have E:wr.heap.size=w.heap.size+1:=by rw[hu.size];simp
 have A:=d.size;simp at A;refine⟨.slice (some ⟨g',o',none⟩) s cap',?_,c.here,⟨?_,?_,?_,?_,?_,?_⟩⟩
 ·rw[←hlen,J1];exact m.other (fun g f _=>c.other g (fun e=>z (by rw[f,e])))
 ·exact c.os.trans (d.os.trans hu.os)
 ·exact c.tape.trans (d.tape.trans hu.tape)
 ·exact c.output.trans (d.output.trans hu.output)
 ·rw[c.size];have:(wr.drewN q).heap.size=wr.heap.size:=rfl;omega
 ·intro j B v C;rw[c.other j v,d.other j Zo (fun e=>C (t j e)),Below.heap_alloc _ _ _ (by show j<wr.heap.size;omega)];show wr.heap[j]?=_;rw[hu.other j v,Below.heap_alloc _ _ _ B]
 ·intro g f;simp only[Value.ownBlock,Option.some.injEq]at f;subst f;rcases d.new with h|h
  ·exact Or.inl (t _ h)
  ·right;have:wr.heap.size+1≤g':=by simpa using h
   omega
theorem A5M (k W next run:Int)(x:W3)(base a:Nat)(ov:Value)(c:Option Addr)(cap:Nat)(w:World)
 (n:w.heap[a]?=some (.cells #[I J k,I J W,I J next,I J run,ov,.slice c 0 cap] 230 (0,0)))
 (t:A3 w base 114 3 (.slice c 0 cap) 0 (A6 []))(M:base≤w.heap.size) :
 Calls Tryz.prog 153 #[.pointer (some ⟨a,0,none⟩),.agg #[I J x.h,I J x.p,.bool x.b]] w fun e w'=>e=.returned (.tuple #[])∧
  ∃q,A3 w' base 114 3 q ([]++[x]).length (A6 ([]++[x]))∧w'.heap[a]?=some (.cells #[I J k,I J W,I J next,I J run,ov,q] 230 (0,0))∧PFr w w' (.slice c 0 cap) q a:=by
 have u:=lt_of_block n;have B:(Value.slice c 0 cap).ownBlock≠some a:=t.tag Z n;obtain⟨i0,hi,C,D,E⟩:=info_parts Tryz.info114;have f:(w.alloc (.cells #[I J x.h,I J x.p,.bool x.b] 114)).heap[a]?=some (.cells #[I J k,I J W,I J next,I J run,ov,Value.slice c 0 cap] 230 (0,0)):=by
  rw[Below.heap_alloc _ _ _ u];exact n
 have v:Hd (D7 (w.alloc (.cells #[I J x.h,I J x.p,.bool x.b] 114)) (w.alloc (.cells #[I J x.h,I J x.p,.bool x.b] 114)) a (.cells #[I J k,I J W,I J next,I J run,ov,Value.slice c 0 cap] 230 (0,0))):=
  ⟨rfl,rfl,rfl,rfl,f,fun _ _=>rfl⟩
 have c5:(w.alloc (.cells #[I J x.h,I J x.p,.bool x.b] 114)).cell? ⟨a,5,none⟩=some (Value.slice c 0 cap):=A1 f rfl;have f5:(w.alloc (.cells #[I J x.h,I J x.p,.bool x.b] 114)).frozen? ⟨a,5,none⟩=false:=frozen_of_row _ _ _ _ _ f;have b0:(w.alloc (.cells #[I J x.h,I J x.p,.bool x.b] 114)).cell? ⟨w.heap.size,0,none⟩=some (I J x.h):=A1 (heap_alloc_new w _) rfl;have b1:(w.alloc (.cells #[I J x.h,I J x.p,.bool x.b] 114)).cell? ⟨w.heap.size,1,none⟩=some (I J x.p):=A1 (heap_alloc_new w _) rfl;have b2:(w.alloc (.cells #[I J x.h,I J x.p,.bool x.b] 114)).cell? ⟨w.heap.size,2,none⟩=some (.bool x.b):=A1 (heap_alloc_new w _) rfl;have F:∀r,(((w.alloc (.cells #[I J x.h,I J x.p,.bool x.b] 114)).drewN r).alloc (.cells #[I J x.h,I J x.p,.bool x.b] 114)).cell? ⟨a,5,none⟩=some (Value.slice c 0 cap):=fun r=>N1 c5 _ r;have y:A3 (w.alloc (.cells #[I J x.h,I J x.p,.bool x.b] 114)) base 114 3 (Value.slice c 0 cap) 0 (A6 []):=t.other (fun g _ s=>Below.heap_alloc _ _ _ s);have l:Hd ((w.alloc (.cells #[I J x.h,I J x.p,.bool x.b] 114)).heap.size=w.heap.size+1):=by show _=_;simp
 clear f;go_enter Tryz.func153,Tryz.ntmps153;go_wp2;obtain⟨wr,d⟩:=A8 (w.alloc (.cells #[I J x.h,I J x.p,.bool x.b] 114));have G:=A4 d;have z:Hd (D7 wr wr a (.cells #[I J k,I J W,I J next,I J run,ov,Value.slice c 0 cap] 230 (0,0))):=by rw[d];exact v
 rw[←d];rw[←d]at c5 f5 b0 b1 b2 y l;simp only[←d]at F;clear v d;go_quiet (fail);go_wp2;go_region_law (refine G3 rfl (.tmp 30) (.tmp 32) 110 rfl 114 i0 _ 3 24 Tryz.underlying110 hi C D E rfl Z base _ 0 (A6 []) (by simp[Act.eval];rfl) (by exact y.other (fun g _ s=>Below.heap_alloc (wr.drewN _) _ _ s)) ⟨wr.heap.size,0,none⟩ 1 [I J x.h,I J x.p,.bool x.b] (by simp[Act.eval]) rfl (by exact T2 (wr.drewN _) x _ rfl) (H9 x) (by unfold maxLen;omega) O (by simp;have:=l.o;omega) ?_;intro g' o' cap' w2 H A;have m:w2.heap[a]?=some (.cells #[I J k,I J W,I J next,I J run,ov,Value.slice c 0 cap] 230 (0,0)):=(A.other a (by have:=l.o;simp;omega) B).trans ((Below.heap_alloc (wr.drewN _) _ _ (by have:=l.o;show a<wr.heap.size;omega)).trans z.o.here);have K:Hd _:=m;have N:=A1 m (i:=5) rfl;have P:w2.frozen? ⟨a,5,none⟩=false:=frozen_of_row w2 _ _ _ _ m;clear m);all_goals go_end0
 all_goals exact⟨rfl,A51 (L:=[]) (wr:=wr) u (fun j h=>h) (by have:=z.o;rw[G.o]at this⊢;exact this) rfl rfl K.o H A⟩
theorem A94 (k W next run:Int)(x:W3)(base a g o cap:Nat)(ov:Value)(M:List W3)(N:0<M.length)(P:M.length<4398046511104)(w:World)
 (m:w.heap[a]?=some (.cells #[I J k,I J W,I J next,I J run,ov,.slice (some ⟨g,o,none⟩) M.length cap] 230 (0,0)))
 (u:A3 w base 114 3 (.slice (some ⟨g,o,none⟩) M.length cap) M.length (A6 M))(Q:base≤w.heap.size)
 (n:Int)(q:w.cell? ⟨g,o+(M.length-1)*3+1,none⟩=some (I J n))(R:(n !=x.p)=true) :
 Calls Tryz.prog 153 #[.pointer (some ⟨a,0,none⟩),.agg #[I J x.h,I J x.p,.bool x.b]] w fun e w'=>e=.returned (.tuple #[])∧
  ∃r,A3 w' base 114 3 r (M++[x]).length (A6 (M++[x]))∧w'.heap[a]?=some (.cells #[I J k,I J W,I J next,I J run,ov,r] 230 (0,0))∧PFr w w' (.slice (some ⟨g,o,none⟩) M.length cap) r a:=by
 have v:=lt_of_block m;have C:(Value.slice (some ⟨g,o,none⟩) M.length cap).ownBlock≠some a:=u.tag Z m;obtain⟨i0,hi,D,E,F⟩:=info_parts Tryz.info114;have d:(w.alloc (.cells #[I J x.h,I J x.p,.bool x.b] 114)).heap[a]?=some (.cells #[I J k,I J W,I J next,I J run,ov,Value.slice (some ⟨g,o,none⟩) M.length cap] 230 (0,0)):=by
  rw[Below.heap_alloc _ _ _ v];exact m
 have y:Hd (D7 (w.alloc (.cells #[I J x.h,I J x.p,.bool x.b] 114)) (w.alloc (.cells #[I J x.h,I J x.p,.bool x.b] 114)) a (.cells #[I J k,I J W,I J next,I J run,ov,Value.slice (some ⟨g,o,none⟩) M.length cap] 230 (0,0))):=
  ⟨rfl,rfl,rfl,rfl,d,fun _ _=>rfl⟩
 have c5:(w.alloc (.cells #[I J x.h,I J x.p,.bool x.b] 114)).cell? ⟨a,5,none⟩=some (Value.slice (some ⟨g,o,none⟩) M.length cap):=A1 d rfl;have f5:(w.alloc (.cells #[I J x.h,I J x.p,.bool x.b] 114)).frozen? ⟨a,5,none⟩=false:=frozen_of_row _ _ _ _ _ d;have b0:(w.alloc (.cells #[I J x.h,I J x.p,.bool x.b] 114)).cell? ⟨w.heap.size,0,none⟩=some (I J x.h):=A1 (heap_alloc_new w _) rfl;have b1:(w.alloc (.cells #[I J x.h,I J x.p,.bool x.b] 114)).cell? ⟨w.heap.size,1,none⟩=some (I J x.p):=A1 (heap_alloc_new w _) rfl;have b2:(w.alloc (.cells #[I J x.h,I J x.p,.bool x.b] 114)).cell? ⟨w.heap.size,2,none⟩=some (.bool x.b):=A1 (heap_alloc_new w _) rfl;have G:∀s,(((w.alloc (.cells #[I J x.h,I J x.p,.bool x.b] 114)).drewN s).alloc (.cells #[I J x.h,I J x.p,.bool x.b] 114)).cell? ⟨a,5,none⟩=some (Value.slice (some ⟨g,o,none⟩) M.length cap):=fun s=>N1 c5 _ s;have z:A3 (w.alloc (.cells #[I J x.h,I J x.p,.bool x.b] 114)) base 114 3 (Value.slice (some ⟨g,o,none⟩) M.length cap) M.length (A6 M):=u.other (fun g _ t=>Below.heap_alloc _ _ _ t);have f:Hd ((w.alloc (.cells #[I J x.h,I J x.p,.bool x.b] 114)).heap.size=w.heap.size+1):=by show _=_;simp
 clear d;have cl:(w.alloc (.cells #[I J x.h,I J x.p,.bool x.b] 114)).cell? ⟨g,o+(M.length-1)*3+1,none⟩=some (I J n):=
  (World.cell?_of_block (Below.heap_alloc w _ _ (block_lt_of_cell q))).trans q
 clear q;have S:((M.length:Int)==0)=false:=by rw[beq_eq_false_iff_ne];omega
 have T:((M.length:Int)-1).toNat=M.length-1:=O;have V:0≤(M.length:Int)-1:=O;have X:(M.length:Int)-1<M.length:=O;go_enter Tryz.func153,Tryz.ntmps153;go_wp2;obtain⟨wr,c⟩:=A8 (w.alloc (.cells #[I J x.h,I J x.p,.bool x.b] 114));have H:=A4 c;have A:Hd (D7 wr wr a (.cells #[I J k,I J W,I J next,I J run,ov,Value.slice (some ⟨g,o,none⟩) M.length cap] 230 (0,0))):=by rw[c];exact y
 rw[←c];rw[←c]at cl c5 f5 b0 b1 b2 z f;simp only[←c]at G;clear y c;go_quiet (fail);go_wp2;go_region_law (refine G3 rfl (.tmp 30) (.tmp 32) 110 rfl 114 i0 _ 3 24 Tryz.underlying110 hi D E F rfl Z base _ M.length (A6 M) (by simp[Act.eval];rfl) (by exact z.other (fun g _ t=>Below.heap_alloc (wr.drewN _) _ _ t)) ⟨wr.heap.size,0,none⟩ 1 [I J x.h,I J x.p,.bool x.b] (by simp[Act.eval]) rfl (by exact T2 (wr.drewN _) x _ rfl) (H9 x) (by unfold maxLen;omega) O (by simp;have:=f.o;omega) ?_;intro g' o' cap' w2 K B;have l:w2.heap[a]?=some (.cells #[I J k,I J W,I J next,I J run,ov,Value.slice (some ⟨g,o,none⟩) M.length cap] 230 (0,0)):=(B.other a (by have:=f.o;simp;omega) C).trans ((Below.heap_alloc (wr.drewN _) _ _ (by have:=f.o;show a<wr.heap.size;omega)).trans A.o.here);have L:Hd _:=l;have Y:=A1 l (i:=5) rfl;have qf:w2.frozen? ⟨a,5,none⟩=false:=frozen_of_row w2 _ _ _ _ l;clear l);all_goals go_end0
 all_goals exact⟨rfl,A51 (wr:=wr) v (fun j h=>h) (by have:=A.o;rw[H.o]at this⊢;exact this) rfl rfl L.o K B⟩
theorem A8U (k W next run:Int)(x:W3)(base a g o cap:Nat)(ov:Value)(M:List W3)(C:0<M.length)(D:M.length<4398046511104)(w:World)
 (f:w.heap[a]?=some (.cells #[I J k,I J W,I J next,I J run,ov,.slice (some ⟨g,o,none⟩) M.length cap] 230 (0,0)))
 (n:A3 w base 114 3 (.slice (some ⟨g,o,none⟩) M.length cap) M.length (A6 M))(E:base≤w.heap.size)
 (i:Int)(l:w.cell? ⟨g,o+(M.length-1)*3+1,none⟩=some (I J i))(F:(i !=x.p)=false) :
 Calls Tryz.prog 153 #[.pointer (some ⟨a,0,none⟩),.agg #[I J x.h,I J x.p,.bool x.b]] w fun e w'=>e=.returned (.tuple #[])∧
  A3 w' base 114 3 (.slice (some ⟨g,o,none⟩) M.length cap) M.length (A6 M)∧w'.heap[a]?=some (.cells #[I J k,I J W,I J next,I J run,ov,.slice (some ⟨g,o,none⟩) M.length cap] 230 (0,0))∧PFr w w' (.slice (some ⟨g,o,none⟩) M.length cap) (.slice (some ⟨g,o,none⟩) M.length cap) a:=by
 have s:=lt_of_block f;have G:(Value.slice (some ⟨g,o,none⟩) M.length cap).ownBlock≠some a:=n.tag Z f;obtain⟨i0,hi,H,K,L⟩:=info_parts Tryz.info114;have d:(w.alloc (.cells #[I J x.h,I J x.p,.bool x.b] 114)).heap[a]?=some (.cells #[I J k,I J W,I J next,I J run,ov,Value.slice (some ⟨g,o,none⟩) M.length cap] 230 (0,0)):=by
  rw[Below.heap_alloc _ _ _ s];exact f
 have q:Hd (D7 (w.alloc (.cells #[I J x.h,I J x.p,.bool x.b] 114)) (w.alloc (.cells #[I J x.h,I J x.p,.bool x.b] 114)) a (.cells #[I J k,I J W,I J next,I J run,ov,Value.slice (some ⟨g,o,none⟩) M.length cap] 230 (0,0))):=
  ⟨rfl,rfl,rfl,rfl,d,fun _ _=>rfl⟩
 have c5:(w.alloc (.cells #[I J x.h,I J x.p,.bool x.b] 114)).cell? ⟨a,5,none⟩=some (Value.slice (some ⟨g,o,none⟩) M.length cap):=A1 d rfl;have f5:(w.alloc (.cells #[I J x.h,I J x.p,.bool x.b] 114)).frozen? ⟨a,5,none⟩=false:=frozen_of_row _ _ _ _ _ d;have b0:(w.alloc (.cells #[I J x.h,I J x.p,.bool x.b] 114)).cell? ⟨w.heap.size,0,none⟩=some (I J x.h):=A1 (heap_alloc_new w _) rfl;have b1:(w.alloc (.cells #[I J x.h,I J x.p,.bool x.b] 114)).cell? ⟨w.heap.size,1,none⟩=some (I J x.p):=A1 (heap_alloc_new w _) rfl;have b2:(w.alloc (.cells #[I J x.h,I J x.p,.bool x.b] 114)).cell? ⟨w.heap.size,2,none⟩=some (.bool x.b):=A1 (heap_alloc_new w _) rfl;have t:∀m,(((w.alloc (.cells #[I J x.h,I J x.p,.bool x.b] 114)).drewN m).alloc (.cells #[I J x.h,I J x.p,.bool x.b] 114)).cell? ⟨a,5,none⟩=some (Value.slice (some ⟨g,o,none⟩) M.length cap):=fun m=>N1 c5 _ m;have r:A3 (w.alloc (.cells #[I J x.h,I J x.p,.bool x.b] 114)) base 114 3 (Value.slice (some ⟨g,o,none⟩) M.length cap) M.length (A6 M):=n.other (fun g _ u=>Below.heap_alloc _ _ _ u);have v:Hd ((w.alloc (.cells #[I J x.h,I J x.p,.bool x.b] 114)).heap.size=w.heap.size+1):=by show _=_;simp
 clear d;have cl:(w.alloc (.cells #[I J x.h,I J x.p,.bool x.b] 114)).cell? ⟨g,o+(M.length-1)*3+1,none⟩=some (I J i):=
  (World.cell?_of_block (Below.heap_alloc w _ _ (block_lt_of_cell l))).trans l
 clear l;have N:((M.length:Int)==0)=false:=by rw[beq_eq_false_iff_ne];omega
 have P:((M.length:Int)-1).toNat=M.length-1:=O;have Q:0≤(M.length:Int)-1:=O;have R:(M.length:Int)-1<M.length:=O;go_enter Tryz.func153,Tryz.ntmps153;go_wp2;obtain⟨wr,c⟩:=A8 (w.alloc (.cells #[I J x.h,I J x.p,.bool x.b] 114));have y:=A4 c;have z:Hd (D7 wr wr a (.cells #[I J k,I J W,I J next,I J run,ov,Value.slice (some ⟨g,o,none⟩) M.length cap] 230 (0,0))):=by rw[c];exact q
 rw[←c];rw[←c]at cl c5 f5 b0 b1 b2 r v;simp only[←c]at t;clear q c;go_quiet (fail);go_wp2;go_end0;refine⟨rfl,r,z.o.here,?_⟩;have:=y.o;subst this;exact⟨rfl,rfl,rfl,Zs,fun j A _ _=>Below.heap_alloc w _ j A,fun g B=>Or.inl B⟩
end
end Mn
end Go.Proofs.YtilcmkiihefkkaaGreatDoor
