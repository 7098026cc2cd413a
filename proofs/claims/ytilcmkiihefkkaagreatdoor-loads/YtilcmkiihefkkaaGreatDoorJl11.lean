import Derived.Deep.LoopGhost
import Derived.Test.YtilcmkiihefkkaaGreatDoorJl9
set_option linter.unusedVariables false
set_option linter.unusedSimpArgs false
set_option maxRecDepth 1000000
set_option maxHeartbeats 64000000
open Go.Value renaming int→I
open Go.IntKind renaming i64→J
namespace Go.Proofs.YtilcmkiihefkkaaGreatDoor
namespace Mn
section
open Go.RowKit
theorem Tryz.info114:(Tryz.prog.info? 114).map (fun i=>(i.zero,i.size,i.bytes))=some (some (.agg #[I J 0,I J 0,.bool false]),3,24):=U
def A36 (L:List W3)(h:Int)(n:Nat):Prop:=
 n≤L.length∧(∀j (hj:j<L.length),n≤j→h<L[j].h)∧(∀hj:n-1<L.length,0<n→¬h<L[n-1].h)
theorem A6y (L:List W3):∀n,A6 (L.take n)=(A6 L).take (n*3):=by
 induction L with
 |nil=>intro n;simp[A6]
 |cons x L ih=>
  intro n;cases n with
  |zero=>simp[A6]
  |succ n=>
   rw[List.take_succ_cons,T1,T1,ih,show(n+1)*3=n*3+1+1+1 by omega];rfl
theorem A3.take {w:World}{base g o cap:Nat}{L:List W3}(h:A3 w base 114 3 (.slice (some ⟨g,o,none⟩) L.length cap) L.length (A6 L)){n:Nat}(hn:n≤L.length) :
 A3 w base 114 3 (.slice (some ⟨g,o,none⟩) n cap) n (A6 (L.take n)):=by
 obtain⟨h0,h⟩:=h;refine⟨by rw[L4,List.length_take];congr 1;omega,?_⟩;rcases h with⟨h,_⟩|⟨g',o',cap',cur,he,h1,h2,h3,h4,h5,h6⟩
 ·simp at h
 ·simp only[Value.slice.injEq,Option.some.injEq,Addr.mk.injEq,and_true,true_and]at he;obtain⟨⟨rfl,rfl⟩,rfl⟩:=he;refine Or.inr ⟨g,o,cap,cur,rfl,h1,h2,O,h4,h5,?_⟩;intro j u hj;rw[A6y,List.getElem?_take]at hj;split at hj
  ·exact h6 j u hj
  ·exact absurd hj Zs
structure PFr (w w':World)(v v':Value)(Bk:Nat):Prop where
 os:w'.os=w.os
 tape:w'.tape=w.tape
 output:w'.output=w.output
 size:w.heap.size≤w'.heap.size
 other:∀j,j<w.heap.size→j≠Bk→v.ownBlock≠some j→w'.heap[j]?=w.heap[j]?
 new:∀g,v'.ownBlock=some g→v.ownBlock=some g∨w.heap.size≤g
theorem V6 (W:World)(x:W3)(s:Nat)(hs:s=W.heap.size):∀j u,([I J x.h,I J x.p,.bool x.b]:List Value)[j]?=some u→(W.alloc (.cells #[I J x.h,I J x.p,.bool x.b] 114)).cell? ((⟨s,0,none⟩:Addr).add j)=some u:=by
 intro j u hj;subst hs;rw[Addr.add_lit,Nat.zero_add];refine A1 (heap_alloc_new W _) ?_;simpa using hj
theorem J0 (x:W3):∀u∈([I J x.h,I J x.p,.bool x.b]:List Value),u.oneCell'=true:=by
 intro u hu;simp at hu;rcases hu with rfl|rfl|rfl<;>rfl
theorem O7 {w:World}{a:Addr}{v:Value}(h:w.cell? a=some v)(o:Obj)(nq:Nat):((w.drewN nq).alloc o).cell? a=some v:=
 (World.cell?_of_block (Below.heap_alloc (w.drewN nq) o _ (block_lt_of_cell h))).trans h
theorem A5c {w wr W w2:World}{base Bk g' o' cap' n s nq:Nat}{k Wi next run:Int}{x:W3}{ov0 ov pv:Value}{L:List W3}
 (hltB:Bk<w.heap.size)(hov:∀j,ov.ownBlock=some j→ov0.ownBlock=some j)
 (hu:E1 (w.alloc (.cells #[I J x.h,I J x.p,.bool x.b] 114)) wr Bk (.cells #[I J k,I J Wi,I J next,I J run,ov,pv] 230 (0,0)))
 (hW:W=(wr.drewN nq).alloc (.cells #[I J x.h,I J x.p,.bool x.b] 114))(hs:s=n+1)
 (hB2:w2.heap[Bk]?=some (.cells #[I J k,I J Wi,I J next,I J run,ov,pv] 230 (0,0)))
 (hown:A3 w2 base 114 3 (.slice (some ⟨g',o',none⟩) s cap') s (A6 L++[I J x.h,I J x.p,.bool x.b]))(hfr:L1 W w2 ov g') :
 ∃ov',A3 (w2.setCell ⟨Bk,4,none⟩ (.slice (some ⟨g',o',none⟩) s cap')) base 114 3 ov' (L++[x]).length (A6 (L++[x]))∧
  (w2.setCell ⟨Bk,4,none⟩ (.slice (some ⟨g',o',none⟩) s cap')).heap[Bk]?=some (.cells #[I J k,I J Wi,I J next,I J run,ov',pv] 230 (0,0))∧
  PFr w (w2.setCell ⟨Bk,4,none⟩ (.slice (some ⟨g',o',none⟩) s cap')) ov0 ov' Bk:=by
 subst hW;have hlen:s=(L++[x]).length:=by
  have:=hown.1;rw[List.length_append,L4]at this;simp at this⊢;omega
 have hU:=E1.of_setCell (i:=4) (.slice (some ⟨g',o',none⟩) s cap') hB2;have hne:(Value.slice (some ⟨g',o',none⟩) s cap').ownBlock≠some Bk:=hown.tag Z hB2;have hsz:wr.heap.size=w.heap.size+1:=by rw[hu.size];simp
 have hfs:=hfr.size;simp at hfs;refine⟨.slice (some ⟨g',o',none⟩) s cap',?_,hU.here,⟨?_,?_,?_,?_,?_,?_⟩⟩
 ·rw[←hlen,L5];exact hown.other (fun g hg _=>hU.other g (fun e=>hne (by rw[hg,e])))
 ·exact hU.os.trans (hfr.os.trans hu.os)
 ·exact hU.tape.trans (hfr.tape.trans hu.tape)
 ·exact hU.output.trans (hfr.output.trans hu.output)
 ·rw[hU.size];have:(wr.drewN nq).heap.size=wr.heap.size:=rfl;omega
 ·intro j hj hjB hjo;rw[hU.other j hjB,hfr.other j Zo (fun e=>hjo (hov j e)),Below.heap_alloc _ _ _ (by show j<wr.heap.size;omega)];show wr.heap[j]?=_;rw[hu.other j hjB,Below.heap_alloc _ _ _ hj]
 ·intro g hg;simp only[Value.ownBlock,Option.some.injEq]at hg;subst hg;rcases hfr.new with h|h
  ·exact Or.inl (hov _ h)
  ·right;have:wr.heap.size+1≤g':=by simpa using h
   omega
theorem B0T (k W next run:Int)(x:W3)(L:List W3)(base Bk g o cap:Nat)(pv:Value)(w:World)
 (hB:w.heap[Bk]?=some (.cells #[I J k,I J W,I J next,I J run,.slice (some ⟨g,o,none⟩) L.length cap,pv] 230 (0,0)))
 (hown:A3 w base 114 3 (.slice (some ⟨g,o,none⟩) L.length cap) L.length (A6 L))(hbase:base≤w.heap.size)(hL:L.length<4398046511104) :
 Calls Tryz.prog 151 #[.pointer (some ⟨Bk,0,none⟩),.agg #[I J x.h,I J x.p,.bool x.b]] w fun e w'=>e=.returned (.tuple #[])∧
  ∃n,A36 L x.h n∧∃ov',A3 w' base 114 3 ov' (L.take n++[x]).length (A6 (L.take n++[x]))∧w'.heap[Bk]?=some (.cells #[I J k,I J W,I J next,I J run,ov',pv] 230 (0,0))∧PFr w w' (.slice (some ⟨g,o,none⟩) L.length cap) ov' Bk:=by
 have hltB:=lt_of_block hB;have hgne:(Value.slice (some ⟨g,o,none⟩) L.length cap).ownBlock≠some Bk:=hown.tag Z hB;have hgB:g≠Bk:=fun e=>hgne (by simp[Value.ownBlock,e]);obtain⟨cur,hg,hlc,hcap,hcu⟩:∃cur:Array Value,w.heap[g]?=some (.cells cur 114 (0,0))∧L.length≤cap∧cap≤9223372036854775807∧∀j u,(A6 L)[j]?=some u→cur[o+j]?=some u:=by
  rcases hown.2 with⟨h,_⟩|⟨g',o',cap',cur,he,h1,h2,h3,h4,h5,h6⟩
  ·simp at h
  ·simp only[Value.slice.injEq,Option.some.injEq,Addr.mk.injEq,and_true,true_and]at he;obtain⟨⟨rfl,rfl⟩,rfl⟩:=he;exact⟨cur,h2,h3,h4,h6⟩
 have hltg:=lt_of_block hg;obtain⟨i0,hi,hz0,hz1,hz2⟩:=info_parts Tryz.info114;go_enter Tryz.func151,Tryz.ntmps151;go_wp2;go_loopg [] L.length (fun n wr=>n≤L.length∧(∀j (hj:j<L.length),n≤j→x.h<L[j].h)∧E1 (w.alloc (.cells #[I J x.h,I J x.p,.bool x.b] 114)) wr Bk (.cells #[I J k,I J W,I J next,I J run,.slice (some ⟨g,o,none⟩) n cap,pv] 230 (0,0)));case atStart=>
  refine⟨Nat.le_refl _,fun j hj h=>absurd h O,⟨rfl,rfl,rfl,rfl,?_,fun _ _=>rfl⟩⟩;rw[Below.heap_alloc _ _ _ hltB];exact hB
 case round=>
  obtain⟨hn,hall,hu⟩:=hrel;have HA:=A4 hall;clear hall;have c4:wr.cell? ⟨Bk,4,none⟩=some (.slice (some ⟨g,o,none⟩) gk cap):=A1 hu.here rfl;have f4:wr.frozen? ⟨Bk,4,none⟩=false:=frozen_of_row wr _ _ _ _ hu.here;have hbox:wr.heap[w.heap.size]?=some (.cells #[I J x.h,I J x.p,.bool x.b] 114 (0,0)):=by
   rw[hu.other _ O];exact heap_alloc_new w _
  have b0:wr.cell? ⟨w.heap.size,0,none⟩=some (I J x.h):=A1 hbox rfl;have b1:wr.cell? ⟨w.heap.size,1,none⟩=some (I J x.p):=A1 hbox rfl;have b2:wr.cell? ⟨w.heap.size,2,none⟩=some (.bool x.b):=A1 hbox rfl;have hgr:wr.heap[g]?=some (.cells cur 114 (0,0)):=by
   rw[hu.other _ hgB,Below.heap_alloc _ _ _ hltg];exact hg
  have hownr:A3 wr base 114 3 (.slice (some ⟨g,o,none⟩) gk cap) gk (A6 (L.take gk)):=
   (hown.take hn).other (fun g' hg' hlt=>by
    simp only[Value.ownBlock,Option.some.injEq]at hg'
    subst hg'
    rw[hgr,hg])
  have hszr:wr.heap.size=w.heap.size+1:=by rw[hu.size];simp
  have HS:=A4 hszr;have ha4:∀nq,((wr.drewN nq).alloc (.cells #[I J x.h,I J x.p,.bool x.b] 114)).cell? ⟨Bk,4,none⟩=some (.slice (some ⟨g,o,none⟩) gk cap):=fun nq=>O7 c4 _ nq;clear hszr;have HU:=A4 hu;clear hu;have hlast:0<gk→wr.cell? ⟨g,o+(gk-1)*3,none⟩=some (I J (L[gk-1]?.getD ⟨0,0,false⟩).h):=fun h0=>by
   have hk:=J3 L (gk-1) O;refine A1 hgr ?_;rw[Nat.mul_comm,hcu _ _ hk.1,List.getElem?_eq_getElem O];rfl
  clear hbox hgr;by_cases h0:0<gk
  ·have cl:=hlast h0;have hget:(L[gk-1]?.getD ⟨0,0,false⟩)=L[gk-1]'O:=by rw[List.getElem?_eq_getElem O];rfl
   rw[hget]at cl;clear hlast hget;have h0':(0:Int)<gk:=O;have hkI:((gk:Int)-1).toNat=gk-1:=O;have hkI2:0≤(gk:Int)-1:=O;have hkI3:(gk:Int)-1<gk:=O;by_cases hlt:x.h<L[gk-1].h
   ·have hsl:(gk:Int)-1≤cap:=O;go_wp2;go_quiet (fail);go_wp2;go_region;go_wp2;go_roundg (gk-1);case measure=>omega
    case rel=>
     refine⟨O,?_,(((HU.o.drewN _).drew).setCell _)⟩;intro j hj h;by_cases hjk:gk≤j
     ·exact HA.o j hj hjk
     ·obtain rfl:j=gk-1:=O;exact hlt
   ·go_wp2;go_quiet (fail);go_wp2;go_region_law (refine H9 rfl (.tmp 46) (.tmp 48) 110 rfl 114 i0 _ 3 24 Tryz.underlying110 hi hz0 hz1 hz2 rfl Z base _ gk (A6 (L.take gk)) (by simp[Act.eval,Act.put];rfl) (by exact hownr.other (fun g _ hlt=>Below.heap_alloc (wr.drewN _) _ _ hlt)) ⟨wr.heap.size,0,none⟩ 1 [I J x.h,I J x.p,.bool x.b] (by simp[Act.eval,Act.put]) rfl (by exact V6 (wr.drewN _) x _ rfl) (J0 x) (by unfold maxLen;omega) O (by simp;have:=HS.o;omega) ?_;intro g' o' cap' w2 hown' hfr;have hB2:w2.heap[Bk]?=some (.cells #[I J k,I J W,I J next,I J run,.slice (some ⟨g,o,none⟩) gk cap,pv] 230 (0,0)):=(hfr.other Bk (by have:=HS.o;simp;omega) (by simp[Value.ownBlock];omega)).trans ((Below.heap_alloc (wr.drewN _) _ _ (by have:=HS.o;show Bk<wr.heap.size;omega)).trans HU.o.here);have HB2:Hd _:=hB2;have q4:=A1 hB2 (i:=4) rfl;have qf:w2.frozen? ⟨Bk,4,none⟩=false:=frozen_of_row w2 _ _ _ _ hB2;clear hB2);all_goals go_end0
    all_goals exact⟨rfl,gk,⟨hn,HA.o,fun _ _=>O⟩,A5c (ov:=.slice (some ⟨g,o,none⟩) gk cap) hltB (fun j h=>by simpa[Value.ownBlock] using h) HU.o rfl rfl HB2.o hown' hfr⟩
  ·obtain rfl:gk=0:=O;clear hlast;go_wp2;go_quiet (fail);go_wp2;go_region_law (refine H9 rfl (.tmp 46) (.tmp 48) 110 rfl 114 i0 _ 3 24 Tryz.underlying110 hi hz0 hz1 hz2 rfl Z base _ 0 (A6 (L.take 0)) (by simp[Act.eval,Act.put];rfl) (by exact hownr.other (fun g _ hlt=>Below.heap_alloc (wr.drewN _) _ _ hlt)) ⟨wr.heap.size,0,none⟩ 1 [I J x.h,I J x.p,.bool x.b] (by simp[Act.eval,Act.put]) rfl (by exact V6 (wr.drewN _) x _ rfl) (J0 x) (by unfold maxLen;omega) O (by simp;have:=HS.o;omega) ?_;intro g' o' cap' w2 hown' hfr;have hB2:w2.heap[Bk]?=some (.cells #[I J k,I J W,I J next,I J run,.slice (some ⟨g,o,none⟩) 0 cap,pv] 230 (0,0)):=(hfr.other Bk (by have:=HS.o;simp;omega) (by simp[Value.ownBlock];omega)).trans ((Below.heap_alloc (wr.drewN _) _ _ (by have:=HS.o;show Bk<wr.heap.size;omega)).trans HU.o.here);have HB2:Hd _:=hB2;have q4:=A1 hB2 (i:=4) rfl;have qf:w2.frozen? ⟨Bk,4,none⟩=false:=frozen_of_row w2 _ _ _ _ hB2;clear hB2);all_goals go_end0
   all_goals exact⟨rfl,0,⟨hn,HA.o,fun _ h=>absurd h O⟩,A5c (ov:=.slice (some ⟨g,o,none⟩) 0 cap) hltB (fun j h=>by simpa[Value.ownBlock] using h) HU.o rfl rfl HB2.o hown' hfr⟩
theorem add_nil (k W next run:Int)(x:W3)(base Bk:Nat)(pv:Value)(w:World)
 (hB:w.heap[Bk]?=some (.cells #[I J k,I J W,I J next,I J run,.slice none 0 0,pv] 230 (0,0)))(hbase:base≤w.heap.size) :
 Calls Tryz.prog 151 #[.pointer (some ⟨Bk,0,none⟩),.agg #[I J x.h,I J x.p,.bool x.b]] w fun e w'=>e=.returned (.tuple #[])∧
  ∃ov',A3 w' base 114 3 ov' ([]++[x]).length (A6 ([]++[x]))∧w'.heap[Bk]?=some (.cells #[I J k,I J W,I J next,I J run,ov',pv] 230 (0,0))∧PFr w w' (.slice none 0 0) ov' Bk:=by
 have hltB:=lt_of_block hB;obtain⟨i0,hi,hz0,hz1,hz2⟩:=info_parts Tryz.info114;go_enter Tryz.func151,Tryz.ntmps151;go_wp2;go_loopg [] 0 (fun n wr=>n=0∧E1 (w.alloc (.cells #[I J x.h,I J x.p,.bool x.b] 114)) wr Bk (.cells #[I J k,I J W,I J next,I J run,.slice none 0 0,pv] 230 (0,0)));case atStart=>
  refine⟨rfl,⟨rfl,rfl,rfl,rfl,?_,fun _ _=>rfl⟩⟩;rw[Below.heap_alloc _ _ _ hltB];exact hB
 case round=>
  obtain⟨_,hu⟩:=hrel;have c4:wr.cell? ⟨Bk,4,none⟩=some (.slice none 0 0):=A1 hu.here rfl;have f4:wr.frozen? ⟨Bk,4,none⟩=false:=frozen_of_row wr _ _ _ _ hu.here;have hbox:wr.heap[w.heap.size]?=some (.cells #[I J x.h,I J x.p,.bool x.b] 114 (0,0)):=by
   rw[hu.other _ O];exact heap_alloc_new w _
  have b0:wr.cell? ⟨w.heap.size,0,none⟩=some (I J x.h):=A1 hbox rfl;have b1:wr.cell? ⟨w.heap.size,1,none⟩=some (I J x.p):=A1 hbox rfl;have b2:wr.cell? ⟨w.heap.size,2,none⟩=some (.bool x.b):=A1 hbox rfl;have hszr:wr.heap.size=w.heap.size+1:=by rw[hu.size];simp
  have HS:=A4 hszr;have ha4:∀nq,((wr.drewN nq).alloc (.cells #[I J x.h,I J x.p,.bool x.b] 114)).cell? ⟨Bk,4,none⟩=some (.slice none 0 0):=fun nq=>O7 c4 _ nq;clear hszr;have HU:=A4 hu;clear hu hbox;go_wp2;go_quiet (fail);go_wp2;go_region_law (refine H9 rfl (.tmp 46) (.tmp 48) 110 rfl 114 i0 _ 3 24 Tryz.underlying110 hi hz0 hz1 hz2 rfl Z base _ 0 (A6 []) (by simp[Act.eval,Act.put];rfl) (by exact A3.nil _ _ _ _) ⟨wr.heap.size,0,none⟩ 1 [I J x.h,I J x.p,.bool x.b] (by simp[Act.eval,Act.put]) rfl (by exact V6 (wr.drewN _) x _ rfl) (J0 x) (by unfold maxLen;omega) O (by simp;have:=HS.o;omega) ?_;intro g' o' cap' w2 hown' hfr;have hB2:w2.heap[Bk]?=some (.cells #[I J k,I J W,I J next,I J run,.slice none 0 0,pv] 230 (0,0)):=(hfr.other Bk (by have:=HS.o;simp;omega) (by simp[Value.ownBlock])).trans ((Below.heap_alloc (wr.drewN _) _ _ (by have:=HS.o;show Bk<wr.heap.size;omega)).trans HU.o.here);have HB2:Hd _:=hB2;have q4:=A1 hB2 (i:=4) rfl;have qf:w2.frozen? ⟨Bk,4,none⟩=false:=frozen_of_row w2 _ _ _ _ hB2;clear hB2);all_goals go_end0
  all_goals exact⟨rfl,A5c (L:=[]) (ov:=.slice none 0 0) hltB (fun j h=>h) HU.o rfl rfl HB2.o hown' hfr⟩
theorem A8v (k W next run:Int)(x:W3)(L:List W3)(base Bk:Nat)(ov pv:Value)(w:World)
 (hB:w.heap[Bk]?=some (.cells #[I J k,I J W,I J next,I J run,ov,pv] 230 (0,0)))
 (hown:A3 w base 114 3 ov L.length (A6 L))(hbase:base≤w.heap.size)(hL:L.length<4398046511104) :
 Calls Tryz.prog 151 #[.pointer (some ⟨Bk,0,none⟩),.agg #[I J x.h,I J x.p,.bool x.b]] w fun e w'=>e=.returned (.tuple #[])∧
  ∃n,A36 L x.h n∧∃ov',A3 w' base 114 3 ov' (L.take n++[x]).length (A6 (L.take n++[x]))∧w'.heap[Bk]?=some (.cells #[I J k,I J W,I J next,I J run,ov',pv] 230 (0,0))∧PFr w w' ov ov' Bk:=by
 have h:=hown.2;rcases h with⟨rfl,h0⟩|⟨g,o,cap,cur,rfl,_⟩
 ·obtain rfl:L=[]:=List.eq_nil_of_length_eq_zero h0;refine(add_nil k W next run x base Bk pv w hB hbase).mono ?_;rintro e w' ⟨rfl,ov',h1,h2,h3⟩;exact⟨rfl,0,⟨Nat.le_refl _,fun j hj=>absurd hj Zs,fun hj=>absurd hj Zs⟩,ov',by simpa using h1,h2,h3⟩
 ·exact B0T k W next run x L base Bk g o cap pv w hB hown hbase hL
def A0I:Value→Nat
 |.slice (some a) _ _=>a.off
 |_=>0
structure A0p (w w':World)(v:Value)(n size g' o':Nat):Prop where
 fr:L1 w w' v g'
 blk:∀(b:Nat) (cur:Array Value) (t:TypeId),w.heap[b]?=some (Obj.cells cur t (0,0))→∃cur':Array Value,w'.heap[b]?=some (Obj.cells cur' t (0,0))∧cur'.size=cur.size∧∀off,(v.ownBlock=some b→off<A0I v+n*size)→cur'[off]?=cur[off]?
 off:v.ownBlock=some g'→o'=A0I v
theorem B1P {P:Program}(w:World)(t ty e:TypeId)(i:TypeInfo)(z:Value)(size bytes:Nat)(h1:P.underlying t=some (.slice e))(x:P.info? e=some i)(L:i.zero=some z)(y:i.size=size)(M:i.bytes=bytes)(N:z.cells.size=size)(Q:0<size)
 (base:Nat)(v:Value)(n:Nat)(xs:List Value)(A:A3 w base e size v n xs)
 (l:Addr)(c:Nat)(news:List Value)(W:news.length=size)(B:∀j u,news[j]?=some u→w.cell? (l.add j)=some u)(R:∀u∈news,u.oneCell'=true)
 (b1:n+1≤maxLen)(b2:(n+1)*bytes≤140737488355328)(S:base≤w.heap.size) :
 ∃g' o' cap' w',(Builtin.append_ #[t,t] ty #[v,.slice (some l) 1 c]).run P w=.ok (.slice (some ⟨g',o',none⟩) (n+1) cap') w'∧A3 w' base e size (.slice (some ⟨g',o',none⟩) (n+1) cap') (n+1) (xs++news)∧A0p w w' v n size g' o':=by
 have C:news.length=1*size:=O;obtain⟨D,A⟩:=A;rcases A with⟨rfl,rfl⟩|⟨g,o,cap,cur,rfl,E,k,ac,X,Y,T⟩
 ·obtain rfl:xs=[]:=List.eq_nil_of_length_eq_zero (by simpa using D);obtain⟨v',w',m,p,d,_⟩:=run_append_own (P:=P) w w.heap.size t ty e i z size bytes h1 x L y M N Q (.slice none 0 0) 0 [] (World.ownsRow_nil w _ e size) l 1 c news C B R b1 b2 (Nat.le_refl _);rcases p.2 with⟨_,F⟩|⟨g,cap,cur,rfl,E,k,_⟩
  ·exact absurd F Zs
  ·refine⟨g,0,cap,w',m,A3.of_ownsRow p S,⟨⟨d.os,d.tape,d.output,d.size,fun j a _=>d.block j a (by simp[Value.ownBlock]),Or.inr E,lt_of_block k⟩,?_,fun h=>by simp[Value.ownBlock]at h⟩⟩;intro b q t' f;exact⟨q,(d.block b (lt_of_block f) (by simp[Value.ownBlock])).trans f,rfl,fun _ _=>rfl⟩
 ·by_cases G:n+1≤cap
  ·subst y;have ae:o+(n+1)*i.size≤cur.size:=Nat.le_trans (Nat.add_le_add_left (Nat.mul_le_mul_right _ G) o) Y;have hex:(n+1)*i.size=n*i.size+i.size:=by rw[Nat.add_mul,Nat.one_mul]
   have m:=run_append_room_cells (P:=P) w t ty e i h1 x g o n cap l 1 c news C B R G
    (fun j a=>by rw[cell_of_row w g _ cur e (0,0) k];simp;omega) (fun j _=>frozen_of_row w g _ cur e k)
   obtain⟨q,H,q2,V,q4⟩:=D4 g e news (o+n*i.size) w cur k;have r:=G9 g news (o+n*i.size) w;refine⟨g,o,cap,_,m,⟨by rw[List.length_append,D,W];omega,Or.inr ⟨g,o,cap,q,rfl,E,H,G,X,O,?_⟩⟩,⟨⟨r.2.1,r.1,r.2.2.1,by rw[r.2.2.2];exact Nat.le_refl _,fun j _ a=>C4 g news _ w j (fun h=>a (by simp[Value.ownBlock,h])),Or.inl rfl,lt_of_block H⟩,?_,fun _=>rfl⟩⟩
   ·intro j u a;rw[List.getElem?_append]at a;split at a
    ·rw[V _ O];exact T j u a
    ·have:=q4 (j-xs.length) u a (by
      have:j-xs.length<news.length:=by
       rcases Nat.lt_or_ge (j-xs.length) news.length with h|h
       ·exact h
       ·rw[List.getElem?_eq_none h]at a;exact absurd a Zs
      omega)
     rwa [show o+n*i.size+(j-xs.length)=o+j by omega]at this
   ·intro b K tb f;by_cases s:b=g
    ·subst s;rw[k]at f;simp only[Option.some.injEq,Obj.cells.injEq,and_true]at f;obtain⟨rfl,rfl⟩:=f;exact⟨q,H,q2,fun off aa=>V off (aa rfl)⟩
    ·exact⟨K,(C4 g news _ w b s).trans f,rfl,fun _ _=>rfl⟩
  ·obtain⟨v',w',m,p,d⟩:=run_append_arg_grows (P:=P) w t ty e i z size bytes h1 x L y M N Q ⟨g,o,none⟩ n cap xs D (fun j u a=>by rw[Addr.add_lit,cell_of_row w g _ cur e (0,0) k];exact T j u a) l 1 c news C B O b1 b2;rcases p.2 with⟨_,F⟩|⟨g',cap',q,rfl,s,ab,_⟩
   ·exact absurd F Zs
   ·refine⟨g',0,cap',w',m,A3.of_ownsRow p S,⟨⟨d.os,d.tape,d.output,d.size,fun j a _=>d.block j a Zs,Or.inr s,lt_of_block ab⟩,?_,?_⟩⟩
    ·intro b K tb f;exact⟨K,(d.block b (lt_of_block f) Zs).trans f,rfl,fun _ _=>rfl⟩
    ·intro h;simp only[Value.ownBlock,Option.some.injEq]at h;subst h;have:=lt_of_block k;omega
theorem P3 {P:Program}(w:World){ops:Array Oper}{rest:List Oper}{o:Oper}{a:Act}{Q:Exit→Act→World→Prop}
 (d:o.guard=none)(s x:Operand)(t:TypeId)(f:o.op=Op.call {callee:=Callee.builtin Builtin.append,args:=#[s,x],argTypes:=#[t,t]})
 (e:TypeId)(i:TypeInfo)(z:Value)(size bytes:Nat)(h1:P.underlying t=some (.slice e))(g:P.info? e=some i)(h:i.zero=some z)(k:i.size=size)(l:i.bytes=bytes)(m:z.cells.size=size)(p:0<size)
 (base:Nat)(v:Value)(n:Nat)(xs:List Value)(hs:a.eval s=v)(q:A3 w base e size v n xs)
 (b:Addr)(c:Nat)(news:List Value)(r:a.eval x=.slice (some b) 1 c)(y:news.length=size)(A:∀j u,news[j]?=some u→w.cell? (b.add j)=some u)(B:∀u∈news,u.oneCell'=true)
 (b1:n+1≤maxLen)(b2:(n+1)*bytes≤140737488355328)(C:base≤w.heap.size)
 (D:∀g' o' cap' w',A3 w' base e size (.slice (some ⟨g',o',none⟩) (n+1) cap') (n+1) (xs++news)→A0p w w' v n size g' o'→wpList P ops Q rest (a.put o.dst (.slice (some ⟨g',o',none⟩) (n+1) cap')) w') :
 wpList P ops Q (o::rest) a w:=by
 refine wpList_plain d fun K E=>?_;obtain⟨g',o',cap',w',F,G,H⟩:=B1P (P:=P) w t o.type e i z size bytes h1 g h k l m p base v n xs q b c news y A B b1 b2 C;unfold Oper.wp;simp[execOp,f,resolve,invoke,builtin,hs,r,F,Result.andThen];exact E _ _ (D g' o' cap' w' G H)
theorem A3.app {w w':World}{base:Nat}{e:TypeId}{size:Nat}{u:Value}{a:Nat}{xs:List Value}{v:Value}{n sz g' o':Nat}(h:A3 w base e size u a xs)(c:A0p w w' v n sz g' o')
 (d:∀g,u.ownBlock=some g→v.ownBlock=some g→A0I u+a*size≤A0I v+n*sz):A3 w' base e size u a xs:=by
 obtain⟨f,h⟩:=h;refine⟨f,?_⟩;rcases h with⟨rfl,rfl⟩|⟨g,o,cap,cur,rfl,h1,i,k,l,t,m⟩
 ·exact Or.inl ⟨rfl,rfl⟩
 ·obtain⟨p,q,y,r⟩:=c.blk g cur e i;refine Or.inr ⟨g,o,cap,p,rfl,h1,q,k,l,O,fun j x b=>?_⟩;have z:j<xs.length:=by
   rcases Nat.lt_or_ge j xs.length with h|h
   ·exact h
   ·rw[List.getElem?_eq_none h]at b;exact absurd b Zs
  rw[r (o+j) (fun s=>?_)]
  ·exact m j x b
  ·have:=d g rfl s;have e:A0I (.slice (some ⟨g,o,none⟩) a cap)=o:=rfl;rw[e]at this;omega
def D7 (E:List (Value×Int)):List Value:=E.flatMap fun e=>[e.1,I J e.2]
theorem A1h (E F:List (Value×Int)):D7 (E++F)=D7 E++D7 F:=by simp[D7]
theorem A8E (E:List (Value×Int)):∀j (h:j<E.length),(D7 E)[2*j]?=some E[j].1∧(D7 E)[2*j+1]?=some (I J E[j].2):=by
 induction E with
 |nil=>intro j h;exact absurd h Zs
 |cons x E a=>
  intro j h;cases j with
  |zero=>exact⟨rfl,rfl⟩
  |succ j=>
   have:=a j (by simpa using h);show(x.1::I J x.2::D7 E)[2*(j+1)]?=_∧(x.1::I J x.2::D7 E)[2*(j+1)+1]?=_;rw[show 2*(j+1)=2*j+1+1 by omega];simpa using this
def marks (n:Nat)(k:Nat):List W3:=List.replicate n ⟨-1-(k:Int),0,false⟩
theorem A7r (X:List W3)(cur:Array Value)(o:Nat):(∀i u,(A6 X)[i]?=some u→cur[o+i]?=some u)↔∀q (h:q<X.length),cur[o+3*q]?=some (I J X[q].h)∧cur[o+(3*q+1)]?=some (I J X[q].p)∧cur[o+(3*q+2)]?=some (.bool X[q].b):=by
 constructor
 ·intro h q a;have:=J3 X q a;exact⟨h _ _ this.1,h _ _ this.2.1,h _ _ this.2.2⟩
 ·intro h i u hi;have f:i<X.length*3:=by
   rcases Nat.lt_or_ge i (A6 X).length with c|c
   ·rwa [L4]at c
   ·rw[List.getElem?_eq_none c]at hi;exact absurd hi Zs
  have a:i/3<X.length:=O;have h1:=J3 X (i/3) a;have d:=h (i/3) a;rcases (show i=3*(i/3)∨i=3*(i/3)+1∨i=3*(i/3)+2 by omega) with he|he|he
  ·rw[he]at hi⊢;rw[h1.1]at hi;rw[d.1];exact hi
  ·rw[he]at hi⊢;rw[h1.2.1]at hi;rw[d.2.1];exact hi
  ·rw[he]at hi⊢;rw[h1.2.2]at hi;rw[d.2.2];exact hi
theorem A8X (L:List W3)(k j:Nat)(h:j<L.length):(marks j k++L.drop j).set j ⟨-1-(k:Int),0,false⟩=marks (j+1) k++L.drop (j+1):=by
 unfold marks;rw[List.set_append_right _ _ Zs,List.length_replicate,Nat.sub_self,List.drop_eq_getElem_cons h,List.set_cons_zero,List.replicate_succ',List.append_assoc];rfl
structure Fr1 (w w':World)(v:Value):Prop where
 os:w'.os=w.os
 tape:w'.tape=w.tape
 output:w'.output=w.output
 size:w'.heap.size=w.heap.size
 other:∀j,j<w.heap.size→v.ownBlock≠some j→w'.heap[j]?=w.heap[j]?
theorem A5M {w wr W w2:World}{base a g' o' cap' n s q:Nat}{k l next run:Int}{x:W3}{r pv ov:Value}{L:List W3}
 (D:a<w.heap.size)(t:∀j,pv.ownBlock=some j→r.ownBlock=some j)
 (hu:E1 (w.alloc (.cells #[I J x.h,I J x.p,.bool x.b] 114)) wr a (.cells #[I J k,I J l,I J next,I J run,ov,pv] 230 (0,0)))
 (y:W=(wr.drewN q).alloc (.cells #[I J x.h,I J x.p,.bool x.b] 114))(hs:s=n+1)
 (u:w2.heap[a]?=some (.cells #[I J k,I J l,I J next,I J run,ov,pv] 230 (0,0)))
 (m:A3 w2 base 114 3 (.slice (some ⟨g',o',none⟩) s cap') s (A6 L++[I J x.h,I J x.p,.bool x.b]))(d:L1 W w2 pv g') :
 ∃o,A3 (w2.setCell ⟨a,5,none⟩ (.slice (some ⟨g',o',none⟩) s cap')) base 114 3 o (L++[x]).length (A6 (L++[x]))∧
  (w2.setCell ⟨a,5,none⟩ (.slice (some ⟨g',o',none⟩) s cap')).heap[a]?=some (.cells #[I J k,I J l,I J next,I J run,ov,o] 230 (0,0))∧
  PFr w (w2.setCell ⟨a,5,none⟩ (.slice (some ⟨g',o',none⟩) s cap')) r o a:=by
 subst y;have hlen:s=(L++[x]).length:=by
  have:=m.1;rw[List.length_append,L4]at this;simp at this⊢;omega
 have c:=E1.of_setCell (i:=5) (.slice (some ⟨g',o',none⟩) s cap') u;have z:(Value.slice (some ⟨g',o',none⟩) s cap').ownBlock≠some a:=m.tag Z u;have E:wr.heap.size=w.heap.size+1:=by rw[hu.size];simp
 have A:=d.size;simp at A;refine⟨.slice (some ⟨g',o',none⟩) s cap',?_,c.here,⟨?_,?_,?_,?_,?_,?_⟩⟩
 ·rw[←hlen,L5];exact m.other (fun g f _=>c.other g (fun e=>z (by rw[f,e])))
 ·exact c.os.trans (d.os.trans hu.os)
 ·exact c.tape.trans (d.tape.trans hu.tape)
 ·exact c.output.trans (d.output.trans hu.output)
 ·rw[c.size];have:(wr.drewN q).heap.size=wr.heap.size:=rfl;omega
 ·intro j B v C;rw[c.other j v,d.other j Zo (fun e=>C (t j e)),Below.heap_alloc _ _ _ (by show j<wr.heap.size;omega)];show wr.heap[j]?=_;rw[hu.other j v,Below.heap_alloc _ _ _ B]
 ·intro g f;simp only[Value.ownBlock,Option.some.injEq]at f;subst f;rcases d.new with h|h
  ·exact Or.inl (t _ h)
  ·right;have:wr.heap.size+1≤g':=by simpa using h
   omega
theorem A5D (k W next run:Int)(x:W3)(base a:Nat)(ov:Value)(c:Option Addr)(cap:Nat)(w:World)
 (n:w.heap[a]?=some (.cells #[I J k,I J W,I J next,I J run,ov,.slice c 0 cap] 230 (0,0)))
 (t:A3 w base 114 3 (.slice c 0 cap) 0 (A6 []))(M:base≤w.heap.size) :
 Calls Tryz.prog 153 #[.pointer (some ⟨a,0,none⟩),.agg #[I J x.h,I J x.p,.bool x.b]] w fun e w'=>e=.returned (.tuple #[])∧
  ∃q,A3 w' base 114 3 q ([]++[x]).length (A6 ([]++[x]))∧w'.heap[a]?=some (.cells #[I J k,I J W,I J next,I J run,ov,q] 230 (0,0))∧PFr w w' (.slice c 0 cap) q a:=by
 have u:=lt_of_block n;have B:(Value.slice c 0 cap).ownBlock≠some a:=t.tag Z n;obtain⟨i0,hi,C,D,E⟩:=info_parts Tryz.info114;have f:(w.alloc (.cells #[I J x.h,I J x.p,.bool x.b] 114)).heap[a]?=some (.cells #[I J k,I J W,I J next,I J run,ov,Value.slice c 0 cap] 230 (0,0)):=by
  rw[Below.heap_alloc _ _ _ u];exact n
 have v:Hd (E1 (w.alloc (.cells #[I J x.h,I J x.p,.bool x.b] 114)) (w.alloc (.cells #[I J x.h,I J x.p,.bool x.b] 114)) a (.cells #[I J k,I J W,I J next,I J run,ov,Value.slice c 0 cap] 230 (0,0))):=
  ⟨rfl,rfl,rfl,rfl,f,fun _ _=>rfl⟩
 have c5:(w.alloc (.cells #[I J x.h,I J x.p,.bool x.b] 114)).cell? ⟨a,5,none⟩=some (Value.slice c 0 cap):=A1 f rfl;have f5:(w.alloc (.cells #[I J x.h,I J x.p,.bool x.b] 114)).frozen? ⟨a,5,none⟩=false:=frozen_of_row _ _ _ _ _ f;have b0:(w.alloc (.cells #[I J x.h,I J x.p,.bool x.b] 114)).cell? ⟨w.heap.size,0,none⟩=some (I J x.h):=A1 (heap_alloc_new w _) rfl;have b1:(w.alloc (.cells #[I J x.h,I J x.p,.bool x.b] 114)).cell? ⟨w.heap.size,1,none⟩=some (I J x.p):=A1 (heap_alloc_new w _) rfl;have b2:(w.alloc (.cells #[I J x.h,I J x.p,.bool x.b] 114)).cell? ⟨w.heap.size,2,none⟩=some (.bool x.b):=A1 (heap_alloc_new w _) rfl;have F:∀r,(((w.alloc (.cells #[I J x.h,I J x.p,.bool x.b] 114)).drewN r).alloc (.cells #[I J x.h,I J x.p,.bool x.b] 114)).cell? ⟨a,5,none⟩=some (Value.slice c 0 cap):=fun r=>O7 c5 _ r;have y:A3 (w.alloc (.cells #[I J x.h,I J x.p,.bool x.b] 114)) base 114 3 (Value.slice c 0 cap) 0 (A6 []):=t.other (fun g _ s=>Below.heap_alloc _ _ _ s);have l:Hd ((w.alloc (.cells #[I J x.h,I J x.p,.bool x.b] 114)).heap.size=w.heap.size+1):=by show _=_;simp
 clear f;go_enter Tryz.func153,Tryz.ntmps153;go_wp2;obtain⟨wr,d⟩:=A8 (w.alloc (.cells #[I J x.h,I J x.p,.bool x.b] 114));have G:=A4 d;have z:Hd (E1 wr wr a (.cells #[I J k,I J W,I J next,I J run,ov,Value.slice c 0 cap] 230 (0,0))):=by rw[d];exact v
 rw[←d];rw[←d]at c5 f5 b0 b1 b2 y l;simp only[←d]at F;clear v d;go_quiet (fail);go_wp2;go_region_law (refine H9 rfl (.tmp 30) (.tmp 32) 110 rfl 114 i0 _ 3 24 Tryz.underlying110 hi C D E rfl Z base _ 0 (A6 []) (by simp[Act.eval];rfl) (by exact y.other (fun g _ s=>Below.heap_alloc (wr.drewN _) _ _ s)) ⟨wr.heap.size,0,none⟩ 1 [I J x.h,I J x.p,.bool x.b] (by simp[Act.eval]) rfl (by exact V6 (wr.drewN _) x _ rfl) (J0 x) (by unfold maxLen;omega) O (by simp;have:=l.o;omega) ?_;intro g' o' cap' w2 H A;have m:w2.heap[a]?=some (.cells #[I J k,I J W,I J next,I J run,ov,Value.slice c 0 cap] 230 (0,0)):=(A.other a (by have:=l.o;simp;omega) B).trans ((Below.heap_alloc (wr.drewN _) _ _ (by have:=l.o;show a<wr.heap.size;omega)).trans z.o.here);have K:Hd _:=m;have N:=A1 m (i:=5) rfl;have P:w2.frozen? ⟨a,5,none⟩=false:=frozen_of_row w2 _ _ _ _ m;clear m);all_goals go_end0
 all_goals exact⟨rfl,A5M (L:=[]) (wr:=wr) u (fun j h=>h) (by have:=z.o;rw[G.o]at this⊢;exact this) rfl rfl K.o H A⟩
theorem B1s (k W next run:Int)(x:W3)(base a g o cap:Nat)(ov:Value)(M:List W3)(N:0<M.length)(P:M.length<4398046511104)(w:World)
 (m:w.heap[a]?=some (.cells #[I J k,I J W,I J next,I J run,ov,.slice (some ⟨g,o,none⟩) M.length cap] 230 (0,0)))
 (u:A3 w base 114 3 (.slice (some ⟨g,o,none⟩) M.length cap) M.length (A6 M))(Q:base≤w.heap.size)
 (n:Int)(q:w.cell? ⟨g,o+(M.length-1)*3+1,none⟩=some (I J n))(R:(n !=x.p)=true) :
 Calls Tryz.prog 153 #[.pointer (some ⟨a,0,none⟩),.agg #[I J x.h,I J x.p,.bool x.b]] w fun e w'=>e=.returned (.tuple #[])∧
  ∃r,A3 w' base 114 3 r (M++[x]).length (A6 (M++[x]))∧w'.heap[a]?=some (.cells #[I J k,I J W,I J next,I J run,ov,r] 230 (0,0))∧PFr w w' (.slice (some ⟨g,o,none⟩) M.length cap) r a:=by
 have v:=lt_of_block m;have C:(Value.slice (some ⟨g,o,none⟩) M.length cap).ownBlock≠some a:=u.tag Z m;obtain⟨i0,hi,D,E,F⟩:=info_parts Tryz.info114;have d:(w.alloc (.cells #[I J x.h,I J x.p,.bool x.b] 114)).heap[a]?=some (.cells #[I J k,I J W,I J next,I J run,ov,Value.slice (some ⟨g,o,none⟩) M.length cap] 230 (0,0)):=by
  rw[Below.heap_alloc _ _ _ v];exact m
 have y:Hd (E1 (w.alloc (.cells #[I J x.h,I J x.p,.bool x.b] 114)) (w.alloc (.cells #[I J x.h,I J x.p,.bool x.b] 114)) a (.cells #[I J k,I J W,I J next,I J run,ov,Value.slice (some ⟨g,o,none⟩) M.length cap] 230 (0,0))):=
  ⟨rfl,rfl,rfl,rfl,d,fun _ _=>rfl⟩
 have c5:(w.alloc (.cells #[I J x.h,I J x.p,.bool x.b] 114)).cell? ⟨a,5,none⟩=some (Value.slice (some ⟨g,o,none⟩) M.length cap):=A1 d rfl;have f5:(w.alloc (.cells #[I J x.h,I J x.p,.bool x.b] 114)).frozen? ⟨a,5,none⟩=false:=frozen_of_row _ _ _ _ _ d;have b0:(w.alloc (.cells #[I J x.h,I J x.p,.bool x.b] 114)).cell? ⟨w.heap.size,0,none⟩=some (I J x.h):=A1 (heap_alloc_new w _) rfl;have b1:(w.alloc (.cells #[I J x.h,I J x.p,.bool x.b] 114)).cell? ⟨w.heap.size,1,none⟩=some (I J x.p):=A1 (heap_alloc_new w _) rfl;have b2:(w.alloc (.cells #[I J x.h,I J x.p,.bool x.b] 114)).cell? ⟨w.heap.size,2,none⟩=some (.bool x.b):=A1 (heap_alloc_new w _) rfl;have G:∀s,(((w.alloc (.cells #[I J x.h,I J x.p,.bool x.b] 114)).drewN s).alloc (.cells #[I J x.h,I J x.p,.bool x.b] 114)).cell? ⟨a,5,none⟩=some (Value.slice (some ⟨g,o,none⟩) M.length cap):=fun s=>O7 c5 _ s;have z:A3 (w.alloc (.cells #[I J x.h,I J x.p,.bool x.b] 114)) base 114 3 (Value.slice (some ⟨g,o,none⟩) M.length cap) M.length (A6 M):=u.other (fun g _ t=>Below.heap_alloc _ _ _ t);have f:Hd ((w.alloc (.cells #[I J x.h,I J x.p,.bool x.b] 114)).heap.size=w.heap.size+1):=by show _=_;simp
 clear d;have cl:(w.alloc (.cells #[I J x.h,I J x.p,.bool x.b] 114)).cell? ⟨g,o+(M.length-1)*3+1,none⟩=some (I J n):=
  (World.cell?_of_block (Below.heap_alloc w _ _ (block_lt_of_cell q))).trans q
 clear q;have S:((M.length:Int)==0)=false:=by rw[beq_eq_false_iff_ne];omega
 have T:((M.length:Int)-1).toNat=M.length-1:=O;have V:0≤(M.length:Int)-1:=O;have X:(M.length:Int)-1<M.length:=O;go_enter Tryz.func153,Tryz.ntmps153;go_wp2;obtain⟨wr,c⟩:=A8 (w.alloc (.cells #[I J x.h,I J x.p,.bool x.b] 114));have H:=A4 c;have A:Hd (E1 wr wr a (.cells #[I J k,I J W,I J next,I J run,ov,Value.slice (some ⟨g,o,none⟩) M.length cap] 230 (0,0))):=by rw[c];exact y
 rw[←c];rw[←c]at cl c5 f5 b0 b1 b2 z f;simp only[←c]at G;clear y c;go_quiet (fail);go_wp2;go_region_law (refine H9 rfl (.tmp 30) (.tmp 32) 110 rfl 114 i0 _ 3 24 Tryz.underlying110 hi D E F rfl Z base _ M.length (A6 M) (by simp[Act.eval];rfl) (by exact z.other (fun g _ t=>Below.heap_alloc (wr.drewN _) _ _ t)) ⟨wr.heap.size,0,none⟩ 1 [I J x.h,I J x.p,.bool x.b] (by simp[Act.eval]) rfl (by exact V6 (wr.drewN _) x _ rfl) (J0 x) (by unfold maxLen;omega) O (by simp;have:=f.o;omega) ?_;intro g' o' cap' w2 K B;have l:w2.heap[a]?=some (.cells #[I J k,I J W,I J next,I J run,ov,Value.slice (some ⟨g,o,none⟩) M.length cap] 230 (0,0)):=(B.other a (by have:=f.o;simp;omega) C).trans ((Below.heap_alloc (wr.drewN _) _ _ (by have:=f.o;show a<wr.heap.size;omega)).trans A.o.here);have L:Hd _:=l;have Y:=A1 l (i:=5) rfl;have qf:w2.frozen? ⟨a,5,none⟩=false:=frozen_of_row w2 _ _ _ _ l;clear l);all_goals go_end0
 all_goals exact⟨rfl,A5M (wr:=wr) v (fun j h=>h) (by have:=A.o;rw[H.o]at this⊢;exact this) rfl rfl L.o K B⟩
theorem A83 (k W next run:Int)(x:W3)(base a g o cap:Nat)(ov:Value)(M:List W3)(C:0<M.length)(D:M.length<4398046511104)(w:World)
 (f:w.heap[a]?=some (.cells #[I J k,I J W,I J next,I J run,ov,.slice (some ⟨g,o,none⟩) M.length cap] 230 (0,0)))
 (n:A3 w base 114 3 (.slice (some ⟨g,o,none⟩) M.length cap) M.length (A6 M))(E:base≤w.heap.size)
 (i:Int)(l:w.cell? ⟨g,o+(M.length-1)*3+1,none⟩=some (I J i))(F:(i !=x.p)=false) :
 Calls Tryz.prog 153 #[.pointer (some ⟨a,0,none⟩),.agg #[I J x.h,I J x.p,.bool x.b]] w fun e w'=>e=.returned (.tuple #[])∧
  A3 w' base 114 3 (.slice (some ⟨g,o,none⟩) M.length cap) M.length (A6 M)∧w'.heap[a]?=some (.cells #[I J k,I J W,I J next,I J run,ov,.slice (some ⟨g,o,none⟩) M.length cap] 230 (0,0))∧PFr w w' (.slice (some ⟨g,o,none⟩) M.length cap) (.slice (some ⟨g,o,none⟩) M.length cap) a:=by
 have s:=lt_of_block f;have G:(Value.slice (some ⟨g,o,none⟩) M.length cap).ownBlock≠some a:=n.tag Z f;obtain⟨i0,hi,H,K,L⟩:=info_parts Tryz.info114;have d:(w.alloc (.cells #[I J x.h,I J x.p,.bool x.b] 114)).heap[a]?=some (.cells #[I J k,I J W,I J next,I J run,ov,Value.slice (some ⟨g,o,none⟩) M.length cap] 230 (0,0)):=by
  rw[Below.heap_alloc _ _ _ s];exact f
 have q:Hd (E1 (w.alloc (.cells #[I J x.h,I J x.p,.bool x.b] 114)) (w.alloc (.cells #[I J x.h,I J x.p,.bool x.b] 114)) a (.cells #[I J k,I J W,I J next,I J run,ov,Value.slice (some ⟨g,o,none⟩) M.length cap] 230 (0,0))):=
  ⟨rfl,rfl,rfl,rfl,d,fun _ _=>rfl⟩
 have c5:(w.alloc (.cells #[I J x.h,I J x.p,.bool x.b] 114)).cell? ⟨a,5,none⟩=some (Value.slice (some ⟨g,o,none⟩) M.length cap):=A1 d rfl;have f5:(w.alloc (.cells #[I J x.h,I J x.p,.bool x.b] 114)).frozen? ⟨a,5,none⟩=false:=frozen_of_row _ _ _ _ _ d;have b0:(w.alloc (.cells #[I J x.h,I J x.p,.bool x.b] 114)).cell? ⟨w.heap.size,0,none⟩=some (I J x.h):=A1 (heap_alloc_new w _) rfl;have b1:(w.alloc (.cells #[I J x.h,I J x.p,.bool x.b] 114)).cell? ⟨w.heap.size,1,none⟩=some (I J x.p):=A1 (heap_alloc_new w _) rfl;have b2:(w.alloc (.cells #[I J x.h,I J x.p,.bool x.b] 114)).cell? ⟨w.heap.size,2,none⟩=some (.bool x.b):=A1 (heap_alloc_new w _) rfl;have t:∀m,(((w.alloc (.cells #[I J x.h,I J x.p,.bool x.b] 114)).drewN m).alloc (.cells #[I J x.h,I J x.p,.bool x.b] 114)).cell? ⟨a,5,none⟩=some (Value.slice (some ⟨g,o,none⟩) M.length cap):=fun m=>O7 c5 _ m;have r:A3 (w.alloc (.cells #[I J x.h,I J x.p,.bool x.b] 114)) base 114 3 (Value.slice (some ⟨g,o,none⟩) M.length cap) M.length (A6 M):=n.other (fun g _ u=>Below.heap_alloc _ _ _ u);have v:Hd ((w.alloc (.cells #[I J x.h,I J x.p,.bool x.b] 114)).heap.size=w.heap.size+1):=by show _=_;simp
 clear d;have cl:(w.alloc (.cells #[I J x.h,I J x.p,.bool x.b] 114)).cell? ⟨g,o+(M.length-1)*3+1,none⟩=some (I J i):=
  (World.cell?_of_block (Below.heap_alloc w _ _ (block_lt_of_cell l))).trans l
 clear l;have N:((M.length:Int)==0)=false:=by rw[beq_eq_false_iff_ne];omega
 have P:((M.length:Int)-1).toNat=M.length-1:=O;have Q:0≤(M.length:Int)-1:=O;have R:(M.length:Int)-1<M.length:=O;go_enter Tryz.func153,Tryz.ntmps153;go_wp2;obtain⟨wr,c⟩:=A8 (w.alloc (.cells #[I J x.h,I J x.p,.bool x.b] 114));have y:=A4 c;have z:Hd (E1 wr wr a (.cells #[I J k,I J W,I J next,I J run,ov,Value.slice (some ⟨g,o,none⟩) M.length cap] 230 (0,0))):=by rw[c];exact q
 rw[←c];rw[←c]at cl c5 f5 b0 b1 b2 r v;simp only[←c]at t;clear q c;go_quiet (fail);go_wp2;go_end0;refine⟨rfl,r,z.o.here,?_⟩;have:=y.o;subst this;exact⟨rfl,rfl,rfl,Zs,fun j A _ _=>Below.heap_alloc w _ j A,fun g B=>Or.inl B⟩
def I5 (k c:Nat):Nat:=(c*2654435761%4^k) ^^^ (c*2654435761%4^k/2^k)
theorem G1 (k:Nat)(h1:1≤k)(a:k≤12):(4:Nat)^k≤16777216∧4≤(4:Nat)^k∧(4:Nat)^k=2^(2*k):=by
 rcases (show k=1∨k=2∨k=3∨k=4∨k=5∨k=6∨k=7∨k=8∨k=9∨k=10∨k=11∨k=12 by omega) with rfl|rfl|rfl|rfl|rfl|rfl|rfl|rfl|rfl|rfl|rfl|rfl<;>decide
theorem A7M (k:Nat)(h1:1≤k)(a:k≤12):IntKind.u64.wrap (IntKind.u64.wrap (2^(2*k))-1)=((4^k-1:Nat):Int):=by
 rcases (show k=1∨k=2∨k=3∨k=4∨k=5∨k=6∨k=7∨k=8∨k=9∨k=10∨k=11∨k=12 by omega) with rfl|rfl|rfl|rfl|rfl|rfl|rfl|rfl|rfl|rfl|rfl|rfl<;>decide
theorem N0 {k:IntKind}{a b:Int}(h:a=b):Ending.returned (.int k a)=.returned (.int k b):=by rw[h]
theorem A0K (k:Nat)(w:World)(h1:1≤k)(a:k≤12) :
 Calls Tryz.prog 154 #[I J k] w fun e w'=>e=.returned (.int .u64 ((4^k-1:Nat):Int))∧w'=w:=by
 go_enter Tryz.func154,Tryz.ntmps154;go_wp2;go_ret;exact⟨N0 (A7M k h1 a),rfl⟩
theorem A78 (k x:Nat)(h1:1≤k)(a:k≤12):x&&& (4^k-1)=x%4^k:=by
 rw[(G1 k h1 a).2.2,Nat.and_two_pow_sub_one_eq_mod]
theorem hash_eq (k c:Nat)(h1:1≤k)(a:k≤12)(f:c<16777216) :
 wrap64 (bits BinOp.xor IntKind.u64 (bits BinOp.and IntKind.u64 ((c:Int)*2654435761) ((4^k-1:Nat):Int)) (bits BinOp.and IntKind.u64 ((c:Int)*2654435761) ((4^k-1:Nat):Int)/2^k))=((I5 k c:Nat):Int):=by
 have g:=G1 k h1 a;have e1:((c:Int)*2654435761)=((c*2654435761:Nat):Int):=O;have b:bits BinOp.and IntKind.u64 ((c:Int)*2654435761) ((4^k-1:Nat):Int)=((c*2654435761%4^k:Nat):Int):=by
  rw[e1,u64_and_nat _ _ O O,A78 k _ h1 a]
 rw[b];have h:c*2654435761%4^k<4^k:=Nat.mod_lt _ O;have d:((c*2654435761%4^k:Nat):Int)/2^k=((c*2654435761%4^k/2^k:Nat):Int):=by rw[Int.natCast_ediv,Int.natCast_pow];rfl
 have i:c*2654435761%4^k/2^k≤c*2654435761%4^k:=Nat.div_le_self _ _;rw[d,u64_xor_nat _ _ O O];have j:(c*2654435761%4^k) ^^^ (c*2654435761%4^k/2^k)<2^24:=Nat.xor_lt_two_pow O O;unfold I5;rw[IntWalk.wrap64_in _ ⟨O,O⟩]
theorem A6m (k c:Nat)(w:World)(h1:1≤k)(a:k≤12)(b:c<16777216) :
 Calls Tryz.prog 152 #[.int .u64 c,I J k] w fun e w'=>e=.returned (I J (I5 k c:Nat))∧w'=w:=by
 go_enter Tryz.func152,Tryz.ntmps152;go_wp2_with (go_at_call 154;refine(A0K _ _ h1 a).mono ?_;rintro e w' ⟨rfl,rfl⟩);go_ret;exact⟨N0 (hash_eq k c h1 a b),rfl⟩
def R0 (L:List W3)(h:Int):List W3:=(L.reverse.dropWhile (fun y=>decide (h<y.h))).reverse
theorem Y7 (L:List W3)(y:W3)(h:Int)(a:h<y.h):R0 (L++[y]) h=R0 L h:=by
 simp[R0,a]
theorem Z2 (L:List W3)(y:W3)(h:Int)(a:¬h<y.h):R0 (L++[y]) h=L++[y]:=by
 unfold R0;rw[List.reverse_append];simp only[List.reverse_cons,List.reverse_nil,List.nil_append,List.singleton_append];rw[List.dropWhile_cons_of_neg (by simpa using a)];simp
theorem A36.take_eq (L:List W3)(h:Int):∀(r:Nat) (n:Nat),A36 L h n→r=L.length-n→L.take n=R0 L h:=by
 intro r;induction r generalizing L with
 |zero=>
  intro n ⟨h1,b,c⟩ d;have f:n=L.length:=O;subst f;rw[List.take_length];rcases List.eq_nil_or_concat L with rfl|⟨a,y,rfl⟩
  ·rfl
  ·have:=c Zs Zs;simp only[List.concat_eq_append,List.length_append,List.length_cons,List.length_nil,Nat.zero_add,Nat.add_sub_cancel,List.getElem_append_right (Nat.le_refl _),Nat.sub_self,List.getElem_cons_zero]at this⊢;rw[Z2 a y h this]
 |succ r k=>
  intro n ⟨h1,b,c⟩ d;rcases List.eq_nil_or_concat L with rfl|⟨a,y,rfl⟩
  ·simp at d
  ·rw[List.concat_eq_append]at h1 b c d⊢;have hlen:(a++[y]).length=a.length+1:=Zs;have g:=b a.length O O;rw[List.getElem_append_right (Nat.le_refl _)]at g;simp only[Nat.sub_self,List.getElem_cons_zero]at g;rw[Y7 a y h g,List.take_append_of_le_length O];refine k a n ⟨O,?_,?_⟩ O
   ·intro j i l;have:=b j O l;rwa [List.getElem_append_left i]at this
   ·intro i f;have:=c O f;rwa [List.getElem_append_left i]at this
def P7 (M:List W3)(x:W3):List W3:=
 match M.getLast? with
 |none=>M++[x]
 |some y=>if y.p=x.p then M else M++[x]
theorem A3b (k W next run:Int)(x:W3)(base a:Nat)(ov pv:Value)(M:List W3)(m:M.length<4398046511104)(w:World)
 (d:w.heap[a]?=some (.cells #[I J k,I J W,I J next,I J run,ov,pv] 230 (0,0)))
 (c:A3 w base 114 3 pv M.length (A6 M))(f:base≤w.heap.size) :
 Calls Tryz.prog 153 #[.pointer (some ⟨a,0,none⟩),.agg #[I J x.h,I J x.p,.bool x.b]] w fun e w'=>e=.returned (.tuple #[])∧
  ∃l,A3 w' base 114 3 l (P7 M x).length (A6 (P7 M x))∧w'.heap[a]?=some (.cells #[I J k,I J W,I J next,I J run,ov,l] 230 (0,0))∧PFr w w' pv l a:=by
 have h:=c.2;rcases List.eq_nil_or_concat M with rfl|⟨r,y,i⟩
 ·have e:P7 [] x=[]++[x]:=rfl;rw[e];rcases h with⟨rfl,_⟩|⟨g,o,cap,cur,rfl,_⟩
  ·exact A5D k W next run x base a ov none 0 w d c f
  ·exact A5D k W next run x base a ov (some ⟨g,o,none⟩) cap w d c f
 ·rw[List.concat_eq_append]at i;have hlen:M.length=r.length+1:=by rw[i];simp
  have n:M.getLast?=some y:=by rw[i];simp
  have s:M[M.length-1]'O=y:=by
   subst i;simp
  rcases h with⟨rfl,A⟩|⟨g,o,cap,cur,rfl,_,t,_,_,_,u⟩
  ·omega
  ·have q:w.cell? ⟨g,o+(M.length-1)*3+1,none⟩=some (I J y.p):=by
    have hk:=(J3 M (M.length-1) O).2.1;rw[s]at hk;refine A1 t ?_;have:=u _ _ hk;rwa [show o+(M.length-1)*3+1=o+(3*(M.length-1)+1) by omega]
   by_cases j:y.p=x.p
   ·have e:P7 M x=M:=by simp[P7,n,j]
    rw[e];refine(A83 k W next run x base a g o cap ov M O m w d c f y.p q (by simp[j])).mono ?_;rintro e w' ⟨rfl,h1,v,z⟩;exact⟨rfl,_,h1,v,z⟩
   ·have e:P7 M x=M++[x]:=by simp[P7,n,j]
    rw[e];exact B1s k W next run x base a g o cap ov M O m w d c f y.p q (by simp[j])
def mvL (W:Int)(next place:Int)(L:List W3):List W3:=
 if place=next then (match L with|[]=>[]|x::t=>if x.p≤place-W then t else x::t) else []
theorem A3.cut0 {w:World}{base:Nat}{v:Value}{L:List W3}(h:A3 w base 114 3 v L.length (A6 L)):A3 w base 114 3 (cut0 v) ([]:List W3).length (A6 [])∧(Mn.cut0 v).ownBlock=v.ownBlock:=by
 obtain⟨_,h⟩:=h;rcases h with⟨rfl,f⟩|⟨g,o,cap,cur,rfl,h1,a,i,b,c,k⟩
 ·exact⟨A3.nil _ _ _ _,rfl⟩
 ·exact⟨⟨rfl,Or.inr ⟨g,o,cap,cur,rfl,h1,a,Nat.zero_le _,b,c,fun j u d=>by simp[A6]at d⟩⟩,rfl⟩
theorem A3E (k W next run place:Int)(L:List W3)(base a:Nat)(ov pv:Value)(w:World)
 (c:w.heap[a]?=some (.cells #[I J k,I J W,I J next,I J run,ov,pv] 230 (0,0)))
 (b:A3 w base 114 3 ov L.length (A6 L))
 (l:0≤place)(m:place≤140737488351232)(n:0≤run)(q:run≤140737488351232)(A:1≤W)(B:W≤20) :
 Calls Tryz.prog 150 #[.pointer (some ⟨a,0,none⟩),I J place] w fun e w'=>e=.returned (.tuple #[])∧
  ∃d,A3 w base 114 3 d (mvL W next place L).length (A6 (mvL W next place L))∧d.ownBlock=ov.ownBlock∧
  E1 w w' a (.cells #[I J k,I J W,I J (place+1),I J ((if place=next then run else 0)+1),d,pv] 230 (0,0)):=by
 have h:=b.2;by_cases heq:place=next
 ·have f:(place !=next)=false:=by simp[heq]
  rw[if_pos heq];cases L with
  |nil=>
   have e:mvL W next place []=[]:=by simp[mvL]
   rw[e];rcases h with⟨rfl,v⟩|⟨g,o,cap,cur,rfl,_⟩
   ·refine(A6B k W next run place a none 0 pv w c l m n q f).mono ?_;rintro e w' ⟨rfl,hu⟩;exact⟨rfl,_,b,rfl,hu⟩
   ·refine(A6B k W next run place a _ cap pv w c l m n q f).mono ?_;rintro e w' ⟨rfl,hu⟩;exact⟨rfl,_,b,rfl,hu⟩
  |cons x t=>
   rcases h with⟨rfl,v⟩|⟨g,o,cap,cur,rfl,h1,r,C,D,G,y⟩
   ·simp at v
   ·have E:g≠a:=fun e=>b.tag Z c (by simp[Value.ownBlock,e]);have F:w.cell? ⟨g,o+1,none⟩=some (I J x.p):=A1 r (y 1 _ rfl);refine(A94 k W next run place a g o (x::t).length cap pv w x.p c Zs C D F l m n q A B f E).mono ?_;rintro e w' ⟨rfl,d,z,hu⟩;refine⟨rfl,d,?_,?_,hu⟩
    ·rcases z with⟨i,h⟩|⟨i,rfl⟩
     ·have e:mvL W next place (x::t)=t:=by simp only[mvL,if_pos heq,if_pos i]
      rw[e];refine⟨L4 t,?_⟩;have hlen:(x::t).length=t.length+1:=rfl;rcases h with rfl|⟨H,rfl⟩
      ·refine Or.inr ⟨g,o+3,cap-1,cur,rfl,h1,r,O,O,O,?_⟩;intro j u s;have:=y (j+3) u (by rw[T1];exact s);rwa [show o+3+j=o+(j+3) by omega]
      ·have ht:t=[]:=List.eq_nil_of_length_eq_zero O;subst ht;exact Or.inr ⟨g,o,0,cur,rfl,h1,r,Nat.le_refl _,Nat.zero_le _,O,fun j u s=>by simp[A6]at s⟩
     ·have e:mvL W next place (x::t)=x::t:=by simp only[mvL,if_pos heq,if_neg i]
      rw[e];exact b
    ·rcases z with⟨i,h⟩|⟨i,rfl⟩
     ·rcases h with rfl|⟨_,rfl⟩<;>rfl
     ·rfl
 ·have f:(place !=next)=true:=by simp[heq]
  rw[if_neg heq];have e:mvL W next place L=[]:=by simp only[mvL,if_neg heq]
  rw[e];refine(B2v k W next run place a ov pv w (by rcases h with⟨rfl,_⟩|⟨g,o,cap,cur,rfl,_⟩;exact Or.inl rfl;exact Or.inr ⟨_,_,_,rfl⟩) c l m f).mono ?_;rintro e w' ⟨rfl,hu⟩;exact⟨rfl,_,b.cut0.1,b.cut0.2,hu⟩
def A0C (k:Nat)(place:Nat)(c t:Nat):W3:=⟨(I5 k (min c t):Nat),place,decide (t<c)⟩
def F4 (k:Nat)(place:Nat)(c t:Nat):Option W3:=if c=t then none else some (A0C k place c t)
def L3 (W next place:Int)(L:List W3)(x:Option W3):List W3:=
 match x with
 |none=>mvL W next place L
 |some x=>R0 (mvL W next place L) x.h++[x]
def F1 (next run place:Int):Int:=(if place=next then run else 0)+1
def G5 (W run1:Int)(L2 M:List W3):List W3:=
 if W≤run1 then (match L2 with|[]=>M|x::_=>P7 M x) else M
structure PI (w:World)(base Bk:Nat)(k W next run:Int)(L M:List W3):Prop where
 low:base≤Bk
 ex:∃ov pv,w.heap[Bk]?=some (.cells #[I J k,I J W,I J next,I J run,ov,pv] 230 (0,0))∧A3 w base 114 3 ov L.length (A6 L)∧A3 w base 114 3 pv M.length (A6 M)∧
  ∀g,ov.ownBlock=some g→pv.ownBlock≠some g
structure PF (base:Nat)(w w':World):Prop where
 below:Below base w w'
 scan:∀(S:Nat) (cs:Array Value),w.heap[S]?=some (Obj.cells cs 233 (0,0))→w'.heap[S]?=some (Obj.cells cs 233 (0,0))
theorem PF.trans {base:Nat}{a b c:World}(h:PF base a b)(k:PF base b c):PF base a c:=⟨h.below.trans k.below,fun S cs d=>k.scan S cs (h.scan S cs d)⟩
theorem PF.drewN {base:Nat}{a b:World}(h:PF base a b)(n:Nat):PF base a (b.drewN n):=⟨⟨h.below.os,h.below.tape,h.below.output,h.below.size,h.below.block⟩,h.scan⟩
theorem PF.of_upd {base:Nat}{w w':World}{a:Nat}{cs d:Array Value}(b:w.heap[a]?=some (.cells d 230 (0,0)))(h:E1 w w' a (.cells cs 230 (0,0)))(f:base≤a):PF base w w':=
 ⟨h.below f,fun S cs c=>by
  rw[h.other S (fun e=>by subst e;rw[c]at b;simp at b)]
  exact c⟩
theorem PF.of_pfr {base:Nat}{w w':World}{b:Nat}{d:Array Value}{v v':Value}{n:Nat}{xs:List Value}(c:w.heap[b]?=some (.cells d 230 (0,0)))(ho:A3 w base 114 3 v n xs)(f:base≤w.heap.size)
 (h:PFr w w' v v' b)(g:base≤b):PF base w w':=
 ⟨⟨h.os,h.tape,h.output,h.size,fun k hk=>h.other k O O (fun e=>by have:=ho.lt e;omega)⟩,fun S cs a=>by
  rw[h.other S (lt_of_block a) (fun e=>by subst e;rw[a]at c;simp at c) (ho.tag Z a)]
  exact a⟩
theorem PI.move {w w1:World}{base b:Nat}{k W next run place:Int}{L M:List W3}{ov pv c:Value}(f:base≤b)
 (d:w.heap[b]?=some (.cells #[I J k,I J W,I J next,I J run,ov,pv] 230 (0,0)))
 (h:A3 w base 114 3 pv M.length (A6 M))(i:∀g,ov.ownBlock=some g→pv.ownBlock≠some g)
 (ho:A3 w base 114 3 c (mvL W next place L).length (A6 (mvL W next place L)))(j:c.ownBlock=ov.ownBlock)
 (hu:E1 w w1 b (.cells #[I J k,I J W,I J (place+1),I J ((if place=next then run else 0)+1),c,pv] 230 (0,0))) :
 PI w1 base b k W (place+1) (F1 next run place) (mvL W next place L) M∧PF base w w1:=by
 refine⟨⟨f,c,pv,hu.here,ho.other (fun g a _=>hu.other g (fun e=>ho.tag Z d (by rw[a,e]))),h.other (fun g a _=>hu.other g (fun e=>h.tag Z d (by rw[a,e]))),fun g a=>i g (by rw[←j];exact a)⟩,PF.of_upd d hu f⟩
theorem PI.add {w w':World}{base a:Nat}{k W next run:Int}{L d M:List W3}{ov pv b:Value}(j:base≤a)(n:base≤w.heap.size)
 (l:w.heap[a]?=some (.cells #[I J k,I J W,I J next,I J run,ov,pv] 230 (0,0)))
 (ho:A3 w base 114 3 ov L.length (A6 L))(f:A3 w base 114 3 pv M.length (A6 M))(m:∀g,ov.ownBlock=some g→pv.ownBlock≠some g)
 (o:A3 w' base 114 3 b d.length (A6 d))(p:w'.heap[a]?=some (.cells #[I J k,I J W,I J next,I J run,b,pv] 230 (0,0)))(i:PFr w w' ov b a) :
 PI w' base a k W next run d M∧PF base w w':=by
 refine⟨⟨j,b,pv,p,o,f.other (fun g c q=>i.other g q (fun e=>f.tag Z l (by rw[c,e])) (fun e=>m g e c)),?_⟩,PF.of_pfr l ho n i j⟩;intro g c e;rcases i.new g c with h|h
 ·exact m g h e
 ·have:=(f.lt e).2;omega
theorem PI.pick {w w':World}{base a:Nat}{k W next run:Int}{L M d:List W3}{ov pv c:Value}(i:base≤a)(m:base≤w.heap.size)
 (j:w.heap[a]?=some (.cells #[I J k,I J W,I J next,I J run,ov,pv] 230 (0,0)))
 (ho:A3 w base 114 3 ov L.length (A6 L))(n:A3 w base 114 3 pv M.length (A6 M))(l:∀g,ov.ownBlock=some g→pv.ownBlock≠some g)
 (o:A3 w' base 114 3 c d.length (A6 d))(p:w'.heap[a]?=some (.cells #[I J k,I J W,I J next,I J run,ov,c] 230 (0,0)))(f:PFr w w' pv c a) :
 PI w' base a k W next run L d∧PF base w w':=by
 refine⟨⟨i,ov,c,p,ho.other (fun g b q=>f.other g q (fun e=>ho.tag Z j (by rw[b,e])) (fun e=>l g b e)),o,?_⟩,PF.of_pfr j n m f i⟩;intro g b e;rcases f.new g e with h|h
 ·exact l g b h
 ·have:=(ho.lt b).2;omega
theorem A4I (L:List W3)(h:Int):(R0 L h).length≤L.length:=by
 unfold R0;rw[List.length_reverse];have:=(List.dropWhile_sublist (fun y:W3=>decide (h<y.h)) (l:=L.reverse)).length_le;simpa using this
theorem A0G (W next place:Int)(L:List W3):(mvL W next place L).length≤L.length:=by
 unfold mvL;split
 ·split
  ·simp
  ·split
   ·simp
   ·exact Nat.le_refl _
 ·simp
theorem word_lt (k W place c t:Nat)(next run:Int)(L M:List W3)(base a:Nat)(w:World)
 (ap:1≤k)(aq:k≤12)(hc:c<16777216)(ht:t<16777216)(hW:1≤W)(aC:W≤20)(ar:base≤w.heap.size)
 (au:PI w base a k W next run L M)(hL:L.length<4398046511000)(hM:M.length<4398046511000)
 (aD:(place:Int)≤140737488350000)(av:0≤run)(aE:run≤140737488350000)(h:c<t) :
 Calls Tryz.prog 115 #[.pointer (some ⟨a,0,none⟩),I J place,.int .u64 c,.int .u64 t] w fun e w'=>e=.returned (.tuple #[])∧
  PI w' base a k W (place+1) (F1 next run place) (L3 W next place L (F4 k place c t)) (G5 W (F1 next run place) (L3 W next place L (F4 k place c t)) M)∧PF base w w':=by
 obtain⟨i,ov,pv,D,R,S,T⟩:=au;have aw:0≤F1 next run place∧F1 next run place≤140737488351232:=by unfold F1;split<;>omega
 have aF:=A0G W next place L
 obtain⟨d,E⟩:=A8 (F1 next run place);obtain⟨s,F⟩:=A8 (L3 W next place L (F4 k place c t));rw[←F];have HR:=A4 E;have V:=A4 F;rw[←E]at aw⊢;clear E F;go_enter Tryz.func115,Tryz.ntmps115;go_wp2_with fail;refine(A3E k W next run place L base a ov pv w D R O O av O O O).mono ?_;rintro e w1 ⟨rfl,aG,X,Y,aa⟩;obtain⟨⟨_,ax,ay,l,G,ab,ac⟩,v⟩:=PI.move i D S T X Y aa;rw[←HR.o]at l;clear aa D R S T X Y;have H:base≤w1.heap.size:=Nat.le_trans ar v.below.size;have c0:w1.cell? ⟨a,0,none⟩=some (I J k):=A1 l rfl;have aH:((c:Int) !=t)=true:=Zo;have h':(c:Int)<t:=O;have hx:F4 k place c t=some ⟨(I5 k c:Nat),place,decide (t<c)⟩:=by
  unfold F4 A0C;rw[if_neg O,Nat.min_eq_left O]
 have HX:Hd (s=R0 (mvL W next place L) (I5 k c:Nat)++[⟨(I5 k c:Nat),place,decide (t<c)⟩]):=by rw[V.o,hx];rfl
 clear hx;go_wp2_with fail;refine(A6m k c _ ap aq O).mono ?_;rintro e aI ⟨rfl,rfl⟩;go_wp2_with fail;refine(A8v k W (place+1) d ⟨(I5 k c:Nat),place,decide (t<c)⟩ (mvL W next place L) base a ax ay _ l G H O).mono ?_;rintro e w2 ⟨rfl,n,ad,aJ,K,ae,af⟩;rw[A36.take_eq _ _ _ n ad rfl]at K;have ag:=PI.add i H l G ab ac K ae af;rw[←HX.o]at ag;obtain⟨⟨_,y,ah,m,z,N,ai⟩,q⟩:=ag;clear K ae af ad l G ab ac c0;have aj:base≤w2.heap.size:=Nat.le_trans H q.below.size;have q1:w2.cell? ⟨a,1,none⟩=some (I J W):=A1 m rfl;have q3:w2.cell? ⟨a,3,none⟩=some (I J d):=A1 m rfl;have q4:w2.cell? ⟨a,4,none⟩=some y:=A1 m rfl;have P:=A4 m;clear m V HX;have ak:PI w2 base a k W (place+1) d s M:=⟨i,y,ah,P.o,z,N,ai⟩;by_cases A:(W:Int)≤d
 ·rcases s with _|⟨x,tl⟩
  ·have r:Hd (G5 W d [] M=M):=by show _=_;unfold G5;rw[if_pos A]
   obtain⟨ao,cap,rfl⟩:∃ao cap,y=.slice ao 0 cap:=by
    rcases z.2 with⟨rfl,_⟩|⟨g,o,cap,cur,rfl,_⟩
    ·exact⟨_,_,rfl⟩
    ·exact⟨_,_,rfl⟩
   go_wp2;go_quiet (fail);go_wp2;go_end0;exact⟨rfl,by rw[r.o];exact⟨i,ak.ex⟩,v.trans (q.drewN _)⟩
  ·have r:Hd (G5 W d (x::tl) M=P7 M x):=by show _=_;unfold G5;rw[if_pos A]
   obtain⟨g,o,cap,cur,az,B,C,aK,aA⟩:∃g o cap cur,y=.slice (some ⟨g,o,none⟩) (x::tl).length cap∧w2.heap[g]?=some (.cells cur 114 (0,0))∧(∀j u,(A6 (x::tl))[j]?=some u→cur[o+j]?=some u)∧cap≤9223372036854775807∧(x::tl).length≤cap:=by
    rcases z.2 with⟨_,h0⟩|⟨g,o,cap,cur,h1,h2,h3,h4,h5,h6,h7⟩
    ·simp at h0
    ·exact⟨g,o,cap,cur,h1,h3,h7,h5,h4⟩
   subst az;have e0:w2.cell? ⟨g,o,none⟩=some (I J x.h):=A1 B (C 0 _ rfl);have e1:w2.cell? ⟨g,o+1,none⟩=some (I J x.p):=A1 B (C 1 _ rfl);have e2:w2.cell? ⟨g,o+2,none⟩=some (.bool x.b):=A1 B (C 2 _ rfl);have aB:(0:Int)<((x::tl).length:Nat):=Zs;obtain⟨n,Q⟩:=A8 ((x::tl).length);rw[←Q]at q4 aB aA;have HN:=A4 Q;clear Q B C;go_wp2;go_quiet (fail);go_wp2_with fail;refine(A3b k W (place+1) d x base a _ ah M O (w2.drewN _) P.o N aj).mono ?_;rintro e w3 ⟨rfl,aL,al,am,an⟩;have f:=PI.pick (w:=w2.drewN _) i aj P.o z N ai al am an;clear al am an;go_wp2;go_end0;exact⟨rfl,by rw[r.o];exact f.1,v.trans (PF.trans ⟨q.below,q.scan⟩ ⟨⟨f.2.below.os,f.2.below.tape,f.2.below.output,f.2.below.size,f.2.below.block⟩,f.2.scan⟩)⟩
 ·have r:Hd (G5 W d s M=M):=by show _=_;unfold G5;rw[if_neg A]
  have aM:decide ((W:Int)≤d)=false:=by simpa using A
  go_wp2;go_quiet (fail);go_wp2;go_end0;exact⟨rfl,by rw[r.o];exact⟨i,ak.ex⟩,v.trans (q.drewN _)⟩
theorem B10 (k W place c t:Nat)(next run:Int)(L M:List W3)(base a:Nat)(w:World)
 (ap:1≤k)(aq:k≤12)(hc:c<16777216)(ht:t<16777216)(hW:1≤W)(aC:W≤20)(ar:base≤w.heap.size)
 (au:PI w base a k W next run L M)(hL:L.length<4398046511000)(hM:M.length<4398046511000)
 (aD:(place:Int)≤140737488350000)(av:0≤run)(aE:run≤140737488350000)(h:t<c) :
 Calls Tryz.prog 115 #[.pointer (some ⟨a,0,none⟩),I J place,.int .u64 c,.int .u64 t] w fun e w'=>e=.returned (.tuple #[])∧
  PI w' base a k W (place+1) (F1 next run place) (L3 W next place L (F4 k place c t)) (G5 W (F1 next run place) (L3 W next place L (F4 k place c t)) M)∧PF base w w':=by
 obtain⟨i,ov,pv,D,R,S,T⟩:=au;have aw:0≤F1 next run place∧F1 next run place≤140737488351232:=by unfold F1;split<;>omega
 have aF:=A0G W next place L
 obtain⟨d,E⟩:=A8 (F1 next run place);obtain⟨s,F⟩:=A8 (L3 W next place L (F4 k place c t));rw[←F];have HR:=A4 E;have V:=A4 F;rw[←E]at aw⊢;clear E F;go_enter Tryz.func115,Tryz.ntmps115;go_wp2_with fail;refine(A3E k W next run place L base a ov pv w D R O O av O O O).mono ?_;rintro e w1 ⟨rfl,aG,X,Y,aa⟩;obtain⟨⟨_,ax,ay,l,G,ab,ac⟩,v⟩:=PI.move i D S T X Y aa;rw[←HR.o]at l;clear aa D R S T X Y;have H:base≤w1.heap.size:=Nat.le_trans ar v.below.size;have c0:w1.cell? ⟨a,0,none⟩=some (I J k):=A1 l rfl;have aH:((c:Int) !=t)=true:=Zo;have h':(t:Int)<c:=O;have hx:F4 k place c t=some ⟨(I5 k t:Nat),place,true⟩:=by
  unfold F4 A0C;rw[if_neg O,Nat.min_eq_right O,decide_eq_true O]
 have HX:Hd (s=R0 (mvL W next place L) (I5 k t:Nat)++[⟨(I5 k t:Nat),place,true⟩]):=by rw[V.o,hx];rfl
 clear hx;go_wp2_with fail;refine(A6m k t _ ap aq O).mono ?_;rintro e aI ⟨rfl,rfl⟩;go_wp2_with fail;refine(A8v k W (place+1) d ⟨(I5 k t:Nat),place,true⟩ (mvL W next place L) base a ax ay _ l G H O).mono ?_;rintro e w2 ⟨rfl,n,ad,aJ,K,ae,af⟩;rw[A36.take_eq _ _ _ n ad rfl]at K;have ag:=PI.add i H l G ab ac K ae af;rw[←HX.o]at ag;obtain⟨⟨_,y,ah,m,z,N,ai⟩,q⟩:=ag;clear K ae af ad l G ab ac c0;have aj:base≤w2.heap.size:=Nat.le_trans H q.below.size;have q1:w2.cell? ⟨a,1,none⟩=some (I J W):=A1 m rfl;have q3:w2.cell? ⟨a,3,none⟩=some (I J d):=A1 m rfl;have q4:w2.cell? ⟨a,4,none⟩=some y:=A1 m rfl;have P:=A4 m;clear m V HX;have ak:PI w2 base a k W (place+1) d s M:=⟨i,y,ah,P.o,z,N,ai⟩;by_cases A:(W:Int)≤d
 ·rcases s with _|⟨x,tl⟩
  ·have r:Hd (G5 W d [] M=M):=by show _=_;unfold G5;rw[if_pos A]
   obtain⟨ao,cap,rfl⟩:∃ao cap,y=.slice ao 0 cap:=by
    rcases z.2 with⟨rfl,_⟩|⟨g,o,cap,cur,rfl,_⟩
    ·exact⟨_,_,rfl⟩
    ·exact⟨_,_,rfl⟩
   go_wp2;go_quiet (fail);go_wp2;go_end0;exact⟨rfl,by rw[r.o];exact⟨i,ak.ex⟩,v.trans (q.drewN _)⟩
  ·have r:Hd (G5 W d (x::tl) M=P7 M x):=by show _=_;unfold G5;rw[if_pos A]
   obtain⟨g,o,cap,cur,az,B,C,aK,aA⟩:∃g o cap cur,y=.slice (some ⟨g,o,none⟩) (x::tl).length cap∧w2.heap[g]?=some (.cells cur 114 (0,0))∧(∀j u,(A6 (x::tl))[j]?=some u→cur[o+j]?=some u)∧cap≤9223372036854775807∧(x::tl).length≤cap:=by
    rcases z.2 with⟨_,h0⟩|⟨g,o,cap,cur,h1,h2,h3,h4,h5,h6,h7⟩
    ·simp at h0
    ·exact⟨g,o,cap,cur,h1,h3,h7,h5,h4⟩
   subst az;have e0:w2.cell? ⟨g,o,none⟩=some (I J x.h):=A1 B (C 0 _ rfl);have e1:w2.cell? ⟨g,o+1,none⟩=some (I J x.p):=A1 B (C 1 _ rfl);have e2:w2.cell? ⟨g,o+2,none⟩=some (.bool x.b):=A1 B (C 2 _ rfl);have aB:(0:Int)<((x::tl).length:Nat):=Zs;obtain⟨n,Q⟩:=A8 ((x::tl).length);rw[←Q]at q4 aB aA;have HN:=A4 Q;clear Q B C;go_wp2;go_quiet (fail);go_wp2_with fail;refine(A3b k W (place+1) d x base a _ ah M O (w2.drewN _) P.o N aj).mono ?_;rintro e w3 ⟨rfl,aL,al,am,an⟩;have f:=PI.pick (w:=w2.drewN _) i aj P.o z N ai al am an;clear al am an;go_wp2;go_end0;exact⟨rfl,by rw[r.o];exact f.1,v.trans (PF.trans ⟨q.below,q.scan⟩ ⟨⟨f.2.below.os,f.2.below.tape,f.2.below.output,f.2.below.size,f.2.below.block⟩,f.2.scan⟩)⟩
 ·have r:Hd (G5 W d s M=M):=by show _=_;unfold G5;rw[if_neg A]
  have aM:decide ((W:Int)≤d)=false:=by simpa using A
  go_wp2;go_quiet (fail);go_wp2;go_end0;exact⟨rfl,by rw[r.o];exact⟨i,ak.ex⟩,v.trans (q.drewN _)⟩
theorem B2h (k W place c t:Nat)(next run:Int)(L M:List W3)(base a:Nat)(w:World)
 (ay:1≤k)(az:k≤12)(hc:c<16777216)(ht:t<16777216)(hW:1≤W)(aA:W≤20)(ai:base≤w.heap.size)
 (aj:PI w base a k W next run L M)(hL:L.length<4398046511000)(hM:M.length<4398046511000)
 (aB:(place:Int)≤140737488350000)(ak:0≤run)(aC:run≤140737488350000)(h:c=t) :
 Calls Tryz.prog 115 #[.pointer (some ⟨a,0,none⟩),I J place,.int .u64 c,.int .u64 t] w fun e w'=>e=.returned (.tuple #[])∧
  PI w' base a k W (place+1) (F1 next run place) (L3 W next place L (F4 k place c t)) (G5 W (F1 next run place) (L3 W next place L (F4 k place c t)) M)∧PF base w w':=by
 obtain⟨m,ov,pv,E,P,Q,R⟩:=aj;have al:0≤F1 next run place∧F1 next run place≤140737488351232:=by unfold F1;split<;>omega
 have aD:=A0G W next place L
 obtain⟨d,F⟩:=A8 (F1 next run place);obtain⟨l,G⟩:=A8 (L3 W next place L (F4 k place c t));rw[←G];have HR:=A4 F;have S:=A4 G;rw[←F]at al⊢;clear F G;go_enter Tryz.func115,Tryz.ntmps115;go_wp2_with fail;refine(A3E k W next run place L base a ov pv w E P O O ak O O O).mono ?_;rintro e w1 ⟨rfl,aE,T,V,X⟩;obtain⟨⟨_,am,an,v,Y,aa,ab⟩,y⟩:=PI.move m E Q R T V X;rw[←HR.o]at v;clear X E P Q R T V;have ap:base≤w1.heap.size:=Nat.le_trans ai y.below.size;have c0:w1.cell? ⟨a,0,none⟩=some (I J k):=A1 v rfl;have aF:((c:Int) !=t)=false:=Zo;have hx:F4 k place c t=none:=by
  unfold F4;rw[if_pos h]
 have HX:Hd (l=mvL W next place L):=by rw[S.o,hx];rfl
 clear hx;obtain⟨w2,f,z,aq,ar,au⟩:∃w2 f z,w2=w1∧f=am∧z=an:=⟨_,_,_,rfl,rfl,rfl⟩;subst aq ar au;have q:=v;have A:A3 w2 base 114 3 f l.length (A6 l):=by rw[HX.o];exact Y
 have H:=aa;have ac:=ab;have r:PF base w2 w2:=⟨Below.refl _ _,fun _ _ h=>h⟩;clear v Y aa ab c0;have ad:base≤w2.heap.size:=Nat.le_trans ap r.below.size;have q1:w2.cell? ⟨a,1,none⟩=some (I J W):=A1 q rfl;have q3:w2.cell? ⟨a,3,none⟩=some (I J d):=A1 q rfl;have q4:w2.cell? ⟨a,4,none⟩=some f:=A1 q rfl;have K:=A4 q;clear q S HX;have ae:PI w2 base a k W (place+1) d l M:=⟨m,f,z,K.o,A,H,ac⟩;by_cases B:(W:Int)≤d
 ·rcases l with _|⟨x,tl⟩
  ·have s:Hd (G5 W d [] M=M):=by show _=_;unfold G5;rw[if_pos B]
   obtain⟨ao,cap,rfl⟩:∃ao cap,f=.slice ao 0 cap:=by
    rcases A.2 with⟨rfl,_⟩|⟨g,o,cap,cur,rfl,_⟩
    ·exact⟨_,_,rfl⟩
    ·exact⟨_,_,rfl⟩
   go_wp2;go_quiet (fail);go_wp2;go_end0;exact⟨rfl,by rw[s.o];exact⟨m,ae.ex⟩,y.trans (r.drewN _)⟩
  ·have s:Hd (G5 W d (x::tl) M=P7 M x):=by show _=_;unfold G5;rw[if_pos B]
   obtain⟨g,o,cap,cur,av,C,D,aG,aw⟩:∃g o cap cur,f=.slice (some ⟨g,o,none⟩) (x::tl).length cap∧w2.heap[g]?=some (.cells cur 114 (0,0))∧(∀j u,(A6 (x::tl))[j]?=some u→cur[o+j]?=some u)∧cap≤9223372036854775807∧(x::tl).length≤cap:=by
    rcases A.2 with⟨_,h0⟩|⟨g,o,cap,cur,h1,h2,h3,h4,h5,h6,h7⟩
    ·simp at h0
    ·exact⟨g,o,cap,cur,h1,h3,h7,h5,h4⟩
   subst av;have e0:w2.cell? ⟨g,o,none⟩=some (I J x.h):=A1 C (D 0 _ rfl);have e1:w2.cell? ⟨g,o+1,none⟩=some (I J x.p):=A1 C (D 1 _ rfl);have e2:w2.cell? ⟨g,o+2,none⟩=some (.bool x.b):=A1 C (D 2 _ rfl);have ax:(0:Int)<((x::tl).length:Nat):=Zs;obtain⟨n,N⟩:=A8 ((x::tl).length);rw[←N]at q4 ax aw;have HN:=A4 N;clear N C D;go_wp2;go_quiet (fail);go_wp2_with fail;refine(A3b k W (place+1) d x base a _ z M O (w2.drewN _) K.o H ad).mono ?_;rintro e w3 ⟨rfl,aH,af,ag,ah⟩;have i:=PI.pick (w:=w2.drewN _) m ad K.o A H ac af ag ah;clear af ag ah;go_wp2;go_end0;exact⟨rfl,by rw[s.o];exact i.1,y.trans (PF.trans ⟨r.below,r.scan⟩ ⟨⟨i.2.below.os,i.2.below.tape,i.2.below.output,i.2.below.size,i.2.below.block⟩,i.2.scan⟩)⟩
 ·have s:Hd (G5 W d l M=M):=by show _=_;unfold G5;rw[if_neg B]
  have aI:decide ((W:Int)≤d)=false:=by simpa using B
  go_wp2;go_quiet (fail);go_wp2;go_end0;exact⟨rfl,by rw[s.o];exact⟨m,ae.ex⟩,y.trans (r.drewN _)⟩
theorem B0w (k W place c t:Nat)(next run:Int)(L M:List W3)(base a:Nat)(w:World)
 (b:1≤k)(d:k≤12)(f:c<16777216)(ht:t<16777216)(g:1≤W)(i:W≤20)(j:base≤w.heap.size)
 (l:PI w base a k W next run L M)(m:L.length<4398046511000)(n:M.length<4398046511000)
 (o:(place:Int)≤140737488350000)(p:0≤run)(q:run≤140737488350000) :
 Calls Tryz.prog 115 #[.pointer (some ⟨a,0,none⟩),I J place,.int .u64 c,.int .u64 t] w fun e w'=>e=.returned (.tuple #[])∧
  PI w' base a k W (place+1) (F1 next run place) (L3 W next place L (F4 k place c t)) (G5 W (F1 next run place) (L3 W next place L (F4 k place c t)) M)∧PF base w w':=by
 rcases Nat.lt_trichotomy c t with h|h|h
 ·exact word_lt k W place c t next run L M base a w b d f ht g i j l m n o p q h
 ·exact B2h k W place c t next run L M base a w b d f ht g i j l m n o p q h
 ·exact B10 k W place c t next run L M base a w b d f ht g i j l m n o p q h
end
end Mn
end Go.Proofs.YtilcmkiihefkkaaGreatDoor
