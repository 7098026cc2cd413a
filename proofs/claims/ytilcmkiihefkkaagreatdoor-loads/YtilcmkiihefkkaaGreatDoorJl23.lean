import Derived.Test.YtilcmkiihefkkaaGreatDoorJl7
import Derived.Test.YtilcmkiihefkkaaGreatDoorJl18
import Derived.Test.YtilcmkiihefkkaaGreatDoorJl21
set_option linter.unusedVariables false
set_option linter.unusedSimpArgs false
set_option maxRecDepth 1000000
set_option maxHeartbeats 64000000
open Go.Value renaming int→I
open Go.IntKind renaming i64→J
namespace Go.Proofs.YtilcmkiihefkkaaGreatDoor
namespace Mn
section
open Go.RowKit Go.Maps Go.MapKept Go.ChangeMaps
abbrev SdP (w:World) (base Gb n:Nat) (V:Int×Bool→Value) (A:Int×Bool→List (Int×Int)):Prop:=GrP Tryz.prog kS okS A9 178 119 2 w base Gb n V A
def Z7 (x y:W3):Int×Bool:=(y.h,x.b !=y.b)
def A3I (len k:Int)(x y:W3):Int×Int:=(if (x.b !=y.b)=true then len-k-x.p else x.p,y.p)
def A0e (len k:Int)(A:Int×Bool→List (Int×Int))(x y:W3):Int×Bool→List (Int×Int):=I0 eqS A (Z7 x y) (A (Z7 x y)++[A3I len k x y])
def GaP (w:World)(base Gb n:Nat)(V:Int×Bool→Value)(s:Int×Bool)(A':Int×Bool→List (Int×Int))(e:Ending)(w':World):Prop:=
 e=.returned (.tuple #[])∧(∃V',SdP w' base Gb (n+1) V' A')∧w.heap.size≤w'.heap.size∧(∀g,g<w.heap.size→g≠Gb→(V s).ownBlock≠some g→w'.heap[g]?=w.heap[g]?)∧w'.os=w.os∧w'.tape=w.tape∧w'.output=w.output
theorem B0D (W:World)(x y:Int)(s:Nat)(hs:s=W.heap.size):∀j u,([I J x,I J y]:List Value)[j]?=some u→(W.alloc (.cells #[I J x,I J y] 119)).cell? ((⟨s,0,none⟩:Addr).add j)=some u:=A0D W _ _ _ s hs
theorem B3f (E c a f:Int)(z F sd:Bool)(aD:(!(z==F))=sd)(len cnt p:Int)(v Wn aq:Nat)(ar:p=if sd=true then len-v-c else c)(rv mv:Value)(m X b base n:Nat)(V:Int×Bool→Value)(A:Int×Bool→List (Int×Int))(w:World)(G:okS (a,sd))(hn:n<100000)(hA:(A (a,sd)).length<100000)(aZ:base≤w.heap.size)
 (hlen:0≤len∧len≤1000000)(ba:v≤12)(hp:0≤c∧c≤1000000)
 (hG:w.heap[m]?=some (.cells #[.pointer (some ⟨X,0,none⟩),I J len,I J cnt,.map (some b)] 214 (0,0)))(hX:w.heap[X]?=some (.cells (#[I J v,I J Wn,.float .f64 aq,rv,mv]) 147 (0,0)))(hS:SdP w base b n V A) :
 Calls Tryz.prog 142 #[.pointer (some ⟨m,0,none⟩),.agg #[I J E,I J c,.bool z],.agg #[I J a,I J f,.bool F]] w fun e w'=>
  GaP w base b n V (a,sd) (I0 eqS A (a,sd) (A (a,sd)++[(p,f)])) e w':=by
 obtain⟨i0,hi,aE,aF,aG⟩:=info_parts Tryz.info119;have HS:Hd (SdP w base b n V A):=hS;have ai:m<w.heap.size:=lt_of_block hG;have aH:X<w.heap.size:=lt_of_block hX;have HG:Hd (w.heap[m]?=some (.cells #[.pointer (some ⟨X,0,none⟩),I J len,I J cnt,.map (some b)] 214 (0,0))):=hG;have HX:Hd (w.heap[X]?=some (.cells (#[I J v,I J Wn,.float .f64 aq,rv,mv]) 147 (0,0))):=hX;have bb:b<w.heap.size:=hS.lt;have aI:Hd (m≠b):=by
  obtain⟨D,⟨es,clock,hb,_⟩,_⟩:=hS.map;intro e;rw[e,hb]at hG;cases hG
 have au:=A4 ar;clear hG hX hS ar;go_enter Tryz.func142,Tryz.ntmps142;obtain⟨l,H⟩:=A8 ((((w.alloc (Obj.cells #[I J E,I J c,Value.bool z] 114)).alloc (Obj.cells #[I J a,I J f,Value.bool F] 99)).alloc (Obj.cells #[I J a,Value.bool sd] 178)).alloc (Obj.cells #[I J c,I J f] 119));have x:Below w.heap.size w l:=by rw[H];exact((((Below.refl _ _).alloc (Nat.le_refl _) _).alloc Zs _).alloc Zo _).alloc Zo _
 have ad:l.heap.size=w.heap.size+4:=by rw[H];simp
 have aj:l.heap[w.heap.size]?=some (.cells #[I J E,I J c,Value.bool z] 114 (0,0)):=by
  rw[H,Below.heap_alloc _ _ _ Zo,Below.heap_alloc _ _ _ Zo,Below.heap_alloc _ _ _ Zs];exact heap_alloc_new w _
 have ae:l.heap[w.heap.size+1+1]?=some (.cells #[I J a,Value.bool sd] 178 (0,0)):=by
  rw[H,Below.heap_alloc _ _ _ Zs];have:=heap_alloc_new ((w.alloc (Obj.cells #[I J E,I J c,Value.bool z] 114)).alloc (Obj.cells #[I J a,I J f,Value.bool F] 99)) (Obj.cells #[I J a,Value.bool sd] 178);have e1:((w.alloc (Obj.cells #[I J E,I J c,Value.bool z] 114)).alloc (Obj.cells #[I J a,I J f,Value.bool F] 99)).heap.size=w.heap.size+1+1:=Zs;rw[e1]at this;exact this
 have L:l.heap[w.heap.size+1+1+1]?=some (.cells #[I J c,I J f] 119 (0,0)):=by
  rw[H];have:=heap_alloc_new (((w.alloc (Obj.cells #[I J E,I J c,Value.bool z] 114)).alloc (Obj.cells #[I J a,I J f,Value.bool F] 99)).alloc (Obj.cells #[I J a,Value.bool sd] 178)) (Obj.cells #[I J c,I J f] 119);have e1:(((w.alloc (Obj.cells #[I J E,I J c,Value.bool z] 114)).alloc (Obj.cells #[I J a,I J f,Value.bool F] 99)).alloc (Obj.cells #[I J a,Value.bool sd] 178)).heap.size=w.heap.size+1+1+1:=Zs;rw[e1]at this;exact this
 go_wp2_with fail;all_goals rw[←H]
 all_goals clear H aD
 focus
  rename_i Q0 K0 av T;have f0:l.drew.cell? ⟨m,1,none⟩=some (I J len):=A1 ((x.block m ai).trans HG.o) rfl;have f1:l.drew.cell? ⟨m,0,none⟩=some (.pointer (some ⟨X,0,none⟩)):=A1 ((x.block m ai).trans HG.o) rfl;have f2:l.drew.cell? ⟨X,0,none⟩=some (I J v):=A1 ((x.block X aH).trans HX.o) rfl;have f3:l.drew.cell? ⟨w.heap.size,1,none⟩=some (I J c):=A1 aj rfl;have fa:l.drew.cell? ⟨w.heap.size+1+1+1,0,none⟩=some (I J c):=A1 L rfl;have ff:l.drew.frozen? ⟨w.heap.size+1+1+1,0,none⟩=false:=frozen_of_row _ _ _ _ _ L;have aJ:IntKind.i64.wrap (len-v)=len-v:=Zw;have aK:IntKind.i64.wrap (len-v-c)=len-v-c:=Zw;refine A5 17 (fun k=>k.cell? ⟨m,1,none⟩=some (I J len)∧k.cell? ⟨m,0,none⟩=some (.pointer (some ⟨X,0,none⟩))∧k.cell? ⟨X,0,none⟩=some (I J v)∧k.cell? ⟨w.heap.size,1,none⟩=some (I J c)) U ⟨f0,f1,f2,f3⟩ (fun hH=>?_);refine A2 0 ?_;refine A2 1 ?_;refine A2 2 ?_;refine A2 3 ?_;refine A2 4 ?_;refine A2 5 ?_;refine A2 6 ?_;refine A2 7 ?_;refine A2 8 ?_;refine A2 9 ?_;refine A2 10 ?_;refine A2 11 ?_;refine A2 12 ?_;refine A2 13 ?_;refine A2 14 ?_;refine A2 15 ?_;refine A2 16 ?_;refine C1 (i:=17) U rfl U U (fun K r=>?_);go_simp;refine r.out _ _ ?_;clear r K hH;refine av _ _ ?_;clear av;have W:p=len-v-c:=by rw[au.o,T];rfl
  rw[←W];obtain⟨q,B⟩:=A8 ((l.setCell ⟨w.heap.size+1+1+1,0,none⟩ (I J p)).drew);rw[←B];have af:q.heap[w.heap.size+1+1+1]?=some (.cells #[I J p,I J f] 119 (0,0)):=by
   rw[B];exact heap_setCell_same l _ 0 _ _ _ L
  have ak:∀j,j≠w.heap.size+1+1+1→q.heap[j]?=l.heap[j]?:=fun j s=>by rw[B];exact heap_setCell_other l _ j _ s
  have ag:=(ak (w.heap.size+1+1) O).trans ae;have Y:q.heap.size=w.heap.size+4:=by rw[B];show(l.setCell _ _).heap.size=_;simp[ad]
  have y:Below w.heap.size w q:=by
   refine⟨?_,?_,?_,O,fun g M=>(ak g O).trans (x.block g M)⟩
   ·rw[B];exact x.os
   ·rw[B];exact x.tape
   ·rw[B];exact x.output
  clear B ak f0 f1 f2 f3 fa ff aJ aK aj ae L x ad;clear l;clear W T
 rotate_left;focus
  rename_i T;have W:p=c:=by rw[au.o,T];rfl
  rw[←W]at L;clear W T;have y:=x;have Y:=ad;have ag:=ae;have af:=L;clear x ad ae L aj;revert y Y ag af;generalize l=q;intro y Y ag af
 all_goals
  have aL:SdP q base b n V A:=HS.o.kept (fun j s=>y.block j s);have aw:∀g,(V (a,sd)).ownBlock=some g→g<w.heap.size:=fun g M=>((HS.o.own _ G).lt M).2;have g0:∀k:World,(∀j,j<w.heap.size+4→j≠b→(V (a,sd)).ownBlock≠some j→k.heap[j]?=q.heap[j]?)→k.cell? ⟨m,3,none⟩=some (.map (some b))∧k.cell? ⟨w.heap.size+1+1,0,none⟩=some (I J a)∧k.cell? ⟨w.heap.size+1+1,1,none⟩=some (.bool sd)∧k.cell? ⟨w.heap.size+1+1+1,0,none⟩=some (I J p)∧k.cell? ⟨w.heap.size+1+1+1,1,none⟩=some (I J f):=by
   intro k hW;have k0:k.heap[m]?=some (.cells #[.pointer (some ⟨X,0,none⟩),I J len,I J cnt,.map (some b)] 214 (0,0)):=(hW m O aI.o ((HS.o.own _ G).tag Z HG.o)).trans ((y.block m ai).trans HG.o);have k2:=(hW (w.heap.size+1+1) O O (fun e=>by have:=aw _ e;omega)).trans ag;have k3:=(hW (w.heap.size+1+1+1) O O (fun e=>by have:=aw _ e;omega)).trans af;exact⟨A1 k0 rfl,A1 k2 rfl,A1 k2 rfl,A1 k3 rfl,A1 k3 rfl⟩
  refine A5 11 (fun k=>k.cell? ⟨m,3,none⟩=some (.map (some b))∧k.cell? ⟨w.heap.size+1+1,0,none⟩=some (I J a)∧k.cell? ⟨w.heap.size+1+1,1,none⟩=some (.bool sd)∧k.cell? ⟨w.heap.size+1+1+1,0,none⟩=some (I J p)∧k.cell? ⟨w.heap.size+1+1+1,1,none⟩=some (I J f)) U (g0 q.drew (fun _ _ _ _=>rfl)) (fun hH=>?_);refine A2 0 ?_;refine A2 1 ?_;refine A2 2 ?_;refine A2 3 ?_;refine A2 4 ?_;refine A2 5 ?_;obtain⟨d,P⟩:=A8 ((q.alloc (Obj.cells #[I J p,I J f] 119)).drew);have aa:∀j,j<q.heap.size→d.heap[j]?=q.heap[j]?:=fun j s=>by rw[P];exact Below.heap_alloc q.drew _ j s
  have bc:d.heap.size=w.heap.size+5:=by rw[P];show(q.alloc _).heap.size=_;simp[Y]
  have ab:SdP d base b n V A:=aL.kept aa;have aM:∀j u,([I J (p),I J f]:List Value)[j]?=some u→d.cell? ((⟨w.heap.size+4,0,none⟩:Addr).add j)=some u:=by
   rw[P];exact B0D q.drew _ _ _ (by show _=q.heap.size;omega)
  have aN:d.os=w.os∧d.tape=w.tape∧d.output=w.output:=by rw[P];exact⟨y.os,y.tape,y.output⟩
  obtain⟨st,Q,R,ax,ay⟩:=ab.entry A9v Tryz.underlying175 A6k S8 B0a G (B1f _ G) (by unfold maxLen;omega);have aO:(Instr.mapEntry 175 (.map (some b)) (.agg #[I J a,.bool sd])).run Tryz.prog d=.ok (.tuple #[V (a,sd),I J st]) (setBlock d b (.map Q R)):=ax;have HC:Hd (∀(w2:World) (v':Value) (g':Nat) (l':List (Int×Int)),w2.heap[b]?=some (.map Q R)→d.heap.size≤w2.heap.size→(∀j,j<d.heap.size→j≠b→(V (a,sd)).ownBlock≠some j→w2.heap[j]?=d.heap[j]?)→
   A3 w2 base 119 2 v' l'.length (A9 l')→v'.ownBlock=some g'→((V (a,sd)).ownBlock=some g'∨d.heap.size≤g')→l'.isEmpty=false→
   ∃C,(Instr.entryStore 175 (.map (some b)) (I J st) v').run Tryz.prog w2=.ok () C∧SdP C base b (n+1) (I0 eqS V (a,sd) v') (I0 eqS A (a,sd) l')∧(∀j,j≠b→C.heap[j]?=w2.heap[j]?)∧C.heap.size=w2.heap.size∧C.os=w2.os∧C.tape=w2.tape∧C.output=w2.output):=ay
  have aP:d.heap[b]?=some (.map Q R)∨True:=Or.inr trivial;clear ay ax aP;refine wpS 6 fun K r=>?_;go_simp;rw[←P];refine F7 r (g0 d (fun j s _ _=>aa j O)) ?_;clear r K hH P;obtain⟨t,S⟩:=A8 (setBlock d b (.map Q R));rw[←S]at aO;obtain⟨az,aA,aB⟩:∃az aA,d.heap[b]?=some (.map az aA):=by
   obtain⟨D,⟨es,clock,hb,_⟩,_⟩:=ab.map;exact⟨es,clock,hb⟩
  have aQ:t.heap[b]?=some (.map Q R):=by rw[S];exact heap_setBlock_same aB _
  have ah:∀j,j≠b→t.heap[j]?=d.heap[j]?:=fun j s=>by rw[S];exact heap_setBlock_other aB _ s
  have bd:t.heap.size=d.heap.size:=by rw[S];simp[setBlock]
  have al:t.os=w.os∧t.tape=w.tape∧t.output=w.output:=by rw[S];exact aN
  clear S;refine wpS 7 fun K r=>?_;go_simp;have hH:=g0 t (fun j s ac _=>(ah j ac).trans (aa j O));refine F7 r hH ?_;clear r K;refine A2 8 ?_;refine A2 10 ?_;have aR:A3 t base 119 2 (V (a,sd)) (A (a,sd)).length (A9 (A (a,sd))):=(ab.own _ G).other (fun g M _=>ah g (fun e=>ab.ne G (e▸M)));have aS:∀j u,([I J (p),I J f]:List Value)[j]?=some u→t.cell? ((⟨w.heap.size+4,0,none⟩:Addr).add j)=some u:=by
   intro j u s;have:=aM j u s;rw[Addr.add_lit]at this⊢;exact(World.cell?_of_block (ah (w.heap.size+4) O)).trans this
  refine wpS 9 fun K r=>?_;refine H9 rfl (.tmp 45) (.tmp 47) 115 rfl 119 i0 _ 2 16 Tryz.underlying115 hi aE aF aG rfl Z base (V (a,sd)) (A (a,sd)).length (A9 (A (a,sd))) (by simp[Act.eval]) aR ⟨w.heap.size+4,0,none⟩ 1 [I J (p),I J f] (by simp[Act.eval,Y]) rfl aS (R7 _ _) (by unfold maxLen;omega) O O ?_;intro g' o' cap' w2 aT N;have am:∀j,j<d.heap.size→j≠b→(V (a,sd)).ownBlock≠some j→w2.heap[j]?=d.heap[j]?:=fun j s ac an=>(N.other j O an).trans (ah j ac);have be:t.heap.size≤w2.heap.size:=N.size;have aU:w2.heap[b]?=some (.map Q R):=(N.other b O (ab.ne G)).trans aQ;have aV:A3 w2 base 119 2 (.slice (some ⟨g',o',none⟩) ((A (a,sd)).length+1) cap') (A (a,sd)++[(p,f)]).length (A9 (A (a,sd)++[(p,f)])):=by
   rw[L7,List.length_append];exact aT
  obtain⟨C,bf,aW,aX,bg,ao⟩:=HC.o w2 (.slice (some ⟨g',o',none⟩) ((A (a,sd)).length+1) cap') g' (A (a,sd)++[(p,f)]) aU O am aV rfl (by rcases N.new with h|h;exact Or.inl h;right;omega) Zs;have ap:w2.os=t.os∧w2.tape=t.tape∧w2.output=t.output:=⟨N.os,N.tape,N.output⟩;have hH:=g0 w2 (fun j s ac an=>(am j O ac an).trans (aa j O));refine F7 r hH ?_;clear r K hH;refine C1 (i:=11) U rfl U U (fun K r=>?_);go_simp;refine r.out _ _ ?_;clear r K;go_end0;refine⟨rfl,⟨_,aW⟩,O,?_,?_,?_,?_⟩
  ·intro g M aC aY;rw[aX g aC,am g O aC aY,aa g O];exact y.block g M
  ·rw[ao.1,ap.1,al.1]
  ·rw[ao.2.1,ap.2.1,al.2.1]
  ·rw[ao.2.2,ap.2.2,al.2.2]
theorem A6E (x y:W3)(len k cnt:Int)(a f g:Nat)(i j:Value)(d X c base n:Nat)(V:Int×Bool→Value)(A:Int×Bool→List (Int×Int))(w:World)(l:okS (Z7 x y))(m:n<100000)(o:(A (Z7 x y)).length<100000)(q:base≤w.heap.size)
 (hlen:0≤len∧len≤1000000)(hk:k=a)(r:a≤12)(s:0≤x.p∧x.p≤1000000)
 (hG:w.heap[d]?=some (.cells #[.pointer (some ⟨X,0,none⟩),I J len,I J cnt,.map (some c)] 214 (0,0)))(t:w.heap[X]?=some (.cells (#[I J a,I J f,.float .f64 g,i,j]) 147 (0,0)))(u:SdP w base c n V A) :
 Calls Tryz.prog 142 #[.pointer (some ⟨d,0,none⟩),.agg #[I J x.h,I J x.p,.bool x.b],.agg #[I J y.h,I J y.p,.bool y.b]] w fun e w'=>
  GaP w base c n V (Z7 x y) (A0e len k A x y) e w':=by
 subst hk;exact B3f x.h x.p y.h y.p x.b y.b _ rfl len cnt _ a f g rfl i j d X c base n V A w l m o q hlen r s hG t u
end
end Mn
end Go.Proofs.YtilcmkiihefkkaaGreatDoor
