import Derived.Test.YtilcmkiihefkkaaGreatDoorJl27
import Derived.Test.YtilcmkiihefkkaaGreatDoorJl40
set_option linter.unusedVariables false
set_option linter.unusedSimpArgs false
set_option maxRecDepth 1000000
set_option maxHeartbeats 64000000
open Go.Value renaming int→I
open Go.IntKind renaming i64→J
namespace Go.Proofs.YtilcmkiihefkkaaGreatDoor
namespace Mn
section
open Go.RowKit Go.Shelf Go.Lib Go.Sort Go.Maps
theorem Tryz.info180x:(Tryz.prog.info? 180).map (fun i=>(i.zero,i.size,i.bytes))=some (some (.agg #[I J 0,.bool false,.slice none 0 0,.float .f64 0]),4,48):=U
theorem B34 (key:Value)(g:Lit)(h:keyOf Tryz.prog 178 key=some g):∃x:Int×Bool,key=vS x:=by
 obtain⟨xs,L,rfl,d,_⟩:=keyOf_top B27 h;have i:Tryz.prog.cellsOf 178=2:=U;have j:Tryz.prog.cellsOf 3=1:=U;have k:Tryz.prog.cellsOf 4=1:=U;obtain⟨m,hm⟩:∃m,Tryz.prog.types.size+1=m+2:=⟨Tryz.prog.types.size - 1,by have h:(178:Nat)<Tryz.prog.types.size:=B1B;omega⟩;rw[hm]at d;unfold Program.keyLits at d;rw[Tryz.underlying178]at d;simp only[i]at d;split at d
 ·rename_i hlen;match hx:xs.toList,hlen.1 with
  | [a,b],_=>
   rw[hx]at d;simp[j,k,Program.keyLits,Tryz.underlying3,Tryz.underlying4]at d;have l:∃n,a=I J n:=by
    cases a with
    | int q n=>
     by_cases f:q=IntKind.i64
     ·subst f;exact⟨n,rfl⟩
     ·simp[f]at d
    | _=>simp at d
   obtain⟨n,rfl⟩:=l;have o:∃c,b=.bool c:=by
    cases b with
    | bool c=>exact⟨c,rfl⟩
    | _=>by_cases hw:(Lit.int .i64 n).wf=true<;>simp[hw]at d
   obtain⟨c,rfl⟩:=o;refine⟨(n,c),?_⟩;have:xs=#[I J n,.bool c]:=by rw[←Array.toArray_toList (xs:=xs),hx]
   rw[this];rfl
 ·cases d
structure Sk where
 n:Int
 b:Bool
def vK (x:Sk):Value:=.agg #[I J x.n,.bool x.b]
theorem B4f (key:Value)(a:Lit)(h:keyOf Tryz.prog 178 key=some a):∃x:Sk,key=vK x:=by
 obtain⟨x,rfl⟩:=B34 key a h;exact⟨⟨x.1,x.2⟩,rfl⟩
def D5 (L:List (Int×Int))(k:Int):Int:=if Q5 L k=0 then chQ k L else 0
theorem fq0:fq 0=0:=Z
theorem B3c (L:List (Int×Int))(k:Int):A5t L k=fq (D5 L k):=by unfold A5t D5;split;rfl;exact fq0.symm
theorem S9 (L:List (Int×Int))(k:Int):0≤D5 L k∧D5 L k≤100000:=by
 unfold D5;split
 ·rename_i h;have:=A04 L k h;exact⟨this.1,this.2.1⟩
 ·omega
structure CdI (w:World)(G:Int×Bool→List (Int×Int))(k:Int)(Gb r n:Nat)(D:DataW Value)(left:Lit→Bool)(cnt:Nat)(lv:Value)(Vc:Int×Bool→Value)(L:List Cd)(wr:World):Prop where
 rg:wr.ranges Tryz.prog 178 X9 Gb r n D left cnt
 ls:A3 wr w.heap.size 180 4 lv L.length (L.flatMap (A1f Vc (fun q=>D5 (G q) k)))
 nn:lv.ownBlock≠none
 ch:∀a∈L,A3 wr w.heap.size 119 2 (Vc (sd a)) (A13 (G (sd a)) k).length (A9 (A13 (G (sd a)) k))
 nd:L.Nodup
 mem:∀a,a∈L↔(G (sd a)≠[]∧left (kS (sd a))=false)
 one:∀q,(Vc q).oneCell'=true
 bl:Below w.heap.size w wr
 cn:L.length+cnt≤Maps.size D
 lw:w.heap.size≤r
def CaP (G:Int×Bool→List (Int×Int))(k:Int)(w:World)(e:Ending)(w':World):Prop:=
 ∃(v:Value) (Vc:Int×Bool→Value) (C:List Cd),e=.returned v∧Below w.heap.size w w'∧A3 w' w.heap.size 180 4 v C.length (C.flatMap (A1f Vc (fun q=>D5 (G q) k)))∧(∀a∈C,A3 w' w.heap.size 119 2 (Vc (sd a)) (A13 (G (sd a)) k).length (A9 (A13 (G (sd a)) k)))∧
  C.Pairwise (ltC (fun q=>D5 (G q) k))∧(∀a,a∈C↔G (sd a)≠[])∧C.length≤400
theorem A4n {P:Program}{K:TypeId}{R:Value→Option (DataW Value×List MemPlace)}{w w':World}{b r n:Nat}{D:DataW Value}{left:Lit→Bool}{cnt:Nat}(h:w.ranges P K R b r n D left cnt)(a:w'.heap[b]?=w.heap[b]?)(c:w'.heap[r]?=w.heap[r]?):w'.ranges P K R b r n D left cnt:=by
 obtain⟨es,clock,since,seen,c0,h1,F,d,f,g,rest⟩:=h;exact⟨es,clock,since,seen,c0,a.trans h1,F,d,f,c.trans g,rest⟩
theorem N6 {P:Program}{K:TypeId}{R:Value→Option (DataW Value×List MemPlace)}{w:World}{b r n:Nat}{D:DataW Value}{left:Lit→Bool}{cnt:Nat}(h:w.ranges P K R b r n D left cnt){base:Nat}{e:TypeId}{size:Nat}{v:Value}{m:Nat}{xs:List Value}(ho:A3 w base e size v m xs):v.ownBlock≠some b∧v.ownBlock≠some r:=by
 obtain⟨es,clock,since,seen,c0,h1,F,d,f,c,rest⟩:=h;obtain⟨_,ho⟩:=ho;rcases ho with ⟨rfl,_⟩ | ⟨g,o,cap,cur,rfl,_,a,_⟩
 ·simp[Value.ownBlock]
 ·simp only[Value.ownBlock,ne_eq,Option.some.injEq];constructor
  ·intro e;rw[e,h1]at a;cases a
  ·intro e;rw[e,c]at a;cases a
theorem A6N (W:World)(a b c d:Value)(s:Nat)(hs:s=W.heap.size):∀j u,([a,b,c,d]:List Value)[j]?=some u→(W.alloc (.cells #[a,b,c,d] 180)).cell? ((⟨s,0,none⟩:Addr).add j)=some u:=by
 intro j u f;subst hs;have h:=heap_alloc_new W (.cells #[a,b,c,d] 180);rw[Addr.add_lit,cell_of_row _ _ _ _ _ _ h];match j,f with
 | 0,f=>simpa using f
 | 1,f=>simpa using f
 | 2,f=>simpa using f
 | 3,f=>simpa using f
theorem A7A (b c:Int×Bool→Value)(Q:Int×Bool→Int)(L:List Cd)(h:∀a∈L,c (sd a)=b (sd a)):L.flatMap (A1f c Q)=L.flatMap (A1f b Q):=by
 induction L with
 | nil=>rfl
 | cons x t d=>
  rw[List.flatMap_cons,List.flatMap_cons,d (fun a f=>h a (List.mem_cons_of_mem _ f))];unfold A1f;rw[h x (List.mem_cons_self)]
theorem A7w (Q:Int×Bool→Int)(L:List Cd)(f:L.Nodup):(L.mergeSort (leC Q)).Pairwise (ltC Q):=by
 have g:∀a b c:Cd,leC Q a b=true→leC Q b c=true→leC Q a c=true:=by
  intro a b c h1 d;simp only[leC,Bool.not_eq_true']at h1 d ⊢;rw[A00]at *;unfold ltC at *;omega
 have i:∀a b:Cd,(leC Q a b||leC Q b a)=true:=by
  intro a b;cases h:leC Q a b
  ·simp only[leC,Bool.not_eq_false']at h;rw[A4s]at h;simp only[Bool.false_or,leC,Bool.not_eq_true'];rw[A00];unfold ltC at *;omega
  ·rfl
 have hs:=List.pairwise_mergeSort g i L;have j:(L.mergeSort (leC Q)).Nodup:=((List.mergeSort_perm L (leC Q)).nodup_iff).2 f;refine (hs.and j).imp ?_;intro a b k;obtain⟨h1,d⟩:=k;simp only[leC,Bool.not_eq_true']at h1;rw[A00]at h1;by_cases l:ltC Q a b
 ·exact l
 ·exfalso;apply d;apply A44;unfold ltC at *;omega
theorem A7h (G:Int×Bool→List (Int×Int))(V:Int×Bool→Value)(B base n:Nat)(k:Int)(w:World)(hS:SdP w base B n V G)(hn:n≤400)(hG:∀q,G q≠[]→0≤q.1∧q.1<100000)(aD:∀q,(G q).length≤400) :
 Calls Tryz.prog 77 #[.map (some B),I J k] w fun e w'=>CaP G k w e w':=by
 obtain⟨i0,hi,aE,aF,aG⟩:=info_parts Tryz.info180x;obtain⟨D,Y,h1,K,h3⟩:=hS.map;have bK:Maps.size D≤n:=Y.size_le;have bL:=hS.lt;have HS:=hid hS;have H1:=(show Hid _ from h1);have H2:=(show Hid _ from K);have H3:=(show Hid _ from h3);have HD:=hid Y;have HG:=hid hG;have bM:=hid aD;clear hS h1 K h3 hG aD;go_enter Tryz.func77,Tryz.ntmps77;go_wp2_with (first
  | (at_len;refine wpList_len_own _ rfl _ 175 rfl 178 115 Tryz.underlying175 X9 B n D rfl Y ?_)
  | (at_make;refine wpList_make_own _ rfl _ _ 173 rfl w.heap.size 180 i0 _ 4 Tryz.underlying173 hi aE aF .i64 .i64 _ (Maps.size D) rfl rfl rfl (by rw[aG];omega) (by unfold maxLen;omega) (Nat.le_refl _) ?_;intro w1 aH M)
  | (at_range;refine wpList_range_own _ rfl _ 175 rfl 178 115 (Keyed.of_law A9v) Tryz.underlying175 X9 B n D rfl (Y.kept M Zs) ?_;intro w2 aj S bk))
 go_frame;obtain⟨r,hr⟩:=nm w1.heap.size;rw[←hr]at aj ⊢;have ac:Below w.heap.size w w1:=⟨M.os,M.tape,M.output,M.size,fun g d=>M.block g d Zs⟩;have ak:Below w1.heap.size w1 w2:=⟨S.os,S.tape,S.output,S.size,fun g d=>S.block g d Zs⟩;have okC:∀a:Cd,okS (sd a):=fun a=>by unfold okS sd;exact WalkArith.wf_i64 (by have:=a.1.isLt;omega)
 have aI:CdI w G k B r n D (Maps.has D) (Maps.size D) (Value.slice (some {block:=w.heap.size,off:=0}) 0 (Maps.size D)) (fun _=>A1c) [] w2:=by
  refine⟨aj,(A3.of_ownsRow aH (Nat.le_refl _)).other (fun g _ d=>ak.block g d),by simp[Value.ownBlock],fun a p=>(by cases p),List.nodup_nil,fun a=>?_,fun _=>rfl,ac.trans (ak.mono ac.size),Zs,by rw[hr];exact ac.size⟩;constructor
  ·intro p;cases p
  ·rintro⟨N,hl⟩;rw[H2.out (sd a) (okC a)]at hl;exact absurd (by simpa using hl) N
 have bm:=(show Hid _ from aI);have bn:=hid okC;clear aI aj S bk aH M ac ak hr okC Y;go_loopw [5] (fun lv wr=>∃left cnt A L,CdI w G k B r n D left cnt lv A L wr) (fun _ wr=>wr.rangeLeft B r);case atStart=>exact⟨_,_,_,_,bm.out⟩
 case round=>
  obtain⟨left,cnt,A,L,hI⟩:=hrel;have c:=hid hI;have bo:=hI.rg;clear hI;go_wp2_with (at_next;refine wpList_next_ranges _ rfl _ rfl 178 (Keyed.of_law A9v) X9 vK id B4f (fun v y hv=>⟨v,rfl⟩) B r n D left cnt rfl bo ?_ ?_)
  ·intro bp aJ;obtain⟨g,o,C,bq⟩:∃g o C,u5=.slice (some ⟨g,o,none⟩) L.length C:=by
    rcases c.out.ls.2 with ⟨h,_⟩ | ⟨g,o,cap,cur,h,_⟩
    ·exact absurd (by rw[h];rfl) c.out.nn
    ·exact⟨g,o,cap,h⟩
   subst bq;have aK:L.length≤400:=by have:=c.out.cn;omega
   have br:=hid aJ;have cS:=A4i A (fun q=>D5 (G q) k) c.out.one (fun q=>S9 _ _) L L.length rfl O w.heap.size g o C wr c.out.ls;clear aJ bp;go_wp2_with fail;refine cS.mono ?_;rintro e w4 ⟨rfl,aL,aM,bs,aN⟩;have bt:=(show Hid _ from aL);have aO:=(show Hid _ from aM);have al:=(show Hid _ from aN);clear aL aM aN cS;go_wp2;go_ret;have F:=(c.out.ls.lt (g:=g) rfl).1;refine⟨_,A,L.mergeSort (leC fun q=>D5 (G q) k),rfl,?_,?_,?_,A7w _ L c.out.nd,?_,?_⟩
   ·refine⟨al.out.1.trans c.out.bl.os,al.out.2.1.trans c.out.bl.tape,al.out.2.2.trans c.out.bl.output,Nat.le_trans c.out.bl.size bs,fun j t=>?_⟩;rw[aO.out j (Nat.lt_of_lt_of_le t c.out.bl.size) O];exact c.out.bl.block j t
   ·rw[List.length_mergeSort];exact bt.out
   ·intro a p;rw[List.mem_mergeSort]at p;refine (c.out.ch a p).other (fun j t bu=>aO.out j bu (fun e=>?_));obtain⟨g',o',cap',ad,e',_,am,_⟩:∃g' o' cap' ad,Value.slice (some ⟨g,o,none⟩) L.length C=.slice (some ⟨g',o',none⟩) L.length cap'∧True∧wr.heap[g']?=some (.cells ad 180 (0,0))∧True:=by
     rcases c.out.ls.2 with ⟨h,_⟩ | ⟨g',o',cap',ad,h,_,am,_⟩
     ·simp at h
     ·exact⟨g',o',cap',ad,h,trivial,am,trivial⟩
    simp only[Value.slice.injEq,Option.some.injEq,Addr.mk.injEq,and_true,true_and]at e';obtain⟨⟨rfl,rfl⟩,rfl⟩:=e';exact (c.out.ch a p).tag Z am (e▸t)
   ·intro a;rw[List.mem_mergeSort,c.out.mem a];exact⟨fun h=>h.1,fun h=>⟨h,br.out _⟩⟩
   ·rw[List.length_mergeSort];exact aK
  ·intro q v kl yd yp l bv aP aQ hv an aR bw ap aS aq;have aT:yd=.held v:=by
    simp only[X9,id,Option.some.injEq,Prod.mk.injEq]at hv;exact hv.1.symm
   have ar:Maps.has D kl=true:=Maps.has_true_of_atKey an;obtain⟨s,T,rfl⟩:=H3.out kl ar;have bx:(q.n,q.b)=s:=by
    have:=(Keyed.of_law A9v).inj aP (B1f s T);simp only[vK,vS,Value.agg.injEq,Array.mk.injEq,List.cons.injEq,Value.int.injEq,Value.bool.injEq,true_and,and_true]at this;exact Prod.ext this.1 this.2
   subst bx;have aU:v=V (q.n,q.b):=by
    have h1:=an (.held A1c);rw[H1.out _ T,aT]at h1;simp only[DataW.held.injEq]at h1;exact h1.symm
   have ae:G (q.n,q.b)≠[]:=by
    have:=H2.out _ T;rw[ar]at this;intro h;rw[h]at this;cases this
   have f:=HG.out _ ae;simp only at f;obtain⟨a,p⟩:∃a:Cd,sd a=(q.n,q.b):=⟨(⟨q.n.toNat,O⟩,q.b),by unfold sd;simp;omega⟩;obtain⟨m,hm⟩:=nm ((G (q.n,q.b)).length);have au:=HS.out.own (q.n,q.b) T;obtain⟨ao,C,av⟩:∃ao C,V (q.n,q.b)=.slice ao m C:=by
    rcases au.2 with ⟨h,h0⟩ | ⟨g,o,cap,cur,h,_⟩
    ·exact absurd (List.eq_nil_of_length_eq_zero h0) ae
    ·exact⟨_,_,by rw[hm];exact h⟩
   rw[av]at aU;subst aU;have aV:∀j,j<w.heap.size→l.heap[j]?=w.heap[j]?:=fun j t=>by
    rw[ap.block j (Nat.lt_of_lt_of_le t c.out.bl.size) (fun e=>by have:=c.out.lw;simp at e;omega)];exact c.out.bl.block j t
   obtain⟨n3,bz⟩:=nm l.heap.size;have aW:∀W:World,(∀j,j<w.heap.size→W.heap[j]?=w.heap[j]?)→w.heap.size≤W.heap.size→RdA W ao (G (q.n,q.b)):=by
    intro W hW bA;right;rcases au.2 with ⟨h,h0⟩ | ⟨g,o,cap,cur,h,_,d,_,_,_,hc⟩
    ·exact absurd (List.eq_nil_of_length_eq_zero h0) ae
    ·rw[av]at h;simp only[Value.slice.injEq]at h;refine⟨g,o,h.1,Nat.lt_of_lt_of_le (lt_of_block d) bA,fun j t=>?_⟩;have K:=P4 (G (q.n,q.b)) j t;rw[Nat.mul_comm 2 j]at K;have aX:=(hW g (lt_of_block d)).trans d;exact⟨A1 aX (hc _ _ K.1),A1 aX (hc _ _ K.2)⟩
   have bB:=(show Hid _ from aW);have aY:=hid aV;have HM:=hid hm.symm;have aw:=hid aR;have aa:=hid ap;have bN:=hid aS;have bC:=hid aQ;have bD:Hid _:=aq;have aZ:w.heap.size≤l.heap.size:=by have:=c.out.bl.size;omega
   have bE:(Instr.entry (Value.pointer (some {block:=r,off:=0}))).run Tryz.prog l=.ok (.tuple #[.agg #[I J q.n,.bool q.b],.slice ao m C]) l:=aq;have bF:vK q=.agg #[I J q.n,.bool q.b]:=rfl;rw[bF];clear aW aV hm aR ap aS aq aP aQ hv an aT ar au av bD bz;go_wp2_with fail;obtain⟨w4,af⟩:=nm (l.alloc (Obj.cells #[I J q.n,Value.bool q.b] 178));have X:Below l.heap.size l w4:=by rw[af];exact (Below.refl _ _).alloc (Nat.le_refl _) _
   have ax:w4.heap[l.heap.size]?=some (.cells #[I J q.n,Value.bool q.b] 178 (0,0)):=by rw[af];exact heap_alloc_new l _
   rw[←af];clear af bE;refine (A6U (G (q.n,q.b)) m HM.out ao C k w4 (bB.out w4 (fun j t=>(X.block j (Nat.lt_of_lt_of_le t aZ)).trans (aY.out j t)) (Nat.le_trans aZ X.size))).mono ?_;rintro e E ⟨v',rfl,ay,ag,_⟩;obtain⟨P,Q,rfl⟩:=ag.form;have az:E.heap[l.heap.size]?=some (.cells #[I J q.n,Value.bool q.b] 178 (0,0)):=(ay.block _ (lt_of_block ax)).trans ax;have s0:=A1 az (i:=0) rfl;have s1:=A1 az (i:=1) rfl;have ba:Below l.heap.size l E:=X.trans (ay.mono X.size);have HF:Hid (A5t (G (q.n,q.b)) k=fq (D5 (G (sd a)) k)):=by rw[p];exact B3c _ _
   obtain⟨fv,aA⟩:=nm (A5t (G (q.n,q.b)) k);have bG:Hid (fv=fq (D5 (G (sd a)) k)):=aA.trans HF.out;rw[←aA];obtain⟨R,aB⟩:=nm ((A13 (G (q.n,q.b)) k).length);rw[←aB]at ag ⊢;have bb:=hid ag;have bH:=hid aB;have ah:A3 l w.heap.size 180 4 u5 L.length (L.flatMap (A1f A (fun q=>D5 (G q) k))):=c.out.ls.other (fun g d F=>aa.out.block g F (fun e=>(N6 c.out.rg c.out.ls).2 (by rw[d];exact e)));have aK:L.length+1≤400:=by have:=c.out.cn;omega
   have H:=hid ba;have bc:=hid X.size;clear aA aB ag az X ay ax ba HF;go_wp2_with (refine B6 _ rfl (.tmp 28) (.tmp 33) 173 rfl 180 i0 _ 4 48 Tryz.underlying173 hi aE aF aG rfl Z w.heap.size u5 L.length (L.flatMap (A1f A (fun q=>D5 (G q) k))) rfl (ah.other (fun g _ d=>(Below.heap_alloc E _ g (Nat.lt_of_lt_of_le d H.out.size)).trans (H.out.block g d))) ⟨E.heap.size,0,none⟩ 1 [I J q.n,.bool q.b,.slice P R Q,.float .f64 fv] rfl rfl (A6N E _ _ _ _ _ rfl) (by intro u hu;simp at hu;rcases hu with rfl | rfl | rfl | rfl<;>rfl) (by unfold maxLen;omega) O (by have:=H.out.size;simp;omega) ?_;intro g' o' cap' w7 bI ab);have bd:∀j,j<E.heap.size→u5.ownBlock≠some j→w7.heap[j]?=E.heap[j]?:=fun j t N=>(ab.other j Zo N).trans (Below.heap_alloc E _ j t);have bO:=H.out.size;have ai:∀j,j<l.heap.size→u5.ownBlock≠some j→w7.heap[j]?=l.heap[j]?:=fun j t N=>(bd j O N).trans (H.out.block j t);have bP:E.heap.size+1≤w7.heap.size:=by have:=ab.size;simp at this;exact this
   have be:∀g,u5.ownBlock=some g→w.heap.size≤g∧g<l.heap.size:=fun g d=>ah.lt d;have bf:=N6 aw.out ah;have bJ:=aw.out.lt;have bg:=A4n aw.out (ai B O bf.1) (ai r bJ bf.2);have aC:a∉L:=fun h=>by
    have:=((c.out.mem a).1 h).2;rw[p,bC.out]at this;cases this
   have bh:∀b:Cd,sd b=sd a→b=a:=fun b h=>A44 b a (by rw[h]);have heq:∀b:Cd,b≠a→eqS (sd b) (q.n,q.b)=false:=fun b f=>by
    cases h:eqS (sd b) (q.n,q.b)
    ·rfl
    ·exact absurd (bh b (((S8 _ _).1 h).trans p.symm)) f
   have bi:∀b:Cd,b≠a→I0 eqS A (q.n,q.b) (.slice P R Q) (sd b)=A (sd b):=fun b f=>by unfold I0;rw[heq b f];rfl
   have bj:I0 eqS A (q.n,q.b) (.slice P R Q) (sd a)=.slice P R Q:=by unfold I0;rw[p,(S8 _ _).2 rfl];rfl
   refine⟨⟨fun z=>left z&&!z.sameKey (kS (q.n,q.b)),bv,I0 eqS A (q.n,q.b) (.slice P R Q),L++[a],bg,?_,by simp[Value.ownBlock],?_,?_,?_,?_,?_,?_,c.out.lw⟩,?_⟩
   ·rw[List.flatMap_append,A7A A _ _ L (fun b f=>bi b (fun e=>aC (e▸f))),List.length_append];have e1:([a]:List Cd).flatMap (A1f (I0 eqS A (q.n,q.b) (.slice P R Q)) fun q=>D5 (G q) k)=[I J q.n,.bool q.b,.slice P R Q,.float .f64 fv]:=by
     have e2:((a.1.val:Int),a.2)=(q.n,q.b):=p;simp only[Prod.mk.injEq]at e2;simp only[List.flatMap_cons,List.flatMap_nil,List.append_nil,A1f,bj,bG.out,e2.1,e2.2]
    rw[e1];exact bI
   ·intro b f;rcases List.mem_append.1 f with f | f
    ·have N:b≠a:=fun e=>aC (e▸f);rw[bi b N];have h1:=c.out.ch b f;have h3:A3 l w.heap.size 119 2 (A (sd b)) (A13 (G (sd b)) k).length (A9 (A13 (G (sd b)) k)):=h1.other (fun g d F=>aa.out.block g F (fun e=>(N6 c.out.rg h1).2 (by rw[d];exact e)));exact h3.other (fun g d F=>ai g F (h3.apart ah Z d))
    ·simp at f;subst f;rw[bj,p,←bH.out];refine (bb.out.other (fun g d F=>bd g F (fun e=>?_))).low (by have:=bc.out;omega);have h1:=(bb.out.lt d).1;have K:=(be g e).2;have:=bc.out;omega
   ·rw[List.nodup_append];refine⟨c.out.nd,Zs,fun x hx y hy=>?_⟩;simp at hy;subst hy;exact fun e=>aC (e▸hx)
   ·intro b;by_cases f:b=a
    ·subst f;constructor
     ·intro _;refine⟨by rw[p];exact ae,?_⟩;rw[p,WideAt.sameKey_self ((Keyed.of_law A9v).key (B1f _ T))];simp
     ·intro _;simp
    ·have h1:(kS (sd b)).sameKey (kS (q.n,q.b))=false:=Maps.sameKey_ne (fun e=>f (bh b ((B0a _ _ (bn.out b) T e).trans p.symm)));rw[h1];simp only[Bool.not_false,Bool.and_true,List.mem_append,List.mem_singleton,f,or_false];exact c.out.mem b
   ·intro s;unfold I0;split
    ·rfl
    ·exact c.out.one s
   ·refine⟨?_,?_,?_,O,fun g d=>?_⟩
    ·exact ab.os.trans (H.out.os.trans (aa.out.os.trans c.out.bl.os))
    ·exact ab.tape.trans (H.out.tape.trans (aa.out.tape.trans c.out.bl.tape))
    ·exact ab.output.trans (H.out.output.trans (aa.out.output.trans c.out.bl.output))
    ·rw[ai g O (fun e=>by have:=(be g e).1;omega)];exact aY.out g d
   ·have:=c.out.cn;simp only[List.length_append,List.length_singleton];omega
   ·rw[bg.left_eq,c.out.rg.left_eq];exact bw
theorem A9O (k:Int)(w:World) :
 Calls Tryz.prog 77 #[.map none,I J k] w fun e w'=>∃n p,e=.returned (.slice n 0 p)∧Below w.heap.size w w':=by
 obtain⟨i0,hi,q,r,y⟩:=info_parts Tryz.info180x;have z:∀(W:World) (ty:TypeId),(Builtin.len_ #[175] ty #[.map none]).run Tryz.prog W=.ok (I J 0) W:=fun W ty=>Maps.len_nil Tryz.underlying175 ty;have A:∀W:World,(Instr.range 175 (.map none)).run Tryz.prog W=.ok (.pointer (some ⟨W.heap.size,0,none⟩)) (W.alloc (.mapIter none 0 #[] 0)):=fun W=>run_range_nilMap W 175 178 115 Tryz.underlying175;have B:∀(W:World) (ty:TypeId),(Instr.next (.pointer (some ⟨W.heap.size,0,none⟩)) false ty).run Tryz.prog (W.alloc (.mapIter none 0 #[] 0))=.ok (.tuple #[.bool false]) (W.alloc (.mapIter none 0 #[] 0)):=fun W ty=>run_next_nilMap W ty 0 0 #[];go_enter Tryz.func77,Tryz.ntmps77;go_wp2_with (at_make;refine wpList_make_own _ rfl _ _ 173 rfl w.heap.size 180 i0 _ 4 Tryz.underlying173 hi q r .i64 .i64 _ 0 rfl rfl rfl O (by unfold maxLen;omega) (Nat.le_refl _) ?_;intro w1 f a);have s:Hd (A3 w1 w.heap.size 180 4 (.slice (some ⟨w.heap.size,0,none⟩) 0 0) 0 []):=A3.of_ownsRow f (Nat.le_refl _);have h:Hd (Below w.heap.size w w1):=⟨a.os,a.tape,a.output,a.size,fun g c=>a.block g c Zs⟩;clear f a;go_loopw [5] (fun t wr=>t=.slice (some ⟨w.heap.size,0,none⟩) 0 0∧wr=w1.alloc (.mapIter none 0 #[] 0)) (fun _ _=>0);case atStart=>exact⟨rfl,rfl⟩
 case round=>
  obtain⟨rfl,rfl⟩:=hrel;have hw:Below w1.heap.size w1 (w1.alloc (.mapIter none 0 #[] 0)):=(Below.refl _ _).alloc (Nat.le_refl _) _;have cS:=A4i (fun _=>A1c) (fun _=>0) (fun _=>rfl) (fun _=>O) [] 0 rfl O w.heap.size w.heap.size 0 0 (w1.alloc (.mapIter none 0 #[] 0)) (s.o.other (fun g _ c=>hw.block g c));go_wp2_with fail;refine cS.mono ?_;rintro e C ⟨rfl,_,i,u,l⟩;have v:=A4 i;have d:=A4 l;have x:Hd _:=hw;clear i l cS hw;go_wp2;go_ret;refine⟨_,_,rfl,?_⟩;have b:=h.o.trans (x.o.mono h.o.size);refine⟨d.o.1.trans b.os,d.o.2.1.trans b.tape,d.o.2.2.trans b.output,Nat.le_trans b.size u,fun j m=>?_⟩;rw[v.o j (Nat.lt_of_lt_of_le m b.size) O];exact b.block j m
end
section
open Go.RowKit
def c0 (L:List (Int×Int)):Int×Int:=L.getD 0 (0,0)
def c1 (L:List (Int×Int)):Int×Int:=L.getD (L.length-1) (0,0)
theorem B0r (C:List (Int×Int))(h:B3r C C.length):∀i,i<C.length→(C.getD 0 A0).1≤(C.getD i A0).1∧(C.getD 0 A0).2≤(C.getD i A0).2
 |0,_=>⟨Int.le_refl _,Int.le_refl _⟩
 |i+1,hi=>by
  have a:=B0r C h i O
  have h1:=h i hi
  unfold fol at h1
  omega
structure CdF (k:Nat)(R:List S2)(rb:ByteArray)(q:Int×Bool)(G:List (Int×Int))(r0 p0 r1 p1:Nat):Prop where
 q0:0≤q.1
 qi:q.1.toNat<R.length
 err:Q5 G k=0
 len:0<(N5 k G).length
 e0:c0 (N5 k G)=((r0:Int),(p0:Int))
 e1:c1 (N5 k G)=((r1:Int),(p1:Int))
 le0:r0≤r1
 le1:p0≤p1
 b0:r1+k≤rb.size
 b1:p1+k≤(R.getD q.1.toNat S0).b.size
 s0:O5 (nums (if q.2=true then J2 rb.data.toList else rb.data.toList)) r0 k=O5 (nums (R.getD q.1.toNat S0).b.data.toList) p0 k
 s1:O5 (nums (if q.2=true then J2 rb.data.toList else rb.data.toList)) r1 k=O5 (nums (R.getD q.1.toNat S0).b.data.toList) p1 k
 n0:∀m∈O5 (nums (R.getD q.1.toNat S0).b.data.toList) p0 k,m<4
 n1:∀m∈O5 (nums (R.getD q.1.toNat S0).b.data.toList) p1 k,m<4
 lo:4*(k:Int)≤chQ k G
 hi:chQ k G≤100000
theorem A1A (k W:Nat)(R:List S2)(rb:ByteArray)(q:Int×Bool)(i:1≤k)(j:k≤12)(l:1≤W)(m:∀x∈R,good x.b∧x.b.size≤4000)(n:good rb)(H:rb.size≤300)
 (d:(T9 k W R rb).2 q≠[])(hlen:((T9 k W R rb).2 q).length≤400):∃w y z A:Nat,CdF k R rb q ((T9 k W R rb).2 q) w y z A:=by
 have o:∀a∈(T9 k W R rb).2 q,A3n k W R rb q a:=fun a c=>A77 k W R rb q a c;generalize (T9 k W R rb).2 q=G at *;have p:∀x∈R,good x.b:=fun x f=>(m x f).1;have g:=fun a c=>(o a c).bounds i j l p n;have r:=fun a c=>(o a c).same i j l p n;obtain⟨B,hw,s,hm⟩:=A69 k G d;have t:c0 (N5 k G)∈N5 k G:=by unfold c0;rw[C8 _ _ _ s];exact List.getElem_mem _
 have u:c1 (N5 k G)∈N5 k G:=by unfold c1;rw[C8 _ _ _ O];exact List.getElem_mem _
 have b0:=g _ (hm _ t);have b1:=g _ (hm _ u);have s0:=r _ (hm _ t);have s1:=r _ (hm _ u);have v:q.1.toNat<R.length:=O;have K:=(m _ (T4 R _ v)).2;have hle:=B0r _ B ((N5 k G).length-1) O;have L:(c0 (N5 k G)).1≤(c1 (N5 k G)).1∧(c0 (N5 k G)).2≤(c1 (N5 k G)).2:=hle;have he:Q5 G k=0:=by
  unfold Q5;have C:G.length≠0:=fun h=>d (List.eq_nil_of_length_eq_zero h);have ho:G.any A0V=false:=by
   rw[Bool.eq_false_iff];intro h;rw[A3g]at h;apply h;intro x f;have M:=g x f;unfold okA;omega
  rw[if_neg O,if_neg O,if_neg C,ho];rfl
 have D:=A0N G d;have E:=(W7 (k:Int) O (canon G) (canon G).length (chM k G) (A0l _ _ D)).1;have F:=(A04 G k he).2.1;refine⟨(c0 (N5 k G)).1.toNat,(c0 (N5 k G)).2.toNat,(c1 (N5 k G)).1.toNat,(c1 (N5 k G)).2.toNat,?_⟩;exact {
  q0:=b0.1,qi:=v,err:=he,len:=s
  e0:=Prod.ext (by show _=(((c0 (N5 k G)).1.toNat:Nat):Int);omega) (by show _=(((c0 (N5 k G)).2.toNat:Nat):Int);omega)
  e1:=Prod.ext (by show _=(((c1 (N5 k G)).1.toNat:Nat):Int);omega) (by show _=(((c1 (N5 k G)).2.toNat:Nat):Int);omega)
  le0:=O,le1:=O,b0:=O,b1:=O
  s0:=s0.1,s1:=s1.1,n0:=s0.2,n1:=s1.2,lo:=E,hi:=F}
end
section
open Go.RowKit Go.Shelf Go.Lib Go.Sort Go.Maps
abbrev Ek:=Fin 16777216
def hk (a:Ek):Int:=(a.val:Int)
def A1d (V:Int→Value)(a:Ek):List Value:=[I J (hk a),V (hk a)]
def cfE (a b:Ek):Int:=F5 (hk a) (hk b)
theorem A7t (a b:Ek)(h:hk a=hk b):a=b:=by
 unfold hk at h;exact Fin.ext O
theorem B1a (a:Ek):okI (hk a):=A3z (by unfold hk;omega) (by have:=a.isLt;unfold hk;omega)
theorem A4u (a b:Ek):ltOf cfE a b=true↔hk a<hk b:=by
 unfold ltOf cfE;rw[decide_eq_true_eq];rcases A1s (hk a) (hk b) with⟨h,e⟩|⟨h,e⟩|⟨h,e⟩<;>rw[e]<;>simp<;>omega
theorem A09 (a b:Ek):ltOf cfE a b=false↔¬hk a<hk b:=by
 rw[←A4u];simp
theorem B4b:SWO (ltOf cfE):={
 irrefl:=fun x=>by rw[A09];omega
 trans:=fun x y z h1 a=>by rw[A4u]at *;omega
 ntrans:=fun x y z h1 a=>by rw[A09]at *;omega}
def leE (x y:Ek):Bool:=!ltOf cfE y x
theorem A7L (L:List Ek)(f:L.Nodup):(L.mergeSort leE).Pairwise (fun a b=>hk a<hk b):=by
 have g:∀a b c:Ek,leE a b=true→leE b c=true→leE a c=true:=by
  intro a b c h1 d;simp only[leE,Bool.not_eq_true']at h1 d⊢;rw[A09]at *;omega
 have i:∀a b:Ek,(leE a b||leE b a)=true:=by
  intro a b;cases h:leE a b
  ·simp only[leE,Bool.not_eq_false']at h;rw[A4u]at h;simp only[Bool.false_or,leE,Bool.not_eq_true'];rw[A09];omega
  ·rfl
 have hs:=List.pairwise_mergeSort g i L;have j:(L.mergeSort leE).Nodup:=((List.mergeSort_perm L leE).nodup_iff).2 f;refine(hs.and j).imp ?_;intro a b k;obtain⟨h1,d⟩:=k;simp only[leE,Bool.not_eq_true']at h1;rw[A09]at h1;by_cases l:hk a<hk b
 ·exact l
 ·exact absurd (A7t a b O) d
theorem A8Y (a b:Int)(c d:Value)(w:World)(h1:c.oneCell'=true)(m:d.oneCell'=true) :
 Calls Tryz.prog 90 #[.agg #[I J a,c],.agg #[I J b,d]] w fun e w'=>e=.returned (I J (F5 a b))∧∃q os,w'=Sort.grow (w.drewN q) os:=by
 have h:=fun i=>AnyG.cmp_Compare_int Tryz.cmpInt a b i;change ∀i,Calls Tryz.prog 119 _ _ _ at h;rw[A0Q]at h;generalize F5 a b=z at *;obtain⟨f,g⟩:=A8 ((w.alloc (Obj.cells #[I J a,c] 160)).alloc (Obj.cells #[I J b,d] 160));have l:Hd (∃os,f=Sort.grow (w.drewN 0) os):=by
  refine⟨#[.cells #[I J a,c] 160]++#[.cells #[I J b,d] 160],?_⟩;rw[g,Sort.alloc_eq_grow,Sort.alloc_eq_grow,Sort.grow_grow];rfl
 have j:f.heap[w.heap.size]?=some (.cells #[I J a,c] 160 (0,0)):=by rw[g,Below.heap_alloc _ _ _ Zs];exact heap_alloc_new w _
 have k:f.heap[w.heap.size+1]?=some (.cells #[I J b,d] 160 (0,0)):=by
  have:=heap_alloc_new (w.alloc (Obj.cells #[I J a,c] 160)) (Obj.cells #[I J b,d] 160);have e1:(w.alloc (Obj.cells #[I J a,c] 160)).heap.size=w.heap.size+1:=Zs;rw[e1]at this;rw[g];exact this
 have f0:f.cell? ⟨w.heap.size,0,none⟩=some (I J a):=A1 j rfl;have f1:f.cell? ⟨w.heap.size+1,0,none⟩=some (I J b):=A1 k rfl;clear j k;go_enter Tryz.func90,Tryz.ntmps90;go_wp2_with fail;rw[←g];clear g;refine(h _).mono ?_;rintro e w1 ⟨rfl,rfl⟩;go_wp2;go_ret;exact⟨rfl,0,l.o⟩
theorem A9e (V:Int→Value)(c:∀a:Ek,(V (hk a)).oneCell'=true)(L:List Ek)(n:Nat)(b:L.length=n)(f:n≤100000)(base g o cap:Nat)(w:World)(i:A3 w base 160 2 (.slice (some ⟨g,o,none⟩) n cap) n (L.flatMap (A1d V))) :
 Calls Tryz.prog 89 #[.slice (some ⟨g,o,none⟩) n cap,.func (.func 90) #[] #[]] w fun e w'=>e=.returned (.tuple #[])∧A3 w' base 160 2 (.slice (some ⟨g,o,none⟩) n cap) n ((L.mergeSort leE).flatMap (A1d V))∧(∀j,j<w.heap.size→j≠g→w'.heap[j]?=w.heap[j]?)∧w.heap.size≤w'.heap.size∧w'.os=w.os∧w'.tape=w.tape∧w'.output=w.output:=by
 have l:∀args w,(callFunc 90 args).run Tryz.prog w=.ok (.enter 90 args) w:=Q4 Tryz.func90 U rfl;have hk:∀x,(A1d V x).length=2:=fun _=>rfl;have hH:=i.holdsK hk O b;have p:CmpLays Tryz.prog 90 #[] (A1d V) 2 cfE g o L.toArray.size w:=fun _ _ _ _ x y=>
  (A8Y (Mn.hk x) (Mn.hk y) (V (Mn.hk x)) (V (Mn.hk y)) _ (c _) (c _)).mono (fun e w' h=>⟨h.1,h.2⟩)
 have d:=AnyQ.slices_SortFunc_total Tryz.sortE 2 Tryz.isAgg160 Tryz.sizeOf160 (A1d V) hk (fun x v k=>by simp[A1d]at k;rcases k with rfl|rfl<;>first|rfl|exact c _) cfE B4b 90 #[] g o cap L.toArray w l p hH.1 hH.2 Zo (fun x y h1 f=>by
  rw[A09]at h1 f;exact A7t x y O)
 change Calls Tryz.prog 89 _ _ _ at d;have q:L.toArray.size=n:=by simpa using b
 rw[q]at d;refine d.mono ?_;rintro e w' ⟨rfl,m,os,rfl⟩;exact⟨rfl,i.sortedK hk O b (by rw[List.length_mergeSort];exact b)⟩
theorem B2M {v:Value}{n:Nat}{w:World}{base e size:Nat}{xs:List Value}(h:A3 w base e size v n xs):v.oneCell'=true:=by
 obtain⟨a,b,rfl⟩:=h.form;rfl
theorem A5f {α:Type}:∀(l m:List α),l.Nodup→(∀x∈l,x∈m)→l.length≤m.length
 |[],_,_,_=>Nat.zero_le _
 |a::t,m,b,hs=>by
  rw[List.nodup_cons]at b
  obtain⟨m1,m2,rfl⟩:=List.append_of_mem (hs a (List.mem_cons_self))
  have:=A5f t (m1++m2) b.2 (fun x c=>by
   have h:=hs x (List.mem_cons_of_mem _ c)
   simp only[List.mem_append,List.mem_cons]at h⊢
   rcases h with h|h|h
   ·exact Or.inl h
   ·subst h;exact absurd c b.1
   ·exact Or.inr h)
  simp only[List.length_append,List.length_cons]at this⊢
  omega
theorem B1y {P:Program}{w:World}{k:TypeId}{b n:Nat}{D:DataW Value}(K:Keyed P k)(h:w.ownsMap P k X9 b n D)(m:List Lit)(hm:∀l,Maps.has D l=true→l∈m):Maps.size D≤m.length:=by
 obtain⟨d,c,g⟩:=h.tidy K;obtain⟨es,clock,_,F,_,e⟩:=h;have hk:∀p∈d,WideAt.IsKeyLit p.1:=by
  intro p a;rw[c]at e;simp only[DataW.map.injEq]at e;rw[e]at a;have:=(WideShapes.sorted_perm _).mem_iff.1 a;obtain⟨key,i⟩:=Maps.fit_keys F p this;exact K.key i
 subst c;rw[Maps.size_eq,←List.length_map (f:=fun p:Lit×DataW Value=>p.1)];refine A5f _ _ (by unfold List.Nodup;rw[List.pairwise_map];exact g) (fun l j=>?_);obtain⟨p,a,rfl⟩:=List.mem_map.1 j;refine hm _ ?_;rw[Maps.has_eq,List.any_eq_true];exact⟨p,a,WideAt.sameKey_self (hk p a)⟩
end
section
open Go.RowKit
def RdH (w:World)(ao:Option Addr)(T:List W3):Prop:=T.length≠0→∃g o cur,ao=some ⟨g,o,none⟩∧w.heap[g]?=some (.cells cur 99 (0,0))∧∀j u,(A6 T)[j]?=some u→cur[o+j]?=some u
theorem RdH.of {w:World}{base b:Nat}{a:Option Addr}{T:List W3}(h:A3 w base 99 3 (.slice a T.length b) T.length (A6 T)):RdH w a T:=fun c=>by
 rcases h.2 with ⟨_,d⟩ | ⟨g,o,cap,cur,e,_,f,_,_,_,i⟩
 ·exact absurd d c
 ·simp only[Value.slice.injEq]at e
  exact⟨g,o,cur,e.1,f,i⟩
theorem RdH.kept {w w':World}{c:Option Addr}{T:List W3}(h:RdH w c T)(hk:WrK w w'):RdH w' c T:=fun d=>by
 obtain⟨g,o,cur,e,b,f⟩:=h d
 exact⟨g,o,cur,e,(hk g (fun cs a=>by rw[b]at a;simp at a) (fun cs a=>by rw[b]at a;simp at a) (lt_of_block b)).trans b,f⟩
theorem A9N (L:List W3)(g o:Nat)(cur:Array Value)(w:World)(a:w.heap[g]?=some (.cells cur 99 (0,0)))(c:∀j u,(A6 L)[j]?=some u→cur[o+j]?=some u)(j:Nat)(d:j<L.length) :
 w.cell? ⟨g,o+j*3,none⟩=some (I J L[j].h)∧w.cell? ⟨g,o+j*3+1,none⟩=some (I J L[j].p)∧w.cell? ⟨g,o+j*3+2,none⟩=some (.bool L[j].b):=by
 have:=J3 L j d;rw[Nat.mul_comm 3 j]at this;exact⟨A1 a (c _ _ this.1),A1 a (c _ _ this.2.1),A1 a (c _ _ this.2.2)⟩
theorem B1w (x:W3):(O3 x).length=4:=by unfold O3;rw[List.length_append,B2,B2]
theorem A0f:∀T:List W3,(T.flatMap O3).length=4*T.length
 | []=>rfl
 | x::t=>by rw[List.flatMap_cons,List.length_append,B1w,A0f t,List.length_cons];omega
theorem A8W (T:List W3)(n:Nat)(z:T.length=n)(A:Option Addr)(V:Nat)(L:List UInt8)(base B:Nat)(w:World)(h:WrP w base B L)(C:∀y∈T,0≤y.h∧y.h<100000∧0≤y.p∧y.p<100000)(D:RdH w A T)(ah:n≤100000)(hl:L.length+2+4*n≤1000000000) :
 Calls Tryz.prog 67 #[.pointer (some ⟨B,0,none⟩),.slice A n V] w fun e w'=>e=.returned (.tuple #[])∧I8 base B (L++A1M T) w w':=by
 have c1:=G8 n 2 L base B w h O O O;have t:=hid z;have X:=(show Hid _ from C);have Y:=hid D;clear h z C D;go_enter Tryz.func67,Tryz.ntmps67;go_wp2_with fail;refine c1.mono ?_;rintro e w1 ⟨rfl,E⟩;have aa:Hid _:=E;clear E c1;go_wp2;go_loopw [12] (fun i wr=>∃j:Nat,j≤n∧i=I J j∧I8 base B (L++B8 n 2++(T.take j).flatMap O3) w wr) (fun i _=>n - (RowKit.intOf i).toNat);case atStart=>exact⟨0,Nat.zero_le _,rfl,by simpa using aa.out⟩
 case round=>
  obtain⟨j,hj,rfl,F⟩:=hrel;have u:Hid _:=F;clear F;by_cases ai:j<n
  ·have G:j<T.length:=by have:=t.out;omega
   obtain⟨g,o,cur,rfl,H,c⟩:=(Y.out.kept u.out.kp) O;obtain⟨d0,d1,d2⟩:=A9N T g o cur wr H c j G;obtain⟨x,m⟩:=nm (T[j]);rw[←m]at d0 d1 d2;have K:=X.out x (by rw[m];exact List.getElem_mem _);have ab:Hid ((T.take (j+1)).flatMap O3=(T.take j).flatMap O3++O3 x):=by
    show _=_;rw[List.take_add_one,List.getElem?_eq_getElem G,List.flatMap_append,m];simp
   obtain⟨M,q⟩:=nm (L++B8 n 2++(T.take j).flatMap O3);have aj:M.length≤L.length+2+4*j:=by
    rw[q,List.length_append,List.length_append,B2,A0f,List.length_take];omega
   have HM:=hid q;have ac:Hid (I8 base B M w wr):=by rw[q];exact u.out
   obtain⟨k,r⟩:=nm (wr.alloc (Obj.cells #[I J x.h,I J x.p,.bool x.b] 99));have N:Below wr.heap.size wr k:=by rw[r];exact (Below.refl _ _).alloc (Nat.le_refl _) _
   have d:k.heap[wr.heap.size]?=some (.cells #[I J x.h,I J x.p,.bool x.b] 99 (0,0)):=by rw[r];exact heap_alloc_new wr _
   have v:=ac.out.more N;have P:∀{w':World},WrK k w'→w'.heap[wr.heap.size]?=some (.cells #[I J x.h,I J x.p,.bool x.b] 99 (0,0)):=fun h'=>(h' _ (fun cs c=>by rw[d]at c;simp at c) (fun cs c=>by rw[d]at c;simp at c) (lt_of_block d)).trans d;obtain⟨xs,s⟩:∃xs:Nat,x.h=xs:=⟨x.h.toNat,O⟩;obtain⟨f,a⟩:∃f:Nat,tw (x.p,x.b)=f:=⟨(tw (x.p,x.b)).toNat,by unfold tw;simp only;split<;>omega⟩;have ak:f≤1000000:=by unfold tw at a;simp only at a;split at a<;>omega
   have ad:Hid (O3 x=B8 xs 2++B8 f 2):=by
    show _=_;unfold O3;have e1:x.h.toNat=xs:=O;have e2:(2*x.p.toNat+if x.b=true then 1 else 0)=f:=by
     unfold tw at a;simp only at a;cases hb:x.b<;>rw[hb]at a<;>simp at a ⊢<;>omega
    rw[e1,e2]
   have c1:=G8 xs 2 M base B k v.wp O O O;have Q:=fun W=>A2r x.p x.b W K.2.2.1 K.2.2.2;rw[a]at Q;have q0:k.cell? ⟨wr.heap.size,0,none⟩=some (I J xs):=by rw[←s];exact A1 d rfl
   have R:=(show Hid _ from @P);have HA:Hid _:=v;clear P N d v m q a H c;go_wp2_with fail;rw[←s,←r,s];clear r d0 d1 d2 s;refine c1.mono ?_;rintro e w2 ⟨rfl,l⟩;have q1:w2.cell? ⟨wr.heap.size,1,none⟩=some (I J x.p):=A1 (R.out l.kp) rfl;have q2:w2.cell? ⟨wr.heap.size,2,none⟩=some (.bool x.b):=A1 (R.out l.kp) rfl;have c2:=G8 f 2 (M++B8 xs 2) base B w2 l.wp O O (by rw[List.length_append,B2];omega);have ae:Hid _:=l;clear l c1;go_wp2_with (go_at_call 91;refine (Q _).mono ?_;rintro e w' ⟨rfl,rfl⟩);refine c2.mono ?_;rintro e w3 ⟨rfl,S⟩;have af:Hid _:=HA.out.trans (ae.out.trans S);clear S c2;go_wp2;go_roundw;case rel=>
    refine⟨j+1,O,Zn,?_⟩;rw[ab.out,ad.out,←List.append_assoc,←HM.out,←List.append_assoc];exact af.out
   case measure=>simp[RowKit.intOf];omega
  ·have ag:j=n:=O;go_wp2;go_end0;refine⟨rfl,?_⟩;have:=u.out;rw[ag,show T.take n=T by rw[←t.out,List.take_length]]at this;unfold A1M;rw[←List.append_assoc,t.out];exact this
end
section
open Go.RowKit Go.Shelf Go.Lib Go.Sort Go.Maps
theorem Tryz.info160x:(Tryz.prog.info? 160).map (fun i=>(i.zero,i.size,i.bytes))=some (some (.agg #[I J 0,.slice none 0 0]),2,32):=U
structure Ik where
 n:Int
def vIk (x:Ik):Value:=I J x.n
theorem B39 (key:Value)(kl:Lit)(h:keyOf Tryz.prog 3 key=some kl):∃x:Ik,key=vIk x:=by
 obtain⟨x,rfl,_⟩:=Maps.keyOf_int_inv Tryz.underlying3 h;exact⟨⟨x⟩,rfl⟩
structure EnI (w:World)(T:Int→List W3)(V:Int→Value)(Hb r n:Nat)(D:DataW Value)(left:Lit→Bool)(cnt:Nat)(lv:Value)(L:List Ek)(wr:World):Prop where
 rg:wr.ranges Tryz.prog 3 X9 Hb r n D left cnt
 ls:A3 wr w.heap.size 160 2 lv L.length (L.flatMap (A1d V))
 nn:lv.ownBlock≠none
 nd:L.Nodup
 mem:∀a,a∈L↔(T (hk a)≠[]∧left (kI (hk a))=false)
 bl:Below w.heap.size w wr
 cn:L.length+cnt≤Maps.size D
 lw:w.heap.size≤r
def EnP (T:Int→List W3)(V:Int→Value)(m:Nat)(w:World)(e:Ending)(w':World):Prop:=
 ∃(v:Value) (E:List Ek),e=.returned v∧Below w.heap.size w w'∧A3 w' w.heap.size 160 2 v E.length (E.flatMap (A1d V))∧E.Pairwise (fun a b=>hk a<hk b)∧(∀a,a∈E↔T (hk a)≠[])∧E.length=m∧E.length≤4000
theorem A7P (W:World)(a b:Value)(s:Nat)(hs:s=W.heap.size):∀j u,([a,b]:List Value)[j]?=some u→(W.alloc (.cells #[a,b] 160)).cell? ((⟨s,0,none⟩:Addr).add j)=some u:=by
 intro j u hj;subst hs;have h:=heap_alloc_new W (.cells #[a,b] 160);rw[Addr.add_lit,cell_of_row _ _ _ _ _ _ h];match j,hj with
 | 0,hj=>simpa using hj
 | 1,hj=>simpa using hj
theorem A6K (T:Int→List W3)(V:Int→Value)(D:DataW Value)(X Hb base k W sc:Nat)(rv:Value)(w:World)(hX:w.heap[X]?=some (.cells (ixC k W sc rv (.map (some Hb))) 147 (0,0)))
 (hD:w.ownsMap Tryz.prog 3 X9 Hb 4000 D)(h1:∀x,okI x→D.atKey (kI x) (.held A1c)=.held (V x))(h2:∀x,okI x→Maps.has D (kI x)=!(T x).isEmpty)(h3:∀l,Maps.has D l=true→∃x,okI x∧l=kI x)
 (hV:∀x,okI x→A3 w base 99 3 (V x) (T x).length (A6 (T x)))(hT:∀x,T x≠[]→0≤x∧x<16777216) :
 Calls Tryz.prog 66 #[.pointer (some ⟨X,0,none⟩)] w fun e w'=>EnP T V (Maps.size D) w e w':=by
 obtain⟨i0,hi,hz0,hz1,hz2⟩:=info_parts Tryz.info160x;have hDl:Maps.size D≤4000:=hD.size_le;have hHb:=hD.lt;have H1:=(show Hid _ from h1);have H2:=(show Hid _ from h2);have H3:=(show Hid _ from h3);have HV:=(show Hid _ from hV);have HVO:Hid (∀a:Ek,(V (hk a)).oneCell'=true):=fun a=>B2M (hV _ (B1a a));have HT:=(show Hid _ from hT);have HD:=hid hD;have HX:Hid _:=hX;have hXl:=lt_of_block hX;have c4:w.cell? ⟨X,4,none⟩=some (.map (some Hb)):=A1 hX rfl;clear h1 h2 h3 hV hT hX;go_enter Tryz.func66,Tryz.ntmps66;go_wp2_with (first
  | (at_len;refine wpList_len_own _ rfl _ 145 rfl 3 102 Tryz.underlying145 X9 Hb 4000 D rfl hD ?_)
  | (at_make;refine wpList_make_own _ rfl _ _ 157 rfl w.heap.size 160 i0 _ 2 Tryz.underlying157 hi hz0 hz1 .i64 .i64 _ (Maps.size D) rfl rfl rfl (by rw[hz2];omega) (by unfold maxLen;omega) (Nat.le_refl _) ?_;intro w1 hown1 hgr1;have c4':w1.cell? ⟨X,4,none⟩=some (.map (some Hb)):=A1 ((hgr1.block X hXl Zs).trans HX.out) rfl)
  | (at_range;refine wpList_range_own _ rfl _ 145 rfl 3 102 A4O Tryz.underlying145 X9 Hb 4000 D rfl (hD.kept hgr1 Zs) ?_;intro w2 hrg2 hgr2 hs2))
 go_frame;obtain⟨r,hr⟩:=nm w1.heap.size;rw[←hr]at hrg2 ⊢;have hb1:Below w.heap.size w w1:=⟨hgr1.os,hgr1.tape,hgr1.output,hgr1.size,fun g hg=>hgr1.block g hg Zs⟩;have hb12:Below w1.heap.size w1 w2:=⟨hgr2.os,hgr2.tape,hgr2.output,hgr2.size,fun g hg=>hgr2.block g hg Zs⟩;have hI0:EnI w T V Hb r 4000 D (Maps.has D) (Maps.size D) (Value.slice (some {block:=w.heap.size,off:=0}) 0 (Maps.size D)) [] w2:=by
  refine⟨hrg2,(A3.of_ownsRow hown1 (Nat.le_refl _)).other (fun g _ hg=>hb12.block g hg),by simp[Value.ownBlock],List.nodup_nil,fun a=>?_,hb1.trans (hb12.mono hb1.size),Zs,by rw[hr];exact hb1.size⟩;constructor
  ·intro ha;cases ha
  ·rintro⟨hne,hl⟩;rw[H2.out (hk a) (B1a a)]at hl;exact absurd (by simpa using hl) hne
 have HI0:=(show Hid _ from hI0);clear hI0 hrg2 hgr2 hs2 hown1 hgr1 hb1 hb12 hr hD c4 c4';go_loopw [3] (fun lv wr=>∃left cnt L,EnI w T V Hb r 4000 D left cnt lv L wr) (fun _ wr=>wr.rangeLeft Hb r);case atStart=>exact⟨_,_,_,HI0.out⟩
 case round=>
  obtain⟨left,cnt,L,hI⟩:=hrel;have HI:=hid hI;have hrg:=hI.rg;clear hI;go_wp2_with (at_next;refine wpList_next_ranges _ rfl _ rfl 3 A4O X9 vIk id B39 (fun v y hv=>⟨v,rfl⟩) Hb r 4000 D left cnt rfl hrg ?_ ?_)
  ·intro hc0 hl0;obtain⟨g,o,cp,hu5⟩:∃g o cp,u3=.slice (some ⟨g,o,none⟩) L.length cp:=by
    rcases HI.out.ls.2 with ⟨h,_⟩ | ⟨g,o,cap,cur,h,_⟩
    ·exact absurd (by rw[h];rfl) HI.out.nn
    ·exact⟨g,o,cap,h⟩
   subst hu5;have hLl:L.length≤4000:=by have:=HI.out.cn;omega
   have HL0:=hid hl0;have cS:=A9e V HVO.out L L.length rfl O w.heap.size g o cp wr HI.out.ls;clear hl0 hc0;go_wp2_with fail;refine cS.mono ?_;rintro e w4 ⟨rfl,hown4,hfr4,hs4,ho4⟩;have HO4:=(show Hid _ from hown4);have HF4:=(show Hid _ from hfr4);have HS4:=(show Hid _ from ho4);clear hown4 hfr4 ho4 cS;go_wp2;go_ret;have hgl:=(HI.out.ls.lt (g:=g) rfl).1;refine⟨_,L.mergeSort leE,rfl,?_,?_,A7L L HI.out.nd,?_,?_,?_⟩
   ·refine⟨HS4.out.1.trans HI.out.bl.os,HS4.out.2.1.trans HI.out.bl.tape,HS4.out.2.2.trans HI.out.bl.output,Nat.le_trans HI.out.bl.size hs4,fun j hj=>?_⟩;rw[HF4.out j (Nat.lt_of_lt_of_le hj HI.out.bl.size) O];exact HI.out.bl.block j hj
   ·rw[List.length_mergeSort];exact HO4.out
   ·intro a;rw[List.mem_mergeSort,HI.out.mem a];exact⟨fun h=>h.1,fun h=>⟨h,HL0.out _⟩⟩
   ·rw[List.length_mergeSort];have h1:=B1y A4O HD.out (L.map (fun a=>kI (hk a))) (fun l hl=>by
     obtain⟨x,hx,rfl⟩:=H3.out l hl;have hne:T x≠[]:=by
      have:=H2.out x hx;rw[hl]at this;intro h;rw[h]at this;cases this
     have hb:=HT.out x hne;have ea:hk (⟨x.toNat,O⟩:Ek)=x:=by unfold hk;simp;omega
     rw[List.mem_map];exact⟨⟨x.toNat,O⟩,(HI.out.mem _).2 ⟨by rw[ea];exact hne,HL0.out _⟩,by rw[ea]⟩)
    rw[List.length_map]at h1;have:=HI.out.cn;omega
   ·rw[List.length_mergeSort];exact hLl
  ·intro q v kl yd yp w3 cnt3 hkey hlk hv hat hrg3 hlt hg3 hs3 hen;have A4:yd=.held v:=by
    simp only[X9,id,Option.some.injEq,Prod.mk.injEq]at hv;exact hv.1.symm
   have hhas:Maps.has D kl=true:=Maps.has_true_of_atKey hat;obtain⟨x,hox,rfl⟩:=H3.out kl hhas;have hqx:q.n=x:=by
    have:=A4O.inj hkey (A81 x hox);simpa[vIk] using this
   have hvV:v=V x:=by
    have h1:=hat (.held A1c);rw[H1.out _ hox,A4]at h1;simp only[DataW.held.injEq]at h1;exact h1.symm
   have hTne:T x≠[]:=by
    have:=H2.out _ hox;rw[hhas]at this;intro h;rw[h]at this;cases this
   have hb:=HT.out _ hTne;obtain⟨a,ha⟩:∃a:Ek,hk a=x:=⟨⟨x.toNat,O⟩,by unfold hk;simp;omega⟩;obtain⟨ao,cp,hvs⟩:=(HV.out x hox).form;obtain⟨m,hm⟩:=nm ((T x).length);rw[←hm]at hvs;have HVS:=hid hvs;rw[hvs]at hvV;subst hvV;have hvq:vIk q=I J x:=by rw[←hqx];rfl
   rw[hvq]at hen ⊢;have HRG3:=hid hrg3;have HG3:=(show Hid _ from hg3);have HLK:=hid hlk;have hws:w.heap.size≤w3.heap.size:=by rw[hs3];exact HI.out.bl.size
   have HLT:=hid hlt;have hu5w:A3 w3 w.heap.size 160 2 u3 L.length (L.flatMap (A1d V)):=HI.out.ls.other (fun g hg hgl=>HG3.out.block g hgl (fun e=>(N6 HI.out.rg HI.out.ls).2 (by rw[hg];exact e)));have hLl:L.length+1≤4000:=by have:=HI.out.cn;omega
   clear hrg3 hg3 hs3 hkey hlk hv hat A4 hhas hvs hvq hlt hm;go_wp2_with (at_builtin;refine B6 _ rfl (.tmp 22) (.tmp 26) 157 rfl 160 i0 _ 2 32 Tryz.underlying157 hi hz0 hz1 hz2 rfl Z w.heap.size u3 L.length (L.flatMap (A1d V)) rfl (hu5w.other (fun g _ hg=>Below.heap_alloc w3 _ g hg)) ⟨w3.heap.size,0,none⟩ 1 [I J x,.slice ao m cp] rfl rfl (A7P w3 _ _ _ rfl) (by intro u hu;simp at hu;rcases hu with rfl | rfl<;>rfl) (by unfold maxLen;omega) O Zo ?_;intro g' o' cap' w7 hown7 hfr7);have hk7:∀j,j<w3.heap.size→u3.ownBlock≠some j→w7.heap[j]?=w3.heap[j]?:=fun j hj hne=>(hfr7.other j Zo hne).trans (Below.heap_alloc w3 _ j hj);have hs7:w3.heap.size+1≤w7.heap.size:=by have:=hfr7.size;simp at this;exact this
   have hubl:∀g,u3.ownBlock=some g→w.heap.size≤g∧g<w3.heap.size:=fun g hg=>hu5w.lt hg;have hrb:=N6 HRG3.out hu5w;have hrlt:=HRG3.out.lt;have hrg7:=A4n HRG3.out (hk7 Hb O hrb.1) (hk7 r hrlt hrb.2);have haL:a∉L:=fun h=>by
    have:=((HI.out.mem a).1 h).2;rw[ha,HLK.out]at this;cases this
   refine⟨⟨fun z=>left z&&!z.sameKey (kI x),cnt3,L++[a],hrg7,?_,by simp[Value.ownBlock],?_,?_,?_,?_,HI.out.lw⟩,?_⟩
   ·rw[List.flatMap_append,List.length_append];have e1:([a]:List Ek).flatMap (A1d V)=[I J x,.slice ao m cp]:=by
     simp only[List.flatMap_cons,List.flatMap_nil,List.append_nil,A1d,ha,HVS.out]
    rw[e1];exact hown7
   ·rw[List.nodup_append];refine⟨HI.out.nd,Zs,fun y hy z hz=>?_⟩;simp at hz;subst hz;exact fun e=>haL (e▸hy)
   ·intro b;by_cases hb:b=a
    ·subst hb;constructor
     ·intro _;refine⟨by rw[ha];exact hTne,?_⟩;rw[ha,WideAt.sameKey_self (A4O.key (A81 _ hox))];simp
     ·intro _;simp
    ·have h1:(kI (hk b)).sameKey (kI x)=false:=Maps.sameKey_ne (fun e=>hb (A7t b a ((B1x _ _ (B1a b) hox e).trans ha.symm)));rw[h1];simp only[Bool.not_false,Bool.and_true,List.mem_append,List.mem_singleton,hb,or_false];exact HI.out.mem b
   ·refine⟨?_,?_,?_,O,fun g hg=>?_⟩
    ·exact hfr7.os.trans (HG3.out.os.trans HI.out.bl.os)
    ·exact hfr7.tape.trans (HG3.out.tape.trans HI.out.bl.tape)
    ·exact hfr7.output.trans (HG3.out.output.trans HI.out.bl.output)
    ·rw[hk7 g O (fun e=>by have:=(hubl g e).1;omega),HG3.out.block g (Nat.lt_of_lt_of_le hg HI.out.bl.size) (fun e=>by have:=HI.out.lw;simp at e;omega)];exact HI.out.bl.block g hg
   ·have:=HI.out.cn;have:=HLT.out;simp only[List.length_append,List.length_singleton];omega
   ·rw[hrg7.left_eq,HI.out.rg.left_eq];exact HLT.out
end
section
open Go.RowKit Go.Maps
theorem Z9 {α β:Type}(f:α→List β):∀(L:List α) (j:Nat),((L.take j).flatMap f).length≤(L.flatMap f).length
 | [],j=>Zs
 | x::t,0=>Zs
 | x::t,j+1=>by
  have:=Z9 f t j
  simp only[List.take_succ_cons,List.flatMap_cons,List.length_append]
  omega
theorem A8y (T:List W3):(A1M T).length=2+4*T.length:=by unfold A1M;rw[List.length_append,B2,A0f]
theorem A1Q (T:Int→List W3)(a:∀h,(T h).length≤4000):∀(H:List Int) (last:Int),(S3 T last H).length≤H.length*20000
 | [],_=>by simp[S3]
 | h::t,last=>by
  have:=A1Q T a t h
  have h1:=a h
  simp only[S3,List.length_append,B2,A8y,List.length_cons]
  omega
def SvP (R:List S2)(k W sc:Nat)(w:World)(e:Ending)(w':World):Prop:=
 ∃H,HsP (D6 k W R R.length) H∧e=.returned (.string ⟨(D3 k W sc R H).toArray⟩)∧Below w.heap.size w w'
theorem A3Z (E:List Int)(j:Nat)(a:j<E.length):(E.take (j+1)).getLastD 0=E[j]:=by
 have e:E.take (j+1)=E.take j++[E[j]]:=by rw[List.take_add_one,List.getElem?_eq_getElem a];rfl
 rw[e,List.getLastD_eq_getLast?,List.getLast?_concat];rfl
theorem A9t (T:Int→List W3)(E:List Int)(j:Nat)(a:j<E.length):S3 T 0 (E.take (j+1))=S3 T 0 (E.take j)++(B8 (E[j] - (E.take j).getLastD 0).toNat 3++A1M (T E[j])):=by
 rw[List.take_add_one,List.getElem?_eq_getElem a];exact A1U T (E.take j) 0 E[j]
theorem A11 {k W:Nat}(a:1≤k)(c:k≤12)(d:1≤W)(R:List S2)(f:∀x∈R,good x.b)(h:Int)(g:D6 k W R R.length h≠[]):0≤h∧h<16777216:=by
 obtain⟨z,j⟩:=List.exists_mem_of_ne_nil _ g;obtain⟨i,hi,y,l,rfl,_⟩:=A08 k W R R.length h z j;have:=A0n a c d (f _ (by rw[C8 _ _ _ hi];exact List.getElem_mem _)) l;exact⟨this.1,this.2.1⟩
theorem A4a {k W:Nat}(a:1≤k)(c:k≤12)(d:1≤W)(R:List S2)(f:∀x∈R,good x.b)(hs:C7 R R.length≤4000)(l:R.length<100000)(h:Int):∀y∈D6 k W R R.length h,0≤y.h∧y.h<100000∧0≤y.p∧y.p<100000:=by
 intro z g;obtain⟨i,hi,y,j,_,rfl⟩:=A08 k W R R.length h z g;have h1:=A0n a c d (f _ (by rw[C8 _ _ _ hi];exact List.getElem_mem _)) j;have m:=V7 R (i+1) R.length hi;have e:C7 R (i+1)=C7 R i+(R.getD i S0).b.size:=rfl;refine⟨by show (0:Int)≤(i:Nat);omega,by show ((i:Nat):Int)<100000;omega,h1.2.2.1,?_⟩;show y.p<100000;omega
theorem B2k (T:Int→List W3)(H:List Int)(hH:HsP T H)(a:∀h,T h≠[]→0≤h∧h<16777216)(j:Nat)(b:j<H.length):0≤(H.take j).getLastD 0∧(H.take j).getLastD 0≤H[j]∧H[j]<16777216:=by
 have h1:=a H[j] ((hH.2 _).1 (List.getElem_mem _));cases j with
 | zero=>simp;exact h1
 | succ i=>
  rw[A3Z H i O];have c:=a H[i] ((hH.2 _).1 (List.getElem_mem _));have:=List.pairwise_iff_getElem.1 hH.1 i (i+1) O b O;exact⟨c.1,O,h1.2⟩
theorem A6D (V:Int→Value)(E:List Ek)(g o:Nat)(cur:Array Value)(w:World)(a:w.heap[g]?=some (.cells cur 160 (0,0)))(b:∀j u,(E.flatMap (A1d V))[j]?=some u→cur[o+j]?=some u)(j:Nat)(c:j<E.length) :
 w.cell? ⟨g,o+j*2,none⟩=some (I J (hk E[j]))∧w.cell? ⟨g,o+j*2+1,none⟩=some (V (hk E[j])):=by
 have d:=A5m (enc:=A1d V) (k:=2) (fun _=>rfl) E j 0 c O;have h1:=A5m (enc:=A1d V) (k:=2) (fun _=>rfl) E j 1 c O;exact⟨A1 a (b _ _ (d.trans rfl)),A1 a (b _ _ (h1.trans rfl))⟩
theorem A6l (R:List S2)(base X k W sc:Nat)(w:World)(ap:1≤k)(aq:k≤12)(r:1≤W)(ac:W≤20)(bK:sc<18446744073709551616)(hR:∀x∈R,good x.b)(aT:R.length<100000)(aU:C7 R R.length≤4000)(aV:(D2 k W sc R).length≤500000000)(hI:IxP w base X R k W sc) :
 Calls Tryz.prog 29 #[.pointer (some ⟨X,0,none⟩)] w fun e w'=>SvP R k W sc w e w':=by
 obtain⟨rv,y,V,hX,hO,hT,_,_⟩:=hI;obtain⟨D,hD,h1,h2,h3⟩:=hT.map;obtain⟨T,ad⟩:=nm (D6 k W R R.length);have ar:=A4a ap aq r R hR aU aT;have au:=Y4 ap aq r R hR R.length (Nat.le_refl _);have av:=A11 ap aq r R hR;rw[←ad]at h2 ar au av;have aw:=hT.own;rw[←ad]at aw;have aW:=hid ad;obtain⟨n,hn⟩:=nm R.length;rw[←hn]at hO aT;have HN:=hid hn;have aX:=lt_of_block hX;have HX:Hid _:=hX;have HD:=hid hD;have H1:=(show Hid _ from h1);have H2:=(show Hid _ from h2);have H3:=(show Hid _ from h3);have HV:=(show Hid _ from aw);have bL:Hid _:=ar;have aY:=(show Hid _ from au);have ax:=(show Hid _ from av);have aZ:Hid _:=aV;have co:Maps.size D≤4000:=hD.size_le;obtain⟨P,cp,rfl⟩:=hO.form;have HO:=hid hO;have ba:=hD.lt;obtain⟨z,ae⟩:=nm (w.alloc (Obj.cells #[.slice none 0 0] 153));have ay:Below w.heap.size w z:=by rw[ae];exact (Below.refl _ _).alloc (Nat.le_refl _) _
 have af:z.heap[w.heap.size]?=some (.cells #[.slice none 0 0] 153 (0,0)):=by rw[ae];exact heap_alloc_new w _
 have bb:WrP z w.heap.size w.heap.size []:=⟨_,af,⟨by simp[Lib.byteCells],Or.inl ⟨rfl,rfl⟩⟩,Nat.le_refl _⟩;have az:=hid ay;have bc:∀{w':World},Below w.heap.size z w'→w'.heap[X]?=some (.cells (ixC k W sc (.slice P n cp) (.map (some y))) 147 (0,0)):=fun d=>(d.block X aX).trans ((ay.block X aX).trans HX.out);have A:=(show Hid _ from @bc);have c1:=A2i ⟨#[80,76,71,82]⟩ [] w.heap.size w.heap.size z bb Z;clear hX hO hT ad hn hD h1 h2 h3 aw ar au av aV af bb bc ay;go_enter Tryz.func29,Tryz.ntmps29;go_wp2_with fail;rw[←ae];clear ae;refine c1.mono ?_;rintro e w1 ⟨rfl,C⟩;have q0:w1.cell? ⟨X,0,none⟩=some (I J k):=A1 (A.out C.bl) (i:=0) rfl;have B:w1.cell? ⟨X,1,none⟩=some (I J W):=A1 (A.out C.bl) (i:=1) rfl;have q2:w1.cell? ⟨X,2,none⟩=some (.float .f64 sc):=A1 (A.out C.bl) (i:=2) rfl;have c2:=A4K k W sc J6 w.heap.size w.heap.size w1 C.wp O O bK Z;have bd:=hid C;clear C c1;go_wp2_with fail;refine c2.mono ?_;rintro e w2 ⟨rfl,ac⟩;have aA:=bd.out.trans ac;clear q0 B q2;have B:w2.cell? ⟨X,3,none⟩=some (.slice P n cp):=A1 (A.out aA.bl) (i:=3) rfl;have aB:(J5 k W sc).length=10:=by unfold J5;simp only[List.length_append,B2]
 have aC:(J6:List UInt8).length=4:=rfl;have c3:=G8 n 2 (J6++J5 k W sc) w.heap.size w.heap.size w2 ac.wp O O (by rw[List.length_append,aB,aC];omega);have be:=hid aA;clear ac aA c2 bd;go_wp2_with fail;refine c3.mono ?_;rintro e w3 ⟨rfl,bf⟩;have ag:=be.out.trans bf;clear B;have B:w3.cell? ⟨X,3,none⟩=some (.slice P n cp):=A1 (A.out ag.bl) (i:=3) rfl;obtain⟨h4,ah⟩:=nm (J6++J5 k W sc++B8 n 2);have bM:h4.length=16:=by rw[ah,List.length_append,List.length_append,aB,aC,B2]
 rw[←ah]at ag;have bg:Hid (D2 k W sc R=h4++R.flatMap D0):=by show _=_;rw[ah,HN.out];rfl
 have bh:=hid ag;have cq:(R.flatMap D0).length≤499999984:=by have:=aZ.out;rw[bg.out,List.length_append]at this;omega
 clear bf ag c3 be aB aC ah;have bi:n≠0→∃g o,P=some ⟨g,o,none⟩∧g<w.heap.size:=by
  intro h0;rcases HO.out.2 with ⟨_,d⟩ | ⟨g,o,cap,cur,h,_,Q,_⟩
  ·exact absurd d h0
  ·simp only[Value.slice.injEq]at h;exact⟨g,o,h.1,lt_of_block Q⟩
 have bj:Hid _:=bi;clear bi;go_wp2_with fail;go_loopw [27] (fun i wr=>∃j:Nat,j≤n∧i=I J j∧I8 w.heap.size w.heap.size (h4++(R.take j).flatMap D0) z wr) (fun i _=>n - (RowKit.intOf i).toNat);case atStart=>exact⟨0,Nat.zero_le _,rfl,by simpa using bh.out⟩
 case round=>
  obtain⟨j,hj,rfl,r⟩:=hrel;have ai:Hid _:=r;clear r;by_cases bN:j<n
  ·obtain⟨g,o,rfl,aj⟩:=bj.out O;have bk:j<R.length:=by have:=HN.out;omega
   have S:Below w.heap.size w wr:=az.out.trans ai.out.bl;have p:=(HO.out.other (w':=wr) (fun g' _ bO=>S.block g' bO)).seqs j bk;obtain⟨x,f⟩:=nm (R[j]);rw[←f]at p;obtain⟨d0,d1⟩:=p;have F:Hid ((R.take (j+1)).flatMap D0=(R.take j).flatMap D0++D0 x):=by
    show _=_;rw[List.take_add_one,List.getElem?_eq_getElem bk,List.flatMap_append,f];simp
   have bm:(D0 x).length=x.n.size+x.b.size+3:=by
    unfold D0;rw[List.length_append,List.length_append,List.length_append,B2,B2];show 1+x.n.size+2+x.b.size=_;omega
   have bn:=Z9 D0 R (j+1);rw[F.out,List.length_append,bm]at bn;have bo:Below wr.heap.size wr (wr.alloc (Obj.cells #[.string x.n,.string x.b] 88)):=(Below.refl _ _).alloc (Nat.le_refl _) _;have aD:=ai.out.more bo;have af:(wr.alloc (Obj.cells #[.string x.n,.string x.b] 88)).heap[wr.heap.size]?=some (.cells #[.string x.n,.string x.b] 88 (0,0)):=heap_alloc_new wr _;have c5:=A2W x _ w.heap.size w.heap.size _ aD.wp (by rw[List.length_append,bM];omega);have bp:Hid _:=aD;clear f aD bo bn bm af S;go_wp2_with fail;refine c5.mono ?_;rintro e w5 ⟨rfl,bq⟩;have bP:Hid _:=bp.out.trans bq;clear c5 bq bp;go_wp2;go_roundw;case rel=>
    refine⟨j+1,O,Zn,?_⟩;rw[F.out,←List.append_assoc];exact bP.out
   case measure=>simp[RowKit.intOf];omega
  ·have bQ:j=n:=O;subst bQ;have Y:Hid (I8 w.heap.size w.heap.size (D2 k W sc R) z wr):=by
    have:=ai.out;rw[HN.out,List.take_length,←bg.out]at this;exact this
   have S:Below w.heap.size w wr:=az.out.trans Y.out.bl;have q4:wr.cell? ⟨X,4,none⟩=some (.map (some y)):=A1 (A.out Y.out.bl) (i:=4) rfl;have br:wr.ownsMap Tryz.prog 3 X9 y 4000 D:=ownsMap_at HD.out (S.block y ba);have bR:=aZ.out;have c6:=G8 (Maps.size D) 2 (D2 k W sc R) w.heap.size w.heap.size wr Y.out.wp O O O;clear B ai bj bh;go_wp2_with (at_len;refine wpList_len_own _ rfl _ 145 rfl 3 102 Tryz.underlying145 X9 y 4000 D rfl br ?_);refine c6.mono ?_;rintro e w6 ⟨rfl,bs⟩;have ak:=Y.out.trans bs;have al:Below w.heap.size w w6:=az.out.trans ak.bl;have c7:=A6K T V D X y base k W sc (.slice P j cp) w6 (A.out ak.bl) (ownsMap_at HD.out (al.block y ba)) H1.out H2.out H3.out (fun x f=>(HV.out x f).other (fun g Q aj=>al.block g aj)) ax.out;have aE:=hid ak;clear bs ak c6 Y S br q4;go_wp2_with fail;refine c7.mono ?_;rintro e w7 ⟨ev,E,rfl,aF,hE,bt,aG,aH,bS⟩;obtain⟨eo,ec,rfl⟩:=hE.form;obtain⟨H,hH⟩:=nm (E.map hk);have bu:H.length=E.length:=by rw[hH,List.length_map]
   obtain⟨m,hm⟩:=nm E.length;have bv:HsP T H:=by
    refine⟨by rw[hH,List.pairwise_map];exact bt,fun h=>?_⟩;rw[hH,List.mem_map];constructor
    ·rintro⟨a,ha,rfl⟩;exact (aG a).1 ha
    ·intro bw;have hb:=ax.out h bw;have ea:hk (⟨h.toNat,O⟩:Ek)=h:=by unfold hk;simp;omega
     exact⟨⟨h.toNat,O⟩,(aG _).2 (by rw[ea];exact bw),ea⟩
   have bx:=hid bv;have bT:=hid hH;have aI:Hid (H.length=m):=bu.trans hm.symm;have bU:=hid hm.symm;rw[←hm]at hE aH bS ⊢;have bV:=hid aH;have HE:=hid hE;have aJ:Below w.heap.size w w7:=al.trans (aF.mono (by have:=aE.out.wp.lt;omega));obtain⟨hd,am⟩:=nm (D2 k W sc R++B8 (Maps.size D) 2);have cr:hd.length≤500000002:=by rw[am,List.length_append,B2];omega
   have bW:Hid (I8 w.heap.size w.heap.size hd w7 w7):=I8.refl (by rw[am];exact aE.out.wp.kept aF);have bX:=hid am;have bY:=hid aJ;have bZ:Hid (∀x,okI x→∃a c,V x=.slice a (T x).length c∧RdH w7 a (T x)):=by
    intro x f;obtain⟨a,c,hf⟩:=(HV.out x f).form;have d:=(HV.out x f).other (w':=w7) (fun g Q aj=>aJ.block g aj);rw[hf]at d;exact⟨a,c,hf,RdH.of d⟩
   clear hE bt aG aH bv hH bu hm c7 aE al aF aJ am bR;go_wp2_with fail;go_loopw [43,6] (fun i lv wr=>∃j:Nat,j≤m∧i=I J j∧lv=I J ((H.take j).getLastD 0)∧I8 w.heap.size w.heap.size (hd++S3 T 0 (H.take j)) w7 wr) (fun i _ _=>m - (RowKit.intOf i).toNat);case atStart=>exact⟨0,Nat.zero_le _,rfl,rfl,by simpa[S3] using bW.out⟩
   case round=>
    obtain⟨q,hq,rfl,rfl,r⟩:=hrel;have aK:Hid _:=r;clear r;by_cases bN:q<m
    ·have ca:q<E.length:=by have:=bU.out;omega
     have aL:q<H.length:=by have:=aI.out;omega
     obtain⟨g,o,cur,cb,aa,bz⟩:∃g o cur,eo=some ⟨g,o,none⟩∧w7.heap[g]?=some (.cells cur 160 (0,0))∧∀j u,(E.flatMap (A1d V))[j]?=some u→cur[o+j]?=some u:=by
      rcases HE.out.2 with ⟨_,d⟩ | ⟨g,o,cap,cur,h,_,Q,_,_,_,p⟩
      ·omega
      ·simp only[Value.slice.injEq]at h;exact⟨g,o,cur,h.1,Q,p⟩
     subst cb;have bA:wr.heap[g]?=some (.cells cur 160 (0,0)):=(aK.out.kp g (fun cs d=>by rw[aa]at d;simp at d) (fun cs d=>by rw[aa]at d;simp at d) (lt_of_block aa)).trans aa;obtain⟨d0,d1⟩:=A6D V E g o cur wr bA bz q ca;have eH:H[q]=hk E[q]:=by simp[bT.out]
     rw[←eH]at d0 d1;have aM:=B2k T H bx.out ax.out q aL;have F:=(show Hid _ from A9t T H q aL);have bB:=(show Hid _ from A3Z H q aL);obtain⟨x,f⟩:=nm (H[q]);obtain⟨l,hl⟩:=nm ((H.take q).getLastD 0);rw[←f]at d0 d1 aM F bB;rw[←hl]at aM F ⊢;have cc:okI x:=A3z O aM.2.2;obtain⟨G,K,aN,bC⟩:=bZ.out x cc;obtain⟨t,ht⟩:=nm ((T x).length);have cd:=aY.out x;rw[←ht]at aN cd;rw[aN]at d1;obtain⟨M,s⟩:=nm (hd++S3 T 0 (H.take q));have ct:M.length≤500000002+80000000:=by
      have h1:=A1Q T (fun h=>Nat.le_trans (aY.out h) aU) (H.take q) 0;rw[List.length_take]at h1;have h2:=Nat.mul_le_mul_right 20000 (show min q H.length≤4000 by omega);rw[s,List.length_append];omega
     have HM:=hid s;have ce:Hid (I8 w.heap.size w.heap.size M w7 wr):=by rw[s];exact aK.out
     obtain⟨wB,an⟩:=nm (wr.alloc (Obj.cells #[I J x,.slice G t K] 160));have bD:Below wr.heap.size wr wB:=by rw[an];exact (Below.refl _ _).alloc (Nat.le_refl _) _
     have L:wB.heap[wr.heap.size]?=some (.cells #[I J x,.slice G t K] 160 (0,0)):=by rw[an];exact heap_alloc_new wr _
     have aO:=ce.out.more bD;have bE:∀{w':World},WrK wB w'→w'.heap[wr.heap.size]?=some (.cells #[I J x,.slice G t K] 160 (0,0)):=fun d=>(d _ (fun cs p=>by rw[L]at p;simp at p) (fun cs p=>by rw[L]at p;simp at p) (lt_of_block L)).trans L;obtain⟨N,cu⟩:∃N:Nat,x - l=N:=⟨(x - l).toNat,O⟩;have cf:IntKind.i64.wrap (x - l)=N:=Zw;have c8:=G8 N 3 M w.heap.size w.heap.size wB aO.wp O O O;have q0:wB.cell? ⟨wr.heap.size,0,none⟩=some (I J x):=A1 L rfl;have bF:=(show Hid _ from @bE);have aP:Hid _:=aO;have cg:=hid bC;have ch:Hid ((T x).length=t):=ht.symm;have ci:Hid ((x - l).toNat=N):=by show _=_;omega
     clear bE bD L aO f hl ht s aN bA aa bz bC eH;go_wp2_with fail;rw[←an];clear an d0 d1 cf;refine c8.mono ?_;rintro e w8 ⟨rfl,ab⟩;have B:w8.cell? ⟨wr.heap.size,1,none⟩=some (.slice G t K):=A1 (bF.out ab.kp) rfl;have bG:=aP.out.trans ab;have c9:=A8W (T x) t ch.out G K (M++B8 N 3) w.heap.size w.heap.size w8 ab.wp (bL.out x) (cg.out.kept bG.kp) O (by rw[List.length_append,B2];omega);have bH:=hid ab;clear ab bG c8 q0;go_wp2_with fail;refine c9.mono ?_;rintro e w9 ⟨rfl,bI⟩;have aQ:=bH.out.trans bI;have q2:w9.cell? ⟨wr.heap.size,0,none⟩=some (I J x):=A1 (bF.out aQ.kp) rfl;have cj:Hid _:=aP.out.trans aQ;clear bI aQ c9 B bH aP;go_wp2_with fail;go_roundw;case rel=>
      refine⟨q+1,O,Zn,by rw[bB.out],?_⟩;rw[F.out,ci.out,←List.append_assoc,←List.append_assoc,←HM.out];exact cj.out
     case measure=>simp[RowKit.intOf];omega
    ·have ck:q=m:=O;obtain⟨M,s⟩:=nm (hd++S3 T 0 H);have aR:I8 w.heap.size w.heap.size M w7 wr:=by
      have:=aK.out;rw[ck,←aI.out,List.take_length,←s]at this;exact this
     have cl:Hid (M=D3 k W sc R H):=by
      show _=_;rw[s,bX.out,←bV.out,←aI.out,aW.out];rfl
     have cm:Hid (HsP (D6 k W R R.length) H):=by
      have:=bx.out;rw[aW.out]at this;exact this
     obtain⟨v,bJ,aS,_⟩:=aR.wp;have q0:wr.cell? ⟨w.heap.size,0,none⟩=some v:=A1 bJ rfl;obtain⟨G,K,rfl⟩:=A2P aS;have cv:=A3u rfl (w:=wr) (A3.of_ownsRow aS (Nat.le_refl _));have cn:Hid (Below w.heap.size w wr):=bY.out.trans aR.bl;clear bJ aS aR s;go_wp2_with fail;go_ret;exact⟨H,cm.out,by rw[cl.out];rfl,cn.out⟩
end
def NxI (last best:Int)(D:List (Int×W3)):Prop:=
 (best=-1∧∀p∈D,p.1≤last)∨(last<best∧0≤best∧(∃p∈D,p.1=best)∧∀p∈D,last<p.1→best≤p.1)
theorem NxI.nil (last:Int):NxI last (-1) []:=Or.inl ⟨rfl,fun p a=>by cases a⟩
theorem NxI.take {last b:Int}{D:List (Int×W3)}(h:NxI last b D)(p:Int×W3)(c:0≤p.1)(h1:last<p.1)(f:b<0∨p.1<b):NxI last p.1 (D++[p]):=by
 refine Or.inr ⟨h1,c,⟨p,Zs,rfl⟩,?_⟩;intro x a d;rcases List.mem_append.1 a with a|a
 ·rcases h with⟨_,h⟩|⟨g1,g2,g3,g4⟩
  ·have:=h x a;omega
  ·have:=g4 x a d;omega
 ·rw[List.mem_singleton]at a;subst a;omega
theorem NxI.leave {last b:Int}{D:List (Int×W3)}(h:NxI last b D)(p:Int×W3)(f:0≤p.1)(h1:¬(last<p.1∧(b<0∨p.1<b))):NxI last b (D++[p]):=by
 rcases h with⟨g0,h⟩|⟨g1,g2,⟨y,c,g3⟩,g4⟩
 ·refine Or.inl ⟨g0,fun x a=>?_⟩;rcases List.mem_append.1 a with a|a
  ·exact h x a
  ·rw[List.mem_singleton]at a;subst a;omega
 ·refine Or.inr ⟨g1,g2,⟨y,List.mem_append_left _ c,g3⟩,fun x a d=>?_⟩;rcases List.mem_append.1 a with a|a
  ·exact g4 x a d
  ·rw[List.mem_singleton]at a;subst a;omega
theorem B0e (L:List (Int×W3))(h:Int):P5 L h≠[]↔∃p∈L,p.1=h:=by
 unfold P5;constructor
 ·intro h1;cases c:L.filter fun p=>eqI h p.1 with
  |nil=>rw[c]at h1;exact absurd rfl h1
  |cons a t=>
   have b:a∈L.filter fun p=>eqI h p.1:=by rw[c];exact List.mem_cons_self
   obtain⟨d,f⟩:=List.mem_filter.1 b;exact⟨a,d,((P9 _ _).1 f).symm⟩
 ·rintro⟨p,g,rfl⟩ h1;have b:p∈L.filter fun q=>eqI p.1 q.1:=List.mem_filter.2 ⟨g,(P9 _ _).2 rfl⟩;rw[List.map_eq_nil_iff]at h1;rw[h1]at b;cases b
structure SvI (L:List (Int×W3))(A:List Int)(last:Int):Prop where
 pw:A.Pairwise (·<·)
 mem:∀h∈A,(∃p∈L,p.1=h)∧h≤last
 all:∀p∈L,p.1≤last→p.1∈A
 lst:last=A.getLastD (-1)
theorem SvI.nil (L:List (Int×W3))(a:∀p∈L,0≤p.1):SvI L [] (-1):=
 {pw:=List.Pairwise.nil,mem:=(fun h b=>absurd b List.not_mem_nil),all:=(fun p c h=>by have:=a p c;omega),lst:=rfl}
theorem SvI.more {L:List (Int×W3)}{A:List Int}{last d:Int}(h:SvI L A last)(i:NxI last d L)(f:0≤d):SvI L (A++[d]) d:=by
 rcases i with⟨l,_⟩|⟨g1,g2,g3,g4⟩
 ·omega
 ·refine⟨?_,?_,?_,?_⟩
  ·rw[List.pairwise_append];exact⟨h.pw,List.pairwise_singleton _ _,fun a j b f=>by rw[List.mem_singleton]at f;subst f;have:=(h.mem a j).2;omega⟩
  ·intro x c;rcases List.mem_append.1 c with c|c
   ·have:=h.mem x c;exact⟨this.1,O⟩
   ·rw[List.mem_singleton]at c;subst c;exact⟨g3,O⟩
  ·intro p g hle;by_cases k:p.1≤last
   ·exact List.mem_append_left _ (h.all p g k)
   ·have:=g4 p g O;have e:p.1=d:=O;rw[e];simp
  ·rw[List.getLastD_eq_getLast?,List.getLast?_concat];rfl
theorem SvI.done {L:List (Int×W3)}{A:List Int}{last a:Int}(h:SvI L A last)(c:NxI last a L)(f:a<0):HsP (P5 L) A:=by
 rcases c with⟨_,h1⟩|⟨g1,g2,_⟩
 ·refine⟨h.pw,fun x=>?_⟩;rw[B0e];constructor
  ·intro d;exact(h.mem x d).1
  ·rintro⟨p,b,rfl⟩;exact h.all p b (h1 p b)
 ·omega
theorem SvI.len {L:List (Int×W3)}{A:List Int}{last:Int}(h:SvI L A last):A.length≤L.length:=by
 have b:A.Nodup:=h.pw.imp (fun h=>O);have hs:∀x∈A,x∈L.map (·.1):=fun x c=>by
  obtain⟨⟨p,f,e⟩,_⟩:=h.mem x c;exact List.mem_map.2 ⟨p,f,e⟩
 have:∀(A B:List Int),A.Nodup→(∀x∈A,x∈B)→A.length≤B.length:=by
  intro A;induction A with
  |nil=>intro B _ _;exact Nat.zero_le _
  |cons a t g=>
   intro B b hs;rw[List.nodup_cons]at b;have d:=hs a List.mem_cons_self;have h1:=g (B.erase a) b.2 (fun x c=>by
    have i:=hs x (List.mem_cons_of_mem _ c);have j:x≠a:=fun e=>by rw[e]at c;exact b.1 c
    exact(List.mem_erase_of_ne j).2 i)
   have k:=List.length_erase_of_mem d;have l:=List.length_pos_of_mem d;simp only[List.length_cons];omega
 have h1:=this A (L.map (·.1)) b hs;rwa [List.length_map]at h1
theorem SvI.ge {L:List (Int×W3)}{A:List Int}{last:Int}(h:SvI L A last)(c:∀p∈L,0≤p.1∧p.1<16777216):-1≤last∧last<16777216∧A.getLastD 0=(if last<0 then 0 else last):=by
 have a:=h.lst;rcases List.eq_nil_or_concat A with e|⟨B,b,e⟩
 ·subst e;simp at a;subst a;exact⟨O,O,Zs⟩
 ·subst e;rw[List.concat_eq_append]at *;rw[List.getLastD_eq_getLast?,List.getLast?_concat]at a⊢;simp only[Option.getD_some]at a⊢;obtain⟨⟨p,d,e⟩,_⟩:=h.mem b Zs;have:=c p d;subst a;rw[if_neg O];exact⟨O,O,rfl⟩
def A2u (L:List (Int×W3))(last:Int):Nat:=(L.filter fun p=>decide (last<p.1)).length
theorem A0q (a:Int×W3)(t:List (Int×W3))(last:Int):A2u (a::t) last=(if last<a.1 then 1 else 0)+A2u t last:=by
 unfold A2u;rw[List.filter_cons];by_cases h:last<a.1
 ·rw[if_pos (by simpa using h),if_pos h,List.length_cons];omega
 ·rw[if_neg (by simpa using h),if_neg h];omega
theorem B1c (L:List (Int×W3)){last b:Int}(h:last<b):A2u L b≤A2u L last:=by
 induction L with
 |nil=>exact Nat.le_refl _
 |cons a t c=>
  rw[A0q,A0q];split<;>split<;>omega
theorem A53 {L:List (Int×W3)}{last c:Int}(d:NxI last c L)(f:0≤c):A2u L c<A2u L last:=by
 rcases d with⟨h,_⟩|⟨g1,g2,⟨p,b,rfl⟩,g4⟩
 ·omega
 ·clear g4 g2 f;induction L with
  |nil=>cases b
  |cons a t g=>
   have hle:=B1c t g1;rw[A0q,A0q];rcases List.mem_cons.1 b with e|b
   ·subst e;rw[if_neg O,if_pos g1];omega
   ·have:=g b;split<;>split<;>omega
end Mn
end Go.Proofs.YtilcmkiihefkkaaGreatDoor
