import Derived.Test.YtilcmkiihefkkaaGreatDoorJf28
import Derived.Test.YtilcmkiihefkkaaGreatDoorJf41
import Derived.Test.YtilcmkiihefkkaaGreatDoorJf42
set_option linter.unusedVariables false
set_option linter.unusedSimpArgs false
set_option maxRecDepth 1000000
set_option maxHeartbeats 64000000
open Go.Value renaming int→I
open Go.IntKind renaming i64→J
namespace Go.Proofs.YtilcmkiihefkkaaGreatDoor
namespace Mn
section
open Go.RowKit Go.Shelf Go.Lib Go.Sort Go.Maps
theorem Tryz.info180x:(Tryz.prog.info? 180).map (fun i=>(i.zero,i.size,i.bytes))=some (some (.agg #[I J 0,.bool false,.slice none 0 0,.float .f64 0]),4,48):=U
theorem B2N (key:Value)(g:Lit)(h:keyOf Tryz.prog 178 key=some g):∃x:Int×Bool,key=vS x:=by
 obtain⟨xs,L,rfl,d,_⟩:=keyOf_top B1R h;have i:Tryz.prog.cellsOf 178=2:=U;have j:Tryz.prog.cellsOf 3=1:=U;have k:Tryz.prog.cellsOf 4=1:=U;obtain⟨m,hm⟩:∃m,Tryz.prog.types.size+1=m+2:=⟨Tryz.prog.types.size - 1,by have h:(178:Nat)<Tryz.prog.types.size:=A8Z;omega⟩;rw[hm]at d;unfold Program.keyLits at d;rw[Tryz.underlying178]at d;simp only[i]at d;split at d
 ·rename_i hlen;match hx:xs.toList,hlen.1 with
  | [a,b],_=>
   rw[hx]at d;simp[j,k,Program.keyLits,Tryz.underlying3,Tryz.underlying4]at d;have l:∃n,a=I J n:=by
    cases a with
    | int q n=>
     by_cases f:q=IntKind.i64
     ·subst f;exact⟨n,rfl⟩
     ·simp[f]at d
    | _=>simp at d
   obtain⟨n,rfl⟩:=l;have o:∃c,b=.bool c:=by
    cases b with
    | bool c=>exact⟨c,rfl⟩
    | _=>by_cases hw:(Lit.int .i64 n).wf=true<;>simp[hw]at d
   obtain⟨c,rfl⟩:=o;refine⟨(n,c),?_⟩;have:xs=#[I J n,.bool c]:=by rw[←Array.toArray_toList (xs:=xs),hx]
   rw[this];rfl
 ·cases d
structure Sk where
 n:Int
 b:Bool
def vK (x:Sk):Value:=.agg #[I J x.n,.bool x.b]
theorem B2R (key:Value)(a:Lit)(h:keyOf Tryz.prog 178 key=some a):∃x:Sk,key=vK x:=by
 obtain⟨x,rfl⟩:=B2N key a h;exact⟨⟨x.1,x.2⟩,rfl⟩
def D0 (L:List (Int×Int))(k:Int):Int:=if O0 L k=0 then chQ k L else 0
theorem fq0:fq 0=0:=Z
theorem B12 (L:List (Int×Int))(k:Int):A49 L k=fq (D0 L k):=by unfold A49 D0;split;rfl;exact fq0.symm
theorem Q6 (L:List (Int×Int))(k:Int):0≤D0 L k∧D0 L k≤100000:=by
 unfold D0;split
 ·rename_i h;have:=A0Q L k h;exact⟨this.1,this.2.1⟩
 ·omega
structure CdI (w:World)(G:Int×Bool→List (Int×Int))(k:Int)(Gb r n:Nat)(D:DataW Value)(left:Lit→Bool)(cnt:Nat)(lv:Value)(Vc:Int×Bool→Value)(L:List Cd)(wr:World):Prop where
 rg:wr.ranges Tryz.prog 178 T8 Gb r n D left cnt
 ls:A3 wr w.heap.size 180 4 lv L.length (L.flatMap (A0U Vc (fun q=>D0 (G q) k)))
 nn:lv.ownBlock≠none
 ch:∀a∈L,A3 wr w.heap.size 119 2 (Vc (sd a)) (A1C (G (sd a)) k).length (A9 (A1C (G (sd a)) k))
 nd:L.Nodup
 mem:∀a,a∈L↔(G (sd a)≠[]∧left (kS (sd a))=false)
 one:∀q,(Vc q).oneCell'=true
 bl:Below w.heap.size w wr
 cn:L.length+cnt≤Maps.size D
 lw:w.heap.size≤r
def CaP (G:Int×Bool→List (Int×Int))(k:Int)(w:World)(e:Ending)(w':World):Prop:=
 ∃(v:Value) (Vc:Int×Bool→Value) (C:List Cd),e=.returned v∧Below w.heap.size w w'∧A3 w' w.heap.size 180 4 v C.length (C.flatMap (A0U Vc (fun q=>D0 (G q) k)))∧(∀a∈C,A3 w' w.heap.size 119 2 (Vc (sd a)) (A1C (G (sd a)) k).length (A9 (A1C (G (sd a)) k)))∧
  C.Pairwise (ltC (fun q=>D0 (G q) k))∧(∀a,a∈C↔G (sd a)≠[])∧C.length≤400
theorem A3X {P:Program}{K:TypeId}{R:Value→Option (DataW Value×List MemPlace)}{w w':World}{b r n:Nat}{D:DataW Value}{left:Lit→Bool}{cnt:Nat}(h:w.ranges P K R b r n D left cnt)(a:w'.heap[b]?=w.heap[b]?)(c:w'.heap[r]?=w.heap[r]?):w'.ranges P K R b r n D left cnt:=by
 obtain⟨es,clock,since,seen,c0,h1,F,d,f,g,rest⟩:=h;exact⟨es,clock,since,seen,c0,a.trans h1,F,d,f,c.trans g,rest⟩
theorem L9 {P:Program}{K:TypeId}{R:Value→Option (DataW Value×List MemPlace)}{w:World}{b r n:Nat}{D:DataW Value}{left:Lit→Bool}{cnt:Nat}(h:w.ranges P K R b r n D left cnt){base:Nat}{e:TypeId}{size:Nat}{v:Value}{m:Nat}{xs:List Value}(ho:A3 w base e size v m xs):v.ownBlock≠some b∧v.ownBlock≠some r:=by
 obtain⟨es,clock,since,seen,c0,h1,F,d,f,c,rest⟩:=h;obtain⟨_,ho⟩:=ho;rcases ho with ⟨rfl,_⟩ | ⟨g,o,cap,cur,rfl,_,a,_⟩
 ·simp[Value.ownBlock]
 ·simp only[Value.ownBlock,ne_eq,Option.some.injEq];constructor
  ·intro e;rw[e,h1]at a;cases a
  ·intro e;rw[e,c]at a;cases a
theorem A6N (W:World)(a b c d:Value)(s:Nat)(hs:s=W.heap.size):∀j u,([a,b,c,d]:List Value)[j]?=some u→(W.alloc (.cells #[a,b,c,d] 180)).cell? ((⟨s,0,none⟩:Addr).add j)=some u:=by
 intro j u f;subst hs;have h:=heap_alloc_new W (.cells #[a,b,c,d] 180);rw[Addr.add_lit,cell_of_row _ _ _ _ _ _ h];match j,f with
 | 0,f=>simpa using f
 | 1,f=>simpa using f
 | 2,f=>simpa using f
 | 3,f=>simpa using f
theorem A6G (b c:Int×Bool→Value)(Q:Int×Bool→Int)(L:List Cd)(h:∀a∈L,c (sd a)=b (sd a)):L.flatMap (A0U c Q)=L.flatMap (A0U b Q):=by
 induction L with
 | nil=>rfl
 | cons x t d=>
  rw[List.flatMap_cons,List.flatMap_cons,d (fun a f=>h a (List.mem_cons_of_mem _ f))];unfold A0U;rw[h x (List.mem_cons_self)]
theorem A6V (Q:Int×Bool→Int)(L:List Cd)(f:L.Nodup):(L.mergeSort (leC Q)).Pairwise (ltC Q):=by
 have g:∀a b c:Cd,leC Q a b=true→leC Q b c=true→leC Q a c=true:=by
  intro a b c h1 d;simp only[leC,Bool.not_eq_true']at h1 d ⊢;rw[A0P]at *;unfold ltC at *;omega
 have i:∀a b:Cd,(leC Q a b||leC Q b a)=true:=by
  intro a b;cases h:leC Q a b
  ·simp only[leC,Bool.not_eq_false']at h;rw[A36]at h;simp only[Bool.false_or,leC,Bool.not_eq_true'];rw[A0P];unfold ltC at *;omega
  ·rfl
 have hs:=List.pairwise_mergeSort g i L;have j:(L.mergeSort (leC Q)).Nodup:=((List.mergeSort_perm L (leC Q)).nodup_iff).2 f;refine (hs.and j).imp ?_;intro a b k;obtain⟨h1,d⟩:=k;simp only[leC,Bool.not_eq_true']at h1;rw[A0P]at h1;by_cases l:ltC Q a b
 ·exact l
 ·exfalso;apply d;apply A4k;unfold ltC at *;omega
theorem A6Z (G:Int×Bool→List (Int×Int))(V:Int×Bool→Value)(B base n:Nat)(k:Int)(w:World)(hS:SdP w base B n V G)(hn:n≤400)(hG:∀q,G q≠[]→0≤q.1∧q.1<100000)(aD:∀q,(G q).length≤400) :
 Calls Tryz.prog 77 #[.map (some B),I J k] w fun e w'=>CaP G k w e w':=by
 obtain⟨i0,hi,aE,aF,aG⟩:=info_parts Tryz.info180x;obtain⟨D,Y,h1,K,h3⟩:=hS.map;have bK:Maps.size D≤n:=Y.size_le;have bL:=hS.lt;have HS:=hid hS;have H1:=(show Hid _ from h1);have H2:=(show Hid _ from K);have H3:=(show Hid _ from h3);have HD:=hid Y;have HG:=hid hG;have bM:=hid aD;clear hS h1 K h3 hG aD;go_enter Tryz.func77,Tryz.ntmps77;go_wp2_with (first
  | (at_len;refine wpList_len_own _ rfl _ 175 rfl 178 115 Tryz.underlying175 T8 B n D rfl Y ?_)
  | (at_make;refine wpList_make_own _ rfl _ _ 173 rfl w.heap.size 180 i0 _ 4 Tryz.underlying173 hi aE aF .i64 .i64 _ (Maps.size D) rfl rfl rfl (by rw[aG];omega) (by unfold maxLen;omega) (Nat.le_refl _) ?_;intro w1 aH M)
  | (at_range;refine wpList_range_own _ rfl _ 175 rfl 178 115 (Keyed.of_law A7R) Tryz.underlying175 T8 B n D rfl (Y.kept M Zs) ?_;intro w2 aj S bk))
 go_frame;obtain⟨r,hr⟩:=nm w1.heap.size;rw[←hr]at aj ⊢;have ac:Below w.heap.size w w1:=⟨M.os,M.tape,M.output,M.size,fun g d=>M.block g d Zs⟩;have ak:Below w1.heap.size w1 w2:=⟨S.os,S.tape,S.output,S.size,fun g d=>S.block g d Zs⟩;have okC:∀a:Cd,okS (sd a):=fun a=>by unfold okS sd;exact WalkArith.wf_i64 (by have:=a.1.isLt;omega)
 have aI:CdI w G k B r n D (Maps.has D) (Maps.size D) (Value.slice (some {block:=w.heap.size,off:=0}) 0 (Maps.size D)) (fun _=>A0X) [] w2:=by
  refine⟨aj,(A3.of_ownsRow aH (Nat.le_refl _)).other (fun g _ d=>ak.block g d),by simp[Value.ownBlock],fun a p=>(by cases p),List.nodup_nil,fun a=>?_,fun _=>rfl,ac.trans (ak.mono ac.size),Zs,by rw[hr];exact ac.size⟩;constructor
  ·intro p;cases p
  ·rintro⟨N,hl⟩;rw[H2.out (sd a) (okC a)]at hl;exact absurd (by simpa using hl) N
 have bm:=(show Hid _ from aI);have bn:=hid okC;clear aI aj S bk aH M ac ak hr okC Y;go_loopw [5] (fun lv wr=>∃left cnt A L,CdI w G k B r n D left cnt lv A L wr) (fun _ wr=>wr.rangeLeft B r);case atStart=>exact⟨_,_,_,_,bm.out⟩
 case round=>
  obtain⟨left,cnt,A,L,hI⟩:=hrel;have c:=hid hI;have bo:=hI.rg;clear hI;go_wp2_with (at_next;refine wpList_next_ranges _ rfl _ rfl 178 (Keyed.of_law A7R) T8 vK id B2R (fun v y hv=>⟨v,rfl⟩) B r n D left cnt rfl bo ?_ ?_)
  ·intro bp aJ;obtain⟨g,o,C,bq⟩:∃g o C,u5=.slice (some ⟨g,o,none⟩) L.length C:=by
    rcases c.out.ls.2 with ⟨h,_⟩ | ⟨g,o,cap,cur,h,_⟩
    ·exact absurd (by rw[h];rfl) c.out.nn
    ·exact⟨g,o,cap,h⟩
   subst bq;have aK:L.length≤400:=by have:=c.out.cn;omega
   have br:=hid aJ;have cS:=A3z A (fun q=>D0 (G q) k) c.out.one (fun q=>Q6 _ _) L L.length rfl O w.heap.size g o C wr c.out.ls;clear aJ bp;go_wp2_with fail;refine cS.mono ?_;rintro e w4 ⟨rfl,aL,aM,bs,aN⟩;have bt:=(show Hid _ from aL);have aO:=(show Hid _ from aM);have al:=(show Hid _ from aN);clear aL aM aN cS;go_wp2;go_ret;have F:=(c.out.ls.lt (g:=g) rfl).1;refine⟨_,A,L.mergeSort (leC fun q=>D0 (G q) k),rfl,?_,?_,?_,A6V _ L c.out.nd,?_,?_⟩
   ·refine⟨al.out.1.trans c.out.bl.os,al.out.2.1.trans c.out.bl.tape,al.out.2.2.trans c.out.bl.output,Nat.le_trans c.out.bl.size bs,fun j t=>?_⟩;rw[aO.out j (Nat.lt_of_lt_of_le t c.out.bl.size) O];exact c.out.bl.block j t
   ·rw[List.length_mergeSort];exact bt.out
   ·intro a p;rw[List.mem_mergeSort]at p;refine (c.out.ch a p).other (fun j t bu=>aO.out j bu (fun e=>?_));obtain⟨g',o',cap',ad,e',_,am,_⟩:∃g' o' cap' ad,Value.slice (some ⟨g,o,none⟩) L.length C=.slice (some ⟨g',o',none⟩) L.length cap'∧True∧wr.heap[g']?=some (.cells ad 180 (0,0))∧True:=by
     rcases c.out.ls.2 with ⟨h,_⟩ | ⟨g',o',cap',ad,h,_,am,_⟩
     ·simp at h
     ·exact⟨g',o',cap',ad,h,trivial,am,trivial⟩
    simp only[Value.slice.injEq,Option.some.injEq,Addr.mk.injEq,and_true,true_and]at e';obtain⟨⟨rfl,rfl⟩,rfl⟩:=e';exact (c.out.ch a p).tag Z am (e▸t)
   ·intro a;rw[List.mem_mergeSort,c.out.mem a];exact⟨fun h=>h.1,fun h=>⟨h,br.out _⟩⟩
   ·rw[List.length_mergeSort];exact aK
  ·intro q v kl yd yp l bv aP aQ hv an aR bw ap aS aq;have aT:yd=.held v:=by
    simp only[T8,id,Option.some.injEq,Prod.mk.injEq]at hv;exact hv.1.symm
   have ar:Maps.has D kl=true:=Maps.has_true_of_atKey an;obtain⟨s,T,rfl⟩:=H3.out kl ar;have bx:(q.n,q.b)=s:=by
    have:=(Keyed.of_law A7R).inj aP (A9E s T);simp only[vK,vS,Value.agg.injEq,Array.mk.injEq,List.cons.injEq,Value.int.injEq,Value.bool.injEq,true_and,and_true]at this;exact Prod.ext this.1 this.2
   subst bx;have aU:v=V (q.n,q.b):=by
    have h1:=an (.held A0X);rw[H1.out _ T,aT]at h1;simp only[DataW.held.injEq]at h1;exact h1.symm
   have ae:G (q.n,q.b)≠[]:=by
    have:=H2.out _ T;rw[ar]at this;intro h;rw[h]at this;cases this
   have f:=HG.out _ ae;simp only at f;obtain⟨a,p⟩:∃a:Cd,sd a=(q.n,q.b):=⟨(⟨q.n.toNat,O⟩,q.b),by unfold sd;simp;omega⟩;obtain⟨m,hm⟩:=nm ((G (q.n,q.b)).length);have au:=HS.out.own (q.n,q.b) T;obtain⟨ao,C,av⟩:∃ao C,V (q.n,q.b)=.slice ao m C:=by
    rcases au.2 with ⟨h,h0⟩ | ⟨g,o,cap,cur,h,_⟩
    ·exact absurd (List.eq_nil_of_length_eq_zero h0) ae
    ·exact⟨_,_,by rw[hm];exact h⟩
   rw[av]at aU;subst aU;have aV:∀j,j<w.heap.size→l.heap[j]?=w.heap[j]?:=fun j t=>by
    rw[ap.block j (Nat.lt_of_lt_of_le t c.out.bl.size) (fun e=>by have:=c.out.lw;simp at e;omega)];exact c.out.bl.block j t
   obtain⟨n3,bz⟩:=nm l.heap.size;have aW:∀W:World,(∀j,j<w.heap.size→W.heap[j]?=w.heap[j]?)→w.heap.size≤W.heap.size→RdA W ao (G (q.n,q.b)):=by
    intro W hW bA;right;rcases au.2 with ⟨h,h0⟩ | ⟨g,o,cap,cur,h,_,d,_,_,_,hc⟩
    ·exact absurd (List.eq_nil_of_length_eq_zero h0) ae
    ·rw[av]at h;simp only[Value.slice.injEq]at h;refine⟨g,o,h.1,Nat.lt_of_lt_of_le (lt_of_block d) bA,fun j t=>?_⟩;have K:=N5 (G (q.n,q.b)) j t;rw[Nat.mul_comm 2 j]at K;have aX:=(hW g (lt_of_block d)).trans d;exact⟨A1 aX (hc _ _ K.1),A1 aX (hc _ _ K.2)⟩
   have bB:=(show Hid _ from aW);have aY:=hid aV;have HM:=hid hm.symm;have aw:=hid aR;have aa:=hid ap;have bN:=hid aS;have bC:=hid aQ;have bD:Hid _:=aq;have aZ:w.heap.size≤l.heap.size:=by have:=c.out.bl.size;omega
   have bE:(Instr.entry (Value.pointer (some {block:=r,off:=0}))).run Tryz.prog l=.ok (.tuple #[.agg #[I J q.n,.bool q.b],.slice ao m C]) l:=aq;have bF:vK q=.agg #[I J q.n,.bool q.b]:=rfl;rw[bF];clear aW aV hm aR ap aS aq aP aQ hv an aT ar au av bD bz;go_wp2_with fail;obtain⟨w4,af⟩:=nm (l.alloc (Obj.cells #[I J q.n,Value.bool q.b] 178));have X:Below l.heap.size l w4:=by rw[af];exact (Below.refl _ _).alloc (Nat.le_refl _) _
   have ax:w4.heap[l.heap.size]?=some (.cells #[I J q.n,Value.bool q.b] 178 (0,0)):=by rw[af];exact heap_alloc_new l _
   rw[←af];clear af bE;refine (A6U (G (q.n,q.b)) m HM.out ao C k w4 (bB.out w4 (fun j t=>(X.block j (Nat.lt_of_lt_of_le t aZ)).trans (aY.out j t)) (Nat.le_trans aZ X.size))).mono ?_;rintro e E ⟨v',rfl,ay,ag,_⟩;obtain⟨P,Q,rfl⟩:=ag.form;have az:E.heap[l.heap.size]?=some (.cells #[I J q.n,Value.bool q.b] 178 (0,0)):=(ay.block _ (lt_of_block ax)).trans ax;have s0:=A1 az (i:=0) rfl;have s1:=A1 az (i:=1) rfl;have ba:Below l.heap.size l E:=X.trans (ay.mono X.size);have HF:Hid (A49 (G (q.n,q.b)) k=fq (D0 (G (sd a)) k)):=by rw[p];exact B12 _ _
   obtain⟨fv,aA⟩:=nm (A49 (G (q.n,q.b)) k);have bG:Hid (fv=fq (D0 (G (sd a)) k)):=aA.trans HF.out;rw[←aA];obtain⟨R,aB⟩:=nm ((A1C (G (q.n,q.b)) k).length);rw[←aB]at ag ⊢;have bb:=hid ag;have bH:=hid aB;have ah:A3 l w.heap.size 180 4 u5 L.length (L.flatMap (A0U A (fun q=>D0 (G q) k))):=c.out.ls.other (fun g d F=>aa.out.block g F (fun e=>(L9 c.out.rg c.out.ls).2 (by rw[d];exact e)));have aK:L.length+1≤400:=by have:=c.out.cn;omega
   have H:=hid ba;have bc:=hid X.size;clear aA aB ag az X ay ax ba HF;go_wp2_with (refine B5 _ rfl (.tmp 28) (.tmp 33) 173 rfl 180 i0 _ 4 48 Tryz.underlying173 hi aE aF aG rfl Z w.heap.size u5 L.length (L.flatMap (A0U A (fun q=>D0 (G q) k))) rfl (ah.other (fun g _ d=>(Below.heap_alloc E _ g (Nat.lt_of_lt_of_le d H.out.size)).trans (H.out.block g d))) ⟨E.heap.size,0,none⟩ 1 [I J q.n,.bool q.b,.slice P R Q,.float .f64 fv] rfl rfl (A6N E _ _ _ _ _ rfl) (by intro u hu;simp at hu;rcases hu with rfl | rfl | rfl | rfl<;>rfl) (by unfold maxLen;omega) O (by have:=H.out.size;simp;omega) ?_;intro g' o' cap' w7 bI ab);have bd:∀j,j<E.heap.size→u5.ownBlock≠some j→w7.heap[j]?=E.heap[j]?:=fun j t N=>(ab.other j Zo N).trans (Below.heap_alloc E _ j t);have bO:=H.out.size;have ai:∀j,j<l.heap.size→u5.ownBlock≠some j→w7.heap[j]?=l.heap[j]?:=fun j t N=>(bd j O N).trans (H.out.block j t);have bP:E.heap.size+1≤w7.heap.size:=by have:=ab.size;simp at this;exact this
   have be:∀g,u5.ownBlock=some g→w.heap.size≤g∧g<l.heap.size:=fun g d=>ah.lt d;have bf:=L9 aw.out ah;have bJ:=aw.out.lt;have bg:=A3X aw.out (ai B O bf.1) (ai r bJ bf.2);have aC:a∉L:=fun h=>by
    have:=((c.out.mem a).1 h).2;rw[p,bC.out]at this;cases this
   have bh:∀b:Cd,sd b=sd a→b=a:=fun b h=>A4k b a (by rw[h]);have heq:∀b:Cd,b≠a→eqS (sd b) (q.n,q.b)=false:=fun b f=>by
    cases h:eqS (sd b) (q.n,q.b)
    ·rfl
    ·exact absurd (bh b (((Q4 _ _).1 h).trans p.symm)) f
   have bi:∀b:Cd,b≠a→G4 eqS A (q.n,q.b) (.slice P R Q) (sd b)=A (sd b):=fun b f=>by unfold G4;rw[heq b f];rfl
   have bj:G4 eqS A (q.n,q.b) (.slice P R Q) (sd a)=.slice P R Q:=by unfold G4;rw[p,(Q4 _ _).2 rfl];rfl
   refine⟨⟨fun z=>left z&&!z.sameKey (kS (q.n,q.b)),bv,G4 eqS A (q.n,q.b) (.slice P R Q),L++[a],bg,?_,by simp[Value.ownBlock],?_,?_,?_,?_,?_,?_,c.out.lw⟩,?_⟩
   ·rw[List.flatMap_append,A6G A _ _ L (fun b f=>bi b (fun e=>aC (e▸f))),List.length_append];have e1:([a]:List Cd).flatMap (A0U (G4 eqS A (q.n,q.b) (.slice P R Q)) fun q=>D0 (G q) k)=[I J q.n,.bool q.b,.slice P R Q,.float .f64 fv]:=by
     have e2:((a.1.val:Int),a.2)=(q.n,q.b):=p;simp only[Prod.mk.injEq]at e2;simp only[List.flatMap_cons,List.flatMap_nil,List.append_nil,A0U,bj,bG.out,e2.1,e2.2]
    rw[e1];exact bI
   ·intro b f;rcases List.mem_append.1 f with f | f
    ·have N:b≠a:=fun e=>aC (e▸f);rw[bi b N];have h1:=c.out.ch b f;have h3:A3 l w.heap.size 119 2 (A (sd b)) (A1C (G (sd b)) k).length (A9 (A1C (G (sd b)) k)):=h1.other (fun g d F=>aa.out.block g F (fun e=>(L9 c.out.rg h1).2 (by rw[d];exact e)));exact h3.other (fun g d F=>ai g F (h3.apart ah Z d))
    ·simp at f;subst f;rw[bj,p,←bH.out];refine (bb.out.other (fun g d F=>bd g F (fun e=>?_))).low (by have:=bc.out;omega);have h1:=(bb.out.lt d).1;have K:=(be g e).2;have:=bc.out;omega
   ·rw[List.nodup_append];refine⟨c.out.nd,Zs,fun x hx y hy=>?_⟩;simp at hy;subst hy;exact fun e=>aC (e▸hx)
   ·intro b;by_cases f:b=a
    ·subst f;constructor
     ·intro _;refine⟨by rw[p];exact ae,?_⟩;rw[p,WideAt.sameKey_self ((Keyed.of_law A7R).key (A9E _ T))];simp
     ·intro _;simp
    ·have h1:(kS (sd b)).sameKey (kS (q.n,q.b))=false:=Maps.sameKey_ne (fun e=>f (bh b ((A9K _ _ (bn.out b) T e).trans p.symm)));rw[h1];simp only[Bool.not_false,Bool.and_true,List.mem_append,List.mem_singleton,f,or_false];exact c.out.mem b
   ·intro s;unfold G4;split
    ·rfl
    ·exact c.out.one s
   ·refine⟨?_,?_,?_,O,fun g d=>?_⟩
    ·exact ab.os.trans (H.out.os.trans (aa.out.os.trans c.out.bl.os))
    ·exact ab.tape.trans (H.out.tape.trans (aa.out.tape.trans c.out.bl.tape))
    ·exact ab.output.trans (H.out.output.trans (aa.out.output.trans c.out.bl.output))
    ·rw[ai g O (fun e=>by have:=(be g e).1;omega)];exact aY.out g d
   ·have:=c.out.cn;simp only[List.length_append,List.length_singleton];omega
   ·rw[bg.left_eq,c.out.rg.left_eq];exact bw
theorem A8i (k:Int)(w:World) :
 Calls Tryz.prog 77 #[.map none,I J k] w fun e w'=>∃n p,e=.returned (.slice n 0 p)∧Below w.heap.size w w':=by
 obtain⟨i0,hi,q,r,y⟩:=info_parts Tryz.info180x;have z:∀(W:World) (ty:TypeId),(Builtin.len_ #[175] ty #[.map none]).run Tryz.prog W=.ok (I J 0) W:=fun W ty=>Maps.len_nil Tryz.underlying175 ty;have A:∀W:World,(Instr.range 175 (.map none)).run Tryz.prog W=.ok (.pointer (some ⟨W.heap.size,0,none⟩)) (W.alloc (.mapIter none 0 #[] 0)):=fun W=>run_range_nilMap W 175 178 115 Tryz.underlying175;have B:∀(W:World) (ty:TypeId),(Instr.next (.pointer (some ⟨W.heap.size,0,none⟩)) false ty).run Tryz.prog (W.alloc (.mapIter none 0 #[] 0))=.ok (.tuple #[.bool false]) (W.alloc (.mapIter none 0 #[] 0)):=fun W ty=>run_next_nilMap W ty 0 0 #[];go_enter Tryz.func77,Tryz.ntmps77;go_wp2_with (at_make;refine wpList_make_own _ rfl _ _ 173 rfl w.heap.size 180 i0 _ 4 Tryz.underlying173 hi q r .i64 .i64 _ 0 rfl rfl rfl O (by unfold maxLen;omega) (Nat.le_refl _) ?_;intro w1 f a);have s:Hd (A3 w1 w.heap.size 180 4 (.slice (some ⟨w.heap.size,0,none⟩) 0 0) 0 []):=A3.of_ownsRow f (Nat.le_refl _);have h:Hd (Below w.heap.size w w1):=⟨a.os,a.tape,a.output,a.size,fun g c=>a.block g c Zs⟩;clear f a;go_loopw [5] (fun t wr=>t=.slice (some ⟨w.heap.size,0,none⟩) 0 0∧wr=w1.alloc (.mapIter none 0 #[] 0)) (fun _ _=>0);case atStart=>exact⟨rfl,rfl⟩
 case round=>
  obtain⟨rfl,rfl⟩:=hrel;have hw:Below w1.heap.size w1 (w1.alloc (.mapIter none 0 #[] 0)):=(Below.refl _ _).alloc (Nat.le_refl _) _;have cS:=A3z (fun _=>A0X) (fun _=>0) (fun _=>rfl) (fun _=>O) [] 0 rfl O w.heap.size w.heap.size 0 0 (w1.alloc (.mapIter none 0 #[] 0)) (s.o.other (fun g _ c=>hw.block g c));go_wp2_with fail;refine cS.mono ?_;rintro e C ⟨rfl,_,i,u,l⟩;have v:=A4 i;have d:=A4 l;have x:Hd _:=hw;clear i l cS hw;go_wp2;go_ret;refine⟨_,_,rfl,?_⟩;have b:=h.o.trans (x.o.mono h.o.size);refine⟨d.o.1.trans b.os,d.o.2.1.trans b.tape,d.o.2.2.trans b.output,Nat.le_trans b.size u,fun j m=>?_⟩;rw[v.o j (Nat.lt_of_lt_of_le m b.size) O];exact b.block j m
end
section
open Go.RowKit
def c0 (L:List (Int×Int)):Int×Int:=L.getD 0 (0,0)
def c1 (L:List (Int×Int)):Int×Int:=L.getD (L.length-1) (0,0)
theorem B0b (C:List (Int×Int))(h:B14 C C.length):∀i,i<C.length→(C.getD 0 A0).1≤(C.getD i A0).1∧(C.getD 0 A0).2≤(C.getD i A0).2
 |0,_=>⟨Int.le_refl _,Int.le_refl _⟩
 |i+1,hi=>by
  have a:=B0b C h i O
  have h1:=h i hi
  unfold fol at h1
  omega
structure CdF (k:Nat)(R:List S2)(rb:ByteArray)(q:Int×Bool)(G:List (Int×Int))(r0 p0 r1 p1:Nat):Prop where
 q0:0≤q.1
 qi:q.1.toNat<R.length
 err:O0 G k=0
 len:0<(L8 k G).length
 e0:c0 (L8 k G)=((r0:Int),(p0:Int))
 e1:c1 (L8 k G)=((r1:Int),(p1:Int))
 le0:r0≤r1
 le1:p0≤p1
 b0:r1+k≤rb.size
 b1:p1+k≤(R.getD q.1.toNat S0).b.size
 s0:M4 (nums (if q.2=true then F9 rb.data.toList else rb.data.toList)) r0 k=M4 (nums (R.getD q.1.toNat S0).b.data.toList) p0 k
 s1:M4 (nums (if q.2=true then F9 rb.data.toList else rb.data.toList)) r1 k=M4 (nums (R.getD q.1.toNat S0).b.data.toList) p1 k
 n0:∀m∈M4 (nums (R.getD q.1.toNat S0).b.data.toList) p0 k,m<4
 n1:∀m∈M4 (nums (R.getD q.1.toNat S0).b.data.toList) p1 k,m<4
 lo:4*(k:Int)≤chQ k G
 hi:chQ k G≤100000
theorem A1d (k W:Nat)(R:List S2)(rb:ByteArray)(q:Int×Bool)(i:1≤k)(j:k≤12)(l:1≤W)(m:∀x∈R,good x.b∧x.b.size≤4000)(n:good rb)(H:rb.size≤300)
 (d:(R3 k W R rb).2 q≠[])(hlen:((R3 k W R rb).2 q).length≤400):∃w y z A:Nat,CdF k R rb q ((R3 k W R rb).2 q) w y z A:=by
 have o:∀a∈(R3 k W R rb).2 q,A22 k W R rb q a:=fun a c=>A67 k W R rb q a c;generalize (R3 k W R rb).2 q=G at *;have p:∀x∈R,good x.b:=fun x f=>(m x f).1;have g:=fun a c=>(o a c).bounds i j l p n;have r:=fun a c=>(o a c).same i j l p n;obtain⟨B,hw,s,hm⟩:=A6h k G d;have t:c0 (L8 k G)∈L8 k G:=by unfold c0;rw[C1 _ _ _ s];exact List.getElem_mem _
 have u:c1 (L8 k G)∈L8 k G:=by unfold c1;rw[C1 _ _ _ O];exact List.getElem_mem _
 have b0:=g _ (hm _ t);have b1:=g _ (hm _ u);have s0:=r _ (hm _ t);have s1:=r _ (hm _ u);have v:q.1.toNat<R.length:=O;have K:=(m _ (R5 R _ v)).2;have hle:=B0b _ B ((L8 k G).length-1) O;have L:(c0 (L8 k G)).1≤(c1 (L8 k G)).1∧(c0 (L8 k G)).2≤(c1 (L8 k G)).2:=hle;have he:O0 G k=0:=by
  unfold O0;have C:G.length≠0:=fun h=>d (List.eq_nil_of_length_eq_zero h);have ho:G.any A0C=false:=by
   rw[Bool.eq_false_iff];intro h;rw[A2E]at h;apply h;intro x f;have M:=g x f;unfold okA;omega
  rw[if_neg O,if_neg O,if_neg C,ho];rfl
 have D:=A0E G d;have E:=(S9 (k:Int) O (canon G) (canon G).length (chM k G) (Z3 _ _ D)).1;have F:=(A0Q G k he).2.1;refine⟨(c0 (L8 k G)).1.toNat,(c0 (L8 k G)).2.toNat,(c1 (L8 k G)).1.toNat,(c1 (L8 k G)).2.toNat,?_⟩;exact {
  q0:=b0.1,qi:=v,err:=he,len:=s
  e0:=Prod.ext (by show _=(((c0 (L8 k G)).1.toNat:Nat):Int);omega) (by show _=(((c0 (L8 k G)).2.toNat:Nat):Int);omega)
  e1:=Prod.ext (by show _=(((c1 (L8 k G)).1.toNat:Nat):Int);omega) (by show _=(((c1 (L8 k G)).2.toNat:Nat):Int);omega)
  le0:=O,le1:=O,b0:=O,b1:=O
  s0:=s0.1,s1:=s1.1,n0:=s0.2,n1:=s1.2,lo:=E,hi:=F}
end
section
open Go.RowKit Go.Shelf Go.Lib Go.Sort Go.Maps
abbrev Ek:=Fin 16777216
def hk (a:Ek):Int:=(a.val:Int)
def A0W (V:Int→Value)(a:Ek):List Value:=[I J (hk a),V (hk a)]
def cfE (a b:Ek):Int:=E4 (hk a) (hk b)
theorem A6t (a b:Ek)(h:hk a=hk b):a=b:=by
 unfold hk at h;exact Fin.ext O
theorem A9w (a:Ek):okI (hk a):=A2X (by unfold hk;omega) (by have:=a.isLt;unfold hk;omega)
theorem A4C (a b:Ek):ltOf cfE a b=true↔hk a<hk b:=by
 unfold ltOf cfE;rw[decide_eq_true_eq];rcases A1h (hk a) (hk b) with⟨h,e⟩|⟨h,e⟩|⟨h,e⟩<;>rw[e]<;>simp<;>omega
theorem A0K (a b:Ek):ltOf cfE a b=false↔¬hk a<hk b:=by
 rw[←A4C];simp
theorem B2X:SWO (ltOf cfE):={
 irrefl:=fun x=>by rw[A0K];omega
 trans:=fun x y z h1 a=>by rw[A4C]at *;omega
 ntrans:=fun x y z h1 a=>by rw[A0K]at *;omega}
def leE (x y:Ek):Bool:=!ltOf cfE y x
theorem A6m (L:List Ek)(f:L.Nodup):(L.mergeSort leE).Pairwise (fun a b=>hk a<hk b):=by
 have g:∀a b c:Ek,leE a b=true→leE b c=true→leE a c=true:=by
  intro a b c h1 d;simp only[leE,Bool.not_eq_true']at h1 d⊢;rw[A0K]at *;omega
 have i:∀a b:Ek,(leE a b||leE b a)=true:=by
  intro a b;cases h:leE a b
  ·simp only[leE,Bool.not_eq_false']at h;rw[A4C]at h;simp only[Bool.false_or,leE,Bool.not_eq_true'];rw[A0K];omega
  ·rfl
 have hs:=List.pairwise_mergeSort g i L;have j:(L.mergeSort leE).Nodup:=((List.mergeSort_perm L leE).nodup_iff).2 f;refine(hs.and j).imp ?_;intro a b k;obtain⟨h1,d⟩:=k;simp only[leE,Bool.not_eq_true']at h1;rw[A0K]at h1;by_cases l:hk a<hk b
 ·exact l
 ·exact absurd (A6t a b O) d
theorem A78 (a b:Int)(c d:Value)(w:World)(h1:c.oneCell'=true)(m:d.oneCell'=true) :
 Calls Tryz.prog 90 #[.agg #[I J a,c],.agg #[I J b,d]] w fun e w'=>e=.returned (I J (E4 a b))∧∃q os,w'=Sort.grow (w.drewN q) os:=by
 have h:=fun i=>AnyG.cmp_Compare_int Tryz.cmpInt a b i;change ∀i,Calls Tryz.prog 119 _ _ _ at h;rw[A0s]at h;generalize E4 a b=z at *;obtain⟨f,g⟩:=A8 ((w.alloc (Obj.cells #[I J a,c] 160)).alloc (Obj.cells #[I J b,d] 160));have l:Hd (∃os,f=Sort.grow (w.drewN 0) os):=by
  refine⟨#[.cells #[I J a,c] 160]++#[.cells #[I J b,d] 160],?_⟩;rw[g,Sort.alloc_eq_grow,Sort.alloc_eq_grow,Sort.grow_grow];rfl
 have j:f.heap[w.heap.size]?=some (.cells #[I J a,c] 160 (0,0)):=by rw[g,Below.heap_alloc _ _ _ Zs];exact heap_alloc_new w _
 have k:f.heap[w.heap.size+1]?=some (.cells #[I J b,d] 160 (0,0)):=by
  have:=heap_alloc_new (w.alloc (Obj.cells #[I J a,c] 160)) (Obj.cells #[I J b,d] 160);have e1:(w.alloc (Obj.cells #[I J a,c] 160)).heap.size=w.heap.size+1:=Zs;rw[e1]at this;rw[g];exact this
 have f0:f.cell? ⟨w.heap.size,0,none⟩=some (I J a):=A1 j rfl;have f1:f.cell? ⟨w.heap.size+1,0,none⟩=some (I J b):=A1 k rfl;clear j k;go_enter Tryz.func90,Tryz.ntmps90;go_wp2_with fail;rw[←g];clear g;refine(h _).mono ?_;rintro e w1 ⟨rfl,rfl⟩;go_wp2;go_ret;exact⟨rfl,0,l.o⟩
theorem A7Z (V:Int→Value)(c:∀a:Ek,(V (hk a)).oneCell'=true)(L:List Ek)(n:Nat)(b:L.length=n)(f:n≤100000)(base g o cap:Nat)(w:World)(i:A3 w base 160 2 (.slice (some ⟨g,o,none⟩) n cap) n (L.flatMap (A0W V))) :
 Calls Tryz.prog 89 #[.slice (some ⟨g,o,none⟩) n cap,.func (.func 90) #[] #[]] w fun e w'=>e=.returned (.tuple #[])∧A3 w' base 160 2 (.slice (some ⟨g,o,none⟩) n cap) n ((L.mergeSort leE).flatMap (A0W V))∧(∀j,j<w.heap.size→j≠g→w'.heap[j]?=w.heap[j]?)∧w.heap.size≤w'.heap.size∧w'.os=w.os∧w'.tape=w.tape∧w'.output=w.output:=by
 have l:∀args w,(callFunc 90 args).run Tryz.prog w=.ok (.enter 90 args) w:=O3 Tryz.func90 U rfl;have hk:∀x,(A0W V x).length=2:=fun _=>rfl;have hH:=i.holdsK hk O b;have p:CmpLays Tryz.prog 90 #[] (A0W V) 2 cfE g o L.toArray.size w:=fun _ _ _ _ x y=>
  (A78 (Mn.hk x) (Mn.hk y) (V (Mn.hk x)) (V (Mn.hk y)) _ (c _) (c _)).mono (fun e w' h=>⟨h.1,h.2⟩)
 have d:=AnyQ.slices_SortFunc_total Tryz.sortE 2 Tryz.isAgg160 Tryz.sizeOf160 (A0W V) hk (fun x v k=>by simp[A0W]at k;rcases k with rfl|rfl<;>first|rfl|exact c _) cfE B2X 90 #[] g o cap L.toArray w l p hH.1 hH.2 Zo (fun x y h1 f=>by
  rw[A0K]at h1 f;exact A6t x y O)
 change Calls Tryz.prog 89 _ _ _ at d;have q:L.toArray.size=n:=by simpa using b
 rw[q]at d;refine d.mono ?_;rintro e w' ⟨rfl,m,os,rfl⟩;exact⟨rfl,i.sortedK hk O b (by rw[List.length_mergeSort];exact b)⟩
theorem B00 {v:Value}{n:Nat}{w:World}{base e size:Nat}{xs:List Value}(h:A3 w base e size v n xs):v.oneCell'=true:=by
 obtain⟨a,b,rfl⟩:=h.form;rfl
theorem A7j {α:Type}:∀(l m:List α),l.Nodup→(∀x∈l,x∈m)→l.length≤m.length
 |[],_,_,_=>Nat.zero_le _
 |a::t,m,b,hs=>by
  rw[List.nodup_cons]at b
  obtain⟨m1,m2,rfl⟩:=List.append_of_mem (hs a (List.mem_cons_self))
  have:=A7j t (m1++m2) b.2 (fun x c=>by
   have h:=hs x (List.mem_cons_of_mem _ c)
   simp only[List.mem_append,List.mem_cons]at h⊢
   rcases h with h|h|h
   ·exact Or.inl h
   ·subst h;exact absurd c b.1
   ·exact Or.inr h)
  simp only[List.length_append,List.length_cons]at this⊢
  omega
theorem A8Y {P:Program}{w:World}{k:TypeId}{b n:Nat}{D:DataW Value}(K:Keyed P k)(h:w.ownsMap P k T8 b n D)(m:List Lit)(hm:∀l,Maps.has D l=true→l∈m):Maps.size D≤m.length:=by
 obtain⟨d,c,g⟩:=h.tidy K;obtain⟨es,clock,_,F,_,e⟩:=h;have hk:∀p∈d,WideAt.IsKeyLit p.1:=by
  intro p a;rw[c]at e;simp only[DataW.map.injEq]at e;rw[e]at a;have:=(WideShapes.sorted_perm _).mem_iff.1 a;obtain⟨key,i⟩:=Maps.fit_keys F p this;exact K.key i
 subst c;rw[Maps.size_eq,←List.length_map (f:=fun p:Lit×DataW Value=>p.1)];refine A7j _ _ (by unfold List.Nodup;rw[List.pairwise_map];exact g) (fun l j=>?_);obtain⟨p,a,rfl⟩:=List.mem_map.1 j;refine hm _ ?_;rw[Maps.has_eq,List.any_eq_true];exact⟨p,a,WideAt.sameKey_self (hk p a)⟩
end
section
open Go.RowKit
def RdH (w:World)(ao:Option Addr)(T:List W3):Prop:=T.length≠0→∃g o cur,ao=some ⟨g,o,none⟩∧w.heap[g]?=some (.cells cur 99 (0,0))∧∀j u,(A6 T)[j]?=some u→cur[o+j]?=some u
theorem RdH.of {w:World}{base b:Nat}{a:Option Addr}{T:List W3}(h:A3 w base 99 3 (.slice a T.length b) T.length (A6 T)):RdH w a T:=fun c=>by
 rcases h.2 with ⟨_,d⟩ | ⟨g,o,cap,cur,e,_,f,_,_,_,i⟩
 ·exact absurd d c
 ·simp only[Value.slice.injEq]at e
  exact⟨g,o,cur,e.1,f,i⟩
theorem RdH.kept {w w':World}{c:Option Addr}{T:List W3}(h:RdH w c T)(hk:WrK w w'):RdH w' c T:=fun d=>by
 obtain⟨g,o,cur,e,b,f⟩:=h d
 exact⟨g,o,cur,e,(hk g (fun cs a=>by rw[b]at a;simp at a) (fun cs a=>by rw[b]at a;simp at a) (lt_of_block b)).trans b,f⟩
theorem A8Q (L:List W3)(g o:Nat)(cur:Array Value)(w:World)(a:w.heap[g]?=some (.cells cur 99 (0,0)))(c:∀j u,(A6 L)[j]?=some u→cur[o+j]?=some u)(j:Nat)(d:j<L.length) :
 w.cell? ⟨g,o+j*3,none⟩=some (I J L[j].h)∧w.cell? ⟨g,o+j*3+1,none⟩=some (I J L[j].p)∧w.cell? ⟨g,o+j*3+2,none⟩=some (.bool L[j].b):=by
 have:=I1 L j d;rw[Nat.mul_comm 3 j]at this;exact⟨A1 a (c _ _ this.1),A1 a (c _ _ this.2.1),A1 a (c _ _ this.2.2)⟩
theorem A95 (x:W3):(M3 x).length=4:=by unfold M3;rw[List.length_append,C8,C8]
theorem Y6:∀T:List W3,(T.flatMap M3).length=4*T.length
 | []=>rfl
 | x::t=>by rw[List.flatMap_cons,List.length_append,A95,Y6 t,List.length_cons];omega
theorem A8n (T:List W3)(n:Nat)(z:T.length=n)(A:Option Addr)(V:Nat)(L:List UInt8)(base B:Nat)(w:World)(h:WrP w base B L)(C:∀y∈T,0≤y.h∧y.h<100000∧0≤y.p∧y.p<100000)(D:RdH w A T)(ah:n≤100000)(hl:L.length+2+4*n≤1000000000) :
 Calls Tryz.prog 67 #[.pointer (some ⟨B,0,none⟩),.slice A n V] w fun e w'=>e=.returned (.tuple #[])∧H5 base B (L++A1I T) w w':=by
 have c1:=F7 n 2 L base B w h O O O;have t:=hid z;have X:=(show Hid _ from C);have Y:=hid D;clear h z C D;go_enter Tryz.func67,Tryz.ntmps67;go_wp2_with fail;refine c1.mono ?_;rintro e w1 ⟨rfl,E⟩;have aa:Hid _:=E;clear E c1;go_wp2;go_loopw [12] (fun i wr=>∃j:Nat,j≤n∧i=I J j∧H5 base B (L++E5 n 2++(T.take j).flatMap M3) w wr) (fun i _=>n - (RowKit.intOf i).toNat);case atStart=>exact⟨0,Nat.zero_le _,rfl,by simpa using aa.out⟩
 case round=>
  obtain⟨j,hj,rfl,F⟩:=hrel;have u:Hid _:=F;clear F;by_cases ai:j<n
  ·have G:j<T.length:=by have:=t.out;omega
   obtain⟨g,o,cur,rfl,H,c⟩:=(Y.out.kept u.out.kp) O;obtain⟨d0,d1,d2⟩:=A8Q T g o cur wr H c j G;obtain⟨x,m⟩:=nm (T[j]);rw[←m]at d0 d1 d2;have K:=X.out x (by rw[m];exact List.getElem_mem _);have ab:Hid ((T.take (j+1)).flatMap M3=(T.take j).flatMap M3++M3 x):=by
    show _=_;rw[List.take_add_one,List.getElem?_eq_getElem G,List.flatMap_append,m];simp
   obtain⟨M,q⟩:=nm (L++E5 n 2++(T.take j).flatMap M3);have aj:M.length≤L.length+2+4*j:=by
    rw[q,List.length_append,List.length_append,C8,Y6,List.length_take];omega
   have HM:=hid q;have ac:Hid (H5 base B M w wr):=by rw[q];exact u.out
   obtain⟨k,r⟩:=nm (wr.alloc (Obj.cells #[I J x.h,I J x.p,.bool x.b] 99));have N:Below wr.heap.size wr k:=by rw[r];exact (Below.refl _ _).alloc (Nat.le_refl _) _
   have d:k.heap[wr.heap.size]?=some (.cells #[I J x.h,I J x.p,.bool x.b] 99 (0,0)):=by rw[r];exact heap_alloc_new wr _
   have v:=ac.out.more N;have P:∀{w':World},WrK k w'→w'.heap[wr.heap.size]?=some (.cells #[I J x.h,I J x.p,.bool x.b] 99 (0,0)):=fun h'=>(h' _ (fun cs c=>by rw[d]at c;simp at c) (fun cs c=>by rw[d]at c;simp at c) (lt_of_block d)).trans d;obtain⟨xs,s⟩:∃xs:Nat,x.h=xs:=⟨x.h.toNat,O⟩;obtain⟨f,a⟩:∃f:Nat,tw (x.p,x.b)=f:=⟨(tw (x.p,x.b)).toNat,by unfold tw;simp only;split<;>omega⟩;have ak:f≤1000000:=by unfold tw at a;simp only at a;split at a<;>omega
   have ad:Hid (M3 x=E5 xs 2++E5 f 2):=by
    show _=_;unfold M3;have e1:x.h.toNat=xs:=O;have e2:(2*x.p.toNat+if x.b=true then 1 else 0)=f:=by
     unfold tw at a;simp only at a;cases hb:x.b<;>rw[hb]at a<;>simp at a ⊢<;>omega
    rw[e1,e2]
   have c1:=F7 xs 2 M base B k v.wp O O O;have Q:=fun W=>A16 x.p x.b W K.2.2.1 K.2.2.2;rw[a]at Q;have q0:k.cell? ⟨wr.heap.size,0,none⟩=some (I J xs):=by rw[←s];exact A1 d rfl
   have R:=(show Hid _ from @P);have HA:Hid _:=v;clear P N d v m q a H c;go_wp2_with fail;rw[←s,←r,s];clear r d0 d1 d2 s;refine c1.mono ?_;rintro e w2 ⟨rfl,l⟩;have q1:w2.cell? ⟨wr.heap.size,1,none⟩=some (I J x.p):=A1 (R.out l.kp) rfl;have q2:w2.cell? ⟨wr.heap.size,2,none⟩=some (.bool x.b):=A1 (R.out l.kp) rfl;have c2:=F7 f 2 (M++E5 xs 2) base B w2 l.wp O O (by rw[List.length_append,C8];omega);have ae:Hid _:=l;clear l c1;go_wp2_with (go_at_call 91;refine (Q _).mono ?_;rintro e w' ⟨rfl,rfl⟩);refine c2.mono ?_;rintro e w3 ⟨rfl,S⟩;have af:Hid _:=HA.out.trans (ae.out.trans S);clear S c2;go_wp2;go_roundw;case rel=>
    refine⟨j+1,O,Zn,?_⟩;rw[ab.out,ad.out,←List.append_assoc,←HM.out,←List.append_assoc];exact af.out
   case measure=>simp[RowKit.intOf];omega
  ·have ag:j=n:=O;go_wp2;go_end0;refine⟨rfl,?_⟩;have:=u.out;rw[ag,show T.take n=T by rw[←t.out,List.take_length]]at this;unfold A1I;rw[←List.append_assoc,t.out];exact this
end
end Mn
end Go.Proofs.YtilcmkiihefkkaaGreatDoor
