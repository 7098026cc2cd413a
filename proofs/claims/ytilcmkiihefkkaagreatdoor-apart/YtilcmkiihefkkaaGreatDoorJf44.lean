import Derived.Test.YtilcmkiihefkkaaGreatDoorJf43
set_option linter.unusedVariables false
set_option linter.unusedSimpArgs false
set_option maxRecDepth 1000000
set_option maxHeartbeats 64000000
open Go.Value renaming int→I
open Go.IntKind renaming i64→J
namespace Go.Proofs.YtilcmkiihefkkaaGreatDoor
namespace Mn
section
open Go.RowKit Go.Shelf Go.Lib Go.Sort Go.Maps
theorem Tryz.info160x:(Tryz.prog.info? 160).map (fun i=>(i.zero,i.size,i.bytes))=some (some (.agg #[I J 0,.slice none 0 0]),2,32):=U
structure Ik where
 n:Int
def vIk (x:Ik):Value:=I J x.n
theorem B2J (key:Value)(kl:Lit)(h:keyOf Tryz.prog 3 key=some kl):∃x:Ik,key=vIk x:=by
 obtain⟨x,rfl,_⟩:=Maps.keyOf_int_inv Tryz.underlying3 h;exact⟨⟨x⟩,rfl⟩
structure EnI (w:World)(T:Int→List W3)(V:Int→Value)(Hb r n:Nat)(D:DataW Value)(left:Lit→Bool)(cnt:Nat)(lv:Value)(L:List Ek)(wr:World):Prop where
 rg:wr.ranges Tryz.prog 3 T8 Hb r n D left cnt
 ls:A3 wr w.heap.size 160 2 lv L.length (L.flatMap (A0W V))
 nn:lv.ownBlock≠none
 nd:L.Nodup
 mem:∀a,a∈L↔(T (hk a)≠[]∧left (kI (hk a))=false)
 bl:Below w.heap.size w wr
 cn:L.length+cnt≤Maps.size D
 lw:w.heap.size≤r
def EnP (T:Int→List W3)(V:Int→Value)(m:Nat)(w:World)(e:Ending)(w':World):Prop:=
 ∃(v:Value) (E:List Ek),e=.returned v∧Below w.heap.size w w'∧A3 w' w.heap.size 160 2 v E.length (E.flatMap (A0W V))∧E.Pairwise (fun a b=>hk a<hk b)∧(∀a,a∈E↔T (hk a)≠[])∧E.length=m∧E.length≤4000
theorem A6l (W:World)(a b:Value)(s:Nat)(hs:s=W.heap.size):∀j u,([a,b]:List Value)[j]?=some u→(W.alloc (.cells #[a,b] 160)).cell? ((⟨s,0,none⟩:Addr).add j)=some u:=by
 intro j u hj;subst hs;have h:=heap_alloc_new W (.cells #[a,b] 160);rw[Addr.add_lit,cell_of_row _ _ _ _ _ _ h];match j,hj with
 | 0,hj=>simpa using hj
 | 1,hj=>simpa using hj
theorem A5j (T:Int→List W3)(V:Int→Value)(D:DataW Value)(X Hb base k W sc:Nat)(rv:Value)(w:World)(hX:w.heap[X]?=some (.cells (ixC k W sc rv (.map (some Hb))) 147 (0,0)))
 (hD:w.ownsMap Tryz.prog 3 T8 Hb 4000 D)(h1:∀x,okI x→D.atKey (kI x) (.held A0X)=.held (V x))(h2:∀x,okI x→Maps.has D (kI x)=!(T x).isEmpty)(h3:∀l,Maps.has D l=true→∃x,okI x∧l=kI x)
 (hV:∀x,okI x→A3 w base 99 3 (V x) (T x).length (A6 (T x)))(hT:∀x,T x≠[]→0≤x∧x<16777216) :
 Calls Tryz.prog 66 #[.pointer (some ⟨X,0,none⟩)] w fun e w'=>EnP T V (Maps.size D) w e w':=by
 obtain⟨i0,hi,hz0,hz1,hz2⟩:=info_parts Tryz.info160x;have hDl:Maps.size D≤4000:=hD.size_le;have hHb:=hD.lt;have H1:=(show Hid _ from h1);have H2:=(show Hid _ from h2);have H3:=(show Hid _ from h3);have HV:=(show Hid _ from hV);have HVO:Hid (∀a:Ek,(V (hk a)).oneCell'=true):=fun a=>B00 (hV _ (A9w a));have HT:=(show Hid _ from hT);have HD:=hid hD;have HX:Hid _:=hX;have hXl:=lt_of_block hX;have c4:w.cell? ⟨X,4,none⟩=some (.map (some Hb)):=A1 hX rfl;clear h1 h2 h3 hV hT hX;go_enter Tryz.func66,Tryz.ntmps66;go_wp2_with (first
  | (at_len;refine wpList_len_own _ rfl _ 145 rfl 3 102 Tryz.underlying145 T8 Hb 4000 D rfl hD ?_)
  | (at_make;refine wpList_make_own _ rfl _ _ 157 rfl w.heap.size 160 i0 _ 2 Tryz.underlying157 hi hz0 hz1 .i64 .i64 _ (Maps.size D) rfl rfl rfl (by rw[hz2];omega) (by unfold maxLen;omega) (Nat.le_refl _) ?_;intro w1 hown1 hgr1;have c4':w1.cell? ⟨X,4,none⟩=some (.map (some Hb)):=A1 ((hgr1.block X hXl Zs).trans HX.out) rfl)
  | (at_range;refine wpList_range_own _ rfl _ 145 rfl 3 102 A4M Tryz.underlying145 T8 Hb 4000 D rfl (hD.kept hgr1 Zs) ?_;intro w2 hrg2 hgr2 hs2))
 go_frame;obtain⟨r,hr⟩:=nm w1.heap.size;rw[←hr]at hrg2 ⊢;have hb1:Below w.heap.size w w1:=⟨hgr1.os,hgr1.tape,hgr1.output,hgr1.size,fun g hg=>hgr1.block g hg Zs⟩;have hb12:Below w1.heap.size w1 w2:=⟨hgr2.os,hgr2.tape,hgr2.output,hgr2.size,fun g hg=>hgr2.block g hg Zs⟩;have hI0:EnI w T V Hb r 4000 D (Maps.has D) (Maps.size D) (Value.slice (some {block:=w.heap.size,off:=0}) 0 (Maps.size D)) [] w2:=by
  refine⟨hrg2,(A3.of_ownsRow hown1 (Nat.le_refl _)).other (fun g _ hg=>hb12.block g hg),by simp[Value.ownBlock],List.nodup_nil,fun a=>?_,hb1.trans (hb12.mono hb1.size),Zs,by rw[hr];exact hb1.size⟩;constructor
  ·intro ha;cases ha
  ·rintro⟨hne,hl⟩;rw[H2.out (hk a) (A9w a)]at hl;exact absurd (by simpa using hl) hne
 have HI0:=(show Hid _ from hI0);clear hI0 hrg2 hgr2 hs2 hown1 hgr1 hb1 hb12 hr hD c4 c4';go_loopw [3] (fun lv wr=>∃left cnt L,EnI w T V Hb r 4000 D left cnt lv L wr) (fun _ wr=>wr.rangeLeft Hb r);case atStart=>exact⟨_,_,_,HI0.out⟩
 case round=>
  obtain⟨left,cnt,L,hI⟩:=hrel;have HI:=hid hI;have hrg:=hI.rg;clear hI;go_wp2_with (at_next;refine wpList_next_ranges _ rfl _ rfl 3 A4M T8 vIk id B2J (fun v y hv=>⟨v,rfl⟩) Hb r 4000 D left cnt rfl hrg ?_ ?_)
  ·intro hc0 hl0;obtain⟨g,o,cp,hu5⟩:∃g o cp,u3=.slice (some ⟨g,o,none⟩) L.length cp:=by
    rcases HI.out.ls.2 with ⟨h,_⟩ | ⟨g,o,cap,cur,h,_⟩
    ·exact absurd (by rw[h];rfl) HI.out.nn
    ·exact⟨g,o,cap,h⟩
   subst hu5;have hLl:L.length≤4000:=by have:=HI.out.cn;omega
   have HL0:=hid hl0;have cS:=A7Z V HVO.out L L.length rfl O w.heap.size g o cp wr HI.out.ls;clear hl0 hc0;go_wp2_with fail;refine cS.mono ?_;rintro e w4 ⟨rfl,hown4,hfr4,hs4,ho4⟩;have HO4:=(show Hid _ from hown4);have HF4:=(show Hid _ from hfr4);have HS4:=(show Hid _ from ho4);clear hown4 hfr4 ho4 cS;go_wp2;go_ret;have hgl:=(HI.out.ls.lt (g:=g) rfl).1;refine⟨_,L.mergeSort leE,rfl,?_,?_,A6m L HI.out.nd,?_,?_,?_⟩
   ·refine⟨HS4.out.1.trans HI.out.bl.os,HS4.out.2.1.trans HI.out.bl.tape,HS4.out.2.2.trans HI.out.bl.output,Nat.le_trans HI.out.bl.size hs4,fun j hj=>?_⟩;rw[HF4.out j (Nat.lt_of_lt_of_le hj HI.out.bl.size) O];exact HI.out.bl.block j hj
   ·rw[List.length_mergeSort];exact HO4.out
   ·intro a;rw[List.mem_mergeSort,HI.out.mem a];exact⟨fun h=>h.1,fun h=>⟨h,HL0.out _⟩⟩
   ·rw[List.length_mergeSort];have h1:=A8Y A4M HD.out (L.map (fun a=>kI (hk a))) (fun l hl=>by
     obtain⟨x,hx,rfl⟩:=H3.out l hl;have hne:T x≠[]:=by
      have:=H2.out x hx;rw[hl]at this;intro h;rw[h]at this;cases this
     have hb:=HT.out x hne;have ea:hk (⟨x.toNat,O⟩:Ek)=x:=by unfold hk;simp;omega
     rw[List.mem_map];exact⟨⟨x.toNat,O⟩,(HI.out.mem _).2 ⟨by rw[ea];exact hne,HL0.out _⟩,by rw[ea]⟩)
    rw[List.length_map]at h1;have:=HI.out.cn;omega
   ·rw[List.length_mergeSort];exact hLl
  ·intro q v kl yd yp w3 cnt3 hkey hlk hv hat hrg3 hlt hg3 hs3 hen;have A4:yd=.held v:=by
    simp only[T8,id,Option.some.injEq,Prod.mk.injEq]at hv;exact hv.1.symm
   have hhas:Maps.has D kl=true:=Maps.has_true_of_atKey hat;obtain⟨x,hox,rfl⟩:=H3.out kl hhas;have hqx:q.n=x:=by
    have:=A4M.inj hkey (A8l x hox);simpa[vIk] using this
   have hvV:v=V x:=by
    have h1:=hat (.held A0X);rw[H1.out _ hox,A4]at h1;simp only[DataW.held.injEq]at h1;exact h1.symm
   have hTne:T x≠[]:=by
    have:=H2.out _ hox;rw[hhas]at this;intro h;rw[h]at this;cases this
   have hb:=HT.out _ hTne;obtain⟨a,ha⟩:∃a:Ek,hk a=x:=⟨⟨x.toNat,O⟩,by unfold hk;simp;omega⟩;obtain⟨ao,cp,hvs⟩:=(HV.out x hox).form;obtain⟨m,hm⟩:=nm ((T x).length);rw[←hm]at hvs;have HVS:=hid hvs;rw[hvs]at hvV;subst hvV;have hvq:vIk q=I J x:=by rw[←hqx];rfl
   rw[hvq]at hen ⊢;have HRG3:=hid hrg3;have HG3:=(show Hid _ from hg3);have HLK:=hid hlk;have hws:w.heap.size≤w3.heap.size:=by rw[hs3];exact HI.out.bl.size
   have HLT:=hid hlt;have hu5w:A3 w3 w.heap.size 160 2 u3 L.length (L.flatMap (A0W V)):=HI.out.ls.other (fun g hg hgl=>HG3.out.block g hgl (fun e=>(L9 HI.out.rg HI.out.ls).2 (by rw[hg];exact e)));have hLl:L.length+1≤4000:=by have:=HI.out.cn;omega
   clear hrg3 hg3 hs3 hkey hlk hv hat A4 hhas hvs hvq hlt hm;go_wp2_with (at_builtin;refine B5 _ rfl (.tmp 22) (.tmp 26) 157 rfl 160 i0 _ 2 32 Tryz.underlying157 hi hz0 hz1 hz2 rfl Z w.heap.size u3 L.length (L.flatMap (A0W V)) rfl (hu5w.other (fun g _ hg=>Below.heap_alloc w3 _ g hg)) ⟨w3.heap.size,0,none⟩ 1 [I J x,.slice ao m cp] rfl rfl (A6l w3 _ _ _ rfl) (by intro u hu;simp at hu;rcases hu with rfl | rfl<;>rfl) (by unfold maxLen;omega) O Zo ?_;intro g' o' cap' w7 hown7 hfr7);have hk7:∀j,j<w3.heap.size→u3.ownBlock≠some j→w7.heap[j]?=w3.heap[j]?:=fun j hj hne=>(hfr7.other j Zo hne).trans (Below.heap_alloc w3 _ j hj);have hs7:w3.heap.size+1≤w7.heap.size:=by have:=hfr7.size;simp at this;exact this
   have hubl:∀g,u3.ownBlock=some g→w.heap.size≤g∧g<w3.heap.size:=fun g hg=>hu5w.lt hg;have hrb:=L9 HRG3.out hu5w;have hrlt:=HRG3.out.lt;have hrg7:=A3X HRG3.out (hk7 Hb O hrb.1) (hk7 r hrlt hrb.2);have haL:a∉L:=fun h=>by
    have:=((HI.out.mem a).1 h).2;rw[ha,HLK.out]at this;cases this
   refine⟨⟨fun z=>left z&&!z.sameKey (kI x),cnt3,L++[a],hrg7,?_,by simp[Value.ownBlock],?_,?_,?_,?_,HI.out.lw⟩,?_⟩
   ·rw[List.flatMap_append,List.length_append];have e1:([a]:List Ek).flatMap (A0W V)=[I J x,.slice ao m cp]:=by
     simp only[List.flatMap_cons,List.flatMap_nil,List.append_nil,A0W,ha,HVS.out]
    rw[e1];exact hown7
   ·rw[List.nodup_append];refine⟨HI.out.nd,Zs,fun y hy z hz=>?_⟩;simp at hz;subst hz;exact fun e=>haL (e▸hy)
   ·intro b;by_cases hb:b=a
    ·subst hb;constructor
     ·intro _;refine⟨by rw[ha];exact hTne,?_⟩;rw[ha,WideAt.sameKey_self (A4M.key (A8l _ hox))];simp
     ·intro _;simp
    ·have h1:(kI (hk b)).sameKey (kI x)=false:=Maps.sameKey_ne (fun e=>hb (A6t b a ((A80 _ _ (A9w b) hox e).trans ha.symm)));rw[h1];simp only[Bool.not_false,Bool.and_true,List.mem_append,List.mem_singleton,hb,or_false];exact HI.out.mem b
   ·refine⟨?_,?_,?_,O,fun g hg=>?_⟩
    ·exact hfr7.os.trans (HG3.out.os.trans HI.out.bl.os)
    ·exact hfr7.tape.trans (HG3.out.tape.trans HI.out.bl.tape)
    ·exact hfr7.output.trans (HG3.out.output.trans HI.out.bl.output)
    ·rw[hk7 g O (fun e=>by have:=(hubl g e).1;omega),HG3.out.block g (Nat.lt_of_lt_of_le hg HI.out.bl.size) (fun e=>by have:=HI.out.lw;simp at e;omega)];exact HI.out.bl.block g hg
   ·have:=HI.out.cn;have:=HLT.out;simp only[List.length_append,List.length_singleton];omega
   ·rw[hrg7.left_eq,HI.out.rg.left_eq];exact HLT.out
end
section
open Go.RowKit Go.Maps
theorem X6 {α β:Type}(f:α→List β):∀(L:List α) (j:Nat),((L.take j).flatMap f).length≤(L.flatMap f).length
 | [],j=>Zs
 | x::t,0=>Zs
 | x::t,j+1=>by
  have:=X6 f t j
  simp only[List.take_succ_cons,List.flatMap_cons,List.length_append]
  omega
theorem A8a (T:List W3):(A1I T).length=2+4*T.length:=by unfold A1I;rw[List.length_append,C8,Y6]
theorem A2G (T:Int→List W3)(a:∀h,(T h).length≤4000):∀(H:List Int) (last:Int),(R9 T last H).length≤H.length*20000
 | [],_=>by simp[R9]
 | h::t,last=>by
  have:=A2G T a t h
  have h1:=a h
  simp only[R9,List.length_append,C8,A8a,List.length_cons]
  omega
def SvP (R:List S2)(k W sc:Nat)(w:World)(e:Ending)(w':World):Prop:=
 ∃H,HsP (F3 k W R R.length) H∧e=.returned (.string ⟨(A2N k W sc R H).toArray⟩)∧Below w.heap.size w w'
theorem A3P (E:List Int)(j:Nat)(a:j<E.length):(E.take (j+1)).getLastD 0=E[j]:=by
 have e:E.take (j+1)=E.take j++[E[j]]:=by rw[List.take_add_one,List.getElem?_eq_getElem a];rfl
 rw[e,List.getLastD_eq_getLast?,List.getLast?_concat];rfl
theorem A8c (T:Int→List W3)(E:List Int)(j:Nat)(a:j<E.length):R9 T 0 (E.take (j+1))=R9 T 0 (E.take j)++(E5 (E[j] - (E.take j).getLastD 0).toNat 3++A1I (T E[j])):=by
 rw[List.take_add_one,List.getElem?_eq_getElem a];exact A1U T (E.take j) 0 E[j]
theorem A2T {k W:Nat}(a:1≤k)(c:k≤12)(d:1≤W)(R:List S2)(f:∀x∈R,good x.b)(h:Int)(g:F3 k W R R.length h≠[]):0≤h∧h<16777216:=by
 obtain⟨z,j⟩:=List.exists_mem_of_ne_nil _ g;obtain⟨i,hi,y,l,rfl,_⟩:=A0G k W R R.length h z j;have:=Z8 a c d (f _ (by rw[C1 _ _ _ hi];exact List.getElem_mem _)) l;exact⟨this.1,this.2.1⟩
theorem A3G {k W:Nat}(a:1≤k)(c:k≤12)(d:1≤W)(R:List S2)(f:∀x∈R,good x.b)(hs:C7 R R.length≤4000)(l:R.length<100000)(h:Int):∀y∈F3 k W R R.length h,0≤y.h∧y.h<100000∧0≤y.p∧y.p<100000:=by
 intro z g;obtain⟨i,hi,y,j,_,rfl⟩:=A0G k W R R.length h z g;have h1:=Z8 a c d (f _ (by rw[C1 _ _ _ hi];exact List.getElem_mem _)) j;have m:=T0 R (i+1) R.length hi;have e:C7 R (i+1)=C7 R i+(R.getD i S0).b.size:=rfl;refine⟨by show (0:Int)≤(i:Nat);omega,by show ((i:Nat):Int)<100000;omega,h1.2.2.1,?_⟩;show y.p<100000;omega
theorem B1i (T:Int→List W3)(H:List Int)(hH:HsP T H)(a:∀h,T h≠[]→0≤h∧h<16777216)(j:Nat)(b:j<H.length):0≤(H.take j).getLastD 0∧(H.take j).getLastD 0≤H[j]∧H[j]<16777216:=by
 have h1:=a H[j] ((hH.2 _).1 (List.getElem_mem _));cases j with
 | zero=>simp;exact h1
 | succ i=>
  rw[A3P H i O];have c:=a H[i] ((hH.2 _).1 (List.getElem_mem _));have:=List.pairwise_iff_getElem.1 hH.1 i (i+1) O b O;exact⟨c.1,O,h1.2⟩
theorem A5H (V:Int→Value)(E:List Ek)(g o:Nat)(cur:Array Value)(w:World)(a:w.heap[g]?=some (.cells cur 160 (0,0)))(b:∀j u,(E.flatMap (A0W V))[j]?=some u→cur[o+j]?=some u)(j:Nat)(c:j<E.length) :
 w.cell? ⟨g,o+j*2,none⟩=some (I J (hk E[j]))∧w.cell? ⟨g,o+j*2+1,none⟩=some (V (hk E[j])):=by
 have d:=A3Y (enc:=A0W V) (k:=2) (fun _=>rfl) E j 0 c O;have h1:=A3Y (enc:=A0W V) (k:=2) (fun _=>rfl) E j 1 c O;exact⟨A1 a (b _ _ (d.trans rfl)),A1 a (b _ _ (h1.trans rfl))⟩
theorem A9X (R:List S2)(base X k W sc:Nat)(w:World)(ap:1≤k)(aq:k≤12)(r:1≤W)(ac:W≤20)(bK:sc<18446744073709551616)(hR:∀x∈R,good x.b)(aT:R.length<100000)(aU:C7 R R.length≤4000)(aV:(M8 k W sc R).length≤500000000)(hI:IxP w base X R k W sc) :
 Calls Tryz.prog 29 #[.pointer (some ⟨X,0,none⟩)] w fun e w'=>SvP R k W sc w e w':=by
 obtain⟨rv,y,V,hX,hO,hT,_,_⟩:=hI;obtain⟨D,hD,h1,h2,h3⟩:=hT.map;obtain⟨T,ad⟩:=nm (F3 k W R R.length);have ar:=A3G ap aq r R hR aU aT;have au:=Y5 ap aq r R hR R.length (Nat.le_refl _);have av:=A2T ap aq r R hR;rw[←ad]at h2 ar au av;have aw:=hT.own;rw[←ad]at aw;have aW:=hid ad;obtain⟨n,hn⟩:=nm R.length;rw[←hn]at hO aT;have HN:=hid hn;have aX:=lt_of_block hX;have HX:Hid _:=hX;have HD:=hid hD;have H1:=(show Hid _ from h1);have H2:=(show Hid _ from h2);have H3:=(show Hid _ from h3);have HV:=(show Hid _ from aw);have bL:Hid _:=ar;have aY:=(show Hid _ from au);have ax:=(show Hid _ from av);have aZ:Hid _:=aV;have co:Maps.size D≤4000:=hD.size_le;obtain⟨P,cp,rfl⟩:=hO.form;have HO:=hid hO;have ba:=hD.lt;obtain⟨z,ae⟩:=nm (w.alloc (Obj.cells #[.slice none 0 0] 153));have ay:Below w.heap.size w z:=by rw[ae];exact (Below.refl _ _).alloc (Nat.le_refl _) _
 have af:z.heap[w.heap.size]?=some (.cells #[.slice none 0 0] 153 (0,0)):=by rw[ae];exact heap_alloc_new w _
 have bb:WrP z w.heap.size w.heap.size []:=⟨_,af,⟨by simp[Lib.byteCells],Or.inl ⟨rfl,rfl⟩⟩,Nat.le_refl _⟩;have az:=hid ay;have bc:∀{w':World},Below w.heap.size z w'→w'.heap[X]?=some (.cells (ixC k W sc (.slice P n cp) (.map (some y))) 147 (0,0)):=fun d=>(d.block X aX).trans ((ay.block X aX).trans HX.out);have A:=(show Hid _ from @bc);have c1:=A18 ⟨#[80,76,71,82]⟩ [] w.heap.size w.heap.size z bb Z;clear hX hO hT ad hn hD h1 h2 h3 aw ar au av aV af bb bc ay;go_enter Tryz.func29,Tryz.ntmps29;go_wp2_with fail;rw[←ae];clear ae;refine c1.mono ?_;rintro e w1 ⟨rfl,C⟩;have q0:w1.cell? ⟨X,0,none⟩=some (I J k):=A1 (A.out C.bl) (i:=0) rfl;have B:w1.cell? ⟨X,1,none⟩=some (I J W):=A1 (A.out C.bl) (i:=1) rfl;have q2:w1.cell? ⟨X,2,none⟩=some (.float .f64 sc):=A1 (A.out C.bl) (i:=2) rfl;have c2:=A4D k W sc A1v w.heap.size w.heap.size w1 C.wp O O bK Z;have bd:=hid C;clear C c1;go_wp2_with fail;refine c2.mono ?_;rintro e w2 ⟨rfl,ac⟩;have aA:=bd.out.trans ac;clear q0 B q2;have B:w2.cell? ⟨X,3,none⟩=some (.slice P n cp):=A1 (A.out aA.bl) (i:=3) rfl;have aB:(A0q k W sc).length=10:=by unfold A0q;simp only[List.length_append,C8]
 have aC:(A1v:List UInt8).length=4:=rfl;have c3:=F7 n 2 (A1v++A0q k W sc) w.heap.size w.heap.size w2 ac.wp O O (by rw[List.length_append,aB,aC];omega);have be:=hid aA;clear ac aA c2 bd;go_wp2_with fail;refine c3.mono ?_;rintro e w3 ⟨rfl,bf⟩;have ag:=be.out.trans bf;clear B;have B:w3.cell? ⟨X,3,none⟩=some (.slice P n cp):=A1 (A.out ag.bl) (i:=3) rfl;obtain⟨h4,ah⟩:=nm (A1v++A0q k W sc++E5 n 2);have bM:h4.length=16:=by rw[ah,List.length_append,List.length_append,aB,aC,C8]
 rw[←ah]at ag;have bg:Hid (M8 k W sc R=h4++R.flatMap O1):=by show _=_;rw[ah,HN.out];rfl
 have bh:=hid ag;have cq:(R.flatMap O1).length≤499999984:=by have:=aZ.out;rw[bg.out,List.length_append]at this;omega
 clear bf ag c3 be aB aC ah;have bi:n≠0→∃g o,P=some ⟨g,o,none⟩∧g<w.heap.size:=by
  intro h0;rcases HO.out.2 with ⟨_,d⟩ | ⟨g,o,cap,cur,h,_,Q,_⟩
  ·exact absurd d h0
  ·simp only[Value.slice.injEq]at h;exact⟨g,o,h.1,lt_of_block Q⟩
 have bj:Hid _:=bi;clear bi;go_wp2_with fail;go_loopw [27] (fun i wr=>∃j:Nat,j≤n∧i=I J j∧H5 w.heap.size w.heap.size (h4++(R.take j).flatMap O1) z wr) (fun i _=>n - (RowKit.intOf i).toNat);case atStart=>exact⟨0,Nat.zero_le _,rfl,by simpa using bh.out⟩
 case round=>
  obtain⟨j,hj,rfl,r⟩:=hrel;have ai:Hid _:=r;clear r;by_cases bN:j<n
  ·obtain⟨g,o,rfl,aj⟩:=bj.out O;have bk:j<R.length:=by have:=HN.out;omega
   have S:Below w.heap.size w wr:=az.out.trans ai.out.bl;have p:=(HO.out.other (w':=wr) (fun g' _ bO=>S.block g' bO)).seqs j bk;obtain⟨x,f⟩:=nm (R[j]);rw[←f]at p;obtain⟨d0,d1⟩:=p;have F:Hid ((R.take (j+1)).flatMap O1=(R.take j).flatMap O1++O1 x):=by
    show _=_;rw[List.take_add_one,List.getElem?_eq_getElem bk,List.flatMap_append,f];simp
   have bm:(O1 x).length=x.n.size+x.b.size+3:=by
    unfold O1;rw[List.length_append,List.length_append,List.length_append,C8,C8];show 1+x.n.size+2+x.b.size=_;omega
   have bn:=X6 O1 R (j+1);rw[F.out,List.length_append,bm]at bn;have bo:Below wr.heap.size wr (wr.alloc (Obj.cells #[.string x.n,.string x.b] 88)):=(Below.refl _ _).alloc (Nat.le_refl _) _;have aD:=ai.out.more bo;have af:(wr.alloc (Obj.cells #[.string x.n,.string x.b] 88)).heap[wr.heap.size]?=some (.cells #[.string x.n,.string x.b] 88 (0,0)):=heap_alloc_new wr _;have c5:=A2D x _ w.heap.size w.heap.size _ aD.wp (by rw[List.length_append,bM];omega);have bp:Hid _:=aD;clear f aD bo bn bm af S;go_wp2_with fail;refine c5.mono ?_;rintro e w5 ⟨rfl,bq⟩;have bP:Hid _:=bp.out.trans bq;clear c5 bq bp;go_wp2;go_roundw;case rel=>
    refine⟨j+1,O,Zn,?_⟩;rw[F.out,←List.append_assoc];exact bP.out
   case measure=>simp[RowKit.intOf];omega
  ·have bQ:j=n:=O;subst bQ;have Y:Hid (H5 w.heap.size w.heap.size (M8 k W sc R) z wr):=by
    have:=ai.out;rw[HN.out,List.take_length,←bg.out]at this;exact this
   have S:Below w.heap.size w wr:=az.out.trans Y.out.bl;have q4:wr.cell? ⟨X,4,none⟩=some (.map (some y)):=A1 (A.out Y.out.bl) (i:=4) rfl;have br:wr.ownsMap Tryz.prog 3 T8 y 4000 D:=ownsMap_at HD.out (S.block y ba);have bR:=aZ.out;have c6:=F7 (Maps.size D) 2 (M8 k W sc R) w.heap.size w.heap.size wr Y.out.wp O O O;clear B ai bj bh;go_wp2_with (at_len;refine wpList_len_own _ rfl _ 145 rfl 3 102 Tryz.underlying145 T8 y 4000 D rfl br ?_);refine c6.mono ?_;rintro e w6 ⟨rfl,bs⟩;have ak:=Y.out.trans bs;have al:Below w.heap.size w w6:=az.out.trans ak.bl;have c7:=A5j T V D X y base k W sc (.slice P j cp) w6 (A.out ak.bl) (ownsMap_at HD.out (al.block y ba)) H1.out H2.out H3.out (fun x f=>(HV.out x f).other (fun g Q aj=>al.block g aj)) ax.out;have aE:=hid ak;clear bs ak c6 Y S br q4;go_wp2_with fail;refine c7.mono ?_;rintro e w7 ⟨ev,E,rfl,aF,hE,bt,aG,aH,bS⟩;obtain⟨eo,ec,rfl⟩:=hE.form;obtain⟨H,hH⟩:=nm (E.map hk);have bu:H.length=E.length:=by rw[hH,List.length_map]
   obtain⟨m,hm⟩:=nm E.length;have bv:HsP T H:=by
    refine⟨by rw[hH,List.pairwise_map];exact bt,fun h=>?_⟩;rw[hH,List.mem_map];constructor
    ·rintro⟨a,ha,rfl⟩;exact (aG a).1 ha
    ·intro bw;have hb:=ax.out h bw;have ea:hk (⟨h.toNat,O⟩:Ek)=h:=by unfold hk;simp;omega
     exact⟨⟨h.toNat,O⟩,(aG _).2 (by rw[ea];exact bw),ea⟩
   have bx:=hid bv;have bT:=hid hH;have aI:Hid (H.length=m):=bu.trans hm.symm;have bU:=hid hm.symm;rw[←hm]at hE aH bS ⊢;have bV:=hid aH;have HE:=hid hE;have aJ:Below w.heap.size w w7:=al.trans (aF.mono (by have:=aE.out.wp.lt;omega));obtain⟨hd,am⟩:=nm (M8 k W sc R++E5 (Maps.size D) 2);have cr:hd.length≤500000002:=by rw[am,List.length_append,C8];omega
   have bW:Hid (H5 w.heap.size w.heap.size hd w7 w7):=H5.refl (by rw[am];exact aE.out.wp.kept aF);have bX:=hid am;have bY:=hid aJ;have bZ:Hid (∀x,okI x→∃a c,V x=.slice a (T x).length c∧RdH w7 a (T x)):=by
    intro x f;obtain⟨a,c,hf⟩:=(HV.out x f).form;have d:=(HV.out x f).other (w':=w7) (fun g Q aj=>aJ.block g aj);rw[hf]at d;exact⟨a,c,hf,RdH.of d⟩
   clear hE bt aG aH bv hH bu hm c7 aE al aF aJ am bR;go_wp2_with fail;go_loopw [43,6] (fun i lv wr=>∃j:Nat,j≤m∧i=I J j∧lv=I J ((H.take j).getLastD 0)∧H5 w.heap.size w.heap.size (hd++R9 T 0 (H.take j)) w7 wr) (fun i _ _=>m - (RowKit.intOf i).toNat);case atStart=>exact⟨0,Nat.zero_le _,rfl,rfl,by simpa[R9] using bW.out⟩
   case round=>
    obtain⟨q,hq,rfl,rfl,r⟩:=hrel;have aK:Hid _:=r;clear r;by_cases bN:q<m
    ·have ca:q<E.length:=by have:=bU.out;omega
     have aL:q<H.length:=by have:=aI.out;omega
     obtain⟨g,o,cur,cb,aa,bz⟩:∃g o cur,eo=some ⟨g,o,none⟩∧w7.heap[g]?=some (.cells cur 160 (0,0))∧∀j u,(E.flatMap (A0W V))[j]?=some u→cur[o+j]?=some u:=by
      rcases HE.out.2 with ⟨_,d⟩ | ⟨g,o,cap,cur,h,_,Q,_,_,_,p⟩
      ·omega
      ·simp only[Value.slice.injEq]at h;exact⟨g,o,cur,h.1,Q,p⟩
     subst cb;have bA:wr.heap[g]?=some (.cells cur 160 (0,0)):=(aK.out.kp g (fun cs d=>by rw[aa]at d;simp at d) (fun cs d=>by rw[aa]at d;simp at d) (lt_of_block aa)).trans aa;obtain⟨d0,d1⟩:=A5H V E g o cur wr bA bz q ca;have eH:H[q]=hk E[q]:=by simp[bT.out]
     rw[←eH]at d0 d1;have aM:=B1i T H bx.out ax.out q aL;have F:=(show Hid _ from A8c T H q aL);have bB:=(show Hid _ from A3P H q aL);obtain⟨x,f⟩:=nm (H[q]);obtain⟨l,hl⟩:=nm ((H.take q).getLastD 0);rw[←f]at d0 d1 aM F bB;rw[←hl]at aM F ⊢;have cc:okI x:=A2X O aM.2.2;obtain⟨G,K,aN,bC⟩:=bZ.out x cc;obtain⟨t,ht⟩:=nm ((T x).length);have cd:=aY.out x;rw[←ht]at aN cd;rw[aN]at d1;obtain⟨M,s⟩:=nm (hd++R9 T 0 (H.take q));have ct:M.length≤500000002+80000000:=by
      have h1:=A2G T (fun h=>Nat.le_trans (aY.out h) aU) (H.take q) 0;rw[List.length_take]at h1;have h2:=Nat.mul_le_mul_right 20000 (show min q H.length≤4000 by omega);rw[s,List.length_append];omega
     have HM:=hid s;have ce:Hid (H5 w.heap.size w.heap.size M w7 wr):=by rw[s];exact aK.out
     obtain⟨wB,an⟩:=nm (wr.alloc (Obj.cells #[I J x,.slice G t K] 160));have bD:Below wr.heap.size wr wB:=by rw[an];exact (Below.refl _ _).alloc (Nat.le_refl _) _
     have L:wB.heap[wr.heap.size]?=some (.cells #[I J x,.slice G t K] 160 (0,0)):=by rw[an];exact heap_alloc_new wr _
     have aO:=ce.out.more bD;have bE:∀{w':World},WrK wB w'→w'.heap[wr.heap.size]?=some (.cells #[I J x,.slice G t K] 160 (0,0)):=fun d=>(d _ (fun cs p=>by rw[L]at p;simp at p) (fun cs p=>by rw[L]at p;simp at p) (lt_of_block L)).trans L;obtain⟨N,cu⟩:∃N:Nat,x - l=N:=⟨(x - l).toNat,O⟩;have cf:IntKind.i64.wrap (x - l)=N:=Zw;have c8:=F7 N 3 M w.heap.size w.heap.size wB aO.wp O O O;have q0:wB.cell? ⟨wr.heap.size,0,none⟩=some (I J x):=A1 L rfl;have bF:=(show Hid _ from @bE);have aP:Hid _:=aO;have cg:=hid bC;have ch:Hid ((T x).length=t):=ht.symm;have ci:Hid ((x - l).toNat=N):=by show _=_;omega
     clear bE bD L aO f hl ht s aN bA aa bz bC eH;go_wp2_with fail;rw[←an];clear an d0 d1 cf;refine c8.mono ?_;rintro e w8 ⟨rfl,ab⟩;have B:w8.cell? ⟨wr.heap.size,1,none⟩=some (.slice G t K):=A1 (bF.out ab.kp) rfl;have bG:=aP.out.trans ab;have c9:=A8n (T x) t ch.out G K (M++E5 N 3) w.heap.size w.heap.size w8 ab.wp (bL.out x) (cg.out.kept bG.kp) O (by rw[List.length_append,C8];omega);have bH:=hid ab;clear ab bG c8 q0;go_wp2_with fail;refine c9.mono ?_;rintro e w9 ⟨rfl,bI⟩;have aQ:=bH.out.trans bI;have q2:w9.cell? ⟨wr.heap.size,0,none⟩=some (I J x):=A1 (bF.out aQ.kp) rfl;have cj:Hid _:=aP.out.trans aQ;clear bI aQ c9 B bH aP;go_wp2_with fail;go_roundw;case rel=>
      refine⟨q+1,O,Zn,by rw[bB.out],?_⟩;rw[F.out,ci.out,←List.append_assoc,←List.append_assoc,←HM.out];exact cj.out
     case measure=>simp[RowKit.intOf];omega
    ·have ck:q=m:=O;obtain⟨M,s⟩:=nm (hd++R9 T 0 H);have aR:H5 w.heap.size w.heap.size M w7 wr:=by
      have:=aK.out;rw[ck,←aI.out,List.take_length,←s]at this;exact this
     have cl:Hid (M=A2N k W sc R H):=by
      show _=_;rw[s,bX.out,←bV.out,←aI.out,aW.out];rfl
     have cm:Hid (HsP (F3 k W R R.length) H):=by
      have:=bx.out;rw[aW.out]at this;exact this
     obtain⟨v,bJ,aS,_⟩:=aR.wp;have q0:wr.cell? ⟨w.heap.size,0,none⟩=some v:=A1 bJ rfl;obtain⟨G,K,rfl⟩:=A2P aS;have cv:=A27 rfl (w:=wr) (A3.of_ownsRow aS (Nat.le_refl _));have cn:Hid (Below w.heap.size w wr):=bY.out.trans aR.bl;clear bJ aS aR s;go_wp2_with fail;go_ret;exact⟨H,cm.out,by rw[cl.out];rfl,cn.out⟩
end
def NxI (last best:Int)(D:List (Int×W3)):Prop:=
 (best=-1∧∀p∈D,p.1≤last)∨(last<best∧0≤best∧(∃p∈D,p.1=best)∧∀p∈D,last<p.1→best≤p.1)
theorem NxI.nil (last:Int):NxI last (-1) []:=Or.inl ⟨rfl,fun p a=>by cases a⟩
theorem NxI.take {last b:Int}{D:List (Int×W3)}(h:NxI last b D)(p:Int×W3)(c:0≤p.1)(h1:last<p.1)(f:b<0∨p.1<b):NxI last p.1 (D++[p]):=by
 refine Or.inr ⟨h1,c,⟨p,Zs,rfl⟩,?_⟩;intro x a d;rcases List.mem_append.1 a with a|a
 ·rcases h with⟨_,h⟩|⟨g1,g2,g3,g4⟩
  ·have:=h x a;omega
  ·have:=g4 x a d;omega
 ·rw[List.mem_singleton]at a;subst a;omega
theorem NxI.leave {last b:Int}{D:List (Int×W3)}(h:NxI last b D)(p:Int×W3)(f:0≤p.1)(h1:¬(last<p.1∧(b<0∨p.1<b))):NxI last b (D++[p]):=by
 rcases h with⟨g0,h⟩|⟨g1,g2,⟨y,c,g3⟩,g4⟩
 ·refine Or.inl ⟨g0,fun x a=>?_⟩;rcases List.mem_append.1 a with a|a
  ·exact h x a
  ·rw[List.mem_singleton]at a;subst a;omega
 ·refine Or.inr ⟨g1,g2,⟨y,List.mem_append_left _ c,g3⟩,fun x a d=>?_⟩;rcases List.mem_append.1 a with a|a
  ·exact g4 x a d
  ·rw[List.mem_singleton]at a;subst a;omega
theorem A9p (L:List (Int×W3))(h:Int):N6 L h≠[]↔∃p∈L,p.1=h:=by
 unfold N6;constructor
 ·intro h1;cases c:L.filter fun p=>eqI h p.1 with
  |nil=>rw[c]at h1;exact absurd rfl h1
  |cons a t=>
   have b:a∈L.filter fun p=>eqI h p.1:=by rw[c];exact List.mem_cons_self
   obtain⟨d,f⟩:=List.mem_filter.1 b;exact⟨a,d,((O2 _ _).1 f).symm⟩
 ·rintro⟨p,g,rfl⟩ h1;have b:p∈L.filter fun q=>eqI p.1 q.1:=List.mem_filter.2 ⟨g,(O2 _ _).2 rfl⟩;rw[List.map_eq_nil_iff]at h1;rw[h1]at b;cases b
structure SvI (L:List (Int×W3))(A:List Int)(last:Int):Prop where
 pw:A.Pairwise (·<·)
 mem:∀h∈A,(∃p∈L,p.1=h)∧h≤last
 all:∀p∈L,p.1≤last→p.1∈A
 lst:last=A.getLastD (-1)
theorem SvI.nil (L:List (Int×W3))(a:∀p∈L,0≤p.1):SvI L [] (-1):=
 {pw:=List.Pairwise.nil,mem:=(fun h b=>absurd b List.not_mem_nil),all:=(fun p c h=>by have:=a p c;omega),lst:=rfl}
theorem SvI.more {L:List (Int×W3)}{A:List Int}{last d:Int}(h:SvI L A last)(i:NxI last d L)(f:0≤d):SvI L (A++[d]) d:=by
 rcases i with⟨l,_⟩|⟨g1,g2,g3,g4⟩
 ·omega
 ·refine⟨?_,?_,?_,?_⟩
  ·rw[List.pairwise_append];exact⟨h.pw,List.pairwise_singleton _ _,fun a j b f=>by rw[List.mem_singleton]at f;subst f;have:=(h.mem a j).2;omega⟩
  ·intro x c;rcases List.mem_append.1 c with c|c
   ·have:=h.mem x c;exact⟨this.1,O⟩
   ·rw[List.mem_singleton]at c;subst c;exact⟨g3,O⟩
  ·intro p g hle;by_cases k:p.1≤last
   ·exact List.mem_append_left _ (h.all p g k)
   ·have:=g4 p g O;have e:p.1=d:=O;rw[e];simp
  ·rw[List.getLastD_eq_getLast?,List.getLast?_concat];rfl
theorem SvI.done {L:List (Int×W3)}{A:List Int}{last a:Int}(h:SvI L A last)(c:NxI last a L)(f:a<0):HsP (N6 L) A:=by
 rcases c with⟨_,h1⟩|⟨g1,g2,_⟩
 ·refine⟨h.pw,fun x=>?_⟩;rw[A9p];constructor
  ·intro d;exact(h.mem x d).1
  ·rintro⟨p,b,rfl⟩;exact h.all p b (h1 p b)
 ·omega
theorem SvI.len {L:List (Int×W3)}{A:List Int}{last:Int}(h:SvI L A last):A.length≤L.length:=by
 have b:A.Nodup:=h.pw.imp (fun h=>O);have hs:∀x∈A,x∈L.map (·.1):=fun x c=>by
  obtain⟨⟨p,f,e⟩,_⟩:=h.mem x c;exact List.mem_map.2 ⟨p,f,e⟩
 have:∀(A B:List Int),A.Nodup→(∀x∈A,x∈B)→A.length≤B.length:=by
  intro A;induction A with
  |nil=>intro B _ _;exact Nat.zero_le _
  |cons a t g=>
   intro B b hs;rw[List.nodup_cons]at b;have d:=hs a List.mem_cons_self;have h1:=g (B.erase a) b.2 (fun x c=>by
    have i:=hs x (List.mem_cons_of_mem _ c);have j:x≠a:=fun e=>by rw[e]at c;exact b.1 c
    exact(List.mem_erase_of_ne j).2 i)
   have k:=List.length_erase_of_mem d;have l:=List.length_pos_of_mem d;simp only[List.length_cons];omega
 have h1:=this A (L.map (·.1)) b hs;rwa [List.length_map]at h1
theorem SvI.ge {L:List (Int×W3)}{A:List Int}{last:Int}(h:SvI L A last)(c:∀p∈L,0≤p.1∧p.1<16777216):-1≤last∧last<16777216∧A.getLastD 0=(if last<0 then 0 else last):=by
 have a:=h.lst;rcases List.eq_nil_or_concat A with e|⟨B,b,e⟩
 ·subst e;simp at a;subst a;exact⟨O,O,Zs⟩
 ·subst e;rw[List.concat_eq_append]at *;rw[List.getLastD_eq_getLast?,List.getLast?_concat]at a⊢;simp only[Option.getD_some]at a⊢;obtain⟨⟨p,d,e⟩,_⟩:=h.mem b Zs;have:=c p d;subst a;rw[if_neg O];exact⟨O,O,rfl⟩
def A2i (L:List (Int×W3))(last:Int):Nat:=(L.filter fun p=>decide (last<p.1)).length
theorem Z9 (a:Int×W3)(t:List (Int×W3))(last:Int):A2i (a::t) last=(if last<a.1 then 1 else 0)+A2i t last:=by
 unfold A2i;rw[List.filter_cons];by_cases h:last<a.1
 ·rw[if_pos (by simpa using h),if_pos h,List.length_cons];omega
 ·rw[if_neg (by simpa using h),if_neg h];omega
theorem A9v (L:List (Int×W3)){last b:Int}(h:last<b):A2i L b≤A2i L last:=by
 induction L with
 |nil=>exact Nat.le_refl _
 |cons a t c=>
  rw[Z9,Z9];split<;>split<;>omega
theorem A5b {L:List (Int×W3)}{last c:Int}(d:NxI last c L)(f:0≤c):A2i L c<A2i L last:=by
 rcases d with⟨h,_⟩|⟨g1,g2,⟨p,b,rfl⟩,g4⟩
 ·omega
 ·clear g4 g2 f;induction L with
  |nil=>cases b
  |cons a t g=>
   have hle:=A9v t g1;rw[Z9,Z9];rcases List.mem_cons.1 b with e|b
   ·subst e;rw[if_neg O,if_pos g1];omega
   ·have:=g b;split<;>split<;>omega
end Mn
end Go.Proofs.YtilcmkiihefkkaaGreatDoor
