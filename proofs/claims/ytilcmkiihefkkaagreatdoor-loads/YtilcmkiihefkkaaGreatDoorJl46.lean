import Derived.Test.YtilcmkiihefkkaaGreatDoorJl45
import Derived.Test.YtilcmkiihefkkaaGreatDoorJl52
set_option linter.unusedVariables false
set_option linter.unusedSimpArgs false
set_option maxRecDepth 1000000
set_option maxHeartbeats 64000000
open Go.Value renaming int→I
open Go.IntKind renaming i64→J
namespace Go.Proofs.YtilcmkiihefkkaaGreatDoor
namespace Mn
section
open Go.RowKit Go.Shelf Go.Lib
attribute [local go_sem] C0
theorem A9d (R:List S2)(X k W sc:Nat)(rn rb:ByteArray)(w:World)(h:300<rb.size)(b:rb.size≤140737488351232) :
 Calls Tryz.prog 52 #[.pointer (some ⟨X,0,none⟩),.agg #[.string rn,.string rb]] w fun e w'=>FiP R k W sc rn rb w e w':=by
 have c:(300:Int)<rb.size:=O;go_enter Tryz.func52,Tryz.ntmps52;go_wp2_with fail;have a:((w.alloc (Obj.cells #[Value.string rn,Value.string rb] 88)).alloc (Obj.cells #[Value.string {data:=#[]},I J 0,I J 0,Value.bool false,Value.string {data:=#[]},I J 0,I J 0,Value.float FloatKind.f64 0,Value.float FloatKind.f64 0,I J 0,Value.string {data:=#[]},I J 0,Value.float FloatKind.f64 0] 71)).heap[w.heap.size+1]?=some (Obj.cells #[Value.string {data:=#[]},I J 0,I J 0,Value.bool false,Value.string {data:=#[]},I J 0,I J 0,Value.float FloatKind.f64 0,Value.float FloatKind.f64 0,I J 0,Value.string {data:=#[]},I J 0,Value.float FloatKind.f64 0] 71 (0,0)):=heap_alloc2_new w _ _;refine bodyPost_ret (D1 rfl _ _ (w.heap.size+1) 71 _ _ _ rfl a Tryz.underlying71 rfl U) rfl ?_;exact⟨none,Or.inl ⟨h,rfl⟩,rfl,((Below.refl _ _).alloc (Nat.le_refl _) _).alloc Zs _⟩
theorem A7p (R:List S2)(base X k W sc:Nat)(rn rb:ByteArray)(w:World)(av:1≤k)(ag:k≤12)(M:1≤W)(aP:W≤20)(hR:∀x∈R,good x.b∧1≤x.n.size∧x.n.size≤8000∧x.b.size≤4000)(hl:R.length<100000)(aQ:C7 R R.length≤4000)(hI:IxP w base X R k W sc)(h:rb.size≤300)(hg:good rb)
 (aB:Lib.TabBelow Tryz.prog w.heap.size w "internal/strconv.uint64pow10" .u64 Lib.pow10Tab)(aC:LtP w) :
 Calls Tryz.prog 52 #[.pointer (some ⟨X,0,none⟩),.agg #[.string rn,.string rb]] w fun e w'=>FiP R k W sc rn rb w e w':=by
 have bl:¬(300:Int)<rb.size:=O;have HI:=A4 hI;obtain⟨rv,Hb,V0,hX,hO,hT,_,_⟩:=hI;have HX:=A4 hX;have aD:X<w.heap.size:=lt_of_block hX;have HO:=A4 hO;have N:=A4 hR;have aR:=A4 aB;have aS:=A4 aC;have aw:=A4 hg;have cA:=fun c ah=>A5P R base X k W sc rb c av ag M aP (fun x P=>(hR x P).1) hl aQ ah O hg;clear hX hO hT hR aB aC hg;go_enter Tryz.func52,Tryz.ntmps52;go_wp2_with fail;rename_i Q0 K0 ai;obtain⟨z,Q⟩:=A8 ((w.alloc (Obj.cells #[Value.string rn,Value.string rb] 88)).alloc (Obj.cells #[Value.string {data:=#[]},I J 0,I J 0,Value.bool false,Value.string {data:=#[]},I J 0,I J 0,Value.float FloatKind.f64 0,Value.float FloatKind.f64 0,I J 0,Value.string {data:=#[]},I J 0,Value.float FloatKind.f64 0] 71));rw[←Q];have G:Below w.heap.size w z:=by rw[Q];exact((Below.refl _ _).alloc (Nat.le_refl _) _).alloc Zs _
 have ax:z.heap[w.heap.size]?=some (.cells #[Value.string rn,Value.string rb] 88 (0,0)):=by rw[Q,Below.heap_alloc _ _ _ Zs];exact heap_alloc_new w _
 have aj:z.heap[w.heap.size+1]?=some (.cells #[Value.string {data:=#[]},I J 0,I J 0,Value.bool false,Value.string {data:=#[]},I J 0,I J 0,Value.float FloatKind.f64 0,Value.float FloatKind.f64 0,I J 0,Value.string {data:=#[]},I J 0,Value.float FloatKind.f64 0] 71 (0,0)):=by rw[Q];exact heap_alloc2_new w _ _
 have bm:z.heap.size=w.heap.size+2:=by rw[Q];simp
 clear Q;have g3:∀c:World,(∀j,j<w.heap.size+2→c.heap[j]?=z.heap[j]?)→c.cell? ⟨w.heap.size,1,none⟩=some (.string rb)∧c.cell? ⟨X,0,none⟩=some (I J k):=by
  intro c ah;exact⟨A1 ((ah _ O).trans ax) rfl,A1 ((ah X O).trans ((G.block X aD).trans HX.o)) rfl⟩
 refine A5 11 (fun c=>c.cell? ⟨w.heap.size,1,none⟩=some (.string rb)∧c.cell? ⟨X,0,none⟩=some (I J k)) U (g3 z.drew (fun _ _=>rfl)) (fun hH=>?_);refine A2 0 ?_;refine A2 1 ?_;refine A2 2 ?_;refine A2 4 ?_;refine A2 5 ?_;refine A2 6 ?_;refine A2 7 ?_;refine A2 8 ?_;refine wpS 3 fun K l=>?_;go_simp;go_at_call 78;refine(cA z.drew (HI.o.kept (w':=z.drew) (fun g hg=>G.block g hg))).mono ?_;rintro e w1 ⟨ac,aT⟩;have S:Below z.heap.size z w1:=⟨ac.os,ac.tape,ac.output,ac.size,ac.block⟩;have hH:=g3 w1 (fun j p=>S.block j O);rcases aT with⟨aU,rfl⟩|⟨ak,Gb,V,n,rfl,hS,aV,ay,bn⟩
 ·refine F7 l hH ?_;clear l K;refine wpS 9 fun K l=>?_;go_simp;go_at_call 77;refine(A9O _ _).mono ?_;rintro e w2 ⟨ao,cp,rfl,al⟩;have A:Below z.heap.size z w2:=S.trans (al.mono S.size);have hH:=g3 w2 (fun j p=>A.block j O);refine F7 l hH ?_;clear l K;refine A2 10 ?_;refine M7 ?_;refine ai _ _ ?_;clear ai hH;have d:=(A.block (w.heap.size+1) O).trans aj;have r:Below w.heap.size w w2:=G.trans (A.mono O);go_wp2_with fail;rename_i K4 B;refine A5 15 (fun _=>True) U trivial (fun hH=>?_);refine A2 0 ?_;refine A2 1 ?_;refine A2 2 ?_;refine A2 3 ?_;refine F0 4 ?_;refine F0 5 ?_;refine F0 6 ?_;refine F0 7 ?_;refine F0 8 ?_;refine F0 9 ?_;refine F0 10 ?_;refine F0 11 ?_;refine F0 12 ?_;refine F0 13 ?_;refine A2 14 ?_;refine M7 ?_;refine B _ _ ?_;clear B hH;have v0:=A1 d (i:=0) rfl;have v1:=A1 d (i:=1) rfl;have v2:=A1 d (i:=2) rfl;have v3:=A1 d (i:=3) rfl;have v4:=A1 d (i:=4) rfl;have v5:=A1 d (i:=5) rfl;have v6:=A1 d (i:=6) rfl;have v7:=A1 d (i:=7) rfl;have v8:=A1 d (i:=8) rfl;have v9:=A1 d (i:=9) rfl;have v10:=A1 d (i:=10) rfl;have v11:=A1 d (i:=11) rfl;have v12:=A1 d (i:=12) rfl;have vz:∀off,w2.frozen? ⟨w.heap.size+1,off,none⟩=false:=fun off=>frozen_of_row _ _ _ _ _ d;go_wp2_with fail;have s:=(Y0 (.string ⟨#[]⟩) (I J 0) (I J 0) (.bool false) (.string ⟨#[]⟩) (I J 0) (I J 0) (.float .f64 0) (.float .f64 0) (I J 0) (.string ⟨#[]⟩) (I J 0) (.float .f64 0) d).drew;refine bodyPost_ret (D1 rfl _ _ (w.heap.size+1) 71 _ _ _ rfl s.here Tryz.underlying71 rfl U) rfl ?_;refine⟨none,Or.inr (Or.inl ⟨h,aU,rfl⟩),rfl,r.trans (s.below O)⟩
 ·refine F7 l hH ?_;clear l K;refine wpS 9 fun K l=>?_;go_simp;go_at_call 77;have aE:∀q,(T9 k W R rb).2 q≠[]→0≤q.1∧q.1<100000:=by
   intro q hq;obtain⟨a,ha⟩:=List.exists_mem_of_ne_nil _ hq;have:=(A77 k W R rb q a ha).bounds av ag M (fun x P=>(N.o x P).1) aw.o;omega
  refine(A7h (T9 k W R rb).2 V Gb _ n k w1 hS aV aE ay).mono ?_;rintro e w2 ⟨lv,Vc,C,rfl,al,am,aF,an,ap,bo⟩;have A:Below z.heap.size z w2:=S.trans (al.mono S.size);have hH:=g3 w2 (fun j p=>A.block j O);refine F7 l hH ?_;clear l K;refine A2 10 ?_;refine M7 ?_;refine ai _ _ ?_;clear ai hH;cases C with
  |nil=>
   obtain⟨ao,cp,rfl⟩:=am.form;have d:=(A.block (w.heap.size+1) O).trans aj;have r:Below w.heap.size w w2:=G.trans (A.mono O);go_wp2_with fail;rename_i K4 B;refine A5 15 (fun _=>True) U trivial (fun hH=>?_);refine A2 0 ?_;refine A2 1 ?_;refine A2 2 ?_;refine A2 3 ?_;refine F0 4 ?_;refine F0 5 ?_;refine F0 6 ?_;refine F0 7 ?_;refine F0 8 ?_;refine F0 9 ?_;refine F0 10 ?_;refine F0 11 ?_;refine F0 12 ?_;refine F0 13 ?_;refine A2 14 ?_;refine M7 ?_;refine B _ _ ?_;clear B hH;have v0:=A1 d (i:=0) rfl;have v1:=A1 d (i:=1) rfl;have v2:=A1 d (i:=2) rfl;have v3:=A1 d (i:=3) rfl;have v4:=A1 d (i:=4) rfl;have v5:=A1 d (i:=5) rfl;have v6:=A1 d (i:=6) rfl;have v7:=A1 d (i:=7) rfl;have v8:=A1 d (i:=8) rfl;have v9:=A1 d (i:=9) rfl;have v10:=A1 d (i:=10) rfl;have v11:=A1 d (i:=11) rfl;have v12:=A1 d (i:=12) rfl;have vz:∀off,w2.frozen? ⟨w.heap.size+1,off,none⟩=false:=fun off=>frozen_of_row _ _ _ _ _ d;go_wp2_with fail;have s:=(Y0 (.string ⟨#[]⟩) (I J 0) (I J 0) (.bool false) (.string ⟨#[]⟩) (I J 0) (I J 0) (.float .f64 0) (.float .f64 0) (I J 0) (.string ⟨#[]⟩) (I J 0) (.float .f64 0) d).drew;refine bodyPost_ret (D1 rfl _ _ (w.heap.size+1) 71 _ _ _ rfl s.here Tryz.underlying71 rfl U) rfl ?_;refine⟨none,Or.inr (Or.inr ⟨h,ak,[],⟨an,ap⟩,rfl⟩),rfl,r.trans (s.below O)⟩
  |cons a t=>
   obtain⟨r0,p0,r1,p1,D⟩:=A1A k W R rb (sd a) av ag M (fun x P=>⟨(N.o x P).1,(N.o x P).2.2.2⟩) aw.o h ((ap a).1 (List.mem_cons_self)) (ay _);have v:=(A.block (w.heap.size+1) O).trans aj;have aW:=(A.block w.heap.size O).trans ax;have h2X:=(A.block X O).trans ((G.block X aD).trans HX.o);have r:Below w.heap.size w w2:=G.trans (A.mono O);have T:=aF a (List.mem_cons_self);have eM:A13 ((T9 k W R rb).2 (sd a)) k=N5 k ((T9 k W R rb).2 (sd a)):=by unfold A13;rw[if_pos D.err]
   have eQ:D5 ((T9 k W R rb).2 (sd a)) k=chQ k ((T9 k W R rb).2 (sd a)):=by unfold D5;rw[if_pos D.err]
   rw[eM]at T;obtain⟨m,hm⟩:=A8 ((N5 k ((T9 k W R rb).2 (sd a))).length);have aX:0<m:=by rw[hm];exact D.len
   have aY:m≤400:=by rw[hm];exact(A04 _ _ D.err).2.2
   rw[←hm]at T;obtain⟨gc,Y,cc,az⟩:∃gc Y cc,Vc (sd a)=.slice (some ⟨gc,Y,none⟩) m cc:=by
    rcases T.2 with⟨_,h0⟩|⟨g',o',cap,cur,hv,_⟩
    ·omega
    ·exact⟨g',o',cap,hv⟩
   rw[az]at T;obtain⟨sq,ad⟩:=A8 (D5 ((T9 k W R rb).2 (sd a)) k);obtain⟨oq,ae⟩:=A8 (A9X (T9 k W R rb).2 k (a::t));have aZ:4*(k:Int)≤sq∧sq≤100000:=by rw[ad,eQ];exact⟨D.lo,D.hi⟩
   have aG:0≤oq∧oq≤sq:=by
    rw[ae,ad];cases t with
    |nil=>exact⟨Int.le_refl _,(S9 _ _).1⟩
    |cons b F=>
     refine⟨(S9 _ _).1,?_⟩;have aH:ltC (fun q=>D5 ((T9 k W R rb).2 q) k) a b:=(List.pairwise_cons.1 an).1 b (List.mem_cons_self);unfold ltC at aH;dsimp only at aH;show D5 ((T9 k W R rb).2 (sd b)) k≤_;omega
   obtain⟨nl,af⟩:=A8 ((a::t).length);have bp:(0:Int)<(nl:Int):=by rw[af];simp only[List.length_cons];omega
   have bq:0<nl:=O;have br:((nl:Int)==0)=false:=by simp only[beq_eq_false_iff_ne];omega
   obtain⟨g,o,cp,rfl,aa⟩:∃g o cp,lv=.slice (some ⟨g,o,none⟩) nl cp∧∀j u,((a::t).flatMap (A1f Vc fun q=>D5 ((T9 k W R rb).2 q) k))[j]?=some u→w2.cell? ⟨g,o+j,none⟩=some u:=by
    rcases am.2 with⟨_,h0⟩|⟨g',o',cap,cur,hv,_,ba,_,_,_,hc⟩
    ·simp at h0
    ·exact⟨g',o',cap,by rw[hv,af],fun j u p=>A1 ba (hc j u p)⟩
   have bs:w.heap.size+2≤g:=by
    have h1:=(am.lt (g:=g) (by rw[af];rfl)).1;have h2:=S.size;omega
   have d0:w2.cell? ⟨g,o,none⟩=some (I J (a.1.val:Int)):=aa 0 _ rfl;have d1:w2.cell? ⟨g,o+1,none⟩=some (.bool a.2):=aa 1 _ rfl;have d2:w2.cell? ⟨g,o+2,none⟩=some (.slice (some ⟨gc,Y,none⟩) m cc):=(aa 2 _ rfl).trans (by rw[az]);have d3:w2.cell? ⟨g,o+3,none⟩=some (.float .f64 (fq sq)):=(aa 3 _ rfl).trans (by rw[ad]);have d7:∀b F,t=b::F→w2.cell? ⟨g,o+4+3,none⟩=some (.float .f64 (fq oq)):=by
    intro b F e;have:=aa 7 (.float .f64 (fq (D5 ((T9 k W R rb).2 (sd b)) k))) (by rw[e];rfl);rw[show o+4+3=o+7 by omega,this,ae,e];rfl
   have aI:A3y R k sc rn rb (T9 k W R rb).2 (a::t)=if FloatKind.f64.format.order (fq sq) sc=some .lt then none else if fnE k rb (R.getD a.1.val S0).b a.2 r0 p0 r1 p1=0 then some (A2H k rn rb (R.getD a.1.val S0).n (R.getD a.1.val S0).b a.2 r0 p0 r1 p1 sq oq) else none:=by
    unfold A3y;dsimp only;rw[D.e0,D.e1,ad,ae];rfl
   have aq:=A4 aI;have aA:Hd (IsC (T9 k W R rb).2 k (a::t)):=⟨an,ap⟩;have E:=A4 D;have bb:=A4 T;have aJ:=A4 af;have HM:=A4 hm;have bc:Hd (A3 w2 base 88 2 rv R.length (B3 R)):=(HO.o.other (fun j _ p=>r.block j p));have aK:∀b,(FloatKind.f64.format.order (fq sq) sc==some Ordering.lt)=b→FloatKind.f64.format.order (fq sq) sc=some .lt∨b=false:=by
    intro b hb;cases b
    ·exact Or.inr rfl
    ·exact Or.inl (eq_of_beq hb)
   have bt:=A4 aK;have bd:t=[]→oq=0:=fun e=>by rw[ae,e];rfl
   clear aI an ap D T af hm aK am aF aa eM eQ ad ae cA hS ay aE G al ax aj az;have aL:w2.cell? ⟨X,2,none⟩=some (.float .f64 sc):=A1 h2X rfl;go_wp2_with fail;rename_i K4 B;by_cases ar:FloatKind.f64.format.order (fq sq) sc=some .lt
   ·have hB:(FloatKind.f64.format.order (fq sq) sc==some Ordering.lt)=true:=by rw[ar];rfl
    rw[if_pos ar]at aq;generalize fq sq=fs at *;refine A5 15 (fun c=>c.cell? ⟨g,o+3,none⟩=some (.float .f64 fs)∧c.cell? ⟨X,2,none⟩=some (.float .f64 sc)) U ⟨d3,aL⟩ (fun hH=>?_);refine A2 0 ?_;refine A2 1 ?_;refine A2 2 ?_;refine A2 3 ?_;refine A2 4 ?_;refine A2 5 ?_;refine A2 6 ?_;refine A2 7 ?_;refine A2 8 ?_;refine A2 9 ?_;refine A2 10 ?_;refine A2 11 ?_;refine A2 12 ?_;refine A2 13 ?_;refine A2 14 ?_;refine M7 ?_;refine B _ _ ?_;clear B hH;have v0:=A1 v (i:=0) rfl;have v1:=A1 v (i:=1) rfl;have v2:=A1 v (i:=2) rfl;have v3:=A1 v (i:=3) rfl;have v4:=A1 v (i:=4) rfl;have v5:=A1 v (i:=5) rfl;have v6:=A1 v (i:=6) rfl;have v7:=A1 v (i:=7) rfl;have v8:=A1 v (i:=8) rfl;have v9:=A1 v (i:=9) rfl;have v10:=A1 v (i:=10) rfl;have v11:=A1 v (i:=11) rfl;have v12:=A1 v (i:=12) rfl;have vz:∀off,w2.frozen? ⟨w.heap.size+1,off,none⟩=false:=fun off=>frozen_of_row _ _ _ _ _ v;go_wp2_with fail;have s:=(Y0 (.string ⟨#[]⟩) (I J 0) (I J 0) (.bool false) (.string ⟨#[]⟩) (I J 0) (I J 0) (.float .f64 0) (.float .f64 0) (I J 0) (.string ⟨#[]⟩) (I J 0) (.float .f64 0) v).drew;refine bodyPost_ret (D1 rfl _ _ (w.heap.size+1) 71 _ _ _ rfl s.here Tryz.underlying71 rfl U) rfl ?_;exact⟨none,Or.inr (Or.inr ⟨h,ak,a::t,aA.o,aq.o.symm⟩),rfl,r.trans (s.below O)⟩
   ·have hB:(FloatKind.f64.format.order (fq sq) sc==some Ordering.lt)=false:=by
     rw[beq_eq_false_iff_ne];exact ar
    rw[if_neg ar]at aq;refine A5 15 (fun c=>c.cell? ⟨g,o+3,none⟩=some (.float .f64 (fq sq))∧c.cell? ⟨X,2,none⟩=some (.float .f64 sc)) U ⟨d3,aL⟩ (fun hH=>?_);refine A2 0 ?_;refine A2 1 ?_;refine A2 2 ?_;refine A2 3 ?_;refine A2 4 ?_;refine A2 5 ?_;refine A2 6 ?_;refine A2 7 ?_;refine A2 8 ?_;refine A2 9 ?_;refine A2 10 ?_;refine A2 11 ?_;refine A2 12 ?_;refine A2 13 ?_;refine A2 14 ?_;refine M7 ?_;refine B _ _ ?_;clear B hH;have be:t=[]∨∃b F,t=b::F:=by cases t with|nil=>exact Or.inl rfl|cons b F=>exact Or.inr ⟨b,F,rfl⟩
    rcases be with ht|⟨b,F,ht⟩;focus
     have bf:nl=1:=by have:=aJ.o;rw[ht]at this;exact this
     have bg:¬(1:Int)<(nl:Int):=O;have bh:fq oq=0:=by rw[bd ht,fq0]
     clear ht;go_wp2_with fail
    rotate_left;focus
     have bf:1<nl:=by have:=aJ.o;rw[ht]at this;simp only[List.length_cons]at this;omega
     have bg:(1:Int)<(nl:Int):=O;have bu:=d7 b F ht;clear ht;go_wp2_with fail
    all_goals
     rename_i K9 au;have cF:=A8x a.2 R X k W sc base w1.heap.size gc Y cc m a.1.val r0 p0 r1 p1 rv (.map (some Hb)) rn rb (N5 k ((T9 k W R rb).2 (sd a))) sq oq w2.drew.drew
      h2X (bc.o.other (fun _ _ _=>rfl)) E.o.qi (bb.o.other (fun _ _ _=>rfl)) HM.o.symm aX aY E.o.e0 (by rw[HM.o];exact E.o.e1) ag (by have:=E.o.le0;omega) E.o.b0 (by have:=E.o.le1;omega) E.o.b1 O
      (by have:=(N.o _ (T4 R a.1.val E.o.qi)).2.2.2;omega) aG.1 aG.2 O aZ.2 aw.o ⟨(N.o _ (T4 R a.1.val E.o.qi)).2.1,(N.o _ (T4 R a.1.val E.o.qi)).2.2.1⟩ hl
      (A4Z aR.o (w1:=w2.drew.drew) ⟨r.os,r.tape,r.output,r.size,r.block⟩) (aS.o.below (w':=w2.drew.drew) ⟨r.os,r.tape,r.output,r.size,r.block⟩)
     try rw[bh]at cF
     have g9:∀c:World,(∀j,j<w2.heap.size→j≠w.heap.size+1→c.heap[j]?=w2.heap[j]?)→c.cell? ⟨w.heap.size,0,none⟩=some (.string rn)∧c.cell? ⟨w.heap.size,1,none⟩=some (.string rb)∧c.cell? ⟨g,o,none⟩=some (I J (a.1.val:Int))∧c.cell? ⟨g,o+1,none⟩=some (.bool a.2)∧c.cell? ⟨g,o+2,none⟩=some (.slice (some ⟨gc,Y,none⟩) m cc)∧c.cell? ⟨g,o+3,none⟩=some (.float .f64 (fq sq)):=by
      intro c M;have bi:g<w2.heap.size:=block_lt_of_cell d0;have e1:=M g bi O;have e2:=(M w.heap.size (by have:=A.size;omega) O).trans aW;exact⟨A1 e2 rfl,A1 e2 rfl,(World.cell?_of_block e1).trans d0,(World.cell?_of_block e1).trans d1,(World.cell?_of_block e1).trans d2,(World.cell?_of_block e1).trans d3⟩
     refine A5 11 (fun c=>c.cell? ⟨w.heap.size,0,none⟩=some (.string rn)∧c.cell? ⟨w.heap.size,1,none⟩=some (.string rb)∧c.cell? ⟨g,o,none⟩=some (I J (a.1.val:Int))∧c.cell? ⟨g,o+1,none⟩=some (.bool a.2)∧c.cell? ⟨g,o+2,none⟩=some (.slice (some ⟨gc,Y,none⟩) m cc)∧c.cell? ⟨g,o+3,none⟩=some (.float .f64 (fq sq))) U (g9 w2.drew.drew (fun _ _ _=>rfl)) (fun hH=>?_);refine A2 0 ?_;refine A2 1 ?_;refine A2 2 ?_;refine A2 3 ?_;refine A2 4 ?_;refine A2 5 ?_;refine wpS 6 fun K l=>?_;go_simp;go_at_call 79;refine cF.mono ?_;rintro e w3 ⟨he,H⟩;obtain⟨res,aM,bj⟩:∃res,A3y R k sc rn rb (T9 k W R rb).2 (a::t)=res∧e=.returned (.tuple (A0Z res)):=by
      refine⟨_,aq.o,?_⟩;rw[he];by_cases hz:fnE k rb (R.getD a.1.val S0).b a.2 r0 p0 r1 p1=0
      ·rw[if_pos hz,if_pos hz];rfl
      ·rw[if_neg hz,if_neg hz];rfl
     clear he cF;subst bj;have ab:∀j,j<w2.heap.size→w3.heap[j]?=w2.heap[j]?:=fun j p=>H.block j p;have aN:Below w.heap.size w w3:=r.trans ((show Below w2.heap.size w2 w3 from⟨H.os,H.tape,H.output,H.size,H.block⟩).mono r.size);have y:=(ab (w.heap.size+1) (by have:=A.size;omega)).trans v;have hH:=g9 w3 (fun j p _=>ab j p);have aO:=A4 aM;clear aM H;have vz:∀off,w3.frozen? ⟨w.heap.size+1,off,none⟩=false:=fun off=>frozen_of_row _ _ _ _ _ y;have v0:=A1 y (i:=0) rfl;have v1:=A1 y (i:=1) rfl;have v2:=A1 y (i:=2) rfl;have v3:=A1 y (i:=3) rfl;have v4:=A1 y (i:=4) rfl;have v5:=A1 y (i:=5) rfl;have v6:=A1 y (i:=6) rfl;have v7:=A1 y (i:=7) rfl;have v8:=A1 y (i:=8) rfl;have v9:=A1 y (i:=9) rfl;have v10:=A1 y (i:=10) rfl;have v11:=A1 y (i:=11) rfl;have v12:=A1 y (i:=12) rfl;cases res with
     |none=>
      simp only[A0Z,A2s];refine F7 l hH ?_;clear l K;refine A2 7 ?_;refine A2 8 ?_;refine wpS 9 fun K l=>?_;go_simp;have s:=Y0 (.string ⟨#[]⟩) (I J 0) (I J 0) (.bool false) (.string ⟨#[]⟩) (I J 0) (I J 0) (.float .f64 0) (.float .f64 0) (I J 0) (.string ⟨#[]⟩) (I J 0) (.float .f64 0) y;refine l.out _ _ (g9 _ (fun j p L=>(s.other j L).trans (ab j p))) ?_;clear l K hH;have hH:=g9 _ (fun j p L=>(s.other j L).trans (ab j p));try simp only[Act.put,zA0,zZ0,zS0]
      refine A2 10 ?_;refine M7 ?_;refine au _ _ ?_;clear au hH;go_wp2_with fail;refine bodyPost_ret (D1 rfl _ _ (w.heap.size+1) 71 _ _ _ rfl s.here Tryz.underlying71 rfl U) rfl ?_;exact⟨none,Or.inr (Or.inr ⟨h,ak,a::t,aA.o,aO.o.symm⟩),rfl,aN.trans (s.below O)⟩
     |some f=>
      simp only[A0Z,FD.cells];refine F7 l hH ?_;clear l K;refine A2 7 ?_;refine A2 8 ?_;refine wpS 9 fun K l=>?_;go_simp;have s:=Y0 (.string f.rd) (I J f.fr) (I J f.tl) (.bool f.bk) (.string f.sn) (I J f.st) (I J f.en) (.float .f64 (fq f.sq)) (.float .f64 (fq f.oq)) (I J f.ql) (.string ⟨f.sc.toArray⟩) (I J f.sm) (.float .f64 f.id) y;refine l.out _ _ (g9 _ (fun j p L=>(s.other j L).trans (ab j p))) ?_;clear l K hH;have hH:=g9 _ (fun j p L=>(s.other j L).trans (ab j p));try simp only[Act.put,zA0,zZ0,zS0]
      refine A2 10 ?_;refine M7 ?_;refine au _ _ ?_;clear au hH;go_wp2_with fail;refine bodyPost_ret (D1 rfl _ _ (w.heap.size+1) 71 _ _ _ rfl s.here Tryz.underlying71 rfl U) rfl ?_;exact⟨some f,Or.inr (Or.inr ⟨h,ak,a::t,aA.o,aO.o.symm⟩),rfl,aN.trans (s.below O)⟩
theorem A92 (R:List S2)(base X k W sc:Nat)(rn rb:ByteArray)(w:World)(a:1≤k)(c:k≤12)(d:1≤W)(f:W≤20)(g:∀x∈R,good x.b∧1≤x.n.size∧x.n.size≤8000∧x.b.size≤4000)(i:R.length<100000)(j:C7 R R.length≤4000)(l:IxP w base X R k W sc)(m:rb.size≤140737488351232)(o:good rb)
 (p:Lib.TabBelow Tryz.prog w.heap.size w "internal/strconv.uint64pow10" .u64 Lib.pow10Tab)(q:LtP w) :
 Calls Tryz.prog 52 #[.pointer (some ⟨X,0,none⟩),.agg #[.string rn,.string rb]] w fun e w'=>FiP R k W sc rn rb w e w':=by
 by_cases h:300<rb.size
 ·exact A9d R X k W sc rn rb w h m
 ·exact A7p R base X k W sc rn rb w a c d f g i j l O o p q
end
section
open Go.RowKit Go.Shelf Go.Lib
theorem A8d (R:List S2):∀j,j<R.length→(R.getD j S0).b.size≤C7 R R.length:=fun j a=>by
 have h1:=V7 R (j+1) R.length a
 have e:C7 R (j+1)=C7 R j+(R.getD j S0).b.size:=rfl
 omega
def A0W (R:List S2):Prop:=(∀x∈R,good x.b∧1≤x.n.size∧x.n.size≤8000∧x.b.size≤4000)∧R.length<100000∧C7 R R.length≤4000
theorem A7f (s:ByteArray)(h:C7 (A7 s).1 (A7 s).1.length≤4000):A0W (A7 s).1:=by
 have b:=L6 s;refine⟨fun x c=>?_,by have:=b.1;omega,h⟩;have a:=b.2 x c;obtain⟨j,d,rfl⟩:=List.getElem_of_mem c;have hm:=A8d (A7 s).1 j d;rw[C8 _ _ _ d]at hm;exact⟨a.1,a.2.1.1,by have:=a.2.1.2.1;omega,O⟩
theorem B2D (R:List S2)(base X k W sc:Nat)(s:ByteArray)(w:World)(hs:s.size≤140737488351232)(c:1≤k)(d:k≤12)(f:1≤W)(h:W≤20)(a:A0W R)(i:IxP w base X R k W sc)
 (j:Lib.TabBelow Tryz.prog w.heap.size w "internal/strconv.uint64pow10" .u64 Lib.pow10Tab)(l:LtP w) :
 Calls Tryz.prog 21 #[.pointer (some ⟨X,0,none⟩),.string s] w fun e w'=>B06 R k W sc s w e w':=
 B3m R base X k W sc s w hs (fun w1 rn rb b h1 m=>A92 R base X k W sc rn rb w1 c d f h a.1 a.2.1 a.2.2 (i.kept (fun g n=>b.block g n)) h1 m (A4Z j b) (l.below b))
theorem B2X (R:List S2)(k W:Nat)(rb:ByteArray)(q:Int×Bool):((T9 k W R rb).2 q).length≤(T9 k W R rb).1:=by
 have key:∀(L:List W3) (st:Nat×(Int×Bool→List (Int×Int))),(∀q,(st.2 q).length≤st.1)→∀q,((L.foldl (R4 rb.size k (D6 k W R R.length)) st).2 q).length≤(L.foldl (R4 rb.size k (D6 k W R R.length)) st).1:=by
  intro L;induction L with
  |nil=>intro st h;exact h
  |cons x t a=>
   intro st h;refine a _ ?_;intro q;unfold R4;split
   ·exact Nat.le_trans (h q) (Nat.le_add_right _ _)
   ·have inner:∀(M:List W3) (A:Int×Bool→List (Int×Int)) (n:Nat),(∀q,(A q).length≤n)→∀q,((M.foldl (fun A y=>A0e rb.size k A x y) A) q).length≤n+M.length:=by
     intro M;induction M with
     |nil=>intro A n h q;exact h q
     |cons y u b=>
      intro A n h q;have:=b (A0e rb.size k A x y) (n+1) (A23 _ _ A x y n h) q;simp only[List.foldl_cons,List.length_cons];omega
    exact inner _ _ _ h q
 exact key (Q8 k W rb) (0,fun _=>[]) (fun _=>Nat.le_refl _) q
theorem A8h (q:Int)(a:0≤q)(h1:q≤100000):FloatKind.f64.format.order (fq q) (fq q)=some .eq:=by
 have:=A0O q q (by have:(2:Nat)^53=9007199254740992:=Z;omega) (by have:(2:Nat)^53=9007199254740992:=Z;omega);rw[show compare q q=.eq by simp[compare,compareOfLessAndEq]]at this;exact this
theorem A9B (k:Nat)(rn rb fn c:ByteArray)(back:Bool)(b d a f:Nat)(sq oq:Int)(l:0≤sq)(m:sq≤100000)(n:0≤oq)(o:oq≤100000)(h:fnE k rb c back b d a f=0)(s:b≤a)(hk:1≤k)(t:a+k≤rb.size):A2l (A2H k rn rb fn c back b d a f sq oq):=by
 have j:1≤((R8 back rb).extract b (a+k)).data.toList.length:=by
  have e:((R8 back rb).extract b (a+k)).data.toList.length=((R8 back rb).extract b (a+k)).size:=rfl;rw[e,ByteArray.size_extract,W2];omega
 unfold fnE at h;have e1:(A2H k rn rb fn c back b d a f sq oq).sq=sq:=rfl;have p:(A2H k rn rb fn c back b d a f sq oq).oq=oq:=rfl;have q:(A2H k rn rb fn c back b d a f sq oq).id=shr (scN ((R8 back rb).extract b (a+k)).data.toList (c.extract d (f+k)).data.toList) (A0o ((R8 back rb).extract b (a+k)).data.toList (c.extract d (f+k)).data.toList):=rfl;unfold A2l;rw[e1,p,q];revert h j;generalize ((R8 back rb).extract b (a+k)).data.toList=la;generalize (c.extract d (f+k)).data.toList=g;intro h j;have r:=A2M la g h;have i:=(A2t (scN la g) (A0o la g) r.2.2.1 O O).2;revert i;generalize shr (scN la g) (A0o la g)=y;intro i;exact⟨A8h _ l m,A8h _ n o,i⟩
theorem B2F (R:List S2)(k W sc:Nat)(rn rb:ByteArray)(f:FD)(g:1≤k)(q:k≤12)(r:1≤W)(i:A0W R)(s:good rb)(h:A5W R k W sc rn rb (some f)):A2l f:=by
 rcases h with⟨_,h⟩|⟨_,_,h⟩|⟨v,w,C,y,c⟩
 ·cases h
 ·cases h
 ·cases C with
  |nil=>cases c
  |cons a t=>
   have z:=(y.2 a).1 (List.mem_cons_self);have hlen:((T9 k W R rb).2 (sd a)).length≤400:=Nat.le_trans (B2X R k W rb (sd a)) w;obtain⟨j,l,m,n,d⟩:=A1A k W R rb (sd a) g q r (fun x o=>⟨(i.1 x o).1,(i.1 x o).2.2.2⟩) s v z hlen;unfold A3y at c;dsimp only at c;rw[d.e0,d.e1]at c;split at c
   ·cases c
   ·split at c
    ·rename_i A;have c:=Option.some.inj c;have B:fnE k rb (R.getD a.1.val S0).b a.2 j l m n=0:=A;have p:=S9 ((T9 k W R rb).2 (sd a)) k;have hO:0≤A9X (T9 k W R rb).2 k (a::t)∧A9X (T9 k W R rb).2 k (a::t)≤100000:=by
      cases t with
      |nil=>exact⟨Int.le_refl _,by show(0:Int)≤100000;omega⟩
      |cons b u=>exact S9 _ _
     rw[c];exact A9B k rn rb _ _ a.2 j l m n _ _ p.1 p.2 hO.1 hO.2 B d.le0 g d.b0
    ·cases c
theorem B3o (rs:List (Option FD))(j:Nat)(h:j<rs.length):rs.getD j none=rs[j]:=by rw[List.getD_eq_getElem?_getD,List.getElem?_eq_getElem h];rfl
theorem A5A {R:List S2}{k W sc:Nat}{P:List S2}{rs:List (Option FD)}(d:1≤k)(g:k≤12)(i:1≤W)(l:A0W R)(m:∀x∈P,good x.b)(h:X5 R k W sc P rs)(p:rs.length=P.length):∀f∈rs.filterMap id,A2l f:=by
 intro f a;rw[List.mem_filterMap]at a;obtain⟨r,n,e⟩:=a;simp only[id]at e;subst e;obtain⟨j,c,o⟩:=List.getElem_of_mem n;have:=h j c;rw[B3o rs j c,o]at this;refine B2F R k W sc _ _ f d g i l (m _ ?_) this;rw[C8 _ _ _ O];exact List.getElem_mem _
end
section
open Go.RowKit Go.Shelf Go.Lib
attribute [local go_sem] C0
def B35 (R:List S2)(k W sc:Nat)(rn rb:ByteArray)(w:World)(e:Ending)(w':World):Prop:=
 ∃res,O4 R k W sc rn rb res∧e=.returned (.tuple (A0Z res))∧Below w.heap.size w w'
def T0 (R:List S2)(k W sc:Nat)(P:List S2)(rs:List (Option FD)):Prop:=∀j,j<rs.length→O4 R k W sc (P.getD j S0).n (P.getD j S0).b (rs.getD j none)
theorem T0.snoc {R:List S2}{k W sc:Nat}{P:List S2}{rs:List (Option FD)}(h:T0 R k W sc P rs)(r:Option FD)(c:O4 R k W sc (P.getD rs.length S0).n (P.getD rs.length S0).b r):T0 R k W sc P (rs++[r]):=by
 intro j d;simp only[List.length_append,List.length_cons,List.length_nil]at d;by_cases a:j<rs.length
 ·have:=h j a;simpa[List.getD_eq_getElem?_getD,List.getElem?_append_left a] using this
 ·have e:j=rs.length:=O;subst e;simpa[List.getD_eq_getElem?_getD] using c
theorem A6Z {R:List S2}{k W sc:Nat}{P:List S2}{rs a:List (Option FD)}(h:X5 R k W sc P rs)(d:T0 R k W sc P a)(f:rs.length=a.length):rs=a:=by
 apply List.ext_getElem f;intro j h1 b;have e1:=h j h1;have c:=d j b;rw[B3o rs j h1]at e1;rw[B3o a j b]at c;exact A9M e1 c
def A6p (R:List S2)(k W sc:Nat)(s:ByteArray)(w:World)(e:Ending)(w':World):Prop:=
 ∃v,e=.returned (.tuple #[v,I J (A7 s).2.1,I J (A7 s).2.2])∧Below w.heap.size w w'∧((A7 s).2.1≠0→v=.slice none 0 0)∧
  ((A7 s).2.1=0→∃rs:List (Option FD),rs.length=(A7 s).1.length∧T0 R k W sc (A7 s).1 rs∧A3 w' w.heap.size 71 13 v (rs.filterMap id).length (C2 (rs.filterMap id)))
def B36 (R:List S2)(base X k W sc:Nat)(w:World):Prop:=∀(w1:World) (rn rb:ByteArray),Below w.heap.size w w1→rb.size≤140737488351232→good rb→
 Calls Tryz.prog 71 #[.pointer (some ⟨X,0,none⟩),.agg #[.string rn,.string rb]] w1 fun e w'=>B35 R k W sc rn rb w1 e w'
theorem B2U (R:List S2)(base X k W sc:Nat)(s:ByteArray)(w:World)(hs:s.size≤140737488351232)(H:B36 R base X k W sc w) :
 Calls Tryz.prog 42 #[.pointer (some ⟨X,0,none⟩),.string s] w fun e w'=>A6p R k W sc s w e w':=by
 obtain⟨i0,hi,ak,al,am⟩:=info_parts Tryz.info71x;have K:=A4 (L6 s);have d:∀A,_:=fun A=>A1n s A hs;by_cases he:(A7 s).2.1=0
 ·have L:(A7 s).2.2=0:=by
   by_cases h8:8000<s.size
   ·unfold A7 at he;rw[if_pos h8]at he;cases he
   ·unfold A7 at he⊢;rw[if_neg h8]at he⊢;exact T5 _ _ _ he
  have B:Hd (∀v w' rs,Below w.heap.size w w'→rs.length=(A7 s).1.length→T0 R k W sc (A7 s).1 rs→A3 w' w.heap.size 71 13 v (rs.filterMap id).length (C2 (rs.filterMap id))→A6p R k W sc s w (.returned (.tuple #[v,I J 0,I J 0])) w'):=by
   intro v w' rs h1 q h3 h4;refine⟨v,by rw[he,L];rfl,h1,fun h=>absurd he h,fun _=>⟨rs,q,h3,h4⟩⟩
  rw[he,L]at d;obtain⟨P,hP⟩:=A8 ((A7 s).1);rw[←hP]at d K B;clear he L hP;have HC:=A4 H;clear H;go_enter Tryz.func42,Tryz.ntmps42;go_wp2_with fail;refine(d w).mono ?_;rintro e w2 ⟨v,rfl,l,_,r⟩;obtain⟨ao,cp,rfl⟩:=l.form;obtain⟨n,C⟩:=A8 P.length;have HN:=A4 C;rw[←C]at l⊢;have aA:n≤8000:=by rw[C];exact K.o.1
  have HO:=A4 l;have p:=A4 r;have an:n≠0→∃g o,ao=some ⟨g,o,none⟩∧g<w2.heap.size:=by
   intro h0;rcases l.2 with⟨_,h'⟩|⟨g,o,cap,cur,h,_,M,_⟩
   ·exact absurd h' h0
   ·simp only[Value.slice.injEq]at h;exact⟨g,o,h.1,lt_of_block M⟩
  clear l r C d;go_wp2_with fail;go_loopw [10,11] (fun tv i wr=>∃(j:Nat) (rs:List (Option FD)),j≤n∧i=I J j∧rs.length=j∧T0 R k W sc P rs∧A3 wr w.heap.size 71 13 tv (rs.filterMap id).length (C2 (rs.filterMap id))∧Below w2.heap.size w2 wr∧(rs.filterMap id).length≤j∧(∀g,tv.ownBlock=some g→w2.heap.size≤g)) (fun _ i _=>n-(RowKit.intOf i).toNat);case atStart=>exact⟨0,[],Nat.zero_le _,rfl,rfl,fun j hj=>absurd hj (Nat.not_lt_zero _),A3.nil _ _ _ _,Below.refl _ _,Nat.le_refl _,fun g M=>by cases M⟩
  case round=>
   obtain⟨j,rs,hj,rfl,aa,ab,t,ac,ap,ad⟩:=hrel;have N:=A4 ab;have aq:=A4 t;have c:=A4 ac;have ar:=A4 ad;have u:=A4 aa;obtain⟨m,hm⟩:=A8 ((rs.filterMap id).length);have D:=A4 hm;rw[←hm]at ap t;obtain⟨at',Q,hu⟩:=t.form;subst hu;clear ab ac ad hm aa;by_cases aB:j<n
   ·obtain⟨g,o,rfl,aC⟩:=an O;have ae:j<P.length:=by have:=HN.o;omega
    have hc:=(HO.o.other (w':=wr) (fun g' _ au=>c.o.block g' au)).seqs j ae;obtain⟨x,E⟩:=A8 (P[j]);rw[←E]at hc;obtain⟨d0,d1⟩:=hc;have av:x∈P:=by rw[E];exact List.getElem_mem _
    have S:=K.o.2 x av;have HX:Hd (P.getD j S0=x):=by show _=_;rw[C8 _ _ _ ae,E]
    have af:Below w.heap.size w wr:=p.o.trans (c.o.mono p.o.size);have cF:=fun A aw=>HC.o A x.n x.b aw (by have:=S.2.2;omega) S.1;clear E S;go_wp2_with fail;refine(cF _ af).mono ?_;rintro e y ⟨res,ag,rfl,ah⟩;have ai:=A4 ag;have F:Below wr.heap.size wr y:=ah;have z:=A4 F;have T:A3 y w.heap.size 71 13 (.slice at' m Q) m (C2 (rs.filterMap id)):=t.other (fun g' _ a=>F.block g' a);have V:Hd (∀g,(Value.slice at' m Q).ownBlock=some g→w2.heap.size≤g∧g<y.heap.size):=fun g' a=>⟨ar.o g' a,(T.lt a).2⟩;have aD:w.heap.size≤y.heap.size:=Nat.le_trans af.size F.size;clear cF ag ah F t d0 d1;cases res with
    |none=>
     simp only[A0Z,A2s];go_wp2;go_roundw;case rel=>
      refine⟨j+1,rs++[none],O,Zn,by simp[u.o],T0.snoc N.o none (by rw[u.o,HX.o];exact ai.o),?_,?_,?_,?_⟩
      ·have e:(rs++[none]).filterMap id=rs.filterMap id:=Zs;rw[e,←D.o];exact T.other (fun g' _ a=>Below.heap_alloc _ _ _ a)
      ·exact(c.o.trans (z.o.mono c.o.size)).alloc (Nat.le_trans c.o.size z.o.size) _
      ·have e:(rs++[none]).filterMap id=rs.filterMap id:=Zs;rw[e,←D.o];omega
      ·exact fun g' a=>(V.o g' a).1
     case measure=>simp[RowKit.intOf];omega
    |some f=>
     simp only[A0Z,FD.cells];go_wp2_with (at_builtin;refine B6 _ rfl (.tmp 40) (.tmp 42) 66 rfl 71 i0 _ 13 128 Tryz.underlying66 hi ak al am rfl Z w.heap.size (.slice at' m Q) m (C2 (rs.filterMap id)) rfl (by exact(T.other (fun g' _ a=>Below.heap_alloc _ _ _ a)).other (fun g' _ a=>Below.heap_alloc _ _ _ a)) ⟨y.heap.size+1,0,none⟩ 1 f.cells rfl rfl (by exact A2U _ f _ Zs) (B0P f) (by unfold maxLen;omega) O Zo ?_;intro g' o' cap' w8 ax aj);go_roundw;case rel=>
      have e:(rs++[some f]).filterMap id=rs.filterMap id++[f]:=Zs;refine⟨j+1,rs++[some f],O,Zn,by simp[u.o],T0.snoc N.o (some f) (by rw[u.o,HX.o];exact ai.o),?_,?_,?_,?_⟩
      ·rw[e,A17,List.length_append,←D.o];exact ax
      ·have h1:=((c.o.trans (z.o.mono c.o.size)).alloc (Nat.le_trans c.o.size z.o.size) (Obj.cells #[.string f.rd,I J f.fr,I J f.tl,.bool f.bk,.string f.sn,I J f.st,I J f.en,.float .f64 (fq f.sq),.float .f64 (fq f.oq),I J f.ql,.string ⟨f.sc.toArray⟩,I J f.sm,.float .f64 f.id] 71));have q:=h1.alloc h1.size (Obj.cells #[.string f.rd,I J f.fr,I J f.tl,.bool f.bk,.string f.sn,I J f.st,I J f.en,.float .f64 (fq f.sq),.float .f64 (fq f.oq),I J f.ql,.string ⟨f.sc.toArray⟩,I J f.sm,.float .f64 f.id] 71);exact q.trans (aj.below (fun g' a=>(V.o g' a).1) q.size)
      ·rw[e,List.length_append,←D.o];show m+1≤_;omega
      ·intro g1 ay;have e1:g'=g1:=by simpa[Value.ownBlock] using ay
       subst e1;rcases aj.new with h|h
       ·exact(V.o _ h).1
       ·have h1:=c.o.size;have q:=z.o.size;simp at h;omega
     case measure=>simp[RowKit.intOf];omega
   ·have az:j=n:=O;subst az;go_wp2;go_ret3;exact B.o _ _ rs (p.o.trans (c.o.mono p.o.size)) (by rw[u.o,HN.o]) N.o aq.o
 ·obtain⟨en,G⟩:=A8 ((A7 s).2.1);obtain⟨ln,Y⟩:=A8 ((A7 s).2.2);have B:Hd (∀w',Below w.heap.size w w'→A6p R k W sc s w (.returned (.tuple #[.slice none 0 0,I J en,I J ln])) w'):=by
   intro w' h1;refine⟨_,by rw[G,Y],h1,fun _=>rfl,fun h=>absurd h he⟩
  rw[←G,←Y]at d;rw[←G]at he;have aE:¬(en:Int)=0:=O;clear G Y H;go_enter Tryz.func42,Tryz.ntmps42;go_wp2_with fail;refine(d w).mono ?_;rintro e w2 ⟨v,rfl,l,_,r⟩;have p:=A4 r;clear l r d;go_wp2;go_ret3;exact B.o _ p.o
end
section
open Go.RowKit
theorem B1E (R:List S2)(base Y k W sc:Nat)(s:ByteArray)(w:World)(hs:s.size≤140737488351232)(b:1≤k)(c:k≤12)(d:1≤W)(f:W≤20)(a:A0W R)(h:RxP w base Y R k W sc) :
 Calls Tryz.prog 42 #[.pointer (some ⟨Y,0,none⟩),.string s] w fun e w'=>A6p R k W sc s w e w':=
 B2U R base Y k W sc s w hs (fun w1 rn rb i h1 j=>A8T R base Y k W sc rn rb w1 b c d f a.1 a.2.1 a.2.2 (h.kept (fun g l=>i.block g l)) h1 j)
structure A0x (wE wI:World)(S1 X Y:Nat)(R:List S2)(k W sc:Nat):Prop where
 k1:1≤k
 k2:k≤12
 w1:1≤W
 w2:W≤20
 refs:A0W R
 sc8:sc<18446744073709551616
 may:sc=9223372036854775808∨sc≤4652007308841189376
 head:(D2 k W sc R).length≤500000000
 ix:IxP wI S1 X R k W sc
 rx:RxP wI S1 Y R k W sc
 tab:Lib.TabBelow Tryz.prog wE.heap.size wE "internal/strconv.uint64pow10" .u64 Lib.pow10Tab
 lt:LtP wE
section
variable {wE wI:World} {S1 X Y:Nat} {R:List S2} {k W sc:Nat} {w:World} {Bb:Nat} {hv fv:Value} {EH EF:List (Value×Int)}
theorem A0x.map (h:A0x wE wI S1 X Y R k W sc)(a:BwI wE wI S1 w Bb hv fv EH EF)(s:ByteArray)(hs:s.size≤140737488351232) :
 Calls Tryz.prog 21 #[.pointer (some ⟨X,0,none⟩),.string s] w fun e w'=>B06 R k W sc s w e w':=
 B2D R S1 X k W sc s w hs h.k1 h.k2 h.w1 h.w2 h.refs (h.ix.range a.ix) (A4Z h.tab a.bE) (h.lt.below a.bE)
theorem A0x.rmap (h:A0x wE wI S1 X Y R k W sc)(a:BwI wE wI S1 w Bb hv fv EH EF)(s:ByteArray)(hs:s.size≤140737488351232) :
 Calls Tryz.prog 42 #[.pointer (some ⟨Y,0,none⟩),.string s] w fun e w'=>A6p R k W sc s w e w':=
 B1E R S1 Y k W sc s w hs h.k1 h.k2 h.w1 h.w2 h.refs (h.rx.range a.ix)
theorem A0x.look (h:A0x wE wI S1 X Y R k W sc)(a:BwI wE wI S1 w Bb hv fv EH EF)(x:Int)(b:okI x) :
 Calls Tryz.prog 45 #[.pointer (some ⟨X,0,none⟩),I J x] w fun e w'=>A6a (D6 k W R R.length x) w e w':=
 A7m R S1 X k W sc x b w h.k1 h.k2 h.w1 (fun y c=>(h.refs.1 y c).1) h.refs.2.2 (h.ix.range a.ix)
theorem A0x.rlook (h:A0x wE wI S1 X Y R k W sc)(a:BwI wE wI S1 w Bb hv fv EH EF)(x:Int) :
 Calls Tryz.prog 41 #[.pointer (some ⟨Y,0,none⟩),I J x] w fun e w'=>A6a (D6 k W R R.length x) w e w':=by
 obtain⟨b,c,h1,g,d,i⟩:=h.rx.range a.ix;have j:=A0A h.k1 h.k2 h.w1 R (fun y f=>(h.refs.1 y f).1) R.length (Nat.le_refl _) (W:=W);rw[A1S];exact A2D (stN k W R R.length) S1 Y k W sc b c x w h1 d (by have:=h.refs.2.2;omega)
theorem A0x.save (h:A0x wE wI S1 X Y R k W sc)(a:BwI wE wI S1 w Bb hv fv EH EF) :
 Calls Tryz.prog 29 #[.pointer (some ⟨X,0,none⟩)] w fun e w'=>SvP R k W sc w e w':=
 A6l R S1 X k W sc w h.k1 h.k2 h.w1 h.w2 h.sc8 (fun y b=>(h.refs.1 y b).1) h.refs.2.1 h.refs.2.2 h.head (h.ix.range a.ix)
theorem A0x.rsave (h:A0x wE wI S1 X Y R k W sc)(a:BwI wE wI S1 w Bb hv fv EH EF) :
 Calls Tryz.prog 12 #[.pointer (some ⟨Y,0,none⟩)] w fun e w'=>SvP R k W sc w e w':=
 A2p R S1 Y k W sc w h.k1 h.k2 h.w1 h.w2 h.may (fun y b=>(h.refs.1 y b).1) h.refs.2.1 h.refs.2.2 h.head (h.rx.range a.ix)
theorem A91 (h:A0x wE wI S1 X Y R k W sc){s:ByteArray}{w w1 w2:World}{v v':Value}(z:Below w.heap.size w w1)(m:Below w1.heap.size w1 w2)
 (o:(A7 s).2.1≠0→v=.slice none 0 0)(a2:(A7 s).2.1=0→∃rs:List (Option FD),rs.length=(A7 s).1.length∧X5 R k W sc (A7 s).1 rs∧A3 w1 w.heap.size 71 13 v (rs.filterMap id).length (C2 (rs.filterMap id)))
 (b1:(A7 s).2.1≠0→v'=.slice none 0 0)(b2:(A7 s).2.1=0→∃rs:List (Option FD),rs.length=(A7 s).1.length∧T0 R k W sc (A7 s).1 rs∧A3 w2 w1.heap.size 71 13 v' (rs.filterMap id).length (C2 (rs.filterMap id))) :
 ∃(L:List FD) (n:Nat) (a bo:Option Addr) (ac b:Nat),v=.slice a n ac∧v'=.slice bo n b∧L.length=n∧n≤8000∧A3 w1 w.heap.size 71 13 (.slice a n ac) n (C2 L)∧RdR w2 71 a n (C2 L)∧RdR w2 71 bo n (C2 L)∧∀f∈L,A2l f:=by
 by_cases he:(A7 s).2.1=0
 ·obtain⟨rs,d,i,c⟩:=a2 he;obtain⟨A,p,q,j⟩:=b2 he;have e:=A6Z i q (d.trans p.symm);subst e;have l:=L6 s;obtain⟨a,ac,rfl⟩:=c.form;obtain⟨bo,b,rfl⟩:=j.form;have B:(rs.filterMap id).length≤rs.length:=List.length_filterMap_le _ _;refine⟨rs.filterMap id,(rs.filterMap id).length,a,bo,ac,b,rfl,rfl,rfl,by have:=l.1;omega,c,RdR.of (c.other (fun g _ r=>m.block g r)),RdR.of j,?_⟩;exact A5A h.k1 h.k2 h.w1 h.refs (fun x t=>(l.2 x t).1) i d
 ·have e1:=o he;have u:=b1 he;subst e1;subst u;exact⟨[],0,none,none,0,0,rfl,rfl,rfl,O,A3.nil _ _ _ _,fun h=>absurd rfl h,fun h=>absurd rfl h,fun f y=>absurd y List.not_mem_nil⟩
end
end
section
open Go.RowKit Go.Shelf Go.Lib
attribute [local go_sem] C0
def AsQ (wE wI:World)(S1 Bb:Nat)(hv fv:Value)(EH EF:List (Value×Int))(w:World)(Q:Ending→World→Prop):Prop:=∀(w':World) (hv' fv':Value) (EH' EF':List (Value×Int)),EH'.length≤EH.length+4→EF'.length≤EF.length+4→BwI wE wI S1 w' Bb hv' fv' EH' EF'→(∀q,q<w.heap.size→q≠Bb→hv.ownBlock≠some q→fv.ownBlock≠some q→w'.heap[q]?=w.heap[q]?)→Q (.returned (.bool true)) w'
theorem A7G (A M:World)(N X Y:Nat)(R:List S2)(k W sc:Nat)(hE:A0x A M N X Y R k W sc)(B:Nat)(m r:Value)(f i:List (Value×Int))(w:World)(hS:BwI A M N w B m r f i)(aq:f.length≤100000000)(ar:i.length≤100000000)(j h:Int)(rd:ByteArray)(au:rd.size≤140737488351232)(hash:Int)(aD:okI hash)(P S:Nat)(hP:w.heap[P]?=some (.cells #[.pointer (some ⟨X,0,none⟩),.pointer (some ⟨Y,0,none⟩)] 29 (0,0)))(hA:w.heap[S]?=some (.cells #[I J j,.string rd,I J h] 53 (0,0)))
 (fa:Act)(aE:Fr 129 [(2,.pointer (some ⟨B,0,none⟩)),(3,.pointer (some ⟨P,0,none⟩)),(4,.pointer (some ⟨S,0,none⟩)),(7,I J hash)] fa)(Q:Ending→World→Prop)(hQ:AsQ A M N B m r f i w Q)
 (C:Code)(hC:Tryz.f13.body.bind (G4 3)=some C):Code.wp Tryz.prog C (bodyPost Tryz.prog Tryz.f13 Q) fa w:=by
 have ah:=hC;conv at ah=>lhs;whnf
 injection ah with ah;subst ah;clear hC;obtain⟨f0,rfl,al⟩:=aE;simp only[Hs]at al;simp only[fr,Y5,Nat.reduceAdd,al];clear al;have c:=A4 hE;have a:=A4 hS;have HQ:=A4 hQ;have aF:=A4 hP;have aG:=A4 hA;have aH:=lt_of_block hP;have aI:=lt_of_block hA;have ai:Hd (∀w',Below w.heap.size w w'→w'.cell? ⟨P,0,none⟩=some (.pointer (some ⟨X,0,none⟩))∧w'.cell? ⟨P,1,none⟩=some (.pointer (some ⟨Y,0,none⟩))∧w'.cell? ⟨S,0,none⟩=some (I J j)∧w'.cell? ⟨S,1,none⟩=some (.string rd)):=by
  intro w' hb;have e1:=(hb.block P aH).trans aF.o;have e2:=(hb.block S aI).trans aG.o;exact⟨A1 e1 rfl,A1 e1 rfl,A1 e2 rfl,A1 e2 rfl⟩
 have p:=ai.o w (Below.refl _ _);obtain⟨p0,p1,p2,p3⟩:=p;clear hQ hS hP hA hE;by_cases k1:j=1
 ·subst k1;have cM:=c.o.map a.o rd au;go_wp2_with fail;refine cM.mono ?_;rintro e w1 ⟨v,rfl,b,a1,a2⟩;dsimp only;have s:=A4 b;have aj:=A4 ((⟨a1,a2⟩:_∧_));obtain⟨V,aa,ab,ad⟩:=ai.o w1 b;have t:=c.o.rmap (a.o.keep b) rd au;obtain⟨en,am⟩:=A8 ((A7 rd).2.1);obtain⟨ln,an⟩:=A8 ((A7 rd).2.2);have av:=A4 am;have aJ:=A4 an;rw[←am,←an];clear cM b a1 a2 p0 p1 p2 p3 am an;go_wp2_with fail;refine t.mono ?_;rintro e w2 ⟨v',rfl,d,b1,b2⟩;dsimp only;rw[←av.o,←aJ.o];obtain⟨L,n,u,bo,ac,bc,rfl,rfl,hL,aO,D,aw,ax,ay⟩:=A91 c.o s.o d aj.o.1 aj.o.2 b1 b2;have l:Hd (Below w.heap.size w w2):=s.o.trans (d.mono s.o.size);have K:Hd (A3 w2 w.heap.size 71 13 (.slice u n ac) n (C2 L)):=D.other (fun g _ E=>d.block g E);have HL:=A4 hL;have cF:=A2Y L n hL u bo ac bc w2 aw ax O ay;have aK:Hd (en≠0→Value.slice u n ac=.slice none 0 0):=by rw[av.o];exact aj.o.1
  clear t d b1 b2 hL D aw ax ay V aa ab ad aj;go_wp2_with fail;refine cF.mono ?_;rintro e x ⟨rfl,F⟩;dsimp only;have z:Hd (Below w.heap.size w x):=l.o.trans (F.mono l.o.size);have G:Hd (A3 x w.heap.size 71 13 (.slice u n ac) n (C2 L)):=K.o.other (fun g _ E=>F.block g E);clear cF F K l;rcases Decidable.em (en=0) with he|he;rotate_left;focus
   have aL:¬(en:Int)=0:=O;have az:=aK.o he;simp only[Value.slice.injEq]at az;obtain⟨rfl,rfl,rfl⟩:=az;have aP:((en:Int)==0)=false:=by rw[beq_eq_false_iff_ne];exact aL
  rotate_left;subst he;all_goals
   have H:Hd (BwI A M N x B m r f i):=a.o.keep z.o;have cO:=A3L (b0:=.slice none 0 0) (b1:=.slice none 0 0) (b2:=.slice none 0 0) (b3:=m) B i.length _ L HL.o i rfl A.heap.size _ r x O ar H.o.bE.size H.o.bk H.o.ef (G.o.low a.o.bE.size);go_wp2_with fail;refine cO.mono ?_;rintro e w4 ⟨rfl,vs,lv,wv,ae,af⟩;dsimp only;have ag:=A4 af;have ap:=A4 ae;clear cO af ae;go_wp2_with fail;exact HQ.o w4 m wv f _ O (by rw[List.length_append,List.length_map,ap.o];exact Nat.le_refl _) (a.o.founds z.o G.o O ar ag.o) (fun q h1 h2 h3 h4=>(ag.o.other q (Nat.lt_of_lt_of_le h1 z.o.size) h2 h4 (fun e=>by have:=(G.o.lt e).1;omega)).trans (z.o.block q h1))
 by_cases k2:j=2∨j=3
 ·rcases k2 with rfl|rfl;all_goals
   have cL:=c.o.look a.o hash aD;obtain⟨T,hT⟩:=A8 (D6 k W R R.length hash);have aM:T.length≤4000:=by
    rw[hT];have:=Y4 c.o.k1 c.o.k2 c.o.w1 R (fun y hy=>(c.o.refs.1 y hy).1) R.length (Nat.le_refl _) hash (W:=W);have:=c.o.refs.2.2;omega
   have HT:=A4 hT;rw[←hT]at cL;clear hT;go_wp2_with fail;refine cL.mono ?_;rintro e w1 ⟨v,rfl,b,D⟩;dsimp only;have s:=A4 b;obtain⟨n,hn⟩:=A8 T.length;rw[←hn]at D aM;obtain⟨u,ac,rfl⟩:=D.form;have aN:=A4 D;have HN:=A4 hn.symm;obtain⟨V,aa,ab,ad⟩:=ai.o w1 b;have t:=c.o.rlook (a.o.keep b) hash;rw[←HT.o]at t;clear cL b D hn p0 p1 p2 p3;go_wp2_with fail;refine t.mono ?_;rintro e w2 ⟨v',rfl,d,ak⟩;dsimp only;rw[HN.o]at ak;obtain⟨bo,bc,rfl⟩:=ak.form;have l:Hd (Below w.heap.size w w2):=s.o.trans (d.mono s.o.size);have K:Hd (A3 w2 w.heap.size 99 3 (.slice u n ac) n (A6 T)):=aN.o.other (fun g _ E=>d.block g E);have cF:=A4T T n HN.o u bo ac bc w2 (RdR.of K.o) (RdR.of ak) O;clear t d ak V aa ab ad;go_wp2_with fail;refine cF.mono ?_;rintro e x ⟨rfl,F⟩;dsimp only;have z:Hd (Below w.heap.size w x):=l.o.trans (F.mono l.o.size);have G:Hd (A3 x w.heap.size 99 3 (.slice u n ac) n (A6 T)):=K.o.other (fun g _ E=>F.block g E);have H:Hd (BwI A M N x B m r f i):=a.o.keep z.o;have cO:=A6M (b0:=.slice none 0 0) (b1:=.slice none 0 0) (b2:=.slice none 0 0) (b4:=r) B f.length n T HN.o f rfl A.heap.size (.slice u n ac) m x O aq H.o.bE.size H.o.bk H.o.eh (G.o.low a.o.bE.size);clear cF F K l;go_wp2_with fail;refine cO.mono ?_;rintro e w4 ⟨rfl,vs,lv,wv,ae,af⟩;dsimp only;have ag:=A4 af;have ap:=A4 ae;clear cO af ae;go_wp2_with fail;exact HQ.o w4 wv r _ i (by rw[List.length_append,List.length_map,ap.o];exact Nat.le_refl _) O (a.o.hits z.o G.o O aq ag.o) (fun q h1 h2 h3 h4=>(ag.o.other q (Nat.lt_of_lt_of_le h1 z.o.size) h2 h3 (fun e=>by have:=(G.o.lt e).1;omega)).trans (z.o.block q h1))
 by_cases k4:j=4
 ·subst k4;have cS:=c.o.save a.o;go_wp2_with fail;refine cS.mono ?_;rintro e w1 ⟨H1,aA,rfl,b⟩;dsimp only;have s:=A4 b;obtain⟨V,aa,ab,ad⟩:=ai.o w1 b;have t:=c.o.rsave (a.o.keep b);have aB:=A4 aA;clear cS b aA p0 p1 p2 p3;go_wp2_with fail;refine t.mono ?_;rintro e w2 ⟨H2,aC,rfl,d⟩;dsimp only;have l:Hd (Below w.heap.size w w2):=s.o.trans (d.mono s.o.size);have heq:H2=H1:=aC.uniq aB.o;subst heq;generalize (⟨(D3 k W sc R H2).toArray⟩:ByteArray)=aQ;clear t d aC aB V aa ab ad;go_wp2_with fail;exact HQ.o w2 m r f i O O (a.o.keep l.o) (fun q h1 _ _ _=>l.o.block q h1)
 have aR:(j==1)=false:=by rw[beq_eq_false_iff_ne];exact k1
 have aS:(j==2)=false:=by rw[beq_eq_false_iff_ne];exact fun e=>k2 (Or.inl e)
 have aT:(j==3)=false:=by rw[beq_eq_false_iff_ne];exact fun e=>k2 (Or.inr e)
 have aU:(j==4)=false:=by rw[beq_eq_false_iff_ne];exact k4
 go_wp2_with fail;exact HQ.o w m r f i O O a.o (fun _ _ _ _ _=>rfl)
theorem B3D {h:Int}(a:okI h):-9223372036854775808≤h∧h≤9223372036854775807:=by
 unfold okI at a;have e1:IntKind.i64.min=-9223372036854775808:=Z;have b:IntKind.i64.max=9223372036854775807:=Z;simp only[Lit.wf,e1,b,Bool.and_eq_true,decide_eq_true_eq]at a;exact a
theorem B2V (f i:World)(j X Y:Nat)(R:List S2)(k W sc:Nat)(hE:A0x f i j X Y R k W sc)(l:Nat)(t u:Value)(m p:List (Value×Int))(w:World)(hS:BwI f i j w l t u m p)(ad:m.length≤100000000)(ae:p.length≤100000000)(s h:Int)(rd:ByteArray)(af:rd.size≤140737488351232)(am:okI h)(Q:Ending→World→Prop)(hQ:AsQ f i j l t u m p w Q)
 (fa:Act)(au:Fr 129 [(0,.agg #[.pointer (some ⟨X,0,none⟩),.pointer (some ⟨Y,0,none⟩)]),(1,.agg #[I J s,.string rd,I J h]),(2,.pointer (some ⟨l,0,none⟩))] fa)(C:Code)(hC:Tryz.f13.body.bind (G4 3)=some C)(B:Code)(hB:Tryz.f13.body.bind (U5 3 C)=some B) :
 Code.wp Tryz.prog B (bodyPost Tryz.prog Tryz.f13 Q) fa w:=by
 have aa:=hB;conv at aa=>lhs;whnf
 injection aa with aa;subst aa;clear hB;obtain⟨f0,rfl,ag⟩:=au;simp only[Hs]at ag;simp only[fr,Y5,Nat.reduceAdd,ag];clear ag;have b:=A4 hE;have HQ:=A4 hQ;have ah:=A4 hC;have ai:=A4 am;obtain⟨a,d⟩:=A8 ((w.alloc (Obj.cells #[.pointer (some ⟨X,0,none⟩),.pointer (some ⟨Y,0,none⟩)] 29)).alloc (Obj.cells #[I J s,.string rd,I J h] 53));have aj:Below w.heap.size w a:=by rw[d];exact((Below.refl _ w).alloc (Nat.le_refl _) _).alloc Zs _
 have v:=A4 aj;have ab:Hd (a.heap[w.heap.size]?=some (.cells #[.pointer (some ⟨X,0,none⟩),.pointer (some ⟨Y,0,none⟩)] 29 (0,0))):=by
  rw[d];exact(Below.heap_alloc _ _ _ Zs).trans (heap_alloc_new w _)
 have z:Hd (a.heap[w.heap.size+1]?=some (.cells #[I J s,.string rd,I J h] 53 (0,0))):=by
  rw[d];exact heap_alloc2_new w _ _
 have ac:Hd (BwI f i j a l t u m p):=hS.keep aj;clear hQ hC hS hE am;have p1:a.cell? ⟨w.heap.size,1,none⟩=some (.pointer (some ⟨Y,0,none⟩)):=A1 ab.o rfl;have a0:a.cell? ⟨w.heap.size+1,0,none⟩=some (I J s):=A1 z.o rfl;have a2:a.cell? ⟨w.heap.size+1,2,none⟩=some (I J h):=A1 z.o rfl;by_cases k3:s=3
 ·subst k3;obtain⟨rv,lv,hY,hO,A,_⟩:=b.o.rx.range ac.o.ix;obtain⟨L,ak⟩:=A8 (stN k W R R.length);have an:=A0A b.o.k1 b.o.k2 b.o.w1 R (fun y hy=>(b.o.refs.1 y hy).1) R.length (Nat.le_refl _) (W:=W);have aA:=b.o.refs.2.2;have ao:=fun x=>A11 b.o.k1 b.o.k2 b.o.w1 R (fun y hy=>(b.o.refs.1 y hy).1) x (W:=W);rw[←ak]at A an;obtain⟨n,hn⟩:=A8 L.length;have HN:=A4 hn;rw[←hn]at A an;obtain⟨la,lc,rfl⟩:=A.form;have av:Hd (∀r (hr:r<L.length),okI L[r].1):=by
   intro r hr;have hm:L[r]∈stN k W R R.length:=by rw[←ak];exact List.getElem_mem _
   have aw:D6 k W R R.length L[r].1≠[]:=by rw[A1S];exact(B0e _ _).2 ⟨_,hm,rfl⟩
   have:=ao _ aw;exact A3z this.1 this.2
  have y4:a.cell? ⟨Y,4,none⟩=some (.slice la n lc):=A1 hY rfl;have HL:=A4 A;have aB:=lt_of_block hY;clear A hO ak ao hn aj;by_cases h0:n=0
  ·subst h0;go_upto_region 1 with fail;rw[←d];clear d;go_wp2_with fail;exact A7G f i j X Y R k W sc b.o l t u m p a ac.o ad ae 3 h rd af h ai.o w.heap.size (w.heap.size+1) ab.o z.o _ (Fr.of _ rfl ⟨rfl,rfl,rfl,rfl,trivial⟩) Q (fun w2 D E F G H M N P=>HQ.o w2 D E F G H M N (fun q h1 S T V=>(P q (Nat.lt_of_lt_of_le h1 v.o.size) S T V).trans (v.o.block q h1))) C ah.o
  ·have aC:(0:Int)<(n:Int):=O;have ax:=ai.o;have cP:=fun W'=>A82 h n W' (B3D ax) O O;obtain⟨g,o,cur,rfl,hg,aD,hc⟩:=A2h HL.o h0;go_upto_region 1 with fail;rw[←d];clear d;go_upto_region 3 with fail;rename_i K3 ap aE;refine A5 18 (fun W1=>W1.cell? ⟨w.heap.size,1,none⟩=some (.pointer (some ⟨Y,0,none⟩))∧W1.cell? ⟨Y,4,none⟩=some (.slice (some ⟨g,o,none⟩) n lc)∧W1.cell? ⟨w.heap.size+1,2,none⟩=some (I J h)) U ⟨p1,y4,a2⟩ (fun hH=>?_);refine A2 0 ?_;refine A2 1 ?_;refine A2 2 ?_;refine A2 3 ?_;refine A2 4 ?_;refine A2 5 ?_;refine A2 6 ?_;refine A2 7 ?_;refine A2 8 ?_;refine A2 9 ?_;refine A2 10 ?_;refine A2 11 ?_;refine A2 12 ?_;refine wpS 13 fun K c=>?_;go_simp;go_at_call 17;refine(cP _).mono ?_;rintro e w2 ⟨r,rfl,hr,rfl⟩;refine F7 c hH ?_;clear c K;have aq:r<L.length:=by have:=HN.o;omega
   have al:=(A0v L r aq).1;obtain⟨x,hx⟩:=A8 (L[r].1);have ar:okI x:=by rw[hx];exact av.o r aq
   rw[←hx]at al;have d0:a.drew.cell? ⟨g,o+r*4,none⟩=some (I J x):=A1 hg (by have:=hc _ _ al;rwa [Nat.mul_comm]at this);have ay:=A4 ar;clear hx al hc hg ar;refine wpS 14 fun K c=>?_;go_simp;refine F7 c hH ?_;clear c K;refine wpS 15 fun K c=>?_;go_simp;refine F7 c hH ?_;clear c K;refine wpS 16 fun K c=>?_;go_simp;refine F7 c hH ?_;clear c K;refine A2 17 ?_;refine M7 ?_;refine ap _ _ ?_;clear ap hH;have az:Below a.heap.size a a.drew:=⟨rfl,rfl,rfl,Nat.le_refl _,fun _ _=>rfl⟩;exact A7G f i j X Y R k W sc b.o l t u m p a.drew (ac.o.keep az) ad ae 3 h rd af x ay.o w.heap.size (w.heap.size+1) ab.o z.o _ (Fr.of _ rfl ⟨rfl,rfl,rfl,rfl,trivial⟩) Q (fun w2 D E F G H M N P=>HQ.o w2 D E F G H M N (fun q h1 S T V=>(P q (Nat.lt_of_lt_of_le h1 v.o.size) S T V).trans (v.o.block q h1))) C ah.o
 ·have aF:(s==3)=false:=by rw[beq_eq_false_iff_ne];exact k3
  go_upto_region 1 with fail;rw[←d];clear d;go_wp2_with fail;exact A7G f i j X Y R k W sc b.o l t u m p a ac.o ad ae s h rd af h ai.o w.heap.size (w.heap.size+1) ab.o z.o _ (Fr.of _ rfl ⟨rfl,rfl,rfl,rfl,trivial⟩) Q (fun w2 D E F G H M N P=>HQ.o w2 D E F G H M N (fun q h1 S T V=>(P q (Nat.lt_of_lt_of_le h1 v.o.size) S T V).trans (v.o.block q h1))) C ah.o
theorem A9y (b c:World)(d X Y:Nat)(R:List S2)(k W sc:Nat)(t:A0x b c d X Y R k W sc)(a:Nat)(l m:Value)(f g:List (Value×Int))(w:World)(u:BwI b c d w a l m f g)(v:f.length≤100000000)(x:g.length≤100000000)(p h:Int)(rd:ByteArray)(y:rd.size≤140737488351232)(z:okI h) :
 Calls Tryz.prog 13 #[.agg #[.pointer (some ⟨X,0,none⟩),.pointer (some ⟨Y,0,none⟩)],.agg #[I J p,.string rd,I J h],.pointer (some ⟨a,0,none⟩)] w fun e w'=>e=.returned (.bool true)∧∃n o i j,i.length≤f.length+4∧j.length≤g.length+4∧BwI b c d w' a n o i j∧(∀q,q<w.heap.size→q≠a→l.ownBlock≠some q→m.ownBlock≠some q→w'.heap[q]?=w.heap[q]?):=by
 obtain⟨C,r⟩:∃C,Tryz.f13.body.bind (G4 3)=some C:=⟨_,rfl⟩;obtain⟨B,s⟩:∃D,Tryz.f13.body.bind (U5 3 C)=some D:=⟨_,rfl⟩;have A:Tryz.f13.body=some B:=by
  have e1:=r;conv at e1=>lhs;whnf
  injection e1 with e1;subst e1;refine Eq.trans ?_ s;show Tryz.f13.body=_;first|kernel_rfl|rfl
 refine calls_of_wp Tryz.func13 A ?_;simp only[Tryz.ntmps13,List.size_toArray,List.length_cons,List.length_nil,Nat.reduceAdd,Nat.reduceSub,Array.replicate_succ,Array.replicate_zero,List.push_toArray,List.append_toArray,List.nil_append,List.cons_append];exact B2V b c d X Y R k W sc t a l m f g w u v x p h rd y z _ (fun w' n o i j h1 E F G=>⟨rfl,n,o,i,j,h1,E,F,G⟩) _ (Fr.of _ rfl ⟨rfl,rfl,rfl,trivial⟩) C r B s
def AkL (w:World)(ao:Option Addr)(n:Nat):Prop:=n=0∨∃g o,ao=some ⟨g,o,none⟩∧g<w.heap.size∧∀j,j<n→∃(kd h:Int) (rd:ByteArray),w.cell? ⟨g,o+j*3,none⟩=some (I J kd)∧w.cell? ⟨g,o+j*3+1,none⟩=some (.string rd)∧w.cell? ⟨g,o+j*3+2,none⟩=some (I J h)∧rd.size≤140737488351232∧okI h
theorem BwI.looks {a j:World}{k:Nat}{w:World}{b:Nat}{f g:Value}{c d:List (Value×Int)}(h:BwI a j k w b f g c d)(h1:c.length≤100000000)(l:d.length≤100000000) :
 Calls Tryz.prog 14 #[.pointer (some ⟨b,0,none⟩)] w fun e w'=>e=.returned (.bool true)∧Below w.heap.size w w':=
 A9k b a.heap.size a.heap.size c d f g w h1 l h.bk h.eh h.ef (fun i hi=>h.ah _ (List.getElem_mem _)) (fun i hi=>h.af _ (List.getElem_mem _))
theorem A3Y (a f:World)(i X Y:Nat)(R:List S2)(k W sc:Nat)(P:A0x a f i X Y R k W sc)(l:Nat)(E F:Value)(m p:List (Value×Int))(w:World)(b:BwI a f i w l E F m p)(G:Option Addr)(n cp:Nat)(hn:n≤10000000)(Q:AkL a G n)(aw:m.length+4*n≤100000000)(ax:p.length+4*n≤100000000) :
 Calls Tryz.prog 8 #[.agg #[.pointer (some ⟨X,0,none⟩),.pointer (some ⟨Y,0,none⟩)],.slice G n cp,.pointer (some ⟨l,0,none⟩)] w fun e w'=>e=.returned (.bool true)∧∃q r c d,c.length≤m.length+4*n∧d.length≤p.length+4*n∧BwI a f i w' l q r c d:=by
 have HE:=A4 P;obtain⟨H,y⟩:=A8 (w.alloc (Obj.cells #[.pointer (some ⟨X,0,none⟩),.pointer (some ⟨Y,0,none⟩)] 29));have S:Below w.heap.size w H:=by rw[y];exact(Below.refl _ w).alloc (Nat.le_refl _) _
 have T:Hd (H.heap[w.heap.size]?=some (.cells #[.pointer (some ⟨X,0,none⟩),.pointer (some ⟨Y,0,none⟩)] 29 (0,0))):=by rw[y];exact heap_alloc_new w _
 have V:Hd (BwI a f i H l E F m p):=b.keep S;have ag:=A4 Q;clear b P S Q;go_enter Tryz.func8,Tryz.ntmps8;go_upto_region 1 with fail;rw[←y];clear y;go_wp2_with fail;go_loopw [7] (fun L wr=>∃(j:Nat) (q r:Value) (c d:List (Value×Int)),j≤n∧L=I J j∧c.length≤m.length+4*j∧d.length≤p.length+4*j∧BwI a f i wr l q r c d∧wr.heap[w.heap.size]?=some (.cells #[.pointer (some ⟨X,0,none⟩),.pointer (some ⟨Y,0,none⟩)] 29 (0,0))) (fun L _=>n-(RowKit.intOf L).toNat);case atStart=>exact⟨0,E,F,m,p,Nat.zero_le _,rfl,O,O,V.o,T.o⟩
 case round=>
  clear V T;obtain⟨j,q,r,c,d,hj,rfl,ah,ai,b,t⟩:=hrel;have u:=A4 b;have v:=A4 t;by_cases aj:j<n
  ·obtain⟨g,o,rfl,M,aa⟩:∃g o,G=some ⟨g,o,none⟩∧g<a.heap.size∧∀j,j<n→∃(s h:Int) (rd:ByteArray),a.cell? ⟨g,o+j*3,none⟩=some (I J s)∧a.cell? ⟨g,o+j*3+1,none⟩=some (.string rd)∧a.cell? ⟨g,o+j*3+2,none⟩=some (I J h)∧rd.size≤140737488351232∧okI h:=by
    rcases ag.o with h|h
    ·omega
    ·exact h
   obtain⟨s,h,rd,d0,d1,d2,ak,ab⟩:=aa j aj;have z:=b.bE.block g M;have p0:wr.cell? ⟨w.heap.size,0,none⟩=some (.pointer (some ⟨X,0,none⟩)):=A1 t rfl;have p1:wr.cell? ⟨w.heap.size,1,none⟩=some (.pointer (some ⟨Y,0,none⟩)):=A1 t rfl;have c0:wr.cell? ⟨g,o+j*3,none⟩=some (I J s):=(World.cell?_of_block z).trans d0;have c1:wr.cell? ⟨g,o+j*3+1,none⟩=some (.string rd):=(World.cell?_of_block z).trans d1;have c2:wr.cell? ⟨g,o+j*3+2,none⟩=some (I J h):=(World.cell?_of_block z).trans d2;have al:Below wr.heap.size wr wr.drew:=⟨rfl,rfl,rfl,Nat.le_refl _,fun _ _=>rfl⟩;have cA:=A9y a f i X Y R k W sc HE.o l q r c d wr.drew (b.keep al) O O s h rd ak ab;clear d0 d1 d2 z aa b t ab;go_wp2_with fail;rename_i K4 ac;refine A5 8 (fun x=>x.cell? ⟨w.heap.size,0,none⟩=some (.pointer (some ⟨X,0,none⟩))∧x.cell? ⟨w.heap.size,1,none⟩=some (.pointer (some ⟨Y,0,none⟩))∧x.cell? ⟨g,o+j*3,none⟩=some (I J s)∧x.cell? ⟨g,o+j*3+1,none⟩=some (.string rd)∧x.cell? ⟨g,o+j*3+2,none⟩=some (I J h)) U ⟨p0,p1,c0,c1,c2⟩ (fun hH=>?_);refine A2 0 ?_;refine A2 1 ?_;refine A2 2 ?_;refine A2 3 ?_;refine A2 4 ?_;refine A2 5 ?_;refine wpS 6 fun K hK=>?_;go_simp;go_at_call 13;refine cA.mono ?_;rintro e w1 ⟨rfl,am,an,ap,aq,q1,q2,A,ad⟩;have ar:=lt_of_block v.o;have eP:w1.heap[w.heap.size]?=wr.heap[w.heap.size]?:=ad w.heap.size ar (fun e=>by have:=u.o.bk;rw[←e,v.o]at this;simp at this) (fun e=>u.o.eh.tag Z v.o e) (fun e=>u.o.ef.tag Z v.o e);have B:Hd (w1.heap[w.heap.size]?=some (.cells #[.pointer (some ⟨X,0,none⟩),.pointer (some ⟨Y,0,none⟩)] 29 (0,0))):=eP.trans v.o;have au:=A4 A;have C:=A.bE.block g M;have D:=u.o.bE.block g M;have N:w1.cell? ⟨w.heap.size,0,none⟩=some (.pointer (some ⟨X,0,none⟩))∧w1.cell? ⟨w.heap.size,1,none⟩=some (.pointer (some ⟨Y,0,none⟩))∧w1.cell? ⟨g,o+j*3,none⟩=some (I J s)∧w1.cell? ⟨g,o+j*3+1,none⟩=some (.string rd)∧w1.cell? ⟨g,o+j*3+2,none⟩=some (I J h):=⟨A1 B.o rfl,A1 B.o rfl,(World.cell?_of_block (C.trans D.symm)).trans c0,(World.cell?_of_block (C.trans D.symm)).trans c1,(World.cell?_of_block (C.trans D.symm)).trans c2⟩;refine hK.out _ _ N ?_;clear hK K hH;have hH:=N;clear N;try simp only[Act.put,zA0,zZ0,zS0]
   refine A2 7 ?_;refine M7 ?_;refine ac _ _ ?_;clear ac hH cA ad eP C D p0 p1 c0 c1 c2;have cL:=A.looks O O;clear A;go_wp2_with fail;refine cL.mono ?_;rintro e w2 ⟨rfl,ae⟩;dsimp only;have af:=A4 ae;clear cL ae;go_wp2_with fail;go_roundw;case rel=>exact⟨j+1,am,an,ap,aq,O,Zn,O,O,au.o.keep af.o,(af.o.block _ (lt_of_block B.o)).trans B.o⟩
   case measure=>simp[RowKit.intOf];omega
  ·have av:j=n:=O;subst av;clear b t;go_wp2;go_ret;exact⟨rfl,q,r,c,d,ah,ai,u.o⟩
end
section
open Go.RowKit Go.Shelf Go.Lib
theorem A3T:∀(R:List S2),(∀x∈R,x.n.size≤8000∧x.b.size≤4000)→(R.flatMap D0).length≤R.length*12003
 |[],_=>Zs
 |x::t,h=>by
  have f:=A3T t (fun y a=>h y (List.mem_cons_of_mem _ a))
  have g:=h x List.mem_cons_self
  have e1:x.n.data.toList.length=x.n.size:=rfl
  have c:x.b.data.toList.length=x.b.size:=rfl
  have d:(D0 x).length=1+x.n.size+2+x.b.size:=by
   unfold D0
   rw[List.length_append,List.length_append,List.length_append,B2,B2,e1,c]
  rw[List.flatMap_cons,List.length_append,List.length_cons,d]
  omega
theorem A8U (k W sc:Nat)(R:List S2)(a:∀x∈R,x.n.size≤8000∧x.b.size≤4000)(f:R.length≤40000):(D2 k W sc R).length≤500000000:=by
 have h1:=A3T R a;have c:(J5 k W sc).length=10:=by unfold J5;simp only[List.length_append,B2]
 have d:(J6:List UInt8).length=4:=rfl;unfold D2;rw[List.length_append,List.length_append,List.length_append,c,d,B2];omega
theorem RxP.low {w:World}{base a Y:Nat}{R:List S2}{k W sc:Nat}(h:RxP w base Y R k W sc)(b:a≤base):RxP w a Y R k W sc:=by
 obtain⟨c,d,h1,f,g,i⟩:=h;exact⟨c,d,h1,f.low b,g.low b,O⟩
theorem A90 {s:ByteArray}{k W:Int}{sc:Nat}(h:(A0M s k W sc).1=0)(a:sc<2^64):sc=9223372036854775808∨sc≤4652007308841189376:=by
 unfold A0M at h;by_cases ho:J1 k W sc=true
 ·unfold J1 at ho;simp only[Bool.and_eq_true]at ho;exact A4G sc a ho.1.2 ho.2
 ·rw[if_neg ho]at h;cases h
theorem BwI.new {b a w:World}{h c:Nat}(i:Below b.heap.size b w)(j:∀g,h≤g→g<a.heap.size→w.heap[g]?=a.heap[g]?)(k:a.heap.size≤w.heap.size)(n:b.heap.size≤a.heap.size)(l:w.heap[c]?=some (.cells #[.slice none 0 0,.slice none 0 0,.slice none 0 0,.slice none 0 0,.slice none 0 0] 40 (0,0)))(m:a.heap.size≤c):BwI b a h w c (.slice none 0 0) (.slice none 0 0) [] []:=
 {bE:=i,sz:=k,ix:=j,bk:=l,b0:=O,bo:=Or.inr m,ho:=(fun g d=>by cases d),fo:=(fun g d=>by cases d),eh:=A3.nil _ _ _ _,ef:=A3.nil _ _ _ _,ah:=fun p f=>absurd f List.not_mem_nil,af:=fun p f=>absurd f List.not_mem_nil}
end
end Mn
end Go.Proofs.YtilcmkiihefkkaaGreatDoor
