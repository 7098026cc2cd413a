import Derived.Test.YtilcmkiihefkkaaGreatDoorJl47
import Derived.Test.YtilcmkiihefkkaaGreatDoorJl48
set_option linter.unusedVariables false
set_option linter.unusedSimpArgs false
set_option maxRecDepth 1000000
set_option maxHeartbeats 64000000
open Go.Value renaming int→I
open Go.IntKind renaming i64→J
namespace Go.Proofs.YtilcmkiihefkkaaGreatDoor
namespace Mn
section
open Go.RowKit Go.Shelf Go.Lib
attribute [local go_sem] C0
theorem Z6.err {T:List UInt8}{w w':World}(a:Below w.heap.size w w')(h:∀R H,¬OKc T R H):Z6 T w (.returned (.tuple #[.pointer none,I J 8])) w':=⟨a,Or.inr ⟨rfl,h⟩⟩
theorem T8 (s:ByteArray)(a b:Nat):(s.extract a b).data.toList=(s.data.toList.drop a).take (b-a):=by rw[I7]
theorem B29:∀(n:Nat) (l:List UInt8),l.length=n→B8 (J4 l) n=l
 |0,l,h=>by rw[List.eq_nil_of_length_eq_zero h];rfl
 |n+1,l,h=>by
  obtain⟨t,b,rfl⟩:∃t b,l=t++[b]:=by
   rcases List.eq_nil_or_concat l with e|⟨t,b,e⟩
   ·rw[e]at h;cases h
   ·exact⟨t,b,by rw[e,List.concat_eq_append]⟩
  have ht:t.length=n:=by simpa using h
  rw[A6t,B8]
  have c:=b.toNat_lt
  have e1:(J4 t*256+b.toNat)/256=J4 t:=O
  have a:(J4 t*256+b.toNat)%256=b.toNat:=O
  rw[e1,a,B29 n t ht]
  simp
theorem A3o (k W sc:Nat)(R:List S2)(H:List Int):∃a,D3 k W sc R H=(J6++B8 k 1++B8 W 1)++(B8 sc 8++a)∧D3 k W 0 R H=(J6++B8 k 1++B8 W 1)++(B8 0 8++a):=by
 refine⟨B8 R.length 2++(R.flatMap D0++(B8 H.length 2++S3 (D6 k W R R.length) 0 H)),?_,?_⟩<;>(unfold D3 D2 J5;simp only[List.append_assoc])
theorem B0G (k W sc:Nat)(R:List S2)(H:List Int)(T:List UInt8)(i:16≤T.length)(c:sc=J4 ((T.drop 6).take 8)) :
 D3 k W sc R H=T↔((D3 k W 0 R H).take 6=T.take 6∧(D3 k W 0 R H).drop 14=T.drop 14):=by
 obtain⟨a,e1,d⟩:=A3o k W sc R H;have b:(J6++B8 k 1++B8 W 1).length=6:=by simp only[List.length_append,B2];rfl
 have f:((T.drop 6).take 8).length=8:=by rw[List.length_take,List.length_drop];omega
 have hw:=B29 8 _ f;rw[←c]at hw;have d6:∀x,((J6++B8 k 1++B8 W 1)++(B8 x 8++a)).take 6=J6++B8 k 1++B8 W 1:=fun x=>List.take_left' b;have d14:∀x,((J6++B8 k 1++B8 W 1)++(B8 x 8++a)).drop 14=a:=fun x=>by
  rw[show(14:Nat)=6+8 from rfl,←List.drop_drop,List.drop_left' b,List.drop_left' (B2 8 x)]
 rw[e1,d,d6,d14];constructor
 ·intro h;rw[←h,d6,d14];exact⟨rfl,rfl⟩
 ·rintro⟨h1,g⟩;have:T=T.take 6++((T.drop 6).take 8++T.drop 14):=by
   conv=>lhs;rw[←List.take_append_drop 6 T,←List.take_append_drop 8 (T.drop 6),List.drop_drop]
  rw[this,←h1,hw,←g]
theorem B2K (s:ByteArray)(T:List UInt8)(R:List S2)(k W sc m Ob:Nat)(rv:Value)(d w:World)(hs:s.size≤140737488351232)(hT:T=s.data.toList)(aG:16≤s.size)(hk:k=roK (T.drop 4))(S:W=roW (T.drop 4))(A:sc=roS (T.drop 4))(ho:J1 k W sc=true)(hm:m=J4 ((T.drop 14).take 2))(hD:DcP m (T.drop 16) [] (some R))
 (hR:∀x∈R,good x.b∧x.n.size≤255∧x.b.size≤65535)(aH:R.length<65536)(hO:A3 w d.heap.size 88 2 rv R.length (B3 R))(K:w.heap[Ob]?=some (.cells #[I J k,I J W,.float .f64 sc] 24 (0,0)))(hb:Below d.heap.size d w)
 (fa:Act)(aI:Fr 164 [(0,.string s),(4,.float .f64 sc),(6,.pointer (some ⟨Ob,0,none⟩)),(8,rv)] fa)(C:Code)(hC:Tryz.f10.body.bind (G4 9)=some C) :
 Code.wp Tryz.prog C (bodyPost Tryz.prog Tryz.f10 (fun e w'=>Z6 T d e w')) fa w:=by
 have V:=hC;conv at V=>lhs;whnf
 injection V with V;subst V;clear hC;obtain⟨f0,rfl,af⟩:=aI;simp only[Hs]at af;simp only[fr,Y5,Nat.reduceAdd,af];clear af;have X:=A4 hb;have q:=A0u ho;have aT:=A4G sc (by rw[A];exact A20 _) (by unfold J1 at ho;simp only[Bool.and_eq_true]at ho;exact ho.1.2) (by unfold J1 at ho;simp only[Bool.and_eq_true]at ho;exact ho.2);have ag:Hd (∀c a,OKc T c a→c=R):=fun c a h=>by
  have:=DcP.uniq _ _ _ _ _ h.1 (hm▸hD);exact Option.some.inj this
 have aJ:Hd (∀H,G0 R=0→HsP (D6 k W R R.length) H→D3 k W sc R H=T→OKc T R H):=by
  intro H h1 r L;subst hk S A;exact⟨hm▸hD,ho,h1,r,L⟩
 have ah:Hd (∀H,OKc T R H→G0 R=0∧HsP (D6 k W R R.length) H∧D3 k W sc R H=T):=by
  intro H h;subst hk S A;exact h.2.2
 have ai:Hd (k=roK (T.drop 4)∧W=roW (T.drop 4)∧sc=roS (T.drop 4)):=⟨hk,S,A⟩;have Y:=A4 hT;have aK:Hd (sc=J4 ((T.drop 6).take 8)):=by show _=_;rw[A];unfold roS;rw[List.drop_drop]
 have HR:=A4 hR;obtain⟨n,hn⟩:=A8 R.length;have f:=A4 hn;obtain⟨l,rc,av⟩:=hO.form;rw[←hn]at av hO aH;subst av;have HO:=A4 hO;have x0:=A1 K (i:=0) rfl;have x1:=A1 K (i:=1) rfl;have x2:=A1 K (i:=2) rfl;have aU:=A4 K;clear hb hD hO hR hn hk S A hT K;by_cases h0:n=0
 ·have u:Hd (∀c a,¬OKc T c a):=fun c a h=>by
   obtain rfl:=ag.o c a h;have:=(A0k (ah.o a h).1).2;have:=f.o;omega
  have aL:((n:Int)==0)=true:=by rw[h0];rfl
  go_wp2;go_ret2;exact Z6.err X.o u.o
 ·have aL:((n:Int)==0)=false:=by rw[beq_eq_false_iff_ne];omega
  have cM:=A03 R d.heap.size (.slice l n rc) w (by rw[←f.o];omega) (fun x j=>by have:=(HR.o x j).2.2;omega) (by rw[←f.o];exact HO.o);obtain⟨sm,aj⟩:=A8 (C7 R R.length);have M:=A4 aj;rw[←aj]at cM;clear aj;go_wp2_with fail;refine cM.mono ?_;rintro e w1 ⟨rfl,aw⟩;rw[aw];clear aw w1;dsimp only;by_cases h4:4000<sm
  ·have aM:(4000:Int)<(sm:Int):=O;have u:Hd (∀c a,¬OKc T c a):=fun c a h=>by
    obtain rfl:=ag.o c a h;have:=(A0k (ah.o a h).1).1;have:=M.o;omega
   clear cM;go_wp2;go_ret2;exact Z6.err X.o u.o
  ·have aM:¬(4000:Int)<(sm:Int):=O;have aN:Hd (G0 R=0):=by
    show _=_;unfold G0;rw[if_neg (by rw[←M.o];exact h4),if_neg (by rw[←f.o];exact h0)]
   have cO:=A7T R d.heap.size (.slice l n rc) k W sc w q.1.1 q.1.2 q.2.1 q.2.2 (by rw[←f.o];omega) (fun x j=>(HR.o x j).1) (by rw[←M.o];omega) (by rw[←f.o];exact HO.o);clear cM;go_wp2_with fail;refine cO.mono ?_;rintro e w1 ⟨B,rfl,v⟩;dsimp only;have ak:=X.o.size;have ax:=v.ix;have y:w1.heap[w.heap.size+1]?=some (.cells #[I J k,I J W,.float .f64 sc,.slice l n rc,B] 93 (0,0)):=ax;have y2:w1.cell? ⟨w.heap.size+1,2,none⟩=some (.float .f64 sc):=A1 y rfl;have yz:∀off,w1.frozen? ⟨w.heap.size+1,off,none⟩=false:=fun off=>frozen_of_row _ _ _ _ _ y;obtain⟨w2,al⟩:=A8 (w1.setCell ⟨w.heap.size+1,2,none⟩ (.float .f64 0));have N:E1 w1 w2 (w.heap.size+1) (.cells (ixC k W 0 (.slice l n rc) B) 93 (0,0)):=by
    have:=E1.of_setCell (i:=2) (.float .f64 0) y;simp only[List.setIfInBounds_toArray,List.set_cons_zero,List.set_cons_succ]at this;rw[al];exact this
   have aa:A3 w1 d.heap.size 88 2 (.slice l n rc) n (B3 R):=HO.o.other (fun g _ p=>v.bl.block g p);have ay:RxP w2 d.heap.size (w.heap.size+1) R k W 0:=by
    refine⟨.slice l n rc,B,N.here,?_,?_,O⟩
    ·rw[←f.o];exact aa.other (fun g p _=>N.other g (fun e=>aa.tag Z y (e▸p)))
    ·exact(v.ow.other (fun g p _=>N.other g (fun e=>v.ow.tag Z y (e▸p)))).low ak
   have az:(D2 k W 0 R).length≤500000000:=by
    have h1:=A3d R (fun x j=>(HR.o x j).2.1);have r:(J5 k W 0).length=10:=by unfold J5;simp only[List.length_append,B2]
    have L:(J6:List UInt8).length=4:=rfl;unfold D2;rw[List.length_append,List.length_append,List.length_append,r,L,B2];have:=f.o;have:=M.o;omega
   have cS:=A2p R d.heap.size (w.heap.size+1) k W 0 w2 q.1.1 q.1.2 q.2.1 q.2.2 (Or.inr O) (fun x j=>(HR.o x j).1) (by rw[←f.o];omega) (by rw[←M.o];omega) az ay;have HI:=A4 v;have D:=A4 N;have aA:=A4 v.ow;have aB:=A4 aa;have aC:=A4 y;clear cO v ax y ay az aa N;go_wp2_with fail;rw[←al];clear al y2 yz;refine cS.mono ?_;rintro e P ⟨H,hH,rfl,ab⟩;dsimp only;have ac:P.heap[w.heap.size+1]?=some (.cells #[I J k,I J W,.float .f64 0,.slice l n rc,B] 93 (0,0)):=(ab.block _ (lt_of_block D.o.here)).trans D.o.here;have y2:P.cell? ⟨w.heap.size+1,2,none⟩=some (.float .f64 0):=A1 ac rfl;have yz:∀off,P.frozen? ⟨w.heap.size+1,off,none⟩=false:=fun off=>frozen_of_row _ _ _ _ _ ac;obtain⟨E,am⟩:=A8 (P.setCell ⟨w.heap.size+1,2,none⟩ (.float .f64 sc));have U4:E1 P E (w.heap.size+1) (.cells (ixC k W sc (.slice l n rc) B) 93 (0,0)):=by
    have:=E1.of_setCell (i:=2) (.float .f64 sc) ac;simp only[List.setIfInBounds_toArray,List.set_cons_zero,List.set_cons_succ]at this;rw[am];exact this
   have Q:Hd (Below d.heap.size d E):=X.o.trans ((HI.o.bl.mono ak).trans ((D.o.below O).trans ((ab.mono (by have:=D.o.size;have:=HI.o.bl.size;omega)).trans (U4.below O))));have aO:Hd (RxP E d.heap.size (w.heap.size+1) R k W sc):=by
    have keep:∀g,g≠w.heap.size+1→g<w1.heap.size→E.heap[g]?=w1.heap[g]?:=fun g h1 r=>(U4.other g h1).trans ((ab.block g (by rw[D.o.size];exact r)).trans (D.o.other g h1));refine⟨.slice l n rc,B,U4.here,?_,?_,O⟩
    ·rw[←f.o];exact aB.o.other (fun g p hl=>keep g (fun e=>aB.o.tag Z aC.o (e▸p)) hl)
    ·exact(aA.o.other (fun g p hl=>keep g (fun e=>aA.o.tag Z aC.o (e▸p)) hl)).low ak
   have an:=A4 (B0G k W sc R H T (by rw[Y.o,Array.length_toList];exact aG) aK.o);obtain⟨t,ht⟩:=A8 (⟨(D3 k W 0 R H).toArray⟩:ByteArray);have aD:Hd (t.data.toList=D3 k W 0 R H):=by show _=_;rw[ht]
   have aV:16≤t.size:=by
    obtain⟨aW,_,e⟩:=A3o k W sc R H;rw[ht];show 16≤(D3 k W 0 R H).toArray.size;rw[List.size_toArray];have r:(J5 k W 0).length=10:=by unfold J5;simp only[List.length_append,B2]
    have L:(J6:List UInt8).length=4:=rfl;unfold D3 D2;simp only[List.length_append,B2,r,L];omega
   have aE:=A4 hH;rw[←ht];clear cS ab ac ht hH U4;have i1:(6:Int)≤t.size:=O;have i2:(6:Int)≤s.size:=O;have i3:(14:Int)≤t.size:=O;have i4:(14:Int)≤s.size:=O;obtain⟨t6,ao⟩:=A8 (t.extract 0 6);obtain⟨s6,ap⟩:=A8 (s.extract 0 6);obtain⟨t14,aq⟩:=A8 (t.extract 14 t.size);obtain⟨ad,ar⟩:=A8 (s.extract 14 s.size);have E6:Hd (t6.toList=(D3 k W 0 R H).take 6∧s6.toList=T.take 6):=by
    refine⟨?_,?_⟩
    ·rw[P2,ao,T8,aD.o];simp
    ·rw[P2,ap,T8,←Y.o];simp
   have ae:Hd (t14.toList=(D3 k W 0 R H).drop 14∧ad.toList=T.drop 14):=by
    refine⟨?_,?_⟩
    ·rw[P2,aq,T8,←aD.o,List.take_of_length_le];rw[List.length_drop,Array.length_toList];exact Nat.le_refl _
    ·rw[P2,ar,T8,←Y.o,List.take_of_length_le];rw[List.length_drop,Y.o,Array.length_toList];exact Nat.le_refl _
   have r1:t.extract 0 6=t6:=ao.symm;have r2:s.extract 0 6=s6:=ap.symm;have r3:t.extract 14 t.size=t14:=aq.symm;have r4:s.extract 14 s.size=ad:=ar.symm;clear ao ap aq ar;go_upto_region 34 with fail;rename_i aX F;rw[←am];clear am y2 yz;have au:Hd (Below d.heap.size d E.drew):=⟨Q.o.os,Q.o.tape,Q.o.output,Q.o.size,Q.o.block⟩;have aP:Hd (RxP E.drew d.heap.size (w.heap.size+1) R k W sc):=aO.o.kept (fun _ _=>rfl);have aF:Hd (D3 k W sc R H≠T→∀c a,¬OKc T c a):=fun aQ c a h=>by
    obtain rfl:=ag.o c a h;have h1:=ah.o a h;rw[h1.2.1.uniq aE.o]at h1;exact aQ h1.2.2
   by_cases z:(D3 k W 0 R H).take 6=T.take 6
   ·have b6:(t6.toList==s6.toList)=true:=by rw[E6.o.1,E6.o.2,z,beq_iff_eq]
    by_cases G:(D3 k W 0 R H).drop 14=T.drop 14
    ·have aR:(t14.toList==ad.toList)=true:=by rw[ae.o.1,ae.o.2,G,beq_iff_eq]
     have aS:Hd (D3 k W sc R H=T):=an.o.2 ⟨z,G⟩;clear z G;refine A5 12 (fun _=>True) U trivial (fun hH=>?_);refine A2 0 ?_;refine A2 1 ?_;refine A2 2 ?_;refine A2 3 ?_;refine A2 4 ?_;refine A2 5 ?_;refine A2 6 ?_;refine A2 7 ?_;refine A2 8 ?_;refine A2 9 ?_;refine A2 10 ?_;refine A2 11 ?_;refine M7 ?_;refine F _ _ ?_;clear F hH;go_wp2;go_ret2;have j:=aP.o;rw[ai.o.1,ai.o.2.1,ai.o.2.2]at j;exact⟨au.o,Or.inl ⟨w.heap.size+1,R,H,rfl,aJ.o H aN.o aE.o aS.o,j⟩⟩
    ·have aR:(t14.toList==ad.toList)=false:=by rw[ae.o.1,ae.o.2,beq_eq_false_iff_ne];exact G
     have u:Hd (∀c a,¬OKc T c a):=aF.o (fun h=>G (an.o.1 h).2);clear z G;refine A5 12 (fun _=>True) U trivial (fun hH=>?_);refine A2 0 ?_;refine A2 1 ?_;refine A2 2 ?_;refine A2 3 ?_;refine A2 4 ?_;refine A2 5 ?_;refine A2 6 ?_;refine A2 7 ?_;refine A2 8 ?_;refine A2 9 ?_;refine A2 10 ?_;refine A2 11 ?_;refine M7 ?_;refine F _ _ ?_;clear F hH;go_wp2;go_ret2;exact Z6.err au.o u.o
   ·have b6:(t6.toList==s6.toList)=false:=by rw[E6.o.1,E6.o.2,beq_eq_false_iff_ne];exact z
    have u:Hd (∀c a,¬OKc T c a):=aF.o (fun h=>z (an.o.1 h).1);clear z;refine A5 12 (fun _=>True) U trivial (fun hH=>?_);refine A2 0 ?_;refine A2 1 ?_;refine A2 2 ?_;refine A2 3 ?_;refine A2 4 ?_;refine A2 5 ?_;refine F0 6 ?_;refine F0 7 ?_;refine F0 8 ?_;refine F0 9 ?_;refine F0 10 ?_;refine A2 11 ?_;refine M7 ?_;refine F _ _ ?_;clear F hH;go_wp2;go_ret2;exact Z6.err au.o u.o
theorem A43 (s:ByteArray)(j:Nat)(h:j<s.size):s[j].toNat=J4 ((s.data.toList.drop j).take 1):=by
 have a:j<s.data.toList.length:=by rw[Array.length_toList];exact h
 rw[List.drop_eq_getElem_cons a];simp[J4];rfl
theorem B1X (q:Nat)(x:Int)(h:x=((q+1:Nat):Int)):(RowKit.intOf (I J (q:Int))).toNat<(RowKit.intOf (I J x)).toNat:=by
 subst h;show(q:Int).toNat<(((q+1:Nat):Int)).toNat;rw[Int.toNat_natCast,Int.toNat_natCast];exact Nat.lt_succ_self q
theorem B2m (s:ByteArray)(T:List UInt8)(k W sc P:Nat)(v w:World)(hs:s.size≤140737488351232)(Q:T=s.data.toList)(aD:16≤s.size)(hk:k=roK (T.drop 4))(hW:W=roW (T.drop 4))(ap:sc=roS (T.drop 4))(ho:J1 k W sc=true)
 (B:w.heap[P]?=some (.cells #[I J k,I J W,.float .f64 sc] 24 (0,0)))(hb:Below v.heap.size v w)
 (fa:Act)(aE:Fr 164 [(0,.string s),(4,.float .f64 sc),(6,.pointer (some ⟨P,0,none⟩))] fa)(C:Code)(hC:Tryz.f10.body.bind (G4 9)=some C)(C6:Code)(aq:(Tryz.f10.body.bind (G4 6)).bind (U5 3 C)=some C6) :
 Code.wp Tryz.prog C6 (bodyPost Tryz.prog Tryz.f10 (fun e w'=>Z6 T v e w')) fa w:=by
 obtain⟨i0,hi,aF,aG,aH⟩:=info_parts Tryz.info88;have ab:=aq;conv at ab=>lhs;whnf
 injection ab with ab;subst ab;clear aq;obtain⟨f0,rfl,ak⟩:=aE;simp only[Hs]at ak;simp only[fr,Y5,Nat.reduceAdd,ak];clear ak;obtain⟨m,hm⟩:∃m,m=J4 ((T.drop 14).take 2):=⟨_,rfl⟩;have bi:m<65536:=by
  have h1:=U0 ((T.drop 14).take 2);have h2:=Nat.pow_le_pow_right (show 0<256 by omega) (show((T.drop 14).take 2).length≤2 by rw[List.length_take];omega);omega
 have cN:=Z4 s 14 2 w O O O;rw[←Q,←hm]at cN;have aI:=A4 (fun R rv w E hR aJ hO B hb=>B2K s T R k W sc m P rv v w hs Q aD hk hW ap ho hm E hR aJ hO B hb);have aK:Hd (DcP m (T.drop 16) [] none→∀f i,¬OKc T f i):=fun E f i h=>by
  have:=DcP.uniq _ _ _ _ _ h.1 (hm▸E);cases this
 have HT:=A4 Q;have aL:Hd (T.length=s.size):=by show _=_;rw[Q,Array.length_toList];rfl
 have aM:=A4 hC;have HB:=A4 hb;have D:=A4 B;clear hC hb B hm Q hk hW ap ho;go_wp2_with fail;refine cN.mono ?_;rintro e w1 ⟨rfl,j⟩;rw[j];clear j w1 cN;dsimp only;go_wp2_with fail;go_loopw [8,9,10] (fun rv av nv wr=>∃(q a:Nat) (acc:List S2),nv=I J q∧av=I J a∧16≤a∧a≤s.size∧acc.length+q=m∧A3 wr v.heap.size 88 2 rv acc.length (B3 acc)∧(∀r,DcP q (T.drop a) acc r→DcP m (T.drop 16) [] r)∧(∀x∈acc,good x.b∧x.n.size≤255∧x.b.size≤65535)∧Below v.heap.size v wr∧wr.heap[P]?=some (.cells #[I J k,I J W,.float .f64 sc] 24 (0,0))) (fun _ _ nv _=>(RowKit.intOf nv).toNat);case atStart=>exact⟨m,16,[],rfl,rfl,O,O,Zs,A3.nil _ _ _ _,fun _ h=>h,fun x A=>absurd A List.not_mem_nil,HB.o,D.o⟩
 case round=>
  clear HB D;obtain⟨q,a,acc,rfl,rfl,bj,bk,aN,hO,E,ar,au,B⟩:=hrel;have p:=A4 au;have D:=A4 B;have aw:=A4 ar;have ac:=A4 E;obtain⟨n,hn⟩:∃n,n=acc.length:=⟨_,rfl⟩;have F:=A4 hn;rw[←hn]at hO aN;obtain⟨G,rc,aO⟩:=hO.form;subst aO;have S:=A4 hO;clear au B ar E hO hn;cases q with
  |zero=>
   have aP:Hd (DcP m (T.drop 16) [] (some acc)):=ac.o (some acc) rfl;have ax:A3 wr v.heap.size 88 2 (.slice G n rc) acc.length (B3 acc):=by rw[←F.o];exact S.o
   have aQ:=A4 ax;clear ax;go_wp2_with fail;exact aI.o acc (.slice G n rc) wr aP.o aw.o (by have:=F.o;omega) aQ.o D.o p.o _ (Fr.of _ rfl ⟨rfl,rfl,rfl,rfl,trivial⟩) C aM.o
  |succ q=>
   have aR:(0:Int)<((q+1:Nat):Int):=O;obtain⟨q1,al⟩:∃q1:Int,q1=((q+1:Nat):Int):=⟨_,rfl⟩;have am:=A4 al;rw[←al]at aR⊢;obtain⟨l,H⟩:∃l,l=T.drop a:=⟨_,rfl⟩;have HL:=A4 H;have ad:Hd (l.length=s.size-a):=by show _=_;rw[H,List.length_drop,aL.o]
   have L:Hd (¬A9P l acc→∀f i,¬OKc T f i):=fun h=>aK.o (ac.o none (Or.inr ⟨by rw[←H];exact h,rfl⟩));have aS:Hd (A9P l acc→∀r,DcP q (rfR l) (acc++[rfX l]) r→DcP m (T.drop 16) [] r):=fun h r hr=>ac.o r (Or.inl ⟨by rw[←H];exact h,by rw[←H];exact hr⟩);clear H al ac;by_cases g1:a<s.size
   ·have aT:(a:Int)<(s.size:Int):=O;have bl:¬(s.size:Int)≤(a:Int):=O;obtain⟨c,hc⟩:∃c,c=s[a].toNat:=⟨_,rfl⟩;have bm:s[a].toNat=c:=hc.symm;have bn:c<256:=by rw[hc];exact UInt8.toNat_lt _
    have V:Hd (J4 (l.take 1)=c):=by show _=_;rw[hc,HL.o,HT.o];exact(A43 s a g1).symm
    have wc:IntKind.i64.wrap (c:Int)=c:=Zw;clear hc;by_cases g2:a+1+c+2≤s.size
    ·have aU:¬(s.size:Int)<(a:Int)+1+c+2:=O;obtain⟨K,X⟩:∃K,K=a+1+c:=⟨_,rfl⟩;obtain⟨z,hz⟩:∃z,z=J4 ((T.drop K).take 2):=⟨_,rfl⟩;have bo:z<65536:=by
      have h1:=U0 ((T.drop K).take 2);have h2:=Nat.pow_le_pow_right (show 0<256 by omega) (show((T.drop K).take 2).length≤2 by rw[List.length_take];omega);omega
     have an:Hd (rfL l=T.drop K):=by
      show _=_;unfold rfL;rw[V.o,HL.o,List.drop_drop,List.drop_drop,X,Nat.add_assoc]
     have HZ:Hd (J4 ((rfL l).take 2)=z):=by show _=_;rw[an.o,hz]
     have cZ:∀d,Calls Tryz.prog 32 #[.string s,I J ((a:Int)+1+c),I J 2] d fun e w'=>e=.returned (I J (z:Int))∧w'=d:=fun d=>by
      have:=Z4 s K 2 d O O O;rw[←HT.o,←hz,X]at this;have e:(((a+1+c:Nat)):Int)=(a:Int)+1+c:=O;rw[e]at this;exact this
     obtain⟨nm,ae⟩:∃nm,nm=s.extract (a+1) K:=⟨_,rfl⟩;have M:Hd (nm=(rfX l).n):=by
      show _=_;apply A31;rw[ae,T8,←HT.o];show _=rfN l;unfold rfN;rw[V.o,HL.o,List.drop_drop];congr 1;omega
     have aV:nm.size≤255:=by rw[ae,ByteArray.size_extract];omega
     have bp:s.extract (a+1) (a+1+c)=nm:=by rw[←X];exact ae.symm
     have tK:((a:Int)+1+c).toNat=K:=O;have tA:((a:Int)+1).toNat=a+1:=O;have v1:(0:Int)≤(a:Int)+1:=O;have v2:(a:Int)+1≤(a:Int)+1+c:=O;have v3:(a:Int)+1+c≤s.size:=O;have v4:(0:Int)≤(a:Int)+1+c:=O;have HK:=A4 X;clear hz ae X tK;go_wp2_with fail;refine(cZ _).mono ?_;rintro e w1 ⟨rfl,j⟩;rw[j];clear j w1 cZ;dsimp only;by_cases g3:a+1+c+2+z≤s.size
     ·have aW:¬(s.size:Int)<(a:Int)+1+c+2+z:=O;obtain⟨t,af⟩:∃t,t=s.extract (a+1+c+2) (a+1+c+2+z):=⟨_,rfl⟩;have ag:Hd (t=(rfX l).b):=by
       show _=_;apply A31;rw[af,T8,←HT.o];show _=rfB l;unfold rfB;rw[HZ.o,an.o,List.drop_drop,HK.o];congr 1;omega
      have aX:t.size=z:=by rw[af,ByteArray.size_extract];omega
      have bq:s.extract (a+1+c+2) (a+1+c+2+z)=t:=af.symm;have aY:Hd (t.size≤65535):=by show _≤_;omega
      have v5:(0:Int)≤(a:Int)+1+c+2:=O;have v6:(a:Int)+1+c+2≤(a:Int)+1+c+2+z:=O;have v7:(a:Int)+1+c+2+z≤s.size:=O;have v8:(0:Int)≤(a:Int)+1+c+2+z:=O;have aZ:Hd (1+J4 (l.take 1)+2≤l.length∧1+J4 (l.take 1)+2+J4 ((rfL l).take 2)≤l.length):=by
       show _∧_;rw[V.o,HZ.o,ad.o];omega
      have bc:Hd (rfR l=T.drop (a+1+c+2+z)):=by
       show _=_;unfold rfR;rw[HZ.o,an.o,List.drop_drop,List.drop_drop,HK.o];congr 1;omega
      have cn:=A39 nm wr O;have cb:=A0h t wr O;have ch:=A8j acc nm v.heap.size (.slice G n rc) wr (by have:=F.o;omega) (by rw[←F.o];exact S.o);clear af aX;obtain⟨ba,ah⟩:∃b:Bool,(b=true↔D8 nm):=by
       by_cases h:D8 nm
       ·exact⟨true,⟨fun _=>h,fun _=>rfl⟩⟩
       ·exact⟨false,⟨(fun e=>by cases e),fun e=>absurd e h⟩⟩
      obtain⟨bb,ai⟩:∃b:Bool,(b=true↔good t):=by
       by_cases h:good t
       ·exact⟨true,⟨fun _=>h,fun _=>rfl⟩⟩
       ·exact⟨false,⟨(fun e=>by cases e),fun e=>absurd e h⟩⟩
      obtain⟨bt,aj⟩:∃b:Bool,(b=true↔O1 acc nm):=by
       by_cases h:O1 acc nm
       ·exact⟨true,⟨fun _=>h,fun _=>rfl⟩⟩
       ·exact⟨false,⟨(fun e=>by cases e),fun e=>absurd e h⟩⟩
      have ay:∀d,d=wr→Calls Tryz.prog 33 #[.string nm] d fun e w'=>e=.returned (.bool ba)∧w'=d:=fun d Y=>by
       rw[Y];refine cn.mono ?_;rintro e w' ⟨⟨h,rfl⟩|⟨h,rfl⟩,hw⟩
       ·rw[ah.2 h];exact⟨rfl,hw⟩
       ·have hf:ba=false:=by
         rw[Bool.eq_false_iff];exact fun e=>h (ah.1 e)
        rw[hf];exact⟨rfl,hw⟩
      have az:∀d,d=wr→Calls Tryz.prog 34 #[.string t] d fun e w'=>e=.returned (.bool bb)∧w'=d:=fun d Y=>by
       rw[Y];refine cb.mono ?_;rintro e w' ⟨⟨h,rfl⟩|⟨h,rfl⟩,hw⟩
       ·rw[ai.2 h];exact⟨rfl,hw⟩
       ·have hf:bb=false:=by
         rw[Bool.eq_false_iff];exact fun e=>h (ai.1 e)
        rw[hf];exact⟨rfl,hw⟩
      have aA:∀d,d=wr→Calls Tryz.prog 35 #[.slice G n rc,.string nm] d fun e w'=>e=.returned (.bool bt)∧w'=d:=fun d Y=>by
       rw[Y];refine ch.mono ?_;rintro e w' ⟨⟨h,rfl⟩|⟨h,rfl⟩,hw⟩
       ·rw[aj.2 h];exact⟨rfl,hw⟩
       ·have hf:bt=false:=by
         rw[Bool.eq_false_iff];exact fun e=>h (aj.1 e)
        rw[hf];exact⟨rfl,hw⟩
      have N:=A4 (And.intro ah (And.intro ai aj));clear cn cb ch ah ai aj;go_wp2_with fail;refine(ay _ rfl).mono ?_;rintro e w1 ⟨rfl,j⟩;rw[j];clear j w1 ay;dsimp only;go_wp2_with fail;refine(az _ rfl).mono ?_;rintro e w1 ⟨rfl,j⟩;rw[j];clear j w1 az;dsimp only;go_wp2_with fail;refine(aA _ rfl).mono ?_;rintro e w1 ⟨rfl,j⟩;rw[j];clear j w1 aA;dsimp only;cases ba
      ·have y:Hd (∀f i,¬OKc T f i):=L.o (fun h=>by have h1:=h.2.1;rw[←M.o]at h1;have:=N.o.1.2 h1;cases this);go_wp2;go_ret2;exact Z6.err p.o y.o
      ·cases bb
       ·have y:Hd (∀f i,¬OKc T f i):=L.o (fun h=>by have h1:=h.2.2.1;rw[←ag.o]at h1;have:=N.o.2.1.2 h1;cases this);go_wp2;go_ret2;exact Z6.err p.o y.o
       ·cases bt
        ·have aB:Hd (A9P l acc):=⟨aZ.o,by rw[←M.o];exact N.o.1.1 rfl,by rw[←ag.o];exact N.o.2.1.1 rfl,by rw[←M.o];exact fun h=>by have:=N.o.2.2.2 h;cases this⟩;have bd:=S.o;have br:=p.o.size;go_wp2_with (at_builtin;refine B6 _ rfl (.tmp 119) (.tmp 123) 77 rfl 88 i0 _ 2 32 Tryz.underlying77 hi aF aG aH rfl Z v.heap.size (.slice G n rc) n (B3 acc) rfl (by exact bd.other (fun g _ hg=>Below.heap_alloc wr _ g hg)) ⟨wr.heap.size,0,none⟩ 1 [.string nm,.string t] rfl rfl (by exact A26 wr _ _ _ rfl) (by intro u hu;simp at hu;rcases hu with rfl|rfl<;>rfl) (by unfold maxLen;omega) O Zo ?_;intro g' o' cap' w8 be aa);have ao:Below wr.heap.size wr (wr.alloc (Obj.cells #[.string nm,.string t] 88)):=(Below.refl _ _).alloc (Nat.le_refl _) _;have aC:∀q,q<wr.heap.size→(Value.slice G n rc).ownBlock≠some q→w8.heap[q]?=wr.heap[q]?:=fun q hq bf=>(aa.other q (Nat.lt_of_lt_of_le hq ao.size) bf).trans (ao.block q hq);have bg:Below v.heap.size v w8:=⟨aa.os.trans p.o.os,aa.tape.trans p.o.tape,aa.output.trans p.o.output,Nat.le_trans p.o.size (Nat.le_trans ao.size aa.size),fun q hq=>(aC q (by have:=p.o.size;omega) (fun e=>by have:=(S.o.lt e).1;omega)).trans (p.o.block q hq)⟩;have bh:=(aC P (lt_of_block D.o) (S.o.tag Z D.o)).trans D.o;refine⟨⟨q,a+1+c+2+z,acc++[rfX l],?_,?_,O,O,?_,?_,?_,?_,bg,bh⟩,?_⟩
         ·have ew:wrap64 (((q+1:Nat):Int)-1)=q:=by unfold wrap64;omega
          rw[am.o,ew]
         ·go_num
         ·rw[List.length_append,←F.o];show n+1+q=m;omega
         ·rw[List.length_append,←F.o,S7];have e:B3 [rfX l]=[.string nm,.string t]:=by rw[M.o,ag.o];rfl
          rw[e];exact be
         ·intro r hr;rw[←bc.o]at hr;exact aS.o aB.o r hr
         ·intro x A;rcases List.mem_append.1 A with A|A
          ·exact aw.o x A
          ·rw[List.mem_singleton]at A;subst A;exact⟨aB.o.2.2.1,by rw[←M.o];exact aV,by rw[←ag.o];exact aY.o⟩
         ·have ew:wrap64 (q1-1)=q:=by rw[am.o];unfold wrap64;omega
          rw[ew];exact B1X q q1 am.o
        ·have y:Hd (∀f i,¬OKc T f i):=L.o (fun h=>by exact h.2.2.2 (by rw[←M.o];exact N.o.2.2.1 rfl));go_wp2;go_ret2;exact Z6.err p.o y.o
     ·have aW:(s.size:Int)<(a:Int)+1+c+2+z:=O;have y:Hd (∀f i,¬OKc T f i):=L.o (fun h=>by have:=h.1.2;rw[V.o,HZ.o,ad.o]at this;omega);go_wp2;go_ret2;exact Z6.err p.o y.o
    ·have aU:(s.size:Int)<(a:Int)+1+c+2:=O;have y:Hd (∀f i,¬OKc T f i):=L.o (fun h=>by have:=h.1.1;rw[V.o,ad.o]at this;omega);go_wp2;go_ret2;exact Z6.err p.o y.o
   ·have aT:(s.size:Int)≤(a:Int):=O;have y:Hd (∀f i,¬OKc T f i):=L.o (fun h=>by have:=h.1.1;rw[ad.o]at this;omega);go_wp2;go_ret2;exact Z6.err p.o y.o
theorem A57 {T:List UInt8}{R:List S2}{H:List Int}(h:OKc T R H):16≤T.length∧T.take 4=J6:=by
 obtain⟨_,_,_,_,hs⟩:=h;have b:(J5 (roK (T.drop 4)) (roW (T.drop 4)) (roS (T.drop 4))).length=10:=by unfold J5;simp only[List.length_append,B2]
 constructor
 ·have a:=congrArg List.length hs;unfold D3 D2 at a;simp only[List.length_append,B2,b]at a;have c:(J6:List UInt8).length=4:=rfl;omega
 ·have e:T.take 4=(D3 (roK (T.drop 4)) (roW (T.drop 4)) (roS (T.drop 4)) R H).take 4:=by rw[hs]
  rw[e];unfold D3 D2;simp only[List.append_assoc];exact List.take_left' rfl
theorem A8t {T:List UInt8}{R:List S2}{H:List Int}(h:OKc T R H):J1 (roK (T.drop 4)) (roW (T.drop 4)) (roS (T.drop 4))=true:=h.2.1
theorem B20 (s:ByteArray)(w:World)(hs:s.size≤140737488351232)(C:Code)(N:Tryz.f10.body.bind (G4 9)=some C)(F:Code)(P:(Tryz.f10.body.bind (G4 6)).bind (U5 3 C)=some F)(B:Code)(Q:Tryz.f10.body.bind (U5 6 F)=some B)(S:Act)(ah:Fr 164 [(0,.string s)] S) :
 Code.wp Tryz.prog B (bodyPost Tryz.prog Tryz.f10 (fun e w'=>Z6 s.data.toList w e w')) S w:=by
 have p:=Q;conv at p=>lhs;whnf
 injection p with p;subst p;clear Q;obtain⟨f0,rfl,G⟩:=ah;simp only[Hs]at G;simp only[fr,Y5,Nat.reduceAdd,G];clear G;have ai:=A4 N;have aj:=A4 P;clear N P;obtain⟨T,q⟩:=A8 s.data.toList;have r:=A4 q;have V:T.length=s.size:=by rw[q,Array.length_toList];rfl
 have ak:=A4 V;rw[←q];clear q V;by_cases aq:s.size<16
 ·have al:(s.size:Int)<16:=O;have b:Hd (∀R H,¬OKc T R H):=fun R H h=>by have:=(A57 h).1;have:=ak.o;omega
  go_wp2;go_ret2;exact Z6.err (Below.refl _ _) b.o
 ·have al:¬(s.size:Int)<16:=O;obtain⟨l,t⟩:=A8 (s.extract 0 4);have u:l.data.toList=T.take 4:=by rw[t,T8,r.o];simp
  have ar:s.extract 0 4=l:=t.symm;by_cases hm:l=⟨#[80,76,71,82]⟩
  ·have am:(l.toList==[80,76,71,82])=true:=by rw[P2,hm];rfl
   have HM:Hd (T.take 4=J6):=by show _=_;rw[←u,hm];rfl
   clear hm t u;have i4:(4:Int)≤s.size:=O;have au:(14:Int)≤s.size:=O;obtain⟨x,y⟩:=A8 (s.extract 6 14);have W:x.size=8:=by rw[y,ByteArray.size_extract];omega
   have X:J4 x.data.toList=roS (T.drop 4):=by
    rw[y,T8,r.o];unfold roS;rw[List.drop_drop]
   have cS:=A7u x w W;rw[X]at cS;have av:s.extract 6 14=x:=y.symm;clear y X W;go_wp2_with fail;refine cS.mono ?_;rintro e w1 ⟨Y,v,ok,rfl,aa,ab⟩;dsimp only;have an:=A4 Y;have ac:=A4 (And.intro aa ab);obtain⟨k,hk⟩:=A8 (s[4].toNat);obtain⟨a,z⟩:=A8 (s[5].toNat);have aw:s[4].toNat=k:=hk.symm;have ax:s[5].toNat=a:=z.symm;have A:Hd (k=roK (T.drop 4)∧a=roW (T.drop 4)):=by
    rw[hk,z];have e1:=A43 s 4 O;have c:=A43 s 5 O;unfold roK roW;rw[r.o];exact⟨e1,by rw[List.drop_drop];exact c⟩
   have ay:k<256:=by rw[hk];exact UInt8.toNat_lt _
   have az:a<256:=by rw[z];exact UInt8.toNat_lt _
   have j4:(4:Int)<s.size:=O;have j5:(5:Int)<s.size:=O;have wk:IntKind.i64.wrap (k:Int)=k:=Zw;have wW:IntKind.i64.wrap (a:Int)=a:=Zw;clear cS Y aa ab hk z;go_upto_region 4 with fail;rename_i K4 ad;refine A5 10 (fun _=>True) U trivial (fun hH=>?_);refine A2 0 ?_;refine A2 1 ?_;refine A2 2 ?_;refine A2 3 ?_;refine A2 4 ?_;refine A2 5 ?_;refine A2 6 ?_;refine A2 7 ?_;refine wpS 8 fun K m=>?_;go_simp;refine F7 m trivial ?_;clear m K;obtain⟨D,E⟩:=A8 ((w1.alloc (Obj.cells #[I J 0,I J 0,.float .f64 0] 24)).drew);have ae:Below w1.heap.size w1 D:=by
    have h:=(Below.refl w1.heap.size w1).alloc (Nat.le_refl _) (Obj.cells #[I J 0,I J 0,.float .f64 0] 24);rw[E];exact⟨h.os,h.tape,h.output,h.size,h.block⟩
   have f:D.heap[w1.heap.size]?=some (.cells #[I J 0,I J 0,.float .f64 0] 24 (0,0)):=by rw[E];exact heap_alloc_new w1 _
   have o0:=A1 f (i:=0) rfl;have o1:=A1 f (i:=1) rfl;have o2:=A1 f (i:=2) rfl;have oz:∀off,D.frozen? ⟨w1.heap.size,off,none⟩=false:=fun off=>frozen_of_row _ _ _ _ _ f;rw[←E];clear E;refine wpS 9 fun K m=>?_;go_simp;refine F7 m trivial ?_;clear m K;refine M7 ?_;refine ad _ _ ?_;clear ad hH;have g:=B3I (I J (k:Int)) (I J (a:Int)) (.float .f64 v) f;obtain⟨wP,af⟩:=A8 (((D.setCell ⟨w1.heap.size,0,none⟩ (I J (k:Int))).setCell ⟨w1.heap.size,1,none⟩ (I J (a:Int))).setCell ⟨w1.heap.size,2,none⟩ (.float .f64 v));rw[←af]at g⊢;have L:=A4 g;have cO:=U7 (k:Int) (a:Int) v wP;have x0:=A1 g.here (i:=0) rfl;have x1:=A1 g.here (i:=1) rfl;have x2:=A1 g.here (i:=2) rfl;have ao:=A4 ae;clear af g o0 o1 o2 oz f ae;go_wp2_with fail;refine cO.mono ?_;rintro e w2 ⟨rfl,d⟩;dsimp only;have M:Hd (Below w.heap.size w w2):=by
    have e1:=an.o;have c:=ao.o;have n:=L.o;have:=e1.size;have:=c.size;have:=n.size;have:=d.size;exact⟨d.os.trans (n.os.trans (c.os.trans e1.os)),d.tape.trans (n.tape.trans (c.tape.trans e1.tape)),d.output.trans (n.output.trans (c.output.trans e1.output)),O,fun j hj=>(d.block j O).trans ((n.other j O).trans ((c.block j O).trans (e1.block j hj)))⟩
   have ap:Hd (w2.heap[w1.heap.size]?=some (.cells #[I J (k:Int),I J (a:Int),.float .f64 v] 24 (0,0))):=(d.block _ (lt_of_block L.o.here)).trans L.o.here;clear cO d x0 x1 x2;cases ok
   ·have b:Hd (∀R H,¬OKc T R H):=fun R H h=>by
     have ho:=A8t h;unfold J1 at ho;simp only[Bool.and_eq_true]at ho;have:=ac.o.2.2 (A4G _ (A20 _) ho.1.2 ho.2);cases this
    go_wp2;go_ret2;exact Z6.err M.o b.o
   ·have hv:=ac.o.1 rfl;obtain⟨o,ho⟩:=A8 (J1 (k:Int) (a:Int) v);rw[←ho];have ag:=A4 ho;have HV:=A4 hv;clear ho hv;cases o
    ·have b:Hd (∀R H,¬OKc T R H):=fun R H h=>by
      have ho:=A8t h;rw[←A.o.1,←A.o.2,←HV.o,←ag.o]at ho;cases ho
     go_wp2;go_ret2;exact Z6.err M.o b.o
    ·go_wp2_with fail;exact B2m s T k a v w1.heap.size w w2 hs r.o O A.o.1 A.o.2 HV.o ag.o.symm ap.o M.o _ (Fr.of _ rfl ⟨rfl,rfl,rfl,trivial⟩) C ai.o F aj.o
  ·have am:(l.toList==[80,76,71,82])=false:=by
    rw[beq_eq_false_iff_ne,P2];exact fun h=>hm (A31 h)
   have b:Hd (∀R H,¬OKc T R H):=fun R H h=>by
    have:=(A57 h).2;rw[←u]at this;exact hm (A31 this)
   have i4:(4:Int)≤s.size:=O;clear hm t u;go_wp2;go_ret2;exact Z6.err (Below.refl _ _) b.o
theorem A9E (s:ByteArray)(w:World)(hs:s.size≤140737488351232) :
 Calls Tryz.prog 10 #[.string s] w fun e w'=>Z6 s.data.toList w e w':=by
 obtain⟨C,b⟩:∃C,Tryz.f10.body.bind (G4 9)=some C:=⟨_,rfl⟩;obtain⟨c,d⟩:∃D,(Tryz.f10.body.bind (G4 6)).bind (U5 3 C)=some D:=⟨_,rfl⟩;obtain⟨B,f⟩:∃D,Tryz.f10.body.bind (U5 6 c)=some D:=⟨_,rfl⟩;have g:Tryz.f10.body=some B:=by
  have e1:=b;conv at e1=>lhs;whnf
  injection e1 with e1;subst e1;have a:=d;conv at a=>lhs;whnf
  injection a with a;subst a;refine Eq.trans ?_ f;show Tryz.f10.body=_;first|kernel_rfl|rfl
 have key:=B20 s w hs C b c d B f;refine calls_of_wp Tryz.func10 g ?_;simp only[Tryz.ntmps10,List.size_toArray,List.length_cons,List.length_nil,Nat.reduceAdd,Nat.reduceSub,Array.replicate_succ,Array.replicate_zero,List.push_toArray,List.append_toArray,List.nil_append,List.cons_append];exact key _ (Fr.of _ rfl ⟨rfl,trivial⟩)
end
section
open Go.RowKit Go.Shelf Go.Lib
structure KpF (k W sc:Nat)(R:List S2):Prop where
 k1:1≤k
 k2:k≤12
 w1:1≤W
 w2:W≤20
 s64:sc<18446744073709551616
 rl:R.length<65536
 rq:∀x∈R,RfQ x∧x.b.size<65536
 pw:R.Pairwise (fun x y=>x.n≠y.n)
 op:J1 k W sc=true
 re:G0 R=0
theorem A9I {R:List S2}(h:G0 R=0):C7 R R.length≤4000:=by
 unfold G0 at h;split at h
 ·cases h
 ·omega
theorem B0n (k W sc:Nat)(R:List S2)(a:∀x∈R,x.n.size≤255)(d:R.length≤65536)(hs:C7 R R.length≤4000):(D2 k W sc R).length≤500000000:=by
 have h1:=A3d R a;have b:(J5 k W sc).length=10:=by unfold J5;simp only[List.length_append,B2]
 have c:(J6:List UInt8).length=4:=rfl;unfold D2;rw[List.length_append,List.length_append,List.length_append,b,c,B2];omega
theorem A2v (k W sc:Nat)(R:List S2)(H:List Int):D3 k W sc R H=D2 k W sc R++(B8 H.length 2++S3 (D6 k W R R.length) 0 H):=by
 unfold D3;rw[List.append_assoc]
theorem A8Q {k W sc:Nat}{R:List S2}(h:KpF k W sc R)(H:List Int)(hH:HsP (D6 k W R R.length) H)(s:ByteArray)(hs:s.data.toList=D3 k W sc R H)(b:s.size≤140737488355328)(w:World) :
 Calls Tryz.prog 9 #[.string s] w fun e w'=>∃X,e=.returned (.tuple #[.pointer (some ⟨X,0,none⟩),I J 0])∧Below w.heap.size w w'∧IxP w' w.heap.size X R k W sc:=by
 refine(A5w s w b).mono ?_;intro e w' a;rw[hs,A2v]at a;obtain⟨c,d⟩:=A9c (by have:=h.k2;omega) (by have:=h.w2;omega) h.s64 h.rl h.rq h.pw h.op h.re hH a;rcases d with⟨_,X,he,f⟩|⟨g,_⟩
 ·exact⟨X,he,c,f⟩
 ·exact absurd (A2v k W sc R H).symm g
theorem B3v {k W sc:Nat}{R:List S2}(h:KpF k W sc R)(H:List Int)(hH:HsP (D6 k W R R.length) H):H.length≤16777216:=by
 have b:=A11 h.k1 h.k2 h.w1 R (fun x a=>((h.rq x a).1.facts).1);have c:H.Nodup:=hH.1.imp (fun d he=>O);have:=A5f H ((List.range 16777216).map (fun n:Nat=>(n:Int))) c (fun x a=>by
  have h1:=b x ((hH.2 x).1 a);rw[List.mem_map];exact⟨x.toNat,by rw[List.mem_range];omega,O⟩)
 rw[List.length_map,List.length_range]at this;exact this
theorem A9T {k W sc:Nat}{R:List S2}(h:KpF k W sc R)(H:List Int)(hH:HsP (D6 k W R R.length) H):(D3 k W sc R H).length≤400000000000:=by
 have hs:=A9I h.re;have h1:=B0n k W sc R (fun x b=>(h.rq x b).1.2) (by have:=h.rl;omega) hs;have c:=B3v h H hH;have d:=Y4 h.k1 h.k2 h.w1 R (fun x b=>((h.rq x b).1.facts).1) R.length (Nat.le_refl _);have f:=A1Q (D6 k W R R.length) (fun a=>Nat.le_trans (d a) hs) H 0;have g:=Nat.mul_le_mul_right 20000 c;unfold D3;rw[List.length_append,List.length_append,B2];omega
def PwN (L:List S2):Prop:=L.Pairwise (fun x y=>x.n≠y.n)
theorem B1r (L:List S2)(x:ByteArray)(h:PwN L)(d:(F2 L x).1=0):PwN (F2 L x).2:=by
 by_cases c:G3 x
 ·by_cases g:D8 (tl x)
  ·by_cases i:O1 L (tl x)
   ·rw[T3 c g i]at d;exact absurd d Z
   ·rw[O9 c g i];refine List.pairwise_append.2 ⟨h,List.pairwise_singleton _ _,fun a j b c=>?_⟩;rw[List.mem_singleton]at c;subst c;exact fun e=>i ⟨a,j,e⟩
  ·rw[W9 c g]at d;exact absurd d Z
 ·by_cases f:L=[]
  ·rw[R2 c f]at d;exact absurd d Z
  ·by_cases k:good x
   ·rw[M6 c f k];obtain⟨A,y,rfl⟩:=Z3 f;rw[O8];have l:=List.pairwise_append.1 h;refine List.pairwise_append.2 ⟨l.1,List.pairwise_singleton _ _,fun a j b c=>?_⟩;rw[List.mem_singleton]at c;subst c;exact l.2.2 a j y (List.mem_singleton.2 rfl)
   ·rw[R5 c f k]at d;exact absurd d Z
theorem A3U:∀(l:List ByteArray) (i:Nat) (L:List S2),PwN L→PwN (D9 i L l).1
 |[],i,L,h=>h
 |x::r,i,L,h=>by
  unfold D9
  split
  ·rename_i a
   exact A3U r (i+1) _ (B1r L x h a)
  ·exact List.Pairwise.nil
theorem A85 (s:ByteArray):PwN (A7 s).1:=by
 unfold A7;split
 ·exact List.Pairwise.nil
 ·exact A3U _ _ _ List.Pairwise.nil
theorem A8B {s:ByteArray}{k W:Int}{sc:Nat}(h:(A0M s k W sc).1=0):J1 k W sc=true∧G0 (A7 s).1=0:=by
 unfold A0M at h;by_cases ho:J1 k W sc=true
 ·rw[if_pos ho]at h;refine⟨ho,?_⟩;by_cases he:(A7 s).2.1=0
  ·rw[if_pos he]at h;exact h
  ·rw[if_neg he]at h;exact absurd (show(A7 s).2.1=0 by have a:(((A7 s).2.1:Nat):Int)=0:=h;omega) he
 ·rw[if_neg ho]at h;cases h
theorem B2B {s:ByteArray}{k W:Int}{sc:Nat}(h:(A0M s k W sc).1=0)(o:sc<2^64):((k.toNat:Nat):Int)=k∧((W.toNat:Nat):Int)=W∧KpF k.toNat W.toNat sc (A7 s).1∧A0W (A7 s).1∧(D2 k.toNat W.toNat sc (A7 s).1).length≤500000000:=by
 obtain⟨ho,i⟩:=A8B h;have j:=ho;unfold J1 at j;simp only[Bool.and_eq_true,decide_eq_true_eq]at j;have e1:((k.toNat:Nat):Int)=k:=Int.toNat_of_nonneg O;have l:((W.toNat:Nat):Int)=W:=Int.toNat_of_nonneg O;have m:J1 (k.toNat:Nat) (W.toNat:Nat) sc=true:=by rw[e1,l];exact ho
 have c:=A0u m;have d:=A7f s (A0k i).1;have f:=L6 s;refine⟨e1,l,⟨c.1.1,c.1.2,c.2.1,c.2.2,o,by have:=f.1;omega,fun x a=>?_,A85 s,m,i⟩,d,?_⟩
 ·have g:=f.2 x a;have p:=(d.1 x a).2.2.2;have q:=g.2.1.2.1;exact⟨⟨A4f x.n x.b g.2.1 g.1 O,O⟩,O⟩
 ·exact A8U _ _ _ _ (fun x a=>⟨(d.1 x a).2.2.1,(d.1 x a).2.2.2⟩) (by have:=f.1;omega)
theorem DcP.len:∀(m:Nat) (l:List UInt8) (acc R:List S2),DcP m l acc (some R)→R.length=acc.length+m
 |0,_,acc,R,h=>by
  have e:some R=some acc:=h
  obtain rfl:=Option.some.inj e
  rfl
 |m+1,l,acc,R,h=>by
  rcases h with⟨_,a⟩|⟨_,a⟩
  ·have:=DcP.len m _ _ _ a
   rw[this,List.length_append,List.length_singleton]
   omega
  ·cases a
theorem A3V:∀(R:List S2),(∀x∈R,x.n.size≤255∧x.b.size≤4000)→(R.flatMap D0).length≤R.length*4258
 |[],_=>Zs
 |x::t,h=>by
  have f:=A3V t (fun y a=>h y (List.mem_cons_of_mem _ a))
  have g:=h x List.mem_cons_self
  have e1:x.n.data.toList.length=x.n.size:=rfl
  have c:x.b.data.toList.length=x.b.size:=rfl
  have d:(D0 x).length=1+x.n.size+2+x.b.size:=by
   unfold D0
   rw[List.length_append,List.length_append,List.length_append,B2,B2,e1,c]
  rw[List.flatMap_cons,List.length_append,List.length_cons,d]
  omega
theorem B1V {T:List UInt8}{R:List S2}{H:List Int}(h:OKc T R H)(f:∀x∈R,RfQ x):((1≤roK (T.drop 4)∧roK (T.drop 4)≤12)∧(1≤roW (T.drop 4)∧roW (T.drop 4)≤20))∧A0W R∧(roS (T.drop 4)=9223372036854775808∨roS (T.drop 4)≤4652007308841189376)∧(D2 (roK (T.drop 4)) (roW (T.drop 4)) (roS (T.drop 4)) R).length≤500000000:=by
 obtain⟨g,ho,i,_,_⟩:=h;have j:=DcP.len _ _ _ _ g;have hm:J4 ((T.drop 14).take 2)<65536:=by
  have h1:=U0 ((T.drop 14).take 2);have c:=Nat.pow_le_pow_right (show 0<256 by omega) (show((T.drop 14).take 2).length≤2 by rw[List.length_take];omega);omega
 have m:R.length<65536:=by rw[j];simp only[List.length_nil];omega
 have hs:=(A0k i).1;have k:=A3h hs;have d:=ho;unfold J1 at d;simp only[Bool.and_eq_true]at d;have a:∀x∈R,good x.b∧1≤x.n.size∧x.n.size≤255∧x.b.size≤4000:=fun x a=>by
  have h1:=(L6 (rfT x)).2 x (by rw[(f x a).1];exact List.mem_singleton.2 rfl);have c:=h1.2.1;exact⟨h1.1,c.1,(f x a).2,k x a⟩
 refine⟨A0u ho,⟨fun x h=>⟨(a x h).1,(a x h).2.1,by have:=(a x h).2.2.1;omega,(a x h).2.2.2⟩,O,hs⟩,A4G _ (A20 _) d.1.2 d.2,?_⟩;have h1:=A3V R (fun x h=>(a x h).2.2);have c:(J5 (roK (T.drop 4)) (roW (T.drop 4)) (roS (T.drop 4))).length=10:=by unfold J5;simp only[List.length_append,B2]
 have l:(J6:List UInt8).length=4:=rfl;unfold D2;rw[List.length_append,List.length_append,List.length_append,c,l,B2];omega
theorem BwI.again {c m a w w':World}{n d:Nat}{f i:Value}{j l:List (Value×Int)}(h:BwI c m n w d f i j l)(o:Below w.heap.size w w')(p:a.heap.size≤w'.heap.size)(q:∀g,w.heap.size≤g→g<a.heap.size→w'.heap[g]?=a.heap[g]?):BwI c a w.heap.size w' d f i j l:=by
 have k:=h.keep o;exact {bE:=k.bE,sz:=p,ix:=q,bk:=k.bk,b0:=k.b0,bo:=Or.inl (lt_of_block h.bk),ho:=fun g b=>Or.inl (h.eh.lt b).2,fo:=fun g b=>Or.inl (h.ef.lt b).2,eh:=k.eh,ef:=k.ef,ah:=k.ah,af:=k.af}
theorem B2N (s t:ByteArray)(k W:Int)(sc Ob m S1 n cp:Nat)(L:Option Addr)(M N:Value)(p q:List (Value×Int))(a wI w:World)(ht:t.size≤140737488351232)(u:sc<2^64)(hn:n≤10000000)(aa:AkL a L n)(ab:Lib.TabBelow Tryz.prog a.heap.size a "internal/strconv.uint64pow10" .u64 Lib.pow10Tab)(ac:LtP a)
 (y:w.heap[Ob]?=some (.cells #[I J k,I J W,.float .f64 sc] 24 (0,0)))(hS:BwI a wI S1 w m M N p q)(al:p.length+4*n≤100000000)(am:q.length+4*n≤100000000)
 (fa:Act)(an:Fr 81 [(0,.string s),(1,.string t),(3,.slice L n cp),(6,.pointer (some ⟨Ob,0,none⟩)),(13,.pointer (some ⟨m,0,none⟩))] fa)(C:Code)(hC:Tryz.f4.body.bind (G4 6)=some C) :
 Code.wp Tryz.prog C (bodyPost Tryz.prog Tryz.f4 (fun e w'=>e=.returned (.bool true)∧Below a.heap.size a w')) fa w:=by
 have z:=hC;conv at z=>lhs;whnf
 injection z with z;subst z;clear hC;obtain⟨f0,rfl,P⟩:=an;simp only[Hs]at P;simp only[fr,Y5,Nat.reduceAdd,P];clear P;have x0:=A1 y (i:=0) rfl;have x1:=A1 y (i:=1) rfl;have x2:=A1 y (i:=2) rfl;have cN:=B0l t k W sc w ht;have Q:=A4 hS;have ap:=A4 aa;have aq:=A4 ab;have ar:=A4 ac;have au:=A4 (fun h=>B2B (s:=t) (k:=k) (W:=W) h u);have av:=A4 (fun h=>A90 (s:=t) (k:=k) (W:=W) h u);have aw:=A4 u;clear hS aa ab ac y u;go_wp2_with fail;refine cN.mono ?_;rintro e w1 ⟨v,rfl,ad,n1,A⟩;dsimp only;have B:=A4 ad;clear cN ad x0 x1 x2;obtain⟨r,D⟩:=A8 ((A0M t k W sc).1);obtain⟨r2,ae⟩:=A8 ((A0M t k W sc).2);rw[←D,←ae];rw[←D]at n1 A;have HR:=A4 D;clear D ae;by_cases d:r=0
 ·obtain⟨Y,rfl,E⟩:=A d;obtain⟨e1,e2,c,f,F⟩:=au.o (HR.o.symm.trans d);obtain⟨R,af⟩:=A8 ((A7 t).1);rw[←af]at E c f F;have ax:(r==0)=true:=by rw[d];rfl
  have ay:=A4 E;have j:=A4 c;have az:=A4 f;have aA:=A4 F;have HM:=A4 (av.o (HR.o.symm.trans d));have cS:=A2p R w.heap.size Y k.toNat W.toNat sc w1 c.k1 c.k2 c.w1 c.w2 HM.o (fun x hx=>(f.1 x hx).1) f.2.1 f.2.2 F E;subst d;clear E c f F af n1 A e1 e2;go_wp2_with fail;refine cS.mono ?_;rintro e w2 ⟨H,hH,rfl,ag⟩;dsimp only;have HH:=A4 hH;have S:=A4 ag;obtain⟨b,G⟩:=A8 (⟨(D3 k.toNat W.toNat sc R H).toArray⟩:ByteArray);have hz:=A9T j.o H hH;have cL:=A8Q j.o H hH b (by rw[G]) (by rw[G];show(D3 k.toNat W.toNat sc R H).toArray.size≤_;rw[List.size_toArray];omega) w2;rw[←G];clear cS hH ag G hz;go_wp2_with fail;refine cL.mono ?_;rintro e l ⟨X,rfl,K,ah⟩;dsimp only;have T:Below w.heap.size w w2:=B.o.trans (S.o.mono B.o.size);have ai:Below w.heap.size w l:=T.trans (K.mono T.size);have z1:=B.o.size;have z2:=S.o.size;have z3:=K.size;have HE:Hd (A0x a l w.heap.size X Y R k.toNat W.toNat sc):={k1:=j.o.k1,k2:=j.o.k2,w1:=j.o.w1,w2:=j.o.w2,refs:=az.o,sc8:=aw.o,may:=HM.o,head:=aA.o,ix:=ah.low (Nat.le_trans z1 z2),rx:=(ay.o.kept (fun g V=>S.o.block g V)).kept (fun g V=>K.block g V),tab:=aq.o,lt:=ar.o};have aj:BwI a l w.heap.size l m M N p q:=Q.o.again ai (Nat.le_refl _) (fun _ _ _=>rfl);have cP:=A3Y a l w.heap.size X Y R k.toNat W.toNat sc HE.o m M N p q l aj L n cp hn ap.o al am;clear cL K ah T ai aj;go_wp2_with fail;refine cP.mono ?_;rintro e w4 ⟨rfl,aD,aE,aF,aG,_,_,ak⟩;dsimp only;have aB:=A4 ak.bE;clear cP ak;go_wp2;go_ret;exact⟨rfl,aB.o⟩
 ·have ax:(r==0)=false:=by rw[beq_eq_false_iff_ne];exact d
  have aC:Hd (Below a.heap.size a w1):=Q.o.bE.trans (B.o.mono Q.o.bE.size);clear n1 A;go_wp2;go_ret;exact⟨rfl,aC.o⟩
theorem B2W (s t:ByteArray)(k W:Int)(sc n F:Nat)(p:Option Addr)(w:World)(hs:s.size≤140737488351232)(ht:t.size≤140737488351232)(G:sc<2^64)(hn:n≤10000000)(K:AkL w p n)(L:Lib.TabBelow Tryz.prog w.heap.size w "internal/strconv.uint64pow10" .u64 Lib.pow10Tab)(M:LtP w)
 (C:Code)(hC:Tryz.f4.body.bind (G4 6)=some C)(B:Code)(hB:Tryz.f4.body.bind (U5 6 C)=some B)(fa:Act)(aA:Fr 81 [(0,.string s),(1,.string t),(2,.agg #[I J k,I J W,.float .f64 sc]),(3,.slice p n F)] fa) :
 Code.wp Tryz.prog B (bodyPost Tryz.prog Tryz.f4 (fun e w'=>e=.returned (.bool true)∧Below w.heap.size w w')) fa w:=by
 have q:=hB;conv at q=>lhs;whnf
 injection q with q;subst q;clear hB;obtain⟨f0,rfl,N⟩:=aA;simp only[Hs]at N;simp only[fr,Y5,Nat.reduceAdd,N];clear N;have ac:=A4 hC;obtain⟨T,hT⟩:=A8 s.data.toList;obtain⟨b,r⟩:=A8 (w.alloc (Obj.cells #[I J k,I J W,.float .f64 sc] 24));have ad:Below w.heap.size w b:=by rw[r];exact(Below.refl _ w).alloc (Nat.le_refl _) _
 have ae:b.heap[w.heap.size]?=some (.cells #[I J k,I J W,.float .f64 sc] 24 (0,0)):=by rw[r];exact heap_alloc_new w _
 have P:=A5w s b O;have u:=fun W1=>A9E s W1 hs;rw[←hT]at P u;have x:=A4 ad;have af:=A4 ae;have aB:=A4 K;have aC:=A4 L;have aD:=A4 M;have aM:=A4 G;have ag:=A4 (fun Ob Bb S1 hv fv EH EF wI w1 aE hS aF aG=>B2N s t k W sc Ob Bb S1 n F p hv fv EH EF w wI w1 ht G hn K L M aE hS aF aG);clear ae ad K L M G hT hC;go_upto_region 1 with fail;rw[←r];clear r;go_wp2_with fail;refine P.mono ?_;intro e w1 y;have ah:=y.choose_spec.2.1;have Q:=A4 ah;have HL:=A4 y;have aH:=(show Hd (w.heap.size<b.heap.size) from lt_of_block af.o);have key:∀(v:Value) (c:Int),e=.returned (.tuple #[v,I J c])→True:=fun _ _ _=>trivial;have ai:(∃X,e=.returned (.tuple #[.pointer (some ⟨X,0,none⟩),I J 0]))∨e=.returned (.tuple #[.pointer none,I J 8]):=by
  obtain⟨R,_,_,h⟩:=y;rcases h with⟨X,H,he,_⟩|⟨he,_⟩
  ·exact Or.inl ⟨X,he⟩
  ·exact Or.inr he
 clear y ah P key;have hex:∃v c,e=.returned (.tuple #[v,I J c]):=by
  rcases ai with⟨X,h⟩|h
  ·exact⟨_,_,h⟩
  ·exact⟨_,_,h⟩
 obtain⟨v,c,he⟩:=hex;clear ai;subst he;dsimp only;go_wp2_with fail;refine(u _).mono ?_;intro e1 w2 z;have A:=z.1;have h:=B0f HL.o z;have D:Below b.heap.size b w2:=Q.o.trans (A.mono Q.o.size);have d:Below w.heap.size w w2:=x.o.trans (D.mono x.o.size);have l:w2.heap[w.heap.size]?=some (.cells #[I J k,I J W,.float .f64 sc] 24 (0,0)):=(D.block _ aH.o).trans af.o;have aN:=A4 d;have aj:=A4 l;obtain⟨f,i⟩:=A8 (w2.alloc (Obj.cells #[.slice none 0 0,.slice none 0 0,.slice none 0 0,.slice none 0 0,.slice none 0 0] 40));have j:Below w2.heap.size w2 f:=by rw[i];exact(Below.refl _ w2).alloc (Nat.le_refl _) _
 have S:f.heap[w2.heap.size]?=some (.cells #[.slice none 0 0,.slice none 0 0,.slice none 0 0,.slice none 0 0,.slice none 0 0] 40 (0,0)):=by rw[i];exact heap_alloc_new w2 _
 have E:BwI w w2 w.heap.size f w2.heap.size (.slice none 0 0) (.slice none 0 0) [] []:=BwI.new (d.trans (j.mono d.size)) (fun g _ V=>j.block g V) j.size d.size S (Nat.le_refl _);have aI:=A4 E;have aJ:Hd (f.heap[w.heap.size]?=some (.cells #[I J k,I J W,.float .f64 sc] 24 (0,0))):=(j.block _ (lt_of_block l)).trans l;rcases h with⟨X,Y,R,H,he,aa,ak,al,am,hq⟩|⟨he,aa⟩
 ·injection he with he;injection he with he;injection he with he;injection he with he a;injection a with a;subst aa;have ab:v=.pointer (some ⟨X,0,none⟩)∧c=0:=by
   refine⟨he,?_⟩;injection a
  obtain⟨rfl,rfl⟩:=ab;obtain⟨m,an,ap,aq⟩:=B1V ak hq;have HE:Hd (A0x w w2 w.heap.size X Y R (roK (T.drop 4)) (roW (T.drop 4)) (roS (T.drop 4))):={k1:=m.1.1,k2:=m.1.2,w1:=m.2.1,w2:=m.2.2,refs:=an,sc8:=A20 _,may:=ap,head:=aq,ix:=(al.kept (fun g V=>A.block g V)).low x.o.size,rx:=am.low (Nat.le_trans x.o.size Q.o.size),tab:=aC.o,lt:=aD.o};have cP:=A3Y w w2 w.heap.size X Y R _ _ _ HE.o w2.heap.size (.slice none 0 0) (.slice none 0 0) [] [] f E p n F hn aB.o Zo Zo;clear he a m an ap aq al am hq ak j S E l d D A z u;dsimp only;go_wp2_with fail;rw[←i];clear i;refine cP.mono ?_;rintro e w4 ⟨rfl,aK,aL,ar,au,av,aw,ax⟩;dsimp only;have ay:=A4 ax;have az:Hd (ar.length+4*n≤100000000∧au.length+4*n≤100000000):=⟨by simp only[List.length_nil]at av;omega,by simp only[List.length_nil]at aw;omega⟩;clear cP ax av aw;go_wp2_with fail;exact ag.o w.heap.size w2.heap.size w.heap.size aK aL ar au w2 w4 ((ay.o.ix _ (Nat.le_refl _) (lt_of_block aj.o)).trans aj.o) ay.o az.o.1 az.o.2 _ (Fr.of _ rfl ⟨rfl,rfl,rfl,rfl,rfl,trivial⟩) C ac.o
 ·injection he with he;injection he with he;injection he with he;injection he with he a;injection a with a;subst aa;have ab:v=.pointer none∧c=8:=by
   refine⟨he,?_⟩;injection a
  obtain⟨rfl,rfl⟩:=ab;clear he a j S E l d D A z u;dsimp only;go_wp2_with fail;rw[←i];clear i;exact ag.o w.heap.size w2.heap.size w.heap.size (.slice none 0 0) (.slice none 0 0) [] [] w2 f aJ.o aI.o Zo Zo _ (Fr.of _ rfl ⟨rfl,rfl,rfl,rfl,rfl,trivial⟩) C ac.o
theorem loads_any (s t:ByteArray)(k W:Int)(sc n b:Nat)(a:Option Addr)(w:World)(hs:s.size≤140737488351232)(ht:t.size≤140737488351232)(f:sc<2^64)(g:n≤10000000)(h:AkL w a n)(i:Lib.TabBelow Tryz.prog w.heap.size w "internal/strconv.uint64pow10" .u64 Lib.pow10Tab)(j:LtP w) :
 Calls Tryz.prog 4 #[.string s,.string t,.agg #[I J k,I J W,.float .f64 sc],.slice a n b] w fun e w'=>e=.returned (.bool true)∧Below w.heap.size w w':=by
 obtain⟨C,c⟩:∃C,Tryz.f4.body.bind (G4 6)=some C:=⟨_,rfl⟩;obtain⟨B,d⟩:∃D,Tryz.f4.body.bind (U5 6 C)=some D:=⟨_,rfl⟩;have l:Tryz.f4.body=some B:=by
  have e1:=c;conv at e1=>lhs;whnf
  injection e1 with e1;subst e1;refine Eq.trans ?_ d;show Tryz.f4.body=_;first|kernel_rfl|rfl
 have key:=B2W s t k W sc n b a w hs ht f g h i j C c B d;refine calls_of_wp Tryz.func4 l ?_;simp only[Tryz.ntmps4,List.size_toArray,List.length_cons,List.length_nil,Nat.reduceAdd,Nat.reduceSub,Array.replicate_succ,Array.replicate_zero,List.push_toArray,List.append_toArray,List.nil_append,List.cons_append];exact key _ (Fr.of _ rfl ⟨rfl,rfl,rfl,rfl,trivial⟩)
end
end Mn
end Go.Proofs.YtilcmkiihefkkaaGreatDoor
