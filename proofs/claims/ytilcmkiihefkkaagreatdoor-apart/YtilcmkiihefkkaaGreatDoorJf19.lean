import Derived.Deep.CutBlock
import Derived.Deep.DeepCutAuto
import Derived.Lib.QuietBelow
import Derived.Test.YtilcmkiihefkkaaGreatDoorJf4
import Derived.Test.YtilcmkiihefkkaaGreatDoorJf10
set_option linter.unusedVariables false
set_option linter.unusedSimpArgs false
set_option maxRecDepth 1000000
set_option maxHeartbeats 64000000
open Go.Value renaming int→I
open Go.IntKind renaming i64→J
namespace Go.Proofs.YtilcmkiihefkkaaGreatDoor
namespace Mn
section
open Go.RowKit
theorem Tryz.info119:(Tryz.prog.info? 119).map (fun i=>(i.zero,i.size,i.bytes))=some (some (.agg #[I J 0,I J 0]),2,16):=U
theorem info_parts {P:Program}{t:TypeId}{z:Option Value}{s b:Nat}(h:(P.info? t).map (fun i=>(i.zero,i.size,i.bytes))=some (z,s,b)):∃i,P.info? t=some i∧i.zero=z∧i.size=s∧i.bytes=b:=by
 cases hi:P.info? t with
 |none=>rw[hi]at h;simp at h
 |some i=>rw[hi]at h;simp at h;exact⟨i,rfl,h.1,h.2.1,h.2.2⟩
theorem A3.shape {w:World}{base:Nat}{e:TypeId}{size:Nat}{v:Value}{n:Nat}{xs:List Value}(h:A3 w base e size v n xs):∃a c,v=.slice a n c:=by
 rcases h.2 with⟨rfl,rfl⟩|⟨g,o,cap,cur,rfl,_⟩
 ·exact⟨_,_,rfl⟩
 ·exact⟨_,_,rfl⟩
theorem B3 {B:Nat}{a w:World}(h:Below B a w)(n:Nat):Below B a (w.drewN n):=⟨h.os,h.tape,h.output,h.size,h.block⟩
theorem Z0 (W:World)(x y:Value)(t:TypeId)(s:Nat)(hs:s=W.heap.size):∀j u,([x,y]:List Value)[j]?=some u→(W.alloc (.cells #[x,y] t)).cell? ((⟨s,0,none⟩:Addr).add j)=some u:=by
 intro j u a;subst hs;rw[Addr.add_lit,Nat.zero_add];refine A1 (heap_alloc_new W _) ?_;simpa using a
theorem P2 (x y:Int):∀u∈([I J x,I J y]:List Value),u.oneCell'=true:=by
 intro u hu;simp at hu;rcases hu with rfl|rfl<;>rfl
def SrI (P:List (Int×Int))(x:Int×Int)(k:Nat)(th:Bool):Prop:=(∀j (hj:j<P.length),k≤j→¬bef P[j] x)∧(th=true↔∃j,∃hj:j<P.length,k≤j∧P[j]=x)
def SrE (P:List (Int×Int))(x:Int×Int)(k:Nat)(th:Bool):Prop:=(∀h:0<k,∀h2:k≤P.length,bef (P[k-1]'O) x)∧SrI P x k th
theorem SrI.start (P:List (Int×Int))(x:Int×Int)(k:Nat)(hk:k=P.length):SrI P x k false:=by
 refine⟨fun j a h=>absurd a O,?_⟩;constructor
 ·intro h;simp at h
 ·rintro⟨j,a,h,_⟩;omega
theorem SrI.down {P:List (Int×Int)}{x y:Int×Int}{p:Nat}{d f:Bool}(h:SrI P x (p+1) d)(g:p<P.length)(c:P[p]=y)(i:¬bef y x)(ht:f=(d||decide (y=x))):SrI P x p f:=by
 refine⟨?_,?_⟩
 ·intro j a k;by_cases he:j=p
  ·subst he;rw[c];exact i
  ·exact h.1 j a O
 ·rw[ht,Bool.or_eq_true,h.2,decide_eq_true_iff];constructor
  ·rintro (⟨j,a,h1,b⟩|h1)
   ·exact⟨j,a,O,b⟩
   ·exact⟨p,g,Nat.le_refl _,by rw[c];exact h1⟩
  ·rintro⟨j,a,h1,b⟩;by_cases he:j=p
   ·subst he;right;rw[←c];exact b
   ·left;exact⟨j,a,O,b⟩
theorem A39 (L:List (Int×Int))(n:Nat)(hn:L.length=n)(g o cap:Nat)(w:World)(hL:n≤400)(C:g<w.heap.size)
 (hA:∀j (V:j<L.length),w.cell? ⟨g,o+j*2,none⟩=some (I J L[j].1)∧w.cell? ⟨g,o+j*2+1,none⟩=some (I J L[j].2)) :
 Calls Tryz.prog 122 #[.slice (some ⟨g,o,none⟩) n cap] w fun e w'=>∃v,e=.returned v∧Below w.heap.size w w'∧A3 w' w.heap.size 119 2 v (canon L).length (A9 (canon L)):=by
 obtain⟨i0,hi,aG,aH,aI⟩:=info_parts Tryz.info119;have HA:=A4 hA;have D:=A4 hn;clear hA hn;go_enter Tryz.func122,Tryz.ntmps122;go_wp2;go_loopw [3,4] (fun ov iv wr=>∃(i:Nat) (P:List (Int×Int)),i≤n∧P.length≤i∧iv=I J i∧Hd (P.Pairwise bef∧∀x,x∈P↔x∈L.take i)∧A3 wr w.heap.size 119 2 ov P.length (A9 P)∧Below w.heap.size w wr) (fun _ iv _=>n-(intOf iv).toNat);case atStart=>exact⟨0,[],Nat.zero_le _,Nat.zero_le _,rfl,⟨Zs,Zs⟩,A3.nil _ _ _ _,Below.refl _ _⟩
 case round=>
  obtain⟨w1,aJ⟩:=A8 wr;subst aJ;obtain⟨i,P,aW,aK,rfl,W,ab,E⟩:=hrel;obtain⟨ao,c,hv⟩:=ab.shape;subst hv;by_cases s:i<n
  ·have aX:(i:Int)<n:=O;obtain⟨a,am⟩:=A8 ((L[i]'(by rw[D.o];exact s)).1);obtain⟨f,an⟩:=A8 ((L[i]'(by rw[D.o];exact s)).2);have HX:Hd ((a,f)=L[i]'(by rw[D.o];exact s)):=by rw[am,an];exact rfl
   have ac:=HA.o i (by rw[D.o];exact s);rw[←am,←an]at ac;have ad:w1.cell? ⟨g,o+i*2,none⟩=some (I J a):=by rw[E.cell C];exact ac.1
   have ae:w1.cell? ⟨g,o+i*2+1,none⟩=some (I J f):=by rw[E.cell C];exact ac.2
   clear ac am an;have ap:=A4 E;have aq:=A4 ab;have aL:=A4 E.size;have af:g<w1.heap.size:=Nat.lt_of_lt_of_le C E.size;clear E ab;obtain⟨m,hm⟩:=A8 P.length;have l:=A4 hm;rw[←hm]at aK aq⊢;clear hm;go_upto_block 2 with fail;go_cut [5,6,7] (fun av tv lv wc=>∃(at_:Nat) (r:Bool),at_≤m∧av=I J at_∧tv=.bool r∧Below w1.heap.size w1 wc∧SrE P (a,f) at_ r);case first=>
    go_wp2_with fail;go_loopw [5,6] (fun av tv wc=>∃(at_:Nat) (r:Bool),at_≤m∧av=I J at_∧tv=.bool r∧Below w1.heap.size w1 wc∧SrI P (a,f) at_ r) (fun av _ _=>(intOf av).toNat);case atStart=>
     exact⟨m,false,Nat.le_refl _,rfl,rfl,Below.refl _ _,SrI.start _ _ _ l.o⟩
    case round=>
     obtain⟨at_,r,ar,rfl,rfl,F,H⟩:=hrel;by_cases h0:0<at_
     ·obtain⟨t,B,au,aY,ah,aC⟩:∃t B,ao=some ⟨t,B,none⟩∧w.heap.size≤t∧t<w1.heap.size∧∀j (V:j<P.length),w1.cell? ⟨t,B+j*2,none⟩=some (I J P[j].1)∧w1.cell? ⟨t,B+j*2+1,none⟩=some (I J P[j].2):=by
       have hh:=aq.o;rcases hh.2 with⟨_,h⟩|⟨g',o',cap',cur,he,h1,K,_⟩
       ·omega
       ·simp only[Value.slice.injEq]at he;have au:=he.1;subst au;exact⟨g',o',rfl,h1,lt_of_block K,hh.ans⟩
      subst au;obtain⟨p,rfl⟩:∃p,at_=p+1:=⟨at_-1,O⟩;have X:p<P.length:=by have:=l.o;omega
      have u:=aC p X;obtain⟨A,aw⟩:=A8 (P[p].1);obtain⟨pp,ax⟩:=A8 (P[p].2);have Y:Hd (P[p]=(A,pp)):=by rw[aw,ax];exact rfl
      rw[←aw,←ax]at u;have y1:wr.cell? ⟨t,B+p*2,none⟩=some (I J A):=by rw[F.cell ah];exact u.1
      have y2:wr.cell? ⟨t,B+p*2+1,none⟩=some (I J pp):=by rw[F.cell ah];exact u.2
      have z1:wr.cell? ⟨g,o+i*2,none⟩=some (I J a):=by rw[F.cell af];exact ad
      have z2:wr.cell? ⟨g,o+i*2+1,none⟩=some (I J f):=by rw[F.cell af];exact ae
      have M:=A4 F;have aM:(p:Int)<m:=O;have aN:((p+1:Nat):Int)-1=p:=O;have aZ:p≤400:=O;clear aw ax u aC F h0;obtain⟨b,hb⟩:=A8 (A29 (A,pp) (a,f));have cB:∀d os,Calls Tryz.prog 167 #[.agg #[I J A,I J pp],.agg #[I J a,I J f]] (Sort.grow (redrawn wr d) os) fun e aO=>e=.returned (.bool b)∧∃p:Regrown,aO=Sort.grow (redrawn wr p.d) p.os:=fun d os=>by
       rw[hb];exact Calls.regrown_of (A5r (A,pp) (a,f) _)
      have ay:=A4 hb;clear hb;have k1:=cell_regrown y1;have k2:=cell_regrown y2;have k3:=cell_regrown z1;have k4:=cell_regrown z2;go_wp2_with fail;refine wp_region_quiet_below U U ?_;repeat (go_big_quiet_step (exact cB _ _))
      refine wpQuiet_nil ?_;intro w2 aD;have N:Below wr.heap.size wr w2:=by
       obtain⟨pq,aP⟩:=aD;rw[aP];exact below_regrown wr pq.d pq.os
      have aa:Hd (Below w1.heap.size w1 w2):=M.o.trans (N.mono M.o.size);have v1:w2.cell? ⟨t,B+p*2,none⟩=some (I J A):=by rw[N.cell (Nat.lt_of_lt_of_le ah M.o.size)];exact y1
      have v2:w2.cell? ⟨t,B+p*2+1,none⟩=some (I J pp):=by rw[N.cell (Nat.lt_of_lt_of_le ah M.o.size)];exact y2
      have v3:w2.cell? ⟨g,o+i*2,none⟩=some (I J a):=by rw[N.cell (Nat.lt_of_lt_of_le af M.o.size)];exact z1
      have v4:w2.cell? ⟨g,o+i*2+1,none⟩=some (I J f):=by rw[N.cell (Nat.lt_of_lt_of_le af M.o.size)];exact z2
      clear k1 k2 k3 k4 cB aD N y1 y2 z1 z2;cases b with
      |true=>
       go_wp2_with fail;go_meet;case rel=>
        have ai:bef (A,pp) (a,f):=(A1A _ _).1 ay.o.symm;refine⟨p+1,r,ar,rfl,rfl,aa.o,fun _ K=>?_,H⟩;simp only[Nat.add_sub_cancel];rw[Y.o];exact ai
      |false=>
       have ai:¬bef (A,pp) (a,f):=(U5 _ _).1 ay.o.symm;have aj:=A4 ai;clear ai ay;cases r with
       |true=>
        go_wp2_with fail;go_quiet (fail);go_wp2_with fail;go_roundw;case rel=>
         exact⟨p,true,O,Zn,rfl,B3 aa.o _,H.down X Y.o aj.o rfl⟩
        case measure=>simp[intOf]
       |false=>
        by_cases e1:A=a
        ·by_cases e2:pp=f
         ·subst e1 e2;go_wp2_with fail;go_quiet (fail);go_wp2_with fail;go_roundw;case rel=>
           exact⟨p,true,O,Zn,rfl,B3 aa.o _,H.down X Y.o aj.o Zs⟩
          case measure=>simp[intOf]
         ·subst e1;go_wp2_with fail;go_quiet (fail);go_wp2_with fail;go_roundw;case rel=>
           exact⟨p,false,O,Zn,rfl,B3 aa.o _,H.down X Y.o aj.o (by simp[e2])⟩
          case measure=>simp[intOf]
        ·go_wp2_with fail;go_quiet (fail);go_wp2_with fail;go_roundw;case rel=>
          exact⟨p,false,O,Zn,rfl,B3 aa.o _,H.down X Y.o aj.o (by simp[e1])⟩
         case measure=>simp[intOf]
     ·have aQ:at_=0:=O;subst aQ;go_wp2_with fail;go_meet;case rel=>
       exact⟨0,r,Nat.zero_le _,rfl,rfl,F,fun h _=>absurd h O,H⟩
   case rest=>
    obtain⟨at_,r,ar,rfl,rfl,az,HE⟩:=hcut;have Q:Hd (Below w.heap.size w wc):=ap.o.trans (az.mono aL.o);have ak:Hd (A3 wc w.heap.size 119 2 (.slice ao m c) m (A9 P)):=aq.o.other (fun g' _ s=>az.block g' s);clear az;cases r with
    |true=>
     go_wp2_with fail;go_roundw;case rel=>
      refine⟨i+1,P,O,by have:=l.o;omega,Zn,⟨W.o.1,fun x=>?_⟩,by rw[←l.o];exact ak.o,Q.o⟩;obtain⟨j,V,h1,K⟩:=HE.2.2.1 rfl;rw[A04 L i (by rw[D.o];exact s),←W.o.2];constructor
      ·exact Or.inl
      ·rintro (h|h)
       ·exact h
       ·rw[h,←HX.o,←K];exact List.getElem_mem V
     case measure=>simp[intOf];omega
    |false=>
     have aR:=Q.o.size;go_wp2_with (at_builtin;go_must (refine B5 _ rfl (.tmp 47) (.tmp 49) 115 rfl 119 i0 _ 2 16 Tryz.underlying115 hi aG aH aI rfl Z w.heap.size (.slice ao m c) m (A9 P) rfl (by exact ak.o.other (fun g _ s=>Below.heap_alloc _ _ _ s)) ⟨wc.heap.size,0,none⟩ 1 [I J 0,I J 0] rfl rfl (by exact Z0 _ _ _ _ _ rfl) (P2 _ _) (by unfold maxLen;omega) O Zo ?_;intro g' o' cap' w3 aE G));have al:Hd (w.heap.size≤g'):=by
      rcases G.new with h|h
      ·exact(ak.o.lt h).1
      ·have:wc.heap.size+1≤g':=by simpa using h
       show _≤_;omega
     have aS:Hd (Below w.heap.size w w3):=by
      refine⟨G.os.trans Q.o.os,G.tape.trans Q.o.tape,G.output.trans Q.o.output,?_,fun q hq=>?_⟩
      ·have:=G.size;have e:(wc.alloc (Obj.cells #[I J 0,I J 0] 119)).heap.size=wc.heap.size+1:=Zs;omega
      ·rw[G.other q Zo (fun he=>by have:=(ak.o.lt he).1;omega),Below.heap_alloc _ _ _ O];exact Q.o.block q hq
     have aT:Hd (A3 w3 w.heap.size 119 2 (.slice (some ⟨g',o',none⟩) (m+1) cap') (m+1) (A9 (V8 P m (0,0)))):=by
      have e:V8 P m (0,0)=P++[(0,0)]:=by rw[l.o];exact A98 P _
      rw[e,J2];exact aE
     clear G aE aR;go_loopw [8] (fun kv wx=>∃(k:Nat) (y:Int×Int),at_≤k∧k≤m∧kv=I J k∧A3 wx w.heap.size 119 2 (.slice (some ⟨g',o',none⟩) (m+1) cap') (m+1) (A9 (V8 P k y))∧Below w.heap.size w wx) (fun kv _=>(intOf kv).toNat);case atStart=>exact⟨m,(0,0),ar,Nat.le_refl _,by first|rfl|go_num,aT.o,aS.o⟩
     case round=>
      obtain⟨k,y,ba,bb,rfl,R,S⟩:=hrel;obtain⟨cur,T,aF⟩:∃cur,wr.heap[g']?=some (.cells cur 119 (0,0))∧o'+(m+1)*2≤cur.size:=by
       rcases R.2 with⟨h,_⟩|⟨g2,o2,bc,cur,h,_,K,h3,_,h5,_⟩
       ·simp at h
       ·simp only[Value.slice.injEq,Option.some.injEq,Addr.mk.injEq,and_true,true_and]at h;obtain⟨⟨rfl,rfl⟩,rfl⟩:=h;exact⟨cur,K,Nat.le_trans (Nat.add_le_add_left (Nat.mul_le_mul_right 2 h3) _) h5⟩
      obtain⟨q0,bd⟩:∃y,wr.cell? ⟨g',o'+k*2,none⟩=some y:=⟨_,A1 T (Array.getElem?_eq_getElem O)⟩;obtain⟨q1,be⟩:∃y,wr.cell? ⟨g',o'+k*2+1,none⟩=some y:=⟨_,A1 T (Array.getElem?_eq_getElem O)⟩;have f0:wr.frozen? ⟨g',o'+k*2,none⟩=false:=frozen_of_row _ _ _ _ _ T;have f1:wr.frozen? ⟨g',o'+k*2+1,none⟩=false:=frozen_of_row _ _ _ _ _ T;have bf:(k:Int)<((m+1:Nat):Int):=O;by_cases bg:at_<k
      ·obtain⟨p,rfl⟩:∃p,k=p+1:=⟨k-1,O⟩;have bh:p<P.length:=by have:=l.o;omega
       have u:=R.ans p (by rw[N2];omega);rw[B0z P (p+1) p y O O]at u;obtain⟨z,hz⟩:=A8 (P[p]);rw[←hz]at u;obtain⟨c1,c2⟩:=u;have aA:Hd (A3 ((wr.setCell ⟨g',o'+(p+1)*2,none⟩ (I J z.1)).setCell ⟨g',o'+(p+1)*2+1,none⟩ (I J z.2)) w.heap.size 119 2 (.slice (some ⟨g',o',none⟩) (m+1) cap') (m+1) (A9 (V8 P p z))):=by
        have:=R.setA (by rw[N2];have:=l.o;omega) (p+1) O z;rw[A50 P (p+1) y z O,A8y P p O z hz]at this;exact this
       have aM:(p:Int)<((m+1:Nat):Int):=O;have bi:(at_:Int)<((p+1:Nat):Int):=O;have bj:p≤400:=O;have aN:((p+1:Nat):Int)-1=p:=O;have aB:=A4 S;clear R T aF hz S;go_wp2_with fail;go_roundw;case rel=>
        refine⟨p,z,O,O,Zn,aA.o,(aB.o.setCell (p:=⟨g',_,none⟩) al.o _).setCell (p:=⟨g',_,none⟩) al.o _⟩
       case measure=>simp[intOf]
      ·have aU:k=at_:=O;subst aU;have e1:wr.cell? ⟨g,o+i*2,none⟩=some (I J a):=by rw[S.cell C];rw[ap.o.cell C]at ad;exact ad
       have e2:wr.cell? ⟨g,o+i*2+1,none⟩=some (I J f):=by rw[S.cell C];rw[ap.o.cell C]at ae;exact ae
       have aA:Hd (A3 ((wr.setCell ⟨g',o'+k*2,none⟩ (I J a)).setCell ⟨g',o'+k*2+1,none⟩ (I J f)) w.heap.size 119 2 (.slice (some ⟨g',o',none⟩) (m+1) cap') (m+1) (A9 (V8 P k (a,f)))):=by
        have:=R.setA (by rw[N2];have:=l.o;omega) k O (a,f);rw[A50 P k y (a,f) (by have:=l.o;omega)]at this;exact this
       have aB:=A4 S;clear R T aF S ad ae;go_wp2_with fail;go_roundw;case rel=>
        refine⟨i+1,V8 P k (a,f),O,by rw[N2];have:=l.o;omega,Zn,⟨?_,fun x=>?_⟩,?_,(aB.o.setCell (p:=⟨g',_,none⟩) al.o _).setCell (p:=⟨g',_,none⟩) al.o _⟩
        ·refine A85 P W.o.1 k (a,f) (by have:=l.o;omega) (fun h=>HE.1 h (by have:=l.o;omega)) HE.2.1 (fun j V aV he=>?_);have:=HE.2.2.2 ⟨j,V,aV,he⟩;simp at this
        ·rw[A9d,A04 L i (by rw[D.o];exact s),←W.o.2,HX.o]
        ·rw[N2,←l.o];exact aA.o
       case measure=>simp[intOf];omega
  ·go_wp2;go_ret;have he:i=n:=O;have:=W.o;have u:P=canon L:=A4P L P this.1 (fun x=>by rw[this.2,he,List.take_of_length_le (by rw[D.o];exact Nat.le_refl _)]);rw[←u];exact⟨_,rfl,E,ab⟩
def B2v (e:Int):Ending:=.returned (.tuple #[.slice none 0 0,.float .f64 0,I J e])
def A0C (x:Int×Int):Bool:=!(decide (0≤x.1)&&decide (x.1≤10000)&&decide (0≤x.2)&&decide (x.2≤10000))
theorem A21 (x:Int×Int):A0C x=true↔¬okA x:=by
 unfold A0C okA;simp only[Bool.not_eq_true',Bool.and_eq_false_iff,decide_eq_false_iff_not];omega
theorem A9H (x:Int×Int):A0C x=false↔okA x:=by
 unfold A0C okA;simp only[Bool.not_eq_false',Bool.and_eq_true,decide_eq_true_iff];omega
structure A0l (w w':World)(g:Nat):Prop where
 os:w'.os=w.os
 tape:w'.tape=w.tape
 output:w'.output=w.output
 size:w'.heap.size=w.heap.size
 other:∀j,j≠g→w'.heap[j]?=w.heap[j]?
theorem A0l.refl (w:World)(g:Nat):A0l w w g:=⟨rfl,rfl,rfl,rfl,fun _ _=>rfl⟩
theorem A0l.trans {a b c:World}{g:Nat}(h:A0l a b g)(k:A0l b c g):A0l a c g:=
 ⟨k.os.trans h.os,k.tape.trans h.tape,k.output.trans h.output,k.size.trans h.size,fun j d=>(k.other j d).trans (h.other j d)⟩
theorem A0l.drewN {w w':World}{g:Nat}(h:A0l w w' g)(n:Nat):A0l w (w'.drewN n) g:=⟨h.os,h.tape,h.output,h.size,h.other⟩
theorem A0l.setCell {w w':World}{g:Nat}(h:A0l w w' g)(i:Nat)(v:Value):A0l w (w'.setCell ⟨g,i,none⟩ v) g:=
 ⟨h.os,h.tape,h.output,by simpa using h.size,fun j a=>(heap_setCell_other w' _ j v a).trans (h.other j a)⟩
theorem A15:∀(l:List (Int×Int)) (a b:Int×Int),uniq (l++[a]++[b])=if b=a then uniq (l++[a]) else uniq (l++[a])++[b]
 |[],a,b=>by
  show uniq [a,b]=if b=a then uniq [a] else uniq [a]++[b]
  unfold uniq
  by_cases h:a=b
  ·subst h;simp[uniq]
  ·have j:¬b=a:=fun e=>h e.symm
   simp[h,j,uniq]
 |[c],a,b=>by
  have f:=A15 [] a b
  simp only[List.nil_append]at f
  show uniq (c::a::[b])=if b=a then uniq (c::[a]) else uniq (c::[a])++[b]
  unfold uniq
  have g:uniq (a::[b])=if b=a then uniq [a] else uniq [a]++[b]:=f
  rw[g]
  by_cases h:c=a<;>by_cases i:b=a<;>simp[h,i]
 |c::d::l,a,b=>by
  have f:=A15 (d::l) a b
  show uniq (c::d::(l++[a]++[b]))=if b=a then uniq (c::d::(l++[a])) else uniq (c::d::(l++[a]))++[b]
  have g:uniq (d::(l++[a]++[b]))=if b=a then uniq (d::(l++[a])) else uniq (d::(l++[a]))++[b]:=f
  unfold uniq
  rw[g]
  by_cases h:c=d<;>by_cases i:b=a<;>simp[h,i]
theorem X8 (L:List (Int×Int))(i:Nat)(h1:1≤i)(a:i<L.length):uniq (L.take (i+1))=if L[i]=L[i-1] then uniq (L.take i) else uniq (L.take i)++[L[i]]:=by
 obtain⟨p,rfl⟩:∃p,i=p+1:=⟨i-1,O⟩;rw[List.take_succ_eq_append_getElem a,List.take_succ_eq_append_getElem (show p<L.length by omega)];exact A15 _ _ _
def CmI (L M:List (Int×Int))(k i:Nat):Prop:=M.length=L.length∧k<i∧i≤L.length∧M.take k=uniq (L.take i)∧∀j (hj:j<L.length) (hm:j<M.length),i-1≤j→M[j]=L[j]
theorem CmI.skip {L M:List (Int×Int)}{k i:Nat}(h:CmI L M k i)(hi:i<L.length)(h1:1≤i)(he:L[i]=L[i-1]):CmI L M k (i+1):=by
 obtain⟨a,b,c,d,e⟩:=h;refine⟨a,O,O,?_,fun j f hm h=>e j f hm O⟩;rw[X8 L i h1 hi,if_pos he];exact d
theorem CmI.keep {L M:List (Int×Int)}{k i:Nat}(h:CmI L M k i)(hi:i<L.length)(h1:1≤i)(he:L[i]≠L[i-1]):CmI L (M.set k L[i]) (k+1) (i+1):=by
 obtain⟨a,b,c,d,e⟩:=h;refine⟨by simpa using a,O,O,?_,fun j f hm h=>?_⟩
 ·rw[X8 L i h1 hi,if_neg he,←d,List.take_set,List.take_succ_eq_append_getElem (show k<M.length by omega),List.set_append_right _ _ Zo,List.length_take,Nat.min_eq_left O,Nat.sub_self,List.set_cons_zero]
 ·rw[List.getElem_set_ne O];exact e j f _ O
theorem A6W (w:World)(b o m c cs:Nat)(cur:Array Value)(f:w.heap[b]?=some (.cells cur 247 (0,0)))(hs:o+(m+1)*2≤cur.size) :
 ∃i:List Value,∀ty,(Builtin.clear_ #[294] ty #[.slice (some ⟨b,o,none⟩) (m+1) c]).run Tryz.prog w=.ok (.tuple #[]) (w.setCells b o i):=by
 refine⟨(Builtin.zeroCells (Value.agg #[I J 0,I J 0]).cells (m+1)).toList,fun ty=>?_⟩;have l:(Builtin.zeroCells (Value.agg #[I J 0,I J 0]).cells (m+1)).toList.length=(m+1)*2:=by
  rw[Array.length_toList,size_zeroCells];rfl
 have g:=run_storeCells_cells (P:=Tryz.prog) b o (Builtin.zeroCells (Value.agg #[I J 0,I J 0]).cells (m+1)).toList 0 w
  (fun j k=>by rw[cell_of_row w b _ cur 247 (0,0) f];simp;omega)
  (fun j k=>frozen_of_row w b _ cur 247 f)
  (fun v d=>by
   simp only[Builtin.zeroCells,Array.toList_map,List.mem_map]at d
   obtain⟨a,_,rfl⟩:=d
   have:a%2=0∨a%2=1:=O
   rcases this with h|h
   ·show((#[I J 0,I J 0]:Array Value)[a%2]!).oneCell'=true
    rw[h];rfl
   ·show((#[I J 0,I J 0]:Array Value)[a%2]!).oneCell'=true
    rw[h];rfl)
 simp only[Nat.add_zero]at g;have d:=Tryz.zeroValue247;simp[Builtin.clear_,run_underlying Tryz.underlying294,d,g]
theorem A3.cut {w w':World}{base g o n cap m:Nat}{t:TypeId}{M b:List (Int×Int)}(h:A3 w base t 2 (.slice (some ⟨g,o,none⟩) n cap) n (A9 M))(s:M.length=n)(hm:m≤n)(c:M.take m=b)
 (i:∀cur:Array Value,w.heap[g]?=some (.cells cur t (0,0))→∃a:Array Value,w'.heap[g]?=some (.cells a t (0,0))∧a.size=cur.size∧∀j,j<o+m*2→a[j]?=cur[j]?) :
 A3 w' base t 2 (.slice (some ⟨g,o,none⟩) m cap) m (A9 b):=by
 obtain⟨u,h⟩:=h;rcases h with⟨h,_⟩|⟨g',o',cap',cur,he,h1,k,v,l,x,d⟩
 ·simp at h
 ·simp only[Value.slice.injEq,Option.some.injEq,Addr.mk.injEq,and_true,true_and]at he;obtain⟨⟨rfl,rfl⟩,rfl⟩:=he;obtain⟨a,k1,k2,f⟩:=i cur k;have p:b.length=m:=by rw[←c,List.length_take];omega
  refine⟨by rw[M0,p],Or.inr ⟨g,o,cap,a,rfl,h1,k1,O,l,O,?_⟩⟩;rw[A07]at d⊢;intro q y;have r:q<M.length:=O;have:=d q r;have e:b[q]=M[q]:=by simp only[←c];rw[List.getElem_take]
  rw[e,f _ O,f _ O];exact this
theorem A5l (L:List (Int×Int))(n:Nat)(hn:L.length=n)(h1:1≤n)(b:n≤400)(base g o cap:Nat)(w:World)(Q:A3 w base 247 2 (.slice (some ⟨g,o,none⟩) n cap) n (A9 L)) :
 Calls Tryz.prog 177 #[.slice (some ⟨g,o,none⟩) n cap] w fun e w'=>e=.returned (.slice (some ⟨g,o,none⟩) (uniq L).length cap)∧A3 w' base 247 2 (.slice (some ⟨g,o,none⟩) (uniq L).length cap) (uniq L).length (A9 (uniq L))∧A0l w w' g:=by
 have c:=A4 hn;have C:=A4 Q;have HU:Hd (uniq (L.take 1)=L.take 1):=by
  show _=_;cases L with
  |nil=>rfl
  |cons a t=>rfl
 have av:n≤cap:=by
  rcases Q.2 with⟨h,_⟩|⟨g',o',cap',cur,he,_,_,h3,_⟩
  ·simp at h
  ·simp only[Value.slice.injEq]at he;omega
 clear hn Q;by_cases ai:n=1
 ·subst ai;have R:uniq L=L:=by
   have:=HU.o;rwa [List.take_of_length_le (by rw[c.o];exact Nat.le_refl _)]at this
  rw[R,c.o];go_enter Tryz.func177,Tryz.ntmps177;go_wp2_with fail;go_ret;exact⟨rfl,C.o,A0l.refl _ _⟩
 ·have aw:¬((n:Int)<2):=O;go_enter Tryz.func177,Tryz.ntmps177;go_wp2_with fail;go_loopw [3] (fun D wx=>∃k:Nat,1≤k∧k≤n∧D=I J k∧Hd (uniq (L.take k)=L.take k)∧∃q,wx=w.drewN q) (fun D _=>n-(intOf D).toNat);case atStart=>exact⟨1,O,h1,rfl,HU.o,0,rfl⟩
  case round=>
   obtain⟨k,ax,ay,rfl,H,q,rfl⟩:=hrel;by_cases aj:k<n
   ·have az:(k:Int)<n:=O;have s:k<L.length:=by rw[c.o];exact aj
    obtain⟨p,rfl⟩:∃p,k=p+1:=⟨k-1,O⟩;have z:=C.o.ans (p+1) s;have A:=C.o.ans p O;obtain⟨x,S⟩:=A8 (L[p+1]);obtain⟨y,T⟩:=A8 (L[p]'O);have B:Hd (x=L[p+1]∧y=L[p]'O):=⟨S,T⟩;rw[←S]at z;rw[←T]at A;obtain⟨xr,xp⟩:=x;obtain⟨yr,yp⟩:=y;obtain⟨E,a2⟩:=z;obtain⟨b1,b2⟩:=A;simp only at E a2 b1 b2;have aA:(p:Int)<n:=O;have aB:((p+1:Nat):Int)-1=p:=O;clear S T;by_cases e1:xr=yr
    ·by_cases e2:xp=yp
     ·subst e1 e2;go_wp2_with fail;go_quiet (fail);go_wp2_with fail;have ae:Hd (CmI L L (p+1) (p+1+1)):=by
       refine⟨rfl,O,O,?_,fun _ _ _ _=>rfl⟩;rw[X8 L (p+1) O s,if_pos,H.o];simp only[Nat.add_sub_cancel];rw[←B.o.1,←B.o.2]
      go_loopw [3,5] (fun D V wx=>∃(k k2:Nat) (M:List (Int×Int)),D=I J k∧V=I J k2∧1≤k2∧p+1+k2≤n∧CmI L M k (p+1+k2)∧A3 wx base 247 2 (.slice (some ⟨g,o,none⟩) n cap) n (A9 M)∧A0l w wx g) (fun _ V _=>n-(intOf V).toNat);case atStart=>exact⟨p+1,1,L,rfl,rfl,O,O,ae.o,C.o.other (fun _ _ _=>rfl),(A0l.refl _ _).drewN _⟩
      case round=>
       obtain⟨k,k2,M,rfl,rfl,aC,aD,d,f,K⟩:=hrel;clear ae E a2 b1 b2;have W:k<n:=by have:=d.2.1;omega
       have X:M.length=n:=d.1.trans c.o;obtain⟨cur,r,af⟩:∃cur,wr.heap[g]?=some (.cells cur 247 (0,0))∧o+n*2≤cur.size:=by
        rcases f.2 with⟨h,_⟩|⟨g2,o2,aE,cur,h,_,b,h3,_,h5,_⟩
        ·simp at h
        ·simp only[Value.slice.injEq,Option.some.injEq,Addr.mk.injEq,and_true,true_and]at h;obtain⟨⟨rfl,rfl⟩,rfl⟩:=h;exact⟨cur,b,Nat.le_trans (Nat.add_le_add_left (Nat.mul_le_mul_right 2 h3) _) h5⟩
       by_cases ak:p+1+k2<n
       ·obtain⟨m,rfl⟩:∃m,k2=m+1:=⟨k2-1,O⟩;have N:p+1+(m+1)<L.length:=by rw[c.o];exact ak
        have z:=f.ans (p+1+(m+1)) O;have A:=f.ans (p+1+m) O;rw[d.2.2.2.2 _ N O O]at z;rw[d.2.2.2.2 _ O O O]at A;obtain⟨u,hu⟩:=A8 (L[p+1+(m+1)]);obtain⟨v,Y⟩:=A8 (L[p+1+m]'O);have i:Hd (L[p+1+(m+1)]=u∧L[p+1+m]'O=v):=⟨hu.symm,Y.symm⟩;rw[←hu]at z;rw[←Y]at A;obtain⟨l,up⟩:=u;obtain⟨vr,vp⟩:=v;obtain⟨E,a2⟩:=z;obtain⟨b1,b2⟩:=A;simp only at E a2 b1 b2;rw[show o+(p+1+(m+1))*2=o+(p+1)*2+(m+1)*2 by omega]at E a2;rw[show o+(p+1+m)*2=o+(p+1)*2+m*2 by omega]at b1 b2;obtain⟨y0,aF⟩:∃y,wr.cell? ⟨g,o+k*2,none⟩=some y:=⟨_,A1 r (Array.getElem?_eq_getElem O)⟩;obtain⟨y1,aG⟩:∃y,wr.cell? ⟨g,o+k*2+1,none⟩=some y:=⟨_,A1 r (Array.getElem?_eq_getElem O)⟩;have f0:wr.frozen? ⟨g,o+k*2,none⟩=false:=frozen_of_row _ _ _ _ _ r;have f1:wr.frozen? ⟨g,o+k*2+1,none⟩=false:=frozen_of_row _ _ _ _ _ r;have aH:Hd (A3 ((wr.setCell ⟨g,o+k*2,none⟩ (I J l)).setCell ⟨g,o+k*2+1,none⟩ (I J up)) base 247 2 (.slice (some ⟨g,o,none⟩) n cap) n (A9 (M.set k (l,up)))):=f.setA X k W (l,up);have aa:=A4 d;have ag:=A4 X;have ab:=A4 f;have F:=A4 K;have aI:(m:Int)<((n-(p+1):Nat):Int):=O;have aJ:((m+1:Nat):Int)<((n-(p+1):Nat):Int):=O;have aK:((m+1:Nat):Int)-1=m:=O;have al:(k:Int)<n:=O;clear hu Y d f K r af;by_cases g1:l=vr
        ·by_cases g2:up=vp
         ·subst g1 g2;go_wp2_with fail;go_quiet (fail);go_wp2_with fail;go_roundw;case rel=>
           exact⟨k,m+1+1,M,rfl,Zn,O,O,aa.o.skip N O (by have h1:=i.o.1;have b:=i.o.2;rw[h1];exact b.symm),ab.o.other (fun _ _ _=>rfl),F.o.drewN _⟩
          case measure=>simp[intOf];omega
         ·subst g1;go_wp2_with fail;go_quiet (fail);go_wp2_with fail;go_roundw;case rel=>
           refine⟨k+1,m+1+1,M.set k (l,up),Zn,Zn,O,O,?_,A3.setA (ab.o.other (w':=wr.drewN nq) (fun _ _ _=>rfl)) ag.o k W (l,up),((F.o.drewN _).setCell _ _).setCell _ _⟩;have:=aa.o.keep N O (by
            have h1:=i.o.1;have b:=i.o.2;rw[h1];intro h;exact g2 (Prod.mk.inj (h.trans b)).2)
           rw[i.o.1]at this;exact this
          case measure=>simp[intOf];omega
        ·go_wp2_with fail;go_quiet (fail);go_wp2_with fail;go_roundw;case rel=>
          refine⟨k+1,m+1+1,M.set k (l,up),Zn,Zn,O,O,?_,A3.setA (ab.o.other (w':=wr.drewN nq) (fun _ _ _=>rfl)) ag.o k W (l,up),((F.o.drewN _).setCell _ _).setCell _ _⟩;have:=aa.o.keep N O (by
           have h1:=i.o.1;have b:=i.o.2;rw[h1];intro h;exact g1 (Prod.mk.inj (h.trans b)).1)
          rw[i.o.1]at this;exact this
         case measure=>simp[intOf];omega
       ·obtain⟨mm,ah⟩:∃mm,n-k=mm+1:=⟨n-k-1,O⟩;obtain⟨G,am⟩:=A6W wr g (o+k*2) mm (cap-k) 0 cur r O;rw[←ah]at am;have aL:p+1+k2=n:=O;have ac:M.take k=uniq L:=by
         rw[d.2.2.2.1,List.take_of_length_le (by rw[c.o];omega)]
        have ad:(uniq L).length=k:=by rw[←ac,List.length_take];omega
        have an:Hd (A3 (wr.setCells g (o+k*2) G) base 247 2 (.slice (some ⟨g,o,none⟩) (uniq L).length cap) (uniq L).length (A9 (uniq L))):=by
         rw[ad];refine f.cut X O ac (fun ao ap=>?_);obtain⟨aq,q1,q2,q3,_⟩:=C9 g 247 G (o+k*2) wr ao ap;exact⟨aq,q1,q2,q3⟩
        have F:Hd (A0l w (wr.setCells g (o+k*2) G) g):=by
         have P:=F8 g G (o+k*2) wr;exact K.trans ⟨P.2.1,P.1,P.2.2.1,P.2.2.2,fun j hj=>B8 g G _ wr j hj⟩
        have ar:=A4 ad;have al:(k:Int)≤n:=O;clear d f K r af ac ad ah;go_wp2_with fail;go_ret;refine⟨?_,an.o,F.o⟩;rw[ar.o];rfl
     ·subst e1;go_wp2_with fail;go_quiet (fail);go_wp2_with fail;go_roundw;case rel=>
       refine⟨p+1+1,O,O,Zn,?_,_,rfl⟩;show _=_;rw[X8 L (p+1) O s,if_neg,H.o,List.take_succ_eq_append_getElem s];simp only[Nat.add_sub_cancel];rw[←B.o.1,←B.o.2];intro h;exact e2 (Prod.mk.inj h).2
      case measure=>simp[intOf];omega
    ·go_wp2_with fail;go_quiet (fail);go_wp2_with fail;go_roundw;case rel=>
      refine⟨p+1+1,O,O,Zn,?_,_,rfl⟩;show _=_;rw[X8 L (p+1) O s,if_neg,H.o,List.take_succ_eq_append_getElem s];simp only[Nat.add_sub_cancel];rw[←B.o.1,←B.o.2];intro h;exact e1 (Prod.mk.inj h).1
     case measure=>simp[intOf];omega
   ·have au:k=n:=O;subst au;have R:uniq L=L:=by
     have:=H.o;rwa [List.take_of_length_le (by rw[c.o];exact Nat.le_refl _)]at this
    go_wp2_with fail;go_ret;rw[R,c.o];exact⟨rfl,C.o.other (fun _ _ _=>rfl),(A0l.refl _ _).drewN _⟩
theorem Tryz.info3:(Tryz.prog.info? 3).map (fun i=>(i.zero,i.size,i.bytes))=some (some (I J 0),1,8):=U
def DpR (wr:World)(gs n i:Nat)(T:List Lk):Prop:=∃cs ca:Array Value,wr.heap[gs]?=some (.cells cs 3 (0,0))∧wr.heap[gs+1]?=some (.cells ca 3 (0,0))∧cs.size=n∧ca.size=n∧∀j,j<i→cs[j]?=some (I J (T.getD j E8).q)∧ca[j]?=some (I J (T.getD j E8).p)
def DpX (wr:World)(gs n i:Nat)(T:List Lk)(q p:Int):Prop:=∃cs ca:Array Value,wr.heap[gs]?=some (.cells cs 3 (0,0))∧wr.heap[gs+1]?=some (.cells ca 3 (0,0))∧cs.size=n∧ca.size=n∧(∀j,j<i→cs[j]?=some (I J (T.getD j E8).q)∧ca[j]?=some (I J (T.getD j E8).p))∧cs[i]?=some (I J q)∧ca[i]?=some (I J p)
theorem DpX.r {wr:World}{gs n i:Nat}{T:List Lk}{q p:Int}(h:DpX wr gs n i T q p):DpR wr gs n i T:=by
 obtain⟨cs,a,h1,b,c,d,f,_⟩:=h;exact⟨cs,a,h1,b,c,d,f⟩
theorem DpR.set {wr:World}{gs n i:Nat}{T:List Lk}(h:DpR wr gs n i T)(hi:i<n)(q p:Int):DpX ((wr.setCell ⟨gs,i,none⟩ (I J q)).setCell ⟨gs+1,i,none⟩ (I J p)) gs n i T q p:=by
 obtain⟨cs,c,h1,d,f,g,k⟩:=h;have a:=D7.of_setCell (i:=i) (I J q) h1;have l:(wr.setCell ⟨gs,i,none⟩ (I J q)).heap[gs+1]?=some (.cells c 3 (0,0)):=(a.other _ O).trans d;have b:=D7.of_setCell (i:=i) (I J p) l;refine⟨_,_,(b.other gs O).trans a.here,b.here,by simpa using f,by simpa using g,?_,?_,?_⟩
 ·intro j m;rw[Array.getElem?_setIfInBounds_ne O,Array.getElem?_setIfInBounds_ne O];exact k j m
 ·rw[Array.getElem?_setIfInBounds_self_of_lt O]
 ·rw[Array.getElem?_setIfInBounds_self_of_lt O]
theorem DpX.next {wr:World}{gs n i:Nat}{T:List Lk}{q p:Int}(h:DpX wr gs n i T q p)(a:(T.getD i E8).q=q)(b:(T.getD i E8).p=p):DpR wr gs n (i+1) T:=by
 obtain⟨cs,c,h1,d,f,g,k,l,m⟩:=h;refine⟨cs,c,h1,d,f,g,fun j o=>?_⟩;by_cases he:j=i
 ·subst he;rw[a,b];exact⟨l,m⟩
 ·exact k j O
theorem DpX.other {wr wx:World}{gs n i:Nat}{T:List Lk}{q p:Int}(h:DpX wr gs n i T q p)(h1:wx.heap[gs]?=wr.heap[gs]?)(a:wx.heap[gs+1]?=wr.heap[gs+1]?):DpX wx gs n i T q p:=by
 obtain⟨cs,b,c,a2,d⟩:=h;exact⟨cs,b,h1.trans c,a.trans a2,d⟩
theorem DpX.lt {wr:World}{gs n i:Nat}{T:List Lk}{q p:Int}(h:DpX wr gs n i T q p):gs+1<wr.heap.size:=by
 obtain⟨cs,a,b,a2,c⟩:=h;exact lt_of_block a2
theorem DpR.lt {wr:World}{gs n i:Nat}{T:List Lk}(h:DpR wr gs n i T):gs+1<wr.heap.size:=by
 obtain⟨cs,a,b,a2,c⟩:=h;exact lt_of_block a2
theorem DpR.cells {wr:World}{gs n i:Nat}{T:List Lk}(h:DpR wr gs n i T)(j:Nat)(a:j<i):wr.cell? ⟨gs,j,none⟩=some (I J (T.getD j E8).q)∧wr.cell? ⟨gs+1,j,none⟩=some (I J (T.getD j E8).p):=by
 obtain⟨cs,d,h1,c,f,g,b⟩:=h;exact⟨A1 h1 (b j a).1,A1 c (b j a).2⟩
theorem DpX.here {wr:World}{gs n i:Nat}{T:List Lk}{q p:Int}(h:DpX wr gs n i T q p):wr.cell? ⟨gs,i,none⟩=some (I J q)∧wr.cell? ⟨gs+1,i,none⟩=some (I J p):=by
 obtain⟨cs,d,h1,a,f,g,j,b,c⟩:=h;exact⟨A1 h1 b,A1 a c⟩
theorem DpR.any {wr:World}{gs n i:Nat}{T:List Lk}(h:DpR wr gs n i T)(j:Nat)(b:j<n):(∃y,wr.cell? ⟨gs,j,none⟩=some y)∧(∃y,wr.cell? ⟨gs+1,j,none⟩=some y)∧wr.frozen? ⟨gs,j,none⟩=false∧wr.frozen? ⟨gs+1,j,none⟩=false:=by
 obtain⟨cs,c,h1,a,d,f,g⟩:=h;exact⟨⟨_,A1 h1 (Array.getElem?_eq_getElem O)⟩,⟨_,A1 a (Array.getElem?_eq_getElem O)⟩,frozen_of_row _ _ _ _ _ h1,frozen_of_row _ _ _ _ _ a⟩
theorem A0k (T:List Lk)(n:Nat)(a:∀i,i<n→(T.getD i E8).p<i)(f:Nat)(p:Int)(h1:p<n)(c:p<f):∀d,f≤d→bk T d p=bk T f p:=by
 intro d g;induction d with
 |zero=>have:f=0:=O
        subst this;rfl
 |succ d b=>
  by_cases he:f=d+1
  ·rw[he]
  ·rw[A7m T n a d p h1 O];exact b O
theorem A6w (C:List (Int×Int)):∀u∈A9 C,u.oneCell'=true:=by
 intro u hu;unfold A9 at hu;simp only[List.mem_flatMap,List.mem_cons,List.not_mem_nil,or_false]at hu;obtain⟨x,_,rfl|rfl⟩:=hu<;>rfl
theorem A9C (x y:Int×Int)(k:Int)(a:okA x)(b:okA y)(c:fol x y)(hk:1≤k):-20000≤qtr x y k:=by
 obtain⟨d,a2,a3,a4⟩:=a;obtain⟨b1,b2,b3,b4⟩:=b;obtain⟨f1,f2⟩:=c;have h:(apt (y.2-x.2) (y.1-x.1)).toNat<1048576:=by unfold apt;omega
 have:=X0 _ h;unfold qtr;have e1:1≤lst (y.2-x.2) (y.1-x.1) k:=by unfold lst;omega
 have f:apt (y.2-x.2) (y.1-x.1)≤10000:=by unfold apt;omega
 omega
theorem A7P (L:List (Int×Int))(n:Nat)(hn:L.length=n)(g o cap:Nat)(k:Int)(w:World)(aW:1≤k)(bE:k≤12)(hL:n≤400)(h0:0<n)(hg:g<w.heap.size)
 (hA:∀j (B:j<L.length),w.cell? ⟨g,o+j*2,none⟩=some (I J L[j].1)∧w.cell? ⟨g,o+j*2+1,none⟩=some (I J L[j].2))
 (hb:∀x∈L,okA x) :
 Calls Tryz.prog 94 #[.slice (some ⟨g,o,none⟩) n cap,I J k] w fun e w'=>∃v,e=.returned (.tuple #[v,.float .f64 (fq (chQ k L)),I J 0])∧Below w.heap.size w w'∧A3 w' w.heap.size 119 2 v (L8 k L).length (A9 (L8 k L)):=by
 obtain⟨i0,aX,bF,bG,bH⟩:=info_parts Tryz.info119;obtain⟨i3,bI,bJ,bK,bL⟩:=info_parts Tryz.info3;have HA:=A4 hA;have M:=A4 hn;have HB:=A4 hb;have cA:¬(400:Int)<n:=O;have cB:¬((n:Int)=0):=O;clear hA hn hb;go_enter Tryz.func94,Tryz.ntmps94;go_wp2_with fail;go_loopw [7] (fun iv wr=>∃i:Nat,i≤n∧iv=I J i∧wr=w) (fun iv _=>n-(intOf iv).toNat);case atStart=>exact⟨0,Nat.zero_le _,rfl,by first|rfl|trivial⟩
 case round=>
  obtain⟨i,hi,rfl,rfl⟩:=hrel;by_cases ar:i<n
  ·have cD:(i:Int)<n:=O;obtain⟨c1,c2⟩:=HA.o i (by rw[M.o];exact ar);obtain⟨o1,o2,o3,o4⟩:=HB.o _ (List.getElem_mem (show i<L.length by rw[M.o];exact ar));obtain⟨f,aY⟩:=A8 ((L[i]'(by rw[M.o];exact ar)).1);obtain⟨c,aZ⟩:=A8 ((L[i]'(by rw[M.o];exact ar)).2);rw[←aY]at c1 o1 o2;rw[←aZ]at c2 o3 o4;have h1:¬c<0:=O;have h2:¬10000<c:=O;have h3:¬f<0:=O;have h4:¬10000<f:=O;clear aY aZ;go_wp2_with fail;go_roundw;case rel=>exact⟨i+1,O,Zn,by first|rfl|trivial⟩
   case measure=>simp[intOf];omega
  ·have he:i=n:=O;subst he;obtain⟨w0,bM⟩:=A8 wr;subst bM;go_wp2_with fail;refine(A39 L i M.o g o cap w0 hL hg HA.o).mono ?_;rintro e w1 ⟨v1,rfl,ba,ad⟩;obtain⟨S,hS⟩:=A8 (canon L);have bb:Hd (∀j (B:j<S.length),okA S[j]):=fun j B=>by
    refine HB.o _ ((Y3 L _).1 ?_);rw[←hS];exact List.getElem_mem B
   have bc:0<S.length:=by rw[hS];exact A0E L (fun h=>by rw[h]at M;have:=M.o;simp at this;omega)
   have bN:S.length≤400:=by rw[hS];exact Nat.le_trans (S5 L) (by have:=M.o;omega)
   rw[←hS]at ad;obtain⟨g1,o1,c1,bO,bP⟩:∃g1 o1 c1,v1=.slice (some ⟨g1,o1,none⟩) S.length c1∧w0.heap.size≤g1∧g1<w1.heap.size:=by
    rcases ad.2 with⟨_,h⟩|⟨g',o',cap',cur,he,h1,h2,_⟩
    ·omega
    ·exact⟨g',o',cap',he,h1,lt_of_block h2⟩
   subst bO;have ag:Hd (L8 k L=(bk (tb k S S.length) S.length (X7 (tb k S S.length) S.length)).reverse∧chQ k L=((tb k S S.length).getD (X7 (tb k S S.length) S.length) E8).q):=by
    rw[hS];exact⟨rfl,rfl⟩
   have bd:=ad.ans;obtain⟨b,aA⟩:=A8 S.length;have aB:=A4 aA;rw[←aA]at bc bN ad ag⊢;have cE:=A4 ad;have aC:=A4 bd;have be:=A4 ba;obtain⟨cF,aD⟩:=bP;clear ad bd ba aA HA HB M hS;obtain⟨F,hZ,bQ⟩:∃F:Array Value,F.size=b∧∀W:World,(Instr.makeSlice 56 (I J b) (I J b)).run Tryz.prog W=.ok (.slice (some ⟨W.heap.size,0,none⟩) b b) (W.alloc (.cells F 3)):=by
    refine⟨madeCells (I J 0).cells (b*1),by rw[size_madeCells];omega,fun W=>?_⟩;have:=run_make (P:=Tryz.prog) W 56 3 i3 (I J 0) Tryz.underlying56 bI bJ .i64 .i64 b b O O (by rw[bL];omega) O;rw[bK]at this;simpa using this
   go_wp2_with fail;obtain⟨w2,ah⟩:=A8 ((w1.alloc (.cells F 3)).alloc (.cells F 3));have aE:Hd (w2.heap[w1.heap.size]?=some (.cells F 3 (0,0))):=by
    rw[ah];exact(Below.heap_alloc _ _ _ Zs).trans (heap_alloc_new w1 _)
   have aF:Hd (w2.heap[w1.heap.size+1]?=some (.cells F 3 (0,0))):=by
    rw[ah];have:=heap_alloc_new (w1.alloc (.cells F 3)) (.cells F 3 (0,0));have e:(w1.alloc (.cells F 3)).heap.size=w1.heap.size+1:=Zs;rw[e]at this;exact this
   have bR:Hd (Below w1.heap.size w1 w2):=by
    rw[ah];exact((Below.refl _ w1).alloc (Nat.le_refl _) _).alloc Zs _
   rw[←ah];obtain⟨gs,aG⟩:=A8 w1.heap.size;rw[←aG]at aE aF aD⊢;have bf:=A4 aG;have bg:Hd (DpR w2 gs b 0 (tb k S b)):=⟨F,F,aE.o,aF.o,hZ,hZ,fun j B=>absurd B O⟩;have HT:Hd (∀i,i<b→(tb k S b).getD i E8=⟨S.getD i (0,0),(J4 k (S.getD i (0,0)) (tb k S b) i).1,(J4 k (S.getD i (0,0)) (tb k S b) i).2⟩):=by
    intro i hi;have e:=A2e k (S.getD i (0,0)) (tb k S i) (tb k S b) i (fun j B=>by rw[N9 k S j i B,N9 k S j b O]);rw[N9 k S i b hi,e]
   have ai:Hd (∀i,i<b→4*k≤((tb k S b).getD i E8).q∧((tb k S b).getD i E8).q≤4*k*(i+1)∧-1≤((tb k S b).getD i E8).p∧((tb k S b).getD i E8).p<i):=S9 k O S b;obtain⟨T,hT⟩:=A8 (tb k S b);rw[←hT]at bg HT ai ag;clear ah bQ aG aE aF hZ hT;go_loopw [11,12] (fun bv iv wx=>∃ii:Nat,ii≤b∧bv=I J (X7 T ii:Nat)∧iv=I J ii∧DpR wx gs b ii T∧Below gs w1 wx) (fun _ iv _=>b-(intOf iv).toNat);case atStart=>exact⟨0,Nat.zero_le _,rfl,rfl,bg.o,by rw[bf.o];exact bR.o⟩
   case round=>
    obtain⟨ii,cG,rfl,rfl,D,G⟩:=hrel;obtain⟨w3,bS⟩:=A8 wr;subst bS;by_cases ae:ii<b
    ·have cH:(ii:Int)<b:=O;have aH:ii<S.length:=by rw[←aB.o];exact ae
     obtain⟨x,hx⟩:=A8 (S[ii]);have HX:=A4 hx;have bT:Hd (S.getD ii (0,0)=x):=by show S.getD ii (0,0)=x;rw[hx];simp[aH]
     have bh:Hd (okA x):=by rw[hx];exact bb.o ii aH
     obtain⟨⟨y0,f0⟩,⟨y1,f1⟩,f2,f3⟩:=D.any ii ae;have bi:Hd (DpX ((w3.setCell ⟨gs,ii,none⟩ (I J (4*k))).setCell ⟨gs+1,ii,none⟩ (I J (-1))) gs b ii T (J4 k x T 0).1 (J4 k x T 0).2):=D.set ae (4*k) (-1);have H:Hd (Below gs w1 ((w3.setCell ⟨gs,ii,none⟩ (I J (4*k))).setCell ⟨gs+1,ii,none⟩ (I J (-1)))):=(G.setCell (p:=⟨gs,ii,none⟩) (Nat.le_refl _) _).setCell (p:=⟨gs+1,ii,none⟩) (Nat.le_succ _) _;clear D G hx;go_wp2_with fail;go_loopw [13] (fun jv wx=>∃j:Nat,j≤ii∧jv=I J j∧DpX wx gs b ii T (J4 k x T j).1 (J4 k x T j).2∧Below gs w1 wx) (fun jv _=>ii-(intOf jv).toNat);case atStart=>exact⟨0,Nat.zero_le _,rfl,bi.o,H.o⟩
     case round=>
      clear bi H f0 f1 f2 f3;obtain⟨j,B,rfl,K,aj⟩:=hrel;by_cases bU:j<ii
      ·have cI:(j:Int)<ii:=O;have cJ:(j:Int)<b:=O;have aI:j<S.length:=by rw[←aB.o];omega
       obtain⟨y,X⟩:=A8 (S[j]);have aa:Hd ((T.getD j E8).a=y):=by
        show(T.getD j E8).a=y;rw[HT.o j O,X];simp[aI]
       have bj:okA y:=by rw[X];exact bb.o j aI
       obtain⟨N,R⟩:=aC.o j aI;obtain⟨ak,al⟩:=aC.o ii aH;rw[←X]at N R;rw[←HX.o]at ak al;rw[←aj.cell aD]at N R ak al;obtain⟨z,s⟩:=y;obtain⟨f,c⟩:=x;simp only at N R ak al;obtain⟨sj,au⟩:=A8 ((T.getD j E8).q);obtain⟨bq,aJ⟩:=A8 ((J4 k (f,c) T j).1);have aK:=(K.r.cells j bU).1;have bl:=K.here.1;rw[←au]at aK;rw[←aJ]at bl;have Y:=ai.o j O;rw[←au]at Y;have cK:0≤sj:=O;have cL:sj≤20000:=by
        have h1:=Y.2.1;have:4*k*((j:Int)+1)≤48*401:=Int.mul_le_mul O O O O;omega
       have av:=A4 K;have ab:=A4 aj;have aL:=A4 au;have aM:=A4 aJ;have bV:=K.lt;clear X Y K aj au aJ;by_cases h1:s<c
       ·by_cases h2:z<f
        ·have hf:fol (z,s) (f,c):=⟨h1,h2⟩;obtain⟨Q,hQ⟩:=A8 (qtr (z,s) (f,c) k);have cM:Q≤48:=by rw[hQ];exact Int.le_trans (A4e _ _ _) O
         have cN:-20000≤Q:=by rw[hQ];exact A9C _ _ _ bj bh.o hf aW
         have HQ:=A4 hQ;have cC:∀W,Calls Tryz.prog 123 #[.agg #[I J z,I J s],.agg #[I J f,I J c],I J k] W fun e w'=>e=.returned (I J Q)∧Below W.heap.size W w':=fun W=>by
          rw[hQ];exact A3o (z,s) (f,c) k W bj bh.o hf aW bE
         clear hQ;go_wp2_with fail;go_quiet (fail);rename_i nq;obtain⟨E,V⟩:=A8 (wr.drewN nq);rw[←V];have aN:Hd (DpX E gs b ii T (J4 k (f,c) T j).1 (J4 k (f,c) T j).2):=by rw[V];exact av.o.other rfl rfl
         have bW:Hd (Below gs w1 E):=by rw[V];exact B3 ab.o _
         have k1:=cell_regrown (show E.cell? ⟨g1,o1+j*2,none⟩=_ by rw[V];exact N);have k2:=cell_regrown (show E.cell? ⟨g1,o1+j*2+1,none⟩=_ by rw[V];exact R);have k3:=cell_regrown (show E.cell? ⟨g1,o1+ii*2,none⟩=_ by rw[V];exact ak);have k4:=cell_regrown (show E.cell? ⟨g1,o1+ii*2+1,none⟩=_ by rw[V];exact al);have k5:=cell_regrown (show E.cell? ⟨gs,j,none⟩=_ by rw[V];exact aK);have cQ:∀d os,Calls Tryz.prog 123 #[.agg #[I J z,I J s],.agg #[I J f,I J c],I J k] (Sort.grow (redrawn E d) os) fun e bX=>e=.returned (I J Q)∧∃p:Regrown,bX=Sort.grow (redrawn E p.d) p.os:=fun d os=>Calls.regrown_of (cC _);have cO:gs+1<E.heap.size:=aN.o.lt;have c4:=aN.o.here.1;rw[←aM.o]at c4;clear V av ab N R ak al aK bl bV;go_wp2_with fail;refine wp_region_quiet_below U U ?_;repeat (go_big_quiet_step (exact cQ _ _))
         refine wpQuiet_nil ?_;intro w5 bm;have am:Below E.heap.size E w5:=by
          obtain⟨pq,bY⟩:=bm;rw[bY];exact below_regrown E pq.d pq.os
         have c5:w5.cell? ⟨gs,ii,none⟩=some (I J bq):=by rw[am.cell (show gs<_ by omega)];exact c4
         have aO:DpX w5 gs b ii T (J4 k (f,c) T j).1 (J4 k (f,c) T j).2:=aN.o.other (am.block _ O) (am.block _ O);have bn:=A4 aO;have bo:Hd (Below gs w1 w5):=bW.o.trans (am.mono O);have HF:=A4 hf;obtain⟨_,⟨y1,f1⟩,f2,f3⟩:=aO.r.any ii ae;clear bm am k1 k2 k3 k4 k5 cQ cC c4 aO;by_cases aw:bq<sj+Q
         ·go_wp2_with fail;go_roundw;case rel=>
           have e:J4 k (f,c) T (j+1)=(sj+Q,(j:Int)):=by
            rw[J4,if_pos,←aL.o,aa.o,←HQ.o];rw[aa.o,←aM.o,←aL.o,←HQ.o];exact⟨HF.o,aw⟩
           refine⟨j+1,O,Zn,?_,(bo.o.setCell (p:=⟨gs,ii,none⟩) (Nat.le_refl _) _).setCell (p:=⟨gs+1,ii,none⟩) (Nat.le_succ _) _⟩;rw[e];exact bn.o.r.set ae _ _
          case measure=>simp[intOf];omega
         ·go_wp2_with fail;go_roundw;case rel=>
           have e:J4 k (f,c) T (j+1)=J4 k (f,c) T j:=by
            rw[J4,if_neg];rw[aa.o,←aM.o,←aL.o,←HQ.o];exact fun h=>aw h.2
           refine⟨j+1,O,Zn,?_,bo.o⟩;rw[e];exact bn.o
          case measure=>simp[intOf];omega
        ·go_wp2_with fail;go_quiet (fail);go_wp2_with fail;go_roundw;case rel=>
          have e:J4 k (f,c) T (j+1)=J4 k (f,c) T j:=by
           rw[J4,if_neg];rw[aa.o];exact fun h=>by have:=h.1.2;simp only at this;omega
          refine⟨j+1,O,Zn,?_,B3 ab.o _⟩;rw[e];exact av.o.other rfl rfl
         case measure=>simp[intOf];omega
       ·have cP:decide (s<c)=false:=decide_eq_false h1;go_wp2_with fail;go_quiet (fail);go_wp2_with fail;go_roundw;case rel=>
         have e:J4 k (f,c) T (j+1)=J4 k (f,c) T j:=by
          rw[J4,if_neg];rw[aa.o];exact fun h=>by have:=h.1.1;simp only at this;omega
         refine⟨j+1,O,Zn,?_,B3 ab.o _⟩;rw[e];exact av.o.other rfl rfl
        case measure=>simp[intOf];omega
      ·have bZ:j=ii:=O;subst bZ;have ax:=HT.o j ae;rw[bT.o]at ax;have ay:(T.getD j E8).q=(J4 k x T j).1:=by rw[ax]
       have aP:(T.getD j E8).p=(J4 k x T j).2:=by rw[ax]
       obtain⟨qi,aQ⟩:=A8 ((T.getD j E8).q);obtain⟨sb,Y⟩:=A8 ((T.getD (X7 T j) E8).q);have cb:=K.here.1;rw[←ay,←aQ]at cb;have cc:X7 T j<b∧wr.cell? ⟨gs,X7 T j,none⟩=some (I J sb):=by
        by_cases cd:0<j
        ·have:=Z3 T j cd;refine⟨O,?_⟩;rw[Y];exact(K.r.cells _ this).1
        ·have ce:j=0:=O;subst ce;refine⟨by simp[X7];omega,?_⟩;have:X7 T 0=0:=rfl;rw[Y,this,ay];exact K.here.1
       have bp:Hd (DpR wr gs b (j+1) T):=K.next ay aP;have ab:=A4 aj;obtain⟨cf,cg⟩:=cc;have br:=A4 Y;have bs:=A4 aQ;obtain⟨A,af⟩:=A8 (X7 T j);have ch:=A4 af;rw[←af]at cf cg⊢;have cR:(A:Int)<b:=O;clear ax ay aP aQ Y K aj af;by_cases aw:sb<qi
       ·go_wp2_with fail;go_quiet (fail);go_wp2_with fail;go_roundw;case rel=>
         refine⟨j+1,O,?_,Zn,?_,B3 ab.o _⟩
         ·have:X7 T (j+1)=j:=by
           rw[X7,if_pos];rw[←br.o,←bs.o];exact aw
          rw[this]
         ·obtain⟨cs,ca,h⟩:=bp.o;exact⟨cs,ca,h⟩
        case measure=>simp[intOf];omega
       ·go_wp2_with fail;go_quiet (fail);go_wp2_with fail;go_roundw;case rel=>
         refine⟨j+1,O,?_,Zn,?_,B3 ab.o _⟩
         ·have:X7 T (j+1)=A:=by
           rw[X7,if_neg,ch.o];rw[←br.o,←bs.o];omega
          rw[this]
         ·obtain⟨cs,ca,h⟩:=bp.o;exact⟨cs,ca,h⟩
        case measure=>simp[intOf];omega
    ·have ci:ii=b:=O;subst ci;have aR:=Z3 T ii bc;obtain⟨A,af⟩:=A8 (X7 T ii);rw[←af]at ag aR⊢;have bt:Hd (∀i,i<ii→(T.getD i E8).p<i):=fun i hi=>(ai.o i hi).2.2.2;have cj:Hd (bk T ii A=bk T (A+1) A):=A0k T ii bt.o (A+1) A O O ii O;have an:=A4 D;have H:=A4 G;have bu:w0.heap.size≤gs:=by rw[bf.o];exact be.o.size
     have cS:=D.lt;clear af D G;go_wp2_with fail;go_loopw [15,16] (fun ov pv wx=>∃(p:Int) (C:List (Int×Int)),pv=I J p∧-1≤p∧p<ii∧C.length+(p+1).toNat≤ii∧Hd ((bk T (p+1).toNat p).reverse++C=(bk T ii A).reverse)∧wx.ownsRow gs 119 2 ov C.length (A9 C)∧DpR wx gs ii ii T∧Below gs w1 wx) (fun _ pv _=>(intOf pv+1).toNat);case atStart=>
      refine⟨A,[],rfl,O,O,Zo,?_,World.ownsRow_nil _ _ _ _,an.o,H.o⟩;show _=_;rw[cj.o,List.append_nil];congr 2
     case round=>
      obtain⟨p,C,rfl,aP,cT,ck,HC,ac,D,G⟩:=hrel;clear an H;by_cases cU:0≤p
      ·obtain⟨l,rfl⟩:∃l:Nat,p=l:=⟨p.toNat,O⟩;have bw:l<S.length:=by rw[←aB.o];omega
       obtain⟨N,R⟩:=aC.o l bw;rw[←G.cell aD]at N R;have cp:=(D.cells l O).2;obtain⟨y,X⟩:=A8 (S[l]);have aa:Hd ((T.getD l E8).a=y):=by
        show(T.getD l E8).a=y;rw[HT.o l O,X];simp[bw]
       rw[←X]at N R;obtain⟨z,s⟩:=y;simp only at N R;obtain⟨pp,ap⟩:=A8 ((T.getD l E8).p);rw[←ap]at cp;have cl:=ai.o l O;rw[←ap]at cl;have cV:=A4 ap;have bx:Hd (bk T ((l:Int)+1).toNat l=(z,s)::bk T (pp+1).toNat pp):=by
        show _=_;have e1:((l:Int)+1).toNat=l+1:=O;rw[e1];show(if (l:Int)<0 then [] else _)=_;rw[if_neg O,Int.toNat_natCast,aa.o,←ap];congr 1;exact A0k T ii bt.o (pp+1).toNat pp O O l O
       have cW:(l:Int)<ii:=O;have cm:=D.lt;have aS:=A4 ac;have an:=A4 D;have H:=A4 G;have aT:(wr.alloc (.cells #[I J z,I J s] 119)).ownsRow gs 119 2 (.slice (some ⟨wr.heap.size,0,none⟩) 1 1) 1 [I J z,I J s]:=World.ownsRow_lit wr #[I J z,I J s] 1 O (by unfold maxLen;omega) rfl;clear X ap D G;rcases ac.2 with⟨aq,cn⟩|⟨g',cap',cur,aq,cX,aU,cr,cY,ct,bz⟩
       ·subst aq;have cu:C=[]:=List.eq_nil_of_length_eq_zero cn;have cZ:=run_append_owned_none (P:=Tryz.prog) (wr.alloc (.cells #[I J z,I J s] 119)) gs 115 115 119 i0 2 Tryz.underlying115 aX _ 1 _ aT;clear ac;go_wp2_with fail;go_roundw;case rel=>
         refine⟨pp,[(z,s)],rfl,O,O,Zo,?_,aT,?_,H.o.alloc O _⟩
         ·show _=_;rw[←HC.o,bx.o,cu];simp
         ·obtain⟨cs,ca,a1,a2,h3⟩:=an.o;exact⟨cs,ca,(Below.heap_alloc _ _ _ O).trans a1,(Below.heap_alloc _ _ _ O).trans a2,h3⟩
        case measure=>simp[intOf];omega
       ·subst aq;have bA:∀j u,(A9 C)[j]?=some u→(wr.alloc (.cells #[I J z,I J s] 119)).cell? ((⟨g',0,none⟩:Addr).add j)=some u:=by
         intro j u B;rw[Addr.add_lit,Nat.zero_add];refine A1 ((Below.heap_alloc _ _ _ (lt_of_block aU)).trans aU) ?_;rw[←bz,List.getElem?_take]at B;split at B
         ·simpa using B
         ·exact absurd B Zs
        have cv:=A4 bA;clear ac bA;obtain⟨m,hm⟩:=A8 C.length;have HM:=A4 hm;rw[←hm]at ck aS cr⊢;clear hm bz ct aU;have bB:gs+1≠wr.heap.size:=O;have cw:gs≠wr.heap.size:=O;go_wp2_with (at_builtin;go_must (refine wpList_append_own _ rfl (.tmp 166) (.tmp 167) 115 rfl gs 119 i0 _ 2 16 Tryz.underlying115 aX bF bG bH rfl Z _ 1 _ rfl aT ⟨g',0,none⟩ m cap' (A9 C) rfl (by rw[M0,HM.o]) cv.o (A6w C) (by unfold maxLen;omega) O Zo ?_;intro v' w5 bC az da;obtain⟨db,c5,cx⟩:=(A3.of_ownsRow bC (Nat.le_refl _)).shape;subst cx;have dc:w5.cell? ⟨gs+1,l,none⟩=some (I J pp):=(World.cell?_of_block (az.block (gs+1) (Nat.lt_trans cm Zs) (fun h=>bB (Option.some.inj h)))).trans ((World.cell?_of_block (Below.heap_alloc _ _ (gs+1) O)).trans cp)));go_roundw;case rel=>
         refine⟨pp,(z,s)::C,rfl,O,O,by rw[List.length_cons,←HM.o];omega,?_,?_,?_,?_⟩
         ·show _=_;rw[←HC.o,bx.o];simp
         ·have:((z,s)::C).length=1+m:=by rw[List.length_cons,HM.o];omega
          rw[this];exact bC
         ·obtain⟨cs,ca,a1,a2,h3⟩:=an.o;refine⟨cs,ca,?_,?_,h3⟩
          ·rw[az.block gs Zo (fun h=>cw (Option.some.inj h))];exact(Below.heap_alloc _ _ _ O).trans a1
          ·rw[az.block (gs+1) Zo (fun h=>bB (Option.some.inj h))];exact(Below.heap_alloc _ _ _ O).trans a2
         ·exact(H.o.alloc O _).grown az Zo (fun q hq=>by have h2:wr.heap.size=q:=Option.some.inj hq;omega)
        case measure=>simp[intOf];omega
      ·have cy:p=-1:=O;subst cy;have cq:=(D.cells A aR).1;obtain⟨q,hq⟩:=A8 ((T.getD A E8).q);rw[←hq]at cq;have aV:=ai.o A aR;rw[←hq]at aV;have dd:q≤20000:=by
        have h1:=aV.2.1;have:4*k*((A:Int)+1)≤48*401:=Int.mul_le_mul O O O O;omega
       have de:floatOfInt .f64 q=fq (4*q):=I8 q (by
        have:(1048576:Nat)≤2^50:=Z;omega)
       have df:∀W t,(binOp .quo t (.float .f64 (fq (4*q))) (.float .f64 4616189618054758400)).run Tryz.prog W=.ok (.float .f64 (fq q)) W:=fun W t=>
        run_float_arith W .quo t .f64 _ _ _ (by
         have:=A6z q 2 O (by
          have:(1048576:Nat)≤2^50:=Z;omega)
         exact this)
       have bD:C=(bk T ii A).reverse:=by
        have:=HC.o;simpa[bk] using this
       have HQ:Hd (chQ k L=q):=by rw[hq];exact ag.o.2
       have cz:Hd (L8 k L=C):=by rw[bD];exact ag.o.1
       have dg:(A:Int)<ii:=O;obtain⟨ao,co,aq⟩:=(A3.of_ownsRow ac (Nat.le_refl _)).shape;subst aq;have aS:=A4 ac;have H:Hd (Below w0.heap.size w0 wr):=be.o.trans (G.mono bu);clear ac G D hq aV bD;go_wp2_with fail;go_quiet (fail);go_wp2_with fail;go_ret3;refine⟨.slice ao C.length co,by rw[HQ.o];rfl,B3 H.o _,?_⟩;rw[cz.o];exact(A3.of_ownsRow aS.o bu).other (fun _ _ _=>rfl)
end
end Mn
end Go.Proofs.YtilcmkiihefkkaaGreatDoor
