import Derived.Test.YtilcmkiihefkkaaGreatDoorJl14
set_option linter.unusedVariables false
set_option linter.unusedSimpArgs false
set_option maxRecDepth 1000000
set_option maxHeartbeats 64000000
open Go.Value renaming int→I
open Go.IntKind renaming i64→J
namespace Go.Proofs.YtilcmkiihefkkaaGreatDoor
namespace Mn
section
open Go.RowKit
def T2 (b:Option W3):W3:=b.getD ⟨0,0,false⟩
theorem A3s (s:ByteArray)(k W:Nat)(w:World)(hs:s.size≤4398046510000)(aj:1≤k)(aH:k≤12)(ak:1≤W)(bE:W≤20) :
 Calls Tryz.prog 69 #[.string s,I J k,I J W] w fun e w'=>
  ((good s∧∃pv,e=.returned (.tuple #[pv,I J 0])∧A3 w' w.heap.size 114 3 pv (M0 k W (nums s.data.toList) (s.size+1-k)).M.length (A6 (M0 k W (nums s.data.toList) (s.size+1-k)).M))∨(¬good s∧e=.returned (.tuple #[.slice none 0 0,I J 2])))∧Below w.heap.size w w':=by
 obtain⟨i0,hi,bd,be,bf⟩:=info_parts Tryz.info114;obtain⟨i4,bg,bh,bi,bj⟩:=info_parts Tryz.info4;obtain⟨a,ha⟩:=A8 (nums s.data.toList);have aI:a.length=s.size:=by rw[ha];simp[nums]
 have C:=A4 aI;have aJ:=A4 ha;rw[←ha];clear aI ha;go_enter Tryz.func69,Tryz.ntmps69;go_wp2_with fail;refine(A0h s w O).mono ?_;rintro e w' ⟨h,rfl⟩;rcases h with⟨hg,rfl⟩|⟨hb,rfl⟩
 ·have HG:=A4 hg;clear hg;go_wp2_with (at_make;refine wpList_make_full _ rfl _ _ 197 rfl w'.heap.size 4 i4 (.bool false) 1 Tryz.underlying197 bg bh bi .i64 .i64 s.size s.size s.size rfl rfl rfl rfl (by rw[bj];omega) (by unfold maxLen;omega) Zs ?_;intro w1 P aK);obtain⟨bk,al,aL,aM⟩:∃cs,w1.heap[w'.heap.size]?=some (.cells cs 4 (0,0))∧cs.size=s.size∧∀p,p<s.size→cs[p]?=some (Value.bool false):=by
   rcases P.2 with⟨h,_⟩|⟨g,cap,cur,h,_,hg,_,_,hc,ht⟩
   ·simp at h
   ·simp only[Value.slice.injEq,Option.some.injEq,Addr.mk.injEq,and_true,true_and]at h;obtain⟨rfl,rfl⟩:=h;refine⟨cur,hg,by simpa using hc,fun p S=>?_⟩;have e1:(madeCells (Value.bool false).cells (s.size*1)).toList=List.replicate s.size (.bool false):=by
     rw[Nat.mul_one];exact toList_madeCells_one _ _
    rw[e1]at ht;have:(cur.toList.take (s.size*1))[p]?=some (.bool false):=by rw[ht,List.getElem?_replicate,if_pos S]
    rw[List.getElem?_take,if_pos O]at this;simpa using this
  have aN:Below w'.heap.size w' w1:=(Below.refl _ w').grown aK (Nat.le_refl _) (fun j hj=>by cases hj);have bl:w'.heap.size<w1.heap.size:=lt_of_block al;have bm:Hd (StJ a k W w'.heap.size 0 w1):=by
   refine⟨bk,fun _=>false,fun i hi=>absurd hi O,al,by rw[C.o];exact aL,fun p S=>aM p (by rw[←C.o];exact S),fun p=>?_⟩;constructor
   ·intro h;simp at h
   ·intro ⟨i,hi,_⟩;omega
  clear P aK al aL aM;go_loopw [10] (fun i wr=>∃m:Nat,i=I J m∧m≤s.size+1∧StJ a k W w'.heap.size m wr∧Below w'.heap.size w' wr) (fun i _=>s.size+2-(intOf i).toNat);case atStart=>exact⟨0,rfl,O,bm.o,aN⟩
  case round=>
   obtain⟨m,rfl,bF,T,aO⟩:=hrel;have aP:=A4 T;have HB:=A4 aO;have bn:w'.heap.size<wr.heap.size:=by
    obtain⟨cs,f,_,h2,_⟩:=T;exact lt_of_block h2
   clear T aO aN bl;obtain⟨w7,bo⟩:=A8 wr;subst bo;by_cases am:m+k+W-1≤s.size
   ·have bp:(m:Int)+k+W-1≤s.size:=O;have bG:Hd (w7.heap.size=w7.heap.size):=rfl;go_wp2;go_loopw [12,13,14] (fun fd wh j wx=>∃q c:Nat,q≤W∧j=I J c∧c=m+q∧wh=.bool (N3 a k m q)∧fd=.bool (C9 a k m q).isSome∧wx.heap[w7.heap.size]?=some (.cells #[I J (T2 (C9 a k m q)).h,I J (T2 (C9 a k m q)).p,.bool (T2 (C9 a k m q)).b] 114 (0,0))∧wx.heap[w'.heap.size]?=w7.heap[w'.heap.size]?∧Below w'.heap.size w' wx) (fun _ _ j _=>m+W+1-(intOf j).toNat);case atStart=>exact⟨0,m,Nat.zero_le _,rfl,rfl,rfl,rfl,heap_alloc_new w7 _,Below.heap_alloc _ _ _ bn,HB.o.alloc HB.o.size _⟩
    case round=>
     obtain⟨q,c,hq,rfl,an,rfl,rfl,ao,aQ,aR⟩:=hrel;have z:=A4 an;have bH:m≤c:=O;have bI:c≤m+W:=O;have V:=A4 ao;have af:=A4 aQ;have Y:=A4 aR;have ap:w7.heap.size<wr.heap.size:=lt_of_block ao;have X:=A5I a k m q;clear an ao aQ aR;by_cases bJ:q<W
     ·have bq:(c:Int)<(m:Int)+W:=by have:=z.o;omega
      go_wp2_with fail;refine(A34 s c k _ hs aj aH (by have:=z.o;omega) HG).mono ?_;rintro e d ⟨h8,n⟩;rw[←aJ.o,z.o]at h8;rcases h8 with⟨G,rfl⟩|⟨G,aa,rfl⟩|⟨x,aa,rfl⟩
      ·have D:Hd (N3 a k m (q+1)=false):=by show _=_;rw[X,G];simp
       have l:Hd (C9 a k m (q+1)=C9 a k m q):=by
        show _=_;have:E4 a k (m+q)=none:=by unfold E4;rw[if_neg (by rw[G];simp)]
        rw[C9,this]
       have Q:=n.block w7.heap.size ap;have R:d.heap[w7.heap.size]?=some (.cells #[I J (T2 (C9 a k m q)).h,I J (T2 (C9 a k m q)).p,.bool (T2 (C9 a k m q)).b] 114 (0,0)):=Q.trans V.o;have H:Hd (d.heap[w'.heap.size]?=w7.heap[w'.heap.size]?):=(n.block w'.heap.size O).trans af.o;have t:Hd (Below w'.heap.size w' d):=Y.o.trans (n.mono O);have aq:=n.size;have A:w7.heap.size<d.heap.size:=O;have r:=A4 R;have K:Hd (w'.heap.size<d.heap.size):=by show _<_;omega
       clear Q n R;clear X G;generalize N3 a k m q=b at *;generalize L:(C9 a k m q).isSome=fd at *;cases b;all_goals go_wp2
       all_goals go_roundw
       case rel=>exact⟨q+1,c+1,O,Zn,by have:=z.o;omega,by rw[D.o],by rw[l.o,L],by rw[l.o];exact(Below.heap_alloc _ _ _ A).trans r.o,(Below.heap_alloc _ _ _ K.o).trans H.o,t.o.alloc t.o.size _⟩
       case measure=>simp[intOf];omega
       case rel=>exact⟨q+1,c+1,O,Zn,by have:=z.o;omega,by rw[D.o],by rw[l.o,L],by rw[l.o];exact(Below.heap_alloc _ _ _ A).trans r.o,(Below.heap_alloc _ _ _ K.o).trans H.o,t.o.alloc t.o.size _⟩
       case measure=>simp[intOf];omega
      ·have D:Hd (N3 a k m (q+1)=N3 a k m q):=by show _=_;rw[X,G];simp
       have l:Hd (C9 a k m (q+1)=C9 a k m q):=by
        show _=_;rw[C9,aa]
       have Q:=n.block w7.heap.size ap;have R:d.heap[w7.heap.size]?=some (.cells #[I J (T2 (C9 a k m q)).h,I J (T2 (C9 a k m q)).p,.bool (T2 (C9 a k m q)).b] 114 (0,0)):=Q.trans V.o;have H:Hd (d.heap[w'.heap.size]?=w7.heap[w'.heap.size]?):=(n.block w'.heap.size O).trans af.o;have t:Hd (Below w'.heap.size w' d):=Y.o.trans (n.mono O);have aq:=n.size;have A:w7.heap.size<d.heap.size:=O;have r:=A4 R;have K:Hd (w'.heap.size<d.heap.size):=by show _<_;omega
       clear Q n R;clear X G aa;generalize ae:N3 a k m q=b at *;have br:=A4 ae;clear ae;generalize L:(C9 a k m q).isSome=fd at *;cases b;all_goals go_wp2
       all_goals go_roundw
       case rel=>exact⟨q+1,c+1,O,Zn,by have:=z.o;omega,by rw[D.o],by rw[l.o,L],by rw[l.o];exact(Below.heap_alloc _ _ _ A).trans r.o,(Below.heap_alloc _ _ _ K.o).trans H.o,t.o.alloc t.o.size _⟩
       case measure=>simp[intOf];omega
       case rel=>exact⟨q+1,c+1,O,Zn,by have:=z.o;omega,by rw[D.o],by rw[l.o,L],by rw[l.o];exact(Below.heap_alloc _ _ _ A).trans r.o,(Below.heap_alloc _ _ _ K.o).trans H.o,t.o.alloc t.o.size _⟩
       case measure=>simp[intOf];omega
      ·have G:=H6 aa;have D:Hd (N3 a k m (q+1)=N3 a k m q):=by show _=_;rw[X,G];simp
       have ar:=A4 aa;have Q:=n.block w7.heap.size ap;have R:d.heap[w7.heap.size]?=some (.cells #[I J (T2 (C9 a k m q)).h,I J (T2 (C9 a k m q)).p,.bool (T2 (C9 a k m q)).b] 114 (0,0)):=Q.trans V.o;have H:Hd (d.heap[w'.heap.size]?=w7.heap[w'.heap.size]?):=(n.block w'.heap.size O).trans af.o;have t:Hd (Below w'.heap.size w' d):=Y.o.trans (n.mono O);have aq:=n.size;have A:w7.heap.size<d.heap.size:=O;have r:=A4 R;have K:Hd (w'.heap.size<d.heap.size):=by show _<_;omega
       clear Q n R;clear X G aa;have e0:∀o,(d.alloc o).cell? ⟨w7.heap.size,0,none⟩=some (I J (T2 (C9 a k m q)).h):=fun o=>A1 ((Below.heap_alloc _ _ _ A).trans r.o) rfl;have f0:∀o,(d.alloc o).frozen? ⟨w7.heap.size,0,none⟩=false:=fun o=>frozen_of_row _ _ _ _ _ ((Below.heap_alloc _ _ _ A).trans r.o);have e1:∀o v,((d.setCell ⟨w7.heap.size,0,none⟩ v).alloc o).cell? ⟨w7.heap.size,1,none⟩=some (I J (T2 (C9 a k m q)).p):=fun o v=>A1 ((Below.heap_alloc _ _ _ (by simpa using A)).trans (E1.of_setCell (i:=0) v r.o).here) rfl;have f1:∀o v,((d.setCell ⟨w7.heap.size,0,none⟩ v).alloc o).frozen? ⟨w7.heap.size,1,none⟩=false:=fun o v=>frozen_of_row _ _ _ _ _ ((Below.heap_alloc _ _ _ (by simpa using A)).trans (E1.of_setCell (i:=0) v r.o).here);have e2:∀o v v',(((d.setCell ⟨w7.heap.size,0,none⟩ v).setCell ⟨w7.heap.size,1,none⟩ v').alloc o).cell? ⟨w7.heap.size,2,none⟩=some (.bool (T2 (C9 a k m q)).b):=fun o v v'=>A1 ((Below.heap_alloc _ _ _ (by simpa using A)).trans ((E1.of_setCell (i:=0) v r.o).setCell (i:=1) v').here) rfl;have f2:∀o v v',(((d.setCell ⟨w7.heap.size,0,none⟩ v).setCell ⟨w7.heap.size,1,none⟩ v').alloc o).frozen? ⟨w7.heap.size,2,none⟩=false:=fun o v v'=>frozen_of_row _ _ _ _ _ ((Below.heap_alloc _ _ _ (by simpa using A)).trans ((E1.of_setCell (i:=0) v r.o).setCell (i:=1) v').here);have E:Hd (E1 d (((d.setCell ⟨w7.heap.size,0,none⟩ (I J x.h)).setCell ⟨w7.heap.size,1,none⟩ (I J x.p)).setCell ⟨w7.heap.size,2,none⟩ (.bool x.b)) w7.heap.size (.cells #[I J x.h,I J x.p,.bool x.b] 114 (0,0))):=
        ((E1.of_setCell _ r.o).setCell _).setCell _
       have F:Hd (∀W8,E1 d W8 w7.heap.size (.cells #[I J x.h,I J x.p,.bool x.b] 114 (0,0))→∀o,(W8.alloc o).heap[w7.heap.size]?=some (.cells #[I J x.h,I J x.p,.bool x.b] 114 (0,0))∧(W8.alloc o).heap[w'.heap.size]?=w7.heap[w'.heap.size]?∧Below w'.heap.size w' (W8.alloc o)):=fun W8 hu o=>by
        have au:w'.heap.size≠w7.heap.size:=O;have aS:=K.o;have h1:=hu.size;have aT:=t.o.trans (hu.below (B:=w'.heap.size) O);exact⟨(Below.heap_alloc _ _ _ O).trans hu.here,(Below.heap_alloc _ _ _ O).trans ((hu.other _ au).trans H.o),aT.alloc aT.size _⟩
       generalize ae:N3 a k m q=b at *;have br:=A4 ae;clear ae;cases u:C9 a k m q with
       |none=>
        have l:Hd (C9 a k m (q+1)=some x):=by
         show _=_;rw[C9,ar.o,u]
        rw[u]at e0 e1 e2;have L:(none:Option W3).isSome=false:=rfl;clear u;cases b;all_goals go_wp2
        all_goals go_roundw
        case rel=>exact⟨q+1,c+1,O,Zn,by have:=z.o;omega,by rw[D.o],by rw[l.o];rfl,by rw[l.o];exact(F.o _ E.o _).1,(F.o _ E.o _).2.1,(F.o _ E.o _).2.2⟩
        case measure=>simp[intOf];omega
        case rel=>exact⟨q+1,c+1,O,Zn,by have:=z.o;omega,by rw[D.o],by rw[l.o];rfl,by rw[l.o];exact(F.o _ E.o _).1,(F.o _ E.o _).2.1,(F.o _ E.o _).2.2⟩
        case measure=>simp[intOf];omega
       |some bb=>
        rw[u]at e0 e1 e2;have ag:T2 (some bb)=bb:=rfl;rw[ag]at e0 e1 e2;rw[u,ag]at r;have L:(some bb:Option W3).isSome=true:=rfl;by_cases ab:x.h<bb.h
        ·have l:Hd (C9 a k m (q+1)=some x):=by
          show _=_;rw[C9,ar.o,u];simp[ab]
         clear u;cases b;all_goals go_wp2
         all_goals go_roundw
         case rel=>exact⟨q+1,c+1,O,Zn,by have:=z.o;omega,by rw[D.o],by rw[l.o];rfl,by rw[l.o];exact(F.o _ E.o _).1,(F.o _ E.o _).2.1,(F.o _ E.o _).2.2⟩
         case measure=>simp[intOf];omega
         case rel=>exact⟨q+1,c+1,O,Zn,by have:=z.o;omega,by rw[D.o],by rw[l.o];rfl,by rw[l.o];exact(F.o _ E.o _).1,(F.o _ E.o _).2.1,(F.o _ E.o _).2.2⟩
         case measure=>simp[intOf];omega
        ·have l:Hd (C9 a k m (q+1)=some bb):=by
          show _=_;rw[C9,ar.o,u];simp[ab]
         clear u;cases b;all_goals go_wp2
         all_goals go_roundw
         case rel=>exact⟨q+1,c+1,O,Zn,by have:=z.o;omega,by rw[D.o],by rw[l.o];rfl,by rw[l.o];exact(Below.heap_alloc _ _ _ A).trans r.o,(Below.heap_alloc _ _ _ K.o).trans H.o,t.o.alloc t.o.size _⟩
         case measure=>simp[intOf];omega
         case rel=>exact⟨q+1,c+1,O,Zn,by have:=z.o;omega,by rw[D.o],by rw[l.o];rfl,by rw[l.o];exact(Below.heap_alloc _ _ _ A).trans r.o,(Below.heap_alloc _ _ _ K.o).trans H.o,t.o.alloc t.o.size _⟩
         case measure=>simp[intOf];omega
     ·obtain rfl:q=W:=O;have aU:Hd (N3 a k m q=true↔A3R a k q (m+q-1)):=A7s a k m q ak;have bq:¬(c:Int)<(m:Int)+q:=by have:=z.o;omega
      have ah:Hd (StJ a k q w'.heap.size m wr):=aP.o.keep af.o;clear X;generalize N3 a k m q=b at *;cases b with
      |false=>
       have av:Hd (∀x,¬I2 a k q (m+q-1) x):=fun x hx=>by
        have:=aU.o.2 hx.1;simp at this
       generalize (C9 a k m q).isSome=fd at *;go_wp2;go_roundw;case rel=>exact⟨m+1,Zn,O,ah.o.stepN (by rw[C.o];exact am) av.o,Y.o⟩
       case measure=>simp[intOf];omega
      |true=>
       have aw:=aU.o.1 rfl;have ai:=A4R a k q m ak aw;cases u:C9 a k m q with
       |none=>
        have av:Hd (∀x,¬I2 a k q (m+q-1) x):=ai.1 u;have L:(none:Option W3).isSome=false:=rfl;clear u ai aw V;go_wp2;go_roundw;case rel=>exact⟨m+1,Zn,O,ah.o.stepN (by rw[C.o];exact am) av.o,Y.o⟩
        case measure=>simp[intOf];omega
       |some x=>
        have T:=ai.2 x u;have L:(some x:Option W3).isSome=true:=rfl;have ag:T2 (some x)=x:=rfl;rw[u,ag]at V;have aV:∃N:Nat,x.p=N∧N<s.size:=by
         obtain⟨_,i,h1,h2,h3,_⟩:=T;have:=E9 h3;have hl:=((A16 a k i).1 (H6 h3)).1;rw[C.o]at hl;exact⟨i,this,O⟩
        obtain⟨N,ax,aW⟩:=aV;have HX:Hd (I2 a k q (m+q-1) x∧x.p=N):=⟨T,ax⟩;have bK:(N:Int)<s.size:=O;have c1:wr.cell? ⟨w7.heap.size,1,none⟩=some (I J N):=by rw[←ax];exact A1 V.o rfl
        obtain⟨fv,ay,bL⟩:∃fv,wr.cell? ⟨w'.heap.size,N,none⟩=some fv∧wr.frozen? ⟨w'.heap.size,N,none⟩=false:=by
         obtain⟨cs,f,_,h2,_,h4,_⟩:=ah.o;exact⟨_,A1 h2 (h4 N (by rw[C.o];exact aW)),frozen_of_row _ _ _ _ _ h2⟩
        clear u ai aw V T ax;go_wp2;go_roundw;case rel=>exact⟨m+1,Zn,O,ah.o.stepS (by rw[C.o];exact am) HX.o.1 HX.o.2 (by rw[C.o];exact aW),Y.o.setCell (Nat.le_refl _) _⟩
        case measure=>simp[intOf];omega
   ·have bp:¬(m:Int)+k+W-1≤s.size:=O;obtain⟨cs,f,aX,aY,bs,aZ,az⟩:=aP.o;have bt:Hd ((M0 k W a (s.size+1-k)).M=Q7 a k f s.size):=by
     show _=_;have:=A6I a k W aj ak f m (by rw[C.o];omega) aX az;rwa [C.o]at this
    have bu:Hd (∀p,f p=true→∃x,E4 a k p=some x∧p+k≤s.size):=fun p S=>by
     obtain⟨i,hi,x,⟨_,j,_,_,h3,_⟩,aV⟩:=(az p).1 S;have:=E9 h3;have bv:j=p:=O;subst bv;have hl:=((A16 a k j).1 (H6 h3)).1;rw[C.o]at hl;exact⟨x,h3,hl⟩
    have bw:=A4 aY;have bx:Hd (∀p,p<s.size→cs[p]?=some (.bool (f p))):=fun p S=>aZ p (by rw[C.o];exact S);clear aX aY bs aZ az;go_wp2;go_loopw [17,18] (fun v j wx=>∃c:Nat,c≤s.size∧j=I J c∧A3 wx w'.heap.size 114 3 v (Q7 a k f c).length (A6 (Q7 a k f c))∧wx.heap[w'.heap.size]?=some (.cells cs 4 (0,0))∧Below w'.heap.size w' wx) (fun _ j _=>s.size-(intOf j).toNat);case atStart=>exact⟨0,Nat.zero_le _,rfl,A3.nil _ _ _ _,bw.o,HB.o⟩
    case round=>
     obtain⟨c,an,rfl,P,aA,ba⟩:=hrel;have aB:=A4 aA;have aC:=A4 ba;have bz:w'.heap.size<wr.heap.size:=lt_of_block aA;clear aA ba;have bM:=A4V a k f c;by_cases bA:c<s.size
     ·have bN:(c:Int)<s.size:=O;have ay:wr.cell? ⟨w'.heap.size,c,none⟩=some (.bool (f c)):=A1 aB.o (bx.o c bA);have ac:=A7l a k f c;cases aD:f c with
      |false=>
       rw[aD]at ay ac;have aE:Hd (Q7 a k f (c+1)=Q7 a k f c):=by show _=_;simpa using ac
       clear ac;go_wp2;go_roundw;case rel=>exact⟨c+1,O,Zn,by rw[aE.o];exact P,aB.o,aC.o⟩
       case measure=>simp[intOf];omega
      |true=>
       obtain⟨x,hx,bB⟩:=bu.o c aD;rw[aD]at ay ac;have aE:Hd (Q7 a k f (c+1)=Q7 a k f c++[x]):=by show _=_;rw[ac,hx];rfl
       have HX:=A4 hx;clear ac hx;go_wp2_with fail;refine(A34 s c k _ hs aj aH bB HG).mono ?_;rintro e d ⟨h8,n⟩;rw[←aJ.o]at h8;obtain rfl:e=.returned (.tuple #[.agg #[I J x.h,I J x.p,.bool x.b],I J 2]):=by
        rcases h8 with⟨h,_⟩|⟨_,h,_⟩|⟨y,hy,h⟩
        ·have:=H6 HX.o;rw[h]at this;simp at this
        ·rw[HX.o]at h;simp at h
        ·rw[HX.o]at hy;cases hy;exact h
       clear h8;have aF:A3 d w'.heap.size 114 3 u17 (Q7 a k f c).length (A6 (Q7 a k f c)):=P.other (fun g _ ab=>n.block g ab);have aG:Hd (d.heap[w'.heap.size]?=some (.cells cs 4 (0,0))):=(n.block _ bz).trans aB.o;have r:Hd (Below w'.heap.size w' d):=aC.o.trans (n.mono O);have aq:=n.size;clear n P;generalize bO:Q7 a k f c=LL at *;go_wp2_with (at_builtin;refine B6 _ rfl (.tmp 113) (.tmp 115) 110 rfl 114 i0 _ 3 24 Tryz.underlying110 hi bd be bf rfl Z w'.heap.size _ LL.length (A6 LL) rfl (by exact aF.other (fun g _ ab=>by rw[Below.heap_alloc _ _ _ Zo,Below.heap_alloc _ _ _ ab])) ⟨d.heap.size+1,0,none⟩ 1 [I J x.h,I J x.p,.bool x.b] rfl rfl (by exact V6 _ x _ Zs) (J0 x) (by unfold maxLen;omega) O Zo ?_;intro g' o' cap' w9 bC ad);go_roundw;case rel=>
        have aS:=lt_of_block aG.o;have bc:∀q,q<d.heap.size→w9.heap[q]?=((d.alloc (.cells #[I J x.h,I J x.p,.bool x.b] 114)).alloc (.cells #[I J x.h,I J x.p,.bool x.b] 114)).heap[q]?→w9.heap[q]?=d.heap[q]?:=fun q hq h=>by
         rw[h,Below.heap_alloc _ _ _ Zo,Below.heap_alloc _ _ _ hq]
        have au:u17.ownBlock≠some w'.heap.size:=aF.tag Z aG.o;have bD:=ad.size;simp at bD;refine⟨c+1,O,Zn,?_,?_,r.o.trans ?_⟩
        ·rw[aE.o,L5,List.length_append];exact bC
        ·exact(bc _ aS (ad.other _ Zo au)).trans aG.o
        ·refine⟨ad.os,ad.tape,ad.output,O,fun q hq=>?_⟩;exact bc q O (ad.other q Zo (fun he=>by have:=(aF.lt he).1;omega))
       case measure=>simp[intOf];omega
     ·obtain rfl:c=s.size:=O;have HO:Hd (A3 wr w'.heap.size 114 3 u17 (M0 k W a (s.size+1-k)).M.length (A6 (M0 k W a (s.size+1-k)).M)):=by
       show A3 _ _ _ _ _ _ _;rw[bt.o];exact P
      clear P;go_wp2;go_ret2;exact⟨Or.inl ⟨HG.o,_,rfl,HO.o⟩,aC.o⟩
 ·have HB:=A4 hb;clear hb;go_wp2;go_ret2;exact⟨Or.inr ⟨HB.o,rfl⟩,Below.refl _ _⟩
end
end Mn
end Go.Proofs.YtilcmkiihefkkaaGreatDoor
