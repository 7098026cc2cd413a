import Derived.Test.YtilcmkiihefkkaaGreatDoorJl42
import Derived.Test.YtilcmkiihefkkaaGreatDoorJl46
set_option linter.unusedVariables false
set_option linter.unusedSimpArgs false
set_option maxRecDepth 1000000
set_option maxHeartbeats 64000000
open Go.Value renaming int→I
open Go.IntKind renaming i64→J
namespace Go.Proofs.YtilcmkiihefkkaaGreatDoor
namespace Mn
section
open Go.RowKit
def rfN (l:List UInt8):List UInt8:=(l.drop 1).take (J4 (l.take 1))
def rfL (l:List UInt8):List UInt8:=(l.drop 1).drop (J4 (l.take 1))
def rfB (l:List UInt8):List UInt8:=((rfL l).drop 2).take (J4 ((rfL l).take 2))
def rfR (l:List UInt8):List UInt8:=((rfL l).drop 2).drop (J4 ((rfL l).take 2))
def rfX (l:List UInt8):S2:=⟨⟨(rfN l).toArray⟩,⟨(rfB l).toArray⟩⟩
def rfT (x:S2):ByteArray:=(((⟨#[62]⟩:ByteArray)++x.n)++⟨#[10]⟩)++x.b
def A3G (l:List UInt8):Prop:=(A7 (rfT (rfX l))).1=[rfX l]
theorem A1T (l:List UInt8)(n:Nat)(a:n≤2):J4 (l.take n)<65536:=by
 have h1:=U0 (l.take n);have b:=Nat.pow_le_pow_right (show 0<256 by omega) (show(l.take n).length≤2 by rw[List.length_take];omega);omega
theorem A31 {a:ByteArray}{l:List UInt8}(h:a.data.toList=l):a=⟨l.toArray⟩:=by
 apply ByteArray.ext;rw[←h]
theorem B4d {w:World}{g:Nat}{t:TypeId}{a0 c:Value}(a b:Value)(h:w.heap[g]?=some (.cells #[a0,c] t (0,0))):E1 w ((w.setCell ⟨g,0,none⟩ a).setCell ⟨g,1,none⟩ b) g (.cells #[a,b] t (0,0)):=
 (E1.of_setCell (i:=0) a h).setCell (i:=1) b
def RfV (x:S2):Bool→Value
 |true=>.agg #[.string x.n,.string x.b]
 |false=>.agg #[.string ⟨#[]⟩,.string ⟨#[]⟩]
def RfP (l:List UInt8)(B:Nat)(w:World)(e:Ending)(w':World):Prop:=
 ∃r:Bool,(r=true↔A3G l)∧e=.returned (.tuple #[RfV (rfX l) r,.bool r])∧(∃t,RrP w' B t∧t.data.toList=rfR l)∧RrF B w w'
theorem A2Z (s:ByteArray)(B:Nat)(w:World)(h:RrP w B s)(hs:s.size≤140737488355328) :
 Calls Tryz.prog 59 #[.pointer (some ⟨B,0,none⟩)] w fun e w'=>RfP s.data.toList B w e w':=by
 obtain⟨l,z⟩:=A8 s.data.toList;have aR:=A4 z;obtain⟨t,Y⟩:=A8 (w.alloc (Obj.cells #[.string ⟨#[]⟩,.string ⟨#[]⟩] 88));have ah:Below w.heap.size w t:=by rw[Y];exact(Below.refl _ _).alloc (Nat.le_refl _) _
 have ak:t.heap[w.heap.size]?=some (.cells #[.string ⟨#[]⟩,.string ⟨#[]⟩] 88 (0,0)):=by rw[Y];exact heap_alloc_new w _
 have aG:B<w.heap.size:=lt_of_block h;have c1:=T7 s 1 B t ((ah.block B aG).trans h) O hs;have al:=A4 ak;have aH:Hd (RrF B w t):=RrF.of ah;obtain⟨n1,H⟩:=A8 (J4 (s.data.toList.take 1));have aS:n1<65536:=by rw[H];exact A1T _ 1 O
 rw[←H]at c1;obtain⟨x,hx⟩:=A8 (rfX l);have e1:(drS 1 s).data.toList=l.drop 1:=by rw[z];exact O0 1 s
 have e2:tkS n1 (drS 1 s)=x.n:=by
  rw[hx,H,←z];exact A31 (by rw[A1R,e1];rfl)
 have K:(drS n1 (drS 1 s)).data.toList=rfL l:=by rw[O0,e1,H,←z];rfl
 obtain⟨s2,L⟩:=A8 (drS n1 (drS 1 s));obtain⟨s1,aa⟩:=A8 (drS 1 s);rw[←aa]at c1 e2 L;rw[←aa,←L]at K;have am:s1.size≤140737488355328:=by rw[aa];exact Nat.le_trans (X8 _ _) hs
 have an:s2.size≤140737488355328:=by rw[L];exact Nat.le_trans (X8 _ _) am
 obtain⟨M,N⟩:=A8 (J4 (s2.data.toList.take 2));have aT:M<65536:=by rw[N];exact A1T _ 2 O
 obtain⟨A,ab⟩:=A8 (drS 2 s2);have e4:A.data.toList=(rfL l).drop 2:=by rw[ab,O0,K]
 have e5:tkS M A=x.b:=by
  rw[hx,N];exact A31 (by rw[A1R,e4,K];rfl)
 have e6:(drS M A).data.toList=rfR l:=by rw[O0,e4,N,K];rfl
 have aI:A.size≤140737488355328:=by rw[ab];exact Nat.le_trans (X8 _ _) an
 have aU:x.n.size≤65536:=by rw[←e2,A3f];omega
 have aV:x.b.size≤65536:=by rw[←e5,A3f];omega
 have HX:=A4 hx;have aJ:=A4 L;have aK:=A4 ab;have aL:=A4 N;have E2:=A4 e2;have E5:=A4 e5;have E6:=A4 e6;rw[←z];clear ah ak h H hx e1 e2 K aa L N ab e4 e5 e6 z;go_enter Tryz.func59,Tryz.ntmps59;go_wp2_with fail;rw[←Y];clear Y;refine c1.mono ?_;rintro e w1 ⟨rfl,C,ao⟩;have c2:=A05 s1 n1 B w1 C O am;rw[E2.o,←aJ.o]at c2;have ap:=A4 ao;clear C ao c1;go_wp2_with fail;refine c2.mono ?_;rintro e w2 ⟨rfl,aq,ar⟩;have c3:=T7 s2 2 B w2 aq O an;rw[←aL.o,←aK.o]at c3;have au:Hd (RrF B t w2):=ap.o.trans ar;clear aq ar c2 ap;go_wp2_with fail;refine c3.mono ?_;rintro e w3 ⟨rfl,av,aw⟩;have c4:=A05 A M B w3 av O aI;rw[E5.o]at c4;have ax:Hd (RrF B t w3):=au.o.trans aw;clear av aw c3 au;go_wp2_with fail;refine c4.mono ?_;rintro e w4 ⟨rfl,ay,az⟩;have ai:Hd (RrF B t w4):=ax.o.trans az;have ac:=A4 ay;clear ay az c4 ax;have hz:(((⟨#[62]⟩:ByteArray)++x.n)++⟨#[10]⟩).size=x.n.size+2:=by
  rw[ByteArray.size_append,ByteArray.size_append];show 1+x.n.size+1=_;omega
 have aW:((⟨#[62]⟩:ByteArray)++x.n).size=x.n.size+1:=by
  rw[ByteArray.size_append];show 1+x.n.size=_;omega
 have aX:(rfT x).size≤200000:=by unfold rfT;rw[ByteArray.size_append,hz];omega
 go_wp2_with fail;refine(A4c (rfT x) w4 O).mono ?_;rintro e a ⟨v,rfl,D,_,ad⟩;have ae:Hd (A3G l↔(A7 (rfT x)).1=[x]):=by rw[HX.o];exact Iff.rfl
 obtain⟨P,hP⟩:=A8 ((A7 (rfT x)).1);rw[←hP]at D ae;have aY:P.length≤8000:=by rw[hP];exact(L6 (rfT x)).1
 generalize (A7 (rfT x)).2.1=pe;generalize (A7 (rfT x)).2.2=pl;clear hP;obtain⟨pa,pc,rfl⟩:=D.form;have Q:=ai.o.trans (RrF.of ad);have af:a.heap[w.heap.size]?=some (.cells #[.string ⟨#[]⟩,.string ⟨#[]⟩] 88 (0,0)):=(Q.other _ (lt_of_block al.o) O).trans al.o;have ag:RrP a B (drS M A):=(ad.block B (lt_of_block ac.o)).trans ac.o;have aM:=A4 Q;have aZ:=Q.size;have aN:w.heap.size<a.heap.size:=lt_of_block af;have aj:Hd (∀(f:World) (r:Bool) (c0 c1:Value),Below a.heap.size a f→(r=true↔A3G l)→RfV (rfX l) r=.agg #[c0,c1]→
  RfP l B w (.returned (.tuple #[.agg #[c0,c1],.bool r])) ((f.setCell ⟨w.heap.size,0,none⟩ c0).setCell ⟨w.heap.size,1,none⟩ c1)∧f.heap[w.heap.size]?=some (.cells #[.string ⟨#[]⟩,.string ⟨#[]⟩] 88 (0,0))∧((f.setCell ⟨w.heap.size,0,none⟩ c0).setCell ⟨w.heap.size,1,none⟩ c1).heap[w.heap.size]?=some (.cells #[c0,c1] 88 (0,0))):=by
  intro f r c0 c1 E F hv
  have aA:=(E.block _ aN).trans af
  have u:=B4d c0 c1 aA
  refine⟨⟨r,F,by rw[hv],⟨_,?_,E6.o⟩,?_⟩,aA,u.here⟩
  ·exact(u.other B O).trans ((E.block B (lt_of_block ag)).trans ag)
  ·have R:=aH.o.trans (aM.o.trans (RrF.of E))
   exact⟨u.os.trans R.os,u.tape.trans R.tape,u.output.trans R.output,by rw[u.size];exact R.size,fun j hj hB=>(u.other j O).trans (R.other j hj hB)⟩
 have m:Below a.heap.size a (a.alloc (Obj.cells #[.string x.n,.string x.b] 88)):=(Below.refl _ _).alloc (Nat.le_refl _) _;have S:(a.alloc (Obj.cells #[.string x.n,.string x.b] 88)).heap[a.heap.size]?=some (.cells #[.string x.n,.string x.b] 88 (0,0)):=heap_alloc_new a _;obtain⟨d,T⟩:=A8 (a.alloc (Obj.cells #[.string x.n,.string x.b] 88));rw[←T]at m S;have aB:=A4 m;have b0:d.cell? ⟨a.heap.size,0,none⟩=some (.string x.n):=A1 S rfl;have b1:d.cell? ⟨a.heap.size,1,none⟩=some (.string x.b):=A1 S rfl;by_cases C:P.length=1
 ·obtain⟨y,rfl⟩:∃y,P=[y]:=by
   match P,C with
   |[y],_=>exact⟨y,rfl⟩
  obtain⟨g,o,rfl,aC⟩:∃g o,pa=some ⟨g,o,none⟩∧g<a.heap.size:=by
   rcases D.2 with⟨_,h'⟩|⟨g,o,cap,cur,h,_,hg,_⟩
   ·cases h'
   ·simp only[Value.slice.injEq]at h;exact⟨g,o,h.1,lt_of_block hg⟩
  have aD:A3 a w4.heap.size 88 2 (.slice (some ⟨g,o,none⟩) 1 pc) 1 (B3 [y]):=D;have hc:=(aD.other (w':=d) (fun g' _ aO=>m.block g' aO)).seqs 0 Zs;have a0:d.cell? ⟨g,o,none⟩=some (.string y.n):=hc.1;have a1:d.cell? ⟨g,o+1,none⟩=some (.string y.b):=hc.2;have G:=A9A y x g o pc a.heap.size d a0 a1 b0 b1;have aP:Hd (∀f,Below d.heap.size d f→f.cell? ⟨g,o,none⟩=some (.string y.n)∧f.cell? ⟨g,o+1,none⟩=some (.string y.b)):=fun f h6=>⟨(World.cell?_of_block (h6.block g (Nat.lt_of_lt_of_le aC m.size))).trans a0,(World.cell?_of_block (h6.block g (Nat.lt_of_lt_of_le aC m.size))).trans a1⟩;clear D aD hc af ag Q ad m S b0 b1 a0 a1 ac ai;go_wp2_with fail;rw[←T];clear T;refine G.mono ?_;rintro e k ⟨r,rfl,F,E⟩;have aE:Below a.heap.size a k:=aB.o.trans (E.mono aB.o.size);obtain⟨y0,y1⟩:=aP.o k E;cases r
  ·have V:¬A3G l:=fun h=>by
    have:=ae.o.1 h;rw[List.cons.injEq]at this;have:=F.2 this.1;cases this
   obtain⟨p,c,q⟩:=aj.o k false (.string ⟨#[]⟩) (.string ⟨#[]⟩) aE ⟨fun h=>by(cases h),fun h=>absurd h V⟩ rfl;have W:Hd _:=p;have X:Hd _:=q;have q0:=A1 c (i:=0) rfl;have q1:=A1 c (i:=1) rfl;have f0:k.frozen? ⟨w.heap.size,0,none⟩=false:=frozen_of_row _ _ _ _ _ c;have f1:k.frozen? ⟨w.heap.size,1,none⟩=false:=frozen_of_row _ _ _ _ _ c;clear p c q G y0 y1 F V;go_wp2_with fail;refine bodyPost_ret (D1 rfl _ _ w.heap.size 88 _ _ _ rfl X.o Tryz.underlying88 rfl U) rfl ?_;exact W.o
  ·have aQ:y=x:=F.1 rfl;subst aQ;obtain⟨p,c,q⟩:=aj.o k true (.string y.n) (.string y.b) aE ⟨fun _=>ae.o.2 rfl,fun _=>rfl⟩ (by rw[←HX.o];rfl);have W:Hd _:=p;have X:Hd _:=q;have q0:=A1 c (i:=0) rfl;have q1:=A1 c (i:=1) rfl;have f0:k.frozen? ⟨w.heap.size,0,none⟩=false:=frozen_of_row _ _ _ _ _ c;have f1:k.frozen? ⟨w.heap.size,1,none⟩=false:=frozen_of_row _ _ _ _ _ c;clear p c q G F;go_wp2_with fail;refine bodyPost_ret (D1 rfl _ _ w.heap.size 88 _ _ _ rfl X.o Tryz.underlying88 rfl U) rfl ?_;exact W.o
 ·have G:=B1g pa (some ⟨a.heap.size,0,none⟩) P.length pc 1 d C O;have V:¬A3G l:=fun h=>C (by rw[ae.o.1 h];rfl);obtain⟨p,c,q⟩:=aj.o d false (.string ⟨#[]⟩) (.string ⟨#[]⟩) m ⟨fun h=>by(cases h),fun h=>absurd h V⟩ rfl;have W:Hd _:=p;have X:Hd _:=q;have q0:=A1 c (i:=0) rfl;have q1:=A1 c (i:=1) rfl;have f0:d.frozen? ⟨w.heap.size,0,none⟩=false:=frozen_of_row _ _ _ _ _ c;have f1:d.frozen? ⟨w.heap.size,1,none⟩=false:=frozen_of_row _ _ _ _ _ c;obtain⟨pn,aF⟩:=A8 P.length;rw[←aF]at G⊢;clear p c q V aF D af ag Q ad m S b0 b1 ac ai;go_wp2_with fail;rw[←T];clear T;refine G.mono ?_;rintro e k ⟨rfl,rfl⟩;go_wp2_with fail;refine bodyPost_ret (D1 rfl _ _ w.heap.size 88 _ _ _ rfl X.o Tryz.underlying88 rfl U) rfl ?_;exact W.o
end
section
open Go.RowKit Go.Maps Go.WideMaps
def N4:Nat→List UInt8→List S2→List S2→Prop
 |0,_,acc,R=>R=acc
 |m+1,l,acc,R=>(A3G l∧¬O1 acc (rfX l).n∧N4 m (rfR l) (acc++[rfX l]) R)∨(¬(A3G l∧¬O1 acc (rfX l).n)∧R=[])
theorem N4.uniq:∀(m:Nat) (l:List UInt8) (acc R a:List S2),N4 m l acc R→N4 m l acc a→R=a
 |0,_,acc,R,a,h,b=>h.trans b.symm
 |m+1,l,acc,R,a,h,b=>by
  rcases h with⟨h1,c,d⟩|⟨h1,c⟩<;>rcases b with⟨k1,k2,f⟩|⟨k1,k2⟩
  ·exact N4.uniq m _ _ _ _ d f
  ·exact absurd ⟨h1,c⟩ k1
  ·exact absurd ⟨k1,k2⟩ h1
  ·rw[c,k2]
theorem B17 (l:List UInt8):(rfR l).length≤l.length:=by
 unfold rfR rfL;simp only[List.length_drop];omega
theorem A8r {t:ByteArray}{l:List UInt8}(h:t.data.toList=l):t.size=l.length:=by rw[←h];rfl
theorem B0O {D:DataW Unit}{L:List S2}{x:S2}{d:DataW Unit}(f:Maps.IsMap D)(g:∀s:ByteArray,Maps.has D (.string s.data.toList)=true↔O1 L s):∀s:ByteArray,Maps.has (D.put (.string x.n.data.toList) d) (.string s.data.toList)=true↔O1 (L++[x]) s:=by
 intro s;by_cases c:s=x.n
 ·subst c;exact⟨fun _=>⟨x,Zs,rfl⟩,fun _=>Maps.has_put_same f (show WideAt.IsKeyLit (.string x.n.data.toList) from trivial) d⟩
 ·have h:(Lit.string s.data.toList)≠Lit.string x.n.data.toList:=fun e=>c (by
   simp only[Lit.string.injEq]at e;exact WideShapes.bytes_inj e)
  rw[Maps.has_put_other h,g s];constructor
  ·rintro⟨y,a,b⟩;exact⟨y,by simp[a],b⟩
  ·rintro⟨y,a,b⟩;rw[List.mem_append]at a;rcases a with a|a
   ·exact⟨y,a,b⟩
   ·simp at a;subst a;exact absurd b.symm c
theorem A26 (W:World)(a b:Value)(s:Nat)(hs:s=W.heap.size):∀j u,([a,b]:List Value)[j]?=some u→(W.alloc (.cells #[a,b] 88)).cell? ((⟨s,0,none⟩:Addr).add j)=some u:=by
 intro j u c;subst hs;have h:=heap_alloc_new W (.cells #[a,b] 88);rw[Addr.add_lit,cell_of_row _ _ _ _ _ _ h];match j,c with
 |0,c=>simpa using c
 |1,c=>simpa using c
structure RsI (w:World)(B Bm N:Nat)(l0:List UInt8)(j:Nat)(v:Value)(l:List UInt8)(acc:List S2)(D:DataW Unit)(wr:World):Prop where
 rd:∃t,RrP wr B t∧t.data.toList=l
 ll:l.length≤140737488355328
 go:∀R,N4 (N-j) l acc R→N4 N l0 [] R
 al:acc.length=j
 ow:A3 wr w.heap.size 88 2 v j (B3 acc)
 mp:wr.ownsMap Tryz.prog 9 (plainElem Tryz.prog 3) Bm j D
 hs:∀s:ByteArray,Maps.has D (.string s.data.toList)=true↔O1 acc s
 fr:RrF B w wr
 lo:w.heap.size≤Bm
def RsP (l:List UInt8)(B:Nat)(w:World)(e:Ending)(w':World):Prop:=
 ∃R v,e=.returned v∧N4 (J4 (l.take 2)) (l.drop 2) [] R∧R.length≤65536∧A3 w' w.heap.size 88 2 v R.length (B3 R)∧RrF B w w'
theorem A2I (s:ByteArray)(B:Nat)(w:World)(h:RrP w B s)(hs:s.size≤140737488355328) :
 Calls Tryz.prog 25 #[.pointer (some ⟨B,0,none⟩)] w fun e w'=>RsP s.data.toList B w e w':=by
 obtain⟨i0,hi,aQ,aR,aS⟩:=info_parts Tryz.info88;have aT:=run_makeMap (P:=Tryz.prog) 141 w;obtain⟨X,Y⟩:=A8 (w.alloc (Obj.map #[] 0));have ai:Below w.heap.size w X:=by rw[Y];exact(Below.refl _ _).alloc (Nat.le_refl _) _
 have aU:B<w.heap.size:=lt_of_block h;have aE:X.ownsMap Tryz.prog 9 (plainElem Tryz.prog 3) w.heap.size 0 (.map []:DataW Unit):=by
  rw[Y];exact World.ownsMap_made w _ _ _
 have c1:=T7 s 2 B X ((ai.block B aU).trans h) O hs;obtain⟨N,hN⟩:=A8 (J4 (s.data.toList.take 2));have bi:N<65536:=by rw[hN];exact A1T _ 2 O
 rw[←hN]at c1;have HN:=A4 hN;have aj:=A4 aE;have aF:Hd (RrF B w X):=RrF.of ai;clear hN ai aE h;go_enter Tryz.func25,Tryz.ntmps25;go_wp2_with fail;rw[←Y];clear Y;refine c1.mono ?_;rintro e w1 ⟨rfl,aG,ak⟩;obtain⟨p,aa⟩:=A8 (s.data.toList.drop 2);have aH:RsI w B w.heap.size N p 0 (.slice none 0 0) p [] (.map []) w1:=by
  refine⟨⟨_,aG,by rw[aa];exact O0 2 s⟩,?_,fun R hR=>hR,rfl,A3.nil _ _ _ _,G7 aj.o (ak.other _ aj.o.lt O),fun x=>?_,aF.o.trans ak,Nat.le_refl _⟩
  ·rw[aa,List.length_drop];have:s.data.toList.length=s.size:=rfl;omega
  ·constructor
   ·intro h;simp[Maps.has]at h
   ·rintro⟨_,h,_⟩;simp at h
 have aV:=A4 aH;have ab:Hd (∀R v w',N4 N p [] R→R.length≤65536→A3 w' w.heap.size 88 2 v R.length (B3 R)→RrF B w w'→RsP s.data.toList B w (.returned v) w'):=by
  intro R v w' h1 h2 h3 h4;rw[HN.o,aa]at h1;exact⟨R,v,rfl,h1,h2,h3,h4⟩
 clear aH aG ak aa c1 aj aF aT;go_wp2_with fail;go_loopw [3,13] (fun v i wr=>∃(j:Nat) (l:List UInt8) (acc:List S2) (D:DataW Unit),j≤N∧i=.int .i64 j∧RsI w B w.heap.size N p j v l acc D wr) (fun _ i _=>N-(RowKit.intOf i).toNat);case atStart=>exact⟨0,_,_,_,Nat.zero_le _,rfl,aV.o⟩
 case round=>
  obtain⟨j,l,acc,D,hj,rfl,f⟩:=hrel;have k:=A4 f;by_cases bj:j<N
  ·obtain⟨t,ht,am⟩:=f.rd;have c2:=A2Z t B wr ht (by rw[A8r am];exact f.ll);rw[am]at c2;have an:Hd (∀R,N4 (N-(j+1)+1) l acc R→N4 N p [] R):=by
    have:=f.go;rw[show N-j=N-(j+1)+1 by omega]at this;exact this
   obtain⟨A,C,hv⟩:=f.ow.form;subst hv;have aW:(Value.slice A j C).ownBlock≠some B:=f.ow.tag Z ht;have aX:w.heap.size≠B:=O;clear f ht am;go_wp2_with fail;refine c2.mono ?_;rintro e w2 ⟨r,hr,rfl,⟨t2,aI,aJ⟩,M⟩;have bk:=M.size;have E:w2.ownsMap Tryz.prog 9 (plainElem Tryz.prog 3) w.heap.size j D:=G7 k.o.mp (M.other _ k.o.mp.lt aX);have ac:A3 w2 w.heap.size 88 2 (.slice A j C) j (B3 acc):=k.o.ow.other (fun g Q ao=>M.other g ao (fun e=>aW (by rw[Q,e])));have ap:RrF B w w2:=k.o.fr.trans M;have aq:Hd (RrP w2 B t2∧t2.data.toList=rfR l):=⟨aI,aJ⟩;have ar:=A4 ap;have bl:=A4 ac;have bm:=ap.size;clear c2 aI aJ M ap;cases r
   ·have aK:¬A3G l:=fun h=>by have:=hr.2 h;cases this
    have ad:Hd (N4 N p [] []):=an.o [] (Or.inr ⟨fun h=>aK h.1,rfl⟩);have G:=keyOf_string_mk (P:=Tryz.prog) Tryz.underlying9 (s:=⟨#[]⟩) Z;obtain⟨S,au⟩:=A8 (w2.alloc (Obj.cells #[.string ⟨#[]⟩,.string ⟨#[]⟩] 88));have H:S.heap[w2.heap.size]?=some (.cells #[.string ⟨#[]⟩,.string ⟨#[]⟩] 88 (0,0)):=by rw[au];exact heap_alloc_new w2 _
    have y:Below w2.heap.size w2 S:=by rw[au];exact(Below.refl _ _).alloc (Nat.le_refl _) _
    have q0:S.cell? ⟨w2.heap.size,0,none⟩=some (.string ⟨#[]⟩):=A1 H rfl;have K:S.ownsMap Tryz.prog 9 (plainElem Tryz.prog 3) w.heap.size j D:=G7 E (y.block _ E.lt);have F:Hd (RrF B w S):=ar.o.trans (RrF.of y);clear H y aK hr E ac;have ae:RfV (rfX l) false=.agg #[.string ⟨#[]⟩,.string ⟨#[]⟩]:=rfl;rw[ae];subst au;cases z:Maps.has D (.string (⟨#[]⟩:ByteArray).data.toList)
    ·go_wp2_with (at_lookup;refine wpList_lookup_own_ok_int _ rfl _ _ 141 rfl 9 3 .i64 A5u Tryz.underlying141 Tryz.underlying3 (A4b _) w.heap.size j D rfl K _ _ rfl G ?_;intro c av aw;rw[z]);go_ret;exact ab.o [] _ _ ad.o Zs (A3.nil _ _ _ _) F.o
    ·go_wp2_with (at_lookup;refine wpList_lookup_own_ok_int _ rfl _ _ 141 rfl 9 3 .i64 A5u Tryz.underlying141 Tryz.underlying3 (A4b _) w.heap.size j D rfl K _ _ rfl G ?_;intro c av aw;rw[z]);go_ret;exact ab.o [] _ _ ad.o Zs (A3.nil _ _ _ _) F.o
   ·have aL:A3G l:=hr.1 rfl;obtain⟨x,hx⟩:=A8 (rfX l);have aY:x.n.size≤maxLen:=by
     have h1:x.n.size=(rfN l).length:=by rw[hx];show(rfN l).toArray.size=_;simp
     have h2:=A1T l 1 O;unfold rfN at h1;rw[List.length_take]at h1;unfold maxLen;omega
    have ae:RfV (rfX l) true=.agg #[.string x.n,.string x.b]:=by rw[hx];rfl
    have HX:=A4 hx;have aZ:=A4 aL;rw[ae];have G:=keyOf_string_mk (P:=Tryz.prog) Tryz.underlying9 (s:=x.n) aY;have y:Below w2.heap.size w2 (w2.alloc (Obj.cells #[.string x.n,.string x.b] 88)):=(Below.refl _ _).alloc (Nat.le_refl _) _;have H:(w2.alloc (Obj.cells #[.string x.n,.string x.b] 88)).heap[w2.heap.size]?=some (.cells #[.string x.n,.string x.b] 88 (0,0)):=heap_alloc_new w2 _;have K:(w2.alloc (Obj.cells #[.string x.n,.string x.b] 88)).ownsMap Tryz.prog 9 (plainElem Tryz.prog 3) w.heap.size j D:=G7 E (y.block _ E.lt);have F:Hd (RrF B w (w2.alloc (Obj.cells #[.string x.n,.string x.b] 88))):=ar.o.trans (RrF.of y);have ba:Hd _:=H;have bb:=A4 y;have q0:(w2.alloc (Obj.cells #[.string x.n,.string x.b] 88)).cell? ⟨w2.heap.size,0,none⟩=some (.string x.n):=A1 H rfl;have af:=k.o.hs x.n;clear y H hr aL hx ae;cases z:Maps.has D (.string x.n.data.toList)
    ·have aM:¬O1 acc x.n:=fun h=>by rw[af.2 h]at z;cases z
     have bc:=A4 aM;obtain⟨d,bn,aN,L⟩:=K.update A5u Tryz.underlying141 (by unfold maxLen;omega) G (plainElem_int (a:=(j:Int)) Tryz.underlying3 (WalkArith.wf_i64 O));have ax:∀q,q<w2.heap.size+1→q≠w.heap.size→d.heap[q]?=(w2.alloc (Obj.cells #[.string x.n,.string x.b] 88)).heap[q]?:=fun q m T=>L.block q Zo (fun e=>T (Option.some.inj e));have bd:=E.lt;have be:w2.heap.size+1≤d.heap.size:=by have:=L.size;simp at this;exact this
     have ay:d.heap[w2.heap.size]?=some (.cells #[.string x.n,.string x.b] 88 (0,0)):=(ax _ O O).trans ba.o;have ag:∀q,q<w2.heap.size→q≠w.heap.size→d.heap[q]?=w2.heap[q]?:=fun q m T=>(ax q O T).trans (bb.o.block q m);have aO:A3 d w.heap.size 88 2 (.slice A j C) j (B3 acc):=ac.other (fun g Q ao=>ag g ao (fun e=>ac.neMap E (by rw[Q,e])));have V:Hd (RrF B w d):=⟨L.os.trans F.o.os,L.tape.trans F.o.tape,L.output.trans F.o.output,O,fun q m az=>(ag q O O).trans (ar.o.other q m az)⟩;have ah:Hd (RrP d B t2∧t2.data.toList=rfR l):=⟨(ag B (lt_of_block aq.o.1) O).trans aq.o.1,aq.o.2⟩;have aA:=A4 aN;have aB:=A4 aO;have k0:d.cell? ⟨w2.heap.size,0,none⟩=some (.string x.n):=A1 ay rfl;have k1:d.cell? ⟨w2.heap.size,1,none⟩=some (.string x.b):=A1 ay rfl;have bo:w.heap.size≤d.heap.size:=O;clear af aM ax ay ag L aN be bd;go_wp2_with (first
      |(at_lookup;refine wpList_lookup_own_ok_int _ rfl _ _ 141 rfl 9 3 .i64 A5u Tryz.underlying141 Tryz.underlying3 (A4b _) w.heap.size j D rfl K _ _ rfl G ?_;intro c av aw;rw[z])
      |(at_builtin;refine B6 _ rfl (.tmp 37) (.tmp 39) 77 rfl 88 i0 _ 2 32 Tryz.underlying77 hi aQ aR aS rfl Z w.heap.size (.slice A j C) j (B3 acc) rfl (by exact aO.other (fun g _ Q=>Below.heap_alloc d _ g Q)) ⟨d.heap.size,0,none⟩ 1 [.string x.n,.string x.b] rfl rfl (by exact A26 d _ _ _ rfl) (by intro u hu;simp at hu;rcases hu with rfl|rfl<;>rfl) (by unfold maxLen;omega) O Zo ?_;intro g' o' cap' w8 bf W))
     have aC:Below d.heap.size d (d.alloc (Obj.cells #[.string x.n,.string x.b] 88)):=(Below.refl _ _).alloc (Nat.le_refl _) _;have aD:∀q,q<d.heap.size→(Value.slice A j C).ownBlock≠some q→w8.heap[q]?=d.heap[q]?:=fun q m T=>(W.other q (Nat.lt_of_lt_of_le m aC.size) T).trans (aC.block q m);have bp:d.heap.size≤w8.heap.size:=Nat.le_trans aC.size W.size;have bg:∀q,(Value.slice A j C).ownBlock=some q→w.heap.size≤q:=fun q m=>(aB.o.lt m).1;refine⟨⟨j+1,rfR l,acc++[x],D.put (.string x.n.data.toList) (.lit (.int .i64 (j:Int))),O,Zn,⟨t2,?_,ah.o.2⟩,Nat.le_trans (B17 l) k.o.ll,fun R hR=>?_,?_,?_,?_,?_,?_,Nat.le_refl _⟩,by simp[RowKit.intOf];omega⟩
     ·exact(aD B (lt_of_block ah.o.1) (aB.o.tag Z ah.o.1)).trans ah.o.1
     ·exact an.o R (Or.inl ⟨aZ.o,by rw[←HX.o];exact bc.o,by rw[←HX.o];exact hR⟩)
     ·rw[List.length_append,k.o.al];rfl
     ·rw[S7];exact bf
     ·exact G7 aA.o (aD _ aA.o.lt (aB.o.neMap aA.o))
     ·exact B0O k.o.mp.isMap k.o.hs
     ·exact⟨W.os.trans V.o.os,W.tape.trans V.o.tape,W.output.trans V.o.output,by have:=V.o.size;omega,fun q m az=>(aD q O (fun e=>by have:=bg q e;omega)).trans (V.o.other q m az)⟩
    ·have ad:Hd (N4 N p [] []):=an.o [] (Or.inr ⟨fun h=>h.2 (by rw[←HX.o];exact af.1 z),rfl⟩);clear af;go_wp2_with (at_lookup;refine wpList_lookup_own_ok_int _ rfl _ _ 141 rfl 9 3 .i64 A5u Tryz.underlying141 Tryz.underlying3 (A4b _) w.heap.size j D rfl K _ _ rfl G ?_;intro c av aw;rw[z]);go_ret;exact ab.o [] _ _ ad.o Zs (A3.nil _ _ _ _) F.o
  ·have bh:j=N:=O;have HR:Hd (N4 N p [] acc):=by
    have:=f.go acc;rw[bh,Nat.sub_self]at this;exact this rfl
   have aP:=A4 f.al;obtain⟨A,C,hv⟩:=f.ow.form;subst hv;clear f;go_wp2_with fail;go_ret;refine ab.o acc _ _ HR.o (by rw[aP.o];omega) ?_ k.o.fr;rw[aP.o];exact k.o.ow
end
section
open Go.RowKit Go.Maps
attribute [local go_sem] C0
theorem GrP.low {κ α:Type}{P:Program}{a:κ→Lit}{ok:κ→Prop}{enc:List α→List Value}{K E sz:Nat}{w:World}{base b B n:Nat}{V:κ→Value}{L:κ→List α}(h:GrP P a ok enc K E sz w base B n V L)(c:b≤base):GrP P a ok enc K E sz w b B n V L:=
 ⟨h.map,fun x d=>(h.own x d).low c,h.apart⟩
def RfQ (x:S2):Prop:=(A7 (rfT x)).1=[x]∧x.n.size≤255
theorem B3E {l:List UInt8}(h:A3G l):RfQ (rfX l):=by
 refine⟨h,?_⟩;show (rfN l).toArray.size≤255;have h1:=U0 (l.take 1);have a:=Nat.pow_le_pow_right (show 0<256 by omega) (show (l.take 1).length≤1 by rw[List.length_take];omega);rw[List.size_toArray];unfold rfN;rw[List.length_take];omega
theorem N4.all:∀(m:Nat) (l:List UInt8) (acc R:List S2),N4 m l acc R→(∀x∈acc,RfQ x)→(∀x∈R,RfQ x)∧R.length≤acc.length+m
 | 0,_,acc,R,h,b=>by
  have e:R=acc:=h
  subst e
  exact⟨b,Nat.le_refl _⟩
 | m+1,l,acc,R,h,b=>by
  rcases h with ⟨h1,c,d⟩ | ⟨h1,c⟩
  ·have:=N4.all m _ _ _ d (fun x a=>by
    rcases List.mem_append.1 a with a | a
    ·exact b x a
    ·simp at a;subst a;exact B3E h1)
   refine⟨this.1,?_⟩
   have f:=this.2
   rw[List.length_append,List.length_singleton]at f
   omega
  ·subst c
   exact⟨fun x a=>(by cases a),Nat.zero_le _⟩
theorem RfQ.facts {x:S2}(h:RfQ x):good x.b∧x.b.size≤1000000000:=by
 have a:=(L6 (rfT x)).2 x (by rw[h.1];exact List.mem_singleton.2 rfl);exact⟨a.1,by have:=a.2.2;omega⟩
theorem A3d (R:List S2)(c:∀x∈R,x.n.size≤255):(R.flatMap D0).length≤258*R.length+C7 R R.length:=by
 have key:∀j,j≤R.length→((R.take j).flatMap D0).length≤258*j+C7 R j:=by
  intro j;induction j with
  | zero=>intro _;simp
  | succ j d=>
   intro h;have h1:=d O;have a:j<R.length:=O;have e:C7 R (j+1)=C7 R j+(R.getD j S0).b.size:=rfl;have f:R.getD j S0=R[j]:=C8 _ _ _ a;have i:=c R[j] (List.getElem_mem _);have g:(D0 R[j]).length=R[j].n.size+R[j].b.size+3:=by
    unfold D0;rw[List.length_append,List.length_append,List.length_append,B2,B2];show 1+R[j].n.size+2+R[j].b.size=_;omega
   rw[List.take_add_one,List.getElem?_eq_getElem a,List.flatMap_append,List.length_append,e,f];simp only[Option.toList_some,List.flatMap_cons,List.flatMap_nil,List.append_nil,g];omega
 have:=key R.length (Nat.le_refl _);rwa [List.take_length]at this
def LdP (T:List UInt8)(w:World)(e:Ending)(w':World):Prop:=
 ∃R,N4 (J4 ((T.drop 14).take 2)) (T.drop 16) [] R∧Below w.heap.size w w'∧
  ((∃X H,e=.returned (.tuple #[.pointer (some ⟨X,0,none⟩),I J 0])∧J1 (roK (T.drop 4)) (roW (T.drop 4)) (roS (T.drop 4))=true∧G0 R=0∧HsP (D6 (roK (T.drop 4)) (roW (T.drop 4)) R R.length) H∧D3 (roK (T.drop 4)) (roW (T.drop 4)) (roS (T.drop 4)) R H=T∧IxP w' w.heap.size X R (roK (T.drop 4)) (roW (T.drop 4)) (roS (T.drop 4)))∨
   (e=.returned (.tuple #[.pointer none,I J 8])∧(J1 (roK (T.drop 4)) (roW (T.drop 4)) (roS (T.drop 4))=true→G0 R=0→∀H,HsP (D6 (roK (T.drop 4)) (roW (T.drop 4)) R R.length) H→D3 (roK (T.drop 4)) (roW (T.drop 4)) (roS (T.drop 4)) R H≠T)))
theorem A0u {k W sc:Nat}(h:J1 k W sc=true):(1≤k∧k≤12)∧(1≤W∧W≤20):=by
 unfold J1 at h;simp only[Bool.and_eq_true,decide_eq_true_eq]at h;have:=h.1.1;exact⟨⟨O,O⟩,⟨O,O⟩⟩
theorem A5w (s:ByteArray)(w:World)(hs:s.size≤140737488355328) :
 Calls Tryz.prog 9 #[.string s] w fun e w'=>LdP s.data.toList w e w':=by
 obtain⟨T,F⟩:=nm s.data.toList;have p:=hid F;obtain⟨B,q⟩:=nm w.heap.size;obtain⟨m,r⟩:=nm (w.alloc (Obj.cells #[.string s] 74));have f:Below w.heap.size w m:=by rw[r];exact (Below.refl _ _).alloc (Nat.le_refl _) _
 have al:RrP m B s:=by rw[r,q];exact heap_alloc_new w _
 have c1:=A05 s 4 B m al O hs;have aJ:=hid f;have aZ:=hid q;have am:∀{w':World},RrF B m w'→Below w.heap.size w w':=fun h=>⟨h.os.trans f.os,h.tape.trans f.tape,h.output.trans f.output,Nat.le_trans f.size h.size,fun g a=>(h.other g (Nat.lt_of_lt_of_le a f.size) O).trans (f.block g a)⟩;have u:=(show Hid _ from @am);rw[←F];clear f al F am;go_enter Tryz.func9,Tryz.ntmps9;go_wp2_with fail;rw[←r];clear r;rw[←q];clear q;refine c1.mono ?_;rintro e w1 ⟨rfl,G,an⟩;obtain⟨K,v⟩:=nm (drS 4 s);rw[←v]at G;have e4:K.data.toList=T.drop 4:=by rw[v,O0,p.out]
 have aK:K.size≤140737488355328:=by rw[v];exact Nat.le_trans (X8 _ _) hs
 have c2:=A4C K B w1 G aK;rw[e4]at c2;obtain⟨k,hk⟩:=nm (roK (T.drop 4));obtain⟨W,L⟩:=nm (roW (T.drop 4));obtain⟨sc,y⟩:=nm (roS (T.drop 4));have aL:sc<18446744073709551616:=by rw[y];exact A20 _
 rw[←hk,←L,←y,List.drop_drop]at c2;have HK:=(show Hid _ from And.intro hk (And.intro L y));have ao:=hid an;have aM:Hid (T.length≤140737488355328):=by rw[p.out];exact hs
 clear v e4 G an c1 hk L y;go_wp2_with fail;refine c2.mono ?_;rintro e w2 ⟨rfl,⟨t,ht,M⟩,ap⟩;obtain⟨j,z⟩:=nm (w2.alloc (Obj.cells #[I J k,I J W,.float .f64 sc] 24));have N:Below w2.heap.size w2 j:=by rw[z];exact (Below.refl _ _).alloc (Nat.le_refl _) _
 have aq:j.heap[w2.heap.size]?=some (.cells #[I J k,I J W,.float .f64 sc] 24 (0,0)):=by rw[z];exact heap_alloc_new w2 _
 have aN:B<w2.heap.size:=lt_of_block ht;have c3:=A2I t B j ((N.block B aN).trans ht) (by rw[A8r M,List.length_drop];have:=aM.out;omega);rw[M]at c3;have P:Hid (RrF B m j):=ao.out.trans (ap.trans (RrF.of N));have Q:=hid aq;clear N aq ht M ap ao c2;go_wp2_with fail;rw[←z];clear z;refine c3.mono ?_;rintro e c ⟨R,rv,rfl,S,ba,Y,aa⟩;have ab:N4 (J4 ((T.drop 14).take 2)) (T.drop 16) [] R:=by rw[List.drop_drop]at S;exact S
 obtain⟨ac,_⟩:=N4.all _ _ _ _ ab (fun x b=>by cases b);have ar:=P.out.trans aa;have n:c.heap[w2.heap.size]?=some (.cells #[I J k,I J W,.float .f64 sc] 24 (0,0)):=(aa.other _ (lt_of_block Q.out) O).trans Q.out;have A:Hid (∀e w',Below w.heap.size w w'→((∃X H,e=Ending.returned (.tuple #[.pointer (some ⟨X,0,none⟩),I J 0])∧J1 k W sc=true∧G0 R=0∧HsP (D6 k W R R.length) H∧D3 k W sc R H=T∧IxP w' w.heap.size X R k W sc)∨
  (e=Ending.returned (.tuple #[.pointer none,I J 8])∧(J1 k W sc=true→G0 R=0→∀H,HsP (D6 k W R R.length) H→D3 k W sc R H≠T)))→LdP T w e w'):=by
  intro e w' h1 C
  obtain⟨e1,e2,e3⟩:=HK.out
  rw[e1,e2,e3]at C
  exact⟨R,ab,h1,C⟩
 have aO:=(show Hid _ from ac);have au:=hid n;have D:=hid ar;have ad:=hid Y;have aP:w.heap.size≤j.heap.size:=by have:=aJ.out.size;have:=P.out.size;omega
 have q0:c.cell? ⟨w2.heap.size,0,none⟩=some (I J k):=A1 n rfl;have q1:c.cell? ⟨w2.heap.size,1,none⟩=some (I J W):=A1 n rfl;have q2:c.cell? ⟨w2.heap.size,2,none⟩=some (.float .f64 sc):=A1 n rfl;have ae:=fun x b=>RfQ.facts (ac x b);have c4:=A6u (k:Int) (W:Int) sc;clear S ab ac ar n aa c3 P Q;cases ho:J1 (k:Int) (W:Int) sc
 ·rw[ho]at c4;go_wp2_with (go_at_call 26;refine (c4 _).mono ?_;rintro e w4 ⟨rfl,l⟩);go_ret2;refine A.out _ _ (u.out (D.out.trans (RrF.of l))) (Or.inr ⟨rfl,fun h=>by rw[ho]at h;cases h⟩)
 ·rw[ho]at c4;obtain⟨⟨av,aw⟩,⟨ax,ay⟩⟩:=A0u ho;obtain⟨ra,rc,aQ⟩:=Y.form;subst aQ;have c5:∀W4,Below c.heap.size c W4→_:=fun W4 h4=>A58 R j.heap.size (.slice ra R.length rc) W4 O (fun x b=>(ae x b).2) (ad.out.other (fun g _ a=>h4.block g a));have C5:=(show Hid _ from c5);clear c5 Y;go_wp2_with (go_at_call 26;refine (c4 _).mono ?_;rintro e w4 ⟨rfl,l⟩);refine (C5.out w4 l).mono ?_;rintro e i ⟨rfl,az⟩;have af:Below c.heap.size c i:=l.trans (az.mono l.size);have o:=hid af;have aR:w2.heap.size<c.heap.size:=lt_of_block au.out;have E:=(af.block _ aR).trans au.out;clear q0 q1 q2;have q0:i.cell? ⟨w2.heap.size,0,none⟩=some (I J k):=A1 E rfl;have q1:i.cell? ⟨w2.heap.size,1,none⟩=some (I J W):=A1 E rfl;have q2:i.cell? ⟨w2.heap.size,2,none⟩=some (.float .f64 sc):=A1 E rfl;clear E l az af c4;by_cases d:G0 R=0
  ·have aA:C7 R R.length≤4000:=by
    unfold G0 at d;split at d
    ·cases d
    ·omega
   have c6:=A4X R j.heap.size (.slice ra R.length rc) k W sc i av aw ax ay O (fun x b=>(ae x b).1) aA (ad.out.other (fun g _ a=>o.out.block g a));have ag:=hid d;rw[d];clear d;go_wp2_with fail;refine c6.mono ?_;rintro e w6 ⟨X,Hb,V,rfl,hX,aB,aC,bb,bc⟩;have aS:w.heap.size≤i.heap.size:=Nat.le_trans (u.out D.out).size o.out.size;have ah:IxP w6 w.heap.size X R k W sc:=⟨_,Hb,V,hX,((ad.out.other (w':=i) (fun g _ a=>o.out.block g a)).other (fun g _ a=>aC.block g a)).low aP,aB.low aS,O,O⟩;have aT:=hid ah;have aU:=D.out.trans ((RrF.of o.out).trans (RrF.of aC));have aD:Hid (Below w.heap.size w w6):=u.out aU;have aE:(D2 k W sc R).length≤500000000:=by
    have h1:=A3d R (fun x b=>(aO.out x b).2);have C:(J5 k W sc).length=10:=by unfold J5;simp only[List.length_append,B2]
    have h3:(J6:List UInt8).length=4:=rfl;unfold D2;rw[List.length_append,List.length_append,List.length_append,C,h3,B2];omega
   have c7:=A6l R w.heap.size X k W sc w6 av aw ax ay aL (fun x b=>(ae x b).1) O aA aE ah;clear hX aB ah c6 aE;go_wp2_with fail;refine c7.mono ?_;rintro e w7 ⟨H,hH,rfl,ai⟩;have aV:Hid (IxP w7 w.heap.size X R k W sc):=aT.out.kept (fun g a=>ai.block g a);have aF:Hid (Below w.heap.size w w7):=aD.out.trans (ai.mono aD.out.size);have aG:=hid hH;obtain⟨sv,aj⟩:=nm (⟨(D3 k W sc R H).toArray⟩:ByteArray);have aH:Hid (sv.data.toList=D3 k W sc R H):=by show _=_;rw[aj]
   rw[←aj];clear aj ai hH c7;by_cases heq:sv=s
   ·have ak:Hid (D3 k W sc R H=T):=by show _=_;rw[←aH.out,p.out,heq]
    subst heq;go_wp2_with fail;go_ret2;exact A.out _ _ aF.out (Or.inl ⟨X,H,rfl,ho,ag.out,aG.out,ak.out,aV.out⟩)
   ·have ak:Hid (∀H',HsP (D6 k W R R.length) H'→D3 k W sc R H'≠T):=by
     intro H' aW he;rw[aW.uniq aG.out]at he;refine heq ?_;apply ByteArray.ext;apply Array.toList_inj.1;rw[aH.out,he,p.out]
    have bd:(sv.toList==s.toList)=false:=by rw[beq_eq_false_iff_ne];exact fun h=>heq (A6S h)
    go_wp2_with fail;go_ret2;exact A.out _ _ aF.out (Or.inr ⟨rfl,fun _ _=>ak.out⟩)
  ·have ag:=hid d;have aX:(G0 R==0)=false:=by rw[beq_eq_false_iff_ne];exact d
   obtain⟨rz,aI⟩:=nm (G0 R);rw[←aI]at aX ⊢;have aY:Hid (Below w.heap.size w i):=u.out (D.out.trans (RrF.of o.out));clear aI d;go_wp2_with fail;go_ret2;exact A.out _ _ aY.out (Or.inr ⟨rfl,fun _ h=>absurd h ag.out⟩)
end
section
open Go.RowKit
theorem A1i (n k:Nat)(Y:List UInt8)(h:n<256^k):J4 ((B8 n k++Y).take k)=n∧(B8 n k++Y).drop k=Y:=by
 have a:=B2 k n;constructor
 ·rw[List.take_append_of_le_length O,List.take_of_length_le O,A8i,Nat.mod_eq_of_lt h]
 ·rw[List.drop_append_of_le_length O,List.drop_eq_nil_of_le O,List.nil_append]
theorem B1D (x:S2)(Y:List UInt8)(d:x.n.size≤255)(f:x.b.size<65536):rfX (D0 x++Y)=x∧rfR (D0 x++Y)=Y:=by
 obtain⟨n,b⟩:=x;simp only at d f;have e:D0 ⟨n,b⟩++Y=B8 n.size 1++(n.data.toList++(B8 b.size 2++(b.data.toList++Y))):=by
  unfold D0;simp only[List.append_assoc]
 have i:n.data.toList.length=n.size:=rfl;have j:b.data.toList.length=b.size:=rfl;have h1:=A1i n.size 1 (n.data.toList++(B8 b.size 2++(b.data.toList++Y))) O;have a:=A1i b.size 2 (b.data.toList++Y) O;have c:rfL (D0 ⟨n,b⟩++Y)=B8 b.size 2++(b.data.toList++Y):=by
  unfold rfL;rw[e,h1.1,h1.2,List.drop_append_of_le_length O,List.drop_eq_nil_of_le O,List.nil_append]
 have g:rfN (D0 ⟨n,b⟩++Y)=n.data.toList:=by
  unfold rfN;rw[e,h1.1,h1.2,List.take_append_of_le_length O,List.take_of_length_le O]
 have h:rfB (D0 ⟨n,b⟩++Y)=b.data.toList:=by
  unfold rfB;rw[c,a.1,a.2,List.take_append_of_le_length O,List.take_of_length_le O]
 constructor
 ·unfold rfX;rw[g,h]
 ·unfold rfR;rw[c,a.1,a.2,List.drop_append_of_le_length O,List.drop_eq_nil_of_le O,List.nil_append]
theorem A5X:∀(R acc:List S2) (Y:List UInt8),(∀x∈R,RfQ x∧x.b.size<65536)→(acc++R).Pairwise (fun x y=>x.n≠y.n)→N4 R.length (R.flatMap D0++Y) acc (acc++R)
 |[],acc,Y,_,_=>by simp[N4]
 |x::t,acc,Y,g,c=>by
  have d:=g x (List.mem_cons_self)
  have e:(x::t).flatMap D0++Y=D0 x++(t.flatMap D0++Y):=by rw[List.flatMap_cons,List.append_assoc]
  have a:=B1D x (t.flatMap D0++Y) d.1.2 d.2
  rw[e]
  refine Or.inl ⟨?_,?_,?_⟩
  ·show(A7 (rfT (rfX _))).1=[rfX _]
   rw[a.1]
   exact d.1.1
  ·rw[a.1]
   rintro⟨y,f,h⟩
   rw[List.pairwise_append]at c
   exact c.2.2 y f x (List.mem_cons_self) h
  ·rw[a.1,a.2]
   have:=A5X t (acc++[x]) Y (fun y f=>g y (List.mem_cons_of_mem _ f)) (by rw[List.append_assoc];exact c)
   rw[List.append_assoc]at this
   exact this
theorem A9K (k W sc:Nat)(R:List S2)(Y:List UInt8)(hk:k<256)(j:W<256)(l:sc<18446744073709551616)(m:R.length<65536)(h:∀x∈R,RfQ x∧x.b.size<65536)(i:R.Pairwise (fun x y=>x.n≠y.n)) :
 roK ((D2 k W sc R++Y).drop 4)=k∧roW ((D2 k W sc R++Y).drop 4)=W∧roS ((D2 k W sc R++Y).drop 4)=sc∧N4 (J4 (((D2 k W sc R++Y).drop 14).take 2)) ((D2 k W sc R++Y).drop 16) [] R:=by
 obtain⟨a,c⟩:=A8 (R.flatMap D0++Y);have e:D2 k W sc R++Y=J6++(B8 k 1++(B8 W 1++(B8 sc 8++(B8 R.length 2++a)))):=by
  unfold D2 J5;rw[c];simp only[List.append_assoc]
 have d4:(D2 k W sc R++Y).drop 4=B8 k 1++(B8 W 1++(B8 sc 8++(B8 R.length 2++a))):=by rw[e];rfl
 have h1:=A1i k 1 (B8 W 1++(B8 sc 8++(B8 R.length 2++a))) O;have d:=A1i W 1 (B8 sc 8++(B8 R.length 2++a)) O;have f:=A1i sc 8 (B8 R.length 2++a) O;have g:=A1i R.length 2 a O;have d5:((D2 k W sc R++Y).drop 4).drop 1=B8 W 1++(B8 sc 8++(B8 R.length 2++a)):=by rw[d4];exact h1.2
 have d6:((D2 k W sc R++Y).drop 4).drop 2=B8 sc 8++(B8 R.length 2++a):=by
  rw[show(2:Nat)=1+1 from rfl,←List.drop_drop,d5];exact d.2
 have d14:(D2 k W sc R++Y).drop 14=B8 R.length 2++a:=by
  rw[show(14:Nat)=4+2+8 from rfl,←List.drop_drop,←List.drop_drop,d6];exact f.2
 have d16:(D2 k W sc R++Y).drop 16=a:=by
  rw[show(16:Nat)=14+2 from rfl,←List.drop_drop,d14];exact g.2
 refine⟨?_,?_,?_,?_⟩
 ·unfold roK;rw[d4];exact h1.1
 ·unfold roW;rw[d5];exact d.1
 ·unfold roS;rw[d6];exact f.1
 ·rw[d14,d16,g.1,c];have:=A5X R [] Y h (by simpa using i);simpa using this
theorem A9c {k W sc:Nat}{R:List S2}{H:List Int}{Y:List UInt8}{w w':World}{e:Ending}(hk:k<256)(a:W<256)(c:sc<18446744073709551616)(d:R.length<65536)(f:∀x∈R,RfQ x∧x.b.size<65536)(g:R.Pairwise (fun x y=>x.n≠y.n))
 (ho:J1 k W sc=true)(i:G0 R=0)(hH:HsP (D6 k W R R.length) H)(h:LdP (D2 k W sc R++Y) w e w') :
 Below w.heap.size w w'∧((D2 k W sc R++Y=D3 k W sc R H∧∃X,e=.returned (.tuple #[.pointer (some ⟨X,0,none⟩),I J 0])∧IxP w' w.heap.size X R k W sc)∨(D2 k W sc R++Y≠D3 k W sc R H∧e=.returned (.tuple #[.pointer none,I J 8]))):=by
 obtain⟨j,l,m,h⟩:=h;obtain⟨h1,o,p,q⟩:=A9K k W sc R Y hk a c d f g;have r:j=R:=N4.uniq _ _ _ _ _ l q;subst r;rw[h1,o,p]at h;refine⟨m,?_⟩;rcases h with⟨X,v,he,_,_,s,hs,t⟩|⟨he,u⟩
 ·rw[s.uniq hH]at hs;exact Or.inl ⟨hs.symm,X,he,t⟩
 ·exact Or.inr ⟨fun h=>u ho i H hH h.symm,he⟩
theorem A7y {n:ByteArray}(h:D8 n):∀c∈n.data.toList,c≠10:=by
 intro c d e;obtain⟨j,a,rfl⟩:=List.getElem_of_mem d;have f:j<n.size:=by rw[Array.length_toList]at a;exact a
 have b:=(h.2.2 j f).1;have g:n[j]=n.data.toList[j]:=by rw[Array.getElem_toList];rfl
 rw[g,e]at b;revert b;decide
theorem A4f (n b:ByteArray)(f:D8 n)(g:good b)(hs:n.size+b.size≤7000):(A7 (rfT ⟨n,b⟩)).1=[⟨n,b⟩]:=by
 have h:(rfT ⟨n,b⟩).data.toList=62::(n.data.toList++10::b.data.toList):=by simp[rfT]
 have q:(rfT ⟨n,b⟩).size=n.size+b.size+2:=by
  have:(rfT ⟨n,b⟩).size=(rfT ⟨n,b⟩).data.toList.length:=by rw[Array.length_toList];rfl
  rw[this,h];have e1:n.data.toList.length=n.size:=Array.length_toList;have j:b.data.toList.length=b.size:=Array.length_toList;simp[e1,j];omega
 have k:F6 (rfT ⟨n,b⟩)=⟨(62::n.data.toList).toArray⟩::(F3 [] b.data.toList).map (fun l=>(⟨l.toArray⟩:ByteArray)):=by
  unfold F6;rw[h];have e:=X4 (62::n.data.toList) [] (10::b.data.toList) (by
   intro c a;rcases List.mem_cons.1 a with rfl|a
   ·decide
   ·exact A7y f c a)
  rw[List.nil_append,List.cons_append]at e;rw[e,F3,if_pos rfl];rfl
 have d:tl ⟨(62::n.data.toList).toArray⟩=n:=by
  unfold tl;apply ByteArray.ext;apply Array.ext';simp;have:(⟨(62::n.data.toList).toArray⟩:ByteArray).size-1=n.data.toList.length:=by show(62::n.data.toList).toArray.size-1=_;simp
  rw[this,List.take_length]
 have m:G3 ⟨(62::n.data.toList).toArray⟩:=⟨by show 0<(62::n.data.toList).toArray.size;simp,rfl⟩;have o:F2 [] ⟨(62::n.data.toList).toArray⟩=(0,[⟨n,⟨#[]⟩⟩]):=by
  have:=O9 (L:=[]) m (by rw[d];exact f) (by rw[d];rintro⟨x,p,_⟩;cases p);rwa [d]at this
 unfold A7;rw[if_neg O,k,A0i o,A6W g];split
 ·rename_i e;have:b=⟨#[]⟩:=by apply ByteArray.ext;have:=congrArg List.toArray e;simpa using this
  rw[this];rfl
 ·have i:=A68 [] n b g;rw[List.nil_append,List.nil_append]at i;rw[A0i i];rfl
def A9P (l:List UInt8)(acc:List S2):Prop:=(1+J4 (l.take 1)+2≤l.length∧1+J4 (l.take 1)+2+J4 ((rfL l).take 2)≤l.length)∧D8 (rfX l).n∧good (rfX l).b∧¬O1 acc (rfX l).n
def DcP:Nat→List UInt8→List S2→Option (List S2)→Prop
 |0,_,acc,r=>r=some acc
 |m+1,l,acc,r=>(A9P l acc∧DcP m (rfR l) (acc++[rfX l]) r)∨(¬A9P l acc∧r=none)
theorem DcP.uniq:∀(m:Nat) (l:List UInt8) (acc:List S2) (r a:Option (List S2)),DcP m l acc r→DcP m l acc a→r=a
 |0,_,acc,r,a,h,b=>h.trans b.symm
 |m+1,l,acc,r,a,h,b=>by
  rcases h with⟨h1,c⟩|⟨h1,c⟩<;>rcases b with⟨d,f⟩|⟨d,f⟩
  ·exact DcP.uniq m _ _ _ _ c f
  ·exact absurd h1 d
  ·exact absurd d h1
  ·exact c.trans f.symm
theorem DcP.mem:∀(m:Nat) (l:List UInt8) (acc R:List S2),DcP m l acc (some R)→∀x∈acc,x∈R
 |0,_,acc,R,h,x,a=>by
  have e:some R=some acc:=h
  obtain rfl:=Option.some.inj e
  exact a
 |m+1,l,acc,R,h,x,a=>by
  rcases h with⟨_,b⟩|⟨_,b⟩
  ·exact DcP.mem m _ _ _ b x (List.mem_append_left _ a)
  ·cases b
theorem A9u (l:List UInt8):(rfX l).n.size≤255:=by
 show(rfN l).toArray.size≤255;have h1:=U0 (l.take 1);have a:=Nat.pow_le_pow_right (show 0<256 by omega) (show(l.take 1).length≤1 by rw[List.length_take];omega);rw[List.size_toArray];unfold rfN;rw[List.length_take];omega
theorem B1q:∀(m:Nat) (l:List UInt8) (acc R:List S2),DcP m l acc (some R)→(∀x∈R,x.b.size≤4000)→N4 m l acc R
 |0,_,acc,R,h,_=>(Option.some.inj h)
 |m+1,l,acc,R,h,c=>by
  rcases h with⟨h1,a⟩|⟨_,a⟩
  ·refine Or.inl ⟨?_,h1.2.2.2,B1q m _ _ _ a c⟩
   have d:=DcP.mem m _ _ _ a (rfX l) Zs
   have f:=c _ d
   have g:=A9u l
   exact A4f (rfX l).n (rfX l).b h1.2.1 h1.2.2.1 O
  ·cases a
theorem RfQ.name {x:S2}(h:RfQ x):D8 x.n:=((L6 (rfT x)).2 x (by rw[h.1];exact List.mem_singleton.2 rfl)).2.1
theorem A8e:∀(R acc:List S2) (Y:List UInt8),(∀x∈R,RfQ x∧x.b.size<65536)→(acc++R).Pairwise (fun x y=>x.n≠y.n)→DcP R.length (R.flatMap D0++Y) acc (some (acc++R))
 |[],acc,Y,_,_=>by simp[DcP]
 |x::t,acc,Y,h,d=>by
  have a:=h x List.mem_cons_self
  have e:(x::t).flatMap D0++Y=D0 x++(t.flatMap D0++Y):=Zs
  have c:=B1D x (t.flatMap D0++Y) a.1.2 a.2
  have i:¬O1 acc x.n:=by
   rintro⟨y,f,e⟩
   rw[List.pairwise_append]at d
   exact d.2.2 y f x List.mem_cons_self e
  have g:J4 ((D0 x++(t.flatMap D0++Y)).take 1)=x.n.size:=by
   have:D0 x++(t.flatMap D0++Y)=B8 x.n.size 1++(x.n.data.toList++B8 x.b.size 2++x.b.data.toList++(t.flatMap D0++Y)):=by unfold D0;simp only[List.append_assoc]
   rw[this]
   exact(A1i x.n.size 1 _ (by have:=a.1.2;omega)).1
  have en:x.n.data.toList.length=x.n.size:=Array.length_toList
  have j:x.b.data.toList.length=x.b.size:=Array.length_toList
  have k:J4 ((rfL (D0 x++(t.flatMap D0++Y))).take 2)=x.b.size:=by
   unfold rfL
   rw[g]
   have:D0 x++(t.flatMap D0++Y)=B8 x.n.size 1++(x.n.data.toList++(B8 x.b.size 2++(x.b.data.toList++(t.flatMap D0++Y)))):=by unfold D0;simp only[List.append_assoc]
   rw[this,(A1i x.n.size 1 _ (by have:=a.1.2;omega)).2,List.drop_left' en]
   exact(A1i x.b.size 2 _ (by have:=a.2;omega)).1
  have hlen:(D0 x).length=3+x.n.size+x.b.size:=by
   unfold D0
   rw[List.length_append,List.length_append,List.length_append,B2,B2,en,j];omega
  have l:A9P ((x::t).flatMap D0++Y) acc:=by
   rw[e]
   refine⟨⟨?_,?_⟩,by rw[c.1];exact a.1.name,by rw[c.1];exact a.1.facts.1,by rw[c.1];exact i⟩
   ·rw[g,List.length_append,hlen];omega
   ·rw[g,k,List.length_append,hlen];omega
  refine Or.inl ⟨l,?_⟩
  rw[e,c.1,c.2]
  have:=A8e t (acc++[x]) Y (fun y f=>h y (List.mem_cons_of_mem _ f)) (by simpa using d)
  simpa using this
theorem N4.pw:∀(m:Nat) (l:List UInt8) (acc R:List S2),N4 m l acc R→acc.Pairwise (fun x y=>x.n≠y.n)→R.Pairwise (fun x y=>x.n≠y.n)
 |0,_,acc,R,h,c=>by
  have e:R=acc:=h
  subst e
  exact c
 |m+1,l,acc,R,h,c=>by
  rcases h with⟨_,d,g⟩|⟨_,d⟩
  ·refine N4.pw m _ _ _ g ?_
   rw[List.pairwise_append]
   exact⟨c,List.pairwise_singleton _ _,fun a hm b f=>by
    rw[List.mem_singleton]at f
    subst f
    exact fun e=>d ⟨a,hm,e⟩⟩
  ·subst d;exact List.Pairwise.nil
def OKc (T:List UInt8)(R:List S2)(H:List Int):Prop:=DcP (J4 ((T.drop 14).take 2)) (T.drop 16) [] (some R)∧J1 (roK (T.drop 4)) (roW (T.drop 4)) (roS (T.drop 4))=true∧G0 R=0∧HsP (D6 (roK (T.drop 4)) (roW (T.drop 4)) R R.length) H∧D3 (roK (T.drop 4)) (roW (T.drop 4)) (roS (T.drop 4)) R H=T
def Z6 (T:List UInt8)(w:World)(e:Ending)(w':World):Prop:=
 Below w.heap.size w w'∧((∃Y R H,e=.returned (.tuple #[.pointer (some ⟨Y,0,none⟩),I J 0])∧OKc T R H∧RxP w' w.heap.size Y R (roK (T.drop 4)) (roW (T.drop 4)) (roS (T.drop 4)))∨(e=.returned (.tuple #[.pointer none,I J 8])∧∀R H,¬OKc T R H))
theorem A0k {R:List S2}(h:G0 R=0):C7 R R.length≤4000∧R.length≠0:=by
 unfold G0 at h;split at h
 ·cases h
 ·split at h
  ·cases h
  ·exact⟨O,by assumption⟩
theorem A3h {R:List S2}(h:C7 R R.length≤4000):∀x∈R,x.b.size≤4000:=by
 intro x c;obtain⟨j,a,rfl⟩:=List.getElem_of_mem c;have:=A8d R j a;rw[C8 _ _ _ a]at this;omega
theorem B3g {T:List UInt8}{R:List S2}{H:List Int}(b:N4 (J4 ((T.drop 14).take 2)) (T.drop 16) [] R)(ho:J1 (roK (T.drop 4)) (roW (T.drop 4)) (roS (T.drop 4))=true)(c:G0 R=0)(hH:HsP (D6 (roK (T.drop 4)) (roW (T.drop 4)) R R.length) H)(hs:D3 (roK (T.drop 4)) (roW (T.drop 4)) (roS (T.drop 4)) R H=T):OKc T R H:=by
 refine⟨?_,ho,c,hH,hs⟩;have d:=N4.all _ _ _ _ b (fun x a=>by cases a);have f:=N4.pw _ _ _ _ b List.Pairwise.nil;have g:=A0k c;have o:R.length<65536:=by
  have h1:=U0 ((T.drop 14).take 2);have p:=Nat.pow_le_pow_right (show 0<256 by omega) (show((T.drop 14).take 2).length≤2 by rw[List.length_take];omega);have h:=d.2;simp at h;omega
 obtain⟨k,hk⟩:=A8 (roK (T.drop 4));obtain⟨W,i⟩:=A8 (roW (T.drop 4));obtain⟨sc,j⟩:=A8 (roS (T.drop 4));rw[←hk,←i,←j]at hs;obtain⟨Y,l⟩:∃Y,T=J6++(B8 k 1++(B8 W 1++(B8 sc 8++(B8 R.length 2++(R.flatMap D0++Y))))):=by
  refine⟨B8 H.length 2++S3 (D6 k W R R.length) 0 H,?_⟩;rw[←hs];unfold D3 D2 J5;simp only[List.append_assoc]
 have d14:T.drop 14=B8 R.length 2++(R.flatMap D0++Y):=by
  rw[l,show(14:Nat)=4+1+1+8 from rfl,←List.drop_drop,←List.drop_drop,←List.drop_drop];have m:(J6++(B8 k 1++(B8 W 1++(B8 sc 8++(B8 R.length 2++(R.flatMap D0++Y)))))).drop 4=B8 k 1++(B8 W 1++(B8 sc 8++(B8 R.length 2++(R.flatMap D0++Y)))):=rfl;rw[m,List.drop_left' (B2 1 k),List.drop_left' (B2 1 W),List.drop_left' (B2 8 sc)]
 have d16:T.drop 16=R.flatMap D0++Y:=by
  rw[show(16:Nat)=14+2 from rfl,←List.drop_drop,d14,List.drop_left' (B2 2 _)]
 have n:J4 ((T.drop 14).take 2)=R.length:=by rw[d14];exact(A1i R.length 2 _ O).1
 rw[n,d16];have:=A8e R [] Y (fun x a=>⟨d.1 x a,by have:=A3h g.1 x a;omega⟩) (by simpa using f);simpa using this
theorem B0f {T:List UInt8}{w w' w1 d:World}{e e1:Ending}(h:LdP T w e w')(h1:Z6 T w1 e1 d) :
 (∃X Y R H,e=.returned (.tuple #[.pointer (some ⟨X,0,none⟩),I J 0])∧e1=.returned (.tuple #[.pointer (some ⟨Y,0,none⟩),I J 0])∧OKc T R H∧IxP w' w.heap.size X R (roK (T.drop 4)) (roW (T.drop 4)) (roS (T.drop 4))∧RxP d w1.heap.size Y R (roK (T.drop 4)) (roW (T.drop 4)) (roS (T.drop 4))∧∀x∈R,RfQ x)∨
 (e=.returned (.tuple #[.pointer none,I J 8])∧e1=.returned (.tuple #[.pointer none,I J 8])):=by
 obtain⟨R,b,_,h⟩:=h;obtain⟨_,h1⟩:=h1;rcases h with⟨X,H,rfl,ho,g,hH,hs,i⟩|⟨rfl,c⟩
 ·have ok:=B3g b ho g hH hs;rcases h1 with⟨Y,j,H1,rfl,a,f⟩|⟨_,c⟩
  ·have e1:=DcP.uniq _ _ _ _ _ ok.1 a.1;obtain rfl:=Option.some.inj e1;exact Or.inl ⟨X,Y,R,H,rfl,rfl,ok,i,f,(N4.all _ _ _ _ b (fun x k=>by cases k)).1⟩
  ·exact absurd ok (c R H)
 ·rcases h1 with⟨Y,j,H1,rfl,a,f⟩|⟨rfl,_⟩
  ·exfalso;have l:=A0k a.2.2.1;have e1:=N4.uniq _ _ _ _ _ b (B1q _ _ _ _ a.1 (A3h l.1));subst e1;exact c a.2.1 a.2.2.1 H1 a.2.2.2.1 a.2.2.2.2
  ·exact Or.inr ⟨rfl,rfl⟩
end
end Mn
end Go.Proofs.YtilcmkiihefkkaaGreatDoor
