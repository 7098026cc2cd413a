import Derived.Lib.ItoaLen
import Derived.Test.YtilcmkiihefkkaaGreatDoorJf29
set_option linter.unusedVariables false
set_option linter.unusedSimpArgs false
set_option maxRecDepth 1000000
set_option maxHeartbeats 64000000
open Go.Value renaming int→I
open Go.IntKind renaming i64→J
namespace Go.Proofs.YtilcmkiihefkkaaGreatDoor
section
open Go.RowKit Go.Shelf Go.Lib Go.Sort
def Y8 (l:Nat):UInt8:=([77,73,68]:List UInt8).getD l 0
def G1 (ps:List (Nat×Nat)):List UInt8:=ps.flatMap fun p=>decDigits p.1++[Y8 p.2]
theorem N3 (a:List (Nat×Nat))(p:Nat×Nat):G1 (a++[p])=G1 a++(decDigits p.1++[Y8 p.2]):=by simp[G1]
theorem A2U (L:List Nat):∀k,(rl L k).2.length≤k
 |0=>Nat.le_refl _
 |k+1=>by
  rw[rl]
  split
  ·simp;exact A2U L k
  ·have:=A2U L k;omega
theorem A2S:∀(ps:List (Nat×Nat)),(∀p∈ps,p.1≤1000)→(G1 ps).length≤30*ps.length
 |[],_=>by simp[G1]
 |p::ps,h=>by
  have b:=A2S ps (fun q a=>h q (List.mem_cons_of_mem _ a))
  have c:=h p (List.mem_cons_self ..)
  have hi:=itoa_length_le (p.1:Int) O O
  rw[itoa_nonneg]at hi
  have e:G1 (p::ps)=decDigits p.1++[Y8 p.2]++G1 ps:=by simp[G1]
  rw[e]
  simp only[List.length_append,List.length_cons,List.length_nil]
  omega
theorem A7f (l:Nat)(h:l<(⟨#[77,73,68]⟩:ByteArray).size):(⟨#[77,73,68]⟩:ByteArray)[l]=Y8 l:=by
 have:l<3:=h;rcases (show l=0∨l=1∨l=2 by omega) with rfl|rfl|rfl<;>rfl
theorem Tryz.info5:(Tryz.prog.info? 5).map (fun i=>(i.zero,i.size,i.bytes))=some (some (.int .u8 0),1,1):=U
theorem A6k (w:World)(base:Nat)(v:Value)(a:List UInt8)(h:w.ownsRow base 5 1 v a.length (Lib.byteCells a)) :
 (convert 63 9 v).run Tryz.prog w=.ok (.string ⟨a.toArray⟩) w:=by
 rcases h.2 with⟨rfl,c⟩|⟨g,cap,cur,rfl,_,d,_,_,_,f⟩
 ·obtain rfl:a=[]:=List.eq_nil_of_length_eq_zero c;exact run_convert_bytes_nil w 63 5 Tryz.underlying63 Tryz.underlying5 0 0 9 Tryz.underlying9
 ·have:=run_convert_bytes_back (P:=Tryz.prog) w 63 9 5 ⟨g,0,none⟩ cap a Tryz.underlying63 Tryz.underlying5 Tryz.underlying9 (by
   intro j i;rw[Addr.add_lit,cell_of_row w g _ cur 5 (0,0) d,Nat.zero_add];have b:(cur.toList.take (a.length*1))[j]?=some (.int .u8 (a[j].toNat:Int)):=by
    rw[f];simp[Lib.byteCells,i]
   rw[List.getElem?_take]at b;split at b
   ·simpa using b
   ·exact absurd b Zs)
  simpa using this
theorem B0r (L:List Nat)(n:Nat)(hn:L.length=n)(aB:n≤900)(hl:∀x∈L,x≤2)(base:Nat)(v:Value)(w:World)(j:A3 w base 3 1 v n (F1 L))
 (aa:Lib.TabBelow Tryz.prog w.heap.size w "internal/strconv.uint64pow10" .u64 Lib.pow10Tab) :
 Calls Tryz.prog 84 #[v] w fun e w'=>e=.returned (.string ⟨(G1 (rl L n).2).toArray⟩)∧Below w.heap.size w w':=by
 obtain⟨i5,ab,ac,ad,ae⟩:=info_parts Tryz.info5;obtain⟨ao,cap,rfl⟩:=j.shape;have d:=A4 hn;have HL:=A4 hl;have C:=A4 j;have af:=A4 aa;clear hn hl j aa;go_enter Tryz.func84,Tryz.ntmps84;go_wp2_with fail;go_loopw [3,4,5] (fun tv fv M wx=>∃k:Nat,k≤n∧M=I J ((k:Int)+1)∧fv=I J ((rl L k).1:Nat)∧wx.ownsRow w.heap.size 5 1 tv (G1 (rl L k).2).length (Lib.byteCells (G1 (rl L k).2))∧Below w.heap.size w wx) (fun _ _ M _=>n+2-(RowKit.intOf M).toNat);case atStart=>exact⟨0,Nat.zero_le _,rfl,rfl,World.ownsRow_nil _ _ _ _,Below.refl _ _⟩
 case round=>
  obtain⟨k,hk,rfl,rfl,j,N⟩:=hrel;have au:=(W2 L k).1;obtain⟨fr,P⟩:=A8 ((rl L k).1);obtain⟨b,D⟩:=A8 (G1 (rl L k).2);have ag:=A1x L n (by rw[d.o];exact Nat.le_refl _) HL.o k (by rw[d.o];exact hk);have aC:b.length≤30000:=by
   have h1:=A2S (rl L k).2 (fun p hp=>by have:=(ag p hp).2.1;omega);have h2:=A2U L k;rw[D];omega
  rw[←P]at au⊢;rw[←D]at j;have y:=A4 P;have s:=A4 D;have E:=A4 j;have c:=A4 N;have ah:=N.size;clear P D j N ag;by_cases ai:k<n
  ·have aD:(k:Int)+1≤n:=O;obtain⟨g,o,cap',hv,aE,t⟩:=C.o.addr O;have av:ao=some ⟨g,o,none⟩∧cap=cap':=by simpa using hv
   obtain⟨rfl,rfl⟩:=av;clear hv;have aj:fr<L.length:=by rw[d.o];omega
   have f:=C.o.cell (U0 L fr aj);obtain⟨a,F⟩:=A8 (L.getD fr 9);rw[←F]at f;rw[←c.o.cell (p:=⟨g,o+fr,none⟩) t]at f;have aF:a≤2:=by
    have:L.getD fr 9∈L:=by simp[aj]
    rw[F];exact HL.o _ this
   have ak:=A4 F;have u:=B0O L k (by rw[d.o];exact ai);have Q:=A8b L k (by rw[d.o];exact ai);rw[←y.o,←ak.o]at u;rw[←y.o,←ak.o]at Q;have al:=A4 Q;have aG:(fr:Int)<n:=O;clear F Q;by_cases l:k+1=L.length∨L.getD (k+1) 9≠L.getD k 9
   ·have G:Lib.itoa ((k:Int)+1-fr)=decDigits (k+1-fr):=by
     rw[show(k:Int)+1-fr=((k+1-fr:Nat):Int) by omega,itoa_nonneg]
    have aH:(Lib.itoa ((k:Int)+1-fr)).length≤21:=itoa_length_le _ O O;have am:w.cell? ⟨g,o+fr,none⟩=some (I J a):=(c.o.cell (p:=⟨g,o+fr,none⟩) t).symm.trans f;have aI:(a:Int)<3:=O;have aJ:a<(⟨#[77,73,68]⟩:ByteArray).size:=(show a<3 by omega);have H:=A4 l;have aw:((k:Int)+1).toNat=k+1:=O;have ax:(0:Int)≤(k:Int)+1:=O;have aK:IntKind.i64.wrap ((k:Int)+1-fr)=(k:Int)+1-fr:=Zw;have aL:IntKind.i64.wrap ((k:Int)+1+1)=(k:Int)+1+1:=Zw;by_cases K:k+1<n
    ·have an:¬L.getD (k+1) 9=a:=fun h=>absurd l (u.1 ⟨by rw[d.o];exact K,h⟩);have i:=C.o.cell (U0 L (k+1) (by rw[d.o];exact K));obtain⟨lk,ap⟩:=A8 (L.getD (k+1) 9);rw[←ap]at i an;have aM:¬((lk:Int)=(a:Int)):=O;rw[←c.o.cell (p:=⟨g,o+(k+1),none⟩) t]at i;have aq:(k:Int)+1<n:=O;clear u l ap an;go_upto_region 5 with fail;refine A5 15 (fun W=>W.cell? ⟨g,o+(k+1),none⟩=some (I J lk)∧W.cell? ⟨g,o+fr,none⟩=some (I J a)) U ⟨i,f⟩ (fun hH=>?_);refine A2 0 ?_;refine A2 1 ?_;refine A2 2 ?_;refine A2 3 ?_;refine A2 4 ?_;refine A2 5 ?_;refine A2 6 ?_;refine A2 7 ?_;refine A2 8 ?_;refine A2 9 ?_;refine A2 10 ?_;refine A2 11 ?_;refine A2 12 ?_;refine A2 13 ?_;refine A2 14 ?_;refine J5 ?_;clear hH i f;go_wp2_with (first|(go_at_call 114;refine(Any.strconv_AppendInt_10 Tryz.laysAI w.heap.size b.length ((k:Int)+1-fr) O O u3 (Lib.byteCells b) _ (by exact E.o) (by exact ah) O (by exact fun w' R=>af.o w' ((B3 c.o 1).trans R))).mono ?_;rintro e m ⟨v5,rfl,z,A,S⟩;have r:Hd (Below w.heap.size w m):=(B3 c.o 1).trans A;have ay:=(r.o.cell (p:=⟨g,o+fr,none⟩) t).trans am;have B:=A4 z;have az:=r.o.size;clear z A S)|(at_builtin;go_must (refine wpList_append_own _ rfl _ _ 63 rfl w.heap.size 5 i5 (.int .u8 0) 1 1 Tryz.underlying63 ab ac ad ae rfl Z _ _ _ rfl (by exact B.o.alloc _) ⟨m.heap.size,0,none⟩ 1 1 [.int .u8 ((⟨#[77,73,68]⟩:ByteArray)[a].toNat:Int)] rfl rfl (by exact O7 m [.int .u8 ((⟨#[77,73,68]⟩:ByteArray)[a].toNat:Int)] 5 _ rfl) (H7 _ _) (by unfold maxLen;omega) O Zo ?_;intro v6 w6 T V _)));go_roundw;case rel=>
      have e:rl L (k+1)=(k+1,(rl L k).2++[(k+1-fr,a)]):=by
       rw[rl,if_pos H.o,←y.o,al.o]
      refine⟨k+1,O,Zn,?_,?_,?_⟩
      ·rw[e];rfl
      ·rw[e];simp only;have X:Lib.byteCells (G1 ((rl L k).2++[(k+1-fr,a)]))=Lib.byteCells b++Lib.byteCells (Lib.itoa ((k:Int)+1-fr))++[.int .u8 ((⟨#[77,73,68]⟩:ByteArray)[a].toNat:Int)]:=by
        rw[N3,←s.o,G,A7f a (show a<3 by omega)];simp[Lib.byteCells]
       have Y:(G1 ((rl L k).2++[(k+1-fr,a)])).length=b.length+(Lib.itoa ((k:Int)+1-fr)).length+1:=by
        rw[N3,←s.o,G];simp;omega
       rw[X,Y];exact T
      ·exact((r.o.alloc O _).grown V Zo (fun q hq=>(B.o.lt q hq).1))
     case measure=>simp[RowKit.intOf];omega
    ·have aq:¬(k:Int)+1<n:=O;clear u l;go_upto_region 5 with fail;refine A5 15 (fun W=>W.cell? ⟨g,o+fr,none⟩=some (I J a)) U f (fun hH=>?_);refine A2 0 ?_;refine A2 1 ?_;refine A2 2 ?_;refine A2 3 ?_;refine A2 4 ?_;refine E3 5 ?_;refine E3 6 ?_;refine E3 7 ?_;refine E3 8 ?_;refine E3 9 ?_;refine E3 10 ?_;refine E3 11 ?_;refine E3 12 ?_;refine E3 13 ?_;refine A2 14 ?_;refine J5 ?_;clear hH f;go_wp2_with (first|(go_at_call 114;refine(Any.strconv_AppendInt_10 Tryz.laysAI w.heap.size b.length ((k:Int)+1-fr) O O u3 (Lib.byteCells b) _ (by exact E.o) (by exact ah) O (by exact fun w' R=>af.o w' ((B3 c.o 1).trans R))).mono ?_;rintro e m ⟨v5,rfl,z,A,S⟩;have r:Hd (Below w.heap.size w m):=(B3 c.o 1).trans A;have ay:=(r.o.cell (p:=⟨g,o+fr,none⟩) t).trans am;have B:=A4 z;have az:=r.o.size;clear z A S)|(at_builtin;go_must (refine wpList_append_own _ rfl _ _ 63 rfl w.heap.size 5 i5 (.int .u8 0) 1 1 Tryz.underlying63 ab ac ad ae rfl Z _ _ _ rfl (by exact B.o.alloc _) ⟨m.heap.size,0,none⟩ 1 1 [.int .u8 ((⟨#[77,73,68]⟩:ByteArray)[a].toNat:Int)] rfl rfl (by exact O7 m [.int .u8 ((⟨#[77,73,68]⟩:ByteArray)[a].toNat:Int)] 5 _ rfl) (H7 _ _) (by unfold maxLen;omega) O Zo ?_;intro v6 w6 T V _)));go_roundw;case rel=>
      have e:rl L (k+1)=(k+1,(rl L k).2++[(k+1-fr,a)]):=by
       rw[rl,if_pos H.o,←y.o,al.o]
      refine⟨k+1,O,Zn,?_,?_,?_⟩
      ·rw[e];rfl
      ·rw[e];simp only;have X:Lib.byteCells (G1 ((rl L k).2++[(k+1-fr,a)]))=Lib.byteCells b++Lib.byteCells (Lib.itoa ((k:Int)+1-fr))++[.int .u8 ((⟨#[77,73,68]⟩:ByteArray)[a].toNat:Int)]:=by
        rw[N3,←s.o,G,A7f a (show a<3 by omega)];simp[Lib.byteCells]
       have Y:(G1 ((rl L k).2++[(k+1-fr,a)])).length=b.length+(Lib.itoa ((k:Int)+1-fr)).length+1:=by
        rw[N3,←s.o,G];simp;omega
       rw[X,Y];exact T
      ·exact((r.o.alloc O _).grown V Zo (fun q hq=>(B.o.lt q hq).1))
     case measure=>simp[RowKit.intOf];omega
   ·have hc:=u.2 l;rw[d.o]at hc;obtain⟨K,ar⟩:=hc;have i:=C.o.cell (U0 L (k+1) (by rw[d.o];exact K));rw[ar]at i;rw[←c.o.cell (p:=⟨g,o+(k+1),none⟩) t]at i;have aq:(k:Int)+1<n:=O;have aw:((k:Int)+1).toNat=k+1:=O;have ax:(0:Int)≤(k:Int)+1:=O;have H:=A4 l;clear u ar l;go_upto_region 5 with fail;refine A5 15 (fun W=>W.cell? ⟨g,o+(k+1),none⟩=some (I J a)∧W.cell? ⟨g,o+fr,none⟩=some (I J a)) U ⟨i,f⟩ (fun hH=>?_);refine A2 0 ?_;refine A2 1 ?_;refine A2 2 ?_;refine A2 3 ?_;refine A2 4 ?_;refine A2 5 ?_;refine A2 6 ?_;refine A2 7 ?_;refine A2 8 ?_;refine A2 9 ?_;refine A2 10 ?_;refine A2 11 ?_;refine A2 12 ?_;refine A2 13 ?_;refine A2 14 ?_;refine J5 ?_;clear hH i f;go_wp2_with fail;go_roundw;case rel=>
     have e:rl L (k+1)=rl L k:=by rw[rl,if_neg H.o]
     refine⟨k+1,O,Zn,?_,?_,B3 c.o 1⟩
     ·rw[e,y.o]
     ·rw[e,←s.o];exact E.o
    case measure=>simp[RowKit.intOf];omega
  ·have aA:k=n:=O;subst aA;have aN:=A6k wr w.heap.size u3 b E.o;have aO:¬(k:Int)+1≤k:=O;go_wp2_with fail;go_ret;refine⟨?_,c.o⟩;rw[s.o];rfl
end
section
open Go.RowKit Go.Shelf Go.Lib
theorem A0j.ownPre {w:World}{g n j base:Nat}{h:Nat→C3}(a:A0j w g n h j)(b:j≤n)(c:base≤g)(d:n≤maxLen):A3 w base 219 3 (.slice (some ⟨g,0,none⟩) j n) j (L6 h j):=by
 obtain⟨cur,h1,l,f⟩:=a;refine⟨I5 h j,Or.inr ⟨g,0,n,cur,rfl,c,h1,b,d,O,fun t u ht=>?_⟩⟩;have m:=I5 h j;have o:t<j*3:=by
  rcases Nat.lt_or_ge t (j*3) with h|h
  ·exact h
  ·rw[List.getElem?_eq_none O]at ht;exact absurd ht Zs
 obtain⟨g1,g2,g3⟩:=A0L h j (t/3) O;obtain⟨e1,i,k⟩:=f (t/3) O;rw[Nat.zero_add];rcases (show t=t/3*3∨t=t/3*3+1∨t=t/3*3+2 by omega) with he|he|he
 ·rw[he]at ht⊢;rw[g1]at ht;rw[←ht];exact e1
 ·rw[he]at ht⊢;rw[g2]at ht;rw[←ht];exact i
 ·rw[he]at ht⊢;rw[g3]at ht;rw[←ht];exact k
theorem A8T (m:Nat)(hm:m≤600)(w:World) :
 Calls Tryz.prog 80 #[I J m] w fun e w'=>∃B n v0,e=.returned (.pointer (some ⟨B,0,none⟩))∧w.heap.size≤B∧w'.heap[B]?=some (.cells #[.slice none 0 0,.slice none 0 0,n] 222 (0,0))∧
  A3 w' w.heap.size 217 1 n 1 [v0]∧A3 w' w.heap.size 219 3 v0 1 (L6 (A6i 1048576) 1)∧Below w.heap.size w w':=by
 obtain⟨A,C,D,E,F⟩:=info_parts Tryz.infoCell;obtain⟨b,q,G⟩:∃b:Array Value,b.size=(m+1)*3∧∀W:World,(Instr.makeSlice 217 (I J 1) (I J ((m:Int)+1))).run Tryz.prog W=.ok (.slice (some ⟨W.heap.size,0,none⟩) 1 (m+1)) (W.alloc (.cells b 219)):=by
  refine⟨madeCells (Value.agg #[I J 0,I J 0,I J 0]).cells ((m+1)*3),by rw[size_madeCells],fun W=>?_⟩;have e:(m:Int)+1=((m+1:Nat):Int):=O;rw[e];have:=run_make (P:=Tryz.prog) W 217 219 A _ Tryz.underlying217 C D .i64 .i64 1 ((m+1:Nat):Int) O O (by rw[F];omega) O;rw[E]at this;simpa using this
 have R:IntKind.i64.wrap ((m:Int)+1)=(m:Int)+1:=Zw;go_enter Tryz.func80,Tryz.ntmps80;go_upto_region 2 with fail;obtain⟨w1,f⟩:=A8 (w.alloc (.cells b 219));obtain⟨X,c⟩:=A8 w.heap.size;have h:w1.heap[X]?=some (.cells b 219 (0,0)):=by rw[f,c];exact heap_alloc_new w _
 have g:A0j w1 X (m+1) (A6i 1048576) 0:=⟨b,h,q,fun t ht=>absurd ht O⟩;have r:Hd (Below X w w1):=by rw[f,c];exact(Below.refl _ w).alloc (Nat.le_refl _) _
 have s:w1.heap.size=X+1:=by rw[f,c];simp
 obtain⟨⟨S,c0⟩,z0⟩:=g.any 0 O;obtain⟨⟨T,c1⟩,H⟩:=g.any 1 O;obtain⟨⟨V,c2⟩,z2⟩:=g.any 2 O;have v:=A4 g;have K:=A4 c;rw[←f,←c];clear f c h g q G;go_upto_region 3 with fail;have i:=v.o.set O 0 1048576 1048576 rfl;simp only[Nat.zero_mul,Nat.zero_add]at i;have k:=((r.o.setCell (p:=⟨X,0,none⟩) (Nat.le_refl _) (I J 0)).setCell (p:=⟨X,1,none⟩) (Nat.le_refl _) (I J 1048576)).setCell (p:=⟨X,2,none⟩) (Nat.le_refl _) (I J 1048576);have l:((((w1.setCell ⟨X,0,none⟩ (I J 0)).setCell ⟨X,1,none⟩ (I J 1048576)).setCell ⟨X,2,none⟩ (I J 1048576))).heap.size=X+1:=by simpa using s
 generalize (((w1.setCell ⟨X,0,none⟩ (I J 0)).setCell ⟨X,1,none⟩ (I J 1048576)).setCell ⟨X,2,none⟩ (I J 1048576))=w2 at i k l⊢;have L:=A4 i;have M:=A4 k;clear i k c0 c1 c2 z0 H z2 v r s;go_wp2_with fail;go_ret;obtain⟨a,x⟩:=A8 (.cells #[.slice (some ⟨X,0,none⟩) 1 (m+1)] 217 (0,0):Obj);obtain⟨d,y⟩:=A8 (.cells #[.slice none 0 0,.slice none 0 0,.slice (some ⟨X+1,0,none⟩) 1 1] 222 (0,0):Obj);rw[←x,←y,←K.o];have z:(w2.alloc a).heap.size=X+1+1:=by simp[l]
 have N:((w2.alloc a).alloc d).heap[X+1+1]?=some d:=by
  have:=heap_alloc_new (w2.alloc a) d;rwa [z]at this
 have h:((w2.alloc a).alloc d).heap[X+1]?=some a:=by
  rw[Below.heap_alloc _ _ _ O];have:=heap_alloc_new w2 a;rwa [l]at this
 refine⟨X+1+1,.slice (some ⟨X+1,0,none⟩) 1 1,.slice (some ⟨X,0,none⟩) 1 (m+1),rfl,O,N.trans (by rw[y]),?_,?_,?_⟩
 ·refine⟨rfl,Or.inr ⟨X+1,0,1,#[.slice (some ⟨X,0,none⟩) 1 (m+1)],rfl,O,h.trans (by rw[x]),Nat.le_refl _,Z,Zs,fun j u Q=>?_⟩⟩;simpa using Q
 ·exact((L.o.ownPre O (Nat.le_refl _) (by unfold maxLen;omega)).alloc a).alloc d
 ·exact(M.o.alloc O a).alloc (by rw[z];omega) d
end
section
open Go.RowKit Go.Shelf
def uN (R F:List Nat)(i j:Nat):Int:=prC (R.getD i 9) (F.getD j 9)
def sN (R F:List Nat)(i j:Nat):Bool:=decide (R.getD i 9=F.getD j 9∧R.getD i 9≠4)
theorem A9O (R F:List Nat):∀i j,0≤uN R F i j∧uN R F i j≤4:=fun i j=>by
 unfold uN prC
 split<;>omega
theorem okC.okB {c:C3}{i j:Nat}(h:okC 1048576 c i j)(hi:i≤300)(a:j≤600):okB c:=by
 obtain⟨m,y,d⟩:=c;unfold okC at h;unfold YtilcmkiihefkkaaGreatDoor.okB;simp only at h⊢;omega
theorem A2x (R F:List Nat)(i j:Nat)(hi:i≤300)(a:j≤600):okB (cel 1048576 (uN R F) i j):=(F6 1048576 O (uN R F) (A9O R F) i j hi a).okB hi a
def ScI (R F:List Nat)(n m:Nat)(w wx:World)(sv:Value)(cnt i j x:Nat):Prop:=
 ∃(L:List Nat) (f:Nat),i≤n∧j≤m∧x≤2∧i+j≤f∧L.length+(i+j)≤n+m∧A3 wx w.heap.size 3 1 sv L.length (F1 L)∧L++path 1048576 (uN R F) f i j x=path 1048576 (uN R F) (n+m) n m 0∧
  cnt+A0V (sN R F) (path 1048576 (uN R F) f i j x) i j=A0V (sN R F) (path 1048576 (uN R F) (n+m) n m 0) n m∧Below w.heap.size w wx
theorem ScI.step {R F:List Nat}{n m:Nat}{w wx w':World}{sv sv':Value}{cnt i j x y:Nat}(L:List Nat)(f:Nat)(t:x≤2)(hi:i≤n)(u:j≤m)(v:i+j≤f+1)(z:0<i+j)(A:L.length+(i+j)≤n+m)
 (g:nx (cel 1048576 (uN R F) i j) x=y)(h:y≠2→0<i)(k:y≠1→0<j)
 (h1:L++path 1048576 (uN R F) (f+1) i j x=path 1048576 (uN R F) (n+m) n m 0)
 (l:cnt+A0V (sN R F) (path 1048576 (uN R F) (f+1) i j x) i j=A0V (sN R F) (path 1048576 (uN R F) (n+m) n m 0) n m)
 (p:A3 w' w.heap.size 3 1 sv' (L.length+1) (F1 L++[I J y]))(q:Below w.heap.size w w')
 (o c d:Nat)(a:c=if y=2 then i else i-1)(b:d=if y=1 then j else j-1)(r:o=cnt+if y=0∧sN R F (i-1) (j-1)=true then 1 else 0) :
 ScI R F n m w w' sv' o c d y:=by
 have s:y≤2:=by rw[←g];exact A1m _ _
 have e:path 1048576 (uN R F) (f+1) i j x=y::path 1048576 (uN R F) f c d y:=by
  rw[path,if_neg O,g,←a,←b]
 have B:c≤i:=by rw[a];split<;>omega
 have C:d≤j:=by rw[b];split<;>omega
 have D:c+d+1≤i+j:=by
  rcases (show y=0∨y=1∨y=2 by omega) with rfl|rfl|rfl
  ·have:=h O;have:=k O;simp at a b;omega
  ·have:=h O;simp at a b;omega
  ·have:=k O;simp at a b;omega
 refine⟨L++[y],f,O,O,s,O,Zo,?_,?_,?_,q⟩
 ·rw[List.length_append];have:F1 (L++[y])=F1 L++[I J y]:=by simp[F1]
  rw[this];exact p
 ·rw[e]at h1;rw[List.append_assoc];exact h1
 ·rw[e]at l;rw[←l,A0V,r,←a,←b];omega
theorem B1e (R F:List Nat)(n m base B:Nat)(hR:R.length=n)(hF:F.length=m)(hn:n≤300)(hm:m≤600)(vr vf vw:Value)(VS:List Value)(w:World)
 (hB:w.heap[B]?=some (.cells #[vr,vf,vw] 222 (0,0)))
 (h1:A3 w base 3 1 vr n (F1 R))(h2:A3 w base 3 1 vf m (F1 F))(h3:A3 w base 217 1 vw (n+1) VS)
 (h4:∀i,i≤n→∃v,VS[i]?=some v∧A3 w base 219 3 v (m+1) (L6 (cel 1048576 (uN R F) i) (m+1))) :
 Calls Tryz.prog 83 #[.pointer (some ⟨B,0,none⟩)] w fun e w'=>∃v,e=.returned (.tuple #[v,I J (A0V (sN R F) (path 1048576 (uN R F) (n+m) n m 0) n m:Nat)])∧
  A3 w' w.heap.size 3 1 v (path 1048576 (uN R F) (n+m) n m 0).length (F1 (path 1048576 (uN R F) (n+m) n m 0).reverse)∧Below w.heap.size w w':=by
 obtain⟨i3,ad,ae,ag,ah⟩:=info_parts Tryz.info3;obtain⟨ar,cr,rfl⟩:=h1.shape;obtain⟨af,cf,rfl⟩:=h2.shape;obtain⟨gw,ow,cw,rfl,bc,aN⟩:=h3.addr O;have V:=lt_of_block hB;have b0:w.cell? ⟨B,0,none⟩=some (.slice ar n cr):=A1 hB rfl;have b1:w.cell? ⟨B,1,none⟩=some (.slice af m cf):=A1 hB rfl;have b2:w.cell? ⟨B,2,none⟩=some (.slice (some ⟨gw,ow,none⟩) (n+1) cw):=A1 hB rfl;have H1:=A4 h1;have H2:=A4 h2;have H3:=A4 h3;have H4:=A4 h4;have aO:=A4 hR;have aP:=A4 hF;clear hB h1 h2 h3 h4 hR hF;go_enter Tryz.func83,Tryz.ntmps83;go_wp2_with fail;refine A5 12 (fun W=>W.cell? ⟨B,0,none⟩=some (.slice ar n cr)∧W.cell? ⟨B,1,none⟩=some (.slice af m cf)) U ⟨b0,b1⟩ (fun hH=>?_);refine A2 0 ?_;refine A2 1 ?_;refine A2 2 ?_;refine A2 3 ?_;refine A2 4 ?_;refine A2 5 ?_;refine A2 6 ?_;refine A2 7 ?_;refine A2 8 ?_;refine A2 9 ?_;refine A2 10 ?_;refine A2 11 ?_;refine J5 ?_;clear hH;go_wp2_with fail;have aB:Hd (ScI R F n m w w.drew (.slice none 0 0) 0 n m 0):=⟨[],n+m,Nat.le_refl _,Nat.le_refl _,O,Nat.le_refl _,Zs,A3.nil _ _ _ _,rfl,Zs,B3 (Below.refl _ w) 1⟩;go_loopw [4,5,6,7,8] (fun lv cv iv jv xv wx=>∃cnt i j x:Nat,cv=I J cnt∧iv=I J i∧jv=I J j∧xv=I J x∧cnt+i+j≤n+m∧ScI R F n m w wx lv cnt i j x) (fun _ _ iv jv _ _=>(intOf iv).toNat+(intOf jv).toNat);case atStart=>exact⟨0,n,m,0,rfl,rfl,rfl,rfl,O,aB.o⟩
 case round=>
  clear aB;obtain⟨cnt,i,j,x,rfl,rfl,rfl,rfl,bd,L,f,hi,hj,hx,hf,X,Y,ab,ac,C⟩:=hrel;obtain⟨A,c,hv⟩:=Y.shape;subst hv;have be:=C.size;by_cases hp:0<i+j
  ·obtain⟨f',rfl⟩:∃f',f=f'+1:=⟨f-1,O⟩;obtain⟨v,hV,an⟩:=H4.o i hi;obtain⟨ga,oa,ca,rfl,bf,ap⟩:=an.addr O;have aC:=H3.o.cell hV;obtain⟨d0,d1,d2⟩:=an.cel j O;have aq:=A2x R F i j O O;have D:=X9 1048576 O (cel 1048576 (uN R F) i j) i j O O (F6 1048576 O (uN R F) (A9O R F) i j O O) hp x;have aD:=A1m (cel 1048576 (uN R F) i j) x;obtain⟨cc,au⟩:=A8 (cel 1048576 (uN R F) i j);have aQ:=A4 au;rw[←au]at d0 d1 d2 aq D aD;rw[←C.cell (p:=⟨ga,oa+j*3,none⟩) ap]at d0;rw[←C.cell (p:=⟨ga,oa+j*3+1,none⟩) ap]at d1;rw[←C.cell (p:=⟨ga,oa+j*3+2,none⟩) ap]at d2;rw[←C.cell (p:=⟨gw,ow+i,none⟩) aN]at aC;have bg:=(C.cell (p:=⟨B,0,none⟩) V).trans b0;have bh:=(C.cell (p:=⟨B,1,none⟩) V).trans b1;have bi:=(C.cell (p:=⟨B,2,none⟩) V).trans b2;have cA:=fun W=>T4 cc x hx W aq.big;obtain⟨y,hy⟩:=A8 (nx cc x);obtain⟨a,ha⟩:=A8 (av cc x);rw[←hy,←ha]at cA;rw[←hy]at D aD;have HY:Hd (nx (cel 1048576 (uN R F) i j) x=y):=by
    show _=_;rw[hy,aQ.o]
   have Q:=A4 ab;have S:=A4 ac;obtain⟨ll,aa⟩:=A8 L.length;have r:=A4 aa;rw[←aa]at Y X⊢;have s:=A4 Y;have T:=A4 C;have bj:∀W,(Instr.field 224 (.agg #[I J (y:Nat),I J a]) 0).run Tryz.prog W=.ok (I J (y:Nat)) W:=fun _=>U;have bk:(i:Int)<(n:Int)+1:=O;have bl:(j:Int)<(m:Int)+1:=O;obtain⟨cm,ci,cd⟩:=cc;simp only at d0 d1 d2 cA;clear au hy ha aq ab ac aa Y C an hV;rcases (show(y=0∧0<i)∨(y=1∧0<i)∨(y=2∧0<i)∨(y=2∧i=0) by
    rcases (show y=0∨y=1∨y=2 by omega) with h|h|h
    ·have:=D.1 h;omega
    ·have:=D.2.1 h;omega
    ·omega) with⟨rfl,aE⟩|⟨rfl,aE⟩|⟨rfl,aE⟩|⟨rfl,rfl⟩
   ·have aF:=(D.1 rfl).2;obtain⟨gr,or,aR,aG,bm,aH⟩:=H1.o.addr O;obtain⟨gf,of,aS,aI,bn,aJ⟩:=H2.o.addr O;have aT:ar=some ⟨gr,or,none⟩∧cr=aR:=by simpa using aG
    obtain⟨rfl,rfl⟩:=aT;have aU:af=some ⟨gf,of,none⟩∧cf=aS:=by simpa using aI
    obtain⟨rfl,rfl⟩:=aU;have aw:=H1.o.cell (U0 R (i-1) (by rw[aO.o];omega));have ax:=H2.o.cell (U0 F (j-1) (by rw[aP.o];omega));obtain⟨p,ai⟩:=A8 (R.getD (i-1) 9);obtain⟨q,aj⟩:=A8 (F.getD (j-1) 9);rw[←ai]at aw;rw[←aj]at ax;have bo:((i:Int)-1).toNat=i-1:=O;have bp:((j:Int)-1).toNat=j-1:=O;have bq:(0:Int)≤(i:Int)-1:=O;have br:(0:Int)≤(j:Int)-1:=O;have bs:(1:Int)≤(i:Int):=O;have bt:(1:Int)≤(j:Int):=O;have bu:(i:Int)-1<n:=O;have bv:(j:Int)-1<m:=O;have cS:=fun W=>A19 p q W;clear aG aI D;by_cases hs:p=q∧p≠4
    ·have ay:Hd (sN R F (i-1) (j-1)=true):=by
      show _=_;unfold sN;rw[←ai,←aj];exact decide_eq_true hs
     rw[decide_eq_true hs]at cS;clear ai aj hs;have ak:IntKind.i64.wrap ((cnt:Int)+1)=(cnt:Int)+1:=Zw;have aK:IntKind.i64.wrap ((i:Int)-1)=(i:Int)-1:=Zw;have az:IntKind.i64.wrap ((j:Int)-1)=(j:Int)-1:=Zw;have aA:(0:Int)<i:=O;have al:∀W,(Instr.field 224 (.agg #[I J 0,I J a]) 0).run Tryz.prog W=.ok (I J 0) W:=fun _=>U;go_upto_region 12 with(first|(go_at_call 110;refine(cA _).mono ?_;rintro e d ⟨rfl,k⟩;have t:=A4 k;have am:=k.size;clear k)|(at_builtin;go_must (refine B5 _ rfl (.tmp 38) (.tmp 40) 56 rfl 3 i3 _ 1 8 Tryz.underlying56 ad ae ag ah rfl Z w.heap.size (.slice A ll c) ll (F1 L) rfl (by exact(s.o.other (fun g _ E=>t.o.block g E)).alloc _) ⟨d.heap.size,0,none⟩ 1 [I J (0:Nat)] rfl rfl (by exact O7 d [I J (0:Nat)] 3 _ rfl) (H7 _ _) (by unfold maxLen;omega) O Zo ?_;intro g' o' cap' b u z;have G:=A4 u;have l:Hd (Below w.heap.size w b):=(T.o.trans (t.o.mono O)).trans (((Below.refl _ d).alloc O _).trans (z.below (fun g H=>(s.o.lt H).1) Zo));clear u z)));have s0:=(l.o.cell (p:=⟨B,0,none⟩) V).trans b0;have s1:=(l.o.cell (p:=⟨B,1,none⟩) V).trans b1;have s2:=(l.o.cell (p:=⟨gr,or+(i-1),none⟩) aH).trans aw;have s3:=(l.o.cell (p:=⟨gf,of+(j-1),none⟩) aJ).trans ax;refine A5 19 (fun W=>W.cell? ⟨B,0,none⟩=some (.slice (some ⟨gr,or,none⟩) n cr)∧W.cell? ⟨B,1,none⟩=some (.slice (some ⟨gf,of,none⟩) m cf)∧W.cell? ⟨gr,or+(i-1),none⟩=some (I J (p:Nat))∧W.cell? ⟨gf,of+(j-1),none⟩=some (I J (q:Nat))) U ⟨s0,s1,s2,s3⟩ (fun hH=>?_);refine A2 0 ?_;refine A2 1 ?_;refine A2 2 ?_;refine A2 3 ?_;refine A2 4 ?_;refine A2 5 ?_;refine A2 6 ?_;refine A2 7 ?_;refine A2 8 ?_;refine A2 9 ?_;refine A2 10 ?_;refine A2 11 ?_;refine A2 12 ?_;refine A2 13 ?_;refine A2 14 ?_;refine A2 15 ?_;refine A2 16 ?_;refine wpS 17 fun K hK=>?_;go_simp;go_at_call 112;refine(cS _).mono ?_;rintro e w8 ⟨rfl,rfl⟩;refine E0 hK hH ?_;clear hK K;refine A2 18 ?_;refine J5 ?_;clear hH;go_wp2_with fail;go_roundw;case rel=>
      refine⟨cnt+1,i-1,j-1,0,Zn,by rw[show(i:Int)-1=((i-1:Nat):Int) by omega],by rw[show(j:Int)-1=((j-1:Nat):Int) by omega],rfl,O,?_⟩;have M:L.length+(i+j)≤n+m:=by rw[←r.o];exact X
      have N:A3 b.drew w.heap.size 3 1 (.slice (some ⟨g',o',none⟩) (ll+1) cap') (L.length+1) (F1 L++[I J ((0:Nat):Int)]):=by
       rw[←r.o];exact G.o.drewN 1
      have P:Below w.heap.size w b.drew:=B3 l.o 1;refine ScI.step (wx:=wr) (w':=b.drew) (sv:=.slice A ll c) (sv':=.slice (some ⟨g',o',none⟩) (ll+1) cap') (cnt:=cnt) (i:=i) (j:=j) (x:=x) (y:=0) L f' hx hi hj hf hp M HY.o ?_ ?_ Q.o S.o N P (cnt+1) (i-1) (j-1) ?_ ?_ ?_
      ·intro h;omega
      ·intro h;omega
      ·rw[if_neg Z]
      ·rw[if_neg Z]
      ·rw[if_pos ⟨rfl,ay.o⟩]
     case measure=>simp[intOf];omega
    ·have ay:Hd (sN R F (i-1) (j-1)=false):=by
      show _=_;unfold sN;rw[←ai,←aj];exact decide_eq_false hs
     rw[decide_eq_false hs]at cS;clear ai aj hs;have ak:IntKind.i64.wrap ((cnt:Int)+1)=(cnt:Int)+1:=Zw;have aK:IntKind.i64.wrap ((i:Int)-1)=(i:Int)-1:=Zw;have az:IntKind.i64.wrap ((j:Int)-1)=(j:Int)-1:=Zw;have aA:(0:Int)<i:=O;have al:∀W,(Instr.field 224 (.agg #[I J 0,I J a]) 0).run Tryz.prog W=.ok (I J 0) W:=fun _=>U;go_upto_region 12 with(first|(go_at_call 110;refine(cA _).mono ?_;rintro e d ⟨rfl,k⟩;have t:=A4 k;have am:=k.size;clear k)|(at_builtin;go_must (refine B5 _ rfl (.tmp 38) (.tmp 40) 56 rfl 3 i3 _ 1 8 Tryz.underlying56 ad ae ag ah rfl Z w.heap.size (.slice A ll c) ll (F1 L) rfl (by exact(s.o.other (fun g _ E=>t.o.block g E)).alloc _) ⟨d.heap.size,0,none⟩ 1 [I J (0:Nat)] rfl rfl (by exact O7 d [I J (0:Nat)] 3 _ rfl) (H7 _ _) (by unfold maxLen;omega) O Zo ?_;intro g' o' cap' b u z;have G:=A4 u;have l:Hd (Below w.heap.size w b):=(T.o.trans (t.o.mono O)).trans (((Below.refl _ d).alloc O _).trans (z.below (fun g H=>(s.o.lt H).1) Zo));clear u z)));have s0:=(l.o.cell (p:=⟨B,0,none⟩) V).trans b0;have s1:=(l.o.cell (p:=⟨B,1,none⟩) V).trans b1;have s2:=(l.o.cell (p:=⟨gr,or+(i-1),none⟩) aH).trans aw;have s3:=(l.o.cell (p:=⟨gf,of+(j-1),none⟩) aJ).trans ax;refine A5 19 (fun W=>W.cell? ⟨B,0,none⟩=some (.slice (some ⟨gr,or,none⟩) n cr)∧W.cell? ⟨B,1,none⟩=some (.slice (some ⟨gf,of,none⟩) m cf)∧W.cell? ⟨gr,or+(i-1),none⟩=some (I J (p:Nat))∧W.cell? ⟨gf,of+(j-1),none⟩=some (I J (q:Nat))) U ⟨s0,s1,s2,s3⟩ (fun hH=>?_);refine A2 0 ?_;refine A2 1 ?_;refine A2 2 ?_;refine A2 3 ?_;refine A2 4 ?_;refine A2 5 ?_;refine A2 6 ?_;refine A2 7 ?_;refine A2 8 ?_;refine A2 9 ?_;refine A2 10 ?_;refine A2 11 ?_;refine A2 12 ?_;refine A2 13 ?_;refine A2 14 ?_;refine A2 15 ?_;refine A2 16 ?_;refine wpS 17 fun K hK=>?_;go_simp;go_at_call 112;refine(cS _).mono ?_;rintro e w8 ⟨rfl,rfl⟩;refine E0 hK hH ?_;clear hK K;refine A2 18 ?_;refine J5 ?_;clear hH;go_wp2_with fail;go_roundw;case rel=>
      refine⟨cnt,i-1,j-1,0,rfl,by rw[show(i:Int)-1=((i-1:Nat):Int) by omega],by rw[show(j:Int)-1=((j-1:Nat):Int) by omega],rfl,O,?_⟩;have M:L.length+(i+j)≤n+m:=by rw[←r.o];exact X
      have N:A3 b.drew w.heap.size 3 1 (.slice (some ⟨g',o',none⟩) (ll+1) cap') (L.length+1) (F1 L++[I J ((0:Nat):Int)]):=by
       rw[←r.o];exact G.o.drewN 1
      have P:Below w.heap.size w b.drew:=B3 l.o 1;refine ScI.step (wx:=wr) (w':=b.drew) (sv:=.slice A ll c) (sv':=.slice (some ⟨g',o',none⟩) (ll+1) cap') (cnt:=cnt) (i:=i) (j:=j) (x:=x) (y:=0) L f' hx hi hj hf hp M HY.o ?_ ?_ Q.o S.o N P (cnt) (i-1) (j-1) ?_ ?_ ?_
      ·intro h;omega
      ·intro h;omega
      ·rw[if_neg Z]
      ·rw[if_neg Z]
      ·rw[if_neg (fun h=>by have:=h.2;rw[ay.o]at this;cases this)];exact(Nat.add_zero _).symm
     case measure=>simp[intOf];omega
   ·clear D;have ak:IntKind.i64.wrap ((cnt:Int)+1)=(cnt:Int)+1:=Zw;have aK:IntKind.i64.wrap ((i:Int)-1)=(i:Int)-1:=Zw;have aA:(0:Int)<i:=O;have al:∀W,(Instr.field 224 (.agg #[I J 1,I J a]) 0).run Tryz.prog W=.ok (I J 1) W:=fun _=>U;go_upto_region 12 with(first|(go_at_call 110;refine(cA _).mono ?_;rintro e d ⟨rfl,k⟩;have t:=A4 k;have am:=k.size;clear k)|(at_builtin;go_must (refine B5 _ rfl (.tmp 38) (.tmp 40) 56 rfl 3 i3 _ 1 8 Tryz.underlying56 ad ae ag ah rfl Z w.heap.size (.slice A ll c) ll (F1 L) rfl (by exact(s.o.other (fun g _ E=>t.o.block g E)).alloc _) ⟨d.heap.size,0,none⟩ 1 [I J (1:Nat)] rfl rfl (by exact O7 d [I J (1:Nat)] 3 _ rfl) (H7 _ _) (by unfold maxLen;omega) O Zo ?_;intro g' o' cap' b u z;have G:=A4 u;have l:Hd (Below w.heap.size w b):=(T.o.trans (t.o.mono O)).trans (((Below.refl _ d).alloc O _).trans (z.below (fun g H=>(s.o.lt H).1) Zo));clear u z)));refine A5 19 (fun W=>True) U trivial (fun hH=>?_);refine A2 0 ?_;refine A2 1 ?_;refine A2 2 ?_;refine E3 3 ?_;refine E3 4 ?_;refine E3 5 ?_;refine E3 6 ?_;refine E3 7 ?_;refine E3 8 ?_;refine E3 9 ?_;refine E3 10 ?_;refine E3 11 ?_;refine E3 12 ?_;refine E3 13 ?_;refine E3 14 ?_;refine E3 15 ?_;refine E3 16 ?_;refine E3 17 ?_;refine A2 18 ?_;refine J5 ?_;clear hH;go_wp2_with fail;go_roundw;case rel=>
     refine⟨cnt,i-1,j,1,rfl,by rw[show(i:Int)-1=((i-1:Nat):Int) by omega],rfl,rfl,O,?_⟩;have M:L.length+(i+j)≤n+m:=by rw[←r.o];exact X
     have N:A3 b.drew w.heap.size 3 1 (.slice (some ⟨g',o',none⟩) (ll+1) cap') (L.length+1) (F1 L++[I J ((1:Nat):Int)]):=by
      rw[←r.o];exact G.o.drewN 1
     have P:Below w.heap.size w b.drew:=B3 l.o 1;refine ScI.step (wx:=wr) (w':=b.drew) (sv:=.slice A ll c) (sv':=.slice (some ⟨g',o',none⟩) (ll+1) cap') (cnt:=cnt) (i:=i) (j:=j) (x:=x) (y:=1) L f' hx hi hj hf hp M HY.o ?_ ?_ Q.o S.o N P (cnt) (i-1) (j) ?_ ?_ ?_
     ·intro h;omega
     ·intro h;exact absurd rfl h
     ·rw[if_neg Z]
     ·rw[if_pos rfl]
     ·rw[if_neg (fun h=>absurd h.1 Z)];rfl
    case measure=>simp[intOf];omega
   ·have aF:=D.2.2 rfl;clear D;have ak:IntKind.i64.wrap ((cnt:Int)+1)=(cnt:Int)+1:=Zw;have az:IntKind.i64.wrap ((j:Int)-1)=(j:Int)-1:=Zw;have aA:(0:Int)<i:=O;have al:∀W,(Instr.field 224 (.agg #[I J 2,I J a]) 0).run Tryz.prog W=.ok (I J 2) W:=fun _=>U;go_upto_region 12 with(first|(go_at_call 110;refine(cA _).mono ?_;rintro e d ⟨rfl,k⟩;have t:=A4 k;have am:=k.size;clear k)|(at_builtin;go_must (refine B5 _ rfl (.tmp 38) (.tmp 40) 56 rfl 3 i3 _ 1 8 Tryz.underlying56 ad ae ag ah rfl Z w.heap.size (.slice A ll c) ll (F1 L) rfl (by exact(s.o.other (fun g _ E=>t.o.block g E)).alloc _) ⟨d.heap.size,0,none⟩ 1 [I J (2:Nat)] rfl rfl (by exact O7 d [I J (2:Nat)] 3 _ rfl) (H7 _ _) (by unfold maxLen;omega) O Zo ?_;intro g' o' cap' b u z;have G:=A4 u;have l:Hd (Below w.heap.size w b):=(T.o.trans (t.o.mono O)).trans (((Below.refl _ d).alloc O _).trans (z.below (fun g H=>(s.o.lt H).1) Zo));clear u z)));refine A5 19 (fun W=>True) U trivial (fun hH=>?_);refine A2 0 ?_;refine A2 1 ?_;refine A2 2 ?_;refine E3 3 ?_;refine E3 4 ?_;refine E3 5 ?_;refine E3 6 ?_;refine E3 7 ?_;refine E3 8 ?_;refine E3 9 ?_;refine E3 10 ?_;refine E3 11 ?_;refine E3 12 ?_;refine E3 13 ?_;refine E3 14 ?_;refine E3 15 ?_;refine E3 16 ?_;refine E3 17 ?_;refine A2 18 ?_;refine J5 ?_;clear hH;go_wp2_with fail;go_roundw;case rel=>
     refine⟨cnt,i,j-1,2,rfl,rfl,by rw[show(j:Int)-1=((j-1:Nat):Int) by omega],rfl,O,?_⟩;have M:L.length+(i+j)≤n+m:=by rw[←r.o];exact X
     have N:A3 b.drew w.heap.size 3 1 (.slice (some ⟨g',o',none⟩) (ll+1) cap') (L.length+1) (F1 L++[I J ((2:Nat):Int)]):=by
      rw[←r.o];exact G.o.drewN 1
     have P:Below w.heap.size w b.drew:=B3 l.o 1;refine ScI.step (wx:=wr) (w':=b.drew) (sv:=.slice A ll c) (sv':=.slice (some ⟨g',o',none⟩) (ll+1) cap') (cnt:=cnt) (i:=i) (j:=j) (x:=x) (y:=2) L f' hx hi hj hf hp M HY.o ?_ ?_ Q.o S.o N P (cnt) (i) (j-1) ?_ ?_ ?_
     ·intro h;exact absurd rfl h
     ·intro h;omega
     ·rw[if_pos rfl]
     ·rw[if_neg Z]
     ·rw[if_neg (fun h=>absurd h.1 Z)];rfl
    case measure=>simp[intOf];omega
   ·have aF:=D.2.2 rfl;clear D;have ak:IntKind.i64.wrap ((cnt:Int)+1)=(cnt:Int)+1:=Zw;have az:IntKind.i64.wrap ((j:Int)-1)=(j:Int)-1:=Zw;have bw:(0:Int)<j:=O;have al:∀W,(Instr.field 224 (.agg #[I J 2,I J a]) 0).run Tryz.prog W=.ok (I J 2) W:=fun _=>U;simp only[Nat.add_zero]at aC;go_upto_region 12 with(first|(go_at_call 110;refine(cA _).mono ?_;rintro e d ⟨rfl,k⟩;have t:=A4 k;have am:=k.size;clear k)|(at_builtin;go_must (refine B5 _ rfl (.tmp 38) (.tmp 40) 56 rfl 3 i3 _ 1 8 Tryz.underlying56 ad ae ag ah rfl Z w.heap.size (.slice A ll c) ll (F1 L) rfl (by exact(s.o.other (fun g _ E=>t.o.block g E)).alloc _) ⟨d.heap.size,0,none⟩ 1 [I J (2:Nat)] rfl rfl (by exact O7 d [I J (2:Nat)] 3 _ rfl) (H7 _ _) (by unfold maxLen;omega) O Zo ?_;intro g' o' cap' b u z;have G:=A4 u;have l:Hd (Below w.heap.size w b):=(T.o.trans (t.o.mono O)).trans (((Below.refl _ d).alloc O _).trans (z.below (fun g H=>(s.o.lt H).1) Zo));clear u z)));refine A5 19 (fun W=>True) U trivial (fun hH=>?_);refine A2 0 ?_;refine A2 1 ?_;refine A2 2 ?_;refine E3 3 ?_;refine E3 4 ?_;refine E3 5 ?_;refine E3 6 ?_;refine E3 7 ?_;refine E3 8 ?_;refine E3 9 ?_;refine E3 10 ?_;refine E3 11 ?_;refine E3 12 ?_;refine E3 13 ?_;refine E3 14 ?_;refine E3 15 ?_;refine E3 16 ?_;refine E3 17 ?_;refine A2 18 ?_;refine J5 ?_;clear hH;go_wp2_with fail;go_roundw;case rel=>
     refine⟨cnt,0,j-1,2,rfl,rfl,by rw[show(j:Int)-1=((j-1:Nat):Int) by omega],rfl,O,?_⟩;have M:L.length+(0+j)≤n+m:=by rw[←r.o];exact X
     have N:A3 b.drew w.heap.size 3 1 (.slice (some ⟨g',o',none⟩) (ll+1) cap') (L.length+1) (F1 L++[I J ((2:Nat):Int)]):=by
      rw[←r.o];exact G.o.drewN 1
     have P:Below w.heap.size w b.drew:=B3 l.o 1;refine ScI.step (wx:=wr) (w':=b.drew) (sv:=.slice A ll c) (sv':=.slice (some ⟨g',o',none⟩) (ll+1) cap') (cnt:=cnt) (i:=0) (j:=j) (x:=x) (y:=2) L f' hx hi hj hf hp M HY.o ?_ ?_ Q.o S.o N P (cnt) (0) (j-1) ?_ ?_ ?_
     ·intro h;exact absurd rfl h
     ·intro h;omega
     ·rw[if_pos rfl]
     ·rw[if_neg Z]
     ·rw[if_neg (fun h=>absurd h.1 Z)];rfl
    case measure=>simp[intOf];omega
  ·have aV:i=0:=O;have aW:j=0:=O;subst aV;subst aW;have aL:path 1048576 (uN R F) f 0 0 x=[]:=by
    cases f with
    |zero=>rfl
    |succ f=>rw[path];rfl
   rw[aL]at ab ac;rw[List.append_nil]at ab;simp only[A0V,Nat.add_zero]at ac;have Q:=A4 ab;have S:=A4 ac;have T:=A4 C;obtain⟨ll,aa⟩:=A8 L.length;have r:=A4 aa;rw[←aa]at Y X⊢;have s:=A4 Y;clear ab ac aL C aa Y;rcases Nat.eq_zero_or_pos ll with rfl|aX
   ·go_wp2_with (go_at_call 113;refine(B03 A c _).mono ?_;rintro e w9 ⟨rfl,rfl⟩);go_ret2;have aM:L=[]:=List.eq_nil_of_length_eq_zero r.o.symm;refine⟨.slice A 0 c,?_,?_,T.o⟩
    ·rw[←S.o];rfl
    ·rw[←Q.o,←r.o,aM,List.reverse_nil];have:=s.o;rw[aM]at this;exact this
   ·obtain⟨g,o,c',hv,aY,bx⟩:=s.o.addr aX;have aZ:A=some ⟨g,o,none⟩∧c=c':=by simpa using hv
    obtain⟨rfl,rfl⟩:=aZ;clear hv;go_wp2_with (go_at_call 113;refine(B1n L ll r.o.symm O w.heap.size g o c _ s.o).mono ?_;rintro e w9 ⟨rfl,ba,bb⟩);go_ret2;refine⟨.slice (some ⟨g,o,none⟩) ll c,?_,?_,T.o.trans (bb.mono aY)⟩
    ·rw[←S.o];rfl
    ·rw[←Q.o,←r.o];exact ba
def nums (l:List UInt8):List Nat:=l.map fun c=>(B2 c).toNat
theorem nums_length (l:List UInt8):(nums l).length=l.length:=by simp[nums]
theorem A1S (s:ByteArray)(j:Nat)(h:j<s.size):(nums s.data.toList).getD j 9=(B2 s[j]).toNat:=by
 have a:j<s.data.toList.length:=by simpa using h
 unfold nums;rw[List.getD_eq_getElem?_getD,List.getElem?_map,List.getElem?_eq_getElem a];rfl
theorem A3Q (s:ByteArray)(k:Nat)(h:k<s.size):(nums s.data.toList).take (k+1)=(nums s.data.toList).take k++[(B2 s[k]).toNat]:=by
 have a:k<(nums s.data.toList).length:=by rw[nums_length];simpa using h
 rw[List.take_succ_eq_append_getElem a,←A1S s k h];simp[a]
def pth (R F:List Nat):List Nat:=path 1048576 (uN R F) (R.length+F.length) R.length F.length 0
theorem A0x (N:Int)(u:Nat→Nat→Int):∀f i j x,(path N u f i j x).length≤f
 |0,_,_,_=>Nat.le_refl _
 |f+1,i,j,x=>by
  rw[path]
  split
  ·exact Nat.zero_le _
  ·simp only[List.length_cons]
   have:=A0x N u f (if nx (cel N u i j) x=2 then i else i-1) (if nx (cel N u i j) x=1 then j else j-1) (nx (cel N u i j) x)
   omega
theorem A1D (N:Int)(u:Nat→Nat→Int):∀f i j x,∀y∈path N u f i j x,y≤2
 |0,_,_,_,y,h=>by cases h
 |f+1,i,j,x,y,h=>by
  rw[path]at h
  split at h
  ·cases h
  ·rcases List.mem_cons.1 h with rfl|h
   ·exact A1m _ _
   ·exact A1D N u f _ _ _ y h
def scE (read ref:List UInt8):Nat:=if read.length>300∨ref.length>600 then 1 else if (∀c∈read,0≤B2 c)∧(∀c∈ref,0≤B2 c) then 0 else 2
def scT (read ref:List UInt8):List UInt8:=if scE read ref=0 then G1 (rl (pth (nums read) (nums ref)).reverse (pth (nums read) (nums ref)).length).2 else []
def scN (read ref:List UInt8):Nat:=if scE read ref=0 then A0V (sN (nums read) (nums ref)) (pth (nums read) (nums ref)) (nums read).length (nums ref).length else 0
theorem U8 (s:ByteArray):good s↔∀c∈s.data.toList,0≤B2 c:=by
 constructor
 ·intro h c b;obtain⟨j,a,rfl⟩:=List.getElem_of_mem b;exact h j (by simpa using a)
 ·intro h j a;exact h _ (by
   have:s[j]=s.data.toList[j]'(by simpa using a):=rfl;rw[this];exact List.getElem_mem _)
def ClI (F:List Nat)(w:World)(B:Nat)(vw:Value)(k:Nat)(wx:World):Prop:=
 ∃vr v0,wx.heap[B]?=some (.cells #[.slice none 0 0,vr,vw] 222 (0,0))∧A3 wx w.heap.size 3 1 vr k (F1 (F.take k))∧A3 wx w.heap.size 217 1 vw 1 [v0]∧
  A3 wx w.heap.size 219 3 v0 (k+1) (L6 (A6i 1048576) (k+1))∧Below w.heap.size w wx
theorem A5x (args:Array Value)(w:World):(callFunc 81 args).run Tryz.prog w=.ok (.enter 81 args) w:=enters_of Tryz.func81 U rfl args w
theorem A5c (args:Array Value)(w:World):(callFunc 82 args).run Tryz.prog w=.ok (.enter 82 args) w:=enters_of Tryz.func82 U rfl args w
theorem ClI.step (ref:ByteArray)(w:World)(B:Nat)(a:Value)(d:w.heap.size≤B)(hm:ref.size≤600)(k:Nat)(hk:k<ref.size)(wx:World)(r:0≤B2 ref[k])(h:ClI (nums ref.data.toList) w B a k wx) :
 Calls Tryz.prog 81 #[.pointer (some ⟨B,0,none⟩),I J k,I J (B2 ref[k])] wx fun e w'=>e=.returned (.tuple #[])∧ClI (nums ref.data.toList) w B a (k+1) w':=by
 obtain⟨f,v0,h1,g,i,j,l⟩:=h;have s:=I4 ref[k];obtain⟨x,c⟩:∃x:Nat,B2 ref[k]=x:=⟨(B2 ref[k]).toNat,O⟩;have b:=A2x [] [] 0 k O O;have m:cel 1048576 (uN [] []) 0 k=A6i 1048576 k:=rfl;rw[m]at b;have n:=b.av 2;have o:=B0L w.heap.size B k x (A6i 1048576) ((nums ref.data.toList).take k) (.slice none 0 0) f a v0 wx O O d b.big ⟨O,n.1⟩ h1 g i j;rw[c];refine o.mono ?_;rintro e w' ⟨rfl,p,q,g1,g2,g3,g4,g5⟩;refine⟨rfl,p,q,g1,?_,g3,?_,l.trans g5⟩
 ·rw[A3Q ref k hk,c];exact g2
 ·rw[A1i];exact g4
def RwI (R F:List Nat)(w:World)(B:Nat)(vf:Value)(k:Nat)(wx:World):Prop:=
 ∃vr vw VS,wx.heap[B]?=some (.cells #[vr,vf,vw] 222 (0,0))∧A3 wx w.heap.size 3 1 vr k (F1 (R.take k))∧A3 wx w.heap.size 3 1 vf F.length (F1 F)∧A3 wx w.heap.size 217 1 vw (k+1) VS∧
  (∀i,i≤k→∃v,VS[i]?=some v∧A3 wx w.heap.size 219 3 v (F.length+1) (L6 (cel 1048576 (uN R F) i) (F.length+1)))∧(∀g,vr.ownBlock=some g→vf.ownBlock≠some g)∧Below w.heap.size w wx
theorem RwI.step (read:ByteArray)(F:List Nat)(w:World)(B:Nat)(a:Value)(j:w.heap.size≤B)(K:read.size≤300)(hm:F.length≤600)(k:Nat)(hk:k<read.size)(wx:World)(L:0≤B2 read[k])(h:RwI (nums read.data.toList) F w B a k wx) :
 Calls Tryz.prog 82 #[.pointer (some ⟨B,0,none⟩),I J k,I J (B2 read[k])] wx fun e w'=>e=.returned (.tuple #[])∧RwI (nums read.data.toList) F w B a (k+1) w':=by
 obtain⟨l,m,b,h1,n,o,d,f,p,q⟩:=h;have M:=I4 read[k];obtain⟨x,c⟩:∃x:Nat,B2 read[k]=x:=⟨(B2 read[k]).toNat,O⟩;obtain⟨r,s,u⟩:=f k (Nat.le_refl _);have y:x=(nums read.data.toList).getD k 9:=by rw[A1S read k hk,c];rfl
 have z:b.length=k+1:=by have:=d.1;omega
 have A:=B0R w.heap.size B k x F.length (cel 1048576 (uN (nums read.data.toList) F) k) (cel 1048576 (uN (nums read.data.toList) F) (k+1)) F ((nums read.data.toList).take k) l a m r b wx rfl hm O j
  (by rw[y];rfl) (fun t ht=>A2x _ _ k t O O) (fun t ht=>A2x _ _ (k+1) t O O) h1 n o d s u p
 rw[c];refine A.mono ?_;rintro e w' ⟨rfl,C,D,g,g1,g2,g3,g4,g5,g6,g7,g8⟩;refine⟨rfl,C,D,b++[g],g1,?_,g3,g4,fun i hi=>?_,g6,q.trans g8⟩
 ·rw[A3Q read k hk,c];exact g2
 ·by_cases E:i≤k
  ·obtain⟨v,G,ho⟩:=f i E;exact⟨v,by rw[List.getElem?_append_left O];exact G,g7 v _ _ ho⟩
  ·have H:i=k+1:=O;subst H;refine⟨g,?_,g5⟩;rw[List.getElem?_append_right O,z];simp
theorem A2p (read ref:ByteArray)(w:World)(av:read.size≤140737488351232)(aw:ref.size≤140737488351232)(Q:Lib.TabBelow Tryz.prog w.heap.size w "internal/strconv.uint64pow10" .u64 Lib.pow10Tab) :
 Calls Tryz.prog 55 #[.string read,.string ref] w fun e w'=>e=.returned (.tuple #[.string ⟨(scT read.data.toList ref.data.toList).toArray⟩,I J (scN read.data.toList ref.data.toList:Nat),I J (scE read.data.toList ref.data.toList:Nat)])∧Below w.heap.size w w':=by
 have HT:=A4 Q;have e1:read.data.toList.length=read.size:=Zs;have t:ref.data.toList.length=ref.size:=Zs;clear Q;by_cases E:read.size>300∨ref.size>600
 ·have u:scE read.data.toList ref.data.toList=1:=by unfold scE;rw[e1,t,if_pos E]
  have R:scT read.data.toList ref.data.toList=[]:=by unfold scT;rw[u];rfl
  have S:scN read.data.toList ref.data.toList=0:=by unfold scN;rw[u];rfl
  rw[u,R,S];clear u R S e1 t;go_enter Tryz.func55,Tryz.ntmps55;by_cases hr:read.size>300
  ·have T:(300:Int)<read.size:=O;go_wp2_with fail;go_ret3;exact⟨rfl,Below.refl _ _⟩
  ·have T:¬(300:Int)<read.size:=O;have ai:(600:Int)<ref.size:=O;go_wp2_with fail;go_ret3;exact⟨rfl,Below.refl _ _⟩
 ·have T:¬(300:Int)<read.size:=O;have ai:¬(600:Int)<ref.size:=O;have HE:Hd (good read→good ref→scE read.data.toList ref.data.toList=0):=by
   intro h1 f;unfold scE;rw[e1,t,if_neg E,if_pos ⟨(U8 read).1 h1,(U8 ref).1 f⟩]
  have V:Hd (∀(h:¬(good read∧good ref)),scE read.data.toList ref.data.toList=2∧scT read.data.toList ref.data.toList=[]∧scN read.data.toList ref.data.toList=0):=by
   intro h;have f:scE read.data.toList ref.data.toList=2:=by
    unfold scE;rw[e1,t,if_neg E,if_neg (fun X=>h ⟨(U8 read).2 X.1,(U8 ref).2 X.2⟩)]
   exact⟨f,by unfold scT;rw[f];rfl,by unfold scN;rw[f];rfl⟩
  have v:=fun W=>A8T ref.size O W;have ec:=A5x;have er:=A5c;go_enter Tryz.func55,Tryz.ntmps55;go_wp2_with fail;refine(v _).mono ?_;rintro e w1 ⟨B,y,v0,rfl,Y,b1,b2,b3,b4⟩;have ax:=A4 b4;have aa:ClI (nums ref.data.toList) w B y 0 w1:=⟨.slice none 0 0,v0,b1,A3.nil _ _ _ _,b2,b3,b4⟩;have ab:=A4 aa;clear b1 b2 b3 b4 aa v;go_wp2_with fail;refine(L1 81 A5x (.pointer (some ⟨B,0,none⟩)) ref w1 O (ClI (nums ref.data.toList) w B y) (fun k hk wx F h=>ClI.step ref w B y Y O k hk wx F h) ab.o).mono ?_;rintro e w2 ⟨k,hk,l,b,G⟩;rcases G with⟨rfl,rfl⟩|⟨H,K,rfl⟩
  ·have m:good ref:=fun j n=>b j n n;have aj:=A4 m;obtain⟨p,L,c1,c2,c3,c4,c5⟩:=l;have q:(nums ref.data.toList).take ref.size=nums ref.data.toList:=List.take_of_length_le (by rw[nums_length];simp);rw[q]at c2;have a:(nums ref.data.toList).length=ref.size:=by rw[nums_length];simp
   have ak:Hd (RwI (nums read.data.toList) (nums ref.data.toList) w B p 0 w2):=by
    refine⟨.slice none 0 0,y,[L],c1,A3.nil _ _ _ _,by rw[a];exact c2,c3,fun i hi=>?_,fun g v=>by simp[Value.ownBlock]at v,c5⟩;have al:i=0:=O;subst al;exact⟨L,rfl,by rw[a];exact c4⟩
   clear b m c1 c2 c3 c4 c5 q ab;go_wp2_with fail;refine(L1 82 A5c (.pointer (some ⟨B,0,none⟩)) read w2 O (RwI (nums read.data.toList) (nums ref.data.toList) w B p) (fun k hk wx F h=>RwI.step read (nums ref.data.toList) w B p Y O (by rw[a];omega) k hk wx F h) ak.o).mono ?_;rintro e w3 ⟨k,hk,l,b,G⟩;rcases G with⟨rfl,rfl⟩|⟨H,K,rfl⟩
   ·have m:good read:=fun j n=>b j n n;have z:scE read.data.toList ref.data.toList=0:=HE.o m aj.o;obtain⟨vr,ac,VS,d1,d2,d3,d4,d5,d6,d7⟩:=l;have A:(nums read.data.toList).length=read.size:=by rw[nums_length];simp
    have q:(nums read.data.toList).take read.size=nums read.data.toList:=List.take_of_length_le (by rw[nums_length];simp);rw[q]at d2;rw[a]at d3 d5;have r:=B1e (nums read.data.toList) (nums ref.data.toList) read.size ref.size w.heap.size B A a O O vr p ac VS w3 d1 d2 d3 d4 d5;have ad:path 1048576 (uN (nums read.data.toList) (nums ref.data.toList)) (read.size+ref.size) read.size ref.size 0=pth (nums read.data.toList) (nums ref.data.toList):=by unfold pth;rw[A,a]
    rw[ad]at r;have M:scT read.data.toList ref.data.toList=G1 (rl (pth (nums read.data.toList) (nums ref.data.toList)).reverse (pth (nums read.data.toList) (nums ref.data.toList)).length).2:=by unfold scT;rw[if_pos z]
    have C:scN read.data.toList ref.data.toList=A0V (sN (nums read.data.toList) (nums ref.data.toList)) (pth (nums read.data.toList) (nums ref.data.toList)) read.size ref.size:=by unfold scN;rw[if_pos z,A,a]
    have N:(pth (nums read.data.toList) (nums ref.data.toList)).length≤900:=by
     have:=A0x 1048576 (uN (nums read.data.toList) (nums ref.data.toList)) ((nums read.data.toList).length+(nums ref.data.toList).length) (nums read.data.toList).length (nums ref.data.toList).length 0;unfold pth;omega
    have P:∀x∈(pth (nums read.data.toList) (nums ref.data.toList)).reverse,x≤2:=fun x hx=>A1D _ _ _ _ _ _ x (List.mem_reverse.1 hx);obtain⟨pp,ae⟩:=A8 (pth (nums read.data.toList) (nums ref.data.toList));obtain⟨cn,af⟩:=A8 (A0V (sN (nums read.data.toList) (nums ref.data.toList)) pp read.size ref.size);rw[←ae]at r M C N P;rw[←af]at r C;have am:=A4 z;have an:=A4 M;have ao:=A4 C;have d:=A4 d7;have ag:Hd (pp.length≤900∧∀x∈pp.reverse,x≤2):=⟨N,P⟩;clear z M C b m d1 d2 d3 d4 d5 d6 d7 ad ae af A a q N P;go_wp2_with (go_at_call 83;refine r.mono ?_;rintro e w4 ⟨v4,rfl,o4,b4⟩;have ap:=A4 o4;have aq:=A4 b4;clear o4 b4);have ar:=d.o.size;have ah:Below w.heap.size w w4:=d.o.trans (aq.o.mono ar);have D:=A4 ah;refine(B0r pp.reverse pp.length Zs ag.o.1 ag.o.2 w3.heap.size v4 w4 ap.o (fun W hb=>HT.o W (D.o.trans (hb.mono D.o.size)))).mono ?_;rintro e w5 ⟨rfl,b5⟩;have au:Hd (Below w.heap.size w w5):=D.o.trans (b5.mono D.o.size);clear b5 ah r;go_wp2_with fail;go_ret3;refine⟨?_,au.o⟩;rw[am.o,an.o,ao.o];rfl
   ·have s:=V.o (fun h=>absurd (h.1 k H) O);have c:=A4 s;obtain⟨vr,ac,VS,d1,d2,d3,d4,d5,d6,d7⟩:=l;have d:=A4 d7;clear s d1 d2 d3 d4 d5 d6 d7 b K;go_wp2_with fail;go_ret3;refine⟨?_,d.o⟩;rw[c.o.1,c.o.2.1,c.o.2.2];rfl
  ·have s:=V.o (fun h=>absurd (h.2 k H) O);have c:=A4 s;obtain⟨p,L,c1,c2,c3,c4,c5⟩:=l;have d:=A4 c5;clear s c1 c2 c3 c4 c5 b K;go_wp2_with fail;go_ret3;refine⟨?_,d.o⟩;rw[c.o.1,c.o.2.1,c.o.2.2];rfl
theorem U4 (a b:Int)(w:World):Calls Tryz.prog 169 #[I J a,I J b] w fun e w'=>e=.returned (I J (min a b))∧w'=w:=by
 go_enter Tryz.func169,Tryz.ntmps169;by_cases h:a<b
 ·have e:min a b=a:=O;rw[e];go_wp2;go_ret;exact⟨rfl,rfl⟩
 ·have e:min a b=b:=O;rw[e];go_wp2;go_ret;exact⟨rfl,rfl⟩
def sB (a b:UInt8):Bool:=decide (a=b∧a≠78)
theorem A2d (a b:UInt8)(w:World):Calls Tryz.prog 126 #[.int .u8 a.toNat,.int .u8 b.toNat] w fun e w'=>e=.returned (.bool (sB a b))∧w'=w:=by
 go_enter Tryz.func126,Tryz.ntmps126;by_cases h1:a=b
 ·subst h1;by_cases c:a=78
  ·have e:sB a a=false:=decide_eq_false (fun h=>h.2 c);rw[e];subst c;go_wp2;go_ret;exact⟨rfl,rfl⟩
  ·have e:sB a a=true:=decide_eq_true ⟨rfl,c⟩;rw[e];have d:¬((a.toNat:Int)=78):=fun h=>c (UInt8.toNat_inj.1 (by simpa using (show a.toNat=78 by omega)));go_wp2;go_ret;refine⟨?_,rfl⟩;simp[d]
 ·have e:sB a b=false:=decide_eq_false (fun h=>h1 h.1);rw[e];have d:¬((a.toNat:Int)=(b.toNat:Int)):=fun h=>h1 (UInt8.toNat_inj.1 O);go_wp2;go_ret;refine⟨?_,rfl⟩;simp[d]
def uB (a b:UInt8):Int:=if sB a b then 0 else 4
theorem T6 (a b:UInt8)(w:World):Calls Tryz.prog 170 #[.int .u8 a.toNat,.int .u8 b.toNat] w fun e w'=>e=.returned (I J (uB a b))∧w'=w:=by
 have c:=fun W=>A2d a b W;go_enter Tryz.func170,Tryz.ntmps170;cases h:sB a b with
 |true=>
  have e:uB a b=0:=by unfold uB;rw[h];rfl
  rw[e];rw[h]at c;clear h e;go_wp2_with (go_at_call 126;refine(c _).mono ?_;rintro e w' ⟨rfl,rfl⟩);go_ret;exact⟨rfl,rfl⟩
 |false=>
  have e:uB a b=4:=by unfold uB;rw[h];rfl
  rw[e];rw[h]at c;clear h e;go_wp2_with (go_at_call 126;refine(c _).mono ?_;rintro e w' ⟨rfl,rfl⟩);go_ret;exact⟨rfl,rfl⟩
def RP (w:World)(b n j:Nat)(f:Nat→Int):Prop:=
 ∃cur:Array Value,w.heap[b]?=some (.cells cur 3 (0,0))∧cur.size=n∧∀k,k<j→cur[k]?=some (I J (f k))
theorem RP.any {w:World}{b n j:Nat}{f:Nat→Int}(h:RP w b n j f)(k:Nat)(hk:k<n):(∃y,w.cell? ⟨b,k,none⟩=some y)∧w.frozen? ⟨b,k,none⟩=false:=by
 obtain⟨cur,h1,a,_⟩:=h;exact⟨⟨_,A1 h1 (Array.getElem?_eq_getElem O)⟩,frozen_of_row _ _ _ _ _ h1⟩
theorem RP.cell {w:World}{b n j:Nat}{f:Nat→Int}(h:RP w b n j f)(k:Nat)(hk:k<j):w.cell? ⟨b,k,none⟩=some (I J (f k)):=by
 obtain⟨cur,h1,c,a⟩:=h;exact A1 h1 (a k hk)
theorem RP.other {w w':World}{b n j:Nat}{f:Nat→Int}(h:RP w b n j f)(he:w'.heap[b]?=w.heap[b]?):RP w' b n j f:=by
 obtain⟨cur,h1,a⟩:=h;exact⟨cur,he.trans h1,a⟩
theorem RP.lt {w:World}{b n j:Nat}{f:Nat→Int}(h:RP w b n j f):b<w.heap.size:=by
 obtain⟨cur,h1,_⟩:=h;exact lt_of_block h1
def RX (w:World)(b n j:Nat)(f:Nat→Int)(x:Int):Prop:=RP w b n j f∧w.cell? ⟨b,j,none⟩=some (I J x)
theorem RX.other {w w':World}{b n j:Nat}{f:Nat→Int}{x:Int}(h:RX w b n j f x)(he:w'.heap[b]?=w.heap[b]?):RX w' b n j f x:=
 ⟨h.1.other he,(World.cell?_of_block he).trans h.2⟩
theorem RX.next {w:World}{b n j:Nat}{f:Nat→Int}{x:Int}(h:RX w b n j f x)(c:x=f j):RP w b n (j+1) f:=by
 obtain⟨⟨cur,h1,d,g⟩,a⟩:=h;refine⟨cur,h1,d,fun k hk=>?_⟩;by_cases he:k=j
 ·subst he;rw[cell_of_row w b k cur 3 (0,0) h1]at a;rw[a,c]
 ·exact g k O
theorem RP.set {w:World}{b n j:Nat}{f:Nat→Int}(h:RP w b n j f)(d:j<n)(x:Int):RX (w.setCell ⟨b,j,none⟩ (I J x)) b n j f x:=by
 obtain⟨cur,h1,a,c⟩:=h;have u:=D7.of_setCell (i:=j) (I J x) h1;refine⟨⟨_,u.here,by simpa using a,fun k hk=>?_⟩,A1 u.here (Array.getElem?_setIfInBounds_self_of_lt O)⟩;rw[Array.getElem?_setIfInBounds_ne O];exact c k hk
structure G7 (w w':World)(p q r:Nat):Prop where
 os:w'.os=w.os
 tape:w'.tape=w.tape
 output:w'.output=w.output
 size:w'.heap.size=w.heap.size
 other:∀b,b≠p→b≠q→b≠r→w'.heap[b]?=w.heap[b]?
theorem G7.refl (w:World)(p q r:Nat):G7 w w p q r:=⟨rfl,rfl,rfl,rfl,fun _ _ _ _=>rfl⟩
theorem G7.drewN {w w':World}{p q r:Nat}(h:G7 w w' p q r)(n:Nat):G7 w (w'.drewN n) p q r:=⟨h.os,h.tape,h.output,h.size,h.other⟩
theorem G7.set {w w':World}{p q r:Nat}(h:G7 w w' p q r)(b i:Nat)(v:Value)(a:b=p∨b=q∨b=r):G7 w (w'.setCell ⟨b,i,none⟩ v) p q r:=
 ⟨h.os,h.tape,h.output,by simpa using h.size,fun k h1 c d=>(heap_setCell_other w' _ k v (by intro he;have he:k=b:=he;subst he;rcases a with a|a|a<;>contradiction)).trans (h.other k h1 c d)⟩
theorem G7.below {w w':World}{p q r B:Nat}(h:G7 w w' p q r)(h1:B≤p)(a:B≤q)(b:B≤r):Below B w w':=
 ⟨h.os,h.tape,h.output,by rw[h.size];exact Nat.le_refl _,fun k hk=>h.other k O O O⟩
end
end Go.Proofs.YtilcmkiihefkkaaGreatDoor
