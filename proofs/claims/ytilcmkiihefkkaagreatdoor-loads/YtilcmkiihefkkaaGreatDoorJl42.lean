import Derived.Test.YtilcmkiihefkkaaGreatDoorJl28
import Derived.Test.YtilcmkiihefkkaaGreatDoorJl39
set_option linter.unusedVariables false
set_option linter.unusedSimpArgs false
set_option maxRecDepth 1000000
set_option maxHeartbeats 64000000
open Go.Value renaming int→I
open Go.IntKind renaming i64→J
namespace Go.Proofs.YtilcmkiihefkkaaGreatDoor
namespace Mn
section
open Go.RowKit
attribute [local go_sem] C0
theorem B3I {w:World}{g:Nat}{t:TypeId}{a0 d a2:Value}(a b c:Value)(h:w.heap[g]?=some (.cells #[a0,d,a2] t (0,0))):E1 w (((w.setCell ⟨g,0,none⟩ a).setCell ⟨g,1,none⟩ b).setCell ⟨g,2,none⟩ c) g (.cells #[a,b,c] t (0,0)):=by
 exact((E1.of_setCell (i:=0) a h).setCell (i:=1) b).setCell (i:=2) c
theorem A4C (s:ByteArray)(B:Nat)(w:World)(h:RrP w B s)(hs:s.size≤140737488355328) :
 Calls Tryz.prog 24 #[.pointer (some ⟨B,0,none⟩)] w fun e w'=>e=.returned (.agg #[I J (roK s.data.toList),I J (roW s.data.toList),.float .f64 (roS s.data.toList)])∧(∃t,RrP w' B t∧t.data.toList=s.data.toList.drop 10)∧RrF B w w':=by
 obtain⟨b,g⟩:=A8 (w.alloc (Obj.cells #[I J 0,I J 0,.float .f64 0] 24));have k:Below w.heap.size w b:=by rw[g];exact(Below.refl _ _).alloc (Nat.le_refl _) _
 have m:b.heap[w.heap.size]?=some (.cells #[I J 0,I J 0,.float .f64 0] 24 (0,0)):=by rw[g];exact heap_alloc_new w _
 have G:B<w.heap.size:=lt_of_block h;have p:RrP b B s:=(k.block B G).trans h;have q:RrF B w b:=RrF.of k;have c1:=T7 s 1 B b p O hs;have Q:=fun W n=>A8z n W;have r:=A4 m;have H:=A4 q;clear h k m p q;go_enter Tryz.func24,Tryz.ntmps24;go_wp2_with fail;rw[←g];clear g;refine c1.mono ?_;rintro e w1 ⟨rfl,u,v⟩;have c2:=T7 (drS 1 s) 1 B w1 u O (Nat.le_trans (X8 _ _) hs);have x:=A4 v;clear u v c1;go_wp2_with fail;refine c2.mono ?_;rintro e w2 ⟨rfl,y,z⟩;have c3:=A1N (drS 1 (drS 1 s)) 8 B w2 y O (Nat.le_trans (X8 _ _) (Nat.le_trans (X8 _ _) hs));have A:Hd (RrF B b w2):=x.o.trans z;clear y z c2 x;go_wp2_with fail;refine c3.mono ?_;rintro e d ⟨rfl,C,D⟩;have l:=A.o.trans D;have c:d.heap[w.heap.size]?=some (.cells #[I J 0,I J 0,.float .f64 0] 24 (0,0)):=(l.other _ (lt_of_block r.o) O).trans r.o;have K:=A4 C;have L:=A4 l;have f0:∀i,d.frozen? ⟨w.heap.size,i,none⟩=false:=fun i=>frozen_of_row _ _ _ _ _ c;have E:=B3I (I J (J4 (s.data.toList.take 1))) (I J (J4 ((drS 1 s).data.toList.take 1))) (.float .f64 (J4 ((drS 1 (drS 1 s)).data.toList.take 8))) c;have a:Hd _:=E;have q0:d.cell? ⟨w.heap.size,0,none⟩=some (I J 0):=A1 c rfl;have R:d.cell? ⟨w.heap.size,1,none⟩=some (I J 0):=A1 c rfl;have S:d.cell? ⟨w.heap.size,2,none⟩=some (.float .f64 0):=A1 c rfl;have f1:=f0 0;have f2:=f0 1;have f3:=f0 2;clear E f0 c C D l c3 A;go_wp2_with fail;refine bodyPost_ret (results_cell_row rfl _ _ w.heap.size 24 _ _ _ rfl a.o.here Tryz.underlying24 rfl U) rfl ?_;have e1:(drS 1 s).data.toList=s.data.toList.drop 1:=O0 1 s;have F:(drS 1 (drS 1 s)).data.toList=s.data.toList.drop 2:=by rw[O0,e1,List.drop_drop]
 have M:(drS 8 (drS 1 (drS 1 s))).data.toList=s.data.toList.drop 10:=by rw[O0,F,List.drop_drop]
 refine⟨?_,⟨_,(a.o.other B O).trans K.o,M⟩,?_⟩
 ·rw[e1,F];rfl
 ·have f:=H.o.trans L.o;exact⟨a.o.os.trans f.os,a.o.tape.trans f.tape,a.o.output.trans f.output,by rw[a.o.size];exact f.size,fun j N P=>(a.o.other j O).trans (f.other j N P)⟩
end
section
open Go.RowKit
theorem B2u (bs:ByteArray):∀(n i:Nat) (r:List UInt8),bs.size-i=n→ByteArray.toList.loop bs i r=r.reverse++bs.data.toList.drop i:=by
 intro n;induction n with
 |zero=>
  intro i r h;rw[ByteArray.toList.loop,if_neg O,List.drop_eq_nil_of_le (show bs.data.toList.length≤i by show bs.size≤i;omega),List.append_nil]
 |succ n ih=>
  intro i r h;have hi:i<bs.data.toList.length:=by show i<bs.size;omega
  rw[ByteArray.toList.loop,if_pos O,ih (i+1) _ O,List.reverse_cons,List.append_assoc,List.drop_eq_getElem_cons hi];have hi2:i<bs.data.size:=hi;have e:bs.get! i=bs.data.toList[i]:=by
   show bs.data[i]! = _;rw[getElem!_pos bs.data i hi2];rfl
  rw[e];rfl
theorem P2 (bs:ByteArray):bs.toList=bs.data.toList:=by
 have:=B2u bs (bs.size-0) 0 [] rfl;simpa[ByteArray.toList] using this
theorem A6S {a b:ByteArray}(h:a.toList=b.toList):a=b:=by
 rw[P2,P2]at h;apply ByteArray.ext;exact Array.toList_inj.1 h
theorem A9A (y x:S2)(g o cp g2:Nat)(w:World)(a0:w.cell? ⟨g,o,none⟩=some (.string y.n))(a1:w.cell? ⟨g,o+1,none⟩=some (.string y.b))(b0:w.cell? ⟨g2,0,none⟩=some (.string x.n))(b1:w.cell? ⟨g2,1,none⟩=some (.string x.b)) :
 Calls Tryz.prog 85 #[.slice (some ⟨g,o,none⟩) 1 cp,.slice (some ⟨g2,0,none⟩) 1 1] w fun e w'=>∃r:Bool,e=.returned (.bool r)∧(r=true↔y=x)∧Below w.heap.size w w':=by
 have HE:Hd _:=And.intro a0 (And.intro a1 (And.intro b0 b1));clear a0 a1 b0 b1;go_enter Tryz.func85,Tryz.ntmps85;go_wp2_with fail;go_loopw [13] (fun i wr=>(i=I J 0∧wr=w)∨(i=I J 1∧y=x∧Below w.heap.size w wr)) (fun i _=>1-(intOf i).toNat);case atStart=>exact Or.inl ⟨rfl,rfl⟩
 case round=>
  rcases hrel with⟨rfl,rfl⟩|⟨rfl,he,hb⟩
  ·obtain⟨a0,a1,b0,b1⟩:=HE.o;go_wp2_with fail;refine A5 9 (fun W=>W.cell? ⟨g,o,none⟩=some (.string y.n)∧W.cell? ⟨g,o+1,none⟩=some (.string y.b)∧W.cell? ⟨g2,0,none⟩=some (.string x.n)∧W.cell? ⟨g2,1,none⟩=some (.string x.b)) U ⟨a0,a1,b0,b1⟩ (fun hH=>?_);refine A2 0 ?_;refine A2 1 ?_;refine A2 2 ?_;refine A2 3 ?_;refine A2 4 ?_;refine A2 5 ?_;refine A2 6 ?_;refine A2 7 ?_;have hbw:Below wr.heap.size wr wr.drew:=⟨rfl,rfl,rfl,Nat.le_refl _,fun _ _=>rfl⟩;have HBW:=A4 hbw;clear hbw;by_cases h1:y.n.toList=x.n.toList
   ·by_cases h2:y.b.toList=x.b.toList
    ·have HYX:Hd (y=x):=by
      show _=_;obtain⟨yn,yb⟩:=y;obtain⟨xn,xb⟩:=x;simp only at h1 h2;rw[A6S h1,A6S h2]
     refine A2 8 ?_;refine M7 ?_;clear hH;go_wp2_with fail;go_roundw;case rel=>exact Or.inr ⟨Zn,HYX.o,HBW.o⟩
     case measure=>simp[intOf]
    ·have HYX:Hd (y≠x):=fun e=>h2 (by rw[e]);refine A2 8 ?_;refine M7 ?_;clear hH;go_wp2_with fail;go_ret;exact⟨false,rfl,⟨fun h=>by(cases h),fun h=>absurd h HYX.o⟩,HBW.o⟩
   ·have HYX:Hd (y≠x):=fun e=>h1 (by rw[e]);refine A2 8 ?_;refine M7 ?_;clear hH;go_wp2_with fail;go_ret;exact⟨false,rfl,⟨fun h=>by(cases h),fun h=>absurd h HYX.o⟩,HBW.o⟩
  ·have HB:=A4 hb;clear hb;go_wp2_with fail;go_ret;exact⟨true,rfl,⟨fun _=>he,fun _=>rfl⟩,HB.o⟩
theorem B1g (ao ao':Option Addr)(n cp cp':Nat)(w:World)(hn:n≠1)(hn2:n≤100000) :
 Calls Tryz.prog 85 #[.slice ao n cp,.slice ao' 1 cp'] w fun e w'=>e=.returned (.bool false)∧w'=w:=by
 have h1:((n:Int)==1)=false:=by rw[beq_eq_false_iff_ne];omega
 have h2:¬(n:Int)=1:=O;go_enter Tryz.func85,Tryz.ntmps85;go_wp2;go_ret;exact⟨rfl,rfl⟩
end
end Mn
end Go.Proofs.YtilcmkiihefkkaaGreatDoor
