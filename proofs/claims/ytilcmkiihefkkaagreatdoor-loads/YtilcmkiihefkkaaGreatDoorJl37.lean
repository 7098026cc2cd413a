import Derived.Test.YtilcmkiihefkkaaGreatDoorJl19
import Derived.Test.YtilcmkiihefkkaaGreatDoorJl36
set_option linter.unusedVariables false
set_option linter.unusedSimpArgs false
set_option maxRecDepth 1000000
set_option maxHeartbeats 64000000
open Go.Value renaming int→I
open Go.IntKind renaming i64→J
namespace Go.Proofs.YtilcmkiihefkkaaGreatDoor
namespace Mn
section
open Go.RowKit Go.Shelf Go.Lib
def LtP (w:World):Prop:=PredGrows Tryz.prog 145 #[] ltP w
theorem LtP.below {w w':World}(h:LtP w)(a:Below w.heap.size w w'):LtP w':=fun W x b c=>h W x b (a.trans (c.mono a.size))
def A0R (ps:List (Nat×Nat)):Nat→Nat
 |0=>0
 |j+1=>A0R ps j+(ps.getD j (0,0)).1
theorem B2e (args:Array Value)(w:World):(callFunc 145 args).run Tryz.prog w=.ok (.enter 145 args) w:=Q4 Tryz.func145 U rfl args w
theorem dl4:∀n:Fin 1001,(decDigits n.val).length≤4:=by decide +kernel
theorem A4E (ps:List (Nat×Nat))(h:∀p∈ps,p.1≤1000∧p.2≤2)(z:ps.length≤1000)(hs:(H8 ps).length≤100000)(w:World)(c:LtP w) :
 Calls Tryz.prog 109 #[.string ⟨(H8 ps).toArray⟩] w fun e w'=>e=.returned (I J (A0R ps ps.length:Nat))∧Below w.heap.size w w':=by
 have a:=Any.strings_FieldsFunc_grows Tryz.laysFF 145 #[] B2e ltP ⟨(H8 ps).toArray⟩ w (by show(H8 ps).toArray.size≤_;simp;omega) c U U;rw[A5V ps (fun p c=>(h p c).2)]at a;change Calls Tryz.prog 144 _ _ _ at a;have B:=A4 h;obtain⟨K,ht⟩:=A8 (⟨(H8 ps).toArray⟩:ByteArray);rw[←ht]at a⊢;obtain⟨n,d⟩:=A8 ps.length;rw[List.length_map,←d]at a;rw[←d]at z⊢;have C:=A4 d;clear ht d h c hs;go_enter Tryz.func109,Tryz.ntmps109;go_wp2_with fail;refine a.mono ?_;rintro e w1 ⟨A,rfl,L,m,q⟩;have D:=A4 m;have r:=A4 q;clear m q a;go_wp2;go_loopw [3,11] (fun t i wr=>∃j:Nat,j≤n∧i=I J j∧t=I J (A0R ps j:Nat)∧A0R ps j≤1000*j∧Below w1.heap.size w1 wr) (fun _ i _=>n-(intOf i).toNat);case atStart=>exact⟨0,Nat.zero_le _,rfl,rfl,Nat.le_refl _,Below.refl _ _⟩
 case round=>
  obtain⟨j,M,rfl,rfl,N,s⟩:=hrel;have b:=A4 s;clear s;by_cases P:j<n
  ·have u:j<ps.length:=by have:=C.o;omega
   obtain⟨p,f⟩:=A8 (ps[j]);have Q:=B.o p (by rw[f];exact List.getElem_mem _);have d0:wr.cell? ⟨A,j,none⟩=some (.string ⟨(decDigits p.1).toArray⟩):=by
    rcases D.o.2 with⟨h,_⟩|⟨g,cap,cur,h,_,v,_,_,_,E⟩
    ·simp at h
    ·simp only[Value.slice.injEq,Option.some.injEq,Addr.mk.injEq,and_true,true_and]at h;obtain⟨rfl,rfl⟩:=h;have F:=(b.o.block _ (lt_of_block v)).trans v;refine A1 F ?_;have k:(cur.toList.take (n*1))[j]?=some (.string ⟨(decDigits p.1).toArray⟩):=by
      rw[E,List.getElem?_map,List.getElem?_map,List.getElem?_eq_getElem u,←f];rfl
     rw[List.getElem?_take]at k;split at k
     ·simpa using k
     ·cases k
   have l:=fun W=>Any.strconv_Atoi_ok Tryz.laysAT ⟨(decDigits p.1).toArray⟩ (by show(decDigits p.1).toArray.size≤_;have R:(decDigits p.1).length≤4:=dl4 ⟨p.1,O⟩;simp only[List.size_toArray];omega) (p.1:Int) (by have:=B3k ⟨p.1,O⟩;simpa using this) W;change ∀W,Calls Tryz.prog 146 _ _ _ at l;have x:Hd (A0R ps (j+1)=A0R ps j+p.1):=by show A0R ps j+(ps.getD j (0,0)).1=_;rw[f];simp[List.getD_eq_getElem?_getD,List.getElem?_eq_getElem u]
   clear f;go_wp2_with fail;refine(l wr).mono ?_;rintro e w2 ⟨rfl,y⟩;have G:Hd (Below w1.heap.size w1 w2):=by
    rcases y with rfl|⟨t,rfl⟩
    ·exact b.o
    ·exact b.o.trans ((bytesWorld_below _ _ _).mono b.o.size)
   clear y d0 l;go_wp2;go_roundw;case rel=>
    have:=x.o;refine⟨j+1,O,Zn,?_,O,G.o⟩;rw[x.o];go_num
   case measure=>simp[intOf];omega
  ·have H:j=n:=O;subst H;go_wp2;go_ret;exact⟨rfl,r.o.trans (b.o.mono r.o.size)⟩
end
end Mn
end Go.Proofs.YtilcmkiihefkkaaGreatDoor
