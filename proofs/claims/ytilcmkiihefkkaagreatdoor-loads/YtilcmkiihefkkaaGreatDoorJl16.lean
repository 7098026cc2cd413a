import Derived.Lib.IndexLaws
import Derived.Test.YtilcmkiihefkkaaGreatDoorJl14
set_option linter.unusedVariables false
set_option linter.unusedSimpArgs false
set_option maxRecDepth 1000000
set_option maxHeartbeats 64000000
open Go.Value renaming int→I
open Go.IntKind renaming i64→J
namespace Go.Proofs.YtilcmkiihefkkaaGreatDoor
namespace Mn
section
open Go.RowKit
def F3:List UInt8→List UInt8→List (List UInt8)
 |cur,[]=>if cur=[] then [] else [cur]
 |cur,c::r=>if c=10 then cur::F3 [] r else F3 (cur++[c]) r
theorem X4:∀(l:List UInt8) (cur r:List UInt8),(∀c∈l,c≠10)→F3 cur (l++r)=F3 (cur++l) r
 |[],cur,r,_=>Zs
 |c::l,cur,r,h=>by
  have h1:c≠10:=h c Zs
  show F3 cur (c::(l++r))=_
  rw[F3,if_neg h1,X4 l (cur++[c]) r (fun x a=>h x (by simp[a]))]
  simp
theorem A7o (l r:List UInt8)(h:∀c∈l,c≠10):F3 [] (l++10::r)=l::F3 [] r:=by
 rw[X4 l [] (10::r) h,F3,if_pos rfl];simp
theorem A51 (l:List UInt8)(h:∀c∈l,c≠10)(a:l≠[]):F3 [] l=[l]:=by
 have:=X4 l [] [] h;rw[List.append_nil]at this;rw[this,F3,if_neg (by simpa using a)];simp
def F6 (s:ByteArray):List ByteArray:=(F3 [] s.data.toList).map fun l=>⟨l.toArray⟩
theorem S4:∀(l cur:List UInt8),(F3 cur l).length≤l.length+(if cur=[] then 0 else 1)
 |[],cur=>by rw[F3];split<;>simp
 |c::r,cur=>by
  rw[F3]
  split
  ·have:=S4 r []
   simp at this⊢
   split<;>omega
  ·have:=S4 r (cur++[c])
   rw[if_neg Zs]at this
   simp
   split<;>omega
theorem I7 (s:ByteArray)(a b:Nat):(s.extract a b).data.toList=(s.data.toList.drop a).take (b-a):=by
 rw[ByteArray.data_extract,Array.toList_extract]
def A4l (s line rest:ByteArray):Prop:=rest.size<s.size∧line.size≤s.size∧F6 s=line::F6 rest
theorem A1E (s:ByteArray):(⟨s.data.toList.toArray⟩:ByteArray)=s:=by cases s;simp
theorem E8 (s:ByteArray):s.data.toList.length=s.size:=Array.length_toList
theorem B2P (s:ByteArray)(i:Nat)(h:Lib.indexByte s.data.toList 10=i):A4l s (s.extract 0 i) (s.extract (i+1) s.size):=by
 obtain⟨h1,b⟩:=Lib.indexByte_some h;have hi:i<s.data.toList.length:=by
  rcases Nat.lt_or_ge i s.data.toList.length with h|h
  ·exact h
  ·rw[List.getElem?_eq_none h]at h1;exact absurd h1 Zs
 have k:=E8 s;have e0:s.data.toList=s.data.toList.take i++10::s.data.toList.drop (i+1):=by
  have:=List.take_append_drop i s.data.toList;rw[List.drop_eq_getElem_cons hi]at this;rw[List.getElem?_eq_getElem hi]at h1;simp only[Option.some.injEq]at h1;rw[h1]at this;exact this.symm
 refine⟨by rw[←E8,I7];simp;omega,by rw[←E8,I7];simp;omega,?_⟩;unfold F6;rw[e0,A7o _ _ (by
  intro c d;obtain⟨j,f,a⟩:=List.getElem_of_mem d;have g:j<i:=by simp at f;omega
  have:=b j g;intro he;apply this;rw[List.getElem?_eq_getElem O];rw[List.getElem_take]at a;rw[a,he])]
 rw[List.map_cons];congr 1
 ·have:=A1E (s.extract 0 i);rw[I7]at this;simpa using this
 ·have:=I7 s (i+1) s.size;rw[this,List.take_of_length_le Zs]
theorem B1b (s:ByteArray)(h:Lib.indexByte s.data.toList 10=-1)(g:s.size≠0):A4l s s ⟨#[]⟩:=by
 have h1:=Lib.indexByte_none h;have a:=E8 s;refine⟨by show 0<_;omega,Nat.le_refl _,?_⟩;unfold F6;rw[A51 _ (by
  intro c b he;obtain⟨j,d,f⟩:=List.getElem_of_mem b;apply h1 j;rw[List.getElem?_eq_getElem d,f,he]) (by intro he;rw[he]at a;simp at a;omega)]
 simp[F3]
theorem A3W (s:ByteArray)(w:World)(hs:s.size≤8000) :
 Calls Tryz.prog 171 #[.string s,.string ⟨#[10]⟩] w fun e w'=>e=.returned (I J (Lib.indexByte s.data.toList 10))∧w'=w:=by
 cases a:(([10]:List UInt8)==s.toList)
 ·go_enter Tryz.func171,Tryz.ntmps171;go_wp2_with (first|(go_at_call 102;refine(B0E _ _ _).mono ?_;rintro e w' ⟨rfl,rfl⟩)|go_in);go_ret;exact⟨rfl,rfl⟩
 ·have b:Hd (Lib.indexByte s.data.toList 10=0):=by
   show _=_;have h:=eq_of_beq a;rw[ByteArray.toList_eq]at h;rw[←h];rfl
  go_enter Tryz.func171,Tryz.ntmps171;go_wp2_with (first|(go_at_call 102;refine(B0E _ _ _).mono ?_;rintro e w' ⟨rfl,rfl⟩)|go_in);go_ret;rw[b.o];exact⟨rfl,rfl⟩
theorem B2R (s:ByteArray)(w:World)(hs:s.size≤8000)(g:s.size≠0) :
 Calls Tryz.prog 128 #[.string s,.string ⟨#[10]⟩] w fun e w'=>∃line rest f,e=.returned (.tuple #[.string line,.string rest,.bool f])∧A4l s line rest∧∃n,w'=w.drewN n:=by
 have d:=Lib.indexByte_ge s.data.toList 10;obtain⟨x,a⟩:=A8 (Lib.indexByte s.data.toList 10);by_cases hm:x=-1
 ·have b:Hd (A4l s s ⟨#[]⟩):=B1b s (by rw[←a,hm]) g;have c:Hd (Lib.indexByte s.data.toList 10=-1):=by rw[←a,hm];exact rfl
  clear a d;go_enter Tryz.func128,Tryz.ntmps128;go_wp2_with (go_at_call 171;refine(A3W _ _ hs).mono ?_;rintro e w' ⟨rfl,rfl⟩;rw[c.o]);go_ret3;exact⟨_,_,_,rfl,b.o,0,rfl⟩
 ·obtain⟨i,rfl⟩:∃i:Nat,x=i:=⟨x.toNat,O⟩;have b:Hd (A4l s (s.extract 0 i) (s.extract (i+1) s.size)):=B2P s i a.symm;have c:=A4 a.symm;have hi:i+1≤s.size:=by
   obtain⟨h1,_⟩:=Lib.indexByte_some a.symm;rcases Nat.lt_or_ge i s.data.toList.length with h|h
   ·rw[E8]at h;omega
   ·rw[List.getElem?_eq_none h]at h1;exact absurd h1 Zs
  have c2:(i:Int)≤s.size:=O;have c4:(i+1:Int)≤s.size:=O;clear a d hm;go_enter Tryz.func128,Tryz.ntmps128;go_wp2_with (go_at_call 171;refine(A3W _ _ hs).mono ?_;rintro e w' ⟨rfl,rfl⟩;rw[c.o]);go_region;all_goals go_wp2
  all_goals go_ret3
  all_goals exact⟨_,_,_,rfl,b.o,1,rfl⟩
theorem B0U (s:ByteArray)(w:World)(hs:s.size≤8000)(a:s.size≠0) :
 Calls Tryz.prog 98 #[.string s,.string ⟨#[10]⟩] w fun e w'=>∃line rest f,e=.returned (.tuple #[.string line,.string rest,.bool f])∧A4l s line rest∧∃n,w'=w.drewN n:=by
 go_enter Tryz.func98,Tryz.ntmps98;go_wp2_with (go_at_call 128;refine(B2R s _ hs a).mono ?_;rintro e w' ⟨line,rest,f,rfl,b,n,rfl⟩);go_ret3;exact⟨_,_,_,rfl,b,n,rfl⟩
def G3 (s:ByteArray):Prop:=∃h:0<s.size,s[0]=62
theorem A7C (s:ByteArray)(h:1≤s.size):((s.extract 0 1).toList==([62]:List UInt8))=true↔G3 s:=by
 rw[beq_iff_eq,ByteArray.toList_eq,I7];have a:=E8 s;have f:s[0]=s.data.toList[0]'O:=by rw[Array.getElem_toList];rfl
 cases b:s.data.toList with
 |nil=>rw[b]at a;simp at a;omega
 |cons c r=>
  have d:s[0]=c:=by rw[f];simp[b]
  constructor
  ·intro e;simp at e;exact⟨h,by rw[d,e]⟩
  ·intro ⟨_,e⟩;rw[d]at e;simp[e]
theorem A3K (s:ByteArray)(w:World)(hs:s.size≤8000) :
 Calls Tryz.prog 172 #[.string s,.string ⟨#[62]⟩] w fun e w'=>((G3 s∧e=.returned (.bool true))∨(¬G3 s∧e=.returned (.bool false)))∧w'=w:=by
 by_cases h1:1≤s.size
 ·have c:=A7C s h1;have c1:(1:Int)≤s.size:=O;cases a:((s.extract 0 1).toList==([62]:List UInt8))
  ·have b:Hd (¬G3 s):=fun h=>by rw[c.2 h]at a;exact absurd a Zs
   clear c;go_enter Tryz.func172,Tryz.ntmps172;go_wp2;go_ret;exact⟨Or.inr ⟨b.o,by simp[a]⟩,rfl⟩
  ·have b:Hd (G3 s):=c.1 a;clear c;go_enter Tryz.func172,Tryz.ntmps172;go_wp2;go_ret;exact⟨Or.inl ⟨b.o,by simp[a]⟩,rfl⟩
 ·have b:Hd (¬G3 s):=fun ⟨h,_⟩=>h1 h;have c1:¬(1:Int)≤s.size:=O;go_enter Tryz.func172,Tryz.ntmps172;go_wp2;go_ret;exact⟨Or.inr ⟨b.o,rfl⟩,rfl⟩
theorem A3O (s:ByteArray)(w:World)(hs:s.size≤8000) :
 Calls Tryz.prog 129 #[.string s,.string ⟨#[62]⟩] w fun e w'=>((G3 s∧e=.returned (.tuple #[.string (s.extract 1 s.size),.bool true]))∨(¬G3 s∧e=.returned (.tuple #[.string s,.bool false])))∧w'=w:=by
 go_enter Tryz.func129,Tryz.ntmps129;go_wp2_with fail;refine(A3K s w hs).mono ?_;rintro e w' ⟨h,rfl⟩;rcases h with⟨a,rfl⟩|⟨c,rfl⟩
 ·have h1:1≤s.size:=a.1;have c1:(1:Int)≤s.size:=O;have b:=A4 a;clear a;go_wp2;go_ret2;exact⟨Or.inl ⟨b.o,rfl⟩,rfl⟩
 ·have b:=A4 c;clear c;go_wp2;go_ret2;exact⟨Or.inr ⟨b.o,rfl⟩,rfl⟩
theorem A2R (s:ByteArray)(w:World)(hs:s.size≤8000) :
 Calls Tryz.prog 99 #[.string s,.string ⟨#[62]⟩] w fun e w'=>((G3 s∧e=.returned (.tuple #[.string (s.extract 1 s.size),.bool true]))∨(¬G3 s∧e=.returned (.tuple #[.string s,.bool false])))∧w'=w:=by
 go_enter Tryz.func99,Tryz.ntmps99;go_wp2_with fail;refine(A3O s w hs).mono ?_;rintro e w' ⟨h,rfl⟩;rcases h with⟨b,rfl⟩|⟨c,rfl⟩
 ·have a:=A4 b;clear b;go_wp2;go_ret2;exact⟨Or.inl ⟨a.o,rfl⟩,rfl⟩
 ·have a:=A4 c;clear c;go_wp2;go_ret2;exact⟨Or.inr ⟨a.o,rfl⟩,rfl⟩
def D8 (s:ByteArray):Prop:=1≤s.size∧s.size≤16∧∀j (hj:j<s.size),33≤s[j].toNat∧s[j].toNat≤126
theorem A3J (s:ByteArray)(w:World)(hs:s.size≤8000) :
 Calls Tryz.prog 130 #[.string s] w fun e w'=>((D8 s∧e=.returned (.bool true))∨(¬D8 s∧e=.returned (.bool false)))∧w'=w:=by
 by_cases h1:1≤s.size
 ·by_cases c:s.size≤16
  ·have c1:(1:Int)≤s.size:=O;have c2:(s.size:Int)≤16:=O;go_enter Tryz.func130,Tryz.ntmps130;go_wp2;go_loop [14] (fun i=>∃k:Nat,k≤s.size∧i=I J k∧∀j (b:j<s.size),j<k→33≤s[j].toNat∧s[j].toNat≤126) (fun i=>s.size-(intOf i).toNat);case atStart=>exact⟨0,Nat.zero_le _,rfl,fun j b h=>absurd h O⟩
   case round=>
    obtain⟨k,hk,rfl,d⟩:=hrel;have f:=A4 d;clear d;by_cases g:k<s.size
    ·by_cases l:33≤s[k].toNat
     ·by_cases hm:s[k].toNat≤126
      ·have d1:(33:Int)≤(s[k].toNat:Int):=O;have d2:(s[k].toNat:Int)≤126:=O;go_wp2;go_round;case rel=>
        refine⟨k+1,O,Zn,fun j b h=>?_⟩;by_cases m:j<k
        ·exact f.o j b m
        ·obtain rfl:j=k:=O;exact⟨l,hm⟩
       case measure=>simp[intOf];omega
      ·have a:Hd (¬D8 s):=fun h=>absurd (h.2.2 k g).2 hm;have d1:(33:Int)≤(s[k].toNat:Int):=O;have d2:¬(s[k].toNat:Int)≤126:=O;go_wp2;go_ret;exact⟨Or.inr ⟨a.o,rfl⟩,rfl⟩
     ·have a:Hd (¬D8 s):=fun h=>absurd (h.2.2 k g).1 l;have d1:¬(33:Int)≤(s[k].toNat:Int):=O;go_wp2;go_ret;exact⟨Or.inr ⟨a.o,rfl⟩,rfl⟩
    ·go_wp2;go_ret;exact⟨Or.inl ⟨⟨h1,c,fun j b=>f.o j b O⟩,rfl⟩,rfl⟩
  ·have a:Hd (¬D8 s):=fun h=>c h.2.1;have c1:(1:Int)≤s.size:=O;have c2:¬(s.size:Int)≤16:=O;go_enter Tryz.func130,Tryz.ntmps130;go_wp2;go_ret;exact⟨Or.inr ⟨a.o,rfl⟩,rfl⟩
 ·have a:Hd (¬D8 s):=fun h=>h1 h.1;have c1:¬(1:Int)≤s.size:=O;go_enter Tryz.func130,Tryz.ntmps130;go_wp2;go_ret;exact⟨Or.inr ⟨a.o,rfl⟩,rfl⟩
theorem A39 (s:ByteArray)(w:World)(hs:s.size≤8000) :
 Calls Tryz.prog 33 #[.string s] w fun e w'=>((D8 s∧e=.returned (.bool true))∨(¬D8 s∧e=.returned (.bool false)))∧w'=w:=by
 by_cases h1:1≤s.size
 ·by_cases c:s.size≤16
  ·have c1:(1:Int)≤s.size:=O;have c2:(s.size:Int)≤16:=O;go_enter Tryz.func33,Tryz.ntmps33;go_wp2;go_loop [3] (fun i=>∃k:Nat,k≤s.size∧i=I J k∧∀j (b:j<s.size),j<k→33≤s[j].toNat∧s[j].toNat≤126) (fun i=>s.size-(intOf i).toNat);case atStart=>exact⟨0,Nat.zero_le _,rfl,fun j b h=>absurd h O⟩
   case round=>
    obtain⟨k,hk,rfl,d⟩:=hrel;have f:=A4 d;clear d;by_cases g:k<s.size
    ·by_cases l:33≤s[k].toNat
     ·by_cases hm:s[k].toNat≤126
      ·have d1:(33:Int)≤(s[k].toNat:Int):=O;have d2:(s[k].toNat:Int)≤126:=O;go_wp2;go_round;case rel=>
        refine⟨k+1,O,Zn,fun j b h=>?_⟩;by_cases m:j<k
        ·exact f.o j b m
        ·obtain rfl:j=k:=O;exact⟨l,hm⟩
       case measure=>simp[intOf];omega
      ·have a:Hd (¬D8 s):=fun h=>absurd (h.2.2 k g).2 hm;have d1:(33:Int)≤(s[k].toNat:Int):=O;have d2:¬(s[k].toNat:Int)≤126:=O;go_wp2;go_ret;exact⟨Or.inr ⟨a.o,rfl⟩,rfl⟩
     ·have a:Hd (¬D8 s):=fun h=>absurd (h.2.2 k g).1 l;have d1:¬(33:Int)≤(s[k].toNat:Int):=O;go_wp2;go_ret;exact⟨Or.inr ⟨a.o,rfl⟩,rfl⟩
    ·go_wp2;go_ret;exact⟨Or.inl ⟨⟨h1,c,fun j b=>f.o j b O⟩,rfl⟩,rfl⟩
  ·have a:Hd (¬D8 s):=fun h=>c h.2.1;have c1:(1:Int)≤s.size:=O;have c2:¬(s.size:Int)≤16:=O;go_enter Tryz.func33,Tryz.ntmps33;go_wp2;go_ret;exact⟨Or.inr ⟨a.o,rfl⟩,rfl⟩
 ·have a:Hd (¬D8 s):=fun h=>h1 h.1;have c1:¬(1:Int)≤s.size:=O;go_enter Tryz.func33,Tryz.ntmps33;go_wp2;go_ret;exact⟨Or.inr ⟨a.o,rfl⟩,rfl⟩
end
end Mn
end Go.Proofs.YtilcmkiihefkkaaGreatDoor
