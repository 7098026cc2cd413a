import Derived.Test.YtilcmkiihefkkaaGreatDoorJl13
set_option linter.unusedVariables false
set_option linter.unusedSimpArgs false
set_option maxRecDepth 1000000
set_option maxHeartbeats 64000000
open Go.Value renaming int→I
open Go.IntKind renaming i64→J
namespace Go.Proofs.YtilcmkiihefkkaaGreatDoor
namespace Mn
section
open Go.RowKit
theorem letter_eq (c:UInt8):((65:Int)==(c.toNat:Int))=decide (B4 c=0)∧((67:Int)==(c.toNat:Int))=decide (B4 c=1)∧((71:Int)==(c.toNat:Int))=decide (B4 c=2)∧((84:Int)==(c.toNat:Int))=decide (B4 c=3)∧((78:Int)==(c.toNat:Int))=decide (B4 c=4):=by
 rcases R9 c with⟨rfl,h⟩|⟨rfl,h⟩|⟨rfl,h⟩|⟨rfl,h⟩|⟨rfl,h⟩|⟨h,h1,a,b,d,f⟩
 ·rw[h];decide
 ·rw[h];decide
 ·rw[h];decide
 ·rw[h];decide
 ·rw[h];decide
 ·rw[h];have q:∀n:Nat,n<256→c≠UInt8.ofNat n→((n:Int)==(c.toNat:Int))=false:=by
   intro n g i;rw[Bool.eq_false_iff];intro he;apply i;apply (eqs c n g).1;rw[beq_iff_eq]at he⊢;exact he.symm
  exact⟨q 65 O h1,q 67 O a,q 71 O b,q 84 O d,q 78 O f⟩
theorem W0 (c:UInt8)(w:World) :
 Calls Tryz.prog 68 #[.int .u8 c.toNat] w fun e w'=>e=.returned (I J (B4 c))∧w'=w:=by
 obtain⟨a,b,d,f,g⟩:=letter_eq c;have m:=K8 c;go_enter Tryz.func68,Tryz.ntmps68;go_wp2;go_loop [4] (fun i=>∃k:Nat,k≤5∧i=I J k∧(B4 c<0∨(k:Int)≤B4 c)) (fun i=>5-(intOf i).toNat);case atStart=>exact⟨0,O,rfl,O⟩
 case round=>
  obtain⟨k,hk,rfl,l⟩:=hrel;have j:=A4 l;clear l;have g0:(⟨#[65,67,71,84,78]⟩:ByteArray)[0]'Z=65:=rfl;have g1:(⟨#[65,67,71,84,78]⟩:ByteArray)[1]'Z=67:=rfl;have g2:(⟨#[65,67,71,84,78]⟩:ByteArray)[2]'Z=71:=rfl;have g3:(⟨#[65,67,71,84,78]⟩:ByteArray)[3]'Z=84:=rfl;have g4:(⟨#[65,67,71,84,78]⟩:ByteArray)[4]'Z=78:=rfl;rcases (show k=0∨k=1∨k=2∨k=3∨k=4∨k=5 by omega) with rfl|rfl|rfl|rfl|rfl|rfl
  ·by_cases hm:B4 c=0
   ·have q:((65:Int)==(c.toNat:Int))=true:=by rw[a,decide_eq_true hm]
    have h:=A4 hm;clear hm a b d f g;go_wp2;go_ret;exact⟨N0 h.o.symm,rfl⟩
   ·have q:((65:Int)==(c.toNat:Int))=false:=by rw[a,decide_eq_false hm]
    clear a b d f g;go_wp2;go_round;case rel=>exact⟨1,O,rfl,by have:=j.o;omega⟩
    case measure=>simp[intOf]
  ·by_cases hm:B4 c=1
   ·have q:((67:Int)==(c.toNat:Int))=true:=by rw[b,decide_eq_true hm]
    have h:=A4 hm;clear hm a b d f g;go_wp2;go_ret;exact⟨N0 h.o.symm,rfl⟩
   ·have q:((67:Int)==(c.toNat:Int))=false:=by rw[b,decide_eq_false hm]
    clear a b d f g;go_wp2;go_round;case rel=>exact⟨2,O,rfl,by have:=j.o;omega⟩
    case measure=>simp[intOf]
  ·by_cases hm:B4 c=2
   ·have q:((71:Int)==(c.toNat:Int))=true:=by rw[d,decide_eq_true hm]
    have h:=A4 hm;clear hm a b d f g;go_wp2;go_ret;exact⟨N0 h.o.symm,rfl⟩
   ·have q:((71:Int)==(c.toNat:Int))=false:=by rw[d,decide_eq_false hm]
    clear a b d f g;go_wp2;go_round;case rel=>exact⟨3,O,rfl,by have:=j.o;omega⟩
    case measure=>simp[intOf]
  ·by_cases hm:B4 c=3
   ·have q:((84:Int)==(c.toNat:Int))=true:=by rw[f,decide_eq_true hm]
    have h:=A4 hm;clear hm a b d f g;go_wp2;go_ret;exact⟨N0 h.o.symm,rfl⟩
   ·have q:((84:Int)==(c.toNat:Int))=false:=by rw[f,decide_eq_false hm]
    clear a b d f g;go_wp2;go_round;case rel=>exact⟨4,O,rfl,by have:=j.o;omega⟩
    case measure=>simp[intOf]
  ·by_cases hm:B4 c=4
   ·have q:((78:Int)==(c.toNat:Int))=true:=by rw[g,decide_eq_true hm]
    have h:=A4 hm;clear hm a b d f g;go_wp2;go_ret;exact⟨N0 h.o.symm,rfl⟩
   ·have q:((78:Int)==(c.toNat:Int))=false:=by rw[g,decide_eq_false hm]
    clear a b d f g;go_wp2;go_round;case rel=>exact⟨5,O,rfl,by have:=j.o;omega⟩
    case measure=>simp[intOf]
  ·clear a b d f g;go_wp2;go_ret;exact⟨N0 (by have:=j.o;omega),rfl⟩
theorem A0h (s:ByteArray)(w:World)(hs:s.size≤140737488351232) :
 Calls Tryz.prog 34 #[.string s] w fun e w'=>((good s∧e=.returned (.bool true))∨(¬good s∧e=.returned (.bool false)))∧w'=w:=by
 go_enter Tryz.func34,Tryz.ntmps34;go_wp2;go_loop [3] (fun i=>∃k:Nat,k≤s.size∧i=I J k∧∀j (a:j<s.size),j<k→0≤B4 s[j]) (fun i=>s.size-(intOf i).toNat);case atStart=>exact⟨0,Nat.zero_le _,rfl,fun j a h=>absurd h O⟩
 case round=>
  obtain⟨k,hk,rfl,b⟩:=hrel;have c:=A4 b;clear b;by_cases d:k<s.size
  ·by_cases m:B4 s[k]<0
   ·have f:Hd (¬good s):=fun h=>absurd (h k d) O;go_wp2_with (go_at_call 68;refine(W0 _ _).mono ?_;rintro e w' ⟨rfl,rfl⟩);go_ret;exact⟨Or.inr ⟨f.o,rfl⟩,rfl⟩
   ·have g:0≤B4 s[k]:=O;go_wp2_with (go_at_call 68;refine(W0 _ _).mono ?_;rintro e w' ⟨rfl,rfl⟩);go_round;case rel=>
     refine⟨k+1,O,Zn,fun j a h=>?_⟩;by_cases l:j<k
     ·exact c.o j a l
     ·obtain rfl:j=k:=O;exact g
    case measure=>simp[intOf];omega
  ·go_wp2;go_ret;exact⟨Or.inl ⟨fun j a=>c.o j a O,rfl⟩,rfl⟩
theorem A4m (n P:Nat)(w:World)(f:n≤24)(c:Hd (P=2^n)) :
 Calls Tryz.prog 166 #[I J n] w fun e w'=>e=.returned (I J P)∧w'=w:=by
 go_enter Tryz.func166,Tryz.ntmps166;go_wp2;go_loop [3,4] (fun p i=>∃k v:Nat,k≤n∧i=I J k∧p=I J v∧v=2^k) (fun _ i=>n-(intOf i).toNat);case atStart=>exact⟨0,1,Nat.zero_le _,rfl,rfl,rfl⟩
 case round=>
  obtain⟨k,v,hk,rfl,rfl,a⟩:=hrel;have b:=A4 a;have g:v≤16777216:=by
   rw[a];exact Nat.le_trans (Nat.pow_le_pow_right O (show k≤24 by omega)) Z
  clear a;by_cases h:k<n
  ·go_wp2;go_round;case rel=>exact⟨k+1,2*v,O,Zn,Zn,by rw[b.o,Nat.pow_succ];omega⟩
   case measure=>simp[intOf];omega
  ·have d:Hd (k=n):=by show _=_;omega
   go_wp2;go_ret;exact⟨N0 (by rw[b.o,c.o,d.o]),rfl⟩
theorem A5F (a b:Nat)(c:a<2^62)(d:b<2^62):bits .xor .i64 (a:Int) (b:Int)=((a ^^^ b:Nat):Int):=by
 have f:(2:Nat)^62≤2^IntKind.i64.bits:=Nat.pow_le_pow_right Z Z;have g:a%2^IntKind.i64.bits=a:=Nat.mod_eq_of_lt (Nat.lt_of_lt_of_le c f);have h:b%2^IntKind.i64.bits=b:=Nat.mod_eq_of_lt (Nat.lt_of_lt_of_le d f);have i:a ^^^ b<2^62:=Nat.xor_lt_two_pow c d;simp only[bits,BitVec.ofInt_natCast,BitVec.toNat_xor,BitVec.toNat_ofNat,g,h];rw[IntKind.wrap_i64];omega
theorem B02 (k c P Q:Nat)(h1:1≤k)(a:k≤12)(h:c<16777216)(b:P=2^(2*k))(d:Q=2^k) :
 bits BinOp.xor IntKind.i64 (((c*2654435761%P:Nat):Int)) (((c*2654435761%P/Q:Nat):Int))=(I5 k c:Nat):=by
 have f:=G1 k h1 a;have g:P=4^k:=by rw[b,f.2.2]
 have i:c*2654435761%P<P:=Nat.mod_lt _ O;have j:c*2654435761%P/Q≤c*2654435761%P:=Nat.div_le_self _ _;rw[A5F _ _ O O];unfold I5;rw[←g,←d]
theorem A30 (c k:Nat)(w:World)(h1:1≤k)(f:k≤12)(l:c<16777216) :
 Calls Tryz.prog 121 #[I J c,I J k] w fun e w'=>e=.returned (I J (I5 k c:Nat))∧w'=w:=by
 obtain⟨k2,s⟩:∃k2:Nat,(2:Int)*k=k2:=⟨2*k,O⟩;have a:k2=2*k:=O;obtain⟨P,b⟩:=A8 (2^k2);obtain⟨Q,d⟩:=A8 (2^k);have g:=G1 k h1 f;have m:P=4^k:=by rw[b,g.2.2,a]
 have t:P≤16777216:=O;have n:0<P:=O;have u:0<Q:=by rw[d];exact Nat.pow_pos O
 have v:((P:Int)==0)=false:=by rw[beq_eq_false_iff_ne];omega
 have hQ0:((Q:Int)==0)=false:=by rw[beq_eq_false_iff_ne];omega
 have h:=A4 b;have i:=A4 d;have p:=A4 a;clear b d g m a;go_enter Tryz.func121,Tryz.ntmps121;go_wp2_with fail;refine(A4m k2 P _ O h).mono ?_;rintro e w' ⟨rfl,rfl⟩;go_wp2_with fail;refine(A4m k Q _ O i).mono ?_;rintro e x ⟨rfl,rfl⟩;go_wp2;go_ret;refine⟨N0 ?_,rfl⟩;have e1:(c:Int)*2654435761%P=((c*2654435761%P:Nat):Int):=by
  rw[Int.natCast_emod,Int.natCast_mul];rfl
 have q:wrap64 (((c*2654435761%P:Nat):Int).tdiv Q)=((c*2654435761%P/Q:Nat):Int):=by
  have r:c*2654435761%P/Q≤c*2654435761%P:=Nat.div_le_self _ _;have y:c*2654435761%P<P:=Nat.mod_lt _ n;rw[show(((c*2654435761%P:Nat):Int).tdiv Q)=((c*2654435761%P/Q:Nat):Int) from rfl];have j:∀z:Nat,z≤16777216→wrap64 (z:Int)=z:=fun z j=>IntWalk.wrap64_in _ ⟨O,O⟩;exact j _ (Nat.le_trans r O)
 rw[e1,q];exact B02 k c P Q h1 f l (by rw[h.o,p.o]) i.o
theorem A1C (s:ByteArray)(j:Nat)(h:j<s.size):(nums s.data.toList).getD j 0=(B4 s[j]).toNat:=by
 rw[←A4h _ _ (by simpa using h),List.getD_eq_getElem?_getD,List.getElem?_eq_getElem (by simpa using h),Array.getElem_toList];rfl
theorem A5N (s:ByteArray)(w:World)(hs:s.size≤12)(y:Hd (good s)) :
 Calls Tryz.prog 120 #[.string s] w fun e w'=>(((∀m∈nums s.data.toList,m<4)∧e=.returned (I J (E7 (nums s.data.toList):Nat)))∨((¬∀m∈nums s.data.toList,m<4)∧e=.returned (I J (-1))))∧w'=w:=by
 have l:(nums s.data.toList).length=s.size:=by simp[nums]
 have d:=A4 l;clear l;obtain⟨a,f⟩:=A8 (nums s.data.toList);have z:=A4 f;rw[←f]at d⊢;clear f;go_enter Tryz.func120,Tryz.ntmps120;go_wp2;go_loop [3,4] (fun n i=>∃k v:Nat,k≤s.size∧i=I J k∧n=I J v∧v=E7 (a.take k)∧∀m∈a.take k,m<4) (fun _ i=>s.size-(intOf i).toNat);case atStart=>exact⟨0,0,Nat.zero_le _,rfl,rfl,rfl,Zs⟩
 case round=>
  obtain⟨k,v,hk,rfl,rfl,p,g⟩:=hrel;have q:=A4 p;have r:=A4 g;have D:v≤16777216:=by
   have h1:=X2 _ g;have A:(a.take k).length≤12:=Nat.le_trans (List.length_take_le _ _) O;have B:(4:Nat)^(a.take k).length≤4^12:=Nat.pow_le_pow_right O A;omega
  clear p g;by_cases j:k<s.size
  ·have E:=K8 s[k];have F:=y.o k j;have c:Hd (a.take (k+1)=a.take k++[(B4 s[k]).toNat]):=by
    show _=_;have t:k<a.length:=by rw[d.o];exact j
    rw[List.take_succ_eq_append_getElem t];have:=A1C s k j;rw[←z.o,List.getD_eq_getElem?_getD,List.getElem?_eq_getElem t]at this;rw[←this];rfl
   obtain⟨m,hm⟩:∃m:Nat,B4 s[k]=m:=⟨(B4 s[k]).toNat,O⟩;rw[hm,Int.toNat_natCast]at c;by_cases B:(3:Int)<m
   ·have C:Hd (¬∀m∈a,m<4):=fun h=>by
     have:m∈a:=List.mem_of_mem_take (i:=k+1) (by rw[c.o];simp);have:=h m this;omega
    go_wp2_with (go_at_call 68;refine(W0 _ _).mono ?_;rintro e w' ⟨rfl,rfl⟩;rw[hm]);go_ret;exact⟨Or.inr ⟨C.o,rfl⟩,rfl⟩
   ·go_wp2_with (go_at_call 68;refine(W0 _ _).mono ?_;rintro e w' ⟨rfl,rfl⟩;rw[hm]);go_round;case rel=>
     refine⟨k+1,4*v+m,O,Zn,Zn,by rw[c.o,A3w,←q.o],?_⟩;intro x b;rw[c.o,List.mem_append]at b;rcases b with b|b
     ·exact r.o x b
     ·simp at b;omega
    case measure=>simp[intOf];omega
  ·have u:Hd (a.take k=a):=List.take_of_length_le (by rw[d.o];omega);go_wp2;go_ret;refine⟨Or.inl ⟨?_,N0 ?_⟩,rfl⟩
   ·have:=r.o;rw[u.o]at this;exact this
   ·have:=q.o;rw[u.o]at this;rw[this]
theorem A7c (l:List UInt8)(k:Nat)(h:k<l.length):J2 (l.take (k+1))=pbyte (B4 l[k]).toNat::J2 (l.take k):=by
 unfold J2;rw[List.take_succ_eq_append_getElem h,List.map_append,List.reverse_append];rfl
theorem B0B (m:Nat)(h:m<5):((⟨#[65,67,71,84,78]⟩:ByteArray).extract (if m<4 then 3-m else m) ((if m<4 then 3-m else m)+1)).data.toList=[pbyte m]:=by
 rcases (show m=0∨m=1∨m=2∨m=3∨m=4 by omega) with rfl|rfl|rfl|rfl|rfl<;>decide
theorem A8O (l:List UInt8)(k:Nat)(h:k<l.length)(r x:ByteArray)(a:r=⟨(J2 (l.take k)).toArray⟩)(b:x.data.toList=[pbyte (B4 l[k]).toNat]):x++r=⟨(J2 (l.take (k+1))).toArray⟩:=by
 rw[A7c l k h,a];apply ByteArray.ext;apply Array.toList_inj.1;rw[ByteArray.data_append,Array.toList_append,b];simp
theorem A2w (s:ByteArray)(w:World)(hs:s.size≤140737488351232) :
 Calls Tryz.prog 95 #[.string s] w fun e w'=>((good s∧e=.returned (.tuple #[.string ⟨(J2 s.data.toList).toArray⟩,I J 0]))∨(¬good s∧e=.returned (.tuple #[.string ⟨#[]⟩,I J 2])))∧w'=w:=by
 go_enter Tryz.func95,Tryz.ntmps95;go_wp2_with fail;refine(A0h s w hs).mono ?_;rintro e w' ⟨h,rfl⟩;rcases h with⟨b,rfl⟩|⟨c,rfl⟩
 ·have j:=A4 b;clear b;go_wp2;go_loop [5,6] (fun out i=>∃(k:Nat) (r:ByteArray),k≤s.size∧i=I J k∧out=.string r∧r=⟨(J2 (s.data.toList.take k)).toArray⟩) (fun _ i=>s.size-(intOf i).toNat);case atStart=>exact⟨0,_,Nat.zero_le _,rfl,rfl,rfl⟩
  case round=>
   obtain⟨k,r,hk,rfl,rfl,d⟩:=hrel;have l:=A4 d;have B:r.size≤k:=by
    rw[d,A7Q,Q1];exact List.length_take_le _ _
   clear d;by_cases f:k<s.size
   ·have c:=K8 s[k];have b:=j.o k f;have n:s.data.toList[k]'(by simpa using f)=s[k]:=by rw[Array.getElem_toList];rfl
    obtain⟨m,hm⟩:∃m:Nat,B4 s[k]=m:=⟨(B4 s[k]).toNat,O⟩;have p:Hd (∀x:ByteArray,x.data.toList=[pbyte m]→x++r=⟨(J2 (s.data.toList.take (k+1))).toArray⟩):=fun x t=>
     A8O s.data.toList k (by simpa using f) r x l.o (by rw[n,hm];exact t)
    have u:m<5:=O;have a:=B0B m u;clear n;by_cases C:(m:Int)<4
    ·rw[if_pos O]at a;have g:Hd (((⟨#[65,67,71,84,78]⟩:ByteArray).extract (3-m) (3-m+1)).data.toList=[pbyte m]):=a;clear a;obtain⟨q,D⟩:∃q:Nat,(3:Int)-m=q:=⟨3-m,O⟩;have v:Hd (3-m=q):=by show _=_;omega
     have y:(q:Int)+1≤5:=O;go_wp2_with (go_at_call 68;refine(W0 _ _).mono ?_;rintro e w' ⟨rfl,rfl⟩;rw[hm]);go_round;case rel=>exact⟨k+1,_,O,Zn,rfl,p.o _ (by rw[←v.o];exact g.o)⟩
     case measure=>simp[intOf];omega
    ·rw[if_neg O]at a;have g:Hd (((⟨#[65,67,71,84,78]⟩:ByteArray).extract m (m+1)).data.toList=[pbyte m]):=a;clear a;have y:(m:Int)+1≤5:=O;go_wp2_with (go_at_call 68;refine(W0 _ _).mono ?_;rintro e w' ⟨rfl,rfl⟩;rw[hm]);go_round;case rel=>exact⟨k+1,_,O,Zn,rfl,p.o _ g.o⟩
     case measure=>simp[intOf];omega
   ·have z:Hd (s.data.toList.take k=s.data.toList):=List.take_of_length_le (by
     have:s.data.toList.length=s.size:=Array.length_toList;omega)
    go_wp2;go_ret2;refine⟨Or.inl ⟨j.o,?_⟩,rfl⟩;have:=l.o;rw[z.o]at this;rw[this];rfl
 ·have A:=A4 c;clear c;go_wp2;go_ret2;exact⟨Or.inr ⟨A.o,rfl⟩,rfl⟩
theorem B3l (k a b:Nat)(c:a<2^(2*k))(d:b<2^(2*k))(h:a ^^^ (a/2^k)=b ^^^ (b/2^k)):a=b:=by
 have hs:∀x,x<2^(2*k)→(x ^^^ (x/2^k))/2^k=x/2^k:=by
  intro x f;apply Nat.eq_of_testBit_eq;intro i;simp only[Nat.testBit_div_two_pow,Nat.testBit_xor];have:x.testBit (k+(k+i))=false:=by
   apply Nat.testBit_lt_two_pow;exact Nat.lt_of_lt_of_le f (Nat.pow_le_pow_right O O)
  rw[show i+k+k=k+(k+i) by omega,this];simp
 have e:a/2^k=b/2^k:=by rw[←hs a c,←hs b d,h]
 rw[e]at h;have:=congrArg (· ^^^ (b/2^k)) h;simpa[Nat.xor_assoc] using this
theorem B0C (k c d:Nat)(h1:1≤k)(j:k≤12)(f:c<4^k)(g:d<4^k)(h:I5 k c=I5 k d):c=d:=by
 have a:(4:Nat)^k=2^(2*k):=by rw[Nat.pow_mul]
 have b:0<(4:Nat)^k:=Nat.pow_pos O;have e:=B3l k _ _ (by rw[←a];exact Nat.mod_lt _ b) (by rw[←a];exact Nat.mod_lt _ b) h;have hm:2654435761*9121617%4^k=1%4^k:=by
  rcases (show k=1∨k=2∨k=3∨k=4∨k=5∨k=6∨k=7∨k=8∨k=9∨k=10∨k=11∨k=12 by omega) with rfl|rfl|rfl|rfl|rfl|rfl|rfl|rfl|rfl|rfl|rfl|rfl<;>decide
 have key:∀x,x<4^k→(x*2654435761%4^k)*9121617%4^k=x:=by
  intro x i;rw[Nat.mod_mul_mod,Nat.mul_assoc,Nat.mul_mod,hm,←Nat.mul_mod,Nat.mul_one,Nat.mod_eq_of_lt i]
 rw[←key c f,←key d g,e]
theorem A3X:∀(a b:List Nat),a.length=b.length→(∀m∈a,m<4)→(∀m∈b,m<4)→E7 a=E7 b→a=b
 |[],[],_,_,_,_=>rfl
 |[],_::_,h,_,_,_=>by simp at h
 |_::_,[],h,_,_,_=>by simp at h
 |m::a,n::b,h,f,g,e=>by
  have d:a.length=b.length:=by simpa using h
  have h1:=X2 a (fun x c=>f x (List.mem_cons_of_mem _ c))
  have j:=X2 b (fun x c=>g x (List.mem_cons_of_mem _ c))
  rw[A0z,A0z,d]at e
  rw[d]at h1
  have i:0<4^b.length:=Nat.pow_pos O
  have e1:m=n:=by
   have:=congrArg (· / 4^b.length) e
   rw[Nat.mul_comm m,Nat.mul_comm n,Nat.mul_add_div i,Nat.mul_add_div i,Nat.div_eq_of_lt h1,Nat.div_eq_of_lt j]at this
   simpa using this
  subst e1
  have k:E7 a=E7 b:=O
  rw[A3X a b d (fun x c=>f x (List.mem_cons_of_mem _ c)) (fun x c=>g x (List.mem_cons_of_mem _ c)) k]
def rcL (a:List Nat):List Nat:=(a.map (3 - ·)).reverse
theorem A0s (a:List Nat):(rcL a).length=a.length:=by simp[rcL]
theorem A4z (a:List Nat):∀m∈rcL a,m<4:=by
 intro m hm;simp only[rcL,List.mem_reverse,List.mem_map]at hm;obtain⟨x,_,rfl⟩:=hm;omega
theorem A4W (a:List Nat)(h:∀m∈a,m<4):rcL (rcL a)=a:=by
 unfold rcL;rw[List.map_reverse,List.reverse_reverse,List.map_map];conv=>rhs;rw[←List.map_id a]
 apply List.map_congr_left;intro x b;have:=h x b;simp only[Function.comp,id];omega
theorem A02 {a:List Nat}{k p:Nat}(h:isW a k p=true):p+k≤a.length∧(∀m∈O5 a p k,m<4)∧(O5 a p k).length=k:=by
 unfold isW at h;simp only[Bool.and_eq_true,decide_eq_true_eq,List.all_eq_true]at h;exact⟨h.1,h.2,A0m a p k h.1⟩
theorem T6 {a:List Nat}{k p:Nat}{x:W3}(h:E4 a k p=some x) :
 x.p=p∧((x.b=false∧x.h=(I5 k (E7 (O5 a p k)):Nat))∨(x.b=true∧x.h=(I5 k (E7 (rcL (O5 a p k))):Nat))):=by
 have hw:=H6 h;unfold E4 at h;rw[if_pos hw]at h;unfold F4 at h;split at h
 ·cases h
 ·rename_i d;simp only[Option.some.injEq]at h;subst h;refine⟨rfl,?_⟩;unfold A0C;have ht:J8 (O5 a p k)=E7 (rcL (O5 a p k)):=rfl;rw[ht]at d⊢;by_cases c:E7 (rcL (O5 a p k))<E7 (O5 a p k)
  ·right;refine⟨by simp[c],?_⟩;show((I5 k (min _ _):Nat):Int)=_;rw[Nat.min_eq_right O]
  ·left;refine⟨by simp[c],?_⟩;show((I5 k (min _ _):Nat):Int)=_;rw[Nat.min_eq_left O]
theorem A7I {a b:List Nat}{k p q:Nat}{x y:W3}(h1:1≤k)(o:k≤12)(f:E4 a k p=some x)(g:E4 b k q=some y)(h:x.h=y.h) :
 (x.b=y.b→O5 b q k=O5 a p k)∧(x.b≠y.b→O5 b q k=rcL (O5 a p k)):=by
 obtain⟨_,d,a2⟩:=A02 (H6 f);obtain⟨_,b1,b2⟩:=A02 (H6 g);have r:=(T6 f).2;have s:=(T6 g).2;have inj:∀u v:List Nat,u.length=k→v.length=k→(∀m∈u,m<4)→(∀m∈v,m<4)→((I5 k (E7 u):Nat):Int)=(I5 k (E7 v):Nat)→u=v:=by
  intro u v hu t i j e;refine A3X u v O i j (B0C k _ _ h1 o ?_ ?_ (by exact_mod_cast e))
  ·have:=X2 u i;rwa [hu]at this
  ·have:=X2 v j;rwa [t]at this
 rcases r with⟨ex,l⟩|⟨ex,l⟩<;>rcases s with⟨c,n⟩|⟨c,n⟩<;>rw[l,n]at h
 ·exact⟨fun _=>(inj _ _ a2 b2 d b1 h).symm,fun e=>absurd (ex.trans c.symm) e⟩
 ·refine⟨fun e=>(by rw[ex,c]at e;cases e),fun _=>?_⟩;have:=inj _ _ a2 (by rw[A0s];exact b2) d (A4z _) h;rw[this,A4W _ b1]
 ·refine⟨fun e=>(by rw[ex,c]at e;cases e),fun _=>?_⟩;exact(inj _ _ (by rw[A0s];exact a2) b2 (A4z _) b1 h).symm
 ·refine⟨fun _=>?_,fun e=>absurd (ex.trans c.symm) e⟩;have:=inj _ _ (by rw[A0s];exact a2) (by rw[A0s];exact b2) (A4z _) (A4z _) h;rw[←A4W _ d,this,A4W _ b1]
theorem comp_map (l:List Nat)(h:∀m∈l,m<4):l.map comp=l.map (3 - ·):=by
 apply List.map_congr_left;intro x a;have:=h x a;unfold comp;rw[if_neg O]
theorem A7a (a:List Nat)(k p:Nat)(h:isW a k p=true):O5 ((a.map comp).reverse) (a.length-k-p) k=rcL (O5 a p k):=by
 obtain⟨h1,c,d⟩:=A02 h;have b:(a.map comp).length=a.length:=Zs;rw[A54 (a.map comp) (a.length-k-p) k (by rw[b];omega),b,show a.length-k-(a.length-k-p)=p by omega,B12,comp_map _ c];rfl
theorem extract_toList (s:ByteArray)(i j:Nat)(a:i≤j)(h:j≤s.size):(s.extract i j).data.toList=(s.data.toList.drop i).take (j-i):=by
 rw[ByteArray.data_extract];simp[Array.toList_extract,List.extract_eq_take_drop]
theorem extract_size (s:ByteArray)(i j:Nat)(a:i≤j)(h:j≤s.size):(s.extract i j).size=j-i:=by
 rw[ByteArray.size_extract];omega
theorem A5n (s:ByteArray)(i j:Nat)(b:i≤j)(h:j≤s.size)(d:good s):good (s.extract i j):=by
 have h1:=A0c d;have f:∀c∈(s.extract i j).data.toList,0≤B4 c:=by
  intro c a;rw[extract_toList s i j b h]at a;exact h1 c (List.mem_of_mem_drop (List.mem_of_mem_take a))
 have:=A0a f;rwa [mk_data]at this
theorem A4B (s:ByteArray)(p k:Nat)(h:p+k≤s.size):nums (s.extract p (p+k)).data.toList=O5 (nums s.data.toList) p k:=by
 rw[extract_toList s p (p+k) O h];unfold nums O5;rw[List.map_take,List.map_drop,show p+k-p=k by omega]
theorem A5r (l:List UInt8)(a:∀m∈nums l,m<4):E7 (nums (J2 l))=J8 (nums l):=by
 rw[A1r];unfold J8;congr 2;apply List.map_congr_left;intro m hm;have:=a m hm;unfold comp;rw[if_neg O]
theorem A34 (s:ByteArray)(p k:Nat)(w:World)(hs:s.size≤4398046510000)(l:1≤k)(n:k≤12)(Q:p+k≤s.size)(R:Hd (good s)) :
 Calls Tryz.prog 92 #[.string s,I J p,I J k] w fun e w'=>
  ((isW (nums s.data.toList) k p=false∧e=.returned (.tuple #[.agg #[I J 0,I J 0,.bool false],I J 0]))∨
   (isW (nums s.data.toList) k p=true∧E4 (nums s.data.toList) k p=none∧e=.returned (.tuple #[.agg #[I J 0,I J 0,.bool false],I J 1]))∨
   (∃x,E4 (nums s.data.toList) k p=some x∧e=.returned (.tuple #[.agg #[I J x.h,I J x.p,.bool x.b],I J 2])))∧Below w.heap.size w w':=by
 obtain⟨d,ac⟩:∃d:Nat,(p:Int)+k=d:=⟨p+k,O⟩;have C:d=p+k:=O;have ad:(d:Int)≤s.size:=O;have ae:(p:Int)≤d:=O;obtain⟨u,hu⟩:=A8 (s.extract p d);have D:u.size=k:=by rw[hu,extract_size s p d O O];omega
 have E:good u:=by rw[hu];exact A5n s p d O O R.o
 have F:nums u.data.toList=O5 (nums s.data.toList) p k:=by rw[hu,C];exact A4B s p k Q
 have S:=A4 hu;have G:=A4 E;have y:=A4 F;have j:=A4 D;clear hu E F D C;go_enter Tryz.func92,Tryz.ntmps92;go_wp2_with fail;rw[←S.o];refine(A5N u _ (by have:=j.o;omega) G).mono ?_;rintro e w1 ⟨h1,rfl⟩;rcases h1 with⟨f,rfl⟩|⟨f,rfl⟩
 ·have q:Hd (isW (nums s.data.toList) k p=true):=by
   show _=_;unfold isW;rw[Bool.and_eq_true,List.all_eq_true];refine⟨?_,fun m hm=>?_⟩
   ·simp only[decide_eq_true_eq];have:(nums s.data.toList).length=s.size:=by simp[nums]
    omega
   ·have:=f m (by rw[y.o];exact hm);simpa using this
  have z:=A4 f;clear f;obtain⟨t0,g⟩:=A8 (⟨(J2 u.data.toList).toArray⟩:ByteArray);have T:=A4 g;have V:Hd (good t0):=by rw[g];exact A0a A28
  have W:Hd (t0.size=k):=by
   show _=_;rw[g,A7Q,Q1];exact(Array.length_toList).trans j.o
  have H:Hd (E7 (nums t0.data.toList)=J8 (nums u.data.toList)):=by
   show _=_;rw[g];exact A5r _ z.o
  have X:Hd (∀m∈nums t0.data.toList,m<4):=by
   rw[g];show ∀m∈nums (J2 u.data.toList),m<4;rw[A1r];intro m hm;rw[List.mem_reverse,List.mem_map]at hm;obtain⟨x,Y,rfl⟩:=hm;have:=z.o x Y;unfold comp;split<;>omega
  clear g;have K:E7 (nums u.data.toList)<16777216:=by
   have h1:=X2 _ z.o;rw[show(nums u.data.toList).length=k by simp[nums];exact j.o]at h1;exact Nat.lt_of_lt_of_le h1 (G1 k l n).1
  have L:J8 (nums u.data.toList)<16777216:=by
   have h1:=A8J (nums u.data.toList);rw[show(nums u.data.toList).length=k by simp[nums];exact j.o]at h1;exact Nat.lt_of_lt_of_le h1 (G1 k l n).1
  have r:Hd (E4 (nums s.data.toList) k p=F4 k p (E7 (nums u.data.toList)) (J8 (nums u.data.toList))):=by
   show _=_;unfold E4;rw[if_pos q.o,y.o]
  obtain⟨c,A⟩:=A8 (E7 (nums u.data.toList));obtain⟨a,M⟩:=A8 (J8 (nums u.data.toList));rw[←A]at K r;rw[←M]at L r H;rw[←A];clear A M;go_wp2_with fail;refine(A2w u _ (by have:=j.o;omega)).mono ?_;rintro e af ⟨N,rfl⟩;obtain rfl:e=.returned (.tuple #[.string t0,I J 0]):=by
   rcases N with⟨_,h⟩|⟨h,_⟩
   ·rw[h,T.o]
   ·exact absurd G.o h
  clear N;go_wp2_with fail;refine(A5N t0 _ (by have:=W.o;omega) V).mono ?_;rintro e ag ⟨P,rfl⟩;obtain rfl:e=.returned (I J (a:Nat)):=by
   rcases P with⟨_,h⟩|⟨h,_⟩
   ·rw[h,H.o]
   ·exact absurd X.o h
  clear P;by_cases i:c=a
  ·have t:Hd (E4 (nums s.data.toList) k p=none):=by
    show _=_;rw[r.o];unfold F4;rw[if_pos i]
   have hq:((c:Int)==a)=true:=by simp[i]
   clear i;go_wp2;exact bodyPost_ret (v:=.tuple #[.agg #[I J 0,I J 0,.bool false],I J 1]) (by simp[results,Tryz.results92,go_sem]) rfl ⟨Or.inr (Or.inl ⟨q.o,t.o,rfl⟩),(Below.refl _ _).alloc (Nat.le_refl _) _⟩
  ·have hq:((c:Int)==a)=false:=by rw[beq_eq_false_iff_ne];omega
   have t:Hd (E4 (nums s.data.toList) k p=some (A0C k p c a)):=by
    show _=_;rw[r.o];unfold F4;rw[if_neg i]
   by_cases aa:(a:Int)<c
   ·have B:Hd (A0C k p c a=⟨(I5 k a:Nat),p,true⟩):=by
     show _=_;unfold A0C;rw[Nat.min_eq_right O,decide_eq_true O]
    clear i;go_wp2_with fail;refine(A30 a k _ l n L).mono ?_;rintro e ab ⟨rfl,rfl⟩;go_wp2;exact bodyPost_ret (v:=.tuple #[.agg #[I J (I5 k a:Nat),I J p,.bool true],I J 2]) (by simp[results,Tryz.results92,go_sem]) rfl ⟨Or.inr (Or.inr ⟨_,t.o,by rw[B.o]⟩),(Below.refl _ _).alloc (Nat.le_refl _) _⟩
   ·have B:Hd (A0C k p c a=⟨(I5 k c:Nat),p,false⟩):=by
     show _=_;unfold A0C;rw[Nat.min_eq_left O,decide_eq_false O]
    have ah:decide ((a:Int)<c)=false:=decide_eq_false aa;have ai:decide (a<c)=false:=decide_eq_false O;clear i;go_wp2_with fail;refine(A30 c k _ l n K).mono ?_;rintro e ab ⟨rfl,rfl⟩;go_wp2;exact bodyPost_ret (v:=.tuple #[.agg #[I J (I5 k c:Nat),I J p,.bool false],I J 2]) (by simp[results,Tryz.results92,go_sem]) rfl ⟨Or.inr (Or.inr ⟨_,t.o,by rw[B.o]⟩),(Below.refl _ _).alloc (Nat.le_refl _) _⟩
 ·have q:Hd (isW (nums s.data.toList) k p=false):=by
   show _=_;rw[Bool.eq_false_iff];intro h;apply f;rw[y.o];unfold isW at h;rw[Bool.and_eq_true,List.all_eq_true]at h;intro m hm;simpa using h.2 m hm
  clear f;go_wp2;exact bodyPost_ret (v:=.tuple #[.agg #[I J 0,I J 0,.bool false],I J 0]) (by simp[results,Tryz.results92,go_sem]) rfl ⟨Or.inl ⟨q.o,rfl⟩,(Below.refl _ _).alloc (Nat.le_refl _) _⟩
def C9 (a:List Nat)(k m:Nat):Nat→Option W3
 |0=>none
 |q+1=>match E4 a k (m+q) with
  |none=>C9 a k m q
  |some x=>match C9 a k m q with
   |none=>some x
   |some b=>if x.h<b.h then some x else some b
theorem A62 (a:List Nat)(k m:Nat):∀q,
 (C9 a k m q=none→∀j y,m≤j→j<m+q→E4 a k j≠some y)∧
 (∀x,C9 a k m q=some x→∃i,m≤i∧i<m+q∧E4 a k i=some x∧(∀j y,m≤j→j<m+q→E4 a k j=some y→x.h≤y.h)∧(∀j y,m≤j→j<i→E4 a k j=some y→x.h<y.h)):=by
 intro q;induction q with
 |zero=>exact⟨fun _ j y h1 g=>absurd g O,fun x h=>by simp[C9]at h⟩
 |succ q w=>
  obtain⟨p,u⟩:=w;cases d:E4 a k (m+q) with
  |none=>
   have e:C9 a k m (q+1)=C9 a k m q:=by rw[C9,d]
   rw[e];constructor
   ·intro A j y h1 g c;by_cases f:j=m+q
    ·subst f;rw[d]at c;simp at c
    ·exact p A j y h1 O c
   ·intro x B;obtain⟨i,r,C,s,o,t⟩:=u x B;refine⟨i,r,O,s,?_,t⟩;intro j y h1 g c;by_cases f:j=m+q
    ·subst f;rw[d]at c;simp at c
    ·exact o j y h1 O c
  |some x=>
   cases n:C9 a k m q with
   |none=>
    have e:C9 a k m (q+1)=some x:=by rw[C9,d,n]
    rw[e];refine⟨fun h=>by simp at h,fun z l=>?_⟩;simp only[Option.some.injEq]at l;subst l;refine⟨m+q,O,O,d,?_,?_⟩
    ·intro j y h1 g c;by_cases f:j=m+q
     ·subst f;rw[d]at c;cases c;exact Int.le_refl _
     ·exact absurd c (p n j y h1 O)
    ·intro j y h1 g c;exact absurd c (p n j y h1 O)
   |some b=>
    obtain⟨i,r,C,s,o,t⟩:=u b n;by_cases v:x.h<b.h
    ·have e:C9 a k m (q+1)=some x:=by rw[C9,d,n];simp[v]
     rw[e];refine⟨fun h=>by simp at h,fun z l=>?_⟩;simp only[Option.some.injEq]at l;subst l;refine⟨m+q,O,O,d,?_,?_⟩
     ·intro j y h1 g c;by_cases f:j=m+q
      ·subst f;rw[d]at c;cases c;exact Int.le_refl _
      ·have:=o j y h1 O c;omega
     ·intro j y h1 g c;have:=o j y h1 O c;omega
    ·have e:C9 a k m (q+1)=some b:=by rw[C9,d,n];simp[v]
     rw[e];refine⟨fun h=>by simp at h,fun z l=>?_⟩;simp only[Option.some.injEq]at l;subst l;refine⟨i,r,O,s,?_,t⟩;intro j y h1 g c;by_cases f:j=m+q
     ·subst f;rw[d]at c;cases c;omega
     ·exact o j y h1 O c
theorem A4R (a:List Nat)(k W m:Nat)(o:1≤W)(hw:A3R a k W (m+W-1)) :
 (C9 a k m W=none→∀x,¬I2 a k W (m+W-1) x)∧(∀x,C9 a k m W=some x→I2 a k W (m+W-1) x):=by
 have d:=A62 a k m W;constructor
 ·intro f x ⟨_,i,h1,c,b,_⟩;exact d.1 f i x O O b
 ·intro x g;obtain⟨i,p,q,h,l,n⟩:=d.2 x g;exact⟨hw,i,O,O,h,fun j y h1 c b=>l j y O O b,fun j y h1 c b=>n j y O c b⟩
def Q7 (a:List Nat)(k:Nat)(f:Nat→Bool)(n:Nat):List W3:=(List.range n).filterMap (fun i=>if f i=true then E4 a k i else none)
theorem A7l (a:List Nat)(k:Nat)(f:Nat→Bool)(n:Nat):Q7 a k f (n+1)=Q7 a k f n++(match (if f n=true then E4 a k n else none) with|none=>[]|some x=>[x]):=by
 unfold Q7;rw[List.range_succ,List.filterMap_append];cases h:(if f n=true then E4 a k n else none)<;>simp[h]
theorem A4V (a:List Nat)(k:Nat)(f:Nat→Bool)(n:Nat):(Q7 a k f n).length≤n:=by
 unfold Q7;refine Nat.le_trans (List.length_filterMap_le _ _) ?_;simp
theorem A6I (a:List Nat)(k W:Nat)(hk:1≤k)(h:1≤W)(f:Nat→Bool)(m:Nat)(hm:a.length<m+k+W-1)(l:∀i,i<m→i+k+W-1≤a.length)
 (n:∀p:Nat,f p=true↔∃i,i<m∧∃x,I2 a k W (i+W-1) x∧x.p=p) :
 (M0 k W a (a.length+1-k)).M=Q7 a k f a.length:=by
 rw[A5d a k W hk h f m hm l n];refine A42 _ _ ((A56 a k).filter _) ?_ ?_
 ·unfold Q7;rw[List.pairwise_filterMap];refine List.Pairwise.imp ?_ List.pairwise_lt_range;intro i j q x b y c;split at b
  ·split at c
   ·have:=E9 b;have:=E9 c;omega
   ·simp at c
  ·simp at b
 ·intro x;rw[List.mem_filter,A6x a k hk];unfold Q7;rw[List.mem_filterMap];constructor
  ·intro ⟨⟨i,hi⟩,g⟩;have d:=E9 hi;have r:=((A16 a k i).1 (H6 hi)).1;rw[d,Int.toNat_natCast]at g;exact⟨i,Zo,by rw[if_pos g];exact hi⟩
  ·intro ⟨i,hi,b⟩;split at b
   ·rename_i o;have d:=E9 b;refine⟨⟨i,b⟩,?_⟩;rw[d,Int.toNat_natCast];exact o
   ·simp at b
def StJ (a:List Nat)(k W St:Nat)(m:Nat)(wr:World):Prop:=
 ∃(cs:Array Value) (f:Nat→Bool),(∀i,i<m→i+k+W-1≤a.length)∧wr.heap[St]?=some (.cells cs 4 (0,0))∧cs.size=a.length∧(∀p,p<a.length→cs[p]?=some (.bool (f p)))∧
  (∀p:Nat,f p=true↔∃i,i<m∧∃x,I2 a k W (i+W-1) x∧x.p=p)
theorem StJ.keep {a:List Nat}{k W St m:Nat}{wr b:World}(h:StJ a k W St m wr)(c:b.heap[St]?=wr.heap[St]?):StJ a k W St m b:=by
 obtain⟨cs,f,h1,d,g,i,j⟩:=h;exact⟨cs,f,h1,c.trans d,g,i,j⟩
theorem StJ.stepN {a:List Nat}{k W St m:Nat}{wr:World}(h:StJ a k W St m wr)(c:m+k+W-1≤a.length)(d:∀x,¬I2 a k W (m+W-1) x):StJ a k W St (m+1) wr:=by
 obtain⟨cs,f,h1,g,j,l,n⟩:=h;refine⟨cs,f,?_,g,j,l,?_⟩
 ·intro i hi;by_cases h:i=m
  ·subst h;exact c
  ·exact h1 i O
 ·intro p;rw[n p];constructor
  ·intro ⟨i,hi,x,b⟩;exact⟨i,O,x,b⟩
  ·intro ⟨i,hi,x,b,o⟩;by_cases h:i=m
   ·subst h;exact absurd b (d x)
   ·exact⟨i,O,x,b,o⟩
theorem StJ.stepS {a:List Nat}{k W St m b:Nat}{wr:World}{x:W3}(h:StJ a k W St m wr)(j:m+k+W-1≤a.length)(g:I2 a k W (m+W-1) x)(r:x.p=b)(s:b<a.length) :
 StJ a k W St (m+1) (wr.setCell ⟨St,b,none⟩ (.bool true)):=by
 obtain⟨cs,f,h1,l,n,o,q⟩:=h;refine⟨_,fun p=>f p||decide (p=b),?_,heap_setCell_same wr St b cs 4 (.bool true) l,by simpa using n,?_,?_⟩
 ·intro i hi;by_cases h:i=m
  ·subst h;exact j
  ·exact h1 i O
 ·intro p d;by_cases h:p=b
  ·subst h;rw[Array.getElem?_setIfInBounds_self_of_lt O];simp
  ·rw[Array.getElem?_setIfInBounds_ne O,o p d];simp[h]
 ·intro p;rw[Bool.or_eq_true,q p,decide_eq_true_iff];constructor
  ·intro h;rcases h with⟨i,hi,y,c⟩|h
   ·exact⟨i,O,y,c⟩
   ·exact⟨m,O,x,g,O⟩
  ·intro ⟨i,hi,y,c,d⟩;by_cases h:i=m
   ·subst h;right;have:=A0X c g;subst this;omega
   ·left;exact⟨i,O,y,c,d⟩
def N3 (a:List Nat)(k m q:Nat):Bool:=decide (∀j,j<q→isW a k (m+j)=true)
theorem A5I (a:List Nat)(k m q:Nat):N3 a k m (q+1)=(N3 a k m q&&isW a k (m+q)):=by
 rw[Bool.eq_iff_iff,Bool.and_eq_true];unfold N3;rw[decide_eq_true_iff,decide_eq_true_iff];constructor
 ·intro h;exact⟨fun j b=>h j O,h q O⟩
 ·intro ⟨h1,c⟩ j b;by_cases h:j=q
  ·subst h;exact c
  ·exact h1 j O
theorem A7s (a:List Nat)(k m W:Nat)(b:1≤W):N3 a k m W=true↔A3R a k W (m+W-1):=by
 unfold N3;rw[decide_eq_true_iff];constructor
 ·intro h;refine⟨O,fun j h1 c=>?_⟩;have:=h (j-m) O;rwa [show m+(j-m)=j by omega]at this
 ·intro ⟨_,h⟩ j d;exact h (m+j) O O
theorem Tryz.info4:(Tryz.prog.info? 4).map (fun i=>(i.zero,i.size,i.bytes))=some (some (.bool false),1,1):=U
end
end Mn
end Go.Proofs.YtilcmkiihefkkaaGreatDoor
