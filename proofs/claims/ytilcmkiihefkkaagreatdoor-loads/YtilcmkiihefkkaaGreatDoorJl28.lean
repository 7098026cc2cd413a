import Derived.Lib.ConvBytes
import Derived.Test.YtilcmkiihefkkaaGreatDoorJl26
import Derived.Test.YtilcmkiihefkkaaGreatDoorJl27
set_option linter.unusedVariables false
set_option linter.unusedSimpArgs false
set_option maxRecDepth 1000000
set_option maxHeartbeats 64000000
open Go.Value renaming int→I
open Go.IntKind renaming i64→J
namespace Go.Proofs.YtilcmkiihefkkaaGreatDoor
namespace Mn
section
open Go.RowKit
def RrP (w:World)(B:Nat)(s:ByteArray):Prop:=w.heap[B]?=some (.cells #[.string s] 74 (0,0))
structure RrF (B:Nat)(w w':World):Prop where
 os:w'.os=w.os
 tape:w'.tape=w.tape
 output:w'.output=w.output
 size:w.heap.size≤w'.heap.size
 other:∀j,j<w.heap.size→j≠B→w'.heap[j]?=w.heap[j]?
theorem RrF.trans {B:Nat}{a b c:World}(h:RrF B a b)(d:RrF B b c):RrF B a c:=⟨d.os.trans h.os,d.tape.trans h.tape,d.output.trans h.output,Nat.le_trans h.size d.size,fun j f g=>(d.other j (Nat.lt_of_lt_of_le f h.size) g).trans (h.other j f g)⟩
theorem RrF.of {B:Nat}{a b:World}(h:Below a.heap.size a b):RrF B a b:=⟨h.os,h.tape,h.output,h.size,fun j c _=>h.block j c⟩
def tkS (n:Nat)(s:ByteArray):ByteArray:=s.extract 0 (min n s.size)
def drS (n:Nat)(s:ByteArray):ByteArray:=s.extract (min n s.size) s.size
theorem A1R (n:Nat)(s:ByteArray):(tkS n s).data.toList=s.data.toList.take n:=by
 unfold tkS;rw[ByteArray.data_extract,Array.toList_extract];simp[List.take_eq_take_iff]
theorem O0 (n:Nat)(s:ByteArray):(drS n s).data.toList=s.data.toList.drop n:=by
 unfold drS;rw[ByteArray.data_extract,Array.toList_extract];have a:s.data.toList.length=s.size:=rfl;show List.take (s.size-min n s.size) (List.drop (min n s.size) s.data.toList)=List.drop n s.data.toList;rw[List.take_of_length_le (by rw[List.length_drop,a];exact Nat.le_refl _)];rcases Nat.le_total n s.size with h|h
 ·rw[Nat.min_eq_left h]
 ·rw[Nat.min_eq_right h,List.drop_eq_nil_of_le O,List.drop_eq_nil_of_le O]
theorem A3f (n:Nat)(s:ByteArray):(tkS n s).size=min n s.size:=by
 unfold tkS;rw[ByteArray.size_extract];omega
theorem X8 (n:Nat)(s:ByteArray):(drS n s).size≤s.size:=by
 unfold drS;rw[ByteArray.size_extract];omega
theorem A05 (s:ByteArray)(n B:Nat)(w:World)(h:RrP w B s)(q:n≤1000000)(hs:s.size≤140737488355328) :
 Calls Tryz.prog 23 #[.pointer (some ⟨B,0,none⟩),I J n] w fun e w'=>e=.returned (.string (tkS n s))∧RrP w' B (drS n s)∧RrF B w w':=by
 have c0:w.cell? ⟨B,0,none⟩=some (.string s):=A1 h rfl;have f0:w.frozen? ⟨B,0,none⟩=false:=frozen_of_row _ _ _ _ _ h;have c:Hd (∀t:ByteArray,E1 w (w.setCell ⟨B,0,none⟩ (.string t)) B (.cells #[.string t] 74 (0,0))):=fun t=>E1.of_setCell (i:=0) (.string t) h;clear h;have a:∀m,m=min n s.size→s.extract 0 m=tkS n s∧s.extract m s.size=drS n s:=fun m hm=>by rw[hm];exact⟨rfl,rfl⟩
 have fin:∀t u,t=tkS n s→u=drS n s→Ending.returned (.string t)=.returned (.string (tkS n s))∧RrP (w.setCell ⟨B,0,none⟩ (.string u)) B (drS n s)∧RrF B w (w.setCell ⟨B,0,none⟩ (.string u)):=fun t u ht hu=>by
  subst ht hu;have h:=c.o (drS n s);exact⟨rfl,h.here,⟨rfl,rfl,rfl,by rw[h.size];exact Nat.le_refl _,fun j _ g=>h.other j g⟩⟩
 have d:=A4 fin;clear fin c;by_cases f:s.size<n
 ·have k:=A4 (a s.size O);have l:(s.size:Int)<n:=O;have p:¬(n:Int)≤s.size:=O;have H1:Hd (s=tkS n s):=by
   show _=_;apply ByteArray.ext;apply Array.toList_inj.1;rw[A1R,List.take_of_length_le (show s.data.toList.length≤n from Nat.le_of_lt f)]
  have b:Hd (ByteArray.empty=drS n s):=by
   show _=_;apply ByteArray.ext;apply Array.toList_inj.1;rw[O0,List.drop_eq_nil_of_le (show s.data.toList.length≤n from Nat.le_of_lt f)];rfl
  clear a k;go_enter Tryz.func23,Tryz.ntmps23;go_wp2_with fail;go_ret;exact d.o _ _ H1.o b.o
 ·have H1:=A4 ((a n O).1);have b:=A4 ((a n O).2);have l:¬(s.size:Int)<n:=O;have p:(n:Int)≤s.size:=O;clear a;go_enter Tryz.func23,Tryz.ntmps23;go_wp2_with fail;go_ret;exact d.o _ _ H1.o b.o
theorem A6t (l:List UInt8)(b:UInt8):J4 (l++[b])=J4 l*256+b.toNat:=by
 unfold J4;rw[List.foldl_append];rfl
theorem A97:∀(l:List UInt8) (a:Nat),l.foldl (fun a b=>a*256+b.toNat) a<(a+1)*256^l.length
 |[],a=>Zs
 |b::t,a=>by
  have h:=A97 t (a*256+b.toNat)
  have c:=b.toNat_lt
  rw[List.foldl_cons,List.length_cons,Nat.pow_succ']
  refine Nat.lt_of_lt_of_le h ?_
  rw[←Nat.mul_assoc]
  exact Nat.mul_le_mul_right _ O
theorem U0 (l:List UInt8):J4 l<256^l.length:=by
 have:=A97 l 0;rw[Nat.zero_add,Nat.one_mul]at this;exact this
theorem A6b (L:List UInt8)(j:Nat)(a:j<L.length):J4 (L.take (j+1))=J4 (L.take j)*256+(L.getD j 0).toNat:=by
 rw[List.take_add_one,List.getElem?_eq_getElem a,List.getD_eq_getElem?_getD,List.getElem?_eq_getElem a];exact A6t _ _
theorem B3H (a b:Nat)(f:a<72057594037927936)(c:b<256):bits .or .u64 (IntKind.u64.wrap ((a:Int)*256)) (IntKind.u64.wrap (b:Int))=((a*256+b:Nat):Int):=by
 have e1:IntKind.u64.wrap ((a:Int)*256)=((a*256:Nat):Int):=by rw[IntKind.wrap_u64];omega
 have d:IntKind.u64.wrap (b:Int)=(b:Int):=by rw[IntKind.wrap_u64];omega
 rw[e1,d,u64_or_nat _ _ O O];congr 1;rw[show a*256=a <<< 8 by rw[Nat.shiftLeft_eq],Nat.shiftLeft_add_eq_or_of_lt c]
theorem A1N (s:ByteArray)(n B:Nat)(w:World)(h:RrP w B s)(N:n≤8)(hs:s.size≤140737488355328) :
 Calls Tryz.prog 58 #[.pointer (some ⟨B,0,none⟩),I J n] w fun e w'=>e=.returned (.int .u64 (J4 (s.data.toList.take n)))∧RrP w' B (drS n s)∧RrF B w w':=by
 have f:=A05 s n B w h O hs;obtain⟨t,ht⟩:=A8 (tkS n s);have F:t.size≤8:=by rw[ht,A3f];omega
 rw[←ht]at f;clear h;go_enter Tryz.func58,Tryz.ntmps58;go_wp2_with fail;refine f.mono ?_;rintro e w1 ⟨rfl,g,r⟩;have y:=Lib.run_convert_string_bytes (P:=Tryz.prog) w1 9 63 5 t (u:=.string) Tryz.underlying9 Tryz.underlying63 Tryz.underlying5;have c:∀j,j<t.size→(Lib.bytesWorld w1 5 t).cell? ⟨w1.heap.size,j,none⟩=some (.int .u8 (t.data.toList.getD j 0).toNat):=fun j d=>Lib.bytesWorld_cell w1 5 t j d;have a:Below w1.heap.size w1 (Lib.bytesWorld w1 5 t):=⟨rfl,rfl,rfl,by rw[Lib.bytesWorld_size];omega,fun j d=>Lib.bytesWorld_at_old w1 5 t j d⟩;obtain⟨w2,z⟩:=A8 (Lib.bytesWorld w1 5 t);rw[←z]at y c a;have G:Hd (RrP w2 B (drS n s)∧RrF B w w2):=⟨(a.block B (lt_of_block g)).trans g,r.trans (RrF.of a)⟩;have A:Hd (s.data.toList.take n=t.data.toList):=by rw[ht];exact(A1R n s).symm
 obtain⟨L,k⟩:=A8 t.data.toList;have l:L.length=t.size:=by rw[k];rfl
 obtain⟨m,hm⟩:=A8 t.size;rw[←k]at c A;rw[←hm]at y c l F;have H:=A4 c;have C:=A4 l;clear a g r z f c l k;clear ht hm;go_wp2_with fail;go_loopw [5,13] (fun v i wr=>∃j:Nat,j≤m∧i=I J j∧v=.int .u64 (J4 (L.take j))∧wr=w2) (fun _ i _=>m-(intOf i).toNat);case atStart=>exact⟨0,Nat.zero_le _,rfl,rfl,rfl⟩
 case round=>
  obtain⟨j,d,rfl,rfl,rfl⟩:=hrel;by_cases K:j<m
  ·have d0:=H.o j K;have D:=A6b L j (by have:=C.o;omega);have E:J4 (L.take j)<72057594037927936:=by
    have h1:=U0 (L.take j);have Q:=Nat.pow_le_pow_right (show 0<256 by omega) (show(L.take j).length≤7 by rw[List.length_take];omega);omega
   have a:(L.getD j 0).toNat<256:=(L.getD j 0).toNat_lt;have p:=A4 (B3H (J4 (L.take j)) (L.getD j 0).toNat E a);have q:=A4 D;clear D E a;revert d0 p q;generalize L.getD j 0=b;generalize J4 (L.take j)=x;intro d0 p q;go_wp2_with fail;refine⟨⟨j+1,O,Zn,?_,trivial⟩,by simp[intOf];omega⟩;rw[q.o,←p.o]
  ·have M:j=m:=O;go_wp2_with fail;go_ret;refine⟨?_,G.o⟩;rw[A.o,M,←C.o,List.take_length];rfl
theorem T7 (s:ByteArray)(n B:Nat)(w:World)(h:RrP w B s)(g:n≤2)(hs:s.size≤140737488355328) :
 Calls Tryz.prog 56 #[.pointer (some ⟨B,0,none⟩),I J n] w fun e w'=>e=.returned (I J (J4 (s.data.toList.take n)))∧RrP w' B (drS n s)∧RrF B w w':=by
 have b:=A1N s n B w h O hs;obtain⟨x,a⟩:=A8 (J4 (s.data.toList.take n));have i:x<65536:=by
  rw[a];have h1:=U0 (s.data.toList.take n);have j:=Nat.pow_le_pow_right (show 0<256 by omega) (show(s.data.toList.take n).length≤2 by rw[List.length_take];omega);omega
 have e1:IntKind.i64.wrap (x:Int)=x:=Zw;rw[←a]at b⊢;clear a;go_enter Tryz.func56,Tryz.ntmps56;go_wp2_with fail;refine b.mono ?_;rintro e w1 ⟨rfl,c,d⟩;have f:Hd _:=And.intro c d;clear c d;go_wp2;go_ret;exact⟨rfl,f.o⟩
theorem A8z (n:Nat)(w:World):(callFunc 57 #[.int .u64 n]).run Tryz.prog w=.ok (.value (.float .f64 n)) w:=by
 rw[run_callFunc_extern (e:=Extern.MathFloatBits.float64frombits) Tryz.func57 U U U U];rfl
def roK (l:List UInt8):Nat:=J4 (l.take 1)
def roW (l:List UInt8):Nat:=J4 ((l.drop 1).take 1)
def roS (l:List UInt8):Nat:=J4 ((l.drop 2).take 8)
theorem A20 (l:List UInt8):roS l<18446744073709551616:=by
 have h1:=U0 ((l.drop 2).take 8);have a:=Nat.pow_le_pow_right (show 0<256 by omega) (show((l.drop 2).take 8).length≤8 by rw[List.length_take];omega);unfold roS;omega
end
section
set_option exponentiation.threshold 3000
open Go.RowKit Ieee
theorem Z4 (s:ByteArray)(at' n:Nat)(w:World)(h:at'+n≤s.size)(v:n≤7)(hs:s.size≤140737488355328) :
 Calls Tryz.prog 32 #[.string s,I J at',I J n] w fun e w'=>e=.returned (I J (J4 ((s.data.toList.drop at').take n):Nat))∧w'=w:=by
 obtain⟨L,b⟩:=A8 (s.data.toList.drop at');have f:=A4 b;rw[←b];clear b;go_enter Tryz.func32,Tryz.ntmps32;go_wp2_with fail;go_loopw [7,8] (fun m c wr=>Below w.heap.size w wr∧wr=w∧∃j:Nat,j≤n∧c=I J j∧m=I J (J4 (L.take j):Nat)) (fun _ c _=>n-(RowKit.intOf c).toNat);case atStart=>exact⟨Below.refl _ _,rfl,0,Nat.zero_le _,rfl,rfl⟩
 case round=>
  obtain⟨_,g,j,y,rfl,rfl⟩:=hrel;have d:=A4 g;clear g;obtain⟨x,a⟩:=A8 (J4 (L.take j));have i:=A4 a;have k:j<n→x<281474976710656:=by
   intro l;have h1:=U0 (L.take j);rw[←a]at h1;have z:256^(L.take j).length≤256^6:=Nat.pow_le_pow_right O (by rw[List.length_take];omega);have A:(256:Nat)^6=281474976710656:=Z;omega
  rw[←a];clear a;by_cases l:j<n
  ·have k:=k l;have hi:(at':Int)+j<s.size:=O;have B:0≤(at':Int)+j:=O;have C:IntKind.i64.wrap ((at':Int)+j)=((at'+j:Nat):Int):=Zw;have p:at'+j<s.size:=O;have q:(L.getD j 0)=s[at'+j]:=by
    rw[f.o,List.getD_eq_getElem?_getD,List.getElem?_drop,List.getElem?_eq_getElem (by show at'+j<s.data.toList.length;rw[Array.length_toList];exact p)];simp;rfl
   have r:j<L.length:=by rw[f.o,List.length_drop,Array.length_toList];show j<s.size-at';omega
   have t:=A4 (A6b L j r);have D:=(s[at'+j]).toNat_lt;go_wp2_with fail;refine⟨⟨by rw[d.o];exact Below.refl _ _,d.o,j+1,O,rfl,?_⟩,by simp[RowKit.intOf];omega⟩;rw[t.o,←i.o,q];refine congrArg (I J) ?_;(try unfold wrap64);omega
  ·have u:j=n:=O;subst u;go_wp2;go_ret;exact⟨by rw[i.o];rfl,d.o⟩
theorem A7W (a b:List UInt8):J4 (a++b)=J4 a*256^b.length+J4 b:=by
 have key:∀(b:List UInt8) (x:Nat),b.foldl (fun a c=>a*256+c.toNat) x=x*256^b.length+b.foldl (fun a c=>a*256+c.toNat) 0:=by
  intro b;induction b with
  |nil=>intro x;simp
  |cons c t d=>
   intro x;simp only[List.foldl_cons,List.length_cons];rw[d (x*256+c.toNat),d (0*256+c.toNat),Nat.pow_succ,Nat.zero_mul,Nat.zero_add,Nat.add_mul,Nat.mul_assoc,Nat.mul_comm 256,Nat.add_assoc]
 unfold J4;rw[List.foldl_append,key]
theorem eight {L:List UInt8}(h:L.length=8):∃c d f:Nat,(L.getD 0 0).toNat=c∧c<256∧d<256∧f<281474976710656∧J4 (L.take 2)=c*256+d∧J4 ((L.drop 1).take 7)=d*281474976710656+f∧J4 L=c*72057594037927936+d*281474976710656+f:=by
 match L,h with
 |a::b::t,h=>
  have ht:t.length=6:=by simpa using h
  have g:=U0 t;rw[ht]at g;have i:(256:Nat)^6=281474976710656:=Z;rw[i]at g;have e1:J4 (b::t)=b.toNat*281474976710656+J4 t:=by
   have:=A7W [b] t;rw[ht,i]at this;simpa[J4] using this
  have j:J4 (a::b::t)=a.toNat*72057594037927936+J4 (b::t):=by
   have:=A7W [a] (b::t);have k:(b::t).length=7:=by simp[ht]
   have l:(256:Nat)^7=72057594037927936:=Z;rw[k,l]at this;simpa[J4] using this
  refine⟨a.toNat,b.toNat,J4 t,rfl,a.toNat_lt,b.toNat_lt,g,by simp[J4],?_,by rw[j,e1];omega⟩;have:((a::b::t).drop 1).take 7=b::t:=by
   show(b::t).take 7=b::t;rw[List.take_of_length_le (by simp[ht])]
  rw[this,e1]
def ScP (b:Nat)(w:World)(e:Ending)(w':World):Prop:=
 Below w.heap.size w w'∧∃(v:Nat) (ok:Bool),e=.returned (.tuple #[.float .f64 v,.bool ok])∧(ok=true→v=b)∧(ok=true↔(b=9223372036854775808∨b≤4652007308841189376))
theorem A7u (s:ByteArray)(w:World)(h8:s.size=8) :
 Calls Tryz.prog 30 #[.string s] w fun e w'=>ScP (J4 s.data.toList) w e w':=by
 have hlen:s.data.toList.length=8:=by rw[Array.length_toList];exact h8
 obtain⟨c,r1,r6,hc,aq,ar,au,aa,ab,r⟩:=eight hlen;obtain⟨b,hb⟩:=A8 (J4 s.data.toList);rw[←hb]at r⊢;have G:=fun W=>Z4 s 1 7 W O O O;have H:=fun W=>Z4 s 0 2 W O O O;rw[ab]at G;rw[show s.data.toList.drop 0=s.data.toList from rfl,aa]at H;obtain⟨N,u⟩:=A8 (r1*281474976710656+r6);obtain⟨M,v⟩:=A8 (c*256+r1);rw[←u]at G;rw[←v]at H;have z:=A4 G;have L:=A4 H;have h0:0<s.size:=O;have av:s[0].toNat=c:=by
  rw[←hc,List.getD_eq_getElem?_getD,List.getElem?_eq_getElem O];simp;rfl
 have aw:(0:Int)<(s.size:Int):=O;clear hb hc aa ab G H hlen;by_cases ax:127<c
 ·have af:(127:Int)<(c:Int):=O;by_cases ag:c=128
  ·subst ag;have K:Hd (b=9223372036854775808+N):=by show _=_;omega
   by_cases hz:N=0
   ·subst hz;have d:floatBits .mul .f64 9223372036854775808 4607182418800017408=some 9223372036854775808:=by decide +kernel
    have ay:∀W t,(binOp .mul t (.float .f64 9223372036854775808) (.float .f64 4607182418800017408)).run Tryz.prog W=.ok (.float .f64 9223372036854775808) W:=fun W t=>run_float_arith W .mul t .f64 _ _ _ d;have az:∀W:World,(Op.unary .neg (.float .f64 0)).run Tryz.prog W=.ok (.float .f64 9223372036854775808) W:=fun W=>by first|rfl|kernel_rfl
    clear d r u v;go_enter Tryz.func30,Tryz.ntmps30;go_wp2_with fail;refine(z.o _).mono ?_;rintro e w1 ⟨rfl,rfl⟩;dsimp only;go_wp2_with fail;go_ret2;unfold ScP;exact⟨Below.refl _ _,9223372036854775808,true,rfl,(fun _=>by rw[K.o]),⟨(fun _=>by rw[K.o];exact Or.inl rfl),fun _=>rfl⟩⟩
   ·have aA:((N:Int)==0)=false:=by rw[beq_eq_false_iff_ne];omega
    have A:Hd (¬(b=9223372036854775808∨b≤4652007308841189376)):=by have:=K.o;show ¬_;omega
    clear r u v K;go_enter Tryz.func30,Tryz.ntmps30;go_wp2_with fail;refine(z.o _).mono ?_;rintro e w1 ⟨rfl,rfl⟩;dsimp only;go_wp2_with fail;go_ret2;unfold ScP;exact⟨Below.refl _ _,0,false,rfl,(fun h=>by cases h),⟨(fun h=>by cases h),fun h=>absurd h A.o⟩⟩
  ·have ah:((c:Int)==128)=false:=by rw[beq_eq_false_iff_ne];omega
   have A:Hd (¬(b=9223372036854775808∨b≤4652007308841189376)):=by show ¬_;omega
   clear r u v;go_enter Tryz.func30,Tryz.ntmps30;go_wp2_with fail;go_ret2;unfold ScP;exact⟨Below.refl _ _,0,false,rfl,(fun h=>by cases h),⟨(fun h=>by cases h),fun h=>absurd h A.o⟩⟩
 ·have af:¬(127:Int)<(c:Int):=O;have ah:((c:Int)==128)=false:=by rw[beq_eq_false_iff_ne];omega
  obtain⟨E,hE⟩:=A8 (b/4503599627370496);obtain⟨m,hm⟩:=A8 (b%4503599627370496);have P:b=E*4503599627370496+m:=by rw[hE,hm,Nat.mul_comm];exact(Nat.div_add_mod b _).symm
  have aB:m<4503599627370496:=O;have eE:(M:Int).tdiv 16=(E:Int):=by rw[Int.tdiv_eq_ediv_of_nonneg O];omega
  have em:(N:Int).tmod 4503599627370496=(m:Int):=by rw[Int.tmod_eq_emod_of_nonneg O];omega
  have aC:(M:Int)/16=(E:Int):=O;have aD:(N:Int)%4503599627370496=(m:Int):=O;have aE:E≤2047:=O;obtain⟨c1,f1,f2,f3,f4⟩:=B0m m O;obtain⟨fm,Q⟩:=A8 (floatOfInt .f64 (m:Int));rw[←Q]at f1;have g1:∀W t,(binOp .quo t (.float .f64 fm) (.float .f64 4841369599423283200)).run Tryz.prog W=.ok (.float .f64 c1) W:=fun W t=>run_float_arith W .quo t .f64 _ _ _ f1;have aF:floatOfInt .f64 (m:Int)=fm:=Q.symm;clear r hE hm u v Q f1 eE em;by_cases aG:1033<E
  ·have ai:(1033:Int)<(E:Int):=O;have A:Hd (¬(b=9223372036854775808∨b≤4652007308841189376)):=by show ¬_;omega
   clear P f2 f3 f4;go_enter Tryz.func30,Tryz.ntmps30;go_wp2_with fail;refine(L.o _).mono ?_;rintro e w1 ⟨rfl,rfl⟩;dsimp only;go_wp2_with fail;refine(z.o _).mono ?_;rintro e w2 ⟨rfl,rfl⟩;dsimp only;go_wp2_with fail;go_ret2;unfold ScP;exact⟨Below.refl _ _,0,false,rfl,(fun h=>by cases h),⟨(fun h=>by cases h),fun h=>absurd h A.o⟩⟩
  ·have ai:¬(1033:Int)<(E:Int):=O;have ac:b<1034*2^52:=O;by_cases aH:0<E
   ·have aj:(0:Int)<(E:Int):=O;obtain⟨R,ad⟩:=A8 (1023*2^52+m);rw[←ad]at f2;have B:Hd (Sc2 b R (E:Int)):=⟨O,Or.inl ⟨O,O,O,O⟩⟩;have g2:∀W t,(binOp .add t (.float .f64 c1) (.float .f64 4607182418800017408)).run Tryz.prog W=.ok (.float .f64 R) W:=fun W t=>run_float_arith W .add t .f64 _ _ _ f2;clear f2 f3 f4 ad P;go_enter Tryz.func30,Tryz.ntmps30;go_wp2_with fail;refine(L.o _).mono ?_;rintro e w1 ⟨rfl,C⟩;rw[C];clear C w1;dsimp only;go_wp2_with fail;refine(z.o _).mono ?_;rintro e w2 ⟨rfl,D⟩;rw[D];clear D w2;dsimp only;go_wp2_with fail;go_loopw [5,7] (fun i q wr=>Below w.heap.size w wr∧∃(e:Int) (x:Nat),i=I J e∧q=.float .f64 x∧Sc2 b x e∧1≤e∧e≤1033) (fun i _ _=>(RowKit.intOf i-1023).toNat);case atStart=>exact⟨Below.refl _ _,(E:Int),R,rfl,rfl,B.o,O,O⟩
    case round=>
     clear B;obtain⟨l,e,x,rfl,rfl,a,ak,al⟩:=hrel;have f:=A4 l;clear l;by_cases S:1023<e
     ·obtain⟨d,j⟩:=a.up S ac;obtain⟨y,F⟩:=A8 (x+2^52);rw[←F]at d j;have p:=A4 j;have rm:∀W t,(binOp .mul t (.float .f64 x) (.float .f64 4611686018427387904)).run Tryz.prog W=.ok (.float .f64 y) W:=fun W t=>run_float_arith W .mul t .f64 _ _ _ d;have hw:IntKind.i64.wrap (e-1)=e-1:=Zw;clear d j a F;go_wp2_with fail;go_roundw;case rel=>exact⟨f.o,e-1,y,rfl,rfl,p.o,O,O⟩
      case measure=>simp[RowKit.intOf];omega
     ·have p:=A4 a;clear a;go_wp2_with fail;go_loopw [5,7] (fun i q wr=>Below w.heap.size w wr∧∃(e:Int) (x:Nat),i=I J e∧q=.float .f64 x∧Sc2 b x e∧1≤e∧e≤1023) (fun i _ _=>(1023-RowKit.intOf i).toNat);case atStart=>exact⟨f.o,e,x,rfl,rfl,p.o,O,O⟩
      case round=>
       clear p f;obtain⟨l,n,k,rfl,rfl,a,am,an⟩:=hrel;have f:=A4 l;clear l;by_cases T:n<1023
       ·obtain⟨y,d,j⟩:=a.down T;have V:=A4 j;have rq:∀W t,(binOp .quo t (.float .f64 k) (.float .f64 4611686018427387904)).run Tryz.prog W=.ok (.float .f64 y) W:=fun W t=>run_float_arith W .quo t .f64 _ _ _ d;have hw:IntKind.i64.wrap (n+1)=n+1:=Zw;clear d j a;go_wp2_with fail;go_roundw;case rel=>exact⟨f.o,n+1,y,rfl,rfl,V.o,O,O⟩
        case measure=>simp[RowKit.intOf];omega
       ·have X:n=1023:=O;subst X;have Y:=a.end;subst Y;clear a;have ho:=A0b k 4652007308841189376 O Z;rcases Nat.lt_trichotomy k 4652007308841189376 with g|g|g
        ·rw[Nat.compare_eq_lt.2 g]at ho;go_wp2_with fail;go_ret2;unfold ScP;exact⟨f.o,k,true,rfl,(fun _=>rfl),⟨(fun _=>Or.inr (Nat.le_of_lt g)),fun _=>rfl⟩⟩
        ·rw[Nat.compare_eq_eq.2 g]at ho;have HG:=A4 g;clear g;go_wp2_with fail;go_ret2;unfold ScP;exact⟨f.o,k,true,rfl,(fun _=>rfl),⟨(fun _=>Or.inr (Nat.le_of_eq HG.o)),fun _=>rfl⟩⟩
        ·rw[Nat.compare_eq_gt.2 g]at ho;go_wp2_with fail;go_ret2;unfold ScP;exact⟨f.o,k,false,rfl,(fun h=>by cases h),⟨(fun h=>by cases h),fun h=>O⟩⟩
   ·have aj:¬(0:Int)<(E:Int):=O;have ao:E=0:=O;subst ao;have B:Hd (Sc2 b c1 1):=by
     refine⟨O,Or.inr ⟨O,O,O,?_⟩⟩;by_cases ae:m=0
     ·exact Or.inl ⟨O,f3 ae⟩
     ·obtain⟨M1,d,k1,k2⟩:=f4 ae;have ap:b=m:=O;exact Or.inr ⟨O,M1,d,k1,by rw[ap];exact k2⟩
    clear f2 f3 f4 P;go_enter Tryz.func30,Tryz.ntmps30;go_wp2_with fail;refine(L.o _).mono ?_;rintro e w1 ⟨rfl,C⟩;rw[C];clear C w1;dsimp only;go_wp2_with fail;refine(z.o _).mono ?_;rintro e w2 ⟨rfl,D⟩;rw[D];clear D w2;dsimp only;go_wp2_with fail;go_loopw [5,7] (fun i q wr=>Below w.heap.size w wr∧∃(e:Int) (x:Nat),i=I J e∧q=.float .f64 x∧Sc2 b x e∧1≤e∧e≤1033) (fun i _ _=>(RowKit.intOf i-1023).toNat);case atStart=>exact⟨Below.refl _ _,1,c1,rfl,rfl,B.o,O,O⟩
    case round=>
     clear B;obtain⟨l,e,x,rfl,rfl,a,ak,al⟩:=hrel;have f:=A4 l;clear l;by_cases S:1023<e
     ·obtain⟨d,j⟩:=a.up S ac;obtain⟨y,F⟩:=A8 (x+2^52);rw[←F]at d j;have p:=A4 j;have rm:∀W t,(binOp .mul t (.float .f64 x) (.float .f64 4611686018427387904)).run Tryz.prog W=.ok (.float .f64 y) W:=fun W t=>run_float_arith W .mul t .f64 _ _ _ d;have hw:IntKind.i64.wrap (e-1)=e-1:=Zw;clear d j a F;go_wp2_with fail;go_roundw;case rel=>exact⟨f.o,e-1,y,rfl,rfl,p.o,O,O⟩
      case measure=>simp[RowKit.intOf];omega
     ·have p:=A4 a;clear a;go_wp2_with fail;go_loopw [5,7] (fun i q wr=>Below w.heap.size w wr∧∃(e:Int) (x:Nat),i=I J e∧q=.float .f64 x∧Sc2 b x e∧1≤e∧e≤1023) (fun i _ _=>(1023-RowKit.intOf i).toNat);case atStart=>exact⟨f.o,e,x,rfl,rfl,p.o,O,O⟩
      case round=>
       clear p f;obtain⟨l,n,k,rfl,rfl,a,am,an⟩:=hrel;have f:=A4 l;clear l;by_cases T:n<1023
       ·obtain⟨y,d,j⟩:=a.down T;have V:=A4 j;have rq:∀W t,(binOp .quo t (.float .f64 k) (.float .f64 4611686018427387904)).run Tryz.prog W=.ok (.float .f64 y) W:=fun W t=>run_float_arith W .quo t .f64 _ _ _ d;have hw:IntKind.i64.wrap (n+1)=n+1:=Zw;clear d j a;go_wp2_with fail;go_roundw;case rel=>exact⟨f.o,n+1,y,rfl,rfl,V.o,O,O⟩
        case measure=>simp[RowKit.intOf];omega
       ·have X:n=1023:=O;subst X;have Y:=a.end;subst Y;clear a;have ho:=A0b k 4652007308841189376 O Z;rcases Nat.lt_trichotomy k 4652007308841189376 with g|g|g
        ·rw[Nat.compare_eq_lt.2 g]at ho;go_wp2_with fail;go_ret2;unfold ScP;exact⟨f.o,k,true,rfl,(fun _=>rfl),⟨(fun _=>Or.inr (Nat.le_of_lt g)),fun _=>rfl⟩⟩
        ·rw[Nat.compare_eq_eq.2 g]at ho;have HG:=A4 g;clear g;go_wp2_with fail;go_ret2;unfold ScP;exact⟨f.o,k,true,rfl,(fun _=>rfl),⟨(fun _=>Or.inr (Nat.le_of_eq HG.o)),fun _=>rfl⟩⟩
        ·rw[Nat.compare_eq_gt.2 g]at ho;go_wp2_with fail;go_ret2;unfold ScP;exact⟨f.o,k,false,rfl,(fun h=>by cases h),⟨(fun h=>by cases h),fun h=>O⟩⟩
end
end Mn
end Go.Proofs.YtilcmkiihefkkaaGreatDoor
