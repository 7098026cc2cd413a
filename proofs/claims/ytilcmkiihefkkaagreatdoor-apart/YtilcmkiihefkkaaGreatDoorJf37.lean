import Derived.Test.YtilcmkiihefkkaaGreatDoorJf19
import Derived.Test.YtilcmkiihefkkaaGreatDoorJf30
import Derived.Test.YtilcmkiihefkkaaGreatDoorJf35
set_option linter.unusedVariables false
set_option linter.unusedSimpArgs false
set_option maxRecDepth 1000000
set_option maxHeartbeats 64000000
open Go.Value renaming int→I
open Go.IntKind renaming i64→J
namespace Go.Proofs.YtilcmkiihefkkaaGreatDoor
namespace Mn
section
open Go.RowKit Go.Shelf Go.Lib
def A7X (s o:Int):Option Nat:=(floatBits .quo .f64 (fq o) (fq s)).bind fun a=>(floatBits .sub .f64 (fq 4) a).bind fun b=>floatBits .mul .f64 b (fq 240)
def Y1 (s o:Int):Int:=((A7X s o).bind fun q=>floatToIntVal .f64 q .i64).getD 0
theorem A6E (s o:Int)(l:0≤o)(h1:o≤s)(m:0<s)(p:s≤100000) :
 ∃A B Q,floatBits .quo .f64 (fq o) (fq s)=some A∧floatBits .sub .f64 (fq 4) A=some B∧floatBits .mul .f64 B (fq 240)=some Q∧A7X s o=some Q∧floatToIntVal .f64 Q .i64=some (Y1 s o)∧0≤Y1 s o∧Y1 s o≤60∧
  (Ieee.double.order (fq (4*Y1 s o)) Q=some .lt∨Ieee.double.order (fq (4*Y1 s o)) Q=some .eq)∧Ieee.double.order Q (fq (4*Y1 s o+4))=some .lt:=by
 have q:(1048576:Nat)≤2^53:=Z;obtain⟨o,rfl⟩:∃n:Nat,o=n:=⟨o.toNat,O⟩;obtain⟨s,rfl⟩:∃n:Nat,s=n:=⟨s.toNat,O⟩;obtain⟨A,b,g⟩:=A4L o s O O O;obtain⟨B,c,h⟩:=sub_le A g;obtain⟨Q,d,i⟩:=B0o B h;obtain⟨n,r,hi,j,k⟩:=A5R Q i;have f:A7X s o=some Q:=by
  unfold A7X;rw[b];simp only[Option.bind_some];rw[c];simp only[Option.bind_some];exact d
 have a:Y1 s o=n:=by
  unfold Y1;rw[f];simp only[Option.bind_some];rw[hi];rfl
 refine⟨A,B,Q,b,c,d,f,?_,?_,?_,?_,?_⟩
 ·rw[a];exact hi
 ·rw[a];omega
 ·rw[a];omega
 ·rw[a];exact j
 ·rw[a];exact k
theorem fq4:fq 4=4607182418800017408:=Z
theorem B1S:fq 240=4633641066610819072:=Z
theorem A2q (s o:Int)(w:World)(c:0≤o)(h1:o≤s)(d:0<s)(f:s≤100000) :
 Calls Tryz.prog 108 #[.float .f64 (fq s),.float .f64 (fq o)] w fun e w'=>e=.returned (I J (Y1 s o))∧w'=w:=by
 obtain⟨A,B,Q,g,a,b,_,hi,_⟩:=A6E s o c h1 d f;rw[fq4]at a;rw[B1S]at b;have h:∀W t,(binOp .quo t (.float .f64 (fq o)) (.float .f64 (fq s))).run Tryz.prog W=.ok (.float .f64 A) W:=fun W t=>run_float_arith W .quo t .f64 _ _ _ g;have i:∀W t,(binOp .sub t (.float .f64 4607182418800017408) (.float .f64 A)).run Tryz.prog W=.ok (.float .f64 B) W:=fun W t=>run_float_arith W .sub t .f64 _ _ _ a;have j:∀W t,(binOp .mul t (.float .f64 B) (.float .f64 4633641066610819072)).run Tryz.prog W=.ok (.float .f64 Q) W:=fun W t=>run_float_arith W .mul t .f64 _ _ _ b;have k:∀W,(convert 22 3 (.float .f64 Q)).run Tryz.prog W=.ok (I J (Y1 s o)) W:=fun W=>run_convert_float_int W 22 3 .f64 .i64 Q _ U Tryz.underlying3 hi;generalize Y1 s o=z at *;generalize fq o=fo at *;generalize fq s=l at *;clear g a b hi c h1 d f;go_enter Tryz.func108,Tryz.ntmps108;go_wp2;go_ret;exact⟨rfl,rfl⟩
theorem B2g:∀n:Fin 1001,atoiAll (decDigits n.val)=.ok (n.val:Int):=by decide +kernel
def ltP (x:Nat):Bool:=isLetterU (x:Int)
theorem A76:∀n:Fin 10,ltP (48+n.val)=false:=by decide +kernel
theorem B08:∀l:Fin 3,ltP (Y8 l.val).toNat=true:=by decide +kernel
theorem B1V:∀l:Fin 3,(Y8 l.val).toNat<128:=Z
theorem A2u:∀(f u:Nat),u≤f→decDigits u≠[]∧∀c∈decDigits u,c.toNat<128∧ltP c.toNat=false:=by
 have b:∀i,i<10→(UInt8.ofNat (48+i)).toNat<128∧ltP (UInt8.ofNat (48+i)).toNat=false:=by
  intro i hi;have e:(UInt8.ofNat (48+i)).toNat=48+i:=by
   rw[UInt8.toNat_ofNat'];exact Nat.mod_eq_of_lt O
  rw[e];exact⟨O,A76 ⟨i,hi⟩⟩
 intro f;induction f with
 |zero=>
  intro u hu;have:u=0:=O;subst this;rw[decDigits,dif_pos O];exact⟨Zs,fun c a=>by rw[List.mem_singleton]at a;subst a;exact b 0 O⟩
 |succ f d=>
  intro u hu;by_cases h:u<10
  ·rw[decDigits,dif_pos h];exact⟨Zs,fun c a=>by rw[List.mem_singleton]at a;subst a;exact b u h⟩
  ·rw[decDigits,dif_neg h];refine⟨Zs,fun c a=>?_⟩;rcases List.mem_append.1 a with a|a
   ·exact(d (u/10) O).2 c a
   ·rw[List.mem_singleton]at a;subst a;exact b (u%10) O
def At (s:ByteArray)(pos:Nat)(l:List UInt8):Prop:=s.data.toList.drop pos=l
theorem At.cons {s:ByteArray}{pos:Nat}{c:UInt8}{l:List UInt8}(h:At s pos (c::l)):∃a:pos<s.size,s[pos]=c∧At s (pos+1) l:=by
 unfold At at h;have a:pos<s.data.toList.length:=by
  rcases Nat.lt_or_ge pos s.data.toList.length with b|b
  ·exact b
  ·rw[List.drop_eq_nil_of_le b]at h;cases h
 have d:pos<s.size:=by simpa using a
 rw[List.drop_eq_getElem_cons a]at h;injection h with h1 f;exact⟨d,h1,f⟩
theorem A3M (s:ByteArray):∀(d:List UInt8) (r:List UInt8) (f pos a:Nat) (acc:List (Nat×Nat)),At s pos (d++r)→(∀c∈d,c.toNat<128∧ltP c.toNat=false)→
 spansFromP ltP s (f+d.length) pos (some a) acc=spansFromP ltP s f (pos+d.length) (some a) acc∧At s (pos+d.length) r
 |[],r,f,pos,a,acc,h,_=>⟨rfl,h⟩
 |c::d,r,f,pos,a,acc,h,b=>by
  obtain⟨g,i,l⟩:=At.cons h
  have j:=b c (List.mem_cons_self)
  have m:=decode_ascii s pos g (by rw[i];exact j.1)
  have k:=A3M s d r f (pos+1) a acc l (fun x n=>b x (List.mem_cons_of_mem _ n))
  constructor
  ·rw[List.length_cons,show f+(d.length+1)=(f+d.length)+1 by omega]
   conv=>lhs;unfold spansFromP
   rw[if_pos g,m,i]
   simp only[j.2,Bool.false_eq_true,if_false]
   rw[k.1,show pos+(d.length+1)=pos+1+d.length by omega]
  ·rw[List.length_cons,show pos+(d.length+1)=pos+1+d.length by omega]
   exact k.2
theorem B1U (s:ByteArray)(d:List UInt8)(t:UInt8)(r:List UInt8)(f pos:Nat)(acc:List (Nat×Nat))(h:At s pos (d++t::r))(m:d≠[])(b:∀c∈d,c.toNat<128∧ltP c.toNat=false)(ht:t.toNat<128∧ltP t.toNat=true) :
 spansFromP ltP s (f+1+d.length) pos none acc=spansFromP ltP s f (pos+d.length+1) none (acc++[(pos,pos+d.length)])∧At s (pos+d.length+1) r∧s.extract pos (pos+d.length)=⟨d.toArray⟩:=by
 match d,m with
 |c::a,_=>
  obtain⟨g,i,n⟩:=At.cons h;have j:=b c (List.mem_cons_self);have o:=decode_ascii s pos g (by rw[i];exact j.1);obtain⟨e1,p⟩:=A3M s a (t::r) (f+1) (pos+1) pos acc n (fun x q=>b x (List.mem_cons_of_mem _ q));obtain⟨k,l,u⟩:=At.cons p;have v:=decode_ascii s _ k (by rw[l];exact ht.1);refine⟨?_,?_,?_⟩
  ·rw[List.length_cons,show f+1+(a.length+1)=(f+1+a.length)+1 by omega];conv=>lhs;unfold spansFromP
   rw[if_pos g,o,i];simp only[j.2,Bool.false_eq_true,if_false];rw[e1];conv=>lhs;unfold spansFromP
   rw[if_pos k,v,l];simp only[ht.2,if_true];rw[show pos+(a.length+1)=pos+1+a.length by omega]
  ·rw[List.length_cons,show pos+(a.length+1)+1=pos+1+a.length+1 by omega];exact u
  ·have w:(s.extract pos (pos+(c::a).length)).data.toList=c::a:=by
    have e:(s.extract pos (pos+(c::a).length)).data.toList=(s.data.toList.drop pos).take ((pos+(c::a).length)-pos):=by
     simp[ByteArray.data_extract]
    rw[e,h,Nat.add_sub_cancel_left];simp
   apply ByteArray.ext;apply Array.toList_inj.1;rw[w]
theorem B0B (s:ByteArray):∀(ps:List (Nat×Nat)) (f pos:Nat) (acc:List (Nat×Nat)),At s pos (G1 ps)→(∀p∈ps,p.2≤2)→(G1 ps).length≤f→
 ∃sp:List (Nat×Nat),spansFromP ltP s f pos none acc=(acc++sp,none)∧sp.map (fun x=>s.extract x.1 x.2)=ps.map (fun p=>(⟨(decDigits p.1).toArray⟩:ByteArray))
 |[],f,pos,acc,h,_,_=>by
  refine⟨[],?_,rfl⟩
  rw[List.append_nil]
  have:¬pos<s.size:=by
   intro a
   have d:s.data.toList.drop pos=[]:=h
   have:=List.drop_eq_nil_iff.1 d
   have e:s.data.toList.length=s.size:=Zs
   omega
  exact spansFromP_end ltP s f pos none acc this
 |p::ps,f,pos,acc,h,a,b=>by
  have e:G1 (p::ps)=decDigits p.1++Y8 p.2::G1 ps:=by simp[G1]
  rw[e]at h b
  have c:=A2u p.1 p.1 (Nat.le_refl _)
  have t:=a p (List.mem_cons_self)
  have i:=B1V ⟨p.2,O⟩
  have j:=B08 ⟨p.2,O⟩
  simp only[List.length_append,List.length_cons]at b
  obtain⟨g,k⟩:∃g,f=g+1+(decDigits p.1).length:=⟨f-1-(decDigits p.1).length,O⟩
  obtain⟨l,m,n⟩:=B1U s (decDigits p.1) (Y8 p.2) (G1 ps) g pos acc h c.1 c.2 ⟨i,j⟩
  obtain⟨sp,o,q⟩:=B0B s ps g (pos+(decDigits p.1).length+1) (acc++[(pos,pos+(decDigits p.1).length)]) m (fun x r=>a x (List.mem_cons_of_mem _ r)) O
  refine⟨(pos,pos+(decDigits p.1).length)::sp,?_,?_⟩
  ·rw[k,l,o];simp
  ·simp only[List.map_cons,n,q]
theorem A5F (ps:List (Nat×Nat))(h:∀p∈ps,p.2≤2):goFieldsP ltP ⟨(G1 ps).toArray⟩=ps.map (fun p=>(⟨(decDigits p.1).toArray⟩:ByteArray)):=by
 have hs:(⟨(G1 ps).toArray⟩:ByteArray).size=(G1 ps).length:=by show(G1 ps).toArray.size=_;simp
 obtain⟨sp,h1,a⟩:=B0B ⟨(G1 ps).toArray⟩ ps (G1 ps).length 0 [] (by simp[At]) h (Nat.le_refl _);unfold goFieldsP spansOfP;rw[hs,h1];unfold closeSpans;simpa using a
end
section
open Go.RowKit Go.Shelf Go.Lib Ieee
theorem A7v (Q m d:Nat)(f:double.read Q=.number false m (-(d:Int)))(x:Nat)(h:x≤1000):∃P:Int,0<P∧double.order (fq (4*(x:Int))) Q=some (compare ((x:Int)*2^d*P) ((m:Int)*P))∧double.order Q (fq (4*(x:Int)))=some (compare ((m:Int)*P) ((x:Int)*2^d*P)):=by
 obtain⟨a,b⟩:=N8 (4*(x:Int)) O;have d1:decide (4*(x:Int)<0)=false:=Zo;rw[d1,show(4*(x:Int)).natAbs=4*x by omega]at b;have g:4*x*2^a*2^(max (a+2) d-(a+2))=x*2^d*2^(max (a+2) d-d):=by
  rw[Nat.mul_assoc x,←Nat.pow_add,show d+(max (a+2) d-d)=max (a+2) d by omega,show max (a+2) d=(a+2)+(max (a+2) d-(a+2)) by omega,Nat.pow_add,Nat.pow_add 2 a 2,Nat.add_sub_cancel_left,show(2:Nat)^2=4 from rfl,Nat.mul_comm 4 x,Nat.mul_assoc,Nat.mul_assoc,←Nat.mul_assoc 4,Nat.mul_comm 4 (2^a)]
 refine⟨2^(max (a+2) d-d),by exact_mod_cast Nat.two_pow_pos _,?_,?_⟩
 ·show(double.read _).order (double.read Q)=_;rw[b,f];have e0:min (-2-(a:Int)) (-(d:Int))=-((max (a+2) d:Nat):Int):=O;have e1:(-2-(a:Int) - -((max (a+2) d:Nat):Int)).toNat=max (a+2) d-(a+2):=O;have c:(-(d:Int) - -((max (a+2) d:Nat):Int)).toNat=max (a+2) d-d:=O;unfold Datum.order;simp only[e0,e1,c];unfold Ieee.signed;simp only[Bool.false_eq_true,if_false,Nat.shiftLeft_eq];rw[g];push_cast;rfl
 ·show(double.read Q).order (double.read _)=_;rw[b,f];have e0:min (-(d:Int)) (-2-(a:Int))=-((max (a+2) d:Nat):Int):=O;have e1:(-2-(a:Int) - -((max (a+2) d:Nat):Int)).toNat=max (a+2) d-(a+2):=O;have c:(-(d:Int) - -((max (a+2) d:Nat):Int)).toNat=max (a+2) d-d:=O;unfold Datum.order;simp only[e0,e1,c];unfold Ieee.signed;simp only[Bool.false_eq_true,if_false,Nat.shiftLeft_eq];rw[g];push_cast;rfl
theorem A8X (s o:Int)(z:0≤o)(h1:o≤s)(C:0<s)(D:s≤100000) :
 ∃(A B Q n:Nat),floatBits .quo .f64 (fq o) (fq s)=some A∧floatBits .sub .f64 (fq 4) A=some B∧floatBits .mul .f64 B (fq 240)=some Q∧Y1 s o=n∧n≤60∧
  (∀x:Nat,x≤n→double.order (fq (4*(x:Int))) Q=some .lt∨double.order (fq (4*(x:Int))) Q=some .eq)∧double.order (fq (4*((n+1:Nat):Int))) Q=some .gt:=by
 have E:(1048576:Nat)≤2^53:=Z;obtain⟨o,rfl⟩:∃n:Nat,o=n:=⟨o.toNat,O⟩;obtain⟨s,rfl⟩:∃n:Nat,s=n:=⟨s.toNat,O⟩;obtain⟨A,f,p⟩:=A4L o s O O O;obtain⟨B,g,q⟩:=sub_le A p;obtain⟨Q,i,j⟩:=B0o B q;obtain⟨n,r,hi,k,a⟩:=A5R Q j;have l:A7X s o=some Q:=by
  unfold A7X;rw[f];simp only[Option.bind_some];rw[g];simp only[Option.bind_some];exact i
 have t:Y1 s o=n:=by
  unfold Y1;rw[l];simp only[Option.bind_some];rw[hi];rfl
 obtain⟨m,e,c,l,he⟩:=A1q Q (60*2^47) (-47) Z Z O O j;obtain⟨d,u⟩:∃d:Nat,e=-(d:Int):=⟨(-e).toNat,O⟩;subst u;have F:=Nat.two_pow_pos d;have v:n*2^d≤m:=by
  obtain⟨P,b,o1,_⟩:=A7v Q m d c n O;rw[o1]at k;have hle:(n:Int)*2^d*P≤m*P:=by
   rcases k with h|h
   ·simp only[Option.some.injEq,compare,compareOfLessAndEq]at h;split at h
    ·omega
    ·split at h<;>simp at h
   ·simp only[Option.some.injEq,compare,compareOfLessAndEq]at h;split at h
    ·simp at h
    ·split at h
     ·omega
     ·simp at h
  have:=Int.le_of_mul_le_mul_right hle b;exact_mod_cast this
 have w:m<(n+1)*2^d:=by
  obtain⟨P,b,_,o1⟩:=A7v Q m d c (n+1) O;rw[show(4*(n:Int)+4)=4*((n+1:Nat):Int) by omega,o1]at a;have hle:(m:Int)*P<((n+1:Nat):Int)*2^d*P:=by
   simp only[Option.some.injEq,compare,compareOfLessAndEq]at a;split at a
   ·assumption
   ·split at a<;>simp at a
  have:=Int.lt_of_mul_lt_mul_right hle O;exact_mod_cast this
 refine⟨A,B,Q,n,f,g,i,t,r,fun x y=>?_,?_⟩
 ·obtain⟨P,b,o1,_⟩:=A7v Q m d c x O;rw[o1];have hle:(x:Int)*2^d*P≤m*P:=by
   have:x*2^d≤m:=Nat.le_trans (Nat.mul_le_mul_right _ y) v;exact Int.mul_le_mul_of_nonneg_right (by exact_mod_cast this) O
  simp only[Option.some.injEq,compare,compareOfLessAndEq];split
  ·left;rfl
  ·rw[if_pos O];right;rfl
 ·obtain⟨P,b,o1,_⟩:=A7v Q m d c (n+1) O;rw[o1];have G:(m:Int)*P<((n+1:Nat):Int)*2^d*P:=Int.mul_lt_mul_of_pos_right (by exact_mod_cast w) b;simp only[Option.some.injEq,compare,compareOfLessAndEq];rw[if_neg O,if_neg O]
end
end Mn
end Go.Proofs.YtilcmkiihefkkaaGreatDoor
