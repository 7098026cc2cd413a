import Derived.Test.YtilcmkiihefkkaaGreatDoorJl25
set_option linter.unusedVariables false
set_option linter.unusedSimpArgs false
set_option maxRecDepth 1000000
set_option maxHeartbeats 64000000
namespace Go.Proofs.YtilcmkiihefkkaaGreatDoor
namespace Mn
section
set_option exponentiation.threshold 3000
open Ieee
theorem B3a (n s:Nat)(c:n≠0)(h:n<2^53)(hs:s≤2000):∃b M q,Rg b M q∧M*2^q=n*2^s:=by
 have d:=L8 n c h;have a:=(Nat.log2_eq_iff (k:=n.log2) c).1 rfl;by_cases f:s≤52-n.log2
 ·refine⟨n*2^s,n*2^s,0,⟨O,Or.inl rfl,?_,O⟩,by rw[Nat.pow_zero,Nat.mul_one]⟩;calc n*2^s<2^(n.log2+1)*2^s:=Nat.mul_lt_mul_of_pos_right a.2 (Nat.two_pow_pos _)
   _=2^(n.log2+1+s):=by rw[←Nat.pow_add]
   _≤2^53:=Nat.pow_le_pow_right O O
 ·refine⟨(s-(52-n.log2))*2^52+n*2^(52-n.log2),n*2^(52-n.log2),s-(52-n.log2),⟨rfl,Or.inr ?_,?_,O⟩,?_⟩
  ·calc 2^52=2^n.log2*2^(52-n.log2):=by rw[←Nat.pow_add,show n.log2+(52-n.log2)=52 by omega]
    _≤_:=Nat.mul_le_mul_right _ a.1
  ·calc n*2^(52-n.log2)<2^(n.log2+1)*2^(52-n.log2):=Nat.mul_lt_mul_of_pos_right a.2 (Nat.two_pow_pos _)
    _=2^53:=by rw[←Nat.pow_add,show n.log2+1+(52-n.log2)=53 by omega]
  ·rw[Nat.mul_assoc,←Nat.pow_add,show 52-n.log2+(s-(52-n.log2))=s by omega]
theorem B0m (m:Nat)(h:m<2^52):∃c1,floatBits .quo .f64 (floatOfInt .f64 (m:Int)) 4841369599423283200=some c1∧floatBits .add .f64 c1 4607182418800017408=some (1023*2^52+m)∧(m=0→c1=0)∧(m≠0→∃M q,Rg c1 M q∧M*2^q=m*2^1022):=by
 by_cases a:m=0
 ·subst a;exact⟨0,by decide +kernel,by decide +kernel,fun _=>rfl,fun h=>absurd rfl h⟩
 ·obtain⟨c1,M,q,b,he⟩:=B3a m 1022 a O O;obtain⟨c0,d,i,j⟩:=Z8 m 0 O;have p:floatOfInt .f64 (m:Int)=c0:=by
   show double.nearest (decide ((m:Int)<0)) (m:Int).natAbs 0=_;rw[decide_eq_false O,Int.natAbs_natCast,←i];simp
  have r:M≠0:=by
   intro s;subst s;rw[Nat.zero_mul]at he;have:=Nat.mul_ne_zero a (show 2^1022≠0 from Nat.pos_iff_ne_zero.1 (Nat.two_pow_pos 1022));omega
  have f:q≤1022:=by
   rcases Nat.lt_or_ge 1022 q with f|f
   ·exfalso;have t:2^52≤M:=by have:=b.lo;omega
    have h1:2^52*2^1022≤M*2^q:=Nat.mul_le_mul t (Nat.pow_le_pow_right O O);have l:m*2^1022<2^52*2^1022:=Nat.mul_lt_mul_of_pos_right h (Nat.two_pow_pos 1022);omega
   ·exact f
  refine⟨c1,?_,?_,fun h=>absurd h a,fun _=>⟨M,q,b,he⟩⟩
  ·rw[p];show((double.read c0).quotient 54 (double.read _)).map double.write=_;rw[j,A2T];have D:(2^52:Nat).log2=52:=Z;have u:m*2^d≠0:=Nat.mul_ne_zero a (Nat.pos_iff_ne_zero.1 (Nat.two_pow_pos d));obtain⟨X,c⟩:=A8 (m*2^d);obtain⟨more,v⟩:=A8 (54+(2^52:Nat).log2-X.log2);have w:X<2^53:=by
    obtain⟨E,q0,n⟩:=rg_of c0 (by
     rw[←i];have:=H5 false m 0 0 a O O O;simp only[Nat.pow_zero,Nat.mul_one,Int.natCast_zero,Int.sub_zero]at this;simp only[Nat.pow_zero,Nat.mul_one,Int.natCast_zero,Int.sub_zero];rw[this];have x:=L8 m a O;have l:=(Nat.log2_eq_iff (k:=m.log2) a).1 rfl;have F:m*2^(52-m.log2)<2^53:=by
      calc m*2^(52-m.log2)<2^(m.log2+1)*2^(52-m.log2):=Nat.mul_lt_mul_of_pos_right l.2 (Nat.two_pow_pos _)
       _=2^53:=by rw[←Nat.pow_add,show m.log2+1+(52-m.log2)=53 by omega]
     show(0+(m.log2:Int)-52+1074).toNat*2^52+m*2^(52-m.log2)<2047*2^52;have y:(0+(m.log2:Int)-52+1074).toNat≤1074:=O;have G:=Nat.mul_le_mul_right (2^52) y;omega)
    have h1:=n.read;rw[j]at h1;injection h1 with _ e1 _;rw[c,e1];exact n.hi
   have x:=L8 X (by rw[c];exact u) w;have o:more=52+(more-52):=O;have e1:X <<< more/2^52=X*2^(more-52):=by
    rw[Nat.shiftLeft_eq];conv=>lhs;rw[o,Nat.pow_add,Nat.mul_comm (2^52),←Nat.mul_assoc,Nat.mul_div_cancel _ (Nat.two_pow_pos 52)]
   have g:X <<< more%2^52=0:=by
    rw[Nat.shiftLeft_eq];conv=>lhs;rw[o,Nat.pow_add,Nat.mul_comm (2^52),←Nat.mul_assoc,Nat.mul_mod_left]
   rw[←c];unfold Datum.quotient;simp only[←v];rw[if_neg Z,e1,g];show some (double.nearest false (2*(X*2^(more-52))+0) (0-(d:Int)-0-more-1))=_;refine congrArg some ?_;refine b.write _ _ 1022 (q+d+(more-51)) r ?_ O;have z:M*2^(q+d+(more-51))=m*2^1022*2^(d+(more-51)):=by rw[Nat.add_assoc,Nat.pow_add 2 q,←Nat.mul_assoc,he]
   rw[z,c,Nat.pow_add 2 d,show more-51=(more-52)+1 by omega,Nat.pow_add 2 (more-52) 1,Nat.pow_one];generalize (2:Nat)^1022=A;simp only[Nat.add_zero,Nat.mul_comm,Nat.mul_left_comm,Nat.mul_assoc]
  ·show((double.read c1).sum (double.read _)).map double.write=_;rw[b.read,A6c];have e0:min (-1074+(q:Int)) (-52)=-1074+(q:Int):=O;have B:signed false M (-1074+(q:Int)-(-1074+(q:Int))).toNat+signed false (2^52) (-52-(-1074+(q:Int))).toNat=((M+2^52*2^(1022-q):Nat):Int):=by
    have e1:(-1074+(q:Int)-(-1074+(q:Int))).toNat=0:=O;have g:(-52-(-1074+(q:Int))).toNat=1022-q:=O;rw[e1,g];unfold signed;simp only[Bool.false_eq_true,if_false,Nat.shiftLeft_eq,Nat.pow_zero,Nat.mul_one];rw[Int.natCast_add]
   show some (double.nearest _ _ _)=_;rw[e0,B];refine congrArg some ?_;rw[Int.natAbs_natCast,if_neg O,decide_eq_false O];have C:Rg (1023*2^52+m) (2^52+m) 1022:=⟨O,Or.inr O,O,O⟩;refine C.write _ _ q 1022 O ?_ O;rw[Nat.add_mul,Nat.add_mul,he,Nat.mul_assoc,←Nat.pow_add,show 1022-q+q=1022 by omega,Nat.add_comm]
def Sc2 (b x:Nat)(e:Int):Prop:=
 0≤e∧((2^52≤b∧2^52≤x∧x<2046*2^52∧(x:Int)+(e-1023)*2^52=b)∨(b<2^52∧1≤e∧e≤1023∧((b=0∧x=0)∨(b≠0∧∃M q,Rg x M q∧M*2^q=b*2^(1023-e).toNat))))
theorem Sc2.up {b x:Nat}{e:Int}(h:Sc2 b x e)(he:1023<e)(f:b<1034*2^52):floatBits .mul .f64 x 4611686018427387904=some (x+2^52)∧Sc2 b (x+2^52) (e-1):=by
 obtain⟨g,h1⟩:=h;rcases h1 with⟨h1,a,c,i⟩|⟨h1,a,c,_⟩
 ·obtain⟨M,q,k⟩:=rg_of x O;have k1:=k.eq;have k2:=k.hi;have j:=k.lo;have l:x<1034*2^52:=O;have d:=k.dbl_hi a O;exact⟨k.mul2 d O rfl,O,Or.inl ⟨h1,O,O,O⟩⟩
 ·omega
theorem Sc2.down {b x:Nat}{e:Int}(h:Sc2 b x e)(he:e<1023):∃y,floatBits .quo .f64 x 4611686018427387904=some y∧Sc2 b y (e+1):=by
 obtain⟨o,h1⟩:=h;rcases h1 with⟨h1,f,g,a⟩|⟨h1,f,g,a⟩
 ·obtain⟨M,q,k⟩:=rg_of x O;have k1:=k.eq;have k2:=k.hi;have r:=k.lo;have s:2*2^52≤x:=O;have t:1≤q:=O;have i:2^52≤M:=O;have j:Rg (x-2^52) M (q-1):=⟨by
   have:q*2^52=(q-1)*2^52+2^52:=by
    conv=>lhs;rw[show q=(q-1)+1 by omega,Nat.add_mul,Nat.one_mul]
   omega,Or.inr i,k2,by have:=k.top;omega⟩
  exact⟨x-2^52,k.quo2 j O (by rw[show q-1+1=q by omega]),O,Or.inl ⟨h1,O,O,O⟩⟩
 ·rcases a with⟨rfl,rfl⟩|⟨a,M,q,l,hm⟩
  ·exact⟨0,by decide +kernel,O,Or.inr ⟨h1,O,O,Or.inl ⟨rfl,rfl⟩⟩⟩
  ·obtain⟨y,N,p,d,c⟩:=B3a b (1023-(e+1)).toNat a O O;have m:N≠0:=by
    intro n;subst n;rw[Nat.zero_mul]at c;have:=Nat.mul_ne_zero a (Nat.pos_iff_ne_zero.1 (Nat.two_pow_pos (1023-(e+1)).toNat));omega
   refine⟨y,l.quo2 d m ?_,O,Or.inr ⟨h1,O,O,Or.inr ⟨a,N,p,d,c⟩⟩⟩;rw[Nat.pow_succ,←Nat.mul_assoc,c,hm,Nat.mul_assoc,←Nat.pow_succ,show(1023-(e+1)).toNat.succ=(1023-e).toNat by omega]
theorem Sc2.end {b x:Nat}(h:Sc2 b x 1023):x=b:=by
 obtain⟨i,h1⟩:=h;rcases h1 with⟨h1,c,d,a⟩|⟨h1,c,d,a⟩
 ·omega
 ·rcases a with⟨rfl,rfl⟩|⟨a,M,q,f,hm⟩
  ·rfl
  ·simp only[Int.sub_self,Int.toNat_zero,Nat.pow_zero,Nat.mul_one]at hm;have g:Rg b b 0:=⟨O,Or.inl rfl,O,O⟩;have:=f.cmp g;rw[Nat.pow_zero,Nat.mul_one,hm,Nat.compare_eq_eq.2 rfl]at this;exact Nat.compare_eq_eq.1 this
end
end Mn
end Go.Proofs.YtilcmkiihefkkaaGreatDoor
