import Derived.Laws.FloatArith
import Derived.Test.YtilcmkiihefkkaaGreatDoorJl1
set_option linter.unusedVariables false
set_option linter.unusedSimpArgs false
set_option maxRecDepth 1000000
set_option maxHeartbeats 64000000
namespace Go.Proofs.YtilcmkiihefkkaaGreatDoor
namespace Mn
section
open Ieee
def fq (q:Int):Nat:=double.nearest (decide (q<0)) q.natAbs (-2)
theorem M3 (m a:Nat)(hm:m≠0):(m*2^a).log2=m.log2+a:=by
 have h1:m*2^a≠0:=Nat.mul_ne_zero hm (by have:=Nat.two_pow_pos a;omega);rw[Nat.log2_eq_iff h1];have b:=(Nat.log2_eq_iff (k:=m.log2) hm).1 rfl;refine⟨?_,?_⟩
 ·rw[Nat.pow_add];exact Nat.mul_le_mul_right _ b.1
 ·rw[show m.log2+a+1=(m.log2+1)+a by omega,Nat.pow_add];exact Nat.mul_lt_mul_of_pos_right b.2 (Nat.two_pow_pos a)
theorem L8 (m:Nat)(hm:m≠0)(h:m<2^53):m.log2≤52:=by
 have:=(Nat.log2_lt hm).2 h;omega
theorem A01 (neg:Bool)(m D:Nat)(hm:m≠0):Toward.even.cut neg (m*2^D) D=m:=by
 have h1:(m*2^D).log2=m.log2+D:=M3 m D hm;have a:min D ((m*2^D).log2+2)=D:=by rw[h1];omega
 have b:=Nat.two_pow_pos D;unfold Toward.cut;simp only[a,Nat.one_shiftLeft,Nat.mul_mod_left,Nat.mul_div_cancel _ b];have e1:decide (2^D<2*0)=false:=Zs;have c:(2^D==2*0)=false:=by
  simp only[Nat.mul_zero,beq_eq_false_iff_ne];omega
 rw[e1,c];rfl
theorem H5 (neg:Bool)(m a:Nat)(e:Int)(hm:m≠0)(h:m<2^53)(he:-900≤e)(s:e≤900) :
 double.nearest neg (m*2^a) (e-a)=double.word neg ((e+m.log2-52+1074).toNat*2^52+m*2^(52-m.log2)):=by
 have h1:m*2^a≠0:=Nat.mul_ne_zero hm (by have:=Nat.two_pow_pos a;omega);have t:=L8 m hm h;have c:=M3 m a hm;have d:double.leastPlace=-1074:=Z;have f:double.binade=2^52:=rfl;have g:double.fractionBits=52:=rfl;have hi:double.infRung=2047*2^52:=rfl;unfold Format.nearest;rw[if_neg h1];simp only[d,f,c,g,hi];have i:max (e-(a:Int)+((m.log2+a:Nat):Int)-((52:Nat):Int)) (-1074)=e+m.log2-52:=O;rw[i];have j:Toward.even.cut neg ((m*2^a) <<< (e-(a:Int)-(e+m.log2-52)).toNat) (e+m.log2-52-(e-(a:Int))).toNat=m*2^(52-m.log2):=by
  by_cases u:a≤52-m.log2
  ·have e1:(e-(a:Int)-(e+m.log2-52)).toNat=52-m.log2-a:=O;have b:(e+m.log2-52-(e-(a:Int))).toNat=0:=O;rw[e1,b,Nat.shiftLeft_eq,Nat.mul_assoc,←Nat.pow_add,show a+(52-m.log2-a)=52-m.log2 by omega];have l:m*2^(52-m.log2)≠0:=Nat.mul_ne_zero hm (by have:=Nat.two_pow_pos (52-m.log2);omega);have:=A01 neg (m*2^(52-m.log2)) 0 l;simpa using this
  ·have e1:(e-(a:Int)-(e+m.log2-52)).toNat=0:=O;have b:(e+m.log2-52-(e-(a:Int))).toNat=a-(52-m.log2):=O;rw[e1,b,Nat.shiftLeft_zero];have n:m*2^a=m*2^(52-m.log2)*2^(a-(52-m.log2)):=by
    rw[Nat.mul_assoc,←Nat.pow_add,show 52-m.log2+(a-(52-m.log2))=a by omega]
   rw[n];exact A01 neg _ _ (Nat.mul_ne_zero hm (by have:=Nat.two_pow_pos (52-m.log2);omega))
 rw[j];have o:m*2^(52-m.log2)<2^53:=by
  have p:=((Nat.log2_eq_iff (k:=m.log2) hm).1 rfl).2;calc m*2^(52-m.log2)<2^(m.log2+1)*2^(52-m.log2):=Nat.mul_lt_mul_of_pos_right p (Nat.two_pow_pos _)
   _=2^53:=by rw[←Nat.pow_add,show m.log2+1+(52-m.log2)=53 by omega]
 have q:(e+m.log2-52 - -1074).toNat=(e+m.log2-52+1074).toNat:=O;rw[q,Nat.min_eq_left];have:(e+m.log2-52+1074).toNat≤1974:=O;have r:(2:Nat)^53=2*2^52:=Z;have v:(e+m.log2-52+1074).toNat*2^52≤1974*2^52:=Nat.mul_le_mul_right _ this;rw[r]at o;generalize (2:Nat)^52=P at *;generalize (e+m.log2-52+1074).toNat*P=X at *;omega
theorem A1q (neg:Bool)(E M:Nat)(h1:2^52≤M)(m:M<2^53)(d:E≤2000) :
 double.read (double.word neg (E*2^52+M))=.number neg M (-1074+E):=by
 have f:double.leastPlace=-1074:=Z;have g:double.binade=2^52:=rfl;have hi:double.infRung=2047*2^52:=rfl;have hs:double.signWeight=2^63:=rfl;have n:(2:Nat)^53=2*2^52:=Z;have b:(2:Nat)^63=2048*2^52:=Z;have o:E*2^52≤2000*2^52:=Nat.mul_le_mul_right _ d;generalize h:(2:Nat)^52=P at *;have i:0<P:=by rw[←h];exact Nat.two_pow_pos _
 have a:E*P+M<2048*P:=O;have e1:((double.word neg (E*P+M))/double.signWeight%2==1)=neg:=by
  unfold Format.word;rw[hs,b];cases neg
  ·simp[Nat.div_eq_of_lt a]
  ·simp only[if_true];rw[show 2048*P+(E*P+M)=(E*P+M)+1*(2048*P) by omega,Nat.add_mul_div_right _ _ O,Nat.div_eq_of_lt a];rfl
 have j:(double.word neg (E*P+M))%double.signWeight=E*P+M:=by
  unfold Format.word;rw[hs,b];cases neg
  ·simp[Nat.mod_eq_of_lt a]
  ·simp only[if_true];rw[show 2048*P+(E*P+M)=(E*P+M)+1*(2048*P) by omega,Nat.add_mul_mod_self_right,Nat.mod_eq_of_lt a]
 unfold Format.read;simp only[e1,j,g,hi,f];rw[if_neg O,if_pos O];have c:E*P+M=(M-P)+(E+1)*P:=by rw[Nat.add_mul];omega
 have k:(E*P+M)%P=M-P:=by
  rw[c,Nat.add_mul_mod_self_right,Nat.mod_eq_of_lt O]
 have l:(E*P+M)/P=E+1:=by
  rw[c,Nat.add_mul_div_right _ _ i,Nat.div_eq_of_lt O];omega
 rw[k,l];congr 1;omega
theorem Q2 (q:Int)(h:q.natAbs<2^53):∃a:Nat,double.read (fq q)=.number (decide (q<0)) (q.natAbs*2^a) (-2-a):=by
 by_cases d:q=0
 ·subst d;have key:∀a:Nat,a=1072→double.read (fq 0)=.number (decide ((0:Int)<0)) ((0:Int).natAbs*2^a) (-2-a):=by
   intro a f;have e0:fq 0=0:=Z;have e1:(-2-(a:Int))=-1074:=O;rw[e1,e0,Int.natAbs_zero,Nat.zero_mul];decide
  exact⟨1072,key 1072 rfl⟩
 ·have hm:q.natAbs≠0:=O;have b:=H5 (decide (q<0)) q.natAbs 0 (-2) hm h O O;simp only[Nat.pow_zero,Nat.mul_one,Int.natCast_zero,Int.sub_zero]at b;have g:=L8 _ hm h;have c:=(Nat.log2_eq_iff (k:=q.natAbs.log2) hm).1 rfl;refine⟨52-q.natAbs.log2,?_⟩;unfold fq;rw[b,A1q]
  ·congr 1;omega
  ·calc 2^52=2^q.natAbs.log2*2^(52-q.natAbs.log2):=by rw[←Nat.pow_add,show q.natAbs.log2+(52-q.natAbs.log2)=52 by omega]
    _≤_:=Nat.mul_le_mul_right _ c.1
  ·calc q.natAbs*2^(52-q.natAbs.log2)<2^(q.natAbs.log2+1)*2^(52-q.natAbs.log2):=Nat.mul_lt_mul_of_pos_right c.2 (Nat.two_pow_pos _)
    _=2^53:=by rw[←Nat.pow_add,show q.natAbs.log2+1+(52-q.natAbs.log2)=53 by omega]
  ·omega
theorem A5z (q:Int)(a:Nat)(h:q.natAbs<2^53):double.nearest (decide (q<0)) (q.natAbs*2^a) (-2-a)=fq q:=by
 by_cases b:q=0
 ·subst b;unfold fq Format.nearest;simp
 ·have hm:q.natAbs≠0:=O;have h1:=H5 (decide (q<0)) q.natAbs 0 (-2) hm h O O;have c:=H5 (decide (q<0)) q.natAbs a (-2) hm h O O;simp only[Nat.pow_zero,Nat.mul_one,Int.natCast_zero,Int.sub_zero]at h1;unfold fq;rw[h1,c]
theorem A0S (q:Int)(a up c:Nat)(b:a+up=c):signed (decide (q<0)) (q.natAbs*2^a) up=q*2^c:=by
 unfold signed;rw[Nat.shiftLeft_eq,Nat.mul_assoc,←Nat.pow_add,b];by_cases h:q<0
 ·simp only[h,decide_true,if_true];have:q=-(q.natAbs:Int):=O;rw[Int.natCast_mul,Int.natCast_pow];conv=>rhs;rw[this]
  rw[Int.neg_mul];rfl
 ·simp only[h,decide_false];have:q=(q.natAbs:Int):=O;rw[Int.natCast_mul,Int.natCast_pow];conv=>rhs;rw[this]
  rfl
theorem A6V (s:Bool)(m up:Nat):signed (!s) m up=- signed s m up:=by
 unfold signed;cases s<;>simp
theorem B21 (q r:Int)(a b:Nat)(t:Bool)(n:Nat)(hs:∀up c,b+up=c→signed t n up=r*2^c)(ht:q+r=0→(decide (q<0)&&t)=false)(h:(q+r).natAbs<2^53) :
 (Datum.sum (.number (decide (q<0)) (q.natAbs*2^a) (-2-a)) (.number t n (-2-b))).map double.write=some (fq (q+r)):=by
 have e0:min (-2-(a:Int)) (-2-(b:Int))=-2-((max a b:Nat):Int):=O;have e1:(-2-(a:Int)-(-2-((max a b:Nat):Int))).toNat=max a b-a:=O;have g:(-2-(b:Int)-(-2-((max a b:Nat):Int))).toNat=max a b-b:=O;unfold Datum.sum;simp only[e0,e1,g];rw[A0S q a _ (max a b) O,hs _ (max a b) O,←Int.add_mul];have f:(0:Int)<2^max a b:=by exact_mod_cast Nat.two_pow_pos (max a b)
 have z:((q+r)*2^max a b=0)↔q+r=0:=by
  rw[Int.mul_eq_zero];exact⟨fun h=>h.elim id (fun h=>O),Or.inl⟩
 have l:((q+r)*2^max a b<0)↔q+r<0:=by
  constructor
  ·intro h;by_cases i:q+r<0
   ·exact i
   ·have:=Int.mul_nonneg (show 0≤q+r by omega) (Int.le_of_lt f);omega
  ·intro h;exact Int.mul_neg_of_neg_of_pos h f
 have j:((q+r)*2^max a b).natAbs=(q+r).natAbs*2^max a b:=by
  rw[Int.natAbs_mul,Int.natAbs_pow];rfl
 simp only[Option.map_some,Format.write,j,z,l];congr 1;by_cases d:q+r=0
 ·rw[if_pos d,ht d,d];unfold fq Format.nearest;simp
 ·rw[if_neg d];exact A5z _ _ h
theorem B0o (q r:Int)(h1:q.natAbs<2^53)(d:r.natAbs<2^53)(h:(q+r).natAbs<2^53):floatBits .add .f64 (fq q) (fq r)=some (fq (q+r)):=by
 obtain⟨a,f⟩:=Q2 q h1;obtain⟨b,g⟩:=Q2 r d;show((double.read (fq q)).sum (double.read (fq r))).map double.write=_;rw[f,g];refine B21 q r a b _ _ (fun up c i=>A0S r b up c i) ?_ h;intro k;by_cases j:q<0
 ·have:¬r<0:=O;simp[this]
 ·simp[j]
theorem B3j (q r:Int)(h1:q.natAbs<2^53)(d:r.natAbs<2^53)(h:(q-r).natAbs<2^53):floatBits .sub .f64 (fq q) (fq r)=some (fq (q-r)):=by
 obtain⟨a,f⟩:=Q2 q h1;obtain⟨b,g⟩:=Q2 r d;show((double.read (fq q)).sum (double.read (fq r)).opposite).map double.write=_;rw[f,g];have:=B21 q (-r) a b (!(decide (r<0))) (r.natAbs*2^b) (fun up c i=>by rw[A6V,A0S r b up c i,Int.neg_mul]) ?_ (by rwa [←Int.sub_eq_add_neg])
 ·rw[Int.sub_eq_add_neg];exact this
 ·intro k;by_cases j:q<0
  ·have:r<0:=O;simp[this]
  ·simp[j]
theorem A0O (q r:Int)(h1:q.natAbs<2^53)(f:r.natAbs<2^53):double.order (fq q) (fq r)=some (compare q r):=by
 obtain⟨a,g⟩:=Q2 q h1;obtain⟨b,i⟩:=Q2 r f;show(double.read (fq q)).order (double.read (fq r))=_;rw[g,i];have e0:min (-2-(a:Int)) (-2-(b:Int))=-2-((max a b:Nat):Int):=O;have e1:(-2-(a:Int)-(-2-((max a b:Nat):Int))).toNat=max a b-a:=O;have j:(-2-(b:Int)-(-2-((max a b:Nat):Int))).toNat=max a b-b:=O;unfold Datum.order;simp only[e0,e1,j];rw[A0S q a _ (max a b) O,A0S r b _ (max a b) O];have c:(0:Int)<2^max a b:=by exact_mod_cast Nat.two_pow_pos (max a b)
 congr 1;rcases Int.lt_trichotomy q r with h|h|h
 ·have d:=Int.mul_lt_mul_of_pos_right h c;simp only[compare,compareOfLessAndEq,h,d,if_true]
 ·subst h;simp[compare,compareOfLessAndEq]
 ·have d:=Int.mul_lt_mul_of_pos_right h c;have n1:¬(q<r):=O;have k:¬(q=r):=O;have l:¬(q*2^max a b<r*2^max a b):=O;have m:¬(q*2^max a b=r*2^max a b):=O;simp only[compare,compareOfLessAndEq,n1,k,l,m,if_false]
theorem N9 (n:Int)(h:n.natAbs<2^50):floatOfInt .f64 n=fq (4*n):=by
 show double.nearest (decide (n<0)) n.natAbs 0=_;by_cases b:n=0
 ·subst b;decide
 ·have hm:n.natAbs≠0:=O;have f:(2:Nat)^53=8*2^50:=Z;have h1:=H5 (decide (n<0)) n.natAbs 0 0 hm O O O;have c:=H5 (decide (n<0)) n.natAbs 2 0 hm O O O;simp only[Nat.pow_zero,Nat.mul_one,Int.natCast_zero,Int.sub_zero]at h1;unfold fq;have e1:(4*n).natAbs=n.natAbs*2^2:=O;have d:decide (4*n<0)=decide (n<0):=by
   by_cases a:n<0
   ·have:4*n<0:=O;simp[a,this]
   ·have:¬(4*n<0):=O;simp[a,this]
  rw[e1,d,h1];exact c.symm
theorem A7b (q:Int)(s:Nat)(hs:s≤2)(h:q.natAbs<2^50):floatBits .quo .f64 (fq (2^s*q)) (fq (4*2^s))=some (fq q):=by
 by_cases f:q=0
 ·subst f;have:s=0∨s=1∨s=2:=O;rcases this with rfl|rfl|rfl<;>decide
 have g:q.natAbs≠0:=O;have u:(2:Nat)^53=8*2^50:=Z;have hk:((2:Int)^s*q).natAbs=2^s*q.natAbs:=by rw[Int.natAbs_mul,Int.natAbs_pow];rfl
 have i:2^s≤2^2:=Nat.pow_le_pow_right O hs;have b:((2:Int)^s*q).natAbs<2^53:=by
  rw[hk];calc 2^s*q.natAbs≤2^2*q.natAbs:=Nat.mul_le_mul_right _ i
   _<2^53:=O
 obtain⟨a,j⟩:=Q2 _ b;have k:double.read (fq (4*2^s))=.number false (2^52) (s-52):=by
  have:s=0∨s=1∨s=2:=O;rcases this with rfl|rfl|rfl<;>decide
 show((double.read (fq (2^s*q))).quotient (double.fractionBits+2) (double.read (fq (4*2^s)))).map double.write=_;rw[j,k,hk];unfold Datum.quotient;have l:¬((2:Nat)^52=0):=Z;have m:((2:Nat)^52).log2=52:=Z;simp only[l,if_false,m];have n:double.fractionBits+2+52=106:=rfl;rw[n];have o:(decide ((2:Int)^s*q<0) ^^ false)=decide (q<0):=by
  have c:(0:Int)<2^s:=by exact_mod_cast Nat.two_pow_pos s
  rw[Bool.xor_false];congr 1;apply propext;constructor
  ·intro h;by_cases p:q<0
   ·exact p
   ·have:=Int.mul_nonneg (Int.le_of_lt c) (show 0≤q by omega);omega
  ·intro h;exact Int.mul_neg_of_pos_of_neg c h
 rw[o];generalize v:106-(2^s*q.natAbs*2^a).log2=more;have d:2^s*q.natAbs≠0:=Nat.mul_ne_zero (by have:=Nat.two_pow_pos s;omega) g;have w:=L8 _ d (by rwa [hk]at b);have x:=M3 _ a d;have y:54≤more+a:=O;have e1:(2^s*q.natAbs*2^a) <<< more=2^s*q.natAbs*2^(more+a-52)*2^52:=by
  generalize 2^s*q.natAbs=X;rw[Nat.shiftLeft_eq,Nat.mul_assoc,←Nat.pow_add,Nat.mul_assoc,←Nat.pow_add,show more+a-52+52=a+more by omega]
 rw[e1,Nat.mul_div_cancel _ (Nat.two_pow_pos 52),Nat.mul_mod_left];have r:2*(2^s*q.natAbs*2^(more+a-52))+((0:Nat) !=0).toNat=q.natAbs*2^(s+(more+a-52)+1):=by
  simp only[bne_self_eq_false,Bool.toNat_false,Nat.add_zero,Nat.pow_add,Nat.pow_one];generalize 2^(more+a-52)=A;generalize 2^s=B;rw[Nat.mul_comm 2,Nat.mul_comm B,Nat.mul_assoc q.natAbs,Nat.mul_assoc q.natAbs]
 rw[r];have t:(-2-(a:Int)-((s:Int)-52)-(more:Int)-1)=-2-((s+(more+a-52)+1:Nat):Int):=O;rw[t];simp only[Option.map_some,Format.write];rw[A5z q _ O]
end
section
set_option exponentiation.threshold 3000
open Ieee
def Vle (m:Nat)(e:Int)(M:Nat)(L:Int):Prop:=m*2^(e-min e L).toNat≤M*2^(L-min e L).toNat
theorem U6 {m:Nat}{e:Int}{M:Nat}{L:Int}(c:Int)(h1:c≤e)(b:c≤L):Vle m e M L↔m*2^(e-c).toNat≤M*2^(L-c).toNat:=by
 unfold Vle;have e1:(e-c).toNat=(e-min e L).toNat+(min e L-c).toNat:=O;have a:(L-c).toNat=(L-min e L).toNat+(min e L-c).toNat:=O;rw[e1,a,Nat.pow_add,Nat.pow_add,←Nat.mul_assoc,←Nat.mul_assoc];exact(Nat.mul_le_mul_right_iff (Nat.two_pow_pos _)).symm
theorem B1v (neg:Bool)(n drop N:Nat)(h:n≤N*2^drop):Toward.even.cut neg n drop≤N:=by
 unfold Toward.cut;simp only[Nat.one_shiftLeft];by_cases i:drop≤n.log2+2
 ·rw[Nat.min_eq_left i];have j:=Nat.two_pow_pos drop;have p:=Nat.div_add_mod n (2^drop);by_cases a:n%2^drop=0
  ·rw[a];have e1:decide (2^drop<2*0)=false:=Zs;have c:(2^drop==2*0)=false:=by simp only[Nat.mul_zero,beq_eq_false_iff_ne];omega
   rw[e1,c];simp only[Bool.false_and,Bool.or_false,Bool.toNat_false,Nat.add_zero];exact Nat.div_le_of_le_mul (by rw[Nat.mul_comm];exact h)
  ·have d:n/2^drop<N:=by
    rw[Nat.div_lt_iff_lt_mul j];rcases Nat.lt_or_ge n (N*2^drop) with f|f
    ·exact f
    ·have:n=N*2^drop:=O;rw[this,Nat.mul_mod_left]at a;exact absurd rfl a
   have l:∀b:Bool,b.toNat≤1:=by intro b;cases b<;>decide
   exact Nat.le_trans (Nat.add_le_add_left (l _) _) d
 ·rw[Nat.min_eq_right O];by_cases g:n=0
  ·subst g;simp
  ·have q:=(Nat.log2_eq_iff (k:=n.log2) g).1 rfl;have d:2*n<2^(n.log2+2):=by rw[Nat.pow_succ];omega
   have e1:n/2^(n.log2+2)=0:=Nat.div_eq_of_lt O;have c:n%2^(n.log2+2)=n:=Nat.mod_eq_of_lt O;rw[e1,c];have m:decide (2^(n.log2+2)<2*n)=false:=Zo;have o:(2^(n.log2+2)==2*n)=false:=by simp only[beq_eq_false_iff_ne];omega
   rw[m,o];simp
theorem A1v (b:Nat)(place:Int)(M:Nat)(L:Int)(t:2^52≤M)(f:M<2^53)(u:-1074≤L)(h:Vle b place M L) :
 double.nearest false b place≤(L+1074).toNat*2^52+M:=by
 have g:double.leastPlace=-1074:=Z;have i:double.binade=2^52:=rfl;have j:double.fractionBits=52:=rfl;unfold Format.nearest;split
 ·unfold Format.word;simp
 ·rename_i l;simp only[g,i,j];unfold Format.word;simp only[Bool.false_eq_true,if_false];refine Nat.le_trans (Nat.min_le_left _ _) ?_;have d:=(Nat.log2_eq_iff (k:=b.log2) l).1 rfl;obtain⟨last,m⟩:=A8 (max (place+b.log2-((52:Nat):Int)) (-1074));rw[←m];have c:=(U6 (min place L) O O).1 h;have hle:last≤L:=by
   by_cases v:place+b.log2-52≤-1074
   ·omega
   ·have n:2^(b.log2+(place-min place L).toNat)<2^(53+(L-min place L).toNat):=by
     rw[Nat.pow_add,Nat.pow_add];exact Nat.lt_of_le_of_lt (Nat.le_trans (Nat.mul_le_mul_right _ d.1) c) (Nat.mul_lt_mul_of_pos_right f (Nat.two_pow_pos _))
    have w:=(Nat.pow_lt_pow_iff_right (a:=2) O).1 n;omega
  by_cases o:last=L
  ·subst o;refine Nat.add_le_add Zs (B1v _ _ _ _ ?_);rw[Nat.shiftLeft_eq];by_cases p:place≤last
   ·rw[Int.min_eq_left p]at c;rw[show(place-last).toNat=(place-place).toNat by omega];exact c
   ·rw[Int.min_eq_right O]at c;rw[show(last-place).toNat=(last-last).toNat by omega];exact c
  ·have hk:Toward.even.cut false (b <<< (place-last).toNat) (last-place).toNat≤2^53:=by
    refine B1v _ _ _ _ ?_;rw[Nat.shiftLeft_eq,←Nat.pow_add];have:b*2^(place-last).toNat≤2^(b.log2+1)*2^(place-last).toNat:=Nat.mul_le_mul_right _ (Nat.le_of_lt d.2);refine Nat.le_trans this ?_;rw[←Nat.pow_add];exact Nat.pow_le_pow_right O O
   have z:(last - -1074).toNat*2^52+2^53≤(L+1074).toNat*2^52+2^52:=by
    have q:(last - -1074).toNat+1≤(L+1074).toNat:=O;have r:(2:Nat)^53=2*2^52:=by rw[Nat.pow_succ,Nat.mul_comm]
    rw[r];generalize (2:Nat)^52=B;generalize (last - -1074).toNat=x at *;generalize (L+1074).toNat=y at *;have s:=Nat.mul_le_mul_right B q;rw[Nat.add_mul]at s;omega
   omega
theorem A1V (r M:Nat)(L:Int)(a:2^52≤M)(l:M<2^53)(b:-1074≤L)(n:L≤900)(h:r≤(L+1074).toNat*2^52+M) :
 ∃m e,double.read r=.number false m e∧Vle m e M L∧e≤L:=by
 have f:double.leastPlace=-1074:=Z;have g:double.binade=2^52:=rfl;have hi:double.infRung=2047*2^52:=rfl;have hs:double.signWeight=2^63:=rfl;have hk:(L+1074).toNat≤1974:=O;have c:r<2^63:=by
  have:=Nat.mul_le_mul_right (2^52) hk;omega
 unfold Format.read;simp only[f,g,hi,hs,Nat.div_eq_of_lt c,Nat.mod_eq_of_lt c];split
 ·rename_i d;refine⟨r,-1074,rfl,?_,b⟩;rw[U6 (-1074) O b];have:=Nat.two_pow_pos (L - -1074).toNat;simp only[Int.sub_self,Int.toNat_zero,Nat.pow_zero,Nat.mul_one];exact Nat.le_trans (Nat.le_of_lt (Nat.lt_of_lt_of_le d a)) (Nat.le_mul_of_pos_right _ this)
 ·rename_i d;have i:r<2047*2^52:=by
   have:=Nat.mul_le_mul_right (2^52) hk;omega
  rw[if_pos i];have o:=Nat.div_add_mod r (2^52);have p:=Nat.mod_lt r (Nat.two_pow_pos 52);have s:1≤r/2^52:=by
   rw[Nat.le_div_iff_mul_le (Nat.two_pow_pos 52)];omega
  generalize r/2^52=q at *;generalize r%2^52=z at *;have t:q≤(L+1074).toNat+1:=O;refine⟨2^52+z,-1074+((q-1:Nat):Int),rfl,?_,O⟩;rw[U6 (-1074+((q-1:Nat):Int)) O O];simp only[Int.sub_self,Int.toNat_zero,Nat.pow_zero,Nat.mul_one];by_cases j:q=(L+1074).toNat+1
  ·have:(L-(-1074+((q-1:Nat):Int))).toNat=0:=O;rw[this];subst j;omega
  ·have k:2^1≤2^(L-(-1074+((q-1:Nat):Int))).toNat:=Nat.pow_le_pow_right O O;have:=Nat.mul_le_mul a k;omega
theorem A9f {o s:Nat}(b:o≠0)(h:o≤s):o.log2≤s.log2:=by
 have h1:=(Nat.log2_eq_iff (k:=o.log2) b).1 rfl;have c:=(Nat.log2_eq_iff (k:=s.log2) O).1 rfl;have d:2^o.log2<2^(s.log2+1):=Nat.lt_of_le_of_lt (Nat.le_trans h1.1 h) c.2;have:=(Nat.pow_lt_pow_iff_right (a:=2) O).1 d;omega
theorem A5q (o s:Nat)(h:o≤s)(hs:0<s)(w:s<2^53) :
 ∃A,floatBits .quo .f64 (fq o) (fq s)=some A∧A≤(-52+1074:Int).toNat*2^52+2^52:=by
 obtain⟨a,f⟩:=Q2 (o:Int) O;obtain⟨b,g⟩:=Q2 (s:Int) O;have d1:decide ((o:Int)<0)=false:=Zs;have d2:decide ((s:Int)<0)=false:=Zs;rw[d1,Int.natAbs_natCast]at f;rw[d2,Int.natAbs_natCast]at g;have p:s*2^b≠0:=Nat.mul_ne_zero O (by have:=Nat.two_pow_pos b;omega);obtain⟨more,i⟩:=A8 (54+(s*2^b).log2-(o*2^a).log2);have j:floatBits .quo .f64 (fq o) (fq s)=some (double.nearest false (2*((o*2^a)*2^more/(s*2^b))+((o*2^a)*2^more%(s*2^b) !=0).toNat) (-2-(a:Int)-(-2-(b:Int))-(more:Int)-1)):=by
  show Option.map double.write ((double.read (fq o)).quotient 54 (double.read (fq s)))=_;rw[f,g];unfold Datum.quotient;simp only[if_neg p,←i];rw[Nat.shiftLeft_eq (o*2^a) more];rfl
 refine⟨_,j,A1v _ _ (2^52) (-52) (Nat.le_refl _) Z O ?_⟩
 ·clear j;by_cases c:o=0
  ·subst c;simp[Vle]
  ·have x:b≤a+more:=by
    rw[M3 s b O,M3 o a c]at i;have:=A9f c h;omega
   obtain⟨D,k⟩:=A8 (o*2^a*2^more);rw[←k];have l:D=o*2^(a+more):=by rw[k,Nat.mul_assoc,←Nat.pow_add]
   have y:=Nat.div_add_mod D (s*2^b);have key:(2*(D/(s*2^b))+(D%(s*2^b) !=0).toNat)*2^b≤2^(a+more+1):=by
    have hle:s*2^b*(D/(s*2^b))≤s*2^(a+more):=by
     have:D≤s*2^(a+more):=by rw[l];exact Nat.mul_le_mul_right _ h
     omega
    by_cases m:D%(s*2^b)=0
    ·rw[m];simp only[bne_self_eq_false,Bool.toNat_false,Nat.add_zero];rw[Nat.mul_assoc s]at hle;have d:=Nat.le_of_mul_le_mul_left hle hs;rw[Nat.pow_succ,Nat.mul_assoc,Nat.mul_comm (D/_)];omega
    ·have e1:(D%(s*2^b) !=0).toNat=1:=by simp[m]
     rw[e1];have q:s*(2^b*(D/(s*2^b)))<s*2^(a+more):=by
      rw[←Nat.mul_assoc];have:D≤s*2^(a+more):=by rw[l];exact Nat.mul_le_mul_right _ h
      omega
     have d:=Nat.lt_of_mul_lt_mul_left q;have n:2^(a+more)=2^b*2^(a+more-b):=by rw[←Nat.pow_add];congr 1;omega
     rw[n]at d;have z:=Nat.lt_of_mul_lt_mul_left d;have r:2*(D/(s*2^b))+1≤2*2^(a+more-b):=O;have t:=Nat.mul_le_mul_right (2^b) r;rw[Nat.pow_succ,n];rw[Nat.mul_assoc 2,Nat.mul_comm (2^(a+more-b))]at t;omega
   generalize (2*(D/(s*2^b))+(D%(s*2^b) !=0).toNat)=B at *;rw[U6 (-52-((a+more+1:Nat):Int)) O O];have u:(-2-(a:Int)-(-2-(b:Int))-(more:Int)-1-(-52-((a+more+1:Nat):Int))).toNat=b+52:=O;have v:(-52-(-52-((a+more+1:Nat):Int))).toNat=a+more+1:=O;rw[u,v,Nat.pow_add 2 b,←Nat.mul_assoc,Nat.mul_comm _ (2^52)];exact Nat.mul_le_mul_left _ key
theorem sub_le (A:Nat)(a:A≤(-52+1074:Int).toNat*2^52+2^52):∃B,floatBits .sub .f64 (fq 4) A=some B∧B≤(-52+1074:Int).toNat*2^52+2^52:=by
 obtain⟨m,e,b,c,he⟩:=A1V A (2^52) (-52) (Nat.le_refl _) Z O O a;have d:double.read (fq 4)=.number false (2^52) (-52):=Z;have f:min (-52:Int) e=e:=O;have g:=(U6 e (Int.le_refl _) he).1 c;simp only[Int.sub_self,Int.toNat_zero,Nat.pow_zero,Nat.mul_one]at g;obtain⟨t,ht⟩:∃t:Nat,(t:Int)=((2^52*2^(-52-e).toNat:Nat):Int)-(m:Nat):=⟨2^52*2^(-52-e).toNat-m,O⟩;have h:floatBits .sub .f64 (fq 4) A=some (double.nearest false t e):=by
  show Option.map double.write ((double.read (fq 4)).sum (double.read A).opposite)=_;rw[d,b];unfold Datum.opposite Datum.sum;simp only[f];have e1:signed false (2^52) (-52-e).toNat+signed (!false) m (e-e).toNat=(t:Int):=by
   unfold signed;simp only[Bool.false_eq_true,if_false,Bool.not_false,if_true,Nat.shiftLeft_eq,Int.sub_self,Int.toNat_zero,Nat.pow_zero,Nat.mul_one];omega
  rw[e1];have i:(if (t:Int)=0 then false&&!false else decide ((t:Int)<0))=false:=by
   split
   ·rfl
   ·simp
  rw[i,Int.natAbs_natCast];rfl
 refine⟨_,h,A1v _ _ (2^52) (-52) (Nat.le_refl _) Z O ?_⟩;rw[U6 e (Int.le_refl _) he];simp only[Int.sub_self,Int.toNat_zero,Nat.pow_zero,Nat.mul_one];omega
theorem A99 (B:Nat)(b:B≤(-52+1074:Int).toNat*2^52+2^52):∃Q,floatBits .mul .f64 B (fq 240)=some Q∧Q≤(-47+1074:Int).toNat*2^52+60*2^47:=by
 obtain⟨m,e,c,d,he⟩:=A1V B (2^52) (-52) (Nat.le_refl _) Z O O b;have f:double.read (fq 240)=.number false (60*2^47) (-47):=Z;have a:=(U6 e (Int.le_refl _) he).1 d;simp only[Int.sub_self,Int.toNat_zero,Nat.pow_zero,Nat.mul_one]at a;have g:floatBits .mul .f64 B (fq 240)=some (double.nearest false (m*(60*2^47)) (e+-47)):=by
  show Option.map double.write ((double.read B).product (double.read (fq 240)))=_;rw[f,c];rfl
 refine⟨_,g,A1v _ _ (60*2^47) (-47) Z Z O ?_⟩;rw[U6 (e+-47) (Int.le_refl _) O];simp only[Int.sub_self,Int.toNat_zero,Nat.pow_zero,Nat.mul_one];have e1:(-47-(e+-47)).toNat=52+(-52-e).toNat:=O;rw[e1,Nat.pow_add,Nat.mul_comm m];exact Nat.mul_le_mul_left _ a
theorem B0W (m d:Nat):Toward.zero.cut false m d=m/2^d:=by
 unfold Toward.cut;simp only[Nat.one_shiftLeft,Bool.toNat_false,Nat.add_zero];by_cases c:d≤m.log2+2
 ·rw[Nat.min_eq_left c]
 ·rw[Nat.min_eq_right O];by_cases a:m=0
  ·subst a;simp
  ·have f:=(Nat.log2_eq_iff (k:=m.log2) a).1 rfl;have b:m<2^(m.log2+2):=Nat.lt_trans f.2 (Nat.pow_lt_pow_right O O);have g:m<2^d:=Nat.lt_trans b (Nat.pow_lt_pow_right O O);rw[Nat.div_eq_of_lt b,Nat.div_eq_of_lt g]
theorem A5J (Q:Nat)(l:Q≤(-47+1074:Int).toNat*2^52+60*2^47) :
 ∃n:Nat,n≤60∧floatToIntVal .f64 Q .i64=some (n:Int)∧(double.order (fq (4*n)) Q=some .lt∨double.order (fq (4*n)) Q=some .eq)∧double.order Q (fq (4*n+4))=some .lt:=by
 obtain⟨m,e,c,o,he⟩:=A1V Q (60*2^47) (-47) Z Z O O l;obtain⟨d,p⟩:∃d:Nat,e=-(d:Int):=⟨(-e).toNat,O⟩;subst p;have b:=(U6 (-(d:Int)) (Int.le_refl _) he).1 o;simp only[Int.sub_self,Int.toNat_zero,Nat.pow_zero,Nat.mul_one]at b;have q:=Nat.two_pow_pos d;have r:=Nat.div_add_mod m (2^d);have s:=Nat.mod_lt m q;have t:60*2^47*2^(-47 - -(d:Int)).toNat=60*2^d:=by
  rw[Nat.mul_assoc,←Nat.pow_add];congr 2;omega
 rw[t]at b;have k:m/2^d≤60:=Nat.div_le_of_le_mul (by rw[Nat.mul_comm];exact b);have ord:∀(x:Nat),x≤1000→∃P:Int,0<P∧double.order (fq (4*(x:Int))) Q=some (compare ((x:Int)*2^d*P) ((m:Int)*P))∧double.order Q (fq (4*(x:Int)))=some (compare ((m:Int)*P) ((x:Int)*2^d*P)):=by
  intro x C;obtain⟨a,f⟩:=Q2 (4*(x:Int)) O;have d1:decide (4*(x:Int)<0)=false:=Zo;rw[d1,show(4*(x:Int)).natAbs=4*x by omega]at f;refine⟨2^(max (a+2) d-d),by exact_mod_cast Nat.two_pow_pos _,?_,?_⟩
  ·show(double.read _).order (double.read Q)=_;rw[f,c];have e0:min (-2-(a:Int)) (-(d:Int))=-((max (a+2) d:Nat):Int):=O;have e1:(-2-(a:Int) - -((max (a+2) d:Nat):Int)).toNat=max (a+2) d-(a+2):=O;have g:(-(d:Int) - -((max (a+2) d:Nat):Int)).toNat=max (a+2) d-d:=O;unfold Datum.order;simp only[e0,e1,g];unfold signed;simp only[Bool.false_eq_true,if_false,Nat.shiftLeft_eq];have i:4*x*2^a*2^(max (a+2) d-(a+2))=x*2^d*2^(max (a+2) d-d):=by
    rw[Nat.mul_assoc x,←Nat.pow_add,show d+(max (a+2) d-d)=max (a+2) d by omega,show max (a+2) d=(a+2)+(max (a+2) d-(a+2)) by omega,Nat.pow_add,Nat.pow_add 2 a 2,Nat.add_sub_cancel_left,show(2:Nat)^2=4 from rfl,Nat.mul_comm 4 x,Nat.mul_assoc,Nat.mul_assoc,←Nat.mul_assoc 4,Nat.mul_comm 4 (2^a)]
   rw[i];push_cast;rfl
  ·show(double.read Q).order (double.read _)=_;rw[f,c];have e0:min (-(d:Int)) (-2-(a:Int))=-((max (a+2) d:Nat):Int):=O;have e1:(-2-(a:Int) - -((max (a+2) d:Nat):Int)).toNat=max (a+2) d-(a+2):=O;have g:(-(d:Int) - -((max (a+2) d:Nat):Int)).toNat=max (a+2) d-d:=O;unfold Datum.order;simp only[e0,e1,g];unfold signed;simp only[Bool.false_eq_true,if_false,Nat.shiftLeft_eq];have i:4*x*2^a*2^(max (a+2) d-(a+2))=x*2^d*2^(max (a+2) d-d):=by
    rw[Nat.mul_assoc x,←Nat.pow_add,show d+(max (a+2) d-d)=max (a+2) d by omega,show max (a+2) d=(a+2)+(max (a+2) d-(a+2)) by omega,Nat.pow_add,Nat.pow_add 2 a 2,Nat.add_sub_cancel_left,show(2:Nat)^2=4 from rfl,Nat.mul_comm 4 x,Nat.mul_assoc,Nat.mul_assoc,←Nat.mul_assoc 4,Nat.mul_comm 4 (2^a)]
   rw[i];push_cast;rfl
 have u:floatToIntVal .f64 Q .i64=some ((m/2^d:Nat):Int):=by
  have e1:(FloatKind.f64.decode Q).toInt .zero=some ((m/2^d:Nat):Int):=by
   show(double.read Q).toInt .zero=_;rw[c];unfold Datum.toInt Datum.integral;simp only[];rw[show(-(d:Int)).toNat=0 by omega,show(- -(d:Int)).toNat=d by omega,Nat.shiftLeft_zero,B0W];unfold signed;simp
  unfold floatToIntVal;rw[e1];simp only[];rw[if_pos];have v:IntKind.i64.min=-9223372036854775808:=Z;have w:IntKind.i64.max=9223372036854775807:=Z;rw[v,w];generalize m/2^d=z at k;clear b r s;omega
 generalize m/2^d=n at *;refine⟨n,k,u,?_,?_⟩
 ·obtain⟨P,j,h1,_⟩:=ord n O;rw[h1];have hle:(n:Int)*2^d≤m:=by
   have:n*2^d≤m:=by rw[Nat.mul_comm];omega
   exact_mod_cast this
  rcases Int.lt_or_eq_of_le hle with h|h
  ·left;have:=Int.mul_lt_mul_of_pos_right h j;simp[compare,compareOfLessAndEq,this]
  ·right;rw[h];simp[compare,compareOfLessAndEq]
 ·obtain⟨P,j,_,y⟩:=ord (n+1) O;have A:(4*(n:Int)+4)=4*((n+1:Nat):Int):=O;rw[A,y];have B:(m:Int)<((n+1:Nat):Int)*2^d:=by
   have:m<(n+1)*2^d:=by rw[Nat.add_mul,Nat.mul_comm n];omega
   exact_mod_cast this
  have:=Int.mul_lt_mul_of_pos_right B j;simp only[compare,compareOfLessAndEq,this,if_true]
structure Rg (b M q:Nat):Prop where
 eq:b=q*2^52+M
 lo:q=0∨2^52≤M
 hi:M<2^53
 top:q≤2045
theorem rg_of (b:Nat)(h:b<2047*2^52):∃M q,Rg b M q:=by
 by_cases a:b<2^52
 ·exact⟨b,0,O,Or.inl rfl,O,O⟩
 ·have c:=Nat.div_add_mod b (2^52);have hm:=Nat.mod_lt b (show 2^52>0 by decide);refine⟨2^52+b%2^52,b/2^52-1,?_,Or.inr O,O,O⟩;omega
section
variable {b M q:Nat}
theorem Rg.lt (h:Rg b M q):b<2047*2^52:=by
 have h1:=h.eq;have a:=h.hi;have c:=h.top;omega
theorem Rg.read (h:Rg b M q):double.read b=.number false M (-1074+q):=by
 have d:double.leastPlace=-1074:=Z;have f:double.binade=2^52:=rfl;have hi:double.infRung=2047*2^52:=rfl;have hs:double.signWeight=2^63:=rfl;have g:=h.lt;have a:b<2^63:=O;unfold Format.read;simp only[d,f,hi,hs,Nat.div_eq_of_lt a,Nat.mod_eq_of_lt a];have h1:=h.eq;have k:=h.hi;have l:=h.lo;by_cases c:b<2^52
 ·rw[if_pos c];have i:q=0:=O;subst i;have:M=b:=O;subst this;rfl
 ·rw[if_neg c,if_pos g];have m:2^52≤M:=O;have e1:b/2^52=q+1:=by
   have:b=(M-2^52)+(q+1)*2^52:=by rw[Nat.add_mul,Nat.one_mul];omega
   rw[this,Nat.add_mul_div_right _ _ (Nat.two_pow_pos 52),Nat.div_eq_of_lt O,Nat.zero_add]
  have j:b%2^52=M-2^52:=O;rw[e1,j,show 2^52+(M-2^52)=M by omega];rfl
theorem Rg.write (h:Rg b M q)(a:Nat)(place:Int)(x y:Nat)(c:M≠0)(he:a*2^x=M*2^y)(p:place-x=-1074+q-y):double.nearest false a place=b:=by
 have j:double.leastPlace=-1074:=Z;have k:double.binade=2^52:=rfl;have l:double.fractionBits=52:=rfl;have hi:double.infRung=2047*2^52:=rfl;have i:a≠0:=by
  intro m;subst m;have:=Nat.mul_ne_zero c (show 2^y≠0 by have:=Nat.two_pow_pos y;omega);omega
 have r:a.log2+x=M.log2+y:=by rw[←M3 a x i,←M3 M y c,he]
 have s:=L8 M c h.hi;have t:q=0∨M.log2=52:=by
  rcases h.lo with h1|h1
  ·exact Or.inl h1
  ·right;rw[Nat.log2_eq_iff c];exact⟨h1,h.hi⟩
 unfold Format.nearest;rw[if_neg i];simp only[j,k,l,hi];have n:max (place+(a.log2:Int)-((52:Nat):Int)) (-1074)=-1074+q:=O;rw[n];have o:Toward.even.cut false (a <<< (place-(-1074+(q:Int))).toNat) (-1074+(q:Int)-place).toNat=M:=by
  by_cases u:y≤x
  ·have e1:(place-(-1074+(q:Int))).toNat=x-y:=O;have d:(-1074+(q:Int)-place).toNat=0:=O;rw[e1,d,Nat.shiftLeft_eq];have f:a*2^(x-y)=M:=by
    have g:a*2^(x-y)*2^y=M*2^y:=by rw[Nat.mul_assoc,←Nat.pow_add,show x-y+y=x by omega,he]
    exact Nat.eq_of_mul_eq_mul_right (Nat.two_pow_pos y) g
   rw[f];have:=A01 false M 0 c;simpa using this
  ·have e1:(place-(-1074+(q:Int))).toNat=0:=O;have d:(-1074+(q:Int)-place).toNat=y-x:=O;rw[e1,d,Nat.shiftLeft_zero];have f:a=M*2^(y-x):=by
    have g:a*2^x=M*2^(y-x)*2^x:=by rw[Nat.mul_assoc,←Nat.pow_add,show y-x+x=y by omega,he]
    exact Nat.eq_of_mul_eq_mul_right (Nat.two_pow_pos x) g
   rw[f];exact A01 false M (y-x) c
 rw[o,show(-1074+(q:Int) - -1074).toNat=q by omega,←h.eq,Nat.min_eq_left (Nat.le_of_lt h.lt)];rfl
theorem Rg.dbl_lo (h:Rg b M q)(c:b<2^52):Rg (2*b) (2*M) 0:=by
 have h1:=h.eq;have d:=h.hi;have f:=h.lo;have a:q=0:=O;subst a;exact⟨O,Or.inl rfl,O,O⟩
theorem Rg.dbl_hi (h:Rg b M q)(d:2^52≤b)(ht:q≤2044):Rg (b+2^52) M (q+1):=by
 have h1:=h.eq;have c:=h.hi;have a:=h.lo;refine⟨by rw[h1,Nat.add_mul];omega,Or.inr ?_,c,O⟩;rcases a with a|a
 ·subst a;omega
 ·exact a
theorem A5G:double.read 4611686018427387904=.number false (2^52) (-51):=Z
theorem A6c:double.read 4607182418800017408=.number false (2^52) (-52):=Z
theorem A2T:double.read 4841369599423283200=.number false (2^52) 0:=Z
theorem Rg.mul2 (h:Rg b M q){c N p:Nat}(a:Rg c N p)(d:N≠0)(he:N*2^p=M*2^(q+1)):floatBits .mul .f64 b 4611686018427387904=some c:=by
 show((double.read b).product (double.read _)).map double.write=_;rw[h.read,A5G];show some (double.nearest false (M*2^52) (-1074+(q:Int)+-51))=_;refine congrArg some ?_;refine a.write _ _ (q+1) (p+52) d ?_ O;rw[Nat.pow_add 2 p,←Nat.mul_assoc,he,Nat.mul_assoc,Nat.mul_assoc,Nat.mul_comm (2^52)]
theorem Rg.quo2 (h:Rg b M q){c N p:Nat}(f:Rg c N p)(a:N≠0)(he:N*2^(p+1)=M*2^q):floatBits .quo .f64 b 4611686018427387904=some c:=by
 have g:M≠0:=by
  intro i;subst i;have:=Nat.mul_ne_zero a (show 2^(p+1)≠0 by have:=Nat.two_pow_pos (p+1);omega);omega
 show((double.read b).quotient 54 (double.read _)).map double.write=_;rw[h.read,A5G];have m:=L8 M g h.hi;have n:(2^52:Nat).log2=52:=Z;obtain⟨more,j⟩:=A8 (54+(2^52:Nat).log2-M.log2);have d:more=52+(more-52):=O;have e1:M <<< more/2^52=M*2^(more-52):=by
  rw[Nat.shiftLeft_eq];conv=>lhs;rw[d,Nat.pow_add,Nat.mul_comm (2^52),←Nat.mul_assoc,Nat.mul_div_cancel _ (Nat.two_pow_pos 52)]
 have k:M <<< more%2^52=0:=by
  rw[Nat.shiftLeft_eq];conv=>lhs;rw[d,Nat.pow_add,Nat.mul_comm (2^52),←Nat.mul_assoc,Nat.mul_mod_left]
 unfold Datum.quotient;simp only[←j];rw[if_neg Z,e1,k];show some (double.nearest false (2*(M*2^(more-52))+0) (-1074+(q:Int) - -51-more-1))=_;refine congrArg some ?_;refine f.write _ _ q (p+1+(more-51)) a ?_ O;have l:N*(2^(p+1)*2^(more-51))=M*2^q*2^(more-51):=by rw[←Nat.mul_assoc,he]
 rw[Nat.pow_add 2 (p+1),l,show more-51=(more-52)+1 by omega,Nat.pow_succ];simp only[Nat.add_zero,Nat.mul_comm,Nat.mul_left_comm,Nat.mul_assoc]
theorem Rg.cmp (h:Rg b M q){c N p:Nat}(a:Rg c N p):compare b c=compare (M*2^q) (N*2^p):=by
 have key:∀{b M q c N p:Nat},Rg b M q→Rg c N p→b<c→M*2^q<N*2^p:=by
  intro b M q c N p h a j;have h1:=h.eq;have k:=h.hi;have l:=h.lo;have k1:=a.eq;have k2:=a.hi;have m:=a.lo;by_cases d:q=p
  ·subst d;exact Nat.mul_lt_mul_of_pos_right O (Nat.two_pow_pos q)
  ·have n:q<p:=by
    rcases Nat.lt_or_ge q p with h|h
    ·exact h
    ·have:p+1≤q:=O;have:=Nat.mul_le_mul_right (2^52) this;omega
   have f:2^52≤N:=O;have e:N*2^p=N*2^(p-q)*2^q:=by rw[Nat.mul_assoc,←Nat.pow_add,show p-q+q=p by omega]
   rw[e];refine Nat.mul_lt_mul_of_pos_right ?_ (Nat.two_pow_pos q);have i:2^1≤2^(p-q):=Nat.pow_le_pow_right O O;have o:=Nat.mul_le_mul f i;omega
 rcases Nat.lt_trichotomy b c with g|g|g
 ·rw[Nat.compare_eq_lt.2 g,Nat.compare_eq_lt.2 (key h a g)]
 ·subst g;have h1:=h.read;rw[a.read]at h1;injection h1 with _ e1 r;have:p=q:=O;subst this e1;rw[Nat.compare_eq_eq.2 rfl,Nat.compare_eq_eq.2 rfl]
 ·rw[Nat.compare_eq_gt.2 g,Nat.compare_eq_gt.2 (key a h g)]
theorem Rg.order (h:Rg b M q){c N p:Nat}(a:Rg c N p):double.order b c=some (compare b c):=by
 rw[h.cmp a];show(double.read b).order (double.read c)=_;rw[h.read,a.read];unfold Datum.order;have e0:min (-1074+(q:Int)) (-1074+(p:Int))=-1074+(min q p:Nat):=O;simp only[e0];have e1:(-1074+(q:Int)-(-1074+((min q p:Nat):Int))).toNat=q-min q p:=O;have f:(-1074+(p:Int)-(-1074+((min q p:Nat):Int))).toNat=p-min q p:=O;rw[e1,f];unfold signed;simp only[Bool.false_eq_true,if_false,Nat.shiftLeft_eq];congr 1;have f1:M*2^q=M*2^(q-min q p)*2^min q p:=by rw[Nat.mul_assoc,←Nat.pow_add,show q-min q p+min q p=q by omega]
 have f2:N*2^p=N*2^(p-min q p)*2^min q p:=by rw[Nat.mul_assoc,←Nat.pow_add,show p-min q p+min q p=p by omega]
 rw[f1,f2];generalize M*2^(q-min q p)=X;generalize N*2^(p-min q p)=i;have d:=Nat.two_pow_pos (min q p);rcases Nat.lt_trichotomy X i with g|g|g
 ·rw[Int.compare_eq_lt.2 O,Nat.compare_eq_lt.2 (Nat.mul_lt_mul_of_pos_right g d)]
 ·rw[g,Int.compare_eq_eq.2 rfl,Nat.compare_eq_eq.2 rfl]
 ·rw[Int.compare_eq_gt.2 O,Nat.compare_eq_gt.2 (Nat.mul_lt_mul_of_pos_right g d)]
theorem Z8 (n a:Nat)(h:n<2^53):∃c d:Nat,double.nearest false (n*2^a) (0-(a:Int))=c∧double.read c=.number false (n*2^d) (0-(d:Int)):=by
 by_cases b:n=0
 ·subst b;refine⟨0,1074,?_,?_⟩
  ·unfold Format.nearest;simp;rfl
  ·rw[Nat.zero_mul];decide
 ·have e:=H5 false n a 0 b h O O;have g:=L8 n b h;have f:=(Nat.log2_eq_iff (k:=n.log2) b).1 rfl;refine⟨_,52-n.log2,e,?_⟩;rw[A1q]
  ·congr 1;omega
  ·calc 2^52=2^n.log2*2^(52-n.log2):=by rw[←Nat.pow_add,show n.log2+(52-n.log2)=52 by omega]
    _≤_:=Nat.mul_le_mul_right _ f.1
  ·calc n*2^(52-n.log2)<2^(n.log2+1)*2^(52-n.log2):=Nat.mul_lt_mul_of_pos_right f.2 (Nat.two_pow_pos _)
    _=2^53:=by rw[←Nat.pow_add,show n.log2+1+(52-n.log2)=53 by omega]
  ·omega
theorem A3Q {c n d:Nat}(k:n<2^53)(h:double.read c=.number false (n*2^d) (0-(d:Int))):floatToIntVal .f64 c .i64=some (n:Int):=by
 have f:(FloatKind.f64.decode c).toInt .zero=some (n:Int):=by
  show(double.read c).toInt .zero=_;rw[h];unfold Datum.toInt Datum.integral;simp only;have e1:((0:Int)-d).toNat=0:=O;have a:(-((0:Int)-d)).toNat=d:=O;rw[e1,a,Nat.shiftLeft_zero];have g:Toward.zero.cut false (n*2^d) d=n:=by
   by_cases b:n=0
   ·subst b;unfold Toward.cut;simp
   ·have h1:(n*2^d).log2=n.log2+d:=M3 n d b;have i:min d ((n*2^d).log2+2)=d:=by rw[h1];omega
    unfold Toward.cut;simp only[i,Nat.one_shiftLeft,Nat.mul_div_cancel _ (Nat.two_pow_pos d)];rfl
  rw[g];unfold signed;simp
 unfold floatToIntVal;rw[f];simp only;have j:IntKind.i64.min≤(n:Int)∧(n:Int)≤IntKind.i64.max:=by
  have e1:IntKind.i64.min=-9223372036854775808:=Z;have a:IntKind.i64.max=9223372036854775807:=Z;rw[e1,a];omega
 rw[if_pos j]
theorem Rg.part (h:Rg b M q)(n:Nat)(a:n<2^53)(he:M*2^q=n*2^1022)(k:q≤1022):∃c,floatBits .mul .f64 b 4841369599423283200=some c∧floatToIntVal .f64 c .i64=some (n:Int):=by
 have f:M=n*2^(1022-q):=by
  have g:M*2^q=n*2^(1022-q)*2^q:=by rw[he,Nat.mul_assoc,←Nat.pow_add,show 1022-q+q=1022 by omega]
  exact Nat.eq_of_mul_eq_mul_right (Nat.two_pow_pos q) g
 obtain⟨c,d,i,j⟩:=Z8 n (1022-q+52) a;refine⟨c,?_,A3Q a j⟩;show((double.read b).product (double.read _)).map double.write=_;rw[h.read,A2T];show some (double.nearest false (M*2^52) (-1074+(q:Int)+0))=_;refine congrArg some (Eq.trans ?_ i);rw[f,Nat.mul_assoc,←Nat.pow_add,show -1074+(q:Int)+0=0-((1022-q+52:Nat):Int) by omega]
theorem Rg.less1 (h:Rg b M 1022)(r:2^52≤M):∃c d,floatBits .sub .f64 b 4607182418800017408=some c∧floatBits .mul .f64 c 4841369599423283200=some d∧floatToIntVal .f64 d .i64=some ((M-2^52:Nat):Int):=by
 have s:=h.hi;obtain⟨m,hm⟩:∃m,M=2^52+m:=⟨M-2^52,O⟩;subst hm;rw[show 2^52+m-2^52=m by omega];have i:floatBits .sub .f64 b 4607182418800017408=some (double.nearest false m (-52)):=by
  show((double.read b).sum (double.read _).opposite).map double.write=_;rw[h.read,A6c];show some (double.nearest _ _ _)=_;have e0:min (-1074+((1022:Nat):Int)) (-52)=-52:=O;have j:signed false (2^52+m) (-1074+((1022:Nat):Int) - -52).toNat+signed (!false) (2^52) (-52 - -52:Int).toNat=(m:Int):=by
   have e1:(-1074+((1022:Nat):Int) - -52).toNat=0:=O;have l:(-52 - -52:Int).toNat=0:=O;rw[e1,l];unfold signed;simp only[Bool.not_false,if_true,Bool.false_eq_true,if_false,Nat.shiftLeft_zero];omega
  rw[e0,j];refine congrArg some ?_;by_cases f:m=0
  ·subst f;rfl
  ·rw[if_neg O,Int.natAbs_natCast,decide_eq_false O]
 have n:∃a:Nat,double.read (double.nearest false m (-52))=.number false (m*2^a) (-52-a):=by
  by_cases f:m=0
  ·subst f;refine⟨1022,?_⟩;have:double.nearest false 0 (-52)=0:=Z;rw[this,Nat.zero_mul];decide
  ·have e:=H5 false m 0 (-52) f O O O;simp only[Nat.pow_zero,Nat.mul_one,Int.natCast_zero,Int.sub_zero]at e;have t:=L8 m f O;have g:=(Nat.log2_eq_iff (k:=m.log2) f).1 rfl;refine⟨52-m.log2,?_⟩;rw[e,A1q]
   ·congr 1;omega
   ·calc 2^52=2^m.log2*2^(52-m.log2):=by rw[←Nat.pow_add,show m.log2+(52-m.log2)=52 by omega]
     _≤_:=Nat.mul_le_mul_right _ g.1
   ·calc m*2^(52-m.log2)<2^(m.log2+1)*2^(52-m.log2):=Nat.mul_lt_mul_of_pos_right g.2 (Nat.two_pow_pos _)
     _=2^53:=by rw[←Nat.pow_add,show m.log2+1+(52-m.log2)=53 by omega]
   ·omega
 obtain⟨a,o⟩:=n;obtain⟨c,d,p,q⟩:=Z8 m (a+52) O;refine⟨_,c,i,?_,A3Q O q⟩;show((double.read _).product (double.read _)).map double.write=_;rw[o,A2T];show some (double.nearest false (m*2^a*2^52) (-52-(a:Int)+0))=_;refine congrArg some (Eq.trans ?_ p);rw[Nat.mul_assoc,←Nat.pow_add,show -52-(a:Int)+0=0-((a+52:Nat):Int) by omega]
end
end
end Mn
end Go.Proofs.YtilcmkiihefkkaaGreatDoor
