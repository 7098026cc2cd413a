import Derived.Laws.EntriesVeiled
import Derived.Test.YtilcmkiihefkkaaGreatDoorJf13
set_option linter.unusedVariables false
set_option linter.unusedSimpArgs false
set_option maxRecDepth 1000000
set_option maxHeartbeats 64000000
open Go.Value renaming int→I
open Go.IntKind renaming i64→J
namespace Go.Proofs.YtilcmkiihefkkaaGreatDoor
namespace Mn
section
open Go.RowKit
structure B0c where
 run:Nat
 code:Nat
 turned:Nat
 next:Int
 prun:Int
 L:List W3
 M:List W3
def M5 (k W:Nat)(st:B0c)(place:Nat)(m:Nat):B0c:=
 if m=4 then {st with run:=0} else
 if k≤st.run+1 then
  {run:=st.run+1,code:=(4*st.code+m)%4^k,turned:=st.turned/4+(3-m)*4^(k-1),next:=((place+1-k:Nat):Int)+1,
   prun:=E1 st.next st.prun (place+1-k:Nat),
   L:=J0 W st.next (place+1-k:Nat) st.L (E2 k (place+1-k) ((4*st.code+m)%4^k) (st.turned/4+(3-m)*4^(k-1))),
   M:=F5 W (E1 st.next st.prun (place+1-k:Nat)) (J0 W st.next (place+1-k:Nat) st.L (E2 k (place+1-k) ((4*st.code+m)%4^k) (st.turned/4+(3-m)*4^(k-1)))) st.M}
 else {st with run:=st.run+1,code:=(4*st.code+m)%4^k,turned:=st.turned/4+(3-m)*4^(k-1)}
def D2 (k W:Nat)(l:List UInt8):Nat→B0c
 |0=>⟨0,0,0,0,0,[],[]⟩
 |i+1=>M5 k W (D2 k W l i) i (B2 (l.getD i 0)).toNat
theorem A1t (W next place:Int)(L:List W3)(x:Option W3):(J0 W next place L x).length≤L.length+1:=by
 have:=Z1 W next place L
 cases x with
 |none=>simp only[J0];omega
 |some x=>
  simp only[J0,List.length_append,List.length_cons,List.length_nil];have:=A4w (mvL W next place L) x.h;omega
theorem A30 (M:List W3)(x:W3):(O4 M x).length≤M.length+1:=by
 unfold O4;split
 ·simp
 ·split<;>simp
theorem A1p (W r:Int)(a M:List W3):(F5 W r a M).length≤M.length+1:=by
 unfold F5;split
 ·split
  ·omega
  ·exact A30 _ _
 ·omega
structure ScB (k:Nat)(st:B0c)(i:Nat):Prop where
 run:st.run≤i
 code:st.code<4^k
 turned:st.turned<4^k
 prun0:0≤st.prun
 prun:st.prun≤i
 L:st.L.length≤i
 M:st.M.length≤i
theorem A4t (k W:Nat)(a:1≤k)(b:k≤12)(l:List UInt8)(f:∀i,i<l.length→0≤B2 (l.getD i 0)):∀i,i≤l.length→ScB k (D2 k W l i) i:=by
 intro i;have j:=E9 k a b;induction i with
 |zero=>intro _;exact⟨Nat.le_refl _,by show 0<_;omega,by show 0<_;omega,Int.le_refl _,Int.le_refl _,Nat.le_refl _,Nat.le_refl _⟩
 |succ i g=>
  intro hi;obtain⟨h1,h,c,d,n,o,p⟩:=g O;have q:=I4 (l.getD i 0);have r:=f i O;show ScB k (M5 k W (D2 k W l i) i (B2 (l.getD i 0)).toNat) (i+1);generalize D2 k W l i=st at *;generalize hm:(B2 (l.getD i 0)).toNat=m at *;have s:m<5:=O;unfold M5;split
  ·exact⟨Nat.zero_le _,h,c,d,by show st.prun≤_;omega,by show st.L.length≤_;omega,by show st.M.length≤_;omega⟩
  ·split
   ·refine⟨by show st.run+1≤_;omega,Nat.mod_lt _ O,P3 k st.turned m a b c O,?_,?_,?_,?_⟩
    ·show 0≤E1 _ _ _;unfold E1;split<;>omega
    ·show E1 _ _ _≤_;unfold E1;split<;>omega
    ·show(J0 _ _ _ _ _).length≤_;have:=A1t W st.next (i+1-k:Nat) st.L (E2 k (i+1-k) ((4*st.code+m)%4^k) (st.turned/4+(3-m)*4^(k-1)));omega
    ·show(F5 _ _ _ _).length≤_;have:=A1p W (E1 st.next st.prun (i+1-k:Nat)) (J0 W st.next (i+1-k:Nat) st.L (E2 k (i+1-k) ((4*st.code+m)%4^k) (st.turned/4+(3-m)*4^(k-1)))) st.M;omega
   ·exact⟨by show st.run+1≤_;omega,Nat.mod_lt _ O,P3 k st.turned m a b c O,d,by show st.prun≤_;omega,by show st.L.length≤_;omega,by show st.M.length≤_;omega⟩
structure WI (w0:World)(base S Bk:Nat)(k W:Nat)(l:List UInt8)(i:Nat)(w:World):Prop where
 scan:w.heap[S]?=some (Obj.cells #[I J k,I J (D2 k W l i).run,.int .u64 (D2 k W l i).code,.int .u64 (D2 k W l i).turned,.func (.func 115) #[.pointer (some ⟨Bk,0,none⟩)] #[]] 233 (0,0))
 pick:PI w base Bk k W (D2 k W l i).next (D2 k W l i).prun (D2 k W l i).L (D2 k W l i).M
 below:Below base w0 w
 bnd:ScB k (D2 k W l i) i
theorem B1E (l:World)(base S f k W:Nat)(s:ByteArray)(b:1≤k)(c:k≤12)(t:1≤W)(u:W≤20)(hs:s.size≤4398046510000)(n:base≤S)(y:base≤l.heap.size)
 (i:Nat)(hi:i<s.size)(w:World)(A:0≤B2 s[i])(h:WI l base S f k W s.data.toList i w) :
 Calls Tryz.prog 116 #[.pointer (some ⟨S,0,none⟩),I J i,I J (B2 s[i])] w fun e w'=>e=.returned (.tuple #[])∧WI l base S f k W s.data.toList (i+1) w':=by
 obtain⟨g,o,j,a⟩:=h;have B:=E9 k b c;have C:=I4 s[i];obtain⟨m,hm⟩:∃m:Nat,B2 s[i]=m:=⟨(B2 s[i]).toNat,O⟩;have z:s.data.toList.getD i 0=s[i]:=by
  rw[List.getD_eq_getElem?_getD,List.getElem?_eq_getElem (by simpa using hi),Array.getElem_toList];rfl
 have d:D2 k W s.data.toList (i+1)=M5 k W (D2 k W s.data.toList i) i m:=by
  show M5 k W (D2 k W s.data.toList i) i (B2 (s.data.toList.getD i 0)).toNat=_;rw[z,hm];rfl
 have v:base≤w.heap.size:=Nat.le_trans y j.size;have D:=a.run;have E:=a.prun;have F:=a.L;have G:=a.M;rw[hm];by_cases p:m=4
 ·subst p;refine(B0Q _ _ _ _ _ _ S w g).mono ?_;rintro e w' ⟨rfl,hu⟩;have e1:M5 k W (D2 k W s.data.toList i) i 4={D2 k W s.data.toList i with run:=0}:=by unfold M5;rw[if_pos rfl]
  refine⟨rfl,?_⟩;constructor
  ·rw[d,e1];exact hu.here
  ·rw[d,e1];exact o.scan g hu
  ·exact j.trans (hu.below n)
  ·rw[d,e1];exact⟨Nat.zero_le _,a.code,a.turned,a.prun0,by show(D2 k W s.data.toList i).prun≤_;omega,by show(D2 k W s.data.toList i).L.length≤_;omega,by show(D2 k W s.data.toList i).M.length≤_;omega⟩
 ·by_cases x:k≤(D2 k W s.data.toList i).run+1
  ·refine(B0E k W _ _ m i _ _ _ _ _ base S f w b c t u a.code a.turned O O O O O n v g o O O a.prun0 O O).mono ?_;rintro e w' ⟨rfl,h1,q,r⟩;refine⟨rfl,?_⟩;have e1:=d;unfold M5 at e1;rw[if_neg p,if_pos x]at e1;constructor
   ·rw[e1];exact h1
   ·rw[e1];exact q
   ·exact j.trans r
   ·rw[e1];refine⟨by show(D2 k W s.data.toList i).run+1≤_;omega,Nat.mod_lt _ O,P3 k _ m b c a.turned O,?_,?_,?_,?_⟩
    ·show 0≤E1 _ _ _;have:=a.prun0;unfold E1;split<;>omega
    ·show E1 _ _ _≤_;unfold E1;split<;>omega
    ·refine Nat.le_trans (A1t _ _ _ _ _) ?_;omega
    ·refine Nat.le_trans (A1p _ _ _ _) ?_;omega
  ·refine(A9A k W _ _ m i _ _ _ _ _ base S f w b c t u a.code a.turned O O O O O n v g o O O a.prun0 O O).mono ?_;rintro e w' ⟨rfl,h1,q,r⟩;refine⟨rfl,?_⟩;have e1:=d;unfold M5 at e1;rw[if_neg p,if_neg x]at e1;constructor
   ·rw[e1];exact h1
   ·rw[e1];exact q
   ·exact j.trans r
   ·rw[e1];exact⟨by show(D2 k W s.data.toList i).run+1≤_;omega,Nat.mod_lt _ O,P3 k _ m b c a.turned O,a.prun0,by show(D2 k W s.data.toList i).prun≤_;omega,by show(D2 k W s.data.toList i).L.length≤_;omega,by show(D2 k W s.data.toList i).M.length≤_;omega⟩
theorem B1h (args:Array Value)(w:World):(callFunc 116 args).run Tryz.prog w=.ok (.enter 116 args) w:=by
 obtain⟨c,a⟩:∃c,Tryz.f116.body=some c:=⟨_,rfl⟩;exact O3 Tryz.func116 U a args w
theorem A73 (s:ByteArray)(k W:Nat)(w:World)(hs:s.size≤4398046510000)(f:1≤k)(l:k≤12)(r:1≤W)(t:W≤20) :
 Calls Tryz.prog 86 #[.string s,I J k,I J W] w fun e w'=>
  ((good s∧∃pv,e=.returned (.tuple #[pv,I J 0])∧A3 w' w.heap.size 114 3 pv (D2 k W s.data.toList s.size).M.length (A6 (D2 k W s.data.toList s.size).M))∨(¬good s∧e=.returned (.tuple #[.slice none 0 0,I J 2])))∧Below w.heap.size w w':=by
 have m:D2 k W s.data.toList 0=⟨0,0,0,0,0,[],[]⟩:=rfl;have a:=E9 k f l;have u:=A4 a.2.1;clear a;have b:=A4 m;clear m;go_enter Tryz.func86,Tryz.ntmps86;go_wp2_with fail;refine(L1 116 B1h _ s _ O (WI w w.heap.size (w.heap.size+1) w.heap.size k W s.data.toList) (fun i hi wr v h=>B1E w _ _ _ k W s f l r t hs O (Nat.le_refl _) i hi wr v h) ?_).mono ?_
 ·refine⟨?_,?_,?_,?_⟩
  ·rw[b.o];exact heap_alloc2_new w _ _
  ·rw[b.o];exact⟨Nat.le_refl _,.slice none 0 0,.slice none 0 0,heap_alloc2_old w _ _,A3.nil _ _ _ _,A3.nil _ _ _ _,fun g x=>by simp[Value.ownBlock]at x⟩
  ·exact((Below.refl _ w).alloc (Nat.le_refl _) _).alloc Zs _
  ·rw[b.o];have:=u.o;exact⟨Nat.le_refl _,by show 0<_;omega,by show 0<_;omega,Int.le_refl _,Int.le_refl _,Nat.le_refl _,Nat.le_refl _⟩
 ·rintro e w' ⟨i,hi,y,c,z⟩;obtain⟨A,⟨G,ov,pv,n,ho,a,B⟩,p,C⟩:=y;have c5:w'.cell? ⟨w.heap.size,5,none⟩=some pv:=A1 n rfl;clear A n ho B C;rcases z with⟨rfl,rfl⟩|⟨D,E,rfl⟩
  ·have d:Hd (good s):=fun j q=>c j q q;have F:=A4 a;clear c a;go_wp2;go_ret2;exact⟨Or.inl ⟨d.o,pv,rfl,F.o⟩,p⟩
  ·have d:Hd (¬good s):=fun h=>absurd (h i D) O;clear c a E;go_wp2;go_ret2;exact⟨Or.inr ⟨d.o,rfl⟩,p⟩
theorem A8t (c n:Int)(w:World)(f:-9223372036854775808≤c∧c≤9223372036854775807)(b:0<n)(g:n≤100000) :
 Calls Tryz.prog 17 #[I J c,I J n] w fun e w'=>∃r:Nat,e=.returned (I J r)∧(r:Int)<n∧w'=w:=by
 have i:(n==0)=false:=by rw[beq_eq_false_iff_ne];omega
 by_cases h:c<0
 ·have e1:-((c+1).tmod n)=(-(c+1))%n:=by
   rw[←Int.neg_tmod,Int.tmod_eq_emod_of_nonneg O]
  have h1:=Int.emod_nonneg (-(c+1)) (show n≠0 by omega);have a:=Int.emod_lt_of_pos (-(c+1)) b;have d:=A4 e1;have H1:Hd (0≤(-(c+1))%n∧(-(c+1))%n<n):=⟨h1,a⟩;clear e1 h1 a;go_enter Tryz.func17,Tryz.ntmps17;go_wp2;go_ret;refine⟨((-(c+1))%n).toNat,L3 (d.o.trans ?_),?_,rfl⟩<;>have:=H1.o<;>omega
 ·have h1:=Int.emod_nonneg c (show n≠0 by omega);have a:=Int.emod_lt_of_pos c b;have H1:Hd (0≤c%n∧c%n<n):=⟨h1,a⟩;clear h1 a;go_enter Tryz.func17,Tryz.ntmps17;go_wp2;go_ret;refine⟨(c%n).toNat,L3 ?_,?_,rfl⟩<;>have:=H1.o<;>omega
theorem eqs (c:UInt8)(n:Nat)(a:n<256):(((c.toNat:Int)==(n:Int))=true↔c=UInt8.ofNat n):=by
 rw[beq_iff_eq];constructor
 ·intro h;apply UInt8.toNat_inj.1;rw[UInt8.toNat_ofNat'];omega
 ·intro h;subst h;rw[UInt8.toNat_ofNat'];omega
end
def nums (l:List UInt8):List Nat:=l.map fun c=>(B2 c).toNat
def D5 (a:List Nat):Nat:=a.foldl (fun c m=>4*c+m) 0
def I3 (a:List Nat):Nat:=D5 ((a.map (3 - ·)).reverse)
theorem A2z (a:List Nat)(m:Nat):D5 (a++[m])=4*D5 a+m:=by simp[D5]
theorem A6q (a:List Nat):∀c,a.foldl (fun c m=>4*c+m) c=c*4^a.length+D5 a:=by
 induction a with
 |nil=>intro c;simp[D5]
 |cons m a b=>
  intro c;have h1:=b (4*c+m);have d:=b (4*0+m);simp only[List.foldl_cons,List.length_cons,D5]at *;rw[h1,d,Nat.pow_succ,Nat.add_mul,Nat.mul_zero,Nat.zero_add,show 4*c*4^a.length=c*(4^a.length*4) by rw[Nat.mul_comm 4 c,Nat.mul_assoc,Nat.mul_comm 4]];omega
theorem A0a (m:Nat)(a:List Nat):D5 (m::a)=m*4^a.length+D5 a:=by
 have:=A6q a (4*0+m);simpa[D5] using this
theorem A5k (a:List Nat)(m:Nat):I3 (a++[m])=(3-m)*4^a.length+I3 a:=by
 unfold I3;rw[List.map_append,List.reverse_append];simp only[List.map_cons,List.map_nil,List.reverse_cons,List.reverse_nil,List.nil_append,List.singleton_append];rw[A0a];simp
theorem U6 (a:List Nat):(∀m∈a,m<4)→D5 a<4^a.length:=by
 induction a with
 |nil=>intro _;simp[D5]
 |cons m a b=>
  intro h;have h1:=b (fun x c=>h x (List.mem_cons_of_mem _ c));have d:=h m (List.mem_cons_self ..);rw[A0a,List.length_cons,Nat.pow_succ];have:m*4^a.length≤3*4^a.length:=Nat.mul_le_mul_right _ O;omega
theorem A8F (a:List Nat):I3 a<4^a.length:=by
 unfold I3;have:=U6 ((a.map (3 - ·)).reverse) (by
  intro m hm;simp at hm;obtain⟨x,_,rfl⟩:=hm;omega)
 simpa using this
def M4 (a:List Nat)(p k:Nat):List Nat:=(a.drop p).take k
theorem A0f (a:List Nat)(p k:Nat)(h:p+k≤a.length):(M4 a p k).length=k:=by
 unfold M4;rw[List.length_take,List.length_drop];omega
theorem A1M (a:List Nat)(p k:Nat)(h:p+k<a.length):M4 a p (k+1)=M4 a p k++[a[p+k]]:=by
 unfold M4;rw[List.take_succ_eq_append_getElem (by rw[List.length_drop];omega),List.getElem_drop]
def isW (a:List Nat)(k p:Nat):Bool:=decide (p+k≤a.length)&&(M4 a p k).all (fun m=>decide (m<4))
def A01 (a:List Nat):Nat→Nat
 |0=>0
 |i+1=>if a.getD i 0=4 then 0 else A01 a i+1
theorem A1H (a:List Nat):∀i,A01 a i≤i
 |0=>Nat.le_refl _
 |i+1=>by
  have:=A1H a i
  unfold A01
  split<;>omega
theorem A8N (a:List Nat)(d:∀m∈a,m<5):∀(i:Nat),i≤a.length→∀r,r≤A01 a i↔(r≤i∧∀m∈M4 a (i-r) r,m<4):=by
 intro i;induction i with
 |zero=>
  intro _ r;constructor
  ·intro h;have:r=0:=by simpa[A01] using h
   subst this;exact⟨Nat.le_refl _,by simp[M4]⟩
  ·intro h;exact h.1
 |succ i f=>
  intro hi r;cases r with
  |zero=>simp[M4]
  |succ r=>
   have g:a.getD i 0=a[i]:=by rw[List.getD_eq_getElem?_getD,List.getElem?_eq_getElem O];rfl
   have j:=d a[i] (List.getElem_mem _);unfold A01;rw[g];by_cases c:a[i]=4
   ·rw[if_pos c];constructor
    ·intro h;omega
    ·intro ⟨h1,b⟩;exfalso;have:=b a[i] (by
      rw[show i+1-(r+1)=i-r by omega,A1M a (i-r) r O];have e:i-r+r=i:=O;simp[e])
     omega
   ·rw[if_neg c,Nat.add_le_add_iff_right,f O r];constructor
    ·intro ⟨h1,b⟩;refine⟨O,?_⟩;intro m hm;rw[show i+1-(r+1)=i-r by omega,A1M a (i-r) r O,List.mem_append]at hm;rcases hm with hm|hm
     ·exact b m hm
     ·have e:i-r+r=i:=O;simp[e]at hm;omega
    ·intro ⟨h1,b⟩;refine⟨O,?_⟩;intro m hm;refine b m ?_;rw[show i+1-(r+1)=i-r by omega,A1M a (i-r) r O];exact List.mem_append_left _ hm
theorem A4h (a:List Nat)(b:∀m∈a,m<5)(k i:Nat)(hi:i≤a.length)(hk:k≤i):isW a k (i-k)=true↔k≤A01 a i:=by
 rw[A8N a b i hi k];unfold isW;rw[Bool.and_eq_true,decide_eq_true_iff,List.all_eq_true];constructor
 ·intro ⟨_,h⟩;exact⟨hk,fun m hm=>by simpa using h m hm⟩
 ·intro ⟨_,h⟩;exact⟨O,fun m hm=>by simpa using h m hm⟩
def D4 (a:List Nat)(k p:Nat):Option W3:=if isW a k p=true then E2 k p (D5 (M4 a p k)) (I3 (M4 a p k)) else none
structure A40 where
 next:Int
 prun:Int
 L:List W3
 M:List W3
def A0g (k W:Nat)(a:List Nat)(st:A40)(p:Nat):A40:=
 if isW a k p=true then
  ⟨(p:Int)+1,E1 st.next st.prun p,J0 W st.next p st.L (D4 a k p),F5 W (E1 st.next st.prun p) (J0 W st.next p st.L (D4 a k p)) st.M⟩
 else st
def K8 (k W:Nat)(a:List Nat):Nat→A40
 |0=>⟨0,0,[],[]⟩
 |p+1=>A0g k W a (K8 k W a p) p
structure ScI (k:Nat)(a:List Nat)(st:B0c)(i:Nat):Prop where
 run:st.run=A01 a i
 code:∀r,r≤k→r≤st.run→st.code%4^r=D5 (M4 a (i-r) r)
 turned:∀r,r≤k→r≤st.run→st.turned/4^(k-r)=I3 (M4 a (i-r) r)
theorem A3T (l:List UInt8)(i:Nat)(h:i<l.length):(B2 (l.getD i 0)).toNat=(nums l).getD i 0:=by
 have a:i<(nums l).length:=by simpa[nums] using h
 rw[List.getD_eq_getElem?_getD,List.getD_eq_getElem?_getD,List.getElem?_eq_getElem h,List.getElem?_eq_getElem a];simp[nums]
theorem A8K (k r:Nat)(h:r≤k):(4:Nat)^k=4^(k-r)*4^r:=by
 rw[←Nat.pow_add];congr 1;omega
theorem A9c (k W:Nat)(f:1≤k)(g:k≤12)(l:List UInt8)(x:∀i,i<l.length→0≤B2 (l.getD i 0))(c:∀m∈nums l,m<5) :
 ∀i,i≤l.length→ScI k (nums l) (D2 k W l i) i∧(⟨(D2 k W l i).next,(D2 k W l i).prun,(D2 k W l i).L,(D2 k W l i).M⟩:A40)=K8 k W (nums l) (i+1-k):=by
 intro i;induction i with
 |zero=>
  intro _;refine⟨⟨rfl,?_,?_⟩,?_⟩
  ·intro r _ a;have:r=0:=by simpa[D2] using a
   subst this;simp[M4,D5,Nat.mod_one]
  ·intro r h a;have:r=0:=by simpa[D2] using a
   subst this;simp[M4,I3,D5,D2]
  ·rw[show 0+1-k=0 by omega];rfl
 |succ i y=>
  intro hi;obtain⟨⟨h1,z,u⟩,j⟩:=y O;have A:=A4t k W f g l x i O;have hlen:(nums l).length=l.length:=by simp[nums]
  have B:D2 k W l (i+1)=M5 k W (D2 k W l i) i ((nums l).getD i 0):=by
   show M5 k W (D2 k W l i) i (B2 (l.getD i 0)).toNat=_;rw[A3T l i O]
  have v:(nums l).getD i 0=(nums l)[i]'O:=by rw[List.getD_eq_getElem?_getD,List.getElem?_eq_getElem O];rfl
  have H:(nums l).getD i 0<5:=by rw[v];exact c _ (List.getElem_mem _)
  have n:A01 (nums l) (i+1)=if (nums l).getD i 0=4 then 0 else A01 (nums l) i+1:=rfl;generalize K:D2 k W l i=st at *;generalize hm:(nums l).getD i 0=m at *;rw[B];have N:=E9 k f g;by_cases b:m=4
  ·have e1:M5 k W st i m={st with run:=0}:=by unfold M5;rw[if_pos b]
   rw[e1];rw[if_pos b]at n;refine⟨⟨n.symm,?_,?_⟩,?_⟩
   ·intro r _ a;have:r=0:=by simpa using a
    subst this;simp[M4,D5,Nat.mod_one]
   ·intro r _ a;have:r=0:=by simpa using a
    subst this;have:=u 0 (Nat.zero_le _) (Nat.zero_le _);simpa[M4,I3,D5] using this
   ·show(⟨st.next,st.prun,st.L,st.M⟩:A40)=_;rw[j];by_cases C:i+1<k
    ·rw[show i+1+1-k=i+1-k by omega]
    ·rw[show i+1+1-k=(i+1-k)+1 by omega];have hw:¬isW (nums l) k (i+1-k)=true:=by
      rw[A4h (nums l) c k (i+1) O O];omega
     show _=A0g k W (nums l) (K8 k W (nums l) (i+1-k)) (i+1-k);unfold A0g;rw[if_neg hw]
  ·rw[if_neg b]at n;have D:m<4:=O;have w:∀r,r≤i→M4 (nums l) (i+1-(r+1)) (r+1)=M4 (nums l) (i-r) r++[m]:=by
    intro r a;rw[show i+1-(r+1)=i-r by omega,A1M (nums l) (i-r) r O];have e:i-r+r=i:=O;rw[v];simp[e]
   have o:∀r,r≤k→r≤st.run+1→((4*st.code+m)%4^k)%4^r=D5 (M4 (nums l) (i+1-r) r):=by
    intro r h E;cases r with
    |zero=>simp[M4,D5,Nat.mod_one]
    |succ r=>
     have p:r≤i:=by have:=A1H (nums l) i;omega
     rw[w r p,A2z,←z r O O,A8K k (r+1) h,Nat.mod_mul_left_mod,Nat.pow_succ];have q:0<4^r:=Nat.pow_pos O;have e1:st.code=4^r*(st.code/4^r)+st.code%4^r:=(Nat.div_add_mod _ _).symm;have P:st.code%4^r<4^r:=Nat.mod_lt _ q;have s:4*st.code+m=(4*(st.code%4^r)+m)+(4^r*4)*(st.code/4^r):=by
      rw[Nat.mul_comm (4^r) 4,Nat.mul_assoc 4];omega
     rw[s,Nat.add_mul_mod_self_left,Nat.mod_eq_of_lt O]
   have t:∀r,r≤k→r≤st.run+1→(st.turned/4+(3-m)*4^(k-1))/4^(k-r)=I3 (M4 (nums l) (i+1-r) r):=by
    intro r h E;cases r with
    |zero=>
     have:=P3 k st.turned m f g A.turned D;rw[Nat.sub_zero,Nat.div_eq_of_lt this];simp[M4,I3,D5]
    |succ r=>
     have p:r≤i:=by have:=A1H (nums l) i;omega
     rw[w r p,A5k,←u r O O,A0f (nums l) (i-r) r O];have e1:4^(k-1)=4^(k-(r+1))*4^r:=by rw[←Nat.pow_add];congr 1;omega
     have s:4^(k-r)=4*4^(k-(r+1)):=by rw[←Nat.pow_succ'];congr 1;omega
     have q:0<4^(k-(r+1)):=Nat.pow_pos O;rw[e1,s,←Nat.div_div_eq_div_mul,show(3-m)*(4^(k-(r+1))*4^r)=4^(k-(r+1))*((3-m)*4^r) by rw[Nat.mul_left_comm],Nat.add_mul_div_left _ _ q];omega
   by_cases d:k≤st.run+1
   ·unfold M5;rw[if_neg b,if_pos d];have F:(4*st.code+m)%4^k=D5 (M4 (nums l) (i+1-k) k):=by
     have:=o k (Nat.le_refl _) d;rwa [Nat.mod_mod]at this
    have ht:st.turned/4+(3-m)*4^(k-1)=I3 (M4 (nums l) (i+1-k) k):=by
     have:=t k (Nat.le_refl _) d;rwa [Nat.sub_self,Nat.pow_zero,Nat.div_one]at this
    have G:k≤i+1:=by have:=A1H (nums l) i;omega
    have hw:isW (nums l) k (i+1-k)=true:=by
     rw[A4h (nums l) c k (i+1) O G];omega
    refine⟨⟨by show st.run+1=_;omega,o,t⟩,?_⟩;rw[show i+1+1-k=(i+1-k)+1 by omega];show _=A0g k W (nums l) (K8 k W (nums l) (i+1-k)) (i+1-k);rw[←j];unfold A0g;rw[if_pos hw];unfold D4;rw[if_pos hw,←F,←ht]
   ·unfold M5;rw[if_neg b,if_neg d];refine⟨⟨by show st.run+1=_;omega,o,t⟩,?_⟩;show(⟨st.next,st.prun,st.L,st.M⟩:A40)=_;rw[j];by_cases C:i+1<k
    ·rw[show i+1+1-k=i+1-k by omega]
    ·rw[show i+1+1-k=(i+1-k)+1 by omega];have hw:¬isW (nums l) k (i+1-k)=true:=by
      rw[A4h (nums l) c k (i+1) O O];omega
     show _=A0g k W (nums l) (K8 k W (nums l) (i+1-k)) (i+1-k);unfold A0g;rw[if_neg hw]
theorem D9 {a:List Nat}{k p:Nat}{x:W3}(h:D4 a k p=some x):x.p=p:=by
 unfold D4 at h;split at h
 ·unfold E2 at h;split at h
  ·exact absurd h Zs
  ·simp only[Option.some.injEq]at h;rw[←h];rfl
 ·exact absurd h Zs
theorem G0 {a:List Nat}{k p:Nat}{x:W3}(h:D4 a k p=some x):isW a k p=true:=by
 unfold D4 at h;split at h
 ·assumption
 ·exact absurd h Zs
def B0h (a:List Nat)(k:Nat):List W3:=(List.range (a.length+1-k)).filterMap (D4 a k)
theorem A96 (l:List UInt8):∀m∈nums l,m<5:=by
 intro m hm;simp[nums]at hm;obtain⟨c,_,rfl⟩:=hm;have:=I4 c;omega
def comp (m:Nat):Nat:=if m=4 then 4 else 3-m
theorem A3b (m:Nat)(h:m<5):(B2 (pbyte m)).toNat=comp m∧0≤B2 (pbyte m):=by
 rcases (show m=0∨m=1∨m=2∨m=3∨m=4 by omega) with rfl|rfl|rfl|rfl|rfl<;>decide
theorem A1b (l:List UInt8):nums (F9 l)=((nums l).map comp).reverse:=by
 unfold nums F9;rw[List.map_reverse,List.map_map,List.map_map];congr 1;apply List.map_congr_left;intro c _;simp only[Function.comp];have:=I4 c;exact(A3b _ O).1
theorem A52 (a:List Nat)(p k:Nat)(h:p+k≤a.length):M4 a.reverse p k=(M4 a (a.length-k-p) k).reverse:=by
 unfold M4;apply List.ext_getElem
 ·simp;omega
 ·intro i h1 b;simp only[List.length_take,List.length_drop,List.length_reverse]at h1 b;rw[List.getElem_take,List.getElem_drop,List.getElem_reverse,List.getElem_reverse,List.getElem_take,List.getElem_drop];congr 1;simp only[List.length_take,List.length_drop];omega
theorem B1m (f:Nat→Nat)(a:List Nat)(p k:Nat):M4 (a.map f) p k=(M4 a p k).map f:=by
 unfold M4;rw[←List.map_drop,←List.map_take]
section
open Go.RowKit
theorem A0I {s:ByteArray}(h:good s):∀c∈s.data.toList,0≤B2 c:=by
 intro c a;obtain⟨i,hi,rfl⟩:=List.mem_iff_getElem.1 a;exact h i (by simpa using hi)
theorem Y4 {l:List UInt8}(h:∀c∈l,0≤B2 c):good ⟨l.toArray⟩:=by
 intro j b;have a:j<l.length:=by
  have:(⟨l.toArray⟩:ByteArray).size=l.length:=by show l.toArray.size=_;simp
  omega
 exact h _ (List.getElem_mem a)
theorem A3d {l:List UInt8}:∀c∈F9 l,0≤B2 c:=by
 intro c a;simp only[F9,List.mem_reverse,List.mem_map]at a;obtain⟨b,_,rfl⟩:=a;have:=I4 b;exact(A3b _ O).2
theorem A7x (l:List UInt8):(⟨l.toArray⟩:ByteArray).size=l.length:=by show l.toArray.size=_;simp
theorem mk_data (s:ByteArray):(⟨s.data.toList.toArray⟩:ByteArray)=s:=by
 apply ByteArray.ext;simp
end
def A3y (a:List Nat)(k W e:Nat):Prop:=W≤e+1∧∀j,e+1-W≤j→j≤e→isW a k j=true
def G8 (a:List Nat)(k W e:Nat)(x:W3):Prop:=
 A3y a k W e∧∃i:Nat,e+1-W≤i∧i≤e∧D4 a k i=some x∧
  (∀j y,e+1-W≤j→j≤e→D4 a k j=some y→x.h≤y.h)∧(∀j y,e+1-W≤j→j<i→D4 a k j=some y→x.h<y.h)
theorem G8.mono {a:List Nat}{k W e q:Nat}{x y:W3}(h1:G8 a k W e y)(d:G8 a k W q x)(he:e≤q):y.p≤x.p:=by
 obtain⟨_,i,h,l,b,m,f⟩:=h1;obtain⟨_,j,n,o,c,g,r⟩:=d;have hyp:=D9 b;have s:=D9 c;by_cases t:i≤j
 ·omega
 ·exfalso;have u:=f j x O O c;have a2:=g i y O O b;omega
def Z7 (lim:Int):List W3→List W3
 |[]=>[]
 |x::t=>if x.p≤lim then t else x::t
theorem A6I {lim:Int}{x:W3}(t:List W3)(h:x.p≤lim):Z7 lim (x::t)=t:=by simp[Z7,h]
theorem A2H {lim:Int}{x:W3}(t:List W3)(h:¬x.p≤lim):Z7 lim (x::t)=x::t:=by simp[Z7];omega
theorem B0n (W next place:Int)(L:List W3):mvL W next place L=if place=next then Z7 (place-W) L else []:=by
 unfold mvL;cases L<;>rfl
def A81 (M:List W3):List W3→List W3
 |[]=>M
 |x::_=>O4 M x
theorem A84 (W r:Int)(a M:List W3):F5 W r a M=if W≤r then A81 M a else M:=by
 unfold F5;cases a<;>rfl
structure QI (a:List Nat)(k lo hi:Nat)(L:List W3):Prop where
 mem:∀x∈L,∃i:Nat,D4 a k i=some x∧lo≤i∧i<hi
 inc:L.Pairwise (fun x y=>x.p<y.p)
 asc:L.Pairwise (fun x y=>x.h≤y.h)
 all:∀i y,lo≤i→i<hi→D4 a k i=some y→y∈L∨∃x∈L,(i:Int)<x.p∧x.h<y.h
theorem A6e (L:List W3)(h:Int)(hs:L.Pairwise (fun x y=>x.h≤y.h)):∃D,L=O8 L h++D∧(∀y∈D,h<y.h)∧(∀y∈O8 L h,y.h≤h):=by
 induction hr:L.length generalizing L with
 |zero=>
  obtain rfl:L=[]:=List.eq_nil_of_length_eq_zero hr;exact⟨[],rfl,Zs,by simp[O8]⟩
 |succ n d=>
  rcases List.eq_nil_or_concat L with rfl|⟨b,y,rfl⟩
  ·simp at hr
  ·rw[List.concat_eq_append]at hs hr⊢;rw[List.pairwise_append]at hs;by_cases c:h<y.h
   ·obtain⟨D,h1,f,g⟩:=d b hs.1 (by simpa using hr);rw[W4 b y h c];refine⟨D++[y],by rw[←List.append_assoc,←h1],?_,g⟩;intro z a;rw[List.mem_append]at a;rcases a with a|a
    ·exact f z a
    ·simp at a;subst a;exact c
   ·rw[W5 b y h c];refine⟨[],Zs,Zs,?_⟩;intro z a;rw[List.mem_append]at a;rcases a with a|a
    ·have:=hs.2.2 z a y Zs;omega
    ·simp at a;subst a;omega
theorem QI.add {a:List Nat}{k lo q:Nat}{L:List W3}(h:QI a k lo q L)(n:lo≤q):QI a k lo (q+1) (match D4 a k q with|none=>L|some x=>O8 L x.h++[x]):=by
 cases j:D4 a k q with
 |none=>
  refine⟨fun x o=>?_,h.inc,h.asc,?_⟩
  ·obtain⟨i,h1,f,d⟩:=h.mem x o;exact⟨i,h1,f,O⟩
  ·intro i y h1 f d;by_cases hi:i=q
   ·subst hi;rw[j]at d;exact absurd d Zs
   ·exact h.all i y h1 O d
 |some x=>
  obtain⟨D,g,l,r⟩:=A6e L x.h h.asc;have A:=D9 j;have m:∀y∈O8 L x.h,y∈L:=fun y b=>by rw[g];exact List.mem_append_left _ b
  have s:(O8 L x.h).Pairwise (fun x y=>x.p<y.p):=by
   have:=h.inc;rw[g,List.pairwise_append]at this;exact this.1
  have t:(O8 L x.h).Pairwise (fun x y=>x.h≤y.h):=by
   have:=h.asc;rw[g,List.pairwise_append]at this;exact this.1
  have u:∀y∈L,y.p<q:=fun y b=>by
   obtain⟨i,h1,f,d⟩:=h.mem y b;have:=D9 h1;omega
  refine⟨?_,?_,?_,?_⟩
  ·intro y b;rw[List.mem_append]at b;rcases b with b|b
   ·obtain⟨i,h1,f,d⟩:=h.mem y (m y b);exact⟨i,h1,f,O⟩
   ·simp at b;subst b;exact⟨q,j,n,O⟩
  ·rw[List.pairwise_append];refine⟨s,Zs,fun y b z c=>?_⟩;simp at c;subst c;have:=u y (m y b);omega
  ·rw[List.pairwise_append];refine⟨t,Zs,fun y b z c=>?_⟩;simp at c;subst c;exact r y b
  ·intro i y h1 f d;by_cases hi:i=q
   ·subst hi;rw[j]at d;simp only[Option.some.injEq]at d;subst d;exact Or.inl Zs
   ·rcases h.all i y h1 O d with b|⟨z,c,v,w⟩
    ·rw[g,List.mem_append]at b;rcases b with b|b
     ·exact Or.inl (List.mem_append_left _ b)
     ·exact Or.inr ⟨x,Zs,O,l y b⟩
    ·rw[g,List.mem_append]at c;rcases c with c|c
     ·exact Or.inr ⟨z,List.mem_append_left _ c,v,w⟩
     ·exact Or.inr ⟨x,Zs,O,by have:=l z c;omega⟩
theorem QI.drop {a:List Nat}{k lo q W:Nat}{L:List W3}(h:QI a k lo q L)(s:lo+W=q):QI a k (lo+1) q (Z7 ((q:Int)-W) L):=by
 cases L with
 |nil=>
  show QI a k (lo+1) q [];refine⟨Zs,Zs,Zs,?_⟩;intro i y h1 d c;exact h.all i y O d c
 |cons x t=>
  have m:=h.mem x Zs;obtain⟨ix,n,u,v⟩:=m;have w:=D9 n;have f:=h.inc;have j:=h.asc;rw[List.pairwise_cons]at f j;by_cases l:x.p≤(q:Int)-W
  ·have e:Z7 ((q:Int)-W) (x::t)=t:=A6I t l;rw[e];have A:ix=lo:=O;refine⟨?_,f.2,j.2,?_⟩
   ·intro y b;obtain⟨i,h1,d,c⟩:=h.mem y (List.mem_cons_of_mem _ b);have:=f.1 y b;have:=D9 h1;exact⟨i,h1,O,c⟩
   ·intro i y h1 d c;have hyp:=D9 c;rcases h.all i y O d c with b|⟨z,g,o,r⟩
    ·rw[List.mem_cons]at b;rcases b with rfl|b
     ·omega
     ·exact Or.inl b
    ·rw[List.mem_cons]at g;rcases g with rfl|g
     ·omega
     ·exact Or.inr ⟨z,g,o,r⟩
  ·have e:Z7 ((q:Int)-W) (x::t)=x::t:=A2H t l;rw[e];refine⟨?_,h.inc,h.asc,?_⟩
   ·intro y b;obtain⟨i,h1,d,c⟩:=h.mem y b;have hyp:=D9 h1;have:x.p≤y.p:=by
     rw[List.mem_cons]at b;rcases b with rfl|b
     ·omega
     ·have:=f.1 y b;omega
    exact⟨i,h1,O,c⟩
   ·intro i y h1 d c;exact h.all i y O d c
theorem QI.head {a:List Nat}{k W e:Nat}{x:W3}{t:List W3}(q:W≤e+1)(h:QI a k (e+1-W) (e+1) (x::t))(hw:A3y a k W e):G8 a k W e x:=by
 obtain⟨i,h1,n,r⟩:=h.mem x Zs;have l:=h.inc;have d:=h.asc;rw[List.pairwise_cons]at l d;have s:=D9 h1;refine⟨hw,i,n,O,h1,?_,?_⟩
 ·intro j y g o f;rcases h.all j y g O f with b|⟨z,c,p,m⟩
  ·rw[List.mem_cons]at b;rcases b with rfl|b
   ·exact Int.le_refl _
   ·exact d.1 y b
  ·rw[List.mem_cons]at c;rcases c with rfl|c
   ·omega
   ·have:=d.1 z c;omega
 ·intro j y g o f;have hyp:=D9 f;rcases h.all j y g O f with b|⟨z,c,p,m⟩
  ·rw[List.mem_cons]at b;rcases b with rfl|b
   ·omega
   ·have:=l.1 y b;omega
  ·rw[List.mem_cons]at c;rcases c with rfl|c
   ·exact m
   ·have:=d.1 z c;omega
theorem QI.none {a:List Nat}{k W e:Nat}(h:QI a k (e+1-W) (e+1) []):∀x,¬G8 a k W e x:=by
 intro x ⟨_,i,h1,f,b,_⟩;rcases h.all i x h1 O b with c|⟨z,d,_⟩
 ·simp at c
 ·simp at d
structure PkI (a:List Nat)(k W q:Nat)(st:A40):Prop where
 ex:∃nx r:Nat,st.next=nx∧st.prun=r∧nx≤q∧r≤nx∧(∀j,nx≤j→j<q→isW a k j=false)∧(∀j,nx-r≤j→j<nx→isW a k j=true)∧
  (nx-r=0∨isW a k (nx-r-1)=false)∧QI a k (nx-min W r) nx st.L
 inc:st.M.Pairwise (fun x y=>x.p<y.p)
 mem:∀x∈st.M,∃e,e<q∧G8 a k W e x
 all:∀e x,e<q→G8 a k W e x→x∈st.M
theorem A6P {a:List Nat}{k W e:Nat}{x:W3}(b:1≤W)(h:G8 a k W e x):isW a k e=true:=h.1.2 e O (Nat.le_refl _)
theorem A3I {a:List Nat}{k W e c:Nat}{x y:W3}(h1:G8 a k W e x)(d:G8 a k W c y)(f:x.p=y.p):x=y:=by
 obtain⟨_,i,_,_,hi,_⟩:=h1;obtain⟨_,j,_,_,b,_⟩:=d;have:=D9 hi;have:=D9 b;have e1:i=j:=O;subst e1;rw[hi]at b;exact Option.some.inj b
theorem A0F {a:List Nat}{k W e:Nat}{x y:W3}(h1:G8 a k W e x)(b:G8 a k W e y):x=y:=by
 have c:=h1.mono b (Nat.le_refl _);have a2:=b.mono h1 (Nat.le_refl _);exact A3I h1 b O
theorem pkI (a:List Nat)(k W:Nat)(K:1≤W):∀q,PkI a k W q (K8 k W a q):=by
 intro q;induction q with
 |zero=>
  refine⟨⟨0,0,rfl,rfl,Nat.le_refl _,Nat.le_refl _,fun j h1 d=>absurd d O,fun j h1 d=>absurd d O,Or.inl rfl,⟨by simp[K8],by simp[K8],by simp[K8],fun i y h1 d=>absurd d O⟩⟩,by simp[K8],by simp[K8],fun e x he=>absurd he O⟩
 |succ q ih=>
  obtain⟨⟨nx,r,h1,d,h3,h4,N,P,Q,l⟩,m1,m2,m3⟩:=ih;show PkI a k W (q+1) (A0g k W a (K8 k W a q) q);generalize K8 k W a q=st at *;unfold A0g;by_cases hw:isW a k q=true
  ·rw[if_pos hw];obtain⟨b,ad,ae,R,S,hq⟩:∃b:Nat,E1 st.next st.prun q=b∧(1≤b∧b≤q+1)∧(∀j,q+1-b≤j→j<q+1→isW a k j=true)∧(q+1-b=0∨isW a k (q+1-b-1)=false)∧QI a k (q+1-min W b) q (mvL W st.next q st.L):=by
    by_cases af:nx=q
    ·subst af;refine⟨r+1,?_,O,?_,?_,?_⟩
     ·unfold E1;rw[h1,d,if_pos rfl];omega
     ·intro j m n;by_cases B:j=nx
      ·subst B;exact hw
      ·exact P j O O
     ·rcases Q with h|h
      ·exact Or.inl O
      ·by_cases w:nx-r=0
       ·exact Or.inl O
       ·exact Or.inr (by rw[show nx+1-(r+1)-1=nx-r-1 by omega];exact h)
     ·rw[B0n,h1,if_pos rfl];by_cases al:r+1≤W
      ·have e1:nx+1-min W (r+1)=nx-min W r:=O;rw[e1];have ag:Z7 ((nx:Int)-W) st.L=st.L:=by
        cases T:st.L with
        |nil=>rfl
        |cons x t=>
         obtain⟨i,V,X,am⟩:=l.mem x (by rw[T];simp);have:=D9 V;exact A2H t O
       rw[ag];exact l
      ·have e1:nx+1-min W (r+1)=(nx-W)+1:=O;have o:nx-min W r=nx-W:=O;rw[e1];rw[o]at l;exact l.drop O
    ·refine⟨1,?_,O,?_,?_,?_⟩
     ·unfold E1;rw[h1,if_neg O];omega
     ·intro j m n;obtain rfl:j=q:=O;exact hw
     ·by_cases w:q=0
      ·exact Or.inl O
      ·exact Or.inr (N _ O O)
     ·rw[B0n,h1,if_neg O];refine⟨Zs,Zs,Zs,fun i y V X=>absurd X ?_⟩;have:min W 1=1:=Nat.min_eq_right K;omega
   have A:QI a k (q+1-min W b) (q+1) (J0 W st.next q st.L (D4 a k q)):=by
    have:=hq.add O;unfold J0;cases Y:D4 a k q with
    |none=>rw[Y]at this;exact this
    |some x=>rw[Y]at this;exact this
   have aa:W≤b↔A3y a k W q:=by
    constructor
    ·intro h;exact⟨O,fun j m n=>R j O O⟩
    ·intro ⟨an,ah⟩;rcases Nat.lt_or_ge b W with h|h
     ·exfalso;rcases S with w|w
      ·omega
      ·have:=ah (q+1-b-1) O O;rw[w]at this;exact absurd this Zs
     ·exact h
   rw[ad];generalize T:J0 W st.next q st.L (D4 a k q)=s at *;have hex:∃nx r:Nat,((q:Int)+1)=nx∧(b:Int)=r∧nx≤q+1∧r≤nx∧(∀j,nx≤j→j<q+1→isW a k j=false)∧(∀j,nx-r≤j→j<nx→isW a k j=true)∧(nx-r=0∨isW a k (nx-r-1)=false)∧QI a k (nx-min W r) nx s:=
    ⟨q+1,b,O,rfl,Nat.le_refl _,ae.2,fun j m n=>absurd n O,R,S,A⟩
   by_cases C:W≤b
   ·have ai:=aa.1 C;rw[Nat.min_eq_left C]at A;have D:F5 (W:Int) (b:Int) s st.M=A81 st.M s:=by rw[A84,if_pos O]
    rw[D];cases s with
    |nil=>
     refine⟨hex,m1,fun x u=>?_,?_⟩
     ·obtain⟨e,he,hs⟩:=m2 x u;exact⟨e,O,hs⟩
     ·intro e x he hs;by_cases heq:e=q
      ·subst heq;exact absurd hs (A.none x)
      ·exact m3 e x O hs
    |cons x t=>
     have v:=A.head O ai;have aj:A81 st.M (x::t)=O4 st.M x:=rfl;rw[aj];have hle:∀y∈st.M,y.p≤x.p:=fun y E=>by
      obtain⟨e,he,hs⟩:=m2 y E;exact hs.mono v O
     have ak:(O4 st.M x=st.M∧x∈st.M)∨(O4 st.M x=st.M++[x]∧∀y∈st.M,y.p<x.p):=by
      rcases List.eq_nil_or_concat st.M with f|⟨M',y,f⟩
      ·right;rw[f];exact⟨rfl,Zs⟩
      ·rw[List.concat_eq_append]at f;have F:y∈st.M:=by rw[f];simp
       have ab:st.M.getLast?=some y:=by rw[f];simp
       by_cases G:y.p=x.p
       ·left;refine⟨by simp[O4,ab,G],?_⟩;obtain⟨e,he,hs⟩:=m2 y F;have:=A3I hs v G;rw[←this];exact F
       ·right;refine⟨by simp[O4,ab,G],?_⟩;have ao:=hle y F;intro z c;rw[f,List.mem_append]at c;rcases c with c|c
        ·have ac:=m1;rw[f,List.pairwise_append]at ac;have:=ac.2.2 z c y Zs;omega
        ·simp at c;subst c;omega
     rcases ak with⟨e1,o⟩|⟨e1,o⟩
     ·rw[e1];refine⟨hex,m1,fun z c=>?_,?_⟩
      ·obtain⟨e,he,hs⟩:=m2 z c;exact⟨e,O,hs⟩
      ·intro e z he hs;by_cases heq:e=q
       ·subst heq;have:=A0F hs v;show z∈st.M;rw[this];exact o
       ·exact m3 e z O hs
     ·rw[e1];refine⟨hex,?_,?_,?_⟩
      ·show(st.M++[x]).Pairwise _;rw[List.pairwise_append];refine⟨m1,Zs,fun y E z c=>?_⟩;simp at c;subst c;exact o y E
      ·intro z c;have g:z∈st.M++[x]:=c;rw[List.mem_append]at g;rcases g with g|g
       ·obtain⟨e,he,hs⟩:=m2 z g;exact⟨e,O,hs⟩
       ·simp at g;subst g;exact⟨q,O,v⟩
      ·intro e z he hs;show z∈st.M++[x];by_cases heq:e=q
       ·subst heq;have:=A0F hs v;rw[this];simp
       ·exact List.mem_append_left _ (m3 e z O hs)
   ·have D:F5 (W:Int) (b:Int) s st.M=st.M:=by unfold F5;rw[if_neg O]
    rw[D];refine⟨hex,m1,fun x u=>?_,?_⟩
    ·obtain⟨e,he,hs⟩:=m2 x u;exact⟨e,O,hs⟩
    ·intro e x he hs;by_cases heq:e=q
     ·subst heq;exact absurd (aa.2 hs.1) C
     ·exact m3 e x O hs
  ·rw[if_neg hw];have H:isW a k q=false:=by simpa using hw
   refine⟨⟨nx,r,h1,d,O,h4,?_,P,Q,l⟩,m1,fun x u=>?_,?_⟩
   ·intro j m n;by_cases B:j=q
    ·subst B;exact H
    ·exact N j m O
   ·obtain⟨e,he,hs⟩:=m2 x u;exact⟨e,O,hs⟩
   ·intro e x he hs;by_cases heq:e=q
    ·subst heq;rw[A6P K hs]at H;exact absurd H Zs
    ·exact m3 e x O hs
theorem A1V (a:List Nat)(k p:Nat):isW a k p=true↔(p+k≤a.length∧∀j,p≤j→j<p+k→a.getD j 0<4):=by
 unfold isW;rw[Bool.and_eq_true,decide_eq_true_iff,List.all_eq_true];constructor
 ·intro ⟨h1,b⟩;refine⟨h1,fun j c d=>?_⟩;have:a.getD j 0∈M4 a p k:=by
   rw[List.getD_eq_getElem?_getD,List.getElem?_eq_getElem O];refine List.mem_iff_getElem.2 ⟨j-p,by rw[A0f a p k h1];omega,?_⟩;unfold M4;rw[List.getElem_take,List.getElem_drop];simp[show p+(j-p)=j by omega]
  simpa using b _ this
 ·intro ⟨h1,b⟩;refine⟨h1,fun m hm=>?_⟩;obtain⟨i,hi,he⟩:=List.mem_iff_getElem.1 hm;have f:i<k:=by rw[A0f a p k h1]at hi;exact hi
  have:=b (p+i) O O;rw[List.getD_eq_getElem?_getD,List.getElem?_eq_getElem O]at this;have e:(M4 a p k)[i]=a[p+i]:=by
   simp only[M4,List.getElem_take,List.getElem_drop]
  rw[←he,e];simpa using this
theorem A4W (a:List Nat)(k:Nat):(B0h a k).Pairwise (fun x y=>x.p<y.p):=by
 unfold B0h;rw[List.pairwise_filterMap];refine List.Pairwise.imp ?_ List.pairwise_lt_range;intro i j d x b y c;have:=D9 b;have:=D9 c;omega
theorem A44 (a:List Nat)(k:Nat)(hk:1≤k)(x:W3):x∈B0h a k↔∃i:Nat,D4 a k i=some x:=by
 unfold B0h;rw[List.mem_filterMap];constructor
 ·intro ⟨i,_,h⟩;exact⟨i,h⟩
 ·intro ⟨i,h⟩;have:=((A1V a k i).1 (G0 h)).1;exact⟨i,Zo,h⟩
theorem A4E:∀(A B:List W3),A.Pairwise (fun x y=>x.p<y.p)→B.Pairwise (fun x y=>x.p<y.p)→(∀x,x∈A↔x∈B)→A=B
 |[],[],_,_,_=>rfl
 |[],y::B,_,_,h=>absurd ((h y).2 Zs) Zs
 |x::A,[],_,_,h=>absurd ((h x).1 Zs) Zs
 |x::A,y::B,h1,c,h=>by
  rw[List.pairwise_cons]at h1 c
  have d:x=y:=by
   have a:=(h x).1 Zs
   have a2:=(h y).2 Zs
   rw[List.mem_cons]at a a2
   rcases a with a|a
   ·exact a
   ·rcases a2 with a2|a2
    ·exact a2.symm
    ·have:=h1.1 y a2
     have:=c.1 x a
     omega
  subst d
  rw[A4E A B h1.2 c.2 (fun z=>?_)]
  constructor
  ·intro b
   have:=(h z).1 (List.mem_cons_of_mem _ b)
   rw[List.mem_cons]at this
   rcases this with rfl|this
   ·have:=h1.1 z b;omega
   ·exact this
  ·intro b
   have:=(h z).2 (List.mem_cons_of_mem _ b)
   rw[List.mem_cons]at this
   rcases this with rfl|this
   ·have:=c.1 z b;omega
   ·exact this
theorem B19 (k W:Nat)(a:1≤k)(b:k≤12)(l:List UInt8)(c:∀i,i<l.length→0≤B2 (l.getD i 0)) :
 (D2 k W l l.length).M=(K8 k W (nums l) (l.length+1-k)).M:=by
 have h:=(A9c k W a b l c (A96 l) l.length (Nat.le_refl _)).2;exact congrArg A40.M h
theorem A4r (a:List Nat)(k W:Nat)(hk:1≤k)(l:1≤W)(f:Nat→Bool)(m:Nat)(hm:a.length<m+k+W-1)(n:∀i,i<m→i+k+W-1≤a.length)
 (d:∀p:Nat,f p=true↔∃i,i<m∧∃x,G8 a k W (i+W-1) x∧x.p=p) :
 (K8 k W a (a.length+1-k)).M=(B0h a k).filter (fun x=>f x.p.toNat):=by
 have b:=pkI a k W l (a.length+1-k);refine A4E _ _ b.inc ((A4W a k).filter _) ?_;intro x;rw[List.mem_filter,A44 a k hk];constructor
 ·intro o;obtain⟨e,he,hs⟩:=b.mem x o;have q:=hs;obtain⟨⟨z,r⟩,i,A,B,g,_⟩:=q;have s:=D9 g;have C:=((A1V a k e).1 (r e O (Nat.le_refl _))).1;refine⟨⟨i,g⟩,(d _).2 ⟨e+1-W,O,x,?_,O⟩⟩;rw[show e+1-W+W-1=e by omega];exact hs
 ·intro ⟨⟨i,hi⟩,t⟩;obtain⟨j,u,y,h,hyp⟩:=(d _).1 t;have s:=D9 hi;have v:y=x:=by
   obtain⟨_,w,_,_,c,_⟩:=h;have:=D9 c;have e:w=i:=O;subst e;rw[hi]at c;exact(Option.some.inj c).symm
  subst v;have:=n j u;exact b.all _ _ O h
end Mn
end Go.Proofs.YtilcmkiihefkkaaGreatDoor
