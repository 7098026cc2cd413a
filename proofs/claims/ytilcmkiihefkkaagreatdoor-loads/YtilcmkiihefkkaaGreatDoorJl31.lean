import Derived.Test.YtilcmkiihefkkaaGreatDoorJl30
set_option linter.unusedVariables false
set_option linter.unusedSimpArgs false
set_option maxRecDepth 1000000
set_option maxHeartbeats 64000000
open Go.Value renaming int→I
open Go.IntKind renaming i64→J
namespace Go.Proofs.YtilcmkiihefkkaaGreatDoor
section
open Go.RowKit Go.Shelf
def dgB (n:Nat):UInt8:=UInt8.ofNat (48+n)
theorem A4e (n:Nat)(h:n<10):(dgB n).toNat=48+n:=by
 unfold dgB;rw[UInt8.toNat_ofNat'];omega
theorem conv_one (W:World)(b:Nat)(c:UInt8)(h:W.cell? ⟨b,0,none⟩=some (.int .u8 (c.toNat:Int))) :
 (convert 63 9 (.slice (some ⟨b,0,none⟩) 1 1)).run Tryz.prog W=.ok (.string ⟨#[c]⟩) W:=by
 have:=run_convert_bytes_back (P:=Tryz.prog) W 63 9 5 ⟨b,0,none⟩ 1 [c] Tryz.underlying63 Tryz.underlying5 Tryz.underlying9 (by
  intro i hi;have a:i=0:=by simpa using hi
  subst a;rw[Addr.add_lit,Nat.zero_add];exact h)
 simpa using this
theorem J9 (a b:List UInt8):(⟨a.toArray⟩:ByteArray)++⟨b.toArray⟩=⟨(a++b).toArray⟩:=by
 apply ByteArray.ext;rw[ByteArray.data_append];simp
section
variable {P:Program} {ops:Array Oper} {Q:Exit→Act→World→Prop} {md:Region.Mode} {S:World→Prop} {L:Nat}
theorem O6 {i j:Nat}{d f:Oper}{fuel:Nat}{c:Array Bool}{a:Act}{w:World}(h:Region.ready md ops c=[i,j])(m:ops.toList[i]?=some d)(n:ops.toList[j]?=some f)(o:(i==L)=false)(p:(j==L)=false)
 (h1:∀K:Act→World→Prop,Shut (∀b w',S w'→E3 P md ops Q S L fuel (c.setIfInBounds i true) b w'→K b w')→if Region.wanted d (yielded ops a.tmps)=true then Oper.wp P d a w K Q else K (a.put d.dst undef) w)
 (g:∀K:Act→World→Prop,Shut (∀b w',S w'→E3 P md ops Q S L fuel (c.setIfInBounds j true) b w'→K b w')→if Region.wanted f (yielded ops a.tmps)=true then Oper.wp P f a w K Q else K (a.put f.dst undef) w):E3 P md ops Q S L (fuel+1) c a w:=by
 have hi:ops[i]?=some d:=by simpa using m
 have q:ops[j]?=some f:=by simpa using n
 have r:i≠L:=by simpa using o
 have s:j≠L:=by simpa using p
 refine⟨fun l=>(by rw[h]at l;cases l),fun k hk=>?_⟩;rw[h]at hk;rcases (show k=i∨k=j by simpa using hk) with rfl|rfl
 ·have:=h1 (fun b w'=>(k≠L→S w')∧E3 P md ops Q S L fuel (c.setIfInBounds k true) b w') (fun b w' h1 g=>⟨fun _=>h1,g⟩);unfold wpOp;simp only[hi];split
  ·rename_i hw;rw[if_pos hw]at this;exact Or.inl this
  ·rename_i hw;rw[if_neg hw]at this;exact this
 ·have:=g (fun b w'=>(k≠L→S w')∧E3 P md ops Q S L fuel (c.setIfInBounds k true) b w') (fun b w' h1 g=>⟨fun _=>h1,g⟩);unfold wpOp;simp only[q];split
  ·rename_i hw;rw[if_pos hw]at this;exact Or.inl this
  ·rename_i hw;rw[if_neg hw]at this;exact this
end
theorem A1W (n:Nat)(w:World)(h:n<10):Calls Tryz.prog 127 #[I J n] w fun e w'=>e=.returned (.string ⟨(Lib.decDigits n).toArray⟩)∧Below w.heap.size w w':=by
 rw[Lib.decDigits_one h];have c:(n:Int)<10:=O;have hw:IntKind.u8.wrap (48+(n:Int))=((dgB n).toNat:Int):=by rw[A4e n h,IntKind.wrap_u8];omega
 have b:(convert 63 9 (.slice (some ⟨w.heap.size,0,none⟩) 1 1)).run Tryz.prog (w.alloc (.cells #[.int .u8 ((dgB n).toNat:Int)] 5))=.ok (.string ⟨#[dgB n]⟩) (w.alloc (.cells #[.int .u8 ((dgB n).toNat:Int)] 5)):=conv_one _ _ _ (A1 (heap_alloc_new w _) rfl);have a:Hd (dgB n=UInt8.ofNat (48+n)):=rfl;generalize dgB n=d at hw b a;go_enter Tryz.func127,Tryz.ntmps127;go_wp2_with fail;go_ret;refine⟨?_,(Below.refl _ w).alloc (Nat.le_refl _) _⟩;rw[a.o];rfl
theorem A7z (f:Nat):∀(n:Nat) (w:World),n≤f→n≤100000→Calls Tryz.prog 127 #[I J n] w fun e w'=>e=.returned (.string ⟨(Lib.decDigits n).toArray⟩)∧Below w.heap.size w w':=by
 induction f with
 |zero=>
  intro n w z A;obtain rfl:n=0:=O;exact A1W 0 w O
 |succ f r=>
  intro n w z A;by_cases h:n<10
  ·exact A1W n w h
  ·have E:¬(n:Int)<10:=O;have hm:n%10<10:=Nat.mod_lt _ O;have hw:IntKind.u8.wrap (48+(n:Int)%10)=((dgB (n%10)).toNat:Int):=by rw[A4e _ hm,IntKind.wrap_u8];omega
   have c:=fun W=>r (n/10) W O O;clear r;have g:Hd (Lib.decDigits n=Lib.decDigits (n/10)++[dgB (n%10)]):=by
    show _=_;rw[Lib.decDigits,dif_neg h];rfl
   have B:(Lib.decDigits (n/10)).length≤21:=by
    have:=Lib.itoa_length_le ((n/10:Nat):Int) O O;rwa [Lib.itoa_nonneg]at this
   obtain⟨d,s⟩:=A8 (dgB (n%10));obtain⟨D,t⟩:=A8 (Lib.decDigits (n/10));rw[←s]at hw g;rw[←t]at c g B;have F:¬9223372036854775807<D.length+1:=O;have u:((n/10:Nat):Int)=(n:Int)/10:=O;rw[u]at c;clear s t u;have ht:(n:Int).tmod 10=(n:Int)%10:=Int.tmod_eq_emod_of_nonneg O;have G:IntKind.i64.wrap (48+(n:Int)%10)=48+(n:Int)%10:=Zw;have H:IntKind.i64.wrap ((n:Int)/10)=(n:Int)/10:=Zw;go_enter Tryz.func127,Tryz.ntmps127;go_upto_region 3 with fail;refine A5 11 (fun _=>True) U trivial (fun hH=>?_);refine A2 0 ?_;refine A2 1 ?_;refine A2 3 ?_;refine A2 4 ?_;refine A2 5 ?_;refine A2 6 ?_;refine O6 (i:=2) (j:=7) U rfl rfl U U (fun K a=>?_) (fun K a=>?_)
   ·go_simp;go_at_call 127;refine(c _).mono ?_;rintro e w2 ⟨rfl,b⟩;have v:Below w.heap.size w w2:=⟨b.os,b.tape,b.output,b.size,b.block⟩;clear b;refine F7 a trivial ?_;clear a K;refine wpS 7 fun K a=>?_;go_simp;refine F7 a trivial ?_;clear a K;have k:=conv_one (w2.alloc (.cells #[.int .u8 (d.toNat:Int)] 5)) w2.heap.size d (A1 (heap_alloc_new w2 _) rfl);refine wpS 8 fun K a=>?_;go_simp;refine F7 a trivial ?_;clear a K k;refine A2 9 ?_;refine A2 10 ?_;refine M7 ?_;clear hH;go_wp2_with fail;go_ret;refine⟨?_,v.alloc v.size _⟩;rw[g.o];exact congrArg (fun x=>Ending.returned (Value.string x)) (J9 _ _)
   ·go_simp;refine F7 a trivial ?_;clear a K;have l:(w.alloc (.cells #[.int .u8 (d.toNat:Int)] 5)).drew.cell? ⟨w.heap.size,0,none⟩=some (.int .u8 (d.toNat:Int)):=A1 (w:=(w.alloc (.cells #[.int .u8 (d.toNat:Int)] 5)).drew) (heap_alloc_new w _) rfl;have m:Below w.heap.size w (w.alloc (.cells #[.int .u8 (d.toNat:Int)] 5)).drew:=B5 ((Below.refl _ w).alloc (Nat.le_refl _) _) 1;have C:(w.alloc (.cells #[.int .u8 (d.toNat:Int)] 5)).drew.heap.size=w.heap.size+1:=Zs;generalize (w.alloc (.cells #[.int .u8 (d.toNat:Int)] 5)).drew=w1 at l m C⊢;have y:=A4 m;clear m;refine O6 (i:=2) (j:=8) U rfl rfl U U (fun K a=>?_) (fun K a=>?_)
    ·go_simp;go_at_call 127;refine(c _).mono ?_;rintro e w2 ⟨rfl,b⟩;have k:=conv_one w2 w.heap.size d ((b.cell (p:=⟨w.heap.size,0,none⟩) (by show w.heap.size<_;omega)).trans l);have q:Hd (Below w.heap.size w w2):=y.o.trans (b.mono O);clear b;refine F7 a trivial ?_;clear a K;refine wpS 8 fun K a=>?_;go_simp;refine F7 a trivial ?_;clear a K k;refine A2 9 ?_;refine A2 10 ?_;refine M7 ?_;clear hH;go_wp2_with fail;go_ret;refine⟨?_,q.o⟩;rw[g.o];exact congrArg (fun x=>Ending.returned (Value.string x)) (J9 _ _)
    ·have k:=conv_one w1 w.heap.size d l;go_simp;refine F7 a trivial ?_;clear a K k;refine wpS 2 fun K a=>?_;go_simp;go_at_call 127;refine(c _).mono ?_;rintro e w2 ⟨rfl,b⟩;have q:Hd (Below w.heap.size w w2):=y.o.trans (b.mono O);clear b;refine F7 a trivial ?_;clear a K;refine A2 9 ?_;refine A2 10 ?_;refine M7 ?_;clear hH;go_wp2_with fail;go_ret;refine⟨?_,q.o⟩;rw[g.o];exact congrArg (fun x=>Ending.returned (Value.string x)) (J9 _ _)
def lets (L:List Nat):ByteArray:=⟨(L.map ltr).toArray⟩
theorem M9 (L:List Nat):(lets L).size=L.length:=by simp[lets,ByteArray.size]
theorem A21 (L:List Nat)(k:Nat)(h:k<(lets L).size):(lets L)[k]=ltr (L.getD k 9):=by
 have a:k<L.length:=by rwa [M9]at h
 show(L.map ltr).toArray[k]'(by simpa using a)=_;simp[a]
theorem A2y (s:ByteArray)(k:Nat)(h:k<s.size):s.extract k (k+1)=⟨#[s[k]]⟩:=by
 apply ByteArray.ext;rw[ByteArray.data_extract];have b:k<s.data.size:=h;apply Array.ext
 ·simp;omega
 ·intro i h1 a;have hi:i=0:=by simpa using a
  subst hi;simp;rfl
theorem B2p (a b:Nat)(c:a≤2)(d:b≤2):((ltr a).toNat:Int)=((ltr b).toNat:Int)↔a=b:=by
 rcases (show a=0∨a=1∨a=2 by omega) with rfl|rfl|rfl<;>rcases (show b=0∨b=1∨b=2 by omega) with rfl|rfl|rfl<;>decide
theorem A9F (L:List Nat)(n:Nat)(B:L.length=n)(ao:n≤900)(T:∀x∈L,x≤2)(w:World) :
 Calls Tryz.prog 97 #[.string (lets L)] w fun e w'=>e=.returned (.string ⟨(H8 (rl L n).2).toArray⟩)∧Below w.heap.size w w':=by
 have ae:(lets L).size=n:=by rw[M9];exact B
 have l:Hd (∀k (h:k<(lets L).size),(lets L)[k]=ltr (L.getD k 9)):=A21 L;obtain⟨s,hs⟩:=A8 (lets L);rw[←hs]at ae l⊢;clear hs;have c:=A4 B;have C:=A4 T;clear B T;go_enter Tryz.func97,Tryz.ntmps97;go_wp2_with fail;go_loopw [3,4,5] (fun sv nv E wx=>∃k:Nat,k≤n∧E=I J k∧nv=I J (k-(rl L k).1:Nat)∧sv=.string ⟨(H8 (rl L k).2).toArray⟩∧Below w.heap.size w wx) (fun _ _ E _=>n-(intOf E).toNat);case atStart=>exact⟨0,Nat.zero_le _,rfl,rfl,rfl,Below.refl _ _⟩
 case round=>
  obtain⟨k,hk,rfl,rfl,rfl,V⟩:=hrel;have af:=(Y8 L k).1;obtain⟨fr,F⟩:=A8 ((rl L k).1);obtain⟨G,m⟩:=A8 (H8 (rl L k).2);have X:=A2c L n (by rw[c.o];exact Nat.le_refl _) C.o k (by rw[c.o];exact hk);have ap:G.length≤30000:=by
   have h1:=A3i (rl L k).2 (fun p hp=>by have:=(X p hp).2.1;omega);have h2:=A3e L k;rw[m];omega
  rw[←F]at af⊢;rw[←m];have H:=A4 F;have r:=A4 m;have f:=A4 V;obtain⟨d,M⟩:=A8 (k-fr);have t:=A4 M;rw[←M];clear F m V X M;by_cases ag:k<n
  ·have Y:k<s.size:=O;have ah:(k:Int)<n:=O;have e1:=l.o k Y;obtain⟨g,u⟩:=A8 (L.getD k 9);have ai:g≤2:=by
    have N:k<L.length:=by rw[c.o];exact ag
    have:L.getD k 9∈L:=by simp[N]
    rw[u];exact C.o _ this
   have v:=A4 u;rw[←u]at e1;have aq:d≤900:=by have:=t.o;omega
   have ar:IntKind.i64.wrap ((d:Int)+1)=(d:Int)+1:=Zw;have au:IntKind.i64.wrap ((k:Int)+1)=(k:Int)+1:=Zw;have av:((k:Int)+1).toNat=k+1:=O;have aw:(0:Int)≤(k:Int)+1:=O;clear u;by_cases b:k+1=L.length∨L.getD (k+1) 9≠L.getD k 9
   ·have y:=A4 b;have z:=fun W=>A7z (d+1) (d+1) W (Nat.le_refl _) O;have aj:(Lib.decDigits (d+1)).length≤21:=by
     have:=Lib.itoa_length_le ((d+1:Nat):Int) O O;rwa [Lib.itoa_nonneg]at this
    obtain⟨D,P⟩:=A8 (Lib.decDigits (d+1));have aa:=A4 P;rw[←P]at z aj;have i:((d+1:Nat):Int)=(d:Int)+1:=O;rw[i]at z;have hx:=A2y s k Y;rw[e1]at hx;have ax:¬9223372036854775807<G.length+D.length:=O;have ay:¬9223372036854775807<G.length+D.length+1:=O;have az:(k:Int)+1≤n:=O;have aA:(k:Int)≤(k:Int)+1:=O;clear P i;by_cases ab:k+1<n
    ·have Q:k+1<s.size:=O;have ak:(k:Int)+1<n:=O;have ac:(((k:Int)+1)==(n:Int))=false:=by rw[beq_eq_false_iff_ne];omega
     have R:=l.o (k+1) Q;obtain⟨lm,A⟩:=A8 (L.getD (k+1) 9);rw[←A]at R;have al:lm≤2:=by
      have N:k+1<L.length:=by rw[c.o];exact ab
      have:L.getD (k+1) 9∈L:=by simp[N]
      rw[A];exact C.o _ this
     have aB:(((ltr lm).toNat:Int)==((ltr g).toNat:Int))=false:=by
      rw[beq_eq_false_iff_ne];show ¬_=_;rw[B2p lm g al ai,A,v.o];rcases b with h|h
      ·rw[c.o]at h;omega
      ·exact h
     clear b A;go_upto_region 7 with fail;refine A5 15 (fun _=>True) U trivial (fun hH=>?_);refine A2 0 ?_;refine A2 1 ?_;refine A2 2 ?_;refine A2 3 ?_;refine A2 4 ?_;refine A2 5 ?_;refine A2 6 ?_;refine A2 7 ?_;refine A2 8 ?_;refine A2 9 ?_;refine A2 10 ?_;refine A2 11 ?_;refine A2 12 ?_;refine A2 13 ?_;refine A2 14 ?_;refine M7 ?_;clear hH;go_wp2_with fail;refine A5 11 (fun _=>True) U trivial (fun hH=>?_);refine A2 0 ?_;refine A2 1 ?_;refine A2 4 ?_;refine A2 5 ?_;refine A2 6 ?_;refine A2 7 ?_;refine A2 8 ?_;refine wpS 2 fun K j=>?_;go_simp;go_at_call 127;refine(z _).mono ?_;rintro e w2 ⟨rfl,a⟩;have S:Hd (Below w.heap.size w w2):=f.o.trans ⟨a.os,a.tape,a.output,a.size,fun q i=>a.block q (Nat.lt_of_lt_of_le i f.o.size)⟩;clear a;refine F7 j trivial ?_;clear j K;refine A2 3 ?_;refine A2 9 ?_;refine A2 10 ?_;refine M7 ?_;clear hH;go_wp2_with fail;go_roundw;case rel=>
      have e:rl L (k+1)=(k+1,(rl L k).2++[(k+1-fr,g)]):=by
       rw[rl,if_pos y.o,←H.o,←v.o]
      refine⟨k+1,O,Zn,?_,?_,S.o⟩
      ·rw[e];simp
      ·rw[e];simp only;rw[P0,←r.o];refine congrArg Value.string ?_;have am:=t.o;simp only;rw[show k+1-fr=d+1 by omega,←aa.o];rw[J9,←List.append_assoc];exact J9 _ _
     case measure=>simp[intOf];omega
    ·have ac:(((k:Int)+1)==(n:Int))=true:=by rw[beq_iff_eq];omega
     clear b;go_upto_region 7 with fail;refine A5 15 (fun _=>True) U trivial (fun hH=>?_);refine A2 0 ?_;refine A2 1 ?_;refine A2 2 ?_;refine A2 3 ?_;refine A2 4 ?_;refine A2 5 ?_;refine F0 6 ?_;refine F0 7 ?_;refine F0 8 ?_;refine F0 9 ?_;refine F0 10 ?_;refine F0 11 ?_;refine F0 12 ?_;refine F0 13 ?_;refine A2 14 ?_;refine M7 ?_;clear hH;go_wp2_with fail;refine A5 11 (fun _=>True) U trivial (fun hH=>?_);refine A2 0 ?_;refine A2 1 ?_;refine A2 4 ?_;refine A2 5 ?_;refine A2 6 ?_;refine A2 7 ?_;refine A2 8 ?_;refine wpS 2 fun K j=>?_;go_simp;go_at_call 127;refine(z _).mono ?_;rintro e w2 ⟨rfl,a⟩;have S:Hd (Below w.heap.size w w2):=f.o.trans ⟨a.os,a.tape,a.output,a.size,fun q i=>a.block q (Nat.lt_of_lt_of_le i f.o.size)⟩;clear a;refine F7 j trivial ?_;clear j K;refine A2 3 ?_;refine A2 9 ?_;refine A2 10 ?_;refine M7 ?_;clear hH;go_wp2_with fail;go_roundw;case rel=>
      have e:rl L (k+1)=(k+1,(rl L k).2++[(k+1-fr,g)]):=by
       rw[rl,if_pos y.o,←H.o,←v.o]
      refine⟨k+1,O,Zn,?_,?_,S.o⟩
      ·rw[e];simp
      ·rw[e];simp only;rw[P0,←r.o];refine congrArg Value.string ?_;have am:=t.o;simp only;rw[show k+1-fr=d+1 by omega,←aa.o];rw[J9,←List.append_assoc];exact J9 _ _
     case measure=>simp[intOf];omega
   ·have ab:k+1<n:=by
     rw[c.o]at b;rcases Nat.lt_or_ge (k+1) n with h|h
     ·exact h
     ·exact absurd (Or.inl O) b
    have Q:k+1<s.size:=O;have ak:(k:Int)+1<n:=O;have ac:(((k:Int)+1)==(n:Int))=false:=by rw[beq_eq_false_iff_ne];omega
    have R:=l.o (k+1) Q;have ad:L.getD (k+1) 9=g:=by
     rw[v.o];exact Decidable.byContradiction (fun h=>b (Or.inr h))
    rw[ad]at R;have y:=A4 b;clear b ad;go_upto_region 7 with fail;refine A5 15 (fun _=>True) U trivial (fun hH=>?_);refine A2 0 ?_;refine A2 1 ?_;refine A2 2 ?_;refine A2 3 ?_;refine A2 4 ?_;refine A2 5 ?_;refine A2 6 ?_;refine A2 7 ?_;refine A2 8 ?_;refine A2 9 ?_;refine A2 10 ?_;refine A2 11 ?_;refine A2 12 ?_;refine A2 13 ?_;refine A2 14 ?_;refine M7 ?_;clear hH;go_wp2_with fail;go_roundw;case rel=>
     have e:rl L (k+1)=rl L k:=by rw[rl,if_neg y.o]
     refine⟨k+1,O,Zn,?_,?_,B5 f.o 1⟩
     ·rw[e,←H.o];have:=t.o;rw[show(k+1-fr:Nat)=d+1 by omega];go_num
     ·rw[e,←r.o]
    case measure=>simp[intOf];omega
  ·have an:k=n:=O;subst an;have ah:¬(k:Int)<k:=O;go_wp2_with fail;go_ret;refine⟨?_,f.o⟩;rw[r.o];rfl
theorem B28 (read ref:ByteArray)(i j:Nat)(hi:i<read.size)(a:j<ref.size):uB read[i] ref[j]=uR read ref i j:=by
 unfold uR;have h1:read.data.toList.getD i 0=read[i]:=by
  have:i<read.data.toList.length:=by simpa using hi
  rw[List.getD_eq_getElem?_getD,List.getElem?_eq_getElem this];rfl
 have b:ref.data.toList.getD j 0=ref[j]:=by
  have:j<ref.data.toList.length:=by simpa using a
  rw[List.getD_eq_getElem?_getD,List.getElem?_eq_getElem this];rfl
 rw[h1,b]
theorem A9G (L:List Nat)(l:Nat):lets (L++[l])=lets L++⟨#[ltr l]⟩:=by
 have:=J9 (L.map ltr) [ltr l];unfold lets;rw[List.map_append];exact this.symm
theorem B3Q (c:C3)(a:Int)(h:a=aM c):(c.m=a∧nx c 0=0∧a=pv c 0)∨(¬c.m=a∧c.i=a∧nx c 0=1∧a=pv c 1)∨(¬c.m=a∧¬c.i=a∧nx c 0=2∧a=pv c 2):=by
 obtain⟨h1,b⟩:=nx0 c;rw[←h]at h1 b;by_cases m1:c.m=a
 ·rw[if_pos m1]at h1;rw[←h1]at b;exact Or.inl ⟨m1,h1.symm,b.symm⟩
 ·rw[if_neg m1]at h1;by_cases m2:c.i=a
  ·rw[if_pos m2]at h1;rw[←h1]at b;exact Or.inr (Or.inl ⟨m1,m2,h1.symm,b.symm⟩)
  ·rw[if_neg m2]at h1;rw[←h1]at b;exact Or.inr (Or.inr ⟨m1,m2,h1.symm,b.symm⟩)
def GL (read ref:ByteArray)(W:World)(G:Nat)(vM vI vD:Value)(gM oM gI oI gD oD:Nat)(bM bI bD:Nat→Nat):Prop:=
 W.cell? ⟨G,0,none⟩=some (.string read)∧W.cell? ⟨G,1,none⟩=some (.string ref)∧W.cell? ⟨G,2,none⟩=some vM∧W.cell? ⟨G,3,none⟩=some vI∧W.cell? ⟨G,4,none⟩=some vD∧
 (∀t,t≤read.size→W.cell? ⟨gM,oM+t,none⟩=some (.slice (some ⟨bM t,0,none⟩) (ref.size+1) (ref.size+1))∧W.cell? ⟨gI,oI+t,none⟩=some (.slice (some ⟨bI t,0,none⟩) (ref.size+1) (ref.size+1))∧W.cell? ⟨gD,oD+t,none⟩=some (.slice (some ⟨bD t,0,none⟩) (ref.size+1) (ref.size+1)))∧
 (∀t k,t≤read.size→k≤ref.size→W.cell? ⟨bM t,k,none⟩=some (I J (cel 1000000000 (uR read ref) t k).m)∧W.cell? ⟨bI t,k,none⟩=some (I J (cel 1000000000 (uR read ref) t k).i)∧W.cell? ⟨bD t,k,none⟩=some (I J (cel 1000000000 (uR read ref) t k).d))
theorem TbI.gl {read ref:ByteArray}{u w:World}{G:Nat}(h:TbI read ref u w G (read.size+1)) :
 ∃c oM m d oI n f oD o i j l,∀W,Below w.heap.size w W→GL read ref W G (.slice (some ⟨c,oM,none⟩) (read.size+1) m) (.slice (some ⟨d,oI,none⟩) (read.size+1) n) (.slice (some ⟨f,oD,none⟩) (read.size+1) o) c oM d oI f oD i j l:=by
 obtain⟨A,B,C,i,j,l,ht,_,_,a⟩:=h;have q:=ht.oM;have r:=ht.oI;have s:=ht.oD;have hG:=ht.hG;obtain⟨c,oM,m,rfl,_,v⟩:=q.addr O;obtain⟨d,oI,n,rfl,_,x⟩:=r.addr O;obtain⟨f,oD,o,rfl,_,y⟩:=s.addr O;refine⟨c,oM,m,d,oI,n,f,oD,o,i,j,l,fun W z=>?_⟩;have g:=lt_of_block hG;have cl:∀(b k:Nat),b<w.heap.size→W.cell? ⟨b,k,none⟩=w.cell? ⟨b,k,none⟩:=fun b k h=>z.cell (p:=⟨b,k,none⟩) h;refine⟨(cl G 0 g).trans (A1 hG rfl),(cl G 1 g).trans (A1 hG rfl),(cl G 2 g).trans (A1 hG rfl),(cl G 3 g).trans (A1 hG rfl),(cl G 4 g).trans (A1 hG rfl),fun t ht=>⟨?_,?_,?_⟩,fun t k ht hk=>⟨?_,?_,?_⟩⟩
 ·exact(cl c _ v).trans (q.cell (V9 i (read.size+1) ref.size t O))
 ·exact(cl d _ x).trans (r.cell (V9 j (read.size+1) ref.size t O))
 ·exact(cl f _ y).trans (s.cell (V9 l (read.size+1) ref.size t O))
 ·exact(cl _ _ (a t O).1.lt).trans ((a t O).1.cell k O)
 ·exact(cl _ _ (a t O).2.1.lt).trans ((a t O).2.1.cell k O)
 ·exact(cl _ _ (a t O).2.2.lt).trans ((a t O).2.2.cell k O)
def LtI (read ref:ByteArray)(w wx:World)(i j l:Nat)(cost:Int)(o:ByteArray):Prop:=
 ∃(L:List Nat) (f x:Nat),i≤read.size∧j≤ref.size∧i+j≤f∧L.length+(i+j)≤read.size+ref.size∧l=nx (cel 1000000000 (uR read ref) i j) x∧cost=pv (cel 1000000000 (uR read ref) i j) l∧o=lets L∧
  L++path 1000000000 (uR read ref) f i j x=path 1000000000 (uR read ref) (read.size+ref.size) read.size ref.size 0∧Below w.heap.size w wx
theorem LtI.step {read ref:ByteArray}{w wx w':World}{i j l:Nat}{cost:Int}{o:ByteArray}(y:read.size≤300)(z:ref.size≤600)(h:LtI read ref w wx i j l cost o)(r:0<i+j)(s:Below w.heap.size w w')(d g l':Nat)(n:Int)(a:d=if l=2 then i else i-1)(b:g=if l=1 then j else j-1)
 (t:l'=nx (cel 1000000000 (uR read ref) d g) l)(u:n=pv (cel 1000000000 (uR read ref) d g) l'):LtI read ref w w' d g l' n (o++⟨#[ltr l]⟩):=by
 obtain⟨L,f,x,h1,A,B,C,p,D,v,q,E⟩:=h;obtain⟨m,rfl⟩:∃m,f=m+1:=⟨f-1,O⟩;have k:=A0d 1000000000 O (cel 1000000000 (uR read ref) i j) i j O O (G6 1000000000 O (uR read ref) (Q9 read ref) i j O O) r x;have hle:=A12 (cel 1000000000 (uR read ref) i j) x;rw[←p]at k hle;have F:d≤i:=by rw[a];split<;>omega
 have G:g≤j:=by rw[b];split<;>omega
 have H:d+g+1≤i+j:=by
  rcases (show l=0∨l=1∨l=2 by omega) with c|c|c
  ·have:=k.1 c;rw[c]at a b;simp at a b;omega
  ·have:=k.2.1 c;rw[c]at a b;simp at a b;omega
  ·have:=k.2.2 c;rw[c]at a b;simp at a b;omega
 refine⟨L++[l],m,l,O,O,O,Zo,t,u,by rw[A9G,v],?_,s⟩;rw[path,if_neg O,←p,←a,←b]at q;rw[List.append_assoc];exact q
def sR (read ref:ByteArray)(i j:Nat):Bool:=sB (read.data.toList.getD i 0) (ref.data.toList.getD j 0)
theorem A70 (s:ByteArray)(i:Nat)(h:i<s.size):s.data.toList.getD i 0=s[i]:=by
 have:i<s.data.toList.length:=by simpa using h
 rw[List.getD_eq_getElem?_getD,List.getElem?_eq_getElem this];rfl
theorem B3V (read ref:ByteArray)(i j:Nat)(hi:i<read.size)(a:j<ref.size):sB read[i] ref[j]=sR read ref i j:=by
 unfold sR;rw[A70 read i hi,A70 ref j a]
theorem B0J:∀(L:List Nat) (p:Nat×Nat),p.1≤(L.foldl stF p).1∧p.2≤(L.foldl stF p).2
 |[],p=>⟨Nat.le_refl _,Nat.le_refl _⟩
 |l::L,p=>by
  have h:=B0J L (stF p l)
  have h1:p.1≤(stF p l).1:=by unfold stF;simp only;split<;>omega
  have a:p.2≤(stF p l).2:=by unfold stF;simp only;split<;>omega
  exact⟨Nat.le_trans h1 h.1,Nat.le_trans a h.2⟩
def fwd (read ref:ByteArray):List Nat:=(path 1000000000 (uR read ref) (read.size+ref.size) read.size ref.size 0).reverse
theorem B2a (read ref:ByteArray)(a:read.size≤300)(hm:ref.size≤600):(fwd read ref).foldl stF (0,0)=(read.size,ref.size):=
 A3D _ _ _ (A1a 1000000000 O (uR read ref) (Q9 read ref) _ _ _ 0 a hm (Nat.le_refl _))
theorem B3y (read ref:ByteArray)(a:read.size≤300)(hm:ref.size≤600)(k:Nat)(hk:k<(fwd read ref).length) :
 let p:=((fwd read ref).take k).foldl stF (0,0)
 (stF p ((fwd read ref).getD k 9)).1≤read.size∧(stF p ((fwd read ref).getD k 9)).2≤ref.size:=by
 have h:=B2a read ref a hm;have e:fwd read ref=(fwd read ref).take k++((fwd read ref).getD k 9::(fwd read ref).drop (k+1)):=by
  have h1:(fwd read ref).getD k 9=(fwd read ref)[k]:=by simp[hk]
  rw[h1];have:=List.take_append_drop k (fwd read ref);rw[List.drop_eq_getElem_cons hk]at this;exact this.symm
 rw[e,List.foldl_append,List.foldl_cons]at h;have g:=B0J ((fwd read ref).drop (k+1)) (stF (((fwd read ref).take k).foldl stF (0,0)) ((fwd read ref).getD k 9));rw[h]at g;exact g
theorem A9b (l:Nat)(L:List Nat):lets (l::L)=⟨#[ltr l]⟩++lets L:=by
 have:=J9 [ltr l] (L.map ltr);unfold lets;rw[List.map_cons];exact this.symm
theorem A3N (L:List Nat)(k:Nat)(h:k<L.length):(L.take (k+1)).reverse=L.getD k 9::(L.take k).reverse:=by
 rw[List.take_succ_eq_append_getElem h,List.reverse_append];simp[h]
theorem B1Q (L:List Nat):(rl L L.length).1=L.length:=by
 cases h:L.length with
 |zero=>rfl
 |succ k=>
  show(if k+1=L.length∨L.getD (k+1) 9≠L.getD k 9 then (k+1,(rl L k).2++[(k+1-(rl L k).1,L.getD k 9)]) else rl L k).1=_;rw[if_pos (Or.inl h.symm)]
def B0:Code→Option Code
 |.loop c=>some c
 |.seq a b=>match B0 a with
  |some c=>some c
  |none=>B0 b
 |.block _ c=>B0 c
 |.scope c=>B0 c
 |.cond _ a b=>match B0 a with
  |some c=>some c
  |none=>B0 b
 |_=>none
def LI (read ref:ByteArray)(w:World)(G:Nat)(a:Act)(wx:World):Prop:=∃(i j l:Nat) (c:Int) (o:ByteArray),LtI read ref w wx i j l c o∧Fr 206 [(0,.pointer (some ⟨G,0,none⟩)),(1,undef),(2,.string ⟨#[]⟩),(3,I J i),(4,I J j),(5,I J c),(6,.string ⟨#[ltr l]⟩),(7,.string o)] a
def Lmu (a:Act)(_:World):Nat:=(intOf (a.tmps.getD 3 undef)).toNat+(intOf (a.tmps.getD 4 undef)).toNat
theorem B0p (read ref:ByteArray)(R:read.size≤300)(hm:ref.size≤600)(w wr:World)(G l oM M m oI N gD oD cD:Nat)(q r bD:Nat→Nat)(ag:∀W,Below w.heap.size w W→GL read ref W G (.slice (some ⟨l,oM,none⟩) (read.size+1) M) (.slice (some ⟨m,oI,none⟩) (read.size+1) N) (.slice (some ⟨gD,oD,none⟩) (read.size+1) cD) l oM m oI gD oD q r bD)
 (i j:Nat)(c:Int)(o:ByteArray)(hI:LtI read ref w wr i j 0 c o)(hp:0<i+j)(fa:Act)(ai:Fr 206 [(0,.pointer (some ⟨G,0,none⟩)),(1,undef),(2,.string ⟨#[]⟩),(3,I J i),(4,I J j),(5,I J c),(6,.string ⟨#[ltr 0]⟩),(7,.string o)] fa)(Q0:Exit→Act→World→Prop)(hQ0:∀(c:List PanicEntry) (a:Act) (d:Option Tmp) (v:Value) (w:World),Q0 (.panic c) (a.put d v) w→Q0 (.panic c) a w)(B:Code)(hB:Tryz.f125.body.bind B0=some B) :
 Code.wp Tryz.prog B (Exit.then (fun a' w'=>LI read ref w G a' w'∧Lmu a' w'<Lmu fa wr) Q0) fa wr:=by
 have S:=hB;conv at S=>lhs;whnf
 injection S with S;subst S;clear hB;obtain⟨f0,rfl,ab⟩:=ai;simp only[Hs]at ab;simp only[fr,Y5,Nat.reduceAdd,ab];clear ab;have T:=A4 hI;have V:=fun x y W=>X6 x y W;have aj:=A4 ag;clear ag;obtain⟨L,f,x,h1,h2,h3,h4,h5,h6,h7,h8,h9⟩:=hI;have aq:o.size≤900:=by rw[h7,M9];omega
 have ar:¬9223372036854775807<o.size+1:=O;have au:¬(9223372036854775807:Int)<(o.size:Int)+1:=O;have av:o.size+1≤9223372036854775807:=O;have aw:IntKind.i64.wrap ((i:Int)+(j:Int))=(i:Int)+j:=Zw;have X:=A4 h9;have ax:(0:Int)<(i:Int)+j:=O;have ac:=A0d 1000000000 O (cel 1000000000 (uR read ref) i j) i j O O (G6 1000000000 O (uR read ref) (Q9 read ref) i j O O) hp x;have hle:=A12 (cel 1000000000 (uR read ref) i j) x;rw[←h5]at ac hle;obtain⟨z0,s,z2,z3,z4,zr,zc⟩:=aj.o wr h9;have ak:=ac.1 rfl;rw[show ltr 0=(77:UInt8) from rfl];obtain⟨b,ad⟩:∃b,i=b+1:=⟨i-1,O⟩;have ay:IntKind.i64.wrap ((i:Int)-1)=(b:Int):=Zw;have az:(b:Int)<(read.size:Int)+1:=O;obtain⟨g,ae⟩:∃g,j=g+1:=⟨j-1,O⟩;have aA:IntKind.i64.wrap ((j:Int)-1)=(g:Int):=Zw;have aB:(g:Int)<(ref.size:Int)+1:=O;obtain⟨t,z,r3⟩:=zr b O;obtain⟨s1,s2,s3⟩:=zc b g O O;have Y:=X3 read ref b g O O;have aa:c=aM (cel 1000000000 (uR read ref) b g)+uR read ref b g:=by rw[h6,ad,ae];rfl
 have hN:=B3Q (cel 1000000000 (uR read ref) b g) (c-uR read ref b g) O;obtain⟨cc,af⟩:=A8 (cel 1000000000 (uR read ref) b g);have A:=A4 af;rw[←af]at s1 s2 s3 Y hN aa;obtain⟨h,ci,H⟩:=cc;unfold okB at Y;have ah:aM ⟨h,ci,H⟩=min h (min ci H):=rfl;have al:aI ⟨h,ci,H⟩=min (h+4) (min ci (H+4)):=rfl;have am:aD ⟨h,ci,H⟩=min (h+4) (min (ci+4) H):=rfl;rw[ah]at aa;simp only at s1 s2 s3 Y hN;have an:=Q9 read ref b g;have ao:b<read.size:=O;have ap:g<ref.size:=O;have P:=B28 read ref b g ao ap;have aC:(b:Int)<read.size:=O;have aE:(g:Int)<ref.size:=O;obtain⟨u,hu⟩:=A8 (uR read ref b g);rw[←hu]at aa hN an P;clear hu;have aF:0≤c-u∧c-u≤1500000000:=O;have aG:IntKind.i64.wrap (c-u)=c-u:=Zw;have HH:=A4 hp;have C:=A4 ad;have D:=A4 ae;clear h7 hp ak h1 h2 h3 h4 ad ae zr zc af Y aa h5 h6 h8 ac ah al am z4 r3 s3;rcases hN with⟨n1,n,p⟩|⟨n1,n,p,Q⟩|⟨n1,n,p,Q⟩
 ·have q1:((h:Int)==c-u)=true:=by rw[beq_iff_eq];exact n1
  by_cases n9:ci=c-u
  ·have q2:((ci:Int)==c-u)=true:=by rw[beq_iff_eq];exact n9
   have E:=A4 n;have F:=A4 p;clear n1 n p n9;go_upto_region 14 with fail;refine A5 18 (fun W=>W.cell? ⟨G,0,none⟩=some (.string read)∧W.cell? ⟨G,1,none⟩=some (.string ref)) U ⟨z0,s⟩ (fun hH=>?_);refine A2 0 ?_;refine A2 1 ?_;refine A2 2 ?_;refine A2 3 ?_;refine A2 4 ?_;refine A2 5 ?_;refine A2 6 ?_;refine A2 7 ?_;refine A2 8 ?_;refine A2 9 ?_;refine A2 10 ?_;refine A2 11 ?_;refine A2 12 ?_;refine A2 13 ?_;refine A2 14 ?_;refine wpS 15 fun K k=>?_;go_simp;go_at_call 170;refine(V _ _ _).mono ?_;rintro e w9 ⟨rfl,rfl⟩;rw[P];refine F7 k hH ?_;clear k K;refine A2 16 ?_;refine A2 17 ?_;refine M7 ?_;clear hH;have e2:wr.drew.cell? ⟨G,2,none⟩=some (.slice (some ⟨l,oM,none⟩) (read.size+1) M):=z2;have e3:wr.drew.cell? ⟨G,3,none⟩=some (.slice (some ⟨m,oI,none⟩) (read.size+1) N):=z3;have e4:wr.drew.cell? ⟨l,oM+b,none⟩=some (.slice (some ⟨q b,0,none⟩) (ref.size+1) (ref.size+1)):=t;have e5:wr.drew.cell? ⟨m,oI+b,none⟩=some (.slice (some ⟨r b,0,none⟩) (ref.size+1) (ref.size+1)):=z;have e6:wr.drew.cell? ⟨q b,g,none⟩=some (I J h):=s1;have e7:wr.drew.cell? ⟨r b,g,none⟩=some (I J ci):=s2;clear z0 s z2 z3 t z s1 s2;go_wp2_with fail;refine⟨?_,?_⟩
   ·refine⟨b,g,0,c-u,_,?_,Fr.of _ rfl ⟨rfl,rfl,rfl,rfl,rfl,rfl,rfl,rfl,trivial⟩⟩;exact LtI.step R hm T.o HH.o (B5 X.o 1) b g 0 (c-u) (by first|(have:=C.o;simp;omega)|simp) (by first|(have:=D.o;simp;omega)|simp) (by rw[←A.o];exact E.o.symm) (by rw[←A.o];exact F.o)
   ·(try have m1:=C.o);(try have m2:=D.o);simp[Lmu,intOf];omega
  ·have q2:((ci:Int)==c-u)=false:=by rw[beq_eq_false_iff_ne];exact n9
   have E:=A4 n;have F:=A4 p;clear n1 n p n9;go_upto_region 14 with fail;refine A5 18 (fun W=>W.cell? ⟨G,0,none⟩=some (.string read)∧W.cell? ⟨G,1,none⟩=some (.string ref)) U ⟨z0,s⟩ (fun hH=>?_);refine A2 0 ?_;refine A2 1 ?_;refine A2 2 ?_;refine A2 3 ?_;refine A2 4 ?_;refine A2 5 ?_;refine A2 6 ?_;refine A2 7 ?_;refine A2 8 ?_;refine A2 9 ?_;refine A2 10 ?_;refine A2 11 ?_;refine A2 12 ?_;refine A2 13 ?_;refine A2 14 ?_;refine wpS 15 fun K k=>?_;go_simp;go_at_call 170;refine(V _ _ _).mono ?_;rintro e w9 ⟨rfl,rfl⟩;rw[P];refine F7 k hH ?_;clear k K;refine A2 16 ?_;refine A2 17 ?_;refine M7 ?_;clear hH;have e2:wr.drew.cell? ⟨G,2,none⟩=some (.slice (some ⟨l,oM,none⟩) (read.size+1) M):=z2;have e3:wr.drew.cell? ⟨G,3,none⟩=some (.slice (some ⟨m,oI,none⟩) (read.size+1) N):=z3;have e4:wr.drew.cell? ⟨l,oM+b,none⟩=some (.slice (some ⟨q b,0,none⟩) (ref.size+1) (ref.size+1)):=t;have e5:wr.drew.cell? ⟨m,oI+b,none⟩=some (.slice (some ⟨r b,0,none⟩) (ref.size+1) (ref.size+1)):=z;have e6:wr.drew.cell? ⟨q b,g,none⟩=some (I J h):=s1;have e7:wr.drew.cell? ⟨r b,g,none⟩=some (I J ci):=s2;clear z0 s z2 z3 t z s1 s2;go_wp2_with fail;refine⟨?_,?_⟩
   ·refine⟨b,g,0,c-u,_,?_,Fr.of _ rfl ⟨rfl,rfl,rfl,rfl,rfl,rfl,rfl,rfl,trivial⟩⟩;exact LtI.step R hm T.o HH.o (B5 X.o 1) b g 0 (c-u) (by first|(have:=C.o;simp;omega)|simp) (by first|(have:=D.o;simp;omega)|simp) (by rw[←A.o];exact E.o.symm) (by rw[←A.o];exact F.o)
   ·(try have m1:=C.o);(try have m2:=D.o);simp[Lmu,intOf];omega
 ·have q1:((h:Int)==c-u)=false:=by rw[beq_eq_false_iff_ne];exact n1
  have q2:((ci:Int)==c-u)=true:=by rw[beq_iff_eq];exact n
  have E:=A4 p;have F:=A4 Q;clear n1 n p Q;go_upto_region 14 with fail;refine A5 18 (fun W=>W.cell? ⟨G,0,none⟩=some (.string read)∧W.cell? ⟨G,1,none⟩=some (.string ref)) U ⟨z0,s⟩ (fun hH=>?_);refine A2 0 ?_;refine A2 1 ?_;refine A2 2 ?_;refine A2 3 ?_;refine A2 4 ?_;refine A2 5 ?_;refine A2 6 ?_;refine A2 7 ?_;refine A2 8 ?_;refine A2 9 ?_;refine A2 10 ?_;refine A2 11 ?_;refine A2 12 ?_;refine A2 13 ?_;refine A2 14 ?_;refine wpS 15 fun K k=>?_;go_simp;go_at_call 170;refine(V _ _ _).mono ?_;rintro e w9 ⟨rfl,rfl⟩;rw[P];refine F7 k hH ?_;clear k K;refine A2 16 ?_;refine A2 17 ?_;refine M7 ?_;clear hH;have e2:wr.drew.cell? ⟨G,2,none⟩=some (.slice (some ⟨l,oM,none⟩) (read.size+1) M):=z2;have e3:wr.drew.cell? ⟨G,3,none⟩=some (.slice (some ⟨m,oI,none⟩) (read.size+1) N):=z3;have e4:wr.drew.cell? ⟨l,oM+b,none⟩=some (.slice (some ⟨q b,0,none⟩) (ref.size+1) (ref.size+1)):=t;have e5:wr.drew.cell? ⟨m,oI+b,none⟩=some (.slice (some ⟨r b,0,none⟩) (ref.size+1) (ref.size+1)):=z;have e6:wr.drew.cell? ⟨q b,g,none⟩=some (I J h):=s1;have e7:wr.drew.cell? ⟨r b,g,none⟩=some (I J ci):=s2;clear z0 s z2 z3 t z s1 s2;go_wp2_with fail;refine⟨?_,?_⟩
  ·refine⟨b,g,1,c-u,_,?_,Fr.of _ rfl ⟨rfl,rfl,rfl,rfl,rfl,rfl,rfl,rfl,trivial⟩⟩;exact LtI.step R hm T.o HH.o (B5 X.o 1) b g 1 (c-u) (by first|(have:=C.o;simp;omega)|simp) (by first|(have:=D.o;simp;omega)|simp) (by rw[←A.o];exact E.o.symm) (by rw[←A.o];exact F.o)
  ·(try have m1:=C.o);(try have m2:=D.o);simp[Lmu,intOf];omega
 ·have q1:((h:Int)==c-u)=false:=by rw[beq_eq_false_iff_ne];exact n1
  have q2:((ci:Int)==c-u)=false:=by rw[beq_eq_false_iff_ne];exact n
  have E:=A4 p;have F:=A4 Q;clear n1 n p Q;go_upto_region 14 with fail;refine A5 18 (fun W=>W.cell? ⟨G,0,none⟩=some (.string read)∧W.cell? ⟨G,1,none⟩=some (.string ref)) U ⟨z0,s⟩ (fun hH=>?_);refine A2 0 ?_;refine A2 1 ?_;refine A2 2 ?_;refine A2 3 ?_;refine A2 4 ?_;refine A2 5 ?_;refine A2 6 ?_;refine A2 7 ?_;refine A2 8 ?_;refine A2 9 ?_;refine A2 10 ?_;refine A2 11 ?_;refine A2 12 ?_;refine A2 13 ?_;refine A2 14 ?_;refine wpS 15 fun K k=>?_;go_simp;go_at_call 170;refine(V _ _ _).mono ?_;rintro e w9 ⟨rfl,rfl⟩;rw[P];refine F7 k hH ?_;clear k K;refine A2 16 ?_;refine A2 17 ?_;refine M7 ?_;clear hH;have e2:wr.drew.cell? ⟨G,2,none⟩=some (.slice (some ⟨l,oM,none⟩) (read.size+1) M):=z2;have e3:wr.drew.cell? ⟨G,3,none⟩=some (.slice (some ⟨m,oI,none⟩) (read.size+1) N):=z3;have e4:wr.drew.cell? ⟨l,oM+b,none⟩=some (.slice (some ⟨q b,0,none⟩) (ref.size+1) (ref.size+1)):=t;have e5:wr.drew.cell? ⟨m,oI+b,none⟩=some (.slice (some ⟨r b,0,none⟩) (ref.size+1) (ref.size+1)):=z;have e6:wr.drew.cell? ⟨q b,g,none⟩=some (I J h):=s1;have e7:wr.drew.cell? ⟨r b,g,none⟩=some (I J ci):=s2;clear z0 s z2 z3 t z s1 s2;go_wp2_with fail;refine⟨?_,?_⟩
  ·refine⟨b,g,2,c-u,_,?_,Fr.of _ rfl ⟨rfl,rfl,rfl,rfl,rfl,rfl,rfl,rfl,trivial⟩⟩;exact LtI.step R hm T.o HH.o (B5 X.o 1) b g 2 (c-u) (by first|(have:=C.o;simp;omega)|simp) (by first|(have:=D.o;simp;omega)|simp) (by rw[←A.o];exact E.o.symm) (by rw[←A.o];exact F.o)
  ·(try have m1:=C.o);(try have m2:=D.o);simp[Lmu,intOf];omega
theorem B1J (read ref:ByteArray)(A:read.size≤300)(hm:ref.size≤600)(w wr:World)(G S oM cM T oI cI V oD cD:Nat)(bM bI bD:Nat→Nat)(X:∀W,Below w.heap.size w W→GL read ref W G (.slice (some ⟨S,oM,none⟩) (read.size+1) cM) (.slice (some ⟨T,oI,none⟩) (read.size+1) cI) (.slice (some ⟨V,oD,none⟩) (read.size+1) cD) S oM T oI V oD bM bI bD)
 (i j:Nat)(c:Int)(o:ByteArray)(Y:LtI read ref w wr i j 1 c o)(C:0<i+j)(D:Act)(ab:Fr 206 [(0,.pointer (some ⟨G,0,none⟩)),(1,undef),(2,.string ⟨#[]⟩),(3,I J i),(4,I J j),(5,I J c),(6,.string ⟨#[ltr 1]⟩),(7,.string o)] D)(E:Exit→Act→World→Prop)(hQ0:∀(c:List PanicEntry) (a:Act) (d:Option Tmp) (v:Value) (w:World),E (.panic c) (a.put d v) w→E (.panic c) a w)(B:Code)(hB:Tryz.f125.body.bind B0=some B) :
 Code.wp Tryz.prog B (Exit.then (fun a' w'=>LI read ref w G a' w'∧Lmu a' w'<Lmu D wr) E) D wr:=by
 have s:=hB;conv at s=>lhs;whnf
 injection s with s;subst s;clear hB;obtain⟨f0,rfl,F⟩:=ab;simp only[Hs]at F;simp only[fr,Y5,Nat.reduceAdd,F];clear F;have H:=A4 Y;have cU:=fun x y W=>X6 x y W;have ac:=A4 X;clear X;obtain⟨L,f,x,h1,h2,h3,h4,h5,h6,h7,h8,h9⟩:=Y;have ag:o.size≤900:=by rw[h7,M9];omega
 have ah:¬9223372036854775807<o.size+1:=O;have ai:¬(9223372036854775807:Int)<(o.size:Int)+1:=O;have aj:o.size+1≤9223372036854775807:=O;have ak:IntKind.i64.wrap ((i:Int)+(j:Int))=(i:Int)+j:=Zw;have K:=A4 h9;have al:(0:Int)<(i:Int)+j:=O;have M:=A0d 1000000000 O (cel 1000000000 (uR read ref) i j) i j O O (G6 1000000000 O (uR read ref) (Q9 read ref) i j O O) C x;have hle:=A12 (cel 1000000000 (uR read ref) i j) x;rw[←h5]at M hle;obtain⟨z0,z1,z2,z3,z4,zr,zc⟩:=ac.o wr h9;have ad:=M.2.1 rfl;rw[show ltr 1=(73:UInt8) from rfl];obtain⟨b,N⟩:∃b,i=b+1:=⟨i-1,O⟩;have am:IntKind.i64.wrap ((i:Int)-1)=(b:Int):=Zw;have an:(b:Int)<(read.size:Int)+1:=O;have ao:(j:Int)<(ref.size:Int)+1:=O;obtain⟨r1,r2,r3⟩:=zr b O;obtain⟨s1,s2,P⟩:=zc b j O O;have t:=X3 read ref b j O O;have u:c=aI (cel 1000000000 (uR read ref) b j)+2:=by
  rw[h6,N];cases j<;>rfl
 have z:=nx1 (cel 1000000000 (uR read ref) b j);rw[←u]at z;obtain⟨cc,Q⟩:=A8 (cel 1000000000 (uR read ref) b j);have l:=A4 Q;rw[←Q]at s1 s2 P t z u;obtain⟨g,ci,m⟩:=cc;unfold okB at t;have ae:aM ⟨g,ci,m⟩=min g (min ci m):=rfl;have aa:aI ⟨g,ci,m⟩=min (g+4) (min ci (m+4)):=rfl;have af:aD ⟨g,ci,m⟩=min (g+4) (min (ci+4) m):=rfl;rw[aa]at u;simp only at s1 s2 P t z;have ap:0≤c∧c≤1600000000:=O;have w6:IntKind.i64.wrap (g+6)=g+6:=Zw;have wi:IntKind.i64.wrap (ci+2)=ci+2:=Zw;have c6:IntKind.i64.wrap (c-6)=c-6:=Zw;have c2:IntKind.i64.wrap (c-2)=c-2:=Zw;have R:=A4 C;have n:=A4 N;clear h7 C ad h1 h2 h3 h4 N zr zc Q t u h5 h6 h8 M ae aa af z4 r3 P z0 z1;rcases z with⟨n1,h,k⟩|⟨n1,h,k,p⟩|⟨n1,h,k,p⟩
 ·have q1:((g+6:Int)==c)=true:=by rw[beq_iff_eq];exact n1
  have q:=A4 h;have r:=A4 k;clear n1 h k;go_wp2_with fail;refine⟨?_,?_⟩
  ·refine⟨b,j,0,c-6,_,?_,Fr.of _ rfl ⟨rfl,rfl,rfl,rfl,rfl,rfl,rfl,rfl,trivial⟩⟩;exact LtI.step A hm H.o R.o (K.o) b j 0 (c-6) (by first|(have:=n.o;simp;omega)|simp) (by first|(have:=HJ1.o;simp;omega)|simp) (by rw[←l.o];exact q.o.symm) (by rw[←l.o];exact r.o)
  ·(try have m1:=n.o);(try have m2:=HJ1.o);simp[Lmu,intOf];omega
 ·have q1:((g+6:Int)==c)=false:=by rw[beq_eq_false_iff_ne];exact n1
  have q2:((ci+2:Int)==c)=true:=by rw[beq_iff_eq];exact h
  have q:=A4 k;have r:=A4 p;clear n1 h k p;go_wp2_with fail;refine⟨?_,?_⟩
  ·refine⟨b,j,1,c-2,_,?_,Fr.of _ rfl ⟨rfl,rfl,rfl,rfl,rfl,rfl,rfl,rfl,trivial⟩⟩;exact LtI.step A hm H.o R.o (K.o) b j 1 (c-2) (by first|(have:=n.o;simp;omega)|simp) (by first|(have:=HJ1.o;simp;omega)|simp) (by rw[←l.o];exact q.o.symm) (by rw[←l.o];exact r.o)
  ·(try have m1:=n.o);(try have m2:=HJ1.o);simp[Lmu,intOf];omega
 ·have q1:((g+6:Int)==c)=false:=by rw[beq_eq_false_iff_ne];exact n1
  have q2:((ci+2:Int)==c)=false:=by rw[beq_eq_false_iff_ne];exact h
  have q:=A4 k;have r:=A4 p;clear n1 h k p;go_wp2_with fail;refine⟨?_,?_⟩
  ·refine⟨b,j,2,c-6,_,?_,Fr.of _ rfl ⟨rfl,rfl,rfl,rfl,rfl,rfl,rfl,rfl,trivial⟩⟩;exact LtI.step A hm H.o R.o (K.o) b j 2 (c-6) (by first|(have:=n.o;simp;omega)|simp) (by first|(have:=HJ1.o;simp;omega)|simp) (by rw[←l.o];exact q.o.symm) (by rw[←l.o];exact r.o)
  ·(try have m1:=n.o);(try have m2:=HJ1.o);simp[Lmu,intOf];omega
theorem B08 (read ref:ByteArray)(A:read.size≤300)(hm:ref.size≤600)(w wr:World)(G S oM cM T oI cI V oD cD:Nat)(bM bI bD:Nat→Nat)(X:∀W,Below w.heap.size w W→GL read ref W G (.slice (some ⟨S,oM,none⟩) (read.size+1) cM) (.slice (some ⟨T,oI,none⟩) (read.size+1) cI) (.slice (some ⟨V,oD,none⟩) (read.size+1) cD) S oM T oI V oD bM bI bD)
 (i j:Nat)(c:Int)(o:ByteArray)(Y:LtI read ref w wr i j 2 c o)(C:0<i+j)(D:Act)(ab:Fr 206 [(0,.pointer (some ⟨G,0,none⟩)),(1,undef),(2,.string ⟨#[]⟩),(3,I J i),(4,I J j),(5,I J c),(6,.string ⟨#[ltr 2]⟩),(7,.string o)] D)(E:Exit→Act→World→Prop)(hQ0:∀(c:List PanicEntry) (a:Act) (d:Option Tmp) (v:Value) (w:World),E (.panic c) (a.put d v) w→E (.panic c) a w)(B:Code)(hB:Tryz.f125.body.bind B0=some B) :
 Code.wp Tryz.prog B (Exit.then (fun a' w'=>LI read ref w G a' w'∧Lmu a' w'<Lmu D wr) E) D wr:=by
 have s:=hB;conv at s=>lhs;whnf
 injection s with s;subst s;clear hB;obtain⟨f0,rfl,F⟩:=ab;simp only[Hs]at F;simp only[fr,Y5,Nat.reduceAdd,F];clear F;have H:=A4 Y;have cU:=fun x y W=>X6 x y W;have ac:=A4 X;clear X;obtain⟨L,f,x,h1,h2,h3,h4,h5,h6,h7,h8,h9⟩:=Y;have ag:o.size≤900:=by rw[h7,M9];omega
 have ah:¬9223372036854775807<o.size+1:=O;have ai:¬(9223372036854775807:Int)<(o.size:Int)+1:=O;have aj:o.size+1≤9223372036854775807:=O;have ak:IntKind.i64.wrap ((i:Int)+(j:Int))=(i:Int)+j:=Zw;have K:=A4 h9;have al:(0:Int)<(i:Int)+j:=O;have M:=A0d 1000000000 O (cel 1000000000 (uR read ref) i j) i j O O (G6 1000000000 O (uR read ref) (Q9 read ref) i j O O) C x;have hle:=A12 (cel 1000000000 (uR read ref) i j) x;rw[←h5]at M hle;obtain⟨z0,z1,z2,z3,z4,zr,zc⟩:=ac.o wr h9;have ad:=M.2.2 rfl;rw[show ltr 2=(68:UInt8) from rfl];have am:(i:Int)<(read.size:Int)+1:=O;obtain⟨b,N⟩:∃b,j=b+1:=⟨j-1,O⟩;have an:IntKind.i64.wrap ((j:Int)-1)=(b:Int):=Zw;have ao:(b:Int)<(ref.size:Int)+1:=O;obtain⟨r1,r2,r3⟩:=zr i O;obtain⟨s1,s2,P⟩:=zc i b O O;have t:=X3 read ref i b O O;have u:c=aD (cel 1000000000 (uR read ref) i b)+2:=by
  rw[h6,N];cases i<;>rfl
 have z:=nx2 (cel 1000000000 (uR read ref) i b);rw[←u]at z;obtain⟨cc,Q⟩:=A8 (cel 1000000000 (uR read ref) i b);have l:=A4 Q;rw[←Q]at s1 s2 P t z u;obtain⟨g,ci,m⟩:=cc;unfold okB at t;have ae:aM ⟨g,ci,m⟩=min g (min ci m):=rfl;have af:aI ⟨g,ci,m⟩=min (g+4) (min ci (m+4)):=rfl;have aa:aD ⟨g,ci,m⟩=min (g+4) (min (ci+4) m):=rfl;rw[aa]at u;simp only at s1 s2 P t z;have ap:0≤c∧c≤1600000000:=O;have w6:IntKind.i64.wrap (g+6)=g+6:=Zw;have wi:IntKind.i64.wrap (ci+6)=ci+6:=Zw;have c6:IntKind.i64.wrap (c-6)=c-6:=Zw;have c2:IntKind.i64.wrap (c-2)=c-2:=Zw;have R:=A4 C;have n:=A4 N;clear h7 C ad h1 h2 h3 h4 N zr zc Q t u h5 h6 h8 M ae af aa z4 r3 P z0 z1;rcases z with⟨n1,h,k⟩|⟨n1,h,k,p⟩|⟨n1,h,k,p⟩
 ·have q1:((g+6:Int)==c)=true:=by rw[beq_iff_eq];exact n1
  have q:=A4 h;have r:=A4 k;clear n1 h k;go_wp2_with fail;refine⟨?_,?_⟩
  ·refine⟨i,b,0,c-6,_,?_,Fr.of _ rfl ⟨rfl,rfl,rfl,rfl,rfl,rfl,rfl,rfl,trivial⟩⟩;exact LtI.step A hm H.o R.o (K.o) i b 0 (c-6) (by first|(have:=HI1.o;simp;omega)|simp) (by first|(have:=n.o;simp;omega)|simp) (by rw[←l.o];exact q.o.symm) (by rw[←l.o];exact r.o)
  ·(try have m1:=HI1.o);(try have m2:=n.o);simp[Lmu,intOf];omega
 ·have q1:((g+6:Int)==c)=false:=by rw[beq_eq_false_iff_ne];exact n1
  have q2:((ci+6:Int)==c)=true:=by rw[beq_iff_eq];exact h
  have q:=A4 k;have r:=A4 p;clear n1 h k p;go_wp2_with fail;refine⟨?_,?_⟩
  ·refine⟨i,b,1,c-6,_,?_,Fr.of _ rfl ⟨rfl,rfl,rfl,rfl,rfl,rfl,rfl,rfl,trivial⟩⟩;exact LtI.step A hm H.o R.o (K.o) i b 1 (c-6) (by first|(have:=HI1.o;simp;omega)|simp) (by first|(have:=n.o;simp;omega)|simp) (by rw[←l.o];exact q.o.symm) (by rw[←l.o];exact r.o)
  ·(try have m1:=HI1.o);(try have m2:=n.o);simp[Lmu,intOf];omega
 ·have q1:((g+6:Int)==c)=false:=by rw[beq_eq_false_iff_ne];exact n1
  have q2:((ci+6:Int)==c)=false:=by rw[beq_eq_false_iff_ne];exact h
  have q:=A4 k;have r:=A4 p;clear n1 h k p;go_wp2_with fail;refine⟨?_,?_⟩
  ·refine⟨i,b,2,c-2,_,?_,Fr.of _ rfl ⟨rfl,rfl,rfl,rfl,rfl,rfl,rfl,rfl,trivial⟩⟩;exact LtI.step A hm H.o R.o (K.o) i b 2 (c-2) (by first|(have:=HI1.o;simp;omega)|simp) (by first|(have:=n.o;simp;omega)|simp) (by rw[←l.o];exact q.o.symm) (by rw[←l.o];exact r.o)
  ·(try have m1:=HI1.o);(try have m2:=n.o);simp[Lmu,intOf];omega
def LX (read ref:ByteArray)(w:World)(G:Nat)(a:Act)(wx:World):Prop:=Below w.heap.size w wx∧Fr 206 [(0,.pointer (some ⟨G,0,none⟩)),(1,undef),(2,.string ⟨#[]⟩),(7,.string (lets (path 1000000000 (uR read ref) (read.size+ref.size) read.size ref.size 0)))] a
theorem B3t (read ref:ByteArray)(w wr:World)(G:Nat)(l:Nat)(c:Int)(o:ByteArray)(r:LtI read ref w wr 0 0 l c o)(g:Act)(s:Fr 206 [(0,.pointer (some ⟨G,0,none⟩)),(1,undef),(2,.string ⟨#[]⟩),(3,I J ((0:Nat):Int)),(4,I J ((0:Nat):Int)),(5,I J c),(6,.string ⟨#[ltr l]⟩),(7,.string o)] g)(t:Act→World→Prop)(h:Exit→Act→World→Prop)(i:∀j k,LX read ref w G j k→h (.exit 0) j k)(B:Code)(m:Tryz.f125.body.bind B0=some B) :
 Code.wp Tryz.prog B (Exit.then t h) g wr:=by
 have a:=m;conv at a=>lhs;whnf
 injection a with a;subst a;clear m;obtain⟨f0,rfl,b⟩:=s;simp only[Hs]at b;simp only[fr,Y5,Nat.reduceAdd,b];clear b;obtain⟨L,f,x,h1,u,v,y,z,A,n,d,p⟩:=r;have q:path 1000000000 (uR read ref) f 0 0 x=[]:=by
  cases f with
  |zero=>rfl
  |succ f=>rw[path];rfl
 rw[q,List.append_nil]at d;have C:Hd (o=lets (path 1000000000 (uR read ref) (read.size+ref.size) read.size ref.size 0)):=by rw[n,d];exact rfl
 have D:=A4 p;have E:=A4 i;clear h1 u v y z A n d p q i;go_wp2_with fail;refine E.o _ _ ?_;rw[C.o];exact⟨D.o,Fr.of _ rfl ⟨rfl,rfl,rfl,rfl,trivial⟩⟩
theorem A9Y (read ref:ByteArray)(C:read.size≤300)(hm:ref.size≤600)(w:World)(G h oM q k oI r m oD s:Nat)(t u y:Nat→Nat)(D:∀W,Below w.heap.size w W→GL read ref W G (.slice (some ⟨h,oM,none⟩) (read.size+1) q) (.slice (some ⟨k,oI,none⟩) (read.size+1) r) (.slice (some ⟨m,oD,none⟩) (read.size+1) s) h oM k oI m oD t u y)
 (g:Exit→Act→World→Prop)(hQ0:∀(c:List PanicEntry) (a:Act) (d:Option Tmp) (v:Value) (w:World),g (.panic c) (a.put d v) w→g (.panic c) a w)(H:∀n F,LX read ref w G n F→g (.exit 0) n F)(B:Code)(z:Tryz.f125.body.bind B0=some B)(a:Act)(wx:World)(b:LI read ref w G a wx) :
 Code.wp Tryz.prog B (Exit.then (fun n w'=>LI read ref w G n w'∧Lmu n w'<Lmu a wx) g) a wx:=by
 unfold LI at b;obtain⟨i,b⟩:=b;obtain⟨j,b⟩:=b;obtain⟨l,b⟩:=b;obtain⟨c,b⟩:=b;obtain⟨o,b⟩:=b;obtain⟨p,A⟩:=b;by_cases E:0<i+j
 ·have M:l≤2:=by
   obtain⟨L,f,x,h1,N,P,Q,K,_⟩:=p;rw[K];exact A12 _ _
  rcases (show l=0∨l=1∨l=2 by omega) with rfl|rfl|rfl
  ·exact B0p read ref C hm w wx G h oM q k oI r m oD s t u y D i j c o p E a A g hQ0 B z
  ·exact B1J read ref C hm w wx G h oM q k oI r m oD s t u y D i j c o p E a A g hQ0 B z
  ·exact B08 read ref C hm w wx G h oM q k oI r m oD s t u y D i j c o p E a A g hQ0 B z
 ·obtain rfl:i=0:=O;obtain rfl:j=0:=O;exact B3t read ref w wx G l c o p a A _ g H B z
theorem B2Q (read ref:ByteArray)(x:read.size≤300)(hm:ref.size≤600)(w:World)(G f oM k g oI m h oD n:Nat)(p q r:Nat→Nat)(y:∀W,Below w.heap.size w W→GL read ref W G (.slice (some ⟨f,oM,none⟩) (read.size+1) k) (.slice (some ⟨g,oI,none⟩) (read.size+1) m) (.slice (some ⟨h,oD,none⟩) (read.size+1) n) f oM g oI h oD p q r)
 (b:Exit→Act→World→Prop)(hQ0:∀(c:List PanicEntry) (a:Act) (d:Option Tmp) (v:Value) (w:World),b (.panic c) (a.put d v) w→b (.panic c) a w)(z:∀s t,LX read ref w G s t→b (.exit 0) s t)(B:Code)(A:Tryz.f125.body.bind B0=some B)(i j l:Nat)(c:Int)(o:ByteArray)(u:Act)(C:Fr 206 [(0,.pointer (some ⟨G,0,none⟩)),(1,undef),(2,.string ⟨#[]⟩),(3,I J i),(4,I J j),(5,I J c),(6,.string ⟨#[ltr l]⟩),(7,.string o)] u)(wx:World)(D:LtI read ref w wx i j l c o) :
 Code.wp Tryz.prog (Code.loop B) b u wx:=by
 refine wp_loop (LI read ref w G) Lmu ?_ (fun a E F=>A9Y read ref x hm w G f oM k g oI m h oD n p q r y b hQ0 z B A a E F);unfold LI;exact⟨i,j,l,c,o,D,C⟩
theorem A4J (read ref:ByteArray)(S:read.size≤300)(hm:ref.size≤600)(w0 w:World)(G:Nat)(T:TbI read ref w0 w G (read.size+1)) :
 Calls Tryz.prog 125 #[.pointer (some ⟨G,0,none⟩)] w fun e w'=>e=.returned (.string (lets (path 1000000000 (uR read ref) (read.size+ref.size) read.size ref.size 0)))∧Below w.heap.size w w':=by
 obtain⟨j,oM,t,k,oI,u,z,oD,V,m,n,A,B⟩:=T.gl;have X:=A4 B;obtain⟨z0,z1,z2,z3,z4,Y,zc⟩:=B w (Below.refl _ _);obtain⟨C,D,r3⟩:=Y read.size (Nat.le_refl _);obtain⟨s1,s2,r⟩:=zc read.size ref.size (Nat.le_refl _) (Nat.le_refl _);have s:=X3 read ref read.size ref.size S hm;have p:=B3Q (cel 1000000000 (uR read ref) read.size ref.size) _ rfl;obtain⟨cc,E⟩:=A8 (cel 1000000000 (uR read ref) read.size ref.size);have aa:=A4 E;rw[←E]at s1 s2 r s p;obtain⟨f,ci,i⟩:=cc;unfold okB at s;simp only at s1 s2 r s;have ha:aM ⟨f,ci,i⟩=min f (min ci i):=rfl;rw[ha]at p;have F:=fun a b W=>X1 a b W;have ah:(read.size:Int)<(read.size:Int)+1:=O;have ai:(ref.size:Int)<(ref.size:Int)+1:=O;clear B Y zc E T ha;go_enter Tryz.func125,Tryz.ntmps125;go_wp2_with fail;refine A5 33 (fun W=>W.cell? ⟨G,2,none⟩=some (.slice (some ⟨j,oM,none⟩) (read.size+1) t)∧W.cell? ⟨G,3,none⟩=some (.slice (some ⟨k,oI,none⟩) (read.size+1) u)∧W.cell? ⟨G,4,none⟩=some (.slice (some ⟨z,oD,none⟩) (read.size+1) V)∧W.cell? ⟨j,oM+read.size,none⟩=some (.slice (some ⟨m read.size,0,none⟩) (ref.size+1) (ref.size+1))∧W.cell? ⟨k,oI+read.size,none⟩=some (.slice (some ⟨n read.size,0,none⟩) (ref.size+1) (ref.size+1))∧W.cell? ⟨z,oD+read.size,none⟩=some (.slice (some ⟨A read.size,0,none⟩) (ref.size+1) (ref.size+1))∧W.cell? ⟨m read.size,ref.size,none⟩=some (I J f)∧W.cell? ⟨n read.size,ref.size,none⟩=some (I J ci)∧W.cell? ⟨A read.size,ref.size,none⟩=some (I J i)) U ⟨z2,z3,z4,C,D,r3,s1,s2,r⟩ (fun hH=>?_);refine A2 0 ?_;refine A2 1 ?_;refine A2 2 ?_;refine A2 3 ?_;refine A2 4 ?_;refine A2 5 ?_;refine A2 6 ?_;refine A2 7 ?_;refine A2 8 ?_;refine A2 9 ?_;refine A2 10 ?_;refine A2 11 ?_;refine A2 12 ?_;refine A2 13 ?_;refine A2 14 ?_;refine A2 15 ?_;refine A2 16 ?_;refine A2 17 ?_;refine A2 18 ?_;refine A2 19 ?_;refine A2 20 ?_;refine A2 21 ?_;refine A2 22 ?_;refine A2 23 ?_;refine A2 24 ?_;refine A2 25 ?_;refine A2 26 ?_;refine A2 27 ?_;refine A2 28 ?_;refine A2 29 ?_;refine wpS 30 fun K q=>?_;go_simp;go_at_call 169;refine(F _ _ _).mono ?_;rintro e w1 ⟨rfl,rfl⟩;refine F7 q hH ?_;clear q K;refine wpS 31 fun K q=>?_;go_simp;go_at_call 169;refine(F _ _ _).mono ?_;rintro e w1 ⟨rfl,rfl⟩;refine F7 q hH ?_;clear q K;refine A2 32 ?_;refine M7 ?_;clear hH;obtain⟨a,ab⟩:=A8 (min f (min ci i));rw[←ab]at p⊢;have aj:0≤a∧a≤1500000000:=O;clear ab;have H:Hd (∀l,l=nx (cel 1000000000 (uR read ref) read.size ref.size) 0→a=pv (cel 1000000000 (uR read ref) read.size ref.size) l→LtI read ref w w.drew read.size ref.size l a ⟨#[]⟩):=by
  intro l h1 h2;exact⟨[],read.size+ref.size,0,Nat.le_refl _,Nat.le_refl _,Nat.le_refl _,Zs,h1,h2,rfl,rfl,B5 (Below.refl _ _) 1⟩
 rw[←aa.o]at H;have d0:w.drew.cell? ⟨G,2,none⟩=some (.slice (some ⟨j,oM,none⟩) (read.size+1) t):=z2;have d1:w.drew.cell? ⟨G,3,none⟩=some (.slice (some ⟨k,oI,none⟩) (read.size+1) u):=z3;have d2:w.drew.cell? ⟨j,oM+read.size,none⟩=some (.slice (some ⟨m read.size,0,none⟩) (ref.size+1) (ref.size+1)):=C;have d3:w.drew.cell? ⟨k,oI+read.size,none⟩=some (.slice (some ⟨n read.size,0,none⟩) (ref.size+1) (ref.size+1)):=D;have d4:w.drew.cell? ⟨m read.size,ref.size,none⟩=some (I J f):=s1;have d5:w.drew.cell? ⟨n read.size,ref.size,none⟩=some (I J ci):=s2;have L:=A4 p;clear p z2 z3 z4 C D r3 s1 s2 r z0 z1;go_upto_if 61 with fail;go_cut [6] from 8 (fun M wc=>wc=w.drew∧∃l,M=.string ⟨#[ltr l]⟩∧((ci=a∧l=1)∨(¬ci=a∧l=2)));case first=>
  by_cases h1:ci=a
  ·have N:(ci==a)=true:=by rw[beq_iff_eq];exact h1
   have H1:=A4 h1;clear h1;go_wp2_with fail;go_meet;case rel=>exact⟨rfl,1,rfl,Or.inl ⟨H1.o,rfl⟩⟩
  ·have N:(ci==a)=false:=by rw[beq_eq_false_iff_ne];exact h1
   have H1:=A4 h1;clear h1;go_wp2_with fail;go_meet;case rel=>exact⟨rfl,2,rfl,Or.inr ⟨H1.o,rfl⟩⟩
 case rest=>
  obtain⟨rfl,l0,rfl,ac⟩:=hcut;have P:=A4 ac;clear ac;go_upto_if 73 with fail;go_cut [6] from 8 (fun M wc=>wc=w.drew∧∃l,M=.string ⟨#[ltr l]⟩∧l=nx ⟨f,ci,i⟩ 0∧a=pv ⟨f,ci,i⟩ l);case first=>
   by_cases h1:f=a
   ·have N:(f==a)=true:=by rw[beq_iff_eq];exact h1
    have H1:=A4 h1;clear h1;go_wp2_with fail;go_meet;case rel=>
     rcases L.o with h|h|h
     ·exact⟨rfl,0,rfl,h.2.1.symm,h.2.2⟩
     ·exact absurd H1.o h.1
     ·exact absurd H1.o h.1
   ·have N:(f==a)=false:=by rw[beq_eq_false_iff_ne];exact h1
    have H1:=A4 h1;clear h1;go_wp2_with fail;go_meet;case rel=>
     refine⟨rfl,l0,rfl,?_⟩;rcases L.o with h|h|h
     ·exact absurd h.1 H1.o
     ·rcases P.o with g|g
      ·rw[g.2];exact⟨h.2.2.1.symm,h.2.2.2⟩
      ·exact absurd h.2.1 g.1
     ·rcases P.o with g|g
      ·exact absurd g.1 h.2.1
      ·rw[g.2];exact⟨h.2.2.1.symm,h.2.2.2⟩
  case rest=>
   obtain⟨rfl,Q,rfl,ad,ae⟩:=hcut;have af:Hd (LtI read ref w w.drew read.size ref.size Q a ⟨#[]⟩):=H.o Q ad ae;have cU:=fun x y W=>X6 x y W;clear ad ae P L H aa d0 d1 d2 d3 d4 d5 s F;go_wp2_with fail;refine B2Q read ref S hm w G j oM t k oI u z oD V m n A X.o _ ?_ ?_ _ rfl read.size ref.size Q a ⟨#[]⟩ _ (Fr.of _ rfl ⟨rfl,rfl,rfl,rfl,rfl,rfl,rfl,rfl,trivial⟩) _ af.o
   ·intro c a d v w h;cases d<;>exact h
   ·intro a' w2 hX;unfold LX at hX;obtain⟨hB,ag⟩:=hX;obtain⟨f0,rfl,R⟩:=ag;simp only[Hs]at R;simp only[fr,Y5,Nat.reduceAdd,R];clear R;have HB:=A4 hB;clear hB af X;go_wp2_with fail;go_ret;exact⟨rfl,HB.o⟩
def NgC (read ref:ByteArray):Prop:=∀w:World,Calls Tryz.prog 124 #[.string read,.string ref] w fun e w'=>∃G,e=.returned (.pointer (some ⟨G,0,none⟩))∧TbI read ref w w' G (read.size+1)
def RlC (read ref:ByteArray):Prop:=∀(w0 w:World) (G:Nat),TbI read ref w0 w G (read.size+1)→Calls Tryz.prog 125 #[.pointer (some ⟨G,0,none⟩)] w fun e w'=>e=.returned (.string (lets (path 1000000000 (uR read ref) (read.size+ref.size) read.size ref.size 0)))∧Below w.heap.size w w'
theorem A4x (read ref:ByteArray)(hn:read.size≤300)(hm:ref.size≤600)(ab:NgC read ref)(ac:RlC read ref)(w:World) :
 Calls Tryz.prog 96 #[.string read,.string ref] w fun e w'=>e=.returned (.tuple #[.string (lets (fwd read ref)),I J (A2a (sR read ref) (fwd read ref) (0,0):Nat)])∧Below w.heap.size w w':=by
 have ad:Hd (∀k,k<(fwd read ref).length→(stF (((fwd read ref).take k).foldl stF (0,0)) ((fwd read ref).getD k 9)).1≤read.size∧(stF (((fwd read ref).take k).foldl stF (0,0)) ((fwd read ref).getD k 9)).2≤ref.size):=fun k hk=>B3y read ref hn hm k hk;have ae:Hd (∀x∈fwd read ref,x≤2):=fun x E=>A1H _ _ _ _ _ _ x (List.mem_reverse.1 E);have hlen:(fwd read ref).length≤900:=by
  have:=A0Y 1000000000 (uR read ref) (read.size+ref.size) read.size ref.size 0;unfold fwd;rw[List.length_reverse];omega
 have u:=fun w0 W G h=>ac w0 W G h;have hP:path 1000000000 (uR read ref) (read.size+ref.size) read.size ref.size 0=(fwd read ref).reverse:=by unfold fwd;rw[List.reverse_reverse]
 rw[hP]at u;obtain⟨Q,hQ⟩:=A8 (fwd read ref);rw[←hQ]at ad ae hlen u⊢;obtain⟨n,F⟩:=A8 Q.length;have v:=A4 F;obtain⟨s,hs⟩:=A8 (lets Q.reverse);have aD:s.size=n:=by rw[hs,M9,List.length_reverse,F]
 have af:Hd (∀k (h:k<s.size),s[k]=ltr (Q.reverse.getD k 9)):=by
  subst hs;exact A21 Q.reverse
 rw[←hs]at u;rw[←F]at hlen;have an:=A4 ab;have HR:=A4 u;have cS:=fun a b W=>A2d a b W;clear ab ac u hP hQ F hs;go_enter Tryz.func96,Tryz.ntmps96;go_wp2_with fail;refine(an.o w).mono ?_;rintro e w1 ⟨G,rfl,N⟩;have ag:Below w.heap.size w w1:=by obtain⟨_,_,_,_,_,_,_,_,m,_⟩:=N;exact m
 have HT:=A4 N;have P:=A4 ag;clear N ag;go_wp2_with fail;refine(HR.o w w1 G HT.o).mono ?_;rintro e w2 ⟨rfl,ah⟩;have ai:Hd (Below w.heap.size w w2):=P.o.trans (ah.mono P.o.size);clear ah P HT;go_wp2_with fail;go_loopw [7,8] (fun ov y wx=>∃k:Nat,k≤n∧y=I J k∧ov=.string (lets (Q.reverse.take k).reverse)∧Below w.heap.size w wx) (fun _ y _=>n-(intOf y).toNat);case atStart=>exact⟨0,Nat.zero_le _,rfl,rfl,ai.o⟩
 case round=>
  clear ai;obtain⟨k,hk,rfl,rfl,z⟩:=hrel;have c:=A4 z;clear z;obtain⟨o,ho⟩:=A8 (lets (Q.reverse.take k).reverse);have R:=A4 ho;have aE:o.size≤900:=by rw[ho,M9,List.length_reverse,List.length_take];omega
  rw[←ho];clear ho;by_cases ao:k<n
  ·have ap:(k:Int)<n:=O;have aj:k<s.size:=O;have E:=A2y s k aj;rw[af.o k aj]at E;have aq:k<Q.reverse.length:=by rw[List.length_reverse,←v.o];exact ao
   have S:=A3N Q.reverse k aq;obtain⟨l,A⟩:=A8 (Q.reverse.getD k 9);rw[←A]at E S;have ar:=A4 S;have aF:IntKind.i64.wrap ((k:Int)+1)=(k:Int)+1:=Zw;have aG:((k:Int)+1).toNat=k+1:=O;have aH:(0:Int)≤(k:Int)+1:=O;have aI:(k:Int)+1≤n:=O;have aJ:(k:Int)≤(k:Int)+1:=O;have aK:¬9223372036854775807<1+o.size:=O;clear A S;go_wp2_with fail;go_roundw;case rel=>
    refine⟨k+1,O,Zn,?_,c.o⟩;rw[ar.o,A9b,←R.o]
   case measure=>simp[intOf];omega
  ·have au:k=n:=O;subst au;have ap:¬(k:Int)<k:=O;have T:Hd (o=lets Q):=by
    show _=_;rw[R.o,List.take_of_length_le (by rw[List.length_reverse,v.o];exact Nat.le_refl _),List.reverse_reverse]
   have aL:o.size=k:=by rw[T.o,M9,←v.o]
   have av:Hd (∀t (h:t<o.size),o[t]=ltr (Q.getD t 9)):=by
    intro t h;have e:=T.o;subst e;exact A21 Q t h
   clear af R;go_wp2_with fail;go_loopw [9,10,11,12] (fun nv y jv V wx=>∃t:Nat,t≤k∧V=I J t∧nv=I J (A2a (sR read ref) (Q.take t) (0,0):Nat)∧y=I J (((Q.take t).foldl stF (0,0)).1:Nat)∧jv=I J (((Q.take t).foldl stF (0,0)).2:Nat)∧A2a (sR read ref) (Q.take t) (0,0)≤t∧Below w.heap.size w wx) (fun _ _ _ V _=>k-(intOf V).toNat);case atStart=>exact⟨0,Nat.zero_le _,rfl,rfl,rfl,rfl,Nat.le_refl _,c.o⟩
   case round=>
    clear c;obtain⟨t,ht,rfl,rfl,rfl,rfl,aw,z⟩:=hrel;have c:=A4 z;clear z;by_cases ax:t<k
    ·have ay:(t:Int)<k:=O;have H:t<Q.length:=by rw[←v.o];exact ax
     have az:t<o.size:=O;have r:=ad.o t H;have aA:Q.getD t 9≤2:=ae.o _ (by simp[H]);have q:=av.o t az;have X:Q.take (t+1)=Q.take t++[Q.getD t 9]:=by
      rw[List.take_succ_eq_append_getElem H];simp[H]
     have B:A2a (sR read ref) (Q.take (t+1)) (0,0)=A2a (sR read ref) (Q.take t) (0,0)+if Q.getD t 9=0∧sR read ref ((Q.take t).foldl stF (0,0)).1 ((Q.take t).foldl stF (0,0)).2=true then 1 else 0:=by rw[X,A2Q]
     have L:(Q.take (t+1)).foldl stF (0,0)=stF ((Q.take t).foldl stF (0,0)) (Q.getD t 9):=by rw[X,List.foldl_append];rfl
     obtain⟨cn,ak⟩:=A8 (A2a (sR read ref) (Q.take t) (0,0));obtain⟨p,al⟩:=A8 ((Q.take t).foldl stF (0,0));rw[←ak]at B aw⊢;rw[←al]at r B L⊢;obtain⟨l,A⟩:=A8 (Q.getD t 9);rw[←A]at r aA q B L;have d:=A4 B;have f:=A4 L;have aM:IntKind.i64.wrap ((cn:Int)+1)=(cn:Int)+1:=Zw;clear B L ak al A X;obtain⟨i,j⟩:=p;have aN:IntKind.i64.wrap ((i:Int)+1)=(i:Int)+1:=by
      have:i≤read.size:=by have:=r.1;unfold stF at this;simp only at this;split at this<;>omega
      rw[IntKind.wrap_i64];omega
     have aO:IntKind.i64.wrap ((j:Int)+1)=(j:Int)+1:=by
      have:j≤ref.size:=by have:=r.2;unfold stF at this;simp only at this;split at this<;>omega
      rw[IntKind.wrap_i64];omega
     simp only at d⊢;rcases (show l=0∨l=1∨l=2 by omega) with rfl|rfl|rfl
     ·have hi:i<read.size:=r.1;have hj:j<ref.size:=r.2;have aP:(i:Int)<read.size:=O;have aQ:(j:Int)<ref.size:=O;have Y:=B3V read ref i j hi hj;have C:=fun W=>A2d read[i] ref[j] W;rw[Y]at C;rw[show ltr 0=(77:UInt8) from rfl]at q;have am:((o[t].toNat:Int))=77:=by rw[q];rfl
      by_cases m:sR read ref i j=true
      ·rw[m]at C;have M:=A4 m;clear m Y cS;go_upto_region 14 with fail;refine A5 8 (fun _=>True) U trivial (fun hH=>?_);refine A2 0 ?_;refine A2 1 ?_;refine A2 2 ?_;refine A2 3 ?_;refine A2 4 ?_;refine A2 5 ?_;refine wpS 6 fun K D=>?_;go_simp;go_at_call 126;refine(C _).mono ?_;rintro e w9 ⟨rfl,rfl⟩;refine F7 D trivial ?_;clear D K;refine A2 7 ?_;refine M7 ?_;clear hH;go_wp2_with fail;go_roundw;case rel=>
        refine⟨t+1,O,Zn,?_,?_,?_,?_,B5 c.o 1⟩
        ·rw[d.o,if_pos ⟨rfl,M.o⟩];go_num
        ·rw[f.o];show _=I J ((i+1:Nat):Int);go_num
        ·rw[f.o];show _=I J ((j+1:Nat):Int);go_num
        ·rw[d.o,if_pos ⟨rfl,M.o⟩];omega
       case measure=>simp[intOf];omega
      ·have aa:sR read ref i j=false:=by simpa using m
       rw[aa]at C;have M:=A4 aa;clear m aa Y cS;go_upto_region 14 with fail;refine A5 8 (fun _=>True) U trivial (fun hH=>?_);refine A2 0 ?_;refine A2 1 ?_;refine A2 2 ?_;refine A2 3 ?_;refine A2 4 ?_;refine A2 5 ?_;refine wpS 6 fun K D=>?_;go_simp;go_at_call 126;refine(C _).mono ?_;rintro e w9 ⟨rfl,rfl⟩;refine F7 D trivial ?_;clear D K;refine A2 7 ?_;refine M7 ?_;clear hH;go_wp2_with fail;go_roundw;case rel=>
        have g:¬(0=0∧sR read ref i j=true):=fun h=>by have:=h.2;rw[M.o]at this;cases this
        refine⟨t+1,O,Zn,?_,?_,?_,?_,B5 c.o 1⟩
        ·rw[d.o,if_neg g];rfl
        ·rw[f.o];show _=I J ((i+1:Nat):Int);go_num
        ·rw[f.o];show _=I J ((j+1:Nat):Int);go_num
        ·rw[d.o,if_neg g];omega
       case measure=>simp[intOf];omega
     ·rw[show ltr 1=(73:UInt8) from rfl]at q;have am:((o[t].toNat:Int))=73:=by rw[q];rfl
      go_wp2_with fail;go_roundw;case rel=>
       have g:¬(1=0∧sR read ref i j=true):=fun h=>absurd h.1 Z;refine⟨t+1,O,Zn,?_,?_,?_,?_,c.o⟩
       ·rw[d.o,if_neg g];rfl
       ·rw[f.o];show _=I J ((i+1:Nat):Int);go_num
       ·rw[f.o];rfl
       ·rw[d.o,if_neg g];omega
      case measure=>simp[intOf];omega
     ·rw[show ltr 2=(68:UInt8) from rfl]at q;have am:((o[t].toNat:Int))=68:=by rw[q];rfl
      go_wp2_with fail;go_roundw;case rel=>
       have g:¬(2=0∧sR read ref i j=true):=fun h=>absurd h.1 Z;refine⟨t+1,O,Zn,?_,?_,?_,?_,c.o⟩
       ·rw[d.o,if_neg g];rfl
       ·rw[f.o];rfl
       ·rw[f.o];show _=I J ((j+1:Nat):Int);go_num
       ·rw[d.o,if_neg g];omega
      case measure=>simp[intOf];omega
    ·have aB:t=k:=O;subst aB;have ay:¬(t:Int)<t:=O;have aC:Q.take t=Q:=List.take_of_length_le (by rw[v.o];exact Nat.le_refl _);rw[aC];go_wp2_with fail;go_ret2;refine⟨?_,c.o⟩;rw[←T.o];rfl
def loops:Code→List Code
 |.loop c=>[c]
 |.seq a b=>loops a++loops b
 |.block _ c=>loops c
 |.scope c=>loops c
 |.cond _ a b=>loops a++loops b
 |_=>[]
def B1C (read ref:ByteArray)(w4:World)(p q r i j:Nat)(xM:Int)(k:Nat)(wx:World):Prop:=k≤i∧I3 w4 wx p q r∧RX wx p (ref.size+1) j (fun k=>(cel 1000000000 (uR read ref) i k).m) xM∧RX wx q (ref.size+1) j (fun k=>(cel 1000000000 (uR read ref) i k).i) (V5 1000000000 (uR read ref) i j k)∧RX wx r (ref.size+1) j (fun k=>(cel 1000000000 (uR read ref) i k).d) 1000000000
def A8P (read ref:ByteArray)(w4:World)(G p q r i j:Nat)(xM:Int)(a:Act)(wx:World):Prop:=∃k:Nat,B1C read ref w4 p q r i j xM k wx∧Fr 277 [(0,.string read),(1,.string ref),(5,.pointer (some ⟨G,0,none⟩)),(6,I J i),(7,I J j),(8,I J ((k:Int)+1))] a
def IMu (i j:Nat)(a:Act)(_:World):Nat:=i+1-(intOf (a.tmps.getD 8 undef)).toNat
def A67 (read ref:ByteArray)(w4:World)(G p q r i j:Nat)(xM:Int)(a:Act)(wx:World):Prop:=B1C read ref w4 p q r i j xM i wx∧Fr 277 [(0,.string read),(1,.string ref),(5,.pointer (some ⟨G,0,none⟩)),(6,I J i),(7,I J j)] a
def A4U (read ref:ByteArray)(w4:World)(p q r i j:Nat)(xM xI:Int)(k:Nat)(wx:World):Prop:=k≤j∧I3 w4 wx p q r∧RX wx p (ref.size+1) j (fun k=>(cel 1000000000 (uR read ref) i k).m) xM∧RX wx q (ref.size+1) j (fun k=>(cel 1000000000 (uR read ref) i k).i) xI∧RX wx r (ref.size+1) j (fun k=>(cel 1000000000 (uR read ref) i k).d) (A1b 1000000000 (uR read ref) i j k)
def A9j (read ref:ByteArray)(w4:World)(G p q r i j:Nat)(xM xI:Int)(a:Act)(wx:World):Prop:=∃k:Nat,A4U read ref w4 p q r i j xM xI k wx∧Fr 277 [(0,.string read),(1,.string ref),(5,.pointer (some ⟨G,0,none⟩)),(6,I J i),(7,I J j),(9,I J ((k:Int)+1))] a
def DMu (i j:Nat)(a:Act)(_:World):Nat:=j+1-(intOf (a.tmps.getD 9 undef)).toNat
def A7J (read ref:ByteArray)(w4:World)(G p q r i j:Nat)(xM xI:Int)(a:Act)(wx:World):Prop:=A4U read ref w4 p q r i j xM xI j wx∧Fr 277 [(0,.string read),(1,.string ref),(5,.pointer (some ⟨G,0,none⟩)),(6,I J i),(7,I J j)] a
theorem B3d (read ref:ByteArray)(hn:read.size≤300)(hm:ref.size≤600)(g:World)(G i h oM R l oI S m oD T p q r:Nat)(n V s:Nat→Nat)(hi:i≤read.size)(X:∀W,I3 g W p q r→GF read ref W G i (.slice (some ⟨h,oM,none⟩) (i+1) R) (.slice (some ⟨l,oI,none⟩) (i+1) S) (.slice (some ⟨m,oD,none⟩) (i+1) T) h oM l oI m oD n V s)(ab:n i=p∧V i=q∧s i=r)(ac:p≠q)(am:p≠r)(ad:q≠r)(j:Nat)(hj:j≤ref.size)(Y:Int)(k:Nat)(hk:k<i)(wr:World)(hR:B1C read ref g p q r i j Y k wr)(C:Act)(ae:Fr 277 [(0,.string read),(1,.string ref),(5,.pointer (some ⟨G,0,none⟩)),(6,I J i),(7,I J j),(8,I J ((k:Int)+1))] C)(D:Exit→Act→World→Prop)(hQ0:∀(c:List PanicEntry) (a:Act) (d:Option Tmp) (v:Value) (w:World),D (.panic c) (a.put d v) w→D (.panic c) a w)(B:Code)(hB:((((Tryz.f124.body.bind B0).bind B0).map loops).getD [])[0]?=some B) :
 Code.wp Tryz.prog B (Exit.then (fun a' w'=>A8P read ref g G p q r i j Y a' w'∧IMu i j a' w'<IMu i j C wr) D) C wr:=by
 have t:=hB;conv at t=>lhs;whnf
 injection t with t;subst t;clear hB;obtain⟨f0,rfl,E⟩:=ae;simp only[Hs]at E;simp only[fr,Y5,Nat.reduceAdd,E];clear E;obtain⟨_,F,xp,u,xr⟩:=hR;obtain⟨g2,g3,g4,H,gc⟩:=X wr F;obtain⟨d,hd⟩:=A8 (i-(k+1));obtain⟨r1,r2,r3⟩:=H i (Nat.le_refl _);rw[ab.2.1]at r2;obtain⟨s1,s2,s3⟩:=H d O;obtain⟨t1,t2,t3⟩:=gc d j O hj;have y:=X3 read ref d j O O;obtain⟨cc,L⟩:=A8 (cel 1000000000 (uR read ref) d j);rw[←L]at t1 t3 y;have M:=u.2;obtain⟨x,N⟩:=A8 (V5 1000000000 (uR read ref) i j k);rw[←N]at M;obtain⟨A,c1,b1⟩:=cc;have P:Hd (V5 1000000000 (uR read ref) i j (k+1)=min x (min A b1+4+2*((k:Int)+1))):=by
  show _=_;rw[V5,←N,←hd,←L]
 try simp only at t1 t3
 have an:(d:Int)<(i:Int)+1:=O;unfold okB at y;simp only at y;have af:(i:Int)-((k:Int)+1)=(d:Int):=O;have ao:IntKind.i64.wrap ((i:Int)-((k:Int)+1))=(d:Int):=Zw;have ap:IntKind.i64.wrap (d:Int)=(d:Int):=Zw;obtain⟨b,Q⟩:=A8 (min A b1);have ag:0≤b∧b≤1500000000:=O;have w1:IntKind.i64.wrap (b+4)=b+4:=Zw;have w2:IntKind.i64.wrap (2*((k:Int)+1))=2*((k:Int)+1):=Zw;have w3:IntKind.i64.wrap (b+4+2*((k:Int)+1))=b+4+2*((k:Int)+1):=Zw;have wk:IntKind.i64.wrap ((k:Int)+1+1)=(k:Int)+1+1:=Zw;have cA:=fun W=>X1 A b1 W;rw[←Q]at cA;have cB:=fun W=>X1 x (b+4+2*((k:Int)+1)) W;rw[←Q]at P;have aq:(k:Int)+1≤i:=O;have ar:(i:Int)<(i:Int)+1:=O;have au:(j:Int)<(ref.size:Int)+1:=O;obtain⟨z,hz⟩:=A8 (min x (b+4+2*((k:Int)+1)));rw[←hz]at cB P;have ah:=A4 xp;have ai:=A4 u;have aj:=A4 xr;have ak:=A4 F;have fz:wr.drew.frozen? ⟨q,j,none⟩=false:=(u.1.any j O).2;have fy:wr.drew.cell? ⟨q,j,none⟩=some (I J x):=M;have aa:=A4 hk;clear af hd L N Q hz F xp u xr H gc X y ag;go_upto_region 21 with fail;refine A5 49 (fun W=>W.cell? ⟨G,2,none⟩=some (.slice (some ⟨h,oM,none⟩) (i+1) R)∧W.cell? ⟨G,3,none⟩=some (.slice (some ⟨l,oI,none⟩) (i+1) S)∧W.cell? ⟨G,4,none⟩=some (.slice (some ⟨m,oD,none⟩) (i+1) T)∧W.cell? ⟨l,oI+i,none⟩=some (.slice (some ⟨q,0,none⟩) (ref.size+1) (ref.size+1))∧W.cell? ⟨h,oM+d,none⟩=some (.slice (some ⟨n d,0,none⟩) (ref.size+1) (ref.size+1))∧W.cell? ⟨m,oD+d,none⟩=some (.slice (some ⟨s d,0,none⟩) (ref.size+1) (ref.size+1))∧W.cell? ⟨q,j,none⟩=some (I J x)∧W.cell? ⟨n d,j,none⟩=some (I J A)∧W.cell? ⟨s d,j,none⟩=some (I J b1)) U ⟨g2,g3,g4,r2,s1,s3,M,t1,t3⟩ (fun hH=>?_);refine A2 0 ?_;refine A2 1 ?_;refine A2 2 ?_;refine A2 3 ?_;refine A2 4 ?_;refine A2 5 ?_;refine A2 6 ?_;refine A2 7 ?_;refine A2 8 ?_;refine A2 9 ?_;refine A2 10 ?_;refine A2 11 ?_;refine A2 12 ?_;refine A2 13 ?_;refine A2 14 ?_;refine A2 15 ?_;refine A2 16 ?_;refine A2 17 ?_;refine A2 18 ?_;refine A2 19 ?_;refine A2 20 ?_;refine A2 21 ?_;refine A2 22 ?_;refine A2 23 ?_;refine A2 24 ?_;refine A2 25 ?_;refine A2 26 ?_;refine A2 27 ?_;refine A2 28 ?_;refine A2 29 ?_;refine A2 30 ?_;refine A2 31 ?_;refine A2 32 ?_;refine A2 33 ?_;refine A2 34 ?_;refine A2 35 ?_;refine A2 36 ?_;refine A2 37 ?_;refine A2 38 ?_;refine A2 39 ?_;refine A2 40 ?_;refine A2 41 ?_;refine A2 44 ?_;refine A2 45 ?_;refine wpS 42 fun K f=>?_;go_simp;go_at_call 169;refine(cA _).mono ?_;rintro e wz ⟨rfl,rfl⟩;refine F7 f hH ?_;clear f K;refine A2 43 ?_;refine A2 46 ?_;refine wpS 47 fun K f=>?_;go_simp;go_at_call 169;refine(cB _).mono ?_;rintro e wz ⟨rfl,rfl⟩;refine F7 f hH ?_;clear f K;refine A2 48 ?_;refine C1 (i:=49) U rfl U U (fun K f=>?_);go_simp;refine f.out _ _ ?_;clear f K hH;try simp only[Act.put,zA0,zZ0,zS0]
 go_wp2_with fail;refine⟨?_,?_⟩
 ·refine⟨k+1,?_,Fr.of _ rfl ⟨rfl,rfl,rfl,rfl,rfl,rfl,trivial⟩⟩;have al:I3 g (wr.drew.setCell ⟨q,j,none⟩ (I J z)) p q r:=(ak.o.drewN 1).set _ _ _ (Or.inr (Or.inl rfl));refine⟨aa.o,al,?_,?_,?_⟩
  ·exact ah.o.other (heap_setCell_other wr.drew _ p _ ac)
  ·rw[P.o];exact(ai.o.1.other (w':=wr.drew) rfl).set O z
  ·exact aj.o.other (heap_setCell_other wr.drew _ r _ (Ne.symm ad))
 ·have:=aa.o;simp[IMu,intOf];omega
theorem B30 (read ref:ByteArray)(c:World)(G p q r i j:Nat)(hi:i≤read.size)(v:j≤ref.size)(w:read.size≤300)(hm:ref.size≤600)(d:Int)(wr:World)(f:B1C read ref c p q r i j d i wr)(g:Act)(n:Fr 277 [(0,.string read),(1,.string ref),(5,.pointer (some ⟨G,0,none⟩)),(6,I J i),(7,I J j),(8,I J ((i:Int)+1))] g)(s:Act→World→Prop)(h:Exit→Act→World→Prop)(k:∀l w',A67 read ref c G p q r i j d l w'→h (.exit 4) l w')(B:Code)(m:((((Tryz.f124.body.bind B0).bind B0).map loops).getD [])[0]?=some B) :
 Code.wp Tryz.prog B (Exit.then s h) g wr:=by
 have a:=m;conv at a=>lhs;whnf
 injection a with a;subst a;clear m;obtain⟨f0,rfl,b⟩:=n;simp only[Hs]at b;simp only[fr,Y5,Nat.reduceAdd,b];clear b;have t:=A4 k;have u:=A4 f;have x:¬(i:Int)+1≤i:=O;clear k f;go_wp2_with fail;refine t.o _ _ ?_;exact⟨u.o,Fr.of _ rfl ⟨rfl,rfl,rfl,rfl,rfl,trivial⟩⟩
theorem B2H (read ref:ByteArray)(y:read.size≤300)(hm:ref.size≤600)(b:World)(G i m oM z n oI A o oD C p q r:Nat)(s t u:Nat→Nat)(hi:i≤read.size)(H:∀W,I3 b W p q r→GF read ref W G i (.slice (some ⟨m,oM,none⟩) (i+1) z) (.slice (some ⟨n,oI,none⟩) (i+1) A) (.slice (some ⟨o,oD,none⟩) (i+1) C) m oM n oI o oD s t u)(K:s i=p∧t i=q∧u i=r)(L:p≠q)(M:p≠r)(N:q≠r)(j:Nat)(D:j≤ref.size)(g:Int)(f:Exit→Act→World→Prop)(hQ0:∀(c:List PanicEntry) (a:Act) (d:Option Tmp) (v:Value) (w:World),f (.panic c) (a.put d v) w→f (.panic c) a w)(P:∀h w',A67 read ref b G p q r i j g h w'→f (.exit 4) h w')(B:Code)(E:((((Tryz.f124.body.bind B0).bind B0).map loops).getD [])[0]?=some B)(a:Act)(wx:World)(l:A8P read ref b G p q r i j g a wx) :
 Code.wp Tryz.prog B (Exit.then (fun h w'=>A8P read ref b G p q r i j g h w'∧IMu i j h w'<IMu i j a wx) f) a wx:=by
 unfold A8P at l;obtain⟨k,l⟩:=l;obtain⟨x,F⟩:=l;have hk:=x.1;by_cases Q:k<i
 ·exact B3d read ref y hm b G i m oM z n oI A o oD C p q r s t u hi H K L M N j D g k Q wx x a F f hQ0 B E
 ·obtain rfl:k=i:=O;exact B30 read ref b G p q r k j hi D y hm g wx x a F _ f P B E
theorem A49 (read ref:ByteArray)(z:read.size≤300)(hm:ref.size≤600)(b:World)(G i h oM s k oI t l oD u p q r:Nat)(m n o:Nat→Nat)(hi:i≤read.size)(A:∀W,I3 b W p q r→GF read ref W G i (.slice (some ⟨h,oM,none⟩) (i+1) s) (.slice (some ⟨k,oI,none⟩) (i+1) t) (.slice (some ⟨l,oD,none⟩) (i+1) u) h oM k oI l oD m n o)(C:m i=p∧n i=q∧o i=r)(D:p≠q)(E:p≠r)(F:q≠r)(j:Nat)(H:j≤ref.size)(g:Int)(f:Exit→Act→World→Prop)(hQ0:∀(c:List PanicEntry) (a:Act) (d:Option Tmp) (v:Value) (w:World),f (.panic c) (a.put d v) w→f (.panic c) a w)(K:∀x w',A67 read ref b G p q r i j g x w'→f (.exit 4) x w')(B:Code)(L:((((Tryz.f124.body.bind B0).bind B0).map loops).getD [])[0]?=some B)(y:Act)(M:Fr 277 [(0,.string read),(1,.string ref),(5,.pointer (some ⟨G,0,none⟩)),(6,I J i),(7,I J j),(8,I J (1))] y)(wx:World)(N:B1C read ref b p q r i j g 0 wx) :
 Code.wp Tryz.prog (Code.loop B) f y wx:=by
 refine wp_loop (A8P read ref b G p q r i j g) (IMu i j) ?_ (fun a P Q=>B2H read ref z hm b G i h oM s k oI t l oD u p q r m n o hi A C D E F j H g f hQ0 K B L a P Q);unfold A8P;exact⟨0,N,M⟩
end
end Go.Proofs.YtilcmkiihefkkaaGreatDoor
