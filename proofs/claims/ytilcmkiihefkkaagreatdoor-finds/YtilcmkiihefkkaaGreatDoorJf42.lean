import Derived.Test.YtilcmkiihefkkaaGreatDoorJf7
import Derived.Test.YtilcmkiihefkkaaGreatDoorJf22
import Derived.Test.YtilcmkiihefkkaaGreatDoorJf40
set_option linter.unusedVariables false
set_option linter.unusedSimpArgs false
set_option linter.unusedSectionVars false
set_option maxRecDepth 1000000
set_option maxHeartbeats 64000000
open Go.Value renaming int→I
open Go.IntKind renaming i64→J
namespace Go.Proofs.YtilcmkiihefkkaaGreatDoor
namespace Mn
section
open Go.RowKit Go.Shelf Go.Lib Go.Sort
def tw (s:Int×Bool):Int:=2*s.1+(if s.2=true then 1 else 0)
theorem A16 (n:Int)(b:Bool)(w:World)(a:0≤n)(h1:n<100000) :
 Calls Tryz.prog 91 #[I J n,.bool b] w fun e w'=>e=.returned (I J (tw (n,b)))∧w'=w:=by
 have w1:IntKind.i64.wrap (2*n)=2*n:=Zw;have w2:IntKind.i64.wrap (2*n+1)=2*n+1:=Zw;cases b
 ·go_enter Tryz.func91,Tryz.ntmps91;go_wp2;go_ret;exact⟨by simp[tw],rfl⟩
 ·go_enter Tryz.func91,Tryz.ntmps91;go_wp2;go_ret;exact⟨by simp[tw],rfl⟩
theorem A71 (a b:Int)(c d:Bool)(w:World)(h1:0≤a∧a<100000)(j:0≤b∧b<100000) :
 Calls Tryz.prog 141 #[.agg #[I J a,.bool c],.agg #[I J b,.bool d]] w fun e w'=>e=.returned (I J (E4 (tw (a,c)) (tw (b,d))))∧∃q os,w'=Sort.grow (w.drewN q) os:=by
 have n:=fun W=>A16 a c W h1.1 h1.2;have p:=fun W=>A16 b d W j.1 j.2;have i:=fun k=>AnyG.cmp_Compare_int Tryz.cmpInt (tw (a,c)) (tw (b,d)) k;change ∀k,Calls Tryz.prog 119 _ _ _ at i;rw[A0s]at i;generalize tw (a,c)=r at *;generalize tw (b,d)=tb at *;generalize E4 r tb=z at *;go_enter Tryz.func141,Tryz.ntmps141;go_wp2_with fail;rename_i u v s;obtain⟨g,h⟩:=A8 ((w.alloc (Obj.cells #[I J a,Value.bool c] 178)).alloc (Obj.cells #[I J b,Value.bool d] 178));have t:Hd (∃os,g.drew=Sort.grow (w.drewN 1) os):=by
  refine⟨#[.cells #[I J a,.bool c] 178]++#[.cells #[I J b,.bool d] 178],?_⟩;rw[h,Sort.alloc_eq_grow,Sort.alloc_eq_grow,Sort.grow_grow];rfl
 have l:g.heap[w.heap.size]?=some (.cells #[I J a,Value.bool c] 178 (0,0)):=by rw[h,Below.heap_alloc _ _ _ Zs];exact heap_alloc_new w _
 have m:g.heap[w.heap.size+1]?=some (.cells #[I J b,Value.bool d] 178 (0,0)):=by
  have:=heap_alloc_new (w.alloc (Obj.cells #[I J a,Value.bool c] 178)) (Obj.cells #[I J b,Value.bool d] 178);have e1:(w.alloc (Obj.cells #[I J a,Value.bool c] 178)).heap.size=w.heap.size+1:=Zs;rw[e1]at this;rw[h];exact this
 rw[←h];clear h;have f0:g.drew.cell? ⟨w.heap.size,0,none⟩=some (I J a):=A1 l rfl;have f1:g.drew.cell? ⟨w.heap.size,1,none⟩=some (.bool c):=A1 l rfl;have f2:g.drew.cell? ⟨w.heap.size+1,0,none⟩=some (I J b):=A1 m rfl;have f3:g.drew.cell? ⟨w.heap.size+1,1,none⟩=some (.bool d):=A1 m rfl;refine A5 12 (fun W=>W.cell? ⟨w.heap.size,0,none⟩=some (I J a)∧W.cell? ⟨w.heap.size,1,none⟩=some (.bool c)∧W.cell? ⟨w.heap.size+1,0,none⟩=some (I J b)∧W.cell? ⟨w.heap.size+1,1,none⟩=some (.bool d)) U ⟨f0,f1,f2,f3⟩ (fun hH=>?_);refine A2 0 ?_;refine A2 1 ?_;refine A2 2 ?_;refine A2 3 ?_;refine A2 5 ?_;refine A2 6 ?_;refine A2 7 ?_;refine A2 8 ?_;refine wpS 4 fun K f=>?_;go_simp;go_at_call 91;refine(n _).mono ?_;rintro e w7 ⟨rfl,rfl⟩;refine E0 f hH ?_;clear f K;refine wpS 9 fun K f=>?_;go_simp;go_at_call 91;refine(p _).mono ?_;rintro e w7 ⟨rfl,rfl⟩;refine E0 f hH ?_;clear f K;refine wpS 10 fun K f=>?_;go_simp;go_at_call 119;refine(i _).mono ?_;rintro e w7 ⟨rfl,rfl⟩;refine E0 f hH ?_;clear f K;refine A2 11 ?_;refine J5 ?_;refine s _ _ ?_;go_wp2_with fail;go_ret;exact⟨rfl,1,t.o⟩
def Grw (a b:World):Prop:=∃q os,b=Sort.grow (a.drewN q) os
theorem Grw.trans {a b c:World}(h:Grw a b)(k:Grw b c):Grw a c:=by
 obtain⟨d,o1,rfl⟩:=h;obtain⟨f,g,rfl⟩:=k;refine⟨d+f,o1++g,?_⟩;rw[←World.drewN_drewN,←Sort.grow_grow];rfl
theorem Grw.alloc {a b:World}(h:Grw a b)(o:Obj):Grw a (b.alloc o):=h.trans ⟨0,#[o],by rw[Sort.alloc_eq_grow];rfl⟩
theorem Grw.drew {a b:World}(h:Grw a b):Grw a b.drew:=h.trans ⟨1,#[],by
 have e:(b.drewN 1).heap++(#[]:Array Obj)=(b.drewN 1).heap:=Array.append_empty
 show b.drew={(b.drewN 1) with heap:=(b.drewN 1).heap++#[]}
 rw[e];rfl⟩
theorem Grw.refl (a:World):Grw a a:=⟨0,#[],by
 have e:(a.drewN 0).heap++(#[]:Array Obj)=(a.drewN 0).heap:=Array.append_empty
 show a={(a.drewN 0) with heap:=(a.drewN 0).heap++#[]}
 rw[e];rfl⟩
theorem Grw.block {a b:World}(h:Grw a b){g:Nat}(c:g<a.heap.size):b.heap[g]?=a.heap[g]?:=by
 obtain⟨q,o,rfl⟩:=h;show(a.heap++o)[g]?=_;rw[Array.getElem?_append_left c]
theorem Grw.size {a b:World}(h:Grw a b):a.heap.size≤b.heap.size:=by
 obtain⟨q,o,rfl⟩:=h;show _≤(a.heap++o).size;simp
def ccI (qa qb ta tb:Int):Int:=if E4 qb qa=0 then E4 ta tb else E4 qb qa
theorem A8s (a b:Int)(c d:Bool)(k m:Value)(f g:Int)(w:World)(h1:0≤a∧a<100000)(B:0≤b∧b<100000)(P:0≤f∧f≤100000)(Q:0≤g∧g≤100000)(R:k.oneCell'=true)(S:m.oneCell'=true) :
 Calls Tryz.prog 105 #[.agg #[I J a,.bool c,k,.float .f64 (fq f)],.agg #[I J b,.bool d,m,.float .f64 (fq g)]] w fun e w'=>e=.returned (I J (ccI f g (tw (a,c)) (tw (b,d))))∧Grw w w':=by
 have C:=fun W=>A5Y g f O O W;have cS:=fun W=>A71 a b c d W h1 B;have D:Hd (ccI f g (tw (a,c)) (tw (b,d))=if E4 g f=0 then E4 (tw (a,c)) (tw (b,d)) else E4 g f):=rfl;generalize ccI f g (tw (a,c)) (tw (b,d))=z at *;generalize E4 g f=x at *;generalize E4 (tw (a,c)) (tw (b,d))=y at *;generalize fq f=l at *;generalize fq g=n at *;go_enter Tryz.func105,Tryz.ntmps105;go_wp2_with fail;rename_i T V E;obtain⟨i,p⟩:=A8 ((w.alloc (Obj.cells #[I J a,Value.bool c,k,Value.float FloatKind.f64 l] 180)).alloc (Obj.cells #[I J b,Value.bool d,m,Value.float FloatKind.f64 n] 180));have F:Hd (Grw w i):=by rw[p];exact((Grw.refl w).alloc _).alloc _
 have G:i.heap[w.heap.size]?=some (.cells #[I J a,Value.bool c,k,Value.float FloatKind.f64 l] 180 (0,0)):=by rw[p,Below.heap_alloc _ _ _ Zs];exact heap_alloc_new w _
 have u:i.heap[w.heap.size+1]?=some (.cells #[I J b,Value.bool d,m,Value.float FloatKind.f64 n] 180 (0,0)):=by
  have:=heap_alloc_new (w.alloc (Obj.cells #[I J a,Value.bool c,k,Value.float FloatKind.f64 l] 180)) (Obj.cells #[I J b,Value.bool d,m,Value.float FloatKind.f64 n] 180);have e1:(w.alloc (Obj.cells #[I J a,Value.bool c,k,Value.float FloatKind.f64 l] 180)).heap.size=w.heap.size+1:=Zs;rw[e1]at this;rw[p];exact this
 have H:w.heap.size+1<i.heap.size:=lt_of_block u;rw[←p];clear p;have g0:∀W:World,(∀j,j<i.heap.size→W.heap[j]?=i.heap[j]?)→W.cell? ⟨w.heap.size,3,none⟩=some (.float .f64 l)∧W.cell? ⟨w.heap.size+1,3,none⟩=some (.float .f64 n)∧W.cell? ⟨w.heap.size,0,none⟩=some (I J a)∧W.cell? ⟨w.heap.size,1,none⟩=some (.bool c)∧W.cell? ⟨w.heap.size+1,0,none⟩=some (I J b)∧W.cell? ⟨w.heap.size+1,1,none⟩=some (.bool d):=by
  intro W v;have s:=(v _ O).trans G;have k1:=(v _ H).trans u;exact⟨A1 s rfl,A1 k1 rfl,A1 s rfl,A1 s rfl,A1 k1 rfl,A1 k1 rfl⟩
 refine A5 13 (fun W=>W.cell? ⟨w.heap.size,3,none⟩=some (.float .f64 l)∧W.cell? ⟨w.heap.size+1,3,none⟩=some (.float .f64 n)∧W.cell? ⟨w.heap.size,0,none⟩=some (I J a)∧W.cell? ⟨w.heap.size,1,none⟩=some (.bool c)∧W.cell? ⟨w.heap.size+1,0,none⟩=some (I J b)∧W.cell? ⟨w.heap.size+1,1,none⟩=some (.bool d)) U (g0 _ (fun _ _=>rfl)) (fun hH=>?_);refine A2 0 ?_;refine A2 1 ?_;refine A2 2 ?_;refine A2 3 ?_;refine A2 5 ?_;refine A2 6 ?_;refine A2 7 ?_;refine A2 8 ?_;refine wpS 4 fun K h=>?_;go_simp;go_at_call 140;refine(C _).mono ?_;rintro e w7 ⟨rfl,rfl⟩;refine E0 h hH ?_;clear h K;refine wpS 9 fun K h=>?_;go_simp;go_at_call 141;refine(cS _).mono ?_;rintro e w7 ⟨rfl,A⟩;have q:Grw i w7:=((Grw.refl i).drew).trans A;have hH:=g0 w7 (fun j r=>q.block r);have L:Hd (Grw w w7):=F.o.trans q;refine E0 h hH ?_;clear h K A;refine wpS 10 fun K h=>?_;go_simp;have hH:=g0 (w7.alloc (Obj.cells #[I J x,I J y] 3)) (fun j r=>(Below.heap_alloc w7 _ j (Nat.lt_of_lt_of_le r q.size)).trans (q.block r));have t:=heap_alloc_new w7 (Obj.cells #[I J x,I J y] 3);have M:=A3L x y w7.heap.size (w7.alloc (Obj.cells #[I J x,I J y] 3)) (A1 t rfl) (A1 t rfl) z D.o;have N:Hd (Grw w (w7.alloc (Obj.cells #[I J x,I J y] 3))):=L.o.alloc _;refine E0 h hH ?_;clear h K t;refine wpS 11 fun K h=>?_;go_simp;go_at_call 139;refine M.mono ?_;rintro e X ⟨rfl,rfl⟩;refine E0 h hH ?_;clear h K;refine A2 12 ?_;refine J5 ?_;refine E _ _ ?_;go_wp2_with fail;go_ret;exact⟨rfl,N.o⟩
section
variable {α:Type} [Inhabited α] {enc:α→List Value} {k:Nat}
theorem A6g (hk:∀x,(enc x).length=k):∀L:List α,(L.flatMap enc).length=L.length*k
 |[]=>Zs
 |x::t=>by simp only[List.flatMap_cons,List.length_append,hk,A6g hk t,List.length_cons,Nat.add_mul];omega
theorem A3Y (hk:∀x,(enc x).length=k):∀(L:List α) (q r:Nat) (h:q<L.length),r<k→(L.flatMap enc)[q*k+r]?=(enc (L[q]))[r]?
 |[],q,r,h,_=>by simp at h
 |x::t,0,r,h,a=>by
  rw[List.flatMap_cons,List.getElem?_append,hk,if_pos O]
  simp
 |x::t,q+1,r,h,a=>by
  have e:(q+1)*k+r=k+(q*k+r):=by rw[Nat.add_mul];omega
  rw[List.flatMap_cons,List.getElem?_append,hk,if_neg O,e,Nat.add_sub_cancel_left,A3Y hk t q r (by simpa using h) a]
  simp
theorem B0D (hk:∀x,(enc x).length=k)(L:List α)(q r:Nat)(h:q<L.length)(a:r<k):(L.flatMap enc)[q*k+r]?=some ((flatK enc k L.toArray)[q*k+r]!):=by
 have h1:q*k+r<L.length*k:=by
  have:(q+1)*k≤L.length*k:=Nat.mul_le_mul_right _ h;rw[Nat.add_mul]at this;omega
 have c:(q*k+r)/k=q:=by rw[Nat.mul_comm,Nat.mul_add_div O,Nat.div_eq_of_lt a];rfl
 have hm:(q*k+r)%k=r:=by rw[Nat.mul_comm,Nat.mul_add_mod,Nat.mod_eq_of_lt a]
 rw[A3Y hk L q r h a,get_flatK _ _ _ _ (by simpa using h1),c,hm];have e:L.toArray[q]! = L[q]:=by simp[h]
 rw[e];have b:r<(enc L[q]).length:=by rw[hk];exact a
 simp[List.getElem?_eq_getElem b,b]
theorem A65 (hk:∀x,(enc x).length=k)(a:0<k)(L:List α)(j:Nat)(h:j<L.length*k):(L.flatMap enc)[j]?=some ((flatK enc k L.toArray)[j]!):=by
 have b:j/k<L.length:=Nat.div_lt_of_lt_mul (by rw[Nat.mul_comm];exact h);have:=B0D hk L (j/k) (j%k) b (Nat.mod_lt _ a);rwa [Nat.mul_comm,Nat.div_add_mod]at this
theorem A3.holdsK (hk:∀x,(enc x).length=k)(c:0<k){w:World}{t:TypeId}{base g o n cap:Nat}{L:List α}(h:A3 w base t k (.slice (some ⟨g,o,none⟩) n cap) n (L.flatMap enc))(f:L.length=n):HoldsK enc k w g o L.toArray∧g<w.heap.size:=by
 rcases h.2 with⟨h,_⟩|⟨g',o',cap',cur,he,h1,a,i,l,m,d⟩
 ·simp at h
 ·simp only[Value.slice.injEq,Option.some.injEq,Addr.mk.injEq,and_true,true_and]at he;obtain⟨⟨rfl,rfl⟩,rfl⟩:=he;refine⟨fun j b=>⟨?_,frozen_of_row _ _ _ _ _ a⟩,lt_of_block a⟩;simp at b;exact A1 a (d _ _ (A65 hk c L j b))
theorem A3.sortedK (hk:∀x,(enc x).length=k)(l:0<k){w:World}{t:TypeId}{base g o n cap m:Nat}{L D:List α}{os:Array Obj}(h:A3 w base t k (.slice (some ⟨g,o,none⟩) n cap) n (L.flatMap enc))(v:L.length=n)(b:D.length=n) :
 A3 (sortWorldK enc k w g o m D.toArray os) base t k (.slice (some ⟨g,o,none⟩) n cap) n (D.flatMap enc)∧(∀j,j<w.heap.size→j≠g→(sortWorldK enc k w g o m D.toArray os).heap[j]?=w.heap[j]?)∧w.heap.size≤(sortWorldK enc k w g o m D.toArray os).heap.size∧(sortWorldK enc k w g o m D.toArray os).os=w.os∧(sortWorldK enc k w g o m D.toArray os).tape=w.tape∧(sortWorldK enc k w g o m D.toArray os).output=w.output:=by
 obtain⟨y,h⟩:=h;rcases h with⟨h,_⟩|⟨g',o',cap',cur,he,h1,c,d,p,f,z⟩
 ·simp at h
 ·simp only[Value.slice.injEq,Option.some.injEq,Addr.mk.injEq,and_true,true_and]at he;obtain⟨⟨rfl,rfl⟩,rfl⟩:=he;have q:=lt_of_block c;have i:(putRowK enc k (Sort.ahead w m) g o D.toArray).heap.size=w.heap.size:=by simp[putRowK]
  have hold:∀j,j<w.heap.size→(sortWorldK enc k w g o m D.toArray os).heap[j]?=(putRowK enc k (Sort.ahead w m) g o D.toArray).heap[j]?:=fun j a=>heap_grow_old _ _ (by rw[i];exact a);refine⟨⟨by rw[A6g hk,b],Or.inr ⟨g,o,cap,putCells id o (flatK enc k D.toArray) cur,rfl,h1,?_,d,p,by simp[putCells];exact f,?_⟩⟩,?_,?_,rfl,rfl,rfl⟩
  ·rw[hold g q];show(mapBlock (Sort.ahead w m) g _).heap[g]?=_;unfold mapBlock;simp only[Array.getElem?_modify,if_true];show(w.heap[g]?).map _=_;rw[c];rfl
  ·intro j u hu;have a:j<D.length*k:=by
    rcases Nat.lt_or_ge j (D.length*k) with h|h
    ·exact h
    ·rw[List.getElem?_eq_none (by rw[A6g hk];exact h)]at hu;cases hu
   rw[A65 hk l D j a]at hu;have A:o+n*k≤cur.size:=Nat.le_trans (Nat.add_le_add_left (Nat.mul_le_mul_right k d) _) f;have r:o+j<cur.size:=by rw[b]at a;omega
   unfold putCells;rw[Array.getElem?_mapIdx,Array.getElem?_eq_getElem r];simp only[Option.map_some];rw[if_pos (by simp;rw[b]at a;rw[b];omega),show o+j-o=j by omega];simpa using hu
  ·intro j a s;rw[hold j a];show(mapBlock (Sort.ahead w m) g _).heap[j]?=_;unfold mapBlock;simp only[Array.getElem?_modify];rw[if_neg (fun e=>s e.symm)];rfl
  ·show _≤(grow _ _).heap.size;rw[Sort.size_grow,i];omega
end
abbrev Cd:=Fin 100000×Bool
def sd (a:Cd):Int×Bool:=((a.1.val:Int),a.2)
def A0U (Vc:Int×Bool→Value)(Qc:Int×Bool→Int)(a:Cd):List Value:=[I J (a.1.val:Int),.bool a.2,Vc (sd a),.float .f64 (fq (Qc (sd a)))]
def cfC (Qc:Int×Bool→Int)(a b:Cd):Int:=ccI (Qc (sd a)) (Qc (sd b)) (tw (sd a)) (tw (sd b))
def ltC (Qc:Int×Bool→Int)(a b:Cd):Prop:=Qc (sd b)<Qc (sd a)∨(Qc (sd a)=Qc (sd b)∧tw (sd a)<tw (sd b))
theorem A1h (a b:Int):(a<b∧E4 a b=-1)∨(a=b∧E4 a b=0)∨(b<a∧E4 a b=1):=by
 unfold E4;rcases Int.lt_trichotomy a b with h|h|h
 ·left;exact⟨h,by rw[if_pos h]⟩
 ·right;left;exact⟨h,by rw[if_neg O,if_neg O]⟩
 ·right;right;exact⟨h,by rw[if_neg O,if_pos h]⟩
theorem A36 (c:Int×Bool→Int)(a b:Cd):ltOf (cfC c) a b=true↔ltC c a b:=by
 unfold ltOf cfC ccI ltC;rw[decide_eq_true_eq];rcases A1h (c (sd b)) (c (sd a)) with⟨h,e⟩|⟨h,e⟩|⟨h,e⟩<;>rw[e]
 ·simp;exact Or.inl h
 ·simp only[if_true];rcases A1h (tw (sd a)) (tw (sd b)) with⟨f,d⟩|⟨f,d⟩|⟨f,d⟩<;>rw[d]<;>simp<;>omega
 ·simp;omega
theorem A0P (c:Int×Bool→Int)(a b:Cd):ltOf (cfC c) a b=false↔¬ltC c a b:=by
 rw[←A36];simp
theorem A4k (a b:Cd)(h:tw (sd a)=tw (sd b)):a=b:=by
 obtain⟨⟨n,c⟩,x⟩:=a;obtain⟨⟨m,hm⟩,y⟩:=b;unfold tw sd at h;simp only at h;cases x<;>cases y<;>simp at h⊢<;>omega
theorem B2L (a:Int×Bool→Int):SWO (ltOf (cfC a)):={
 irrefl:=fun x=>by rw[A0P];unfold ltC;omega
 trans:=fun x y z h1 b=>by rw[A36]at *;unfold ltC at *;omega
 ntrans:=fun x y z h1 b=>by rw[A0P]at *;unfold ltC at *;omega}
def leC (Qc:Int×Bool→Int)(x y:Cd):Bool:=!ltOf (cfC Qc) y x
theorem A3z (b:Int×Bool→Value)(a:Int×Bool→Int)(d:∀s,(b s).oneCell'=true)(k:∀s,0≤a s∧a s≤100000)(L:List Cd)(n:Nat)(c:L.length=n)(f:n≤100000)(base g o cap:Nat)(w:World)(l:A3 w base 180 4 (.slice (some ⟨g,o,none⟩) n cap) n (L.flatMap (A0U b a))) :
 Calls Tryz.prog 104 #[.slice (some ⟨g,o,none⟩) n cap,.func (.func 105) #[] #[]] w fun e w'=>e=.returned (.tuple #[])∧A3 w' base 180 4 (.slice (some ⟨g,o,none⟩) n cap) n ((L.mergeSort (leC a)).flatMap (A0U b a))∧(∀j,j<w.heap.size→j≠g→w'.heap[j]?=w.heap[j]?)∧w.heap.size≤w'.heap.size∧w'.os=w.os∧w'.tape=w.tape∧w'.output=w.output:=by
 have q:∀args w,(callFunc 105 args).run Tryz.prog w=.ok (.enter 105 args) w:=O3 Tryz.func105 U rfl;have hk:∀x,(A0U b a x).length=4:=fun _=>rfl;have hH:=l.holdsK hk O c;have r:CmpLays Tryz.prog 105 #[] (A0U b a) 4 (cfC a) g o L.toArray.size w:=fun _ _ _ _ x y=>
  (A8s (x.1.val:Int) (y.1.val:Int) x.2 y.2 (b (sd x)) (b (sd y)) (a (sd x)) (a (sd y)) _ (by have:=x.1.isLt;omega) (by have:=y.1.isLt;omega) (k _) (k _) (d _) (d _)).mono (fun e w' h=>⟨h.1,h.2⟩)
 have i:=AnyQ.slices_SortFunc_total Tryz.sortC 4 Tryz.isAgg180 Tryz.sizeOf180 (A0U b a) hk (fun x v p=>by simp[A0U]at p;rcases p with rfl|rfl|rfl|rfl<;>first|rfl|exact d _) (cfC a) (B2L a) 105 #[] g o cap L.toArray w q r hH.1 hH.2 Zo (fun x y h1 f=>by
  rw[A0P]at h1 f;unfold ltC at h1 f;exact A4k x y O)
 change Calls Tryz.prog 104 _ _ _ at i;have t:L.toArray.size=n:=by simpa using c
 rw[t]at i;refine i.mono ?_;rintro e w' ⟨rfl,m,os,rfl⟩;exact⟨rfl,l.sortedK hk O c (by rw[List.length_mergeSort];exact c)⟩
end
end Mn
end Go.Proofs.YtilcmkiihefkkaaGreatDoor
