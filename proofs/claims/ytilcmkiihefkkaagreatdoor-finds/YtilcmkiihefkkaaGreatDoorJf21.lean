import Derived.Test.YtilcmkiihefkkaaGreatDoorJf20
set_option linter.unusedVariables false
set_option linter.unusedSimpArgs false
set_option maxRecDepth 1000000
set_option maxHeartbeats 64000000
open Go.Value renaming int→I
open Go.IntKind renaming i64→J
namespace Go.Proofs.YtilcmkiihefkkaaGreatDoor
namespace Mn
section
open Go.RowKit
theorem A27 {w:World}{base n:Nat}{b:Option Addr}{c:Nat}{a:List UInt8}(d:a.length=n)(h:A3 w base 5 1 (.slice b n c) n (Lib.byteCells a)) :
 (convert 63 9 (.slice b n c)).run Tryz.prog w=.ok (.string ⟨a.toArray⟩) w:=by
 rcases h.2 with⟨h1,m⟩|⟨g,o,cap,cur,h1,_,f,_,_,_,i⟩
 ·have k:a=[]:=List.eq_nil_of_length_eq_zero O;subst k;simp only[Value.slice.injEq]at h1;obtain⟨rfl,rfl,rfl⟩:=h1;exact run_convert_bytes_nil w 63 5 Tryz.underlying63 Tryz.underlying5 0 0 9 Tryz.underlying9
 ·simp only[Value.slice.injEq,true_and]at h1;obtain⟨rfl,rfl⟩:=h1;have:=run_convert_bytes_back (P:=Tryz.prog) w 63 9 5 ⟨g,o,none⟩ c a Tryz.underlying63 Tryz.underlying5 Tryz.underlying9 (by
   intro j l;rw[Addr.add_lit];refine A1 f (i j _ ?_);unfold Lib.byteCells;rw[List.getElem?_map,List.getElem?_eq_getElem l];rfl)
  rw[d]at this;exact this
theorem A3.setB {w:World}{base g o n cap:Nat}{X:List S2}(h:A3 w base 88 2 (.slice (some ⟨g,o,none⟩) n cap) n (B4 X))(t:X.length=n)(j:Nat)(u:j<n)(b:ByteArray) :
 A3 (w.setCell ⟨g,o+j*2+1,none⟩ (.string b)) base 88 2 (.slice (some ⟨g,o,none⟩) n cap) n (B4 (X.set j ⟨(X[j]'O).n,b⟩)):=by
 obtain⟨a,h⟩:=h;refine⟨by rw[X5]at a⊢;rw[List.length_set];exact a,?_⟩;rcases h with⟨h,_⟩|⟨g',o',cap',cur,he,h1,m,c,p,d,f⟩
 ·simp at h
 ·simp only[Value.slice.injEq,Option.some.injEq,Addr.mk.injEq,and_true,true_and]at he;obtain⟨⟨rfl,rfl⟩,rfl⟩:=he;have r:=D7.of_setCell (i:=o+j*2+1) (.string b) m;refine Or.inr ⟨g,o,cap,_,rfl,h1,r.here,c,p,by simpa using d,?_⟩;rw[A2B]at f⊢;intro q k;rw[List.length_set]at k;have v:o+n*2≤cur.size:=Nat.le_trans (Nat.add_le_add_left (Nat.mul_le_mul_right 2 c) o) d;have:=f q k;by_cases l:q=j
  ·subst l;simp only[List.getElem_set_self];refine⟨?_,?_⟩
   ·rw[Array.getElem?_setIfInBounds_ne O];exact this.1
   ·rw[show o+(2*q+1)=o+q*2+1 by omega,Array.getElem?_setIfInBounds_self_of_lt O]
  ·have s:j≠q:=fun h=>l h.symm;rw[List.getElem_set_ne s];refine⟨?_,?_⟩
   ·rw[Array.getElem?_setIfInBounds_ne O];exact this.1
   ·rw[Array.getElem?_setIfInBounds_ne O];exact this.2
structure FFr (w w':World)(sv:Value)(B:Nat):Prop where
 os:w'.os=w.os
 tape:w'.tape=w.tape
 output:w'.output=w.output
 size:w'.heap.size=w.heap.size
 other:∀j,j≠B→sv.ownBlock≠some j→w'.heap[j]?=w.heap[j]?
theorem A63 (B:Nat)(a:Option Addr)(c:Nat)(d bv:Value)(w:World)
 (b:w.heap[B]?=some (.cells #[.slice a 0 c,d,bv] 167 (0,0))) :
 Calls Tryz.prog 75 #[.pointer (some ⟨B,0,none⟩)] w fun e w'=>e=.returned (.tuple #[])∧w'=w:=by
 have c0:w.cell? ⟨B,0,none⟩=some (.slice a 0 c):=A1 b rfl;clear b;go_enter Tryz.func75,Tryz.ntmps75;go_wp2;(try simp only[Exit.inBlock,Exit.then]);refine bodyPost_ret (results_none rfl _ _ _) rfl ?_;exact⟨rfl,rfl⟩
theorem A5S (B base m n g o sc b:Nat)(c:Option Addr)(p:Value)(A:List S2)(y:S2)(d:A.length=m)(a:List UInt8)(D:a.length=n)(w:World)
 (f:w.heap[B]?=some (.cells #[.slice (some ⟨g,o,none⟩) (m+1) sc,p,.slice c n b] 167 (0,0)))
 (hs:A3 w base 88 2 (.slice (some ⟨g,o,none⟩) (m+1) sc) (m+1) (B4 (A++[y])))
 (u:A3 w base 5 1 (.slice c n b) n (Lib.byteCells a))(L:n≤1000000000)(hm:m≤1000000000)(M:(b:Int)≤9223372036854775807) :
 Calls Tryz.prog 75 #[.pointer (some ⟨B,0,none⟩)] w fun e w'=>e=.returned (.tuple #[])∧
  w'.heap[B]?=some (.cells #[.slice (some ⟨g,o,none⟩) (m+1) sc,p,.slice c 0 b] 167 (0,0))∧
  A3 w' base 88 2 (.slice (some ⟨g,o,none⟩) (m+1) sc) (m+1) (B4 (A++[⟨y.n,⟨a.toArray⟩⟩]))∧FFr w w' (.slice (some ⟨g,o,none⟩) (m+1) sc) B:=by
 have c0:w.cell? ⟨B,0,none⟩=some (.slice (some ⟨g,o,none⟩) (m+1) sc):=A1 f rfl;have c2:w.cell? ⟨B,2,none⟩=some (.slice c n b):=A1 f rfl;have f2:w.frozen? ⟨B,2,none⟩=false:=frozen_of_row _ _ _ _ _ f;have N:=A27 D (w:=w.drew) (u.other (fun _ _ _=>rfl));obtain⟨cur,k,E⟩:∃cur,w.heap[g]?=some (.cells cur 88 (0,0))∧o+(m+1)*2≤cur.size:=by
  rcases hs.2 with⟨h,_⟩|⟨g',o',cap,cur,h,_,q,F,_,G,_⟩
  ·simp at h
  ·simp only[Value.slice.injEq,Option.some.injEq,Addr.mk.injEq,and_true,true_and]at h;obtain⟨⟨rfl,rfl⟩,rfl⟩:=h;exact⟨cur,q,Nat.le_trans (Nat.add_le_add_left (Nat.mul_le_mul_right 2 F) o) G⟩
 obtain⟨b1,b2⟩:=hs.seqs m (by rw[List.length_append,d];simp);have v:g≠B:=fun e=>by subst e;rw[f]at k;simp at k
 have H:¬B=g:=fun e=>v e.symm;have P:w.frozen? ⟨g,o+m*2+1,none⟩=false:=frozen_of_row _ _ _ _ _ k;have r:(A++[y])[m]'(by rw[List.length_append,d];simp)=y:=by simp[←d]
 rw[r]at b1 b2;have s:=hs.setB (by rw[List.length_append,d];rfl) m O ⟨a.toArray⟩;have x:(A++[y]).set m ⟨((A++[y])[m]'(by rw[List.length_append,d];simp)).n,⟨a.toArray⟩⟩=A++[⟨y.n,⟨a.toArray⟩⟩]:=by
  rw[r,←d];simp
 rw[x]at s;have K:=A4 s;have e1:((m+1:Nat):Int)-1=m:=O;have Q:(m:Int)<((m+1:Nat):Int):=O;have R:(((m+1:Nat):Int)==0)=false:=by rw[beq_eq_false_iff_ne];omega
 have t:Hd (D7 w (w.setCell ⟨g,o+m*2+1,none⟩ (.string ⟨a.toArray⟩)) g _):=D7.of_setCell (i:=o+m*2+1) (.string ⟨a.toArray⟩) k;have z:(w.setCell ⟨g,o+m*2+1,none⟩ (.string ⟨a.toArray⟩)).heap[B]?=some (.cells #[.slice (some ⟨g,o,none⟩) (m+1) sc,p,.slice c n b] 167 (0,0)):=(t.o.other B H).trans f;have l:Hd (D7 (w.setCell ⟨g,o+m*2+1,none⟩ (.string ⟨a.toArray⟩)) ((w.setCell ⟨g,o+m*2+1,none⟩ (.string ⟨a.toArray⟩)).setCell ⟨B,2,none⟩ (.slice c 0 b)) B _):=D7.of_setCell (i:=2) (.slice c 0 b) z;clear s x f r k E hs u z;go_enter Tryz.func75,Tryz.ntmps75;go_wp2;go_region;go_wp2;go_end0;refine⟨rfl,l.o.here,K.o.other (fun j C _=>l.o.other j (fun e=>?_)),⟨rfl,rfl,rfl,l.o.size.trans t.o.size,fun j h1 q=>(l.o.other j h1).trans (t.o.other j (fun e=>q (by simp[Value.ownBlock,e])))⟩⟩;simp only[Value.ownBlock,Option.some.injEq]at C;exact v (C.trans e)
end
section
open Go.RowKit Go.Maps
def B0g (L:List S2):List S2:=L.dropLast++(L.getLast?.map fun y=>⟨y.n,⟨#[]⟩⟩).toList
def R6 (L:List S2):List UInt8:=(L.getLast?.map fun y=>y.b.data.toList).getD []
theorem A1a (A:List S2)(y:S2):B0g (A++[y])=A++[⟨y.n,⟨#[]⟩⟩]:=by simp[B0g]
theorem P8 (A:List S2)(y:S2):R6 (A++[y])=y.b.data.toList:=by simp[R6]
theorem B2h:Keyed Tryz.prog 9:=string_keyed Tryz.underlying9
theorem B1M (w:World):(zeroValue 3).run Tryz.prog w=.ok (I J 0) w:=U
structure PrP (base B Bm:Nat)(L:List S2)(sv bv:Value)(D:DataW Unit)(w:World):Prop where
 par:w.heap[B]?=some (.cells #[sv,.map (some Bm),bv] 167 (0,0))
 seqs:A3 w base 88 2 sv L.length (B4 (B0g L))
 bases:A3 w base 5 1 bv (R6 L).length (Lib.byteCells (R6 L))
 map:w.ownsMap Tryz.prog 9 (plainElem Tryz.prog 3) Bm L.length D
 has:∀s:ByteArray,Maps.has D (.string s.data.toList)=true↔X2 L s
 low:base≤w.heap.size
 lowB:base≤B
 lowM:base≤Bm
theorem X1 {w w':World}{P:Program}{k:TypeId}{R:Value→Option (DataW Unit×List MemPlace)}{b n:Nat}{D:DataW Unit}(h:w.ownsMap P k R b n D)(a:w'.heap[b]?=w.heap[b]?):w'.ownsMap P k R b n D:=by
 obtain⟨es,clock,h1,c⟩:=h;exact⟨es,clock,a.trans h1,c⟩
theorem U7 {w:World}{P:Program}{k:TypeId}{R:Value→Option (DataW Unit×List MemPlace)}{b n:Nat}{D:DataW Unit}(h:w.ownsMap P k R b n D){g:Nat}{cs:Array Value}{t:TypeId}(a:w.heap[g]?=some (.cells cs t (0,0))):g≠b:=by
 obtain⟨es,clock,h1,c⟩:=h;intro e;subst e;rw[a]at h1;simp at h1
theorem A3.neMap {w:World}{base:Nat}{e:TypeId}{size:Nat}{v:Value}{n:Nat}{xs:List Value}(h:A3 w base e size v n xs){P:Program}{k:TypeId}{R:Value→Option (DataW Unit×List MemPlace)}{b a:Nat}{D:DataW Unit}(hm:w.ownsMap P k R b a D):v.ownBlock≠some b:=by
 obtain⟨_,h⟩:=h;rcases h with⟨rfl,rfl⟩|⟨g,o,cap,cur,rfl,h1,c,d⟩
 ·simp[Value.ownBlock]
 ·intro e;simp only[Value.ownBlock,Option.some.injEq]at e;exact U7 hm c e
theorem A3.apart {w:World}{base:Nat}{e b:TypeId}{size c:Nat}{v v':Value}{n d:Nat}{xs f:List Value}(h:A3 w base e size v n xs)(i:A3 w base b c v' d f)(he:e≠b){g:Nat}(a:v.ownBlock=some g):v'.ownBlock≠some g:=by
 obtain⟨_,h⟩:=h;rcases h with⟨rfl,rfl⟩|⟨g2,o,cap,cur,rfl,h1,j,k⟩
 ·simp[Value.ownBlock]at a
 ·simp only[Value.ownBlock,Option.some.injEq]at a;subst a;exact i.tag he j
theorem A26 (base B i:Nat)(L:List S2)(sv bv:Value)(D:DataW Unit)(w:World)(h:PrP base B i L sv bv D w)(x:L.length≤100000000)(k:(R6 L).length≤1000000000) :
 Calls Tryz.prog 75 #[.pointer (some ⟨B,0,none⟩)] w fun e w'=>e=.returned (.tuple #[])∧∃l,w'.heap[B]?=some (.cells #[sv,.map (some i),l] 167 (0,0))∧A3 w' base 88 2 sv L.length (B4 L)∧A3 w' base 5 1 l 0 []∧FFr w w' sv B:=by
 by_cases m:L=[]
 ·subst m;obtain⟨z,c,rfl⟩:=h.seqs.form;refine(A63 B z c _ bv w h.par).mono ?_;rintro e w' ⟨rfl,rfl⟩;exact⟨rfl,bv,h.par,h.seqs,h.bases,⟨rfl,rfl,rfl,rfl,fun _ _ _=>rfl⟩⟩
 ·obtain⟨A,y,rfl⟩:=Y9 m;have hs:=h.seqs;have a:=h.bases;have p:=h.par;rw[A1a,List.length_append]at hs;rw[P8]at a k;obtain⟨q,d,rfl⟩:=a.form;rcases hs.2 with⟨_,r⟩|⟨g,o,sc,cur,rfl,h1,P,Q,s,R,S⟩
  ·simp at r
  ·have C:(d:Int)≤9223372036854775807:=by
    rcases a.2 with⟨h1,_⟩|⟨_,_,_,_,h1,_,_,_,s,_⟩
    ·simp only[Value.slice.injEq]at h1;omega
    ·simp only[Value.slice.injEq]at h1;obtain⟨_,_,rfl⟩:=h1;unfold maxLen at s;omega
   rw[List.length_append]at x;refine(A5S B base A.length _ g o sc d q _ A ⟨y.n,⟨#[]⟩⟩ rfl y.b.data.toList rfl w p hs a k O C).mono ?_;rintro e w' ⟨rfl,E,t,v⟩;refine⟨rfl,_,E,?_,?_,v⟩
   ·rw[A1T]at t;rw[List.length_append];exact t
   ·have:A3 w' base 5 1 (.slice q y.b.data.toList.length d) _ _:=a.other (fun j f T=>v.other j (fun e=>by subst e;exact a.tag Z p f) (a.apart hs Z f));rcases this.2 with⟨h1,r⟩|⟨g2,F,cap,G,h1,H,K,V,M,N,W⟩
    ·simp only[Value.slice.injEq]at h1;obtain⟨rfl,_,rfl⟩:=h1;exact A3.nil _ _ _ _
    ·simp only[Value.slice.injEq,true_and]at h1;obtain⟨rfl,rfl⟩:=h1;exact⟨rfl,Or.inr ⟨g2,F,d,G,rfl,H,K,Nat.zero_le _,M,N,fun j u f=>by simp at f⟩⟩
end
section
open Go.RowKit Go.Maps Go.WideMaps
theorem A8L {base B f g' o' cap':Nat}{L:List S2}{sv bv:Value}{D:DataW Unit}{d:DataW Unit}{w1 a o h:World}{nm:ByteArray}{ob:Obj}
 (v:a.heap[B]?=some (.cells #[sv,.map (some f),bv] 167 (0,0)))(p:A3 a base 5 1 bv 0 [])(hs:A3 a base 88 2 sv L.length (B4 L))
 (hm:a.ownsMap Tryz.prog 9 (plainElem Tryz.prog 3) f (L.length+1) (D.put (.string nm.data.toList) d))(z:Maps.IsMap D)(A:∀s:ByteArray,Maps.has D (.string s.data.toList)=true↔X2 L s)
 (R:base≤a.heap.size)(C:base≤B)(E:base≤f)(j:Below base w1 a)
 (k:Below a.heap.size a.drew o)(w:A3 h base 88 2 (.slice (some ⟨g',o',none⟩) (L.length+1) cap') (L.length+1) (B4 L++[.string nm,.string ⟨#[]⟩]))
 (l:I9 (o.alloc ob) h sv g')(y:h.heap[B]?=some (.cells #[sv,.map (some f),bv] 167 (0,0))) :
 (∃sv' F G,PrP base B f (L++[⟨nm,⟨#[]⟩⟩]) sv' F G (h.setCell ⟨B,0,none⟩ (.slice (some ⟨g',o',none⟩) (L.length+1) cap')))∧Below base w1 (h.setCell ⟨B,0,none⟩ (.slice (some ⟨g',o',none⟩) (L.length+1) cap')):=by
 have c:=D7.of_setCell (i:=0) (.slice (some ⟨g',o',none⟩) (L.length+1) cap') y;have H:=k.size;have K:=l.size;simp at H K;have r:∀q,q<a.heap.size→q≠B→sv.ownBlock≠some q→(h.setCell ⟨B,0,none⟩ (.slice (some ⟨g',o',none⟩) (L.length+1) cap')).heap[q]?=a.heap[q]?:=fun q t M N=>by
  rw[c.other q M,l.other q (by simp;omega) N,Below.heap_alloc o ob q (by omega),k.block q t];rfl
 refine⟨⟨.slice (some ⟨g',o',none⟩) (L.length+1) cap',bv,D.put (.string nm.data.toList) d,⟨c.here,?_,?_,?_,?_,?_,C,E⟩⟩,?_⟩
 ·rw[A1a,List.length_append,A02];exact w.other (fun g m _=>c.other g (fun e=>by subst e;exact w.tag (by decide) y m))
 ·rw[P8];exact p.other (fun g m P=>r g P (fun e=>by subst e;exact p.tag (by decide) v m) (p.apart hs (by decide) m))
 ·rw[List.length_append];exact X1 hm (r f hm.lt (fun e=>U7 hm v e.symm) (hs.neMap hm))
 ·intro s;by_cases u:s=nm
  ·subst u;constructor
   ·intro _;exact⟨⟨s,⟨#[]⟩⟩,by simp,rfl⟩
   ·intro _;exact Maps.has_put_same z (show WideAt.IsKeyLit (.string s.data.toList) from trivial) d
  ·have Q:(Lit.string s.data.toList)≠Lit.string nm.data.toList:=fun e=>u (by
    simp only[Lit.string.injEq]at e;exact WideShapes.bytes_inj e)
   rw[Maps.has_put_other Q,A s];constructor
   ·rintro⟨x,b,n⟩;exact⟨x,by simp[b],n⟩
   ·rintro⟨x,b,n⟩;rw[List.mem_append]at b;rcases b with b|b
    ·exact⟨x,b,n⟩
    ·simp at b;subst b;exact absurd n.symm u
 ·rw[c.size];omega
 ·have S:=j.size;refine⟨c.os.trans (l.os.trans (k.os.trans j.os)),c.tape.trans (l.tape.trans (k.tape.trans j.tape)),c.output.trans (l.output.trans (k.output.trans j.output)),by rw[c.size];omega,fun q t=>?_⟩;rw[r q (by omega) (by omega) (fun he=>by have:=(hs.lt he).1;omega)];exact j.block q t
theorem A8f (base B b:Nat)(L:List S2)(sv bv:Value)(D:DataW Unit)(w:World)(nm:ByteArray)(h:PrP base B b L sv bv D w)(hL:L.length≤100000000)(hb:(R6 L).length≤1000000000)(T:nm.size≤8000) :
 Calls Tryz.prog 100 #[.pointer (some ⟨B,0,none⟩),.string nm] w fun e w'=>
  ((¬E7 nm∧e=.returned (.int .i64 4))∨(E7 nm∧X2 L nm∧e=.returned (.int .i64 5))∨
    (E7 nm∧¬X2 L nm∧e=.returned (.int .i64 0)∧∃sv' ak D',PrP base B b (L++[⟨nm,⟨#[]⟩⟩]) sv' ak D' w'))∧Below base w w':=by
 obtain⟨i0,hi,al,am,an⟩:=info_parts Tryz.info88;have f:Hd (PrP base B b L sv bv D w):=h;have F:=keyOf_string_mk (P:=Tryz.prog) Tryz.underlying9 (s:=nm) (by unfold maxLen;omega);have G:=h.map;have c1:w.cell? ⟨B,1,none⟩=some (.map (some b)):=A1 h.par rfl;have V:=h.has nm;have W:Hd (Maps.has D (.string nm.data.toList)=true↔X2 L nm):=V;clear h V;go_enter Tryz.func100,Tryz.ntmps100;go_wp2_with fail;refine(A3q nm w T).mono ?_;rintro e w1 ⟨h1,rfl⟩;rcases h1 with⟨u,rfl⟩|⟨u,rfl⟩
 ·have v:Hd (E7 nm):=u;clear u;cases x:Maps.has D (.string nm.data.toList)
  ·have H:Hd (¬X2 L nm):=fun h=>by rw[W.o.2 h]at x;exact absurd x (by simp)
   go_wp2_with (at_lookup;refine wpList_lookup_own_ok_int _ rfl _ _ 141 rfl 9 3 .i64 B2h Tryz.underlying141 Tryz.underlying3 (B1M _) b L.length D rfl G _ _ rfl F ?_;intro c X Y;rw[x]);refine(A26 base B b L sv bv D _ f.o hL hb).mono ?_;rintro e w2 ⟨rfl,k,z,K,aa,M⟩;have y:w2.ownsMap Tryz.prog 9 (plainElem Tryz.prog 3) b L.length D:=X1 f.o.map (M.other b (fun e=>U7 f.o.map f.o.par e.symm) (f.o.seqs.neMap f.o.map));have N:Hd (w2.heap[B]?=some (.cells #[sv,.map (some b),k] 167 (0,0))):=z;have ab:Hd (A3 w2 base 88 2 sv L.length (B4 L)):=K;have ac:Hd (A3 w2 base 5 1 k 0 []):=aa;have ap:Hd (FFr w1 w2 sv B):=M;have d0:w2.cell? ⟨B,0,none⟩=some sv:=A1 z rfl;have d1:w2.cell? ⟨B,1,none⟩=some (.map (some b)):=A1 z rfl;obtain⟨j,sc,aq⟩:=K.form;subst aq;clear z K aa M G c1;go_wp2;obtain⟨d,ar,ad,n⟩:=y.drew.update B2h Tryz.underlying141 (by unfold maxLen;omega) F (plainElem_int (a:=(L.length:Int)) Tryz.underlying3 (WalkArith.wf_i64 (by omega)));go_region;have au:B≠b:=U7 y N.o;have av:=lt_of_block N.o;have ae:=n.size;have p:∀q,q<w2.heap.size→q≠b→d.heap[q]?=w2.heap[q]?:=fun q hq aw=>n.block q hq (fun e=>aw (Option.some.inj e));have aI:Hd (∀q,q<w2.heap.size→q≠b→d.heap[q]?=w2.heap[q]?):=p;have A:d.heap[B]?=some (.cells #[.slice j L.length sc,.map (some b),k] 167 (0,0)):=(p B av au).trans N.o;have af:A3 d base 88 2 (.slice j L.length sc) L.length (B4 L):=ab.o.other (fun g Q m=>p g m (fun e=>by subst e;exact ab.o.neMap y Q));have ag:A3 d base 5 1 k 0 []:=ac.o.other (fun g Q m=>p g m (fun e=>by subst e;exact ac.o.neMap y Q));have R:Hd (d.heap[B]?=some (.cells #[.slice j L.length sc,.map (some b),k] 167 (0,0))):=A;have ax:Hd (A3 d base 5 1 k 0 []):=ag;have S:Hd (A3 d base 88 2 (.slice j L.length sc) L.length (B4 L)):=af;have ay:Hd (d.ownsMap Tryz.prog 9 (plainElem Tryz.prog 3) b (L.length+1) (D.put (.string nm.data.toList) (.lit (.int .i64 (L.length:Int))))):=ad;have az:Hd (w2.heap.size≤d.heap.size):=ae;have ah:Hd (Below base w1 d):=by
    have r:=ap.o;refine⟨n.os.trans r.os,n.tape.trans r.tape,n.output.trans r.output,by have:=az.o;have:=r.size;omega,fun q hq=>?_⟩;have h1:=f.o.low;have h2:=f.o.lowB;have h3:=f.o.lowM;rw[p q (by have:=r.size;omega) (by omega),r.other q (by omega) (fun he=>by have:=(f.o.seqs.lt he).1;omega)]
   have k0:d.cell? ⟨B,0,none⟩=some (.slice j L.length sc):=A1 A rfl;have aA:base≤d.heap.size:=by have:=ah.o.size;have:=f.o.low;omega
   have aB:1≤nm.size:=v.o.1;have aC:B<d.heap.size:=lt_of_block A;clear ar ad n ae p A af ag d0 d1 y X Y;go_wp2;go_region_law (first|(refine G3 rfl (.tmp 36) (.tmp 40) 77 rfl 88 i0 _ 2 32 Tryz.underlying77 hi al am an rfl (by decide) base (.slice j L.length sc) L.length (B4 L) (by simp[Act.eval]) (by exact aD.other (fun g _ m=>Below.heap_alloc _ _ _ m)) ⟨l.heap.size,0,none⟩ 1 [.string nm,.string ⟨#[]⟩] (by simp[Act.eval]) rfl (by exact A3l _ _ _ _ _ rfl) (A2n _ _) (by unfold maxLen;omega) (by omega) (by have:=ai.o.size;simp at this⊢;omega) ?_;intro g' o' cap' w6 aE aj;have C:w6.heap[B]?=some (.cells #[.slice j L.length sc,.map (some b),k] 167 (0,0)):=(aj.other B (by simp;omega) (S.o.tag (by decide) R.o)).trans ((Below.heap_alloc l _ B aF).trans aG.o);have k6:=A1 C (i:=0) rfl;have f6:w6.frozen? ⟨B,0,none⟩=false:=frozen_of_row _ _ _ _ _ C;have aH:Hd _:=C;clear C)|(go_simp;go_at_call 107;refine(A09 nm _ aB T).mono ?_;rintro e l ⟨rfl,E⟩;have t:l.heap[B]?=some (.cells #[.slice j L.length sc,.map (some b),k] 167 (0,0)):=(E.block B aC).trans R.o;have aD:A3 l base 88 2 (.slice j L.length sc) L.length (B4 L):=S.o.other (fun g _ m=>E.block g m);have k5:l.cell? ⟨B,0,none⟩=some (.slice j L.length sc):=A1 t rfl;have aJ:∀ob,(l.alloc ob).cell? ⟨B,0,none⟩=some (.slice j L.length sc):=(fun ob=>A1 ((Below.heap_alloc l ob B (lt_of_block t)).trans t) rfl);have aF:=lt_of_block t;have aG:Hd _:=t;have ai:Hd (Below d.heap.size d.drew l):=E;clear t E));all_goals go_wp2
   all_goals go_ret
   all_goals (obtain⟨r1,r2⟩:=A8L R.o ax.o S.o ay.o f.o.map.isMap f.o.has aA f.o.lowB f.o.lowM ah.o ai.o aE aj aH.o)
   all_goals exact⟨Or.inr (Or.inr ⟨v.o,H.o,rfl,r1⟩),r2⟩
  ·have H:Hd (X2 L nm):=W.o.1 x;go_wp2_with (at_lookup;refine wpList_lookup_own_ok_int _ rfl _ _ 141 rfl 9 3 .i64 B2h Tryz.underlying141 Tryz.underlying3 (B1M _) b L.length D rfl G _ _ rfl F ?_;intro c X Y;rw[x]);go_ret;exact⟨Or.inr (Or.inl ⟨v.o,H.o,rfl⟩),Below.refl _ _⟩
 ·have v:Hd (¬E7 nm):=u;clear u;go_wp2;go_ret;exact⟨Or.inl ⟨v.o,rfl⟩,Below.refl _ _⟩
end
section
open Go.RowKit Go.Maps
def B2W (o:Obj):Prop:=∀cs,o≠.cells cs 5 (0,0)
def LI (w:World)(base B:Nat)(sv mv:Value)(bs:List UInt8)(x:ByteArray)(k:Nat)(wr:World):Prop:=
 ∃bv',wr.heap[B]?=some (.cells #[sv,mv,bv'] 167 (0,0))∧A3 wr base 5 1 bv' (bs++x.data.toList.take k).length (Lib.byteCells (bs++x.data.toList.take k))∧
  (∀q o,q≠B→B2W o→w.heap[q]?=some o→wr.heap[q]?=some o)∧Below base w wr∧base≤wr.heap.size
theorem B1G (args:Array Value)(w:World):(callFunc 101 args).run Tryz.prog w=.ok (.enter 101 args) w:=by
 obtain⟨c,a⟩:∃c,Tryz.f101.body=some c:=⟨_,rfl⟩;exact O3 Tryz.func101 U a args w
theorem B05 (w:World)(base B:Nat)(sv c:Value)(a:List UInt8)(x:ByteArray)(C:base≤B)(n:a.length+x.size≤100000000)(k:Nat)(hk:k<x.size)(wr:World)(p:0≤B2 x[k])(h:LI w base B sv c a x k wr) :
 Calls Tryz.prog 101 #[.pointer (some ⟨B,0,none⟩),I J k,I J (B2 x[k])] wr fun e w'=>e=.returned (.tuple #[])∧LI w base B sv c a x (k+1) w':=by
 obtain⟨bv,r,ho,s,d,t⟩:=h;have D:=I4 x[k];have hlen:=D8 x;obtain⟨m,hm⟩:∃m:Nat,B2 x[k]=m:=⟨(B2 x[k]).toNat,O⟩;rw[hm];have E:(a++x.data.toList.take k).length≤100000000:=by rw[List.length_append,List.length_take];omega
 refine(A8J B base m _ k sv c bv (a++x.data.toList.take k) rfl wr O r ho t O).mono ?_;rintro e w' ⟨rfl,u,v,y,b⟩;have z:=b.size;have e1:a++x.data.toList.take (k+1)=a++x.data.toList.take k++[A7O m]:=by
  have A:k<x.data.toList.length:=O;rw[List.take_succ_eq_append_getElem A,List.append_assoc];congr 2;have:A7O (B2 x[k]).toNat=x[k]:=A7J _ p;rw[hm]at this;simp at this;rw[this,Array.getElem_toList];rfl
 refine⟨rfl,u,y,by rw[e1];exact v,?_,?_,O⟩
 ·intro q o f i j;have h1:=s q o f i j;rw[b.other q (lt_of_block h1) f (fun he=>?_)]
  ·exact h1
  ·rcases ho.2 with⟨h,_⟩|⟨g,F,cap,cur,h,_,l,_⟩
   ·rw[h]at he;simp[Value.ownBlock]at he
   ·rw[h]at he;simp only[Value.ownBlock,Option.some.injEq]at he;subst he;rw[h1]at l;exact i cur (Option.some.inj l)
 ·have n:=d.size;exact d.trans ⟨b.os,b.tape,b.output,z,fun q j=>b.other q O O (fun he=>by have:=(ho.lt he).1;omega)⟩
theorem A8h (A:List S2)(y:S2)(b:ByteArray)(s:ByteArray):X2 (A++[⟨y.n,b⟩]) s↔X2 (A++[y]) s:=by
 unfold X2;constructor
 ·rintro⟨z,a,c⟩;rw[List.mem_append]at a;rcases a with a|a
  ·exact⟨z,by simp[a],c⟩
  ·simp at a;subst a;exact⟨y,Zs,c⟩
 ·rintro⟨z,a,c⟩;rw[List.mem_append]at a;rcases a with a|a
  ·exact⟨z,by simp[a],c⟩
  ·simp at a;subst a;exact⟨⟨z.n,b⟩,Zs,c⟩
theorem B0t (base B l:Nat)(L:List S2)(sv bv:Value)(D:DataW Unit)(w:World)(x:ByteArray)(h:PrP base B l L sv bv D w)(S:L.length≤100000000)(hb:(R6 L).length≤90000000)(T:x.size≤8000) :
 Calls Tryz.prog 74 #[.pointer (some ⟨B,0,none⟩),.string x] w fun e w'=>e=.returned (I J (E6 L x).1)∧((E6 L x).1=0→∃sv' C V,PrP base B l (E6 L x).2 sv' C V w')∧Below base w w':=by
 have m:=A4 h;have ah:=A7c x;have c0:w.cell? ⟨B,0,none⟩=some sv:=A1 h.par rfl;obtain⟨N,sc,W⟩:=h.seqs.form;subst W;clear h;go_enter Tryz.func74,Tryz.ntmps74;go_wp2_with fail;refine(A3c x w T).mono ?_;rintro e w1 ⟨h1,rfl⟩;rcases h1 with⟨p,rfl⟩|⟨p,rfl⟩
 ·have i:=A4 p;clear p;go_wp2_with fail;refine(A8f base B l L _ bv D _ (tl x) m.o S O O).mono ?_;rintro e w2 ⟨c,G⟩;rcases c with⟨f,rfl⟩|⟨f,r,rfl⟩|⟨f,r,rfl,hex⟩
  ·have a:Hd (E6 L x=(4,[])):=A0i i.o f;clear f;go_wp2;go_ret;rw[a.o];exact⟨rfl,fun h=>absurd h Z,G⟩
  ·have a:Hd (E6 L x=(5,[])):=W6 i.o f r;clear f r;go_wp2;go_ret;rw[a.o];exact⟨rfl,fun h=>absurd h Z,G⟩
  ·have a:Hd (E6 L x=(0,L++[⟨tl x,⟨#[]⟩⟩])):=W9 i.o f r;have X:=A4 hex;clear f r hex;go_wp2;go_ret;rw[a.o];exact⟨rfl,fun _=>X.o,G⟩
 ·have i:=A4 p;clear p;by_cases t:L=[]
  ·have a:Hd (E6 L x=(3,[])):=T7 i.o t;subst t;go_wp2;go_ret;rw[a.o];exact⟨rfl,fun h=>absurd h Z,Below.refl _ _⟩
  ·have H:=A4 t;have ai:((L.length:Int)==0)=false:=by
    rw[beq_eq_false_iff_ne];intro h;exact t (List.eq_nil_of_length_eq_zero O)
   clear t;go_wp2_with fail;refine(L1 101 B1G _ x _ O (LI w1 base B (.slice N L.length sc) (.map (some l)) (R6 L) x) (fun k hk wr Y h=>B05 w1 base B _ _ (R6 L) x m.o.lowB O k hk wr Y h) ?_).mono ?_
   ·refine⟨bv,m.o.par,?_,fun q o _ _ h=>h,Below.refl _ _,m.o.low⟩;rw[List.take_zero,List.append_nil];exact m.o.bases
   ·rintro e w2 ⟨k,hk,⟨C,E,u,F,P,aa⟩,K,ab⟩;rcases ab with⟨rfl,rfl⟩|⟨ac,ad,rfl⟩
    ·have Q:good x:=fun j R=>K j R R;have a:Hd (E6 L x=(0,A4G L x)):=Q8 i.o H.o Q;have HX:Hd (PrP base B l (A4G L x) (.slice N L.length sc) C D w2):=by
      obtain⟨A,y,ae⟩:=Y9 H.o;have d:=m.o;rw[ae]at d u E⊢;rw[S6];have af:∀v n xs e sz,e≠5→e≠167→A3 w1 base e sz v n xs→A3 w2 base e sz v n xs:=fun v n xs e sz h5 ag ho=>by
       refine ho.other (fun g z aj=>?_);rcases ho.2 with⟨h,_⟩|⟨g2,o2,cap,cur,h,_,c,_⟩
       ·rw[h]at z;simp[Value.ownBlock]at z
       ·rw[h]at z;simp only[Value.ownBlock,Option.some.injEq]at z;subst z;rw[F g2 _ (fun e'=>by subst e';rw[d.par]at c;simp at c;exact ag c.2.symm) (fun cs he=>by simp at he;exact h5 he.2) c,c]
      have M:=af _ _ _ _ _ Z Z d.seqs;refine⟨E,?_,?_,?_,?_,aa,d.lowB,d.lowM⟩
      ·rw[A1a]at M⊢;simp only[List.length_append,List.length_cons,List.length_nil]at M⊢;exact M
      ·rw[P8]at u⊢;have e1:(y.b++x).data.toList=y.b.data.toList++x.data.toList.take x.size:=by
        rw[ByteArray.data_append,Array.toList_append,List.take_of_length_le (by rw[D8];exact Nat.le_refl _)]
       show A3 w2 base 5 1 C (y.b++x).data.toList.length (Lib.byteCells (y.b++x).data.toList);rw[e1];exact u
      ·have hm:=d.map;rw[List.length_append]at hm⊢;obtain⟨es,clock,h1,c⟩:=hm;exact⟨es,clock,F l _ (fun e=>U7 d.map d.par e.symm) (fun cs he=>by simp at he) h1,c⟩
      ·intro s;rw[d.has s];exact(A8h A y _ s).symm
     clear Q K u F E;go_wp2;go_ret;rw[a.o];exact⟨rfl,fun _=>⟨_,_,_,HX.o⟩,P⟩
    ·have a:Hd (E6 L x=(2,[])):=T9 i.o H.o (fun h=>absurd (h k ac) O);clear K u F E ad;go_wp2;go_ret;rw[a.o];exact⟨rfl,fun h=>absurd h Z,P⟩
def B2E:Value→Nat
 |.string s=>s.size
 |_=>0
theorem PrP.drew {base B a:Nat}{L:List S2}{sv bv:Value}{D:DataW Unit}{w:World}(h:PrP base B a L sv bv D w)(n:Nat):PrP base B a L sv bv D (w.drewN n):=
 ⟨h.par,h.seqs.other (fun _ _ _=>rfl),h.bases.other (fun _ _ _=>rfl),X1 h.map rfl,h.has,h.low,h.lowB,h.lowM⟩
theorem A6d (L:List S2)(x:ByteArray)(h:(E6 L x).1=0):(E6 L x).2.length≤L.length+1∧(R6 (E6 L x).2).length≤(R6 L).length+x.size:=by
 by_cases a:G6 x
 ·by_cases c:E7 (tl x)
  ·by_cases d:X2 L (tl x)
   ·rw[W6 a c d]at h;exact absurd h Z
   ·rw[W9 a c d];refine⟨Zs,?_⟩;show(R6 (L++[_])).length≤_;rw[P8];exact Nat.zero_le _
  ·rw[A0i a c]at h;exact absurd h Z
 ·by_cases b:L=[]
  ·rw[T7 a b]at h;exact absurd h Z
  ·by_cases f:good x
   ·rw[Q8 a b f];refine⟨by show(A4G L x).length≤_;rw[A5f];omega,?_⟩;obtain⟨A,y,rfl⟩:=Y9 b;show(R6 (A4G (A++[y]) x)).length≤_;rw[S6,P8,P8,D8,D8,ByteArray.size_append];exact Nat.le_refl _
   ·rw[T9 a b f]at h;exact absurd h Z
theorem A2O:∀(l:List ByteArray) (i:Nat) (L:List S2),(D6 i L l).2.1≠0→(D6 i L l).1=[]
 |[],i,L,h=>by rw[D6]at h;exact absurd rfl h
 |x::r,i,L,h=>by
  rw[D6]at h⊢
  split
  ·rename_i a
   rw[if_pos a]at h
   exact A2O r _ _ h
  ·rfl
theorem M9:∀(l:List ByteArray) (i:Nat) (L:List S2),(D6 i L l).2.1=0→(D6 i L l).2.2=0
 |[],i,L,h=>by rw[D6]
 |x::r,i,L,h=>by
  rw[D6]at h⊢
  split
  ·rename_i a
   rw[if_pos a]at h
   exact M9 r _ _ h
  ·rename_i a
   rw[if_neg a]at h
   exact absurd h a
theorem A6n:F2 ⟨#[]⟩=[]:=by simp[F2,F4]
theorem A8C {s:ByteArray}(h:s.size=0):s=⟨#[]⟩:=by
 cases s with
 |mk d=>have:d.size=0:=h;simp at this;subst this;rfl
theorem A4a (base B d:Nat)(s:ByteArray)(w:World)(hs:s.size≤8000)(sv bv:Value)(D:DataW Unit)(h:PrP base B d [] sv bv D w)(R:List S2×Nat×Nat)(t:D6 0 [] (F2 s)=R) :
 Calls Tryz.prog 73 #[.string s,.func (.func 74) #[.pointer (some ⟨B,0,none⟩)] #[]] w fun e w'=>e=.returned (.tuple #[I J R.2.1,I J R.2.2])∧(R.2.1=0→∃sv bv D,PrP base B d R.1 sv bv D w'∧R.1.length≤8000∧(R6 R.1).length≤90000000)∧Below base w w':=by
 have P:=A4 h;have Q:=A4 t;clear h t;go_enter Tryz.func73,Tryz.ntmps73;go_wp2;go_loopw [0,6] (fun x i wx=>∃(k:Nat) (rest:ByteArray) (L:List S2) (sv bv:Value) (D:DataW Unit),x=.string rest∧i=I J k∧k+rest.size≤s.size∧L.length≤k∧(R6 L).length≤8000*k∧PrP base B d L sv bv D wx∧D6 k L (F2 rest)=R∧Below base w wx) (fun x _ _=>B2E x);case atStart=>exact⟨0,s,[],sv,bv,D,rfl,rfl,O,Nat.zero_le _,Nat.zero_le _,P.o,Q.o,Below.refl _ _⟩
 case round=>
  obtain⟨k,rest,L,sv,bv,D,rfl,rfl,Y,aa,ab,u,heq,v⟩:=hrel;have y:=A4 u;have l:=A4 heq;have z:=A4 v;clear u heq v;by_cases A:rest.size=0
  ·obtain rfl:=A8C A;have n:Hd (R=(L,0,0)):=by
    show _=_;rw[←l.o,A6n,D6]
   go_wp2;go_ret2;rw[n.o];exact⟨rfl,fun _=>⟨sv,bv,D,y.o,by show L.length≤_;omega,by show(R6 L).length≤_;omega⟩,z.o⟩
  ·have ac:(rest.toList==([]:List UInt8))=false:=by
    rw[ByteArray.toList_eq];cases S:rest.data.toList with
    |nil=>have:=D8 rest;rw[S]at this;simp at this;omega
    |cons c r=>rfl
   go_wp2_with fail;refine(A9B rest _ O A).mono ?_;rintro e w1 ⟨x,C,f,rfl,T,m,rfl⟩;obtain⟨ad,ae,F⟩:=T;have G:=A4 F;clear F;go_wp2_with fail;refine(B0t base B d L sv bv D _ x (y.o.drew m) O O O).mono ?_;rintro e w2 ⟨rfl,hex,a⟩;have H:Hd (Below base w w2):=z.o.trans ⟨a.os,a.tape,a.output,a.size,a.block⟩;obtain⟨E,g⟩:=A8 ((E6 L x).1);have j:=A4 g;have V:Hd (E=0→∃sv' p q,PrP base B d (E6 L x).2 sv' p q w2):=fun h=>hex (by rw[←g];exact h);rw[←g];clear hex a g;by_cases b:E=0
   ·have K:=A6d L x (by rw[←j.o,b]);have W:Hd (D6 (k+1) (E6 L x).2 (F2 C)=R):=by
     show _=_;rw[←l.o,G.o,D6,if_pos (by rw[←j.o,b])]
    obtain⟨sv',p,q,M⟩:=V.o b;have X:=A4 M;have N:=A4 K;clear K M;subst b;go_wp2;go_roundw;case rel=>
     exact⟨k+1,C,(E6 L x).2,sv',p,q,rfl,Zn,O,by have:=N.o.1;omega,by have:=N.o.2;omega,X.o,W.o,H.o⟩
    case measure=>simp[B2E];omega
   ·have n:Hd (R=([],E,k)):=by
     show _=_;rw[←l.o,G.o,D6,if_neg (by rw[←j.o];exact b),←j.o]
    go_wp2;go_ret2;rw[n.o];exact⟨rfl,fun h=>absurd h b,H.o⟩
theorem A2a (s:ByteArray)(w:World)(hs:s.size≤140737488351232) :
 Calls Tryz.prog 49 #[.string s] w fun e w'=>∃v,e=.returned (.tuple #[v,I J (A7 s).2.1,I J (A7 s).2.2])∧A3 w' w.heap.size 88 2 v (A7 s).1.length (B4 (A7 s).1)∧((A7 s).2.1≠0→v=.slice none 0 0)∧Below w.heap.size w w':=by
 by_cases j:8000<s.size
 ·have a:Hd (A7 s=([],1,0)):=by show _=_;unfold A7;rw[if_pos j]
  have c1:(8000:Int)<s.size:=O;go_enter Tryz.func49,Tryz.ntmps49;go_wp2;go_ret3;rw[a.o];exact⟨_,rfl,A3.nil _ _ _ _,fun _=>rfl,Below.refl _ _⟩
 ·have a:Hd (D6 0 [] (F2 s)=A7 s):=by show _=_;unfold A7;rw[if_neg j]
  have u:s.size≤8000:=O;have c1:¬(8000:Int)<s.size:=O;have H:=run_makeMap (P:=Tryz.prog) 141 w;go_enter Tryz.func49,Tryz.ntmps49;go_wp2_with fail;have k:Hd (PrP w.heap.size (w.heap.size+1) w.heap.size [] (.slice none 0 0) (.slice none 0 0) (.map []) ((w.alloc (.map #[] 0)).alloc (.cells #[.slice none 0 0,.map (some w.heap.size),.slice none 0 0] 167))):=by
   refine⟨by simpa using heap_alloc_new (w.alloc (.map #[] 0)) _,A3.nil _ _ _ _,A3.nil _ _ _ _,(World.ownsMap_made w _ _ _).alloc _,fun x=>?_,Zo,O,Nat.le_refl _⟩;constructor
   ·intro h;simp[Maps.has]at h
   ·rintro⟨_,h,_⟩;simp at h
  refine(A4a w.heap.size (w.heap.size+1) w.heap.size s _ u _ _ _ k.o (A7 s) a.o).mono ?_;rintro e w2 ⟨rfl,hex,l⟩;obtain⟨L,F,K,f⟩:∃L F K,A7 s=(L,F,K):=⟨_,_,_,rfl⟩;have b:=A4 f;rw[f]at hex⊢;have y:=A4 hex;have m:Hd (Below w.heap.size w w2):=by
   have h1:Below w.heap.size w (w.alloc (.map #[] 0)):=(Below.refl _ w).alloc (Nat.le_refl _) _;have z:=h1.alloc h1.size (.cells #[.slice none 0 0,.map (some w.heap.size),.slice none 0 0] 167);exact z.trans l
  clear hex l f k;by_cases g:F=0
  ·obtain⟨sv,bv,D,n,M,N⟩:=y.o g;subst g;have p:=A4 n;clear n;go_wp2_with fail;refine(A26 w.heap.size (w.heap.size+1) w.heap.size L sv bv D w2 p.o O O).mono ?_;rintro e r ⟨rfl,Q,t,i,A,d⟩;have c0:r.cell? ⟨w.heap.size+1,0,none⟩=some sv:=A1 t rfl;have B:=A4 i;have C:Hd (Below w.heap.size w r):=m.o.trans ⟨d.os,d.tape,d.output,by rw[d.size];exact Nat.le_refl _,fun q R=>d.other q O (fun he=>by have:=(p.o.seqs.lt he).1;omega)⟩;obtain⟨S,c,E⟩:=i.form;subst E;clear t i A d;go_wp2;go_ret3;rw[b.o];obtain rfl:K=0:=by
    have:=M9 (F2 s) 0 [] (by rw[a.o,b.o]);rw[a.o,b.o]at this;exact this
   exact⟨_,rfl,B.o,fun h=>absurd rfl h,C.o⟩
  ·go_wp2;go_ret3;rw[b.o];have G:L=[]:=by
    have:=A2O (F2 s) 0 [] (by rw[a.o,b.o];exact g);rw[a.o,b.o]at this;exact this
   subst G;exact⟨_,rfl,A3.nil _ _ _ _,fun _=>rfl,m.o⟩
end
end Mn
end Go.Proofs.YtilcmkiihefkkaaGreatDoor
