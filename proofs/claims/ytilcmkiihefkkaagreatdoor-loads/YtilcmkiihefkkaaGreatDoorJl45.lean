import Derived.Test.YtilcmkiihefkkaaGreatDoorJl32
import Derived.Test.YtilcmkiihefkkaaGreatDoorJl44
set_option linter.unusedVariables false
set_option linter.unusedSimpArgs false
set_option maxRecDepth 1000000
set_option maxHeartbeats 64000000
open Go.Value renaming int→I
open Go.IntKind renaming i64→J
namespace Go.Proofs.YtilcmkiihefkkaaGreatDoor
namespace Mn
section
open Go.RowKit Go.Shelf Go.Lib
theorem drawn {a w w':World}(h:Below a.heap.size a w)(b:Below w.heap.size w w'):Below a.heap.size a w':=h.trans (b.mono h.size)
theorem B37 (X a c:List UInt8)(nm b:ByteArray)(V:List UInt8)(h:V=X++(a++nm.data.toList++c++b.data.toList)):((((⟨X.toArray⟩++⟨a.toArray⟩)++nm)++⟨c.toArray⟩)++b:ByteArray)=⟨V.toArray⟩:=by
 subst h;apply ByteArray.ext;apply Array.ext';simp
theorem B1Z (R:List S2)(base Y k W sc:Nat)(d:World)(aj:1≤k)(ak:k≤12)(hW:1≤W)(bg:W≤20)(av:sc=9223372036854775808∨sc≤4652007308841189376)(hR:∀x∈R,good x.b)(aw:R.length<100000)(ax:C7 R R.length≤4000)(ay:(D2 k W sc R).length≤500000000)(hI:RxP d base Y R k W sc)
 (Q:Ending→World→Prop)(hQ:∀H w',HsP (D6 k W R R.length) H→Below d.heap.size d w'→Q (.returned (.string ⟨(D3 k W sc R H).toArray⟩)) w')
 (C:Code)(hC:Tryz.f12.body.bind (G4 3)=some C)(B:Code)(hB:Tryz.f12.body.bind (U5 3 C)=some B)(fa:Act)(aU:Fr 176 [(0,.pointer (some ⟨Y,0,none⟩))] fa) :
 Code.wp Tryz.prog B (bodyPost Tryz.prog Tryz.f12 Q) fa d:=by
 have ab:=hB;conv at ab=>lhs;whnf
 injection ab with ab;subst ab;clear hB;obtain⟨f0,rfl,al⟩:=aU;simp only[Hs]at al;simp only[fr,Y5,Nat.reduceAdd,al];clear al;have P:D6 k W R R.length=P5 (stN k W R R.length):=funext fun h=>A1S k W R R.length h;obtain⟨L,az⟩:∃L,L=stN k W R R.length:=⟨_,rfl⟩;have S:=A0A aj ak hW R hR R.length (Nat.le_refl _);obtain⟨rv,lv,hY,hO,hL,_⟩:=hI;rw[←az]at P S hL;have aA:=A4a aj ak hW R hR ax aw;have aB:=fun h=>A11 aj ak hW R hR h;have aV:Hd (∀p∈L,(0≤p.1∧p.1<16777216)∧(0≤p.2.h∧p.2.h<100000)∧0≤p.2.p∧p.2.p<100000):=by
  intro p hp;have hm:p.2∈D6 k W R R.length p.1:=by
   rw[P];unfold P5;exact List.mem_map.2 ⟨p,List.mem_filter.2 ⟨hp,(P9 _ _).2 rfl⟩,rfl⟩
  have h1:=aA p.1 p.2 hm;exact⟨aB p.1 (List.ne_nil_of_mem hm),⟨h1.1,h1.2.1⟩,h1.2.2⟩
 have aW:=A4 (fun s w hs y=>B2E L base Y k W sc rv lv s d w hY hL O aV.o hs y);have HQ:Hd (∀H w',HsP (P5 L) H→Below d.heap.size d w'→Q (.returned (.string ⟨(D3 k W sc R H).toArray⟩)) w'):=by rw[←P];exact hQ
 have aX:Hd (∀H,D3 k W sc R H=D2 k W sc R++(B8 H.length 2++S3 (P5 L) 0 H)):=by
  intro H;unfold D3;rw[P,List.append_assoc]
 have aY:=A4 hC;obtain⟨n,G⟩:∃n,n=R.length:=⟨_,rfl⟩;have HN:=A4 G;obtain⟨ra,rc,ac⟩:=hO.form;rw[←G]at ac aw;have HO:Hd (A3 d base 88 2 (.slice ra n rc) n (B3 R)):=by rw[G,←G,←ac,G];exact hO
 have aZ:=lt_of_block hY;have M:Hd (∀wr:World,Below d.heap.size d wr→wr.cell? ⟨Y,0,none⟩=some (I J k)∧wr.cell? ⟨Y,1,none⟩=some (I J W)∧wr.cell? ⟨Y,2,none⟩=some (.float .f64 sc)∧wr.cell? ⟨Y,3,none⟩=some (.slice ra n rc)):=by
  intro wr y;have e:=(y.block Y aZ).trans hY;rw[ac]at e;exact⟨A1 e rfl,A1 e rfl,A1 e rfl,A1 e rfl⟩
 have T:Hd (∀k n W,n≤9223372036854775807→k≤8→Calls Tryz.prog 39 #[I J (n:Nat),I J (k:Nat)] W fun e w'=>e=.returned (.string ⟨(B8 n k).toArray⟩)∧Below W.heap.size W w'):=fun k n W h1 V=>M8 k n W h1 V;have CP:Hd (∀c,Calls Tryz.prog 40 #[.float .f64 sc] c fun e w'=>e=.returned (.string ⟨(B8 sc 8).toArray⟩)∧Below c.heap.size c w'):=fun c=>A4F sc c av;have N:Hd (∀a b:Nat,(⟨(B8 a b).toArray⟩:ByteArray).size=b):=fun a b=>by show(B8 a b).toArray.size=b;rw[List.size_toArray,B2]
 clear hQ hC az S P aA aB hL hY hO ac G ax hR av;obtain⟨u,ad⟩:∃s:ByteArray,s=⟨(B8 k 1).toArray⟩:=⟨_,rfl⟩;obtain⟨v,ae⟩:∃s:ByteArray,s=⟨(B8 W 1).toArray⟩:=⟨_,rfl⟩;obtain⟨E,af⟩:∃s:ByteArray,s=⟨(B8 sc 8).toArray⟩:=⟨_,rfl⟩;obtain⟨sn,ag⟩:∃s:ByteArray,s=⟨(B8 n 2).toArray⟩:=⟨_,rfl⟩;have zk:u.size=1:=by rw[ad];exact N.o k 1
 have zw:v.size=1:=by rw[ae];exact N.o W 1
 have zs:E.size=8:=by rw[af];exact N.o sc 8
 have zn:sn.size=2:=by rw[ag];exact N.o n 2
 have ba:Hd ((((⟨#[80,76,71,82]⟩++u)++v)++E)++sn=(⟨(D2 k W sc (R.take 0)).toArray⟩:ByteArray)∨True):=Or.inr trivial;have cK:∀c,Calls Tryz.prog 39 #[I J k,I J 1] c fun e w'=>e=.returned (.string u)∧Below c.heap.size c w':=fun c=>by rw[ad];exact T.o 1 k c O O
 have cV:∀c,Calls Tryz.prog 39 #[I J W,I J 1] c fun e w'=>e=.returned (.string v)∧Below c.heap.size c w':=fun c=>by rw[ae];exact T.o 1 W c O O
 have cS:∀c,Calls Tryz.prog 40 #[.float .f64 sc] c fun e w'=>e=.returned (.string E)∧Below c.heap.size c w':=by rw[af];exact CP.o
 have cN:∀c,Calls Tryz.prog 39 #[I J n,I J 2] c fun e w'=>e=.returned (.string sn)∧Below c.heap.size c w':=fun c=>by rw[ag];exact T.o 2 n c O O
 have aC:Hd ((((⟨#[80,76,71,82]⟩++u)++v)++E)++sn=(⟨(J6++J5 k W sc++B8 n 2).toArray⟩:ByteArray)):=by
  show _=_;rw[show(⟨#[80,76,71,82]⟩:ByteArray)=⟨J6.toArray⟩ from rfl,ad,ae,af,ag,F9,F9,F9,F9];unfold J5;simp only[List.append_assoc]
 clear ad ae af ag ba;have am:Below d.heap.size d d.drew:=⟨rfl,rfl,rfl,Nat.le_refl _,fun _ _=>rfl⟩;have bb:=A4 am;go_upto_region 1 with fail;rename_i K1 aD;have hy:=M.o d.drew am;clear am;have t1:¬9223372036854775807<4+u.size:=O;refine A5 29 (fun wr=>wr.cell? ⟨Y,0,none⟩=some (I J k)∧wr.cell? ⟨Y,1,none⟩=some (I J W)∧wr.cell? ⟨Y,2,none⟩=some (.float .f64 sc)∧wr.cell? ⟨Y,3,none⟩=some (.slice ra n rc)) U hy (fun hH=>?_);refine A2 0 ?_;refine A2 1 ?_;refine A2 2 ?_;refine A2 3 ?_;refine A2 4 ?_;refine A2 7 ?_;refine A2 8 ?_;refine A2 9 ?_;refine A2 10 ?_;refine A2 11 ?_;refine A2 14 ?_;refine A2 15 ?_;refine A2 16 ?_;refine A2 17 ?_;refine A2 18 ?_;refine A2 21 ?_;refine A2 22 ?_;refine A2 23 ?_;refine A2 24 ?_;refine A2 25 ?_;have t2:¬9223372036854775807<(⟨#[80,76,71,82]⟩++u).size+v.size:=by rw[ByteArray.size_append];show ¬9223372036854775807<4+u.size+v.size;omega
 have t3:¬9223372036854775807<((⟨#[80,76,71,82]⟩++u)++v).size+E.size:=by rw[ByteArray.size_append,ByteArray.size_append];show ¬9223372036854775807<4+u.size+v.size+E.size;omega
 have t4:¬9223372036854775807<(((⟨#[80,76,71,82]⟩++u)++v)++E).size+sn.size:=by rw[ByteArray.size_append,ByteArray.size_append,ByteArray.size_append];show ¬9223372036854775807<4+u.size+v.size+E.size+sn.size;omega
 refine wpS 5 fun K i=>?_;go_simp;go_at_call 39;refine(cK _).mono ?_;rintro e V1 ⟨rfl,l⟩;have aE:Hd (Below d.heap.size d V1):=drawn bb.o l;have f:=M.o V1 aE.o;refine i.out _ _ f ?_;clear i K l hH;have hH:=f;clear f;try simp only[Act.put,zA0,zZ0,zS0]
 refine A2 6 ?_;refine wpS 12 fun K i=>?_;go_simp;go_at_call 39;refine(cV _).mono ?_;rintro e V2 ⟨rfl,l⟩;have aF:Hd (Below d.heap.size d V2):=drawn aE.o l;have f:=M.o V2 aF.o;refine i.out _ _ f ?_;clear i K l hH;have hH:=f;clear f;try simp only[Act.put,zA0,zZ0,zS0]
 refine A2 13 ?_;refine wpS 19 fun K i=>?_;go_simp;go_at_call 40;refine(cS _).mono ?_;rintro e V3 ⟨rfl,l⟩;have aG:Hd (Below d.heap.size d V3):=drawn aF.o l;have f:=M.o V3 aG.o;refine i.out _ _ f ?_;clear i K l hH;have hH:=f;clear f;try simp only[Act.put,zA0,zZ0,zS0]
 refine A2 20 ?_;refine wpS 26 fun K i=>?_;go_simp;go_at_call 39;refine(cN _).mono ?_;rintro e V4 ⟨rfl,l⟩;have aH:Hd (Below d.heap.size d V4):=drawn aG.o l;have f:=M.o V4 aH.o;refine i.out _ _ f ?_;clear i K l hH;have hH:=f;clear f;try simp only[Act.put,zA0,zZ0,zS0]
 refine A2 27 ?_;refine A2 28 ?_;refine M7 ?_;refine aD _ _ ?_;clear aD hH;clear t1 t2 t3 t4 cK cV cS cN;obtain⟨F,an⟩:∃X,X=J6++J5 k W sc++B8 n 2:=⟨_,rfl⟩;rw[←an]at aC;have aI:Hd (D2 k W sc R=F++R.flatMap D0):=by show _=_;unfold D2;rw[an,HN.o]
 clear an;go_wp2_with fail;go_loopw [3,4] (fun sv iv wr=>∃j:Nat,j≤n∧iv=I J j∧sv=.string ⟨(F++(R.take j).flatMap D0).toArray⟩∧Below d.heap.size d wr) (fun _ iv _=>n-(RowKit.intOf iv).toNat);case atStart=>exact⟨0,Nat.zero_le _,rfl,congrArg Value.string (aC.o.trans Zs),aH.o⟩
 case round=>
  obtain⟨j,hj,rfl,rfl,y⟩:=hrel;have HB:=A4 y;have y3:=(M.o wr y).2.2.2;by_cases bh:j<n
  ·have aJ:j<R.length:=by have:=HN.o;omega
   obtain⟨g,o,cp,S,_,bi⟩:=HO.o.addr O;simp only[Value.slice.injEq,true_and]at S;obtain⟨rfl,rfl⟩:=S;have hd:=(HO.o.other (w':=wr) (fun q _ hq=>y.block q hq)).seqs j aJ;obtain⟨x,hx⟩:∃x,x=R[j]:=⟨_,rfl⟩;rw[←hx]at hd;obtain⟨d0,d1⟩:=hd;have aK:Hd ((R.take (j+1)).flatMap D0=(R.take j).flatMap D0++D0 x):=by
    show _=_;rw[show R.take (j+1)=R.take j++[R[j]] by rw[List.take_add_one,List.getElem?_eq_getElem aJ];rfl,List.flatMap_append,hx];simp
   have hlen:(F++(R.take (j+1)).flatMap D0).length≤500000000:=by
    have h1:=Z9 D0 R (j+1);have V:=ay;rw[aI.o,List.length_append]at V;rw[List.length_append];omega
   obtain⟨nm,ao⟩:∃nm,nm=x.n:=⟨_,rfl⟩;obtain⟨m,ap⟩:∃m,m=x.b:=⟨_,rfl⟩;have aL:Hd (D0 x=B8 nm.size 1++nm.data.toList++B8 m.size 2++m.data.toList):=by show _=_;rw[ao,ap];rfl
   rw[aK.o,aL.o]at hlen;simp only[List.length_append,B2]at hlen;have aM:nm.data.toList.length=nm.size:=rfl;have aN:m.data.toList.length=m.size:=rfl;rw[aM,aN]at hlen;rw[←ao]at d0;rw[←ap]at d1;obtain⟨r,z⟩:∃s:ByteArray,s=⟨(F++(R.take j).flatMap D0).toArray⟩:=⟨_,rfl⟩;have aq:=A4 z;have bc:r.size=F.length+((R.take j).flatMap D0).length:=by rw[z];show(_:List UInt8).toArray.size=_;rw[List.size_toArray,List.length_append]
   rw[←z];obtain⟨s1,ah⟩:∃s:ByteArray,s=⟨(B8 nm.size 1).toArray⟩:=⟨_,rfl⟩;obtain⟨s2,ai⟩:∃s:ByteArray,s=⟨(B8 m.size 2).toArray⟩:=⟨_,rfl⟩;have z1:s1.size=1:=by rw[ah];exact N.o _ 1
   have z2:s2.size=2:=by rw[ai];exact N.o _ 2
   have c1:∀c,Calls Tryz.prog 39 #[I J nm.size,I J 1] c fun e w'=>e=.returned (.string s1)∧Below c.heap.size c w':=fun c=>by rw[ah];exact T.o 1 nm.size c O O
   have c2:∀c,Calls Tryz.prog 39 #[I J m.size,I J 2] c fun e w'=>e=.returned (.string s2)∧Below c.heap.size c w':=fun c=>by rw[ai];exact T.o 2 m.size c O O
   have bd:Hd (((((r++s1)++nm)++s2)++m)=⟨(F++(R.take (j+1)).flatMap D0).toArray⟩):=by
    show _=_;rw[aK.o,aL.o,z,ah,ai];exact B37 _ _ _ _ _ _ (by simp only[List.append_assoc])
   have t1:¬9223372036854775807<r.size+s1.size:=O;have t2:¬9223372036854775807<(r++s1).size+nm.size:=by rw[ByteArray.size_append];omega
   have t3:¬9223372036854775807<((r++s1)++nm).size+s2.size:=by rw[ByteArray.size_append,ByteArray.size_append];omega
   have t4:¬9223372036854775807<(((r++s1)++nm)++s2).size+m.size:=by rw[ByteArray.size_append,ByteArray.size_append,ByteArray.size_append];omega
   have u2:¬9223372036854775807<r.size+s1.size+nm.size:=O;have u3:¬9223372036854775807<r.size+s1.size+nm.size+s2.size:=O;have u4:¬9223372036854775807<r.size+s1.size+nm.size+s2.size+m.size:=O;have bj:r.size+nm.size+m.size≤500000000:=O;clear bc hlen z1 z2;obtain⟨t,aa⟩:∃D:World,D=wr.alloc (Obj.cells #[.string nm,.string m] 88):=⟨_,rfl⟩;have aO:Below wr.heap.size wr t:=by rw[aa];exact(Below.refl _ _).alloc (Nat.le_refl _) _
   have ar:t.heap[wr.heap.size]?=some (.cells #[.string nm,.string m] 88 (0,0)):=by rw[aa];exact heap_alloc_new wr _
   have bk:t.heap.size=wr.heap.size+1:=by rw[aa];simp
   have aP:=A4 aO;have au:Hd (∀D,Below t.heap.size t D→D.cell? ⟨wr.heap.size,0,none⟩=some (.string nm)∧D.cell? ⟨wr.heap.size,1,none⟩=some (.string m)):=fun D h1=>⟨A1 ((h1.block _ O).trans ar) rfl,A1 ((h1.block _ O).trans ar) rfl⟩;have aQ:Hd (Below t.heap.size t t.drew):=⟨rfl,rfl,rfl,Nat.le_refl _,fun _ _=>rfl⟩;clear hx ao ap z ah ai y aO ar aM aN;go_upto_region 6 with fail;rename_i K6 aR;rw[←aa];clear aa;have hy:=au.o t.drew aQ.o;refine A5 18 (fun D=>D.cell? ⟨wr.heap.size,0,none⟩=some (.string nm)∧D.cell? ⟨wr.heap.size,1,none⟩=some (.string m)) U hy (fun hH=>?_);refine A2 0 ?_;refine A2 1 ?_;refine A2 2 ?_;refine A2 3 ?_;refine A2 6 ?_;refine A2 7 ?_;refine A2 9 ?_;refine A2 10 ?_;refine A2 11 ?_;refine A2 14 ?_;refine A2 15 ?_;refine wpS 4 fun K i=>?_;go_simp;go_at_call 39;refine(c1 _).mono ?_;rintro e U1 ⟨rfl,l⟩;have aS:Hd (Below t.heap.size t U1):=drawn aQ.o l;have f:=au.o U1 aS.o;refine i.out _ _ f ?_;clear i K l hH;have hH:=f;clear f;try simp only[Act.put,zA0,zZ0,zS0]
   refine A2 5 ?_;refine A2 8 ?_;refine wpS 12 fun K i=>?_;go_simp;go_at_call 39;refine(c2 _).mono ?_;rintro e U2 ⟨rfl,l⟩;have aT:Hd (Below t.heap.size t U2):=drawn aS.o l;have f:=au.o U2 aT.o;refine i.out _ _ f ?_;clear i K l hH;have hH:=f;clear f;try simp only[Act.put,zA0,zZ0,zS0]
   refine A2 13 ?_;refine A2 16 ?_;refine A2 17 ?_;refine M7 ?_;refine aR _ _ ?_;clear aR hH hy t1 t2 t3 t4 c1 c2 d0 d1;go_wp2_with fail;go_roundw;case rel=>exact⟨j+1,O,Zn,congrArg Value.string bd.o,HB.o.trans ((aP.o.trans (aT.o.mono aP.o.size)).mono HB.o.size)⟩
   case measure=>simp[RowKit.intOf];omega
  ·have be:j=n:=O;have bf:Hd ((⟨(F++(R.take j).flatMap D0).toArray⟩:ByteArray)=⟨(D2 k W sc R).toArray⟩):=by show _=_;rw[aI.o,be,HN.o,List.take_length]
   obtain⟨r,z⟩:∃s:ByteArray,s=⟨(F++(R.take j).flatMap D0).toArray⟩:=⟨_,rfl⟩;have aq:Hd (r=⟨(D2 k W sc R).toArray⟩):=by show _=_;rw[z];exact bf.o
   rw[←z];clear z y;go_wp2_with fail;exact aW.o r wr (by rw[aq.o];show(D2 k W sc R).toArray.size≤_;rw[List.size_toArray];exact ay) HB.o _ (Fr.of _ rfl ⟨rfl,rfl,trivial⟩) Q (fun A w' h1 V=>by
    have:=HQ.o A w' h1 V;rw[aX.o A]at this;rw[B0F aq.o rfl rfl rfl];exact this) C aY.o
theorem A2p (R:List S2)(base Y k W sc:Nat)(a:World)(f:1≤k)(g:k≤12)(h:1≤W)(i:W≤20)(j:sc=9223372036854775808∨sc≤4652007308841189376)(l:∀x∈R,good x.b)(m:R.length<100000)(n:C7 R R.length≤4000)(o:(D2 k W sc R).length≤500000000)(p:RxP a base Y R k W sc) :
 Calls Tryz.prog 12 #[.pointer (some ⟨Y,0,none⟩)] a fun e w'=>SvP R k W sc a e w':=by
 obtain⟨C,c⟩:∃C,Tryz.f12.body.bind (G4 3)=some C:=⟨_,rfl⟩;obtain⟨B,d⟩:∃D,Tryz.f12.body.bind (U5 3 C)=some D:=⟨_,rfl⟩;have q:Tryz.f12.body=some B:=by
  have e1:=c;conv at e1=>lhs;whnf
  injection e1 with e1;subst e1;refine Eq.trans ?_ d;show Tryz.f12.body=_;first|kernel_rfl|rfl
 have key:=B1Z R base Y k W sc a f g h i j l m n o p (fun e w'=>SvP R k W sc a e w') (fun H w' h1 r=>⟨H,h1,rfl,r⟩) C c B d;refine calls_of_wp Tryz.func12 q ?_;simp only[Tryz.ntmps12,List.size_toArray,List.length_cons,List.length_nil,Nat.reduceAdd,Nat.reduceSub,Array.replicate_succ,Array.replicate_zero,List.push_toArray,List.append_toArray,List.nil_append,List.cons_append];exact key _ (Fr.of _ rfl ⟨rfl,trivial⟩)
end
section
open Go.RowKit Go.Shelf Go.Lib
attribute [local go_sem] C0
theorem rt0 (Y:Nat)(a w:World)(k:Below a.heap.size a w)(h1:w.heap[a.heap.size+1]?=some (.cells #[.string ⟨#[]⟩,I J 0,I J 0,.bool false,.string ⟨#[]⟩,I J 0,I J 0,.float .f64 0,.float .f64 0,I J 0,.string ⟨#[]⟩,I J 0,.float .f64 0] 71 (0,0)))
 (d:Act)(l:Fr 273 [(0,.pointer (some ⟨Y,0,none⟩)),(3,.pointer (some ⟨a.heap.size,0,none⟩)),(4,.pointer (some ⟨a.heap.size+1,0,none⟩)),(6,.pointer (some ⟨a.heap.size+2,0,none⟩)),(11,.bool false)] d)(Q:Ending→World→Prop)(f:∀w',Below a.heap.size a w'→Q (.returned (.tuple (A0Z none))) w')
 (C:Code)(B:Code)(g:(Tryz.f71.body.bind (G4 10)).bind (U5 14 C)=some B) :
 Code.wp Tryz.prog B (bodyPost Tryz.prog Tryz.f71 Q) d w:=by
 have b:=g;conv at b=>lhs;whnf
 injection b with b;subst b;clear g;obtain⟨f0,rfl,c⟩:=l;simp only[Hs]at c;simp only[fr,Y5,Nat.reduceAdd,c];clear c;have m:=A4 f;clear f;go_wp2_with fail;rename_i n h;refine A5 12 (fun _=>True) U trivial (fun hH=>?_);refine A2 0 ?_;refine A2 1 ?_;refine A2 2 ?_;refine F0 3 ?_;refine F0 4 ?_;refine F0 5 ?_;refine F0 6 ?_;refine F0 7 ?_;refine F0 8 ?_;refine F0 9 ?_;refine F0 10 ?_;refine A2 11 ?_;refine M7 ?_;refine h _ _ ?_;clear h hH;have z0:=A1 h1 (i:=0) rfl;have p:=A1 h1 (i:=1) rfl;have z2:=A1 h1 (i:=2) rfl;have z3:=A1 h1 (i:=3) rfl;have z4:=A1 h1 (i:=4) rfl;have z5:=A1 h1 (i:=5) rfl;have q:=A1 h1 (i:=6) rfl;have r:=A1 h1 (i:=7) rfl;have s:=A1 h1 (i:=8) rfl;have z9:=A1 h1 (i:=9) rfl;have t:=A1 h1 (i:=10) rfl;have u:=A1 h1 (i:=11) rfl;have z12:=A1 h1 (i:=12) rfl;have v:∀off,w.frozen? ⟨a.heap.size+1,off,none⟩=false:=fun off=>frozen_of_row _ _ _ _ _ h1;go_wp2_with fail;have j:=(Y0 (.string ⟨#[]⟩) (I J 0) (I J 0) (.bool false) (.string ⟨#[]⟩) (I J 0) (I J 0) (.float .f64 0) (.float .f64 0) (I J 0) (.string ⟨#[]⟩) (I J 0) (.float .f64 0) h1).drew;refine bodyPost_ret (D1 rfl _ _ (a.heap.size+1) 71 _ _ _ rfl j.here Tryz.underlying71 rfl U) rfl ?_;exact m.o _  (k.trans (j.below O))
end
section
open Go.RowKit
theorem A33 {s:ByteArray}(h:good s)(a b:Nat):good (s.extract a b):=by
 have f:∀c∈(s.extract a b).data.toList,0≤B4 c:=by
  intro c d;rw[I7]at d;exact A0c h c (List.mem_of_mem_drop (List.mem_of_mem_take d))
 have:=A0a f;rwa [show ∀x:ByteArray,(⟨x.data.toList.toArray⟩:ByteArray)=x from fun x=>by cases x;simp]at this
theorem B1l {s:ByteArray}(h:good s)(b:Bool):good (R8 b s):=by
 unfold R8;split
 ·exact A0a A28
 ·exact h
theorem B2l (a b:ByteArray)(h:good a)(i:good b)(c:a.size≤300)(d:b.size≤600):LtF a b:=by
 have f:_root_.Go.Proofs.YtilcmkiihefkkaaGreatDoor.good a:=h;have g:_root_.Go.Proofs.YtilcmkiihefkkaaGreatDoor.good b:=i;obtain⟨e1,j,k⟩:=_root_.Go.Proofs.YtilcmkiihefkkaaGreatDoor.scT_fwd f g c d;have l:=_root_.Go.Proofs.YtilcmkiihefkkaaGreatDoor.pth_fwd f g c d;have hlen:(_root_.Go.Proofs.YtilcmkiihefkkaaGreatDoor.fwd a b).length≤900:=by
  have:=A0Y 1000000000 (_root_.Go.Proofs.YtilcmkiihefkkaaGreatDoor.uR a b) (a.size+b.size) a.size b.size 0;unfold fwd;rw[List.length_reverse];omega
 refine⟨e1,lets (fwd a b),?_,?_,?_⟩
 ·rw[M9,←l,List.length_reverse];rfl
 ·intro W;rw[k];exact A4x a b c d (fun w=>A6d a b c d w) (fun m w G n=>A4J a b c d m w G n) W
 ·intro W;rw[j];exact A9F (fwd a b) _ rfl hlen (fun x o=>A1H _ _ _ _ _ _ x (List.mem_reverse.1 o)) W
end
section
open Go.RowKit Go.Shelf Go.Lib
attribute [local go_sem] C0
theorem B1Y (R:List S2)(base Y k W sc:Nat)(rn rb:ByteArray)(f:World)(v:1≤k)(p:k≤12)(y:1≤W)(aq:W≤20)(z:∀x∈R,good x.b∧1≤x.n.size∧x.n.size≤8000∧x.b.size≤4000)(X:R.length<100000)(ar:C7 R R.length≤4000)(hI:RxP f base Y R k W sc)(q:rb.size≤300)(i:good rb)(w:World)(wv H:Value)(all ref:Nat)(fd bk:Bool)(fS fO:Nat)(Cl:List (Int×Int))(c:RfI f w R k W rn rb wv H (2*R.length) all ref fd bk fS fO Cl)
 (K:Act)(aa:Fr 273 [(0,.pointer (some ⟨Y,0,none⟩)),(3,.pointer (some ⟨f.heap.size,0,none⟩)),(4,.pointer (some ⟨f.heap.size+1,0,none⟩)),(6,.pointer (some ⟨f.heap.size+2,0,none⟩)),(7,I J rb.size),(11,.bool fd),(12,H),(13,I J ref)] K)(Q:Ending→World→Prop)(L:∀res w',O4 R k W sc rn rb res→Below f.heap.size f w'→Q (.returned (.tuple (A0Z res))) w')
 (r:Code)(ab:Tryz.f71.body.bind (G4 24)=some r)(C:Code)(M:(Tryz.f71.body.bind (G4 10)).bind (U5 14 r)=some C) :
 Code.wp Tryz.prog C (bodyPost Tryz.prog Tryz.f71 Q) K w:=by
 obtain⟨f0,rfl,z0,z3,z4,N,z7,P,S,zr,_⟩:=aa;have A:∀x∈R,good x.b∧x.b.size≤4000:=fun x T=>⟨(z x T).1,(z x T).2.2.2⟩;have B:cG k W R rb (2*R.length)≤400:=by rw[←c.ac];exact c.a4
 rcases c.st with⟨rfl,rfl,rfl,rfl,rfl,rfl,hn⟩|⟨rfl,a,oq,D,rfl,rfl,rfl,rfl,rfl⟩
 ·exact rt0 Y f w c.bl c.b1 _ ⟨f0,rfl,z0,z3,z4,N,P,trivial⟩ Q (fun w' E=>L none w' (A8p v p y A i q rfl B hn) E) r C M
 ·obtain⟨s,j,t,h,d⟩:=B1L v p y A i q rfl B D;have ad:=B16 (sc:=sc) (rn:=rn) v p y A i q rfl B D d.e0 d.e1;obtain⟨rv,lv,hY,hO,_,_⟩:=hI;have u:a.1.val<R.length:=d.qi;obtain⟨gr,or,cr,rfl,_,ae⟩:=hO.addr O;have F:=hO.seqs a.1.val u;rw[←C8 R a.1.val S0 u]at F;have af:=T4 R a.1.val u;obtain⟨g,o,cp,rfl,_,au⟩:=c.co.addr d.len;have ag:D5 (gL k W R rb (sd a)) k=chQ k (gL k W R rb (sd a)):=by unfold D5;rw[if_pos d.err]
  have ah:=d.lo;have V:=d.hi;rw[←ag]at ah V;have bd:=A79 D;have ai:=A04 _ _ d.err;have hlen:=d.len;obtain⟨m,hm⟩:=A8 ((N5 k (gL k W R rb (sd a))).length);have l:=c.co;rw[←hm]at l;have a0:=P4 (N5 k (gL k W R rb (sd a))) 0 hlen;have G:=P4 (N5 k (gL k W R rb (sd a))) ((N5 k (gL k W R rb (sd a))).length-1) O;have e0:(N5 k (gL k W R rb (sd a)))[0]'hlen=((s:Int),(j:Int)):=by rw[←d.e0];unfold c0;rw[C8 _ _ _ hlen]
  have e1:(N5 k (gL k W R rb (sd a)))[(N5 k (gL k W R rb (sd a))).length-1]'O=((t:Int),(h:Int)):=by rw[←d.e1];unfold c1;rw[C8]
  rw[e0]at a0;rw[e1,←hm]at G;have k0:w.cell? ⟨g,o,none⟩=some (I J s):=l.cellAt a0.1;have k1:w.cell? ⟨g,o+1,none⟩=some (I J j):=l.cellAt a0.2;have k2:w.cell? ⟨g,o+(m-1)*2,none⟩=some (I J t):=by have:=l.cellAt G.1;rwa [Nat.mul_comm 2]at this
  have k3:w.cell? ⟨g,o+(m-1)*2+1,none⟩=some (I J h):=by have:=l.cellAt G.2;rwa [Nat.mul_comm 2,←Nat.add_assoc]at this
  have aj:g≠f.heap.size+1:=fun e=>c.co.tag Z c.b1 (by rw[e];rfl);have ak:g≠f.heap.size+2:=fun e=>c.co.tag Z c.b2 (by rw[e];rfl);have av:=d.le0;have aw:=d.le1;have al:=d.b0;have am:h+k≤(R.getD a.1.val S0).b.size:=d.b1;have an:=z _ af;have hL:∀b:Bool,((R.getD a.1.val S0).b.extract j (h+k)).size≤600→LtF ((R8 b rb).extract s (t+k)) ((R.getD a.1.val S0).b.extract j (h+k)):=fun b h6=>B2l _ _ (A33 (B1l i b) _ _) (A33 an.1 _ _) (by rw[ByteArray.size_extract,W2];omega) h6;have ao:=c.b2;rw[←hm]at S;exact rt1 _ Y k W sc a.1.val g o cp m s j t h gr or cr R.length lv rn rb _ _ (D5 (gL k W R rb (sd a)) k) oq f w hY F.1 F.2 ae u X c.bl c.b0 c.b1 ao c.sz aj ak O (by rw[hm];exact ai.2.2) ⟨k0,k1⟩ ⟨k2,k3⟩ p O al O am q O i (hL _) bd.1 bd.2 O V _ ⟨f0,rfl,z0,z3,z4,N,z7,P,S,zr,trivial⟩ Q (fun res w' ap E=>L res w' (by rw[ap];exact ad) E) r ab C M
end
section
open Go.RowKit
theorem B03 (k W:Nat)(R:List S2)(s:ByteArray)(q:Int×Bool):anL s.size k (P5 (stN k W R R.length)) q (Q8 k W s)=gL k W R s q:=by
 unfold gL;rw[show D6 k W R R.length=P5 (stN k W R R.length) from funext fun h=>A1S k W R R.length h]
theorem B14 (R:List S2)(base Y k W sc:Nat)(rb:ByteArray)(c:World)(m:1≤k)(d:k≤12)(n:1≤W)(t:∀x∈R,good x.b)(A:C7 R R.length≤4000)(u:RxP c base Y R k W sc)(B:rb.size≤300)(f:good rb)
 (o:Value)(j:Nat)(a:Bool)(wr:World)(q:Below c.heap.size c wr)(wo:A3 wr c.heap.size 114 3 o (Q8 k W rb).length (A6 (Q8 k W rb))) :
 Calls Tryz.prog 93 #[.pointer (some ⟨Y,0,none⟩),o,I J rb.size,I J j,.bool a] wr fun e w'=>∃h i,e=.returned (.slice h (gL k W R rb ((j:Int),a)).length i)∧Below wr.heap.size wr w'∧A3 w' wr.heap.size 119 2 (.slice h (gL k W R rb ((j:Int),a)).length i) (gL k W R rb ((j:Int),a)).length (A9 (gL k W R rb ((j:Int),a))):=by
 obtain⟨w,y,r,hO,z,_⟩:=u;have C:=A0A m d n R t R.length (Nat.le_refl _);have D:=A0B m d n f (W:=W) (k:=k);have s:=fun x l=>A0n m d n f (W:=W) (k:=k) (x:=x) l;refine(A5l (stN k W R R.length) (Q8 k W rb) j a base c.heap.size Y k W sc rb.size w y o wr ((q.block Y (lt_of_block r)).trans r) (z.other (fun g _ f=>q.block g f)) wo O O d O (fun x l=>⟨(s x l).2.2.1,by have:=(s x l).2.2.2;omega⟩)).mono ?_;rintro e w' ⟨v,rfl,h1,p⟩;rw[B03]at p;obtain⟨h,i,rfl⟩:=p.form;exact⟨h,i,rfl,h1,p⟩
theorem B2G (R:List S2)(k W:Nat)(rb:ByteArray)(f:1≤k)(h:k≤12)(i:1≤W)(l:∀x∈R,good x.b∧x.b.size≤4000)(m:good rb)(p:rb.size≤300)(q:Int×Bool)(n:Nat)(a:(gL k W R rb q).length=n)(t:n≠0)(u:n≤400)(r:Option Addr)(c base:Nat)(w:World)(hO:A3 w base 119 2 (.slice r n c) n (A9 (gL k W R rb q))) :
 Calls Tryz.prog 94 #[.slice r n c,I J k] w fun e w'=>∃v,e=.returned (.tuple #[v,.float .f64 (fq (D5 (gL k W R rb q) k)),I J 0])∧Below w.heap.size w w'∧A3 w' w.heap.size 119 2 v (N5 k (gL k W R rb q)).length (A9 (N5 k (gL k W R rb q))):=by
 obtain⟨g,o,C,e,_,y⟩:=hO.addr O;simp only[Value.slice.injEq,true_and]at e;obtain⟨rfl,rfl⟩:=e;have z:gL k W R rb q≠[]:=fun e=>by rw[e]at a;exact t a.symm
 have A:D5 (gL k W R rb q) k=chQ k (gL k W R rb q):=by unfold D5;rw[if_pos (B3e f h i l m p q z O)]
 rw[A];refine A9g (gL k W R rb q) n a g o c (k:Int) w O O u O y (fun j B=>?_) (B23 f h i l m p q);have s:=P4 _ j B;have k2:=hO.cellAt s.1;have d:=hO.cellAt s.2;rw[Nat.mul_comm 2]at k2 d;rw[←Nat.add_assoc]at d;exact⟨k2,d⟩
theorem B3Y (bk:Bool)(b a s:Nat):(oC bk b a).setIfInBounds 7 (.float .f64 s)=oC bk s a:=by
 unfold oC;simp only[List.setIfInBounds_toArray,List.set_cons_zero,List.set_cons_succ]
theorem B3K (bk:Bool)(a b s:Nat):(oC bk a b).setIfInBounds 8 (.float .f64 s)=oC bk a s:=by
 unfold oC;simp only[List.setIfInBounds_toArray,List.set_cons_zero,List.set_cons_succ]
theorem B3J (bk a:Bool)(b c:Nat):(oC bk b c).setIfInBounds 3 (.bool a)=oC a b c:=by
 unfold oC;simp only[List.setIfInBounds_toArray,List.set_cons_zero,List.set_cons_succ]
theorem A96 {w:World}{B:Nat}{bk a:Bool}{c b s:Nat}(h:w.heap[B]?=some (.cells (oC bk c b) 71 (0,0))):E1 w ((w.setCell ⟨B,7,none⟩ (.float .f64 s)).setCell ⟨B,3,none⟩ (.bool a)) B (.cells (oC a s b) 71 (0,0)):=by
 have:=(E1.of_setCell (i:=7) (.float .f64 s) h).setCell (i:=3) (.bool a);rwa [B3Y,B3J]at this
theorem A8S {w:World}{B:Nat}{bk b:Bool}{a c s:Nat}(h:w.heap[B]?=some (.cells (oC bk a c) 71 (0,0))):E1 w (((w.setCell ⟨B,8,none⟩ (.float .f64 a)).setCell ⟨B,7,none⟩ (.float .f64 s)).setCell ⟨B,3,none⟩ (.bool b)) B (.cells (oC b s a) 71 (0,0)):=by
 have:=((E1.of_setCell (i:=8) (.float .f64 a) h).setCell (i:=7) (.float .f64 s)).setCell (i:=3) (.bool b);rwa [B3K,B3Y,B3J]at this
theorem A9p {w:World}{B:Nat}{bk:Bool}{a b s:Nat}(h:w.heap[B]?=some (.cells (oC bk a b) 71 (0,0))):E1 w (w.setCell ⟨B,8,none⟩ (.float .f64 s)) B (.cells (oC bk a s) 71 (0,0)):=by
 have:=E1.of_setCell (i:=8) (.float .f64 s) h;rwa [B3K]at this
theorem B3B {k W:Nat}{R:List S2}{rb:ByteArray}(a:1≤k)(c:k≤12)(d:1≤W)(f:∀x∈R,good x.b)(h:C7 R R.length≤4000)(i:rb.size≤300)(g:good rb)(q:Int×Bool):(gL k W R rb q).length≤1200000:=by
 have j:=A0A a c d R f R.length (Nat.le_refl _);have l:=A0B a c d g (W:=W) (k:=k);have h1:=A4A rb.size k q (stN k W R R.length) (Q8 k W rb);rw[B03]at h1;have m:=Nat.mul_le_mul (show(Q8 k W rb).length≤300 by omega) (show(stN k W R R.length).length≤4000 by omega);omega
theorem B2g {k W:Nat}{R:List S2}{rb:ByteArray}{i q:Nat}{a:Bool}(b:q<2)(ht:a=decide (q=1)):cG k W R rb (2*i+q+1)=cG k W R rb (2*i+q)+(gL k W R rb ((i:Int),a)).length:=by
 unfold cG;exact A7S _ i q a b ht
end
section
open Go.RowKit Go.Shelf Go.Lib
attribute [local go_sem] C0
theorem B0s (R:List S2)(base Y k W sc:Nat)(rn rb:ByteArray)(w0:World)(hk1:1≤k)(hk2:k≤12)(hW:1≤W)(hW2:W≤20)(hR:∀x∈R,good x.b∧1≤x.n.size∧x.n.size≤8000∧x.b.size≤4000)(hl:R.length<100000)(hsum:C7 R R.length≤4000)(hI:RxP w0 base Y R k W sc)(hrb:rb.size≤300)(hg:good rb)(w:World)(wv:Value)(hS0:RfI w0 w R k W rn rb wv (.slice none 0 0) 0 0 0 false false 0 0 [])
 (fa:Act)(hfa:Fr 273 [(0,.pointer (some ⟨Y,0,none⟩)),(3,.pointer (some ⟨w0.heap.size,0,none⟩)),(4,.pointer (some ⟨w0.heap.size+1,0,none⟩)),(6,.pointer (some ⟨w0.heap.size+2,0,none⟩)),(7,I J rb.size),(8,wv)] fa)(Q:Ending→World→Prop)(hQ:∀res w',O4 R k W sc rn rb res→Below w0.heap.size w0 w'→Q (.returned (.tuple (A0Z res))) w')
 (C24:Code)(hC24:Tryz.f71.body.bind (G4 24)=some C24)(C:Code)(hC:(Tryz.f71.body.bind (G4 10)).bind (U5 14 C24)=some C)(C5:Code)(hC5:(Tryz.f71.body.bind (G4 5)).bind (U5 5 C)=some C5) :
 Code.wp Tryz.prog C5 (bodyPost Tryz.prog Tryz.f71 Q) fa w:=by
 have HT:=A4 (fun w cv all ref fd bk fS fO Cl hS=>B1Y R base Y k W sc rn rb w0 hk1 hk2 hW hW2 hR hl hsum hI hrb hg w wv cv all ref fd bk fS fO Cl hS);have hRg:∀x∈R,good x.b∧x.b.size≤4000:=fun x hx=>⟨(hR x hx).1,(hR x hx).2.2.2⟩;have HA:=A4 (fun j tn wr hb wo=>B14 R base Y k W sc rb w0 hk1 hk2 hW (fun x hx=>(hR x hx).1) hsum hI hrb hg wv j tn wr hb wo);have HCH:=A4 (fun q n hn h0 h4 ao cp base w hO=>B2G R k W rb hk1 hk2 hW hRg hg hrb q n hn h0 h4 ao cp base w hO);have HGL:=A4 (fun q=>B3B (rb:=rb) (W:=W) hk1 hk2 hW (fun x hx=>(hR x hx).1) hsum hrb hg q);obtain⟨n,hn⟩:=A8 R.length;have HN:=A4 hn;have hnl:n<100000:=O;have HQ:=A4 hQ;have HMN:=A4 (fun t ht h4=>B2Y (R:=R) (k:=k) (W:=W) (sc:=sc) (rn:=rn) (rb:=rb) (t:=t) hrb ht h4);have HS0:=A4 hS0;have HC24:=A4 hC24;have HCC:=A4 hC;obtain⟨rv,lv,hY,hO,hL,_⟩:=hI;obtain⟨ra,rc,hrv⟩:=hO.form;rw[←hn]at hrv;have HYB:Hd (w0.heap[Y]?=some (.cells (ixC k W sc (.slice ra n rc) lv) 93 (0,0))):=by rw[←hrv];exact hY
 have hYl:=lt_of_block hY;have hB2:=hC5;conv at hB2=>lhs;whnf
 injection hB2 with hB2;subst hB2;clear hC5 hC24 hC hQ hS0 hR hRg hsum hO hL hrv hY hn hl hg;obtain⟨f0,rfl,hf0⟩:=hfa;simp only[Hs]at hf0;simp only[fr,Y5,Nat.reduceAdd,hf0];clear hf0;generalize f0 12=u12;have hy3:∀wr:World,Below w0.heap.size w0 wr→wr.cell? ⟨Y,0,none⟩=some (I J k)∧wr.cell? ⟨Y,3,none⟩=some (.slice ra n rc):=fun wr hb=>⟨A1 ((hb.block Y hYl).trans HYB.o) rfl,A1 ((hb.block Y hYl).trans HYB.o) rfl⟩;have HY3:=A4 hy3;clear hy3;go_wp2_with fail;go_loopw [10,11,12,13,14] (fun al fd cv rf i wr=>∃(j all ref:Nat) (f bk:Bool) (fS fO:Nat) (Cl:List (Int×Int)),j≤n∧al=I J all∧fd=.bool f∧rf=I J ref∧i=I J j∧RfI w0 wr R k W rn rb wv cv (2*j) all ref f bk fS fO Cl) (fun _ _ _ _ i _=>n-(RowKit.intOf i).toNat);case atStart=>exact⟨0,0,0,false,false,0,0,[],Nat.zero_le _,rfl,rfl,rfl,rfl,HS0.o⟩
 case round=>
  obtain⟨j,all,ref,f,bk,fS,fO,Cl,hj,rfl,rfl,rfl,rfl,hS⟩:=hrel;have HS:=A4 hS;have y3:=(HY3.o wr hS.bl).2;clear hS;by_cases hlt:j<n
  ·go_wp2_with fail;go_loopw [10,11,12,13,15] (fun al fd cv rf i wr=>∃(q all ref:Nat) (f bk:Bool) (fS fO:Nat) (Cl:List (Int×Int)),q≤2∧al=I J all∧fd=.bool f∧rf=I J ref∧i=I J q∧RfI w0 wr R k W rn rb wv cv (2*j+q) all ref f bk fS fO Cl) (fun _ _ _ _ i _=>2-(RowKit.intOf i).toNat);case atStart=>exact⟨0,all,ref,f,bk,fS,fO,Cl,Nat.zero_le _,rfl,rfl,rfl,rfl,HS.o⟩
   case round=>
    clear HS y3;obtain⟨q,all,ref,f,bk,fS,fO,Cl,hq,rfl,rfl,rfl,rfl,hS⟩:=hrel;have HS:=A4 hS;have y0:=(HY3.o wr hS.bl).1;by_cases hq2:q<2
    ·obtain⟨tn,htn⟩:=A8 (decide (q=1));have HTN:=A4 htn;have hq1:((q:Int)==1)=tn:=by
      rw[htn];by_cases h:q=1
      ·subst h;rfl
      ·rw[decide_eq_false h,beq_eq_false_iff_ne];omega
     have cA:=HA.o j tn wr hS.bl hS.wo;have hml:=HGL.o ((j:Int),tn);obtain⟨m,hm⟩:=A8 ((gL k W R rb ((j:Int),tn)).length);have hcn:cG k W R rb (2*j+q+1)=all+m:=by rw[B2g hq2 htn,←hS.ac,hm]
     have HCN:=A4 hcn;have ha4:=hS.a4;rw[←hm]at cA hml;have HM:=A4 hm;clear hS htn hm hcn;have hwa:IntKind.i64.wrap ((all:Int)+m)=((all+m:Nat):Int):=Zw;go_wp2_with fail;refine cA.mono ?_;rintro e wA ⟨ao,cp,rfl,hbA,hOA⟩;dsimp only;have HSA:Hd (RfI w0 wA R k W rn rb wv u12 (2*j+q) all ref f bk fS fO Cl):=HS.o.keep hbA;have HOA:=A4 hOA;have hsr:=HS.o.bl.size;clear cA hbA hOA HS y0;obtain⟨am,ham⟩:=A8 (all+m);rw[←ham]at hwa HCN;by_cases h4:400<am
     ·have h4i:(400:Int)<(am:Int):=O;have HMANY:Hd (O4 R k W sc rn rb none):=HMN.o (2*j+q+1) (by have:=HN.o;omega) (by rw[HCN.o];exact h4);have hb1:=HSA.o.b1;have z0:wA.cell? ⟨w0.heap.size+1,0,none⟩=some (.string ⟨#[]⟩):=A1 hb1 rfl;have z1:wA.cell? ⟨w0.heap.size+1,1,none⟩=some (I J 0):=A1 hb1 rfl;have z2:wA.cell? ⟨w0.heap.size+1,2,none⟩=some (I J 0):=A1 hb1 rfl;have z3:wA.cell? ⟨w0.heap.size+1,3,none⟩=some (.bool false):=A1 hb1 rfl;have z4:wA.cell? ⟨w0.heap.size+1,4,none⟩=some (.string ⟨#[]⟩):=A1 hb1 rfl;have z5:wA.cell? ⟨w0.heap.size+1,5,none⟩=some (I J 0):=A1 hb1 rfl;have z6:wA.cell? ⟨w0.heap.size+1,6,none⟩=some (I J 0):=A1 hb1 rfl;have z7:wA.cell? ⟨w0.heap.size+1,7,none⟩=some (.float .f64 0):=A1 hb1 rfl;have z8:wA.cell? ⟨w0.heap.size+1,8,none⟩=some (.float .f64 0):=A1 hb1 rfl;have z9:wA.cell? ⟨w0.heap.size+1,9,none⟩=some (I J 0):=A1 hb1 rfl;have z10:wA.cell? ⟨w0.heap.size+1,10,none⟩=some (.string ⟨#[]⟩):=A1 hb1 rfl;have z11:wA.cell? ⟨w0.heap.size+1,11,none⟩=some (I J 0):=A1 hb1 rfl;have z12:wA.cell? ⟨w0.heap.size+1,12,none⟩=some (.float .f64 0):=A1 hb1 rfl;have zz:∀off,wA.frozen? ⟨w0.heap.size+1,off,none⟩=false:=fun off=>frozen_of_row _ _ _ _ _ hb1;go_wp2_with fail;have U12:=Y0 (.string ⟨#[]⟩) (I J 0) (I J 0) (.bool false) (.string ⟨#[]⟩) (I J 0) (I J 0) (.float .f64 0) (.float .f64 0) (I J 0) (.string ⟨#[]⟩) (I J 0) (.float .f64 0) hb1;(try simp only[Exit.inBlock,Exit.then]);refine bodyPost_ret (D1 rfl _ _ (w0.heap.size+1) 71 _ _ _ rfl U12.here Tryz.underlying71 rfl U) rfl ?_;exact HQ.o none _ HMANY.o (HSA.o.bl.trans (U12.below O))
     ·have h4i:¬(400:Int)<(am:Int):=O;by_cases h0:m=0
      ·subst h0;go_wp2_with fail;go_roundw;case rel=>
        have hnil:gL k W R rb ((j:Int),tn)=[]:=List.eq_nil_of_length_eq_zero HM.o.symm;exact⟨q+1,am,ref,f,bk,fS,fO,Cl,O,congrArg (I J) O,rfl,rfl,Zn,HSA.o.same HSA.o.co HCN.o.symm O (HSA.o.st.skip O hq2 HTN.o hnil)⟩
       case measure=>simp[RowKit.intOf];omega
      ·have h0b:((m:Int)==0)=false:=by rw[beq_eq_false_iff_ne];omega
       have cC:=HCH.o ((j:Int),tn) m HM.o.symm h0 O ao cp wr.heap.size wA HOA.o;have y0:=(HY3.o wA HSA.o.bl).1;go_wp2_with fail;refine cC.mono ?_;rintro e wB ⟨v,rfl,hbB,hOB⟩;dsimp only;have HSB:Hd (RfI w0 wB R k W rn rb wv u12 (2*j+q) all ref f bk fS fO Cl):=HSA.o.keep hbB;have hsA:=HSA.o.bl.size;have HOB:Hd (A3 wB w0.heap.size 119 2 v (N5 k (gL k W R rb ((j:Int),tn))).length (A9 (N5 k (gL k W R rb ((j:Int),tn))))):=hOB.low hsA;clear cC y0 hbB hOB HSA HOA;have hne:gL k W R rb ((j:Int),tn)≠[]:=fun e=>by have:=HM.o;rw[e]at this;exact h0 this
       have c7:wB.cell? ⟨w0.heap.size+2,7,none⟩=some (.float .f64 fS):=A1 HSB.o.b2 rfl;have c8:wB.cell? ⟨w0.heap.size+2,8,none⟩=some (.float .f64 fO):=A1 HSB.o.b2 rfl;have c3:wB.cell? ⟨w0.heap.size+2,3,none⟩=some (.bool bk):=A1 HSB.o.b2 rfl;have cz:∀off,wB.frozen? ⟨w0.heap.size+2,off,none⟩=false:=fun off=>frozen_of_row _ _ _ _ _ HSB.o.b2;cases f
       ·have HF:Hd (RfS (gL k W R rb) k (2*j+q+1) true tn (fq (D5 (gL k W R rb ((j:Int),tn)) k)) fO j (N5 k (gL k W R rb ((j:Int),tn)))):=HSB.o.st.first O hq2 HTN.o hne;generalize fq (D5 (gL k W R rb ((j:Int),tn)) k)=s at *;clear hne;go_wp2_with fail;go_roundw;case rel=>exact⟨q+1,am,j,true,tn,s,fO,_,O,congrArg (I J) O,rfl,rfl,Zn,HSB.o.set (A96 HSB.o.b2) HOB.o HCN.o.symm O HF.o⟩
        case measure=>simp[RowKit.intOf];omega
       ·rcases HSB.o.st.step O hq2 HTN.o hne with⟨g1,g2⟩|⟨g1,g2,g3⟩|⟨g1,g2,g3⟩
        ·have HF:=A4 g2;generalize fq (D5 (gL k W R rb ((j:Int),tn)) k)=s at *;clear hne g2;go_wp2_with fail;go_roundw;case rel=>exact⟨q+1,am,j,true,tn,s,fS,_,O,congrArg (I J) O,rfl,rfl,Zn,HSB.o.set (A8S HSB.o.b2) HOB.o HCN.o.symm O HF.o⟩
         case measure=>simp[RowKit.intOf];omega
        ·have HF:=A4 g3;generalize fq (D5 (gL k W R rb ((j:Int),tn)) k)=s at *;clear hne g3;go_wp2_with fail;go_roundw;case rel=>exact⟨q+1,am,ref,true,bk,fS,s,Cl,O,congrArg (I J) O,rfl,rfl,Zn,HSB.o.set (A9p HSB.o.b2) HSB.o.co HCN.o.symm O HF.o⟩
         case measure=>simp[RowKit.intOf];omega
        ·have HF:=A4 g3;generalize fq (D5 (gL k W R rb ((j:Int),tn)) k)=s at *;clear hne g3;go_wp2_with fail;go_roundw;case rel=>exact⟨q+1,am,ref,true,bk,fS,fO,Cl,O,congrArg (I J) O,rfl,rfl,Zn,HSB.o.same HSB.o.co HCN.o.symm O HF.o⟩
         case measure=>simp[RowKit.intOf];omega
    ·have hqe:q=2:=O;subst hqe;clear hS y0;go_wp2_with fail;go_roundw;case rel=>exact⟨j+1,all,ref,f,bk,fS,fO,Cl,O,rfl,rfl,rfl,Zn,by have:=HS.o;rwa [show 2*j+2=2*(j+1) by omega]at this⟩
     case measure=>simp[RowKit.intOf];omega
  ·have hje:j=n:=O;subst hje;go_wp2_with fail;exact HT.o wr u12 all ref f bk fS fO Cl (by have:=HS.o;rwa [HN.o]at this) _ (Fr.of _ rfl ⟨rfl,rfl,rfl,rfl,rfl,rfl,rfl,rfl,trivial⟩) Q HQ.o C24 HC24.o C HCC.o
theorem B19 (R:List S2)(base Y k W sc:Nat)(rn rb:ByteArray)(c:World)(s:1≤k)(t:k≤12)(A:1≤W)(L:W≤20)(u:∀x∈R,good x.b∧1≤x.n.size∧x.n.size≤8000∧x.b.size≤4000)(M:R.length<100000)(N:C7 R R.length≤4000)(P:RxP c base Y R k W sc)(S:rb.size≤140737488351232)(v:good rb)(Q:Ending→World→Prop)(T:∀res w',O4 R k W sc rn rb res→Below c.heap.size c w'→Q (.returned (.tuple (A0Z res))) w')(D:Code)(V:Tryz.f71.body.bind (G4 24)=some D)(C:Code)(X:(Tryz.f71.body.bind (G4 10)).bind (U5 14 D)=some C)(C5:Code)(aa:(Tryz.f71.body.bind (G4 5)).bind (U5 5 C)=some C5)(B:Code)(hB:Tryz.f71.body.bind (U5 5 C5)=some B)(fa:Act)(ag:Fr 273 [(0,.pointer (some ⟨Y,0,none⟩)),(1,.agg #[.string rn,.string rb])] fa) :
 Code.wp Tryz.prog B (bodyPost Tryz.prog Tryz.f71 Q) fa c:=by
 have y:=hB;conv at y=>lhs;whnf
 injection y with y;subst y;clear hB;obtain⟨f0,rfl,E⟩:=ag;simp only[Hs]at E;simp only[fr,Y5,Nat.reduceAdd,E];clear E;have F:=A4 T;have ah:=A4 V;have ai:=A4 X;have aj:=A4 aa;have ab:∀x∈R,good x.b∧x.b.size≤4000:=fun x hx=>⟨(u x hx).1,(u x hx).2.2.2⟩;have ak:=A4 (fun S w wv hS=>B0s R base Y k W sc rn rb c s t A L u M N P S v w wv hS);have al:=A4 (fun h=>B2z (R:=R) (k:=k) (W:=W) (sc:=sc) (rn:=rn) (rb:=rb) h);have am:=A4 (fun h=>B1i (R:=R) (k:=k) (W:=W) (sc:=sc) (rn:=rn) (rb:=rb) s t A ab v h);have an:Hd (∀w,rb.size≤300→Calls Tryz.prog 69 #[.string rb,I J k,I J W] w fun e w'=>∃pv,e=.returned (.tuple #[pv,I J 0])∧A3 w' w.heap.size 114 3 pv (Q8 k W rb).length (A6 (Q8 k W rb))∧Below w.heap.size w w'):=by
  intro w h3;refine(A3s rb k W w O s t A L).mono ?_;rintro e w' ⟨⟨_,pv,rfl,h1⟩|⟨h,_⟩,h2⟩
  ·refine⟨pv,rfl,?_,h2⟩;have e:=A5j k W s t rb v;rw[e];exact h1
  ·exact absurd v h
 obtain⟨rv,lv,z,_,_,_⟩:=P;have ad:=lt_of_block z;have HY:Hd (∀wr:World,(∀j,j<c.heap.size→wr.heap[j]?=c.heap[j]?)→wr.cell? ⟨Y,0,none⟩=some (I J k)∧wr.cell? ⟨Y,1,none⟩=some (I J W)):=fun wr hb=>⟨A1 ((hb Y ad).trans z) rfl,A1 ((hb Y ad).trans z) rfl⟩;clear T V X aa u ab N z M;go_upto_region 2 with fail;obtain⟨f,l⟩:=A8 (((c.alloc (Obj.cells #[Value.string rn,Value.string rb] 88)).alloc (Obj.cells #[.string ⟨#[]⟩,I J 0,I J 0,.bool false,.string ⟨#[]⟩,I J 0,I J 0,.float .f64 0,.float .f64 0,I J 0,.string ⟨#[]⟩,I J 0,.float .f64 0] 71)).alloc (Obj.cells #[.string ⟨#[]⟩,I J 0,I J 0,.bool false,.string ⟨#[]⟩,I J 0,I J 0,.float .f64 0,.float .f64 0,I J 0,.string ⟨#[]⟩,I J 0,.float .f64 0] 71));have q:Below c.heap.size c f:=by rw[l];exact(((Below.refl _ c).alloc (Nat.le_refl _) _).alloc Zs _).alloc Zo _
 have ax:f.heap.size=c.heap.size+3:=by rw[l];simp
 have G:f.heap[c.heap.size]?=some (.cells #[.string rn,.string rb] 88 (0,0)):=by
  rw[l];exact(Below.heap_alloc _ _ _ Zo).trans ((Below.heap_alloc _ _ _ Zs).trans (heap_alloc_new c _))
 have a:f.heap[c.heap.size+1]?=some (.cells #[.string ⟨#[]⟩,I J 0,I J 0,.bool false,.string ⟨#[]⟩,I J 0,I J 0,.float .f64 0,.float .f64 0,I J 0,.string ⟨#[]⟩,I J 0,.float .f64 0] 71 (0,0)):=by
  rw[l];exact(Below.heap_alloc _ _ _ Zs).trans (heap_alloc2_new c _ _)
 have d:f.heap[c.heap.size+2]?=some (.cells #[.string ⟨#[]⟩,I J 0,I J 0,.bool false,.string ⟨#[]⟩,I J 0,I J 0,.float .f64 0,.float .f64 0,I J 0,.string ⟨#[]⟩,I J 0,.float .f64 0] 71 (0,0)):=by
  have:=heap_alloc2_new (c.alloc (Obj.cells #[Value.string rn,Value.string rb] 88)) (Obj.cells #[.string ⟨#[]⟩,I J 0,I J 0,.bool false,.string ⟨#[]⟩,I J 0,I J 0,.float .f64 0,.float .f64 0,I J 0,.string ⟨#[]⟩,I J 0,.float .f64 0] 71) (Obj.cells #[.string ⟨#[]⟩,I J 0,I J 0,.bool false,.string ⟨#[]⟩,I J 0,I J 0,.float .f64 0,.float .f64 0,I J 0,.string ⟨#[]⟩,I J 0,.float .f64 0] 71);rw[l];simpa using this
 rw[←l,show c.heap.size+1+1=c.heap.size+2 from rfl];clear l;have c1:f.cell? ⟨c.heap.size,1,none⟩=some (.string rb):=A1 G rfl;obtain⟨y0,y1⟩:=HY.o f q.block;by_cases h3:300<rb.size
 ·have ao:(300:Int)<(rb.size:Int):=O;have v0:=A1 d (i:=0) rfl;have z0:=A1 a (i:=0) rfl;have v1:=A1 d (i:=1) rfl;have z1:=A1 a (i:=1) rfl;have v2:=A1 d (i:=2) rfl;have z2:=A1 a (i:=2) rfl;have v3:=A1 d (i:=3) rfl;have z3:=A1 a (i:=3) rfl;have v4:=A1 d (i:=4) rfl;have z4:=A1 a (i:=4) rfl;have v5:=A1 d (i:=5) rfl;have z5:=A1 a (i:=5) rfl;have v6:=A1 d (i:=6) rfl;have z6:=A1 a (i:=6) rfl;have v7:=A1 d (i:=7) rfl;have z7:=A1 a (i:=7) rfl;have v8:=A1 d (i:=8) rfl;have z8:=A1 a (i:=8) rfl;have v9:=A1 d (i:=9) rfl;have z9:=A1 a (i:=9) rfl;have v10:=A1 d (i:=10) rfl;have ap:=A1 a (i:=10) rfl;have v11:=A1 d (i:=11) rfl;have aq:=A1 a (i:=11) rfl;have v12:=A1 d (i:=12) rfl;have z12:=A1 a (i:=12) rfl;have zz:∀off,f.frozen? ⟨c.heap.size+1,off,none⟩=false:=fun off=>frozen_of_row _ _ _ _ _ a;go_wp2_with fail;have r:=Y0 (.string ⟨#[]⟩) (I J 0) (I J 0) (.bool false) (.string ⟨#[]⟩) (I J 0) (I J 0) (.float .f64 0) (.float .f64 0) (I J 0) (.string ⟨#[]⟩) (I J 0) (.float .f64 0) a;(try simp only[Exit.inBlock,Exit.then]);refine bodyPost_ret (D1 rfl _ _ (c.heap.size+1) 71 _ _ _ rfl r.here Tryz.underlying71 rfl U) rfl ?_;exact F.o none _ (al.o h3) (q.trans (r.below O))
 ·have ao:¬(300:Int)<(rb.size:Int):=O;by_cases ar:rb.size<k
  ·have au:(rb.size:Int)<(k:Int):=O;have v0:=A1 d (i:=0) rfl;have z0:=A1 a (i:=0) rfl;have v1:=A1 d (i:=1) rfl;have z1:=A1 a (i:=1) rfl;have v2:=A1 d (i:=2) rfl;have z2:=A1 a (i:=2) rfl;have v3:=A1 d (i:=3) rfl;have z3:=A1 a (i:=3) rfl;have v4:=A1 d (i:=4) rfl;have z4:=A1 a (i:=4) rfl;have v5:=A1 d (i:=5) rfl;have z5:=A1 a (i:=5) rfl;have v6:=A1 d (i:=6) rfl;have z6:=A1 a (i:=6) rfl;have v7:=A1 d (i:=7) rfl;have z7:=A1 a (i:=7) rfl;have v8:=A1 d (i:=8) rfl;have z8:=A1 a (i:=8) rfl;have v9:=A1 d (i:=9) rfl;have z9:=A1 a (i:=9) rfl;have v10:=A1 d (i:=10) rfl;have ap:=A1 a (i:=10) rfl;have v11:=A1 d (i:=11) rfl;have aq:=A1 a (i:=11) rfl;have v12:=A1 d (i:=12) rfl;have z12:=A1 a (i:=12) rfl;have zz:∀off,f.frozen? ⟨c.heap.size+1,off,none⟩=false:=fun off=>frozen_of_row _ _ _ _ _ a;go_wp2_with fail;have r:=Y0 (.string ⟨#[]⟩) (I J 0) (I J 0) (.bool false) (.string ⟨#[]⟩) (I J 0) (I J 0) (.float .f64 0) (.float .f64 0) (I J 0) (.string ⟨#[]⟩) (I J 0) (.float .f64 0) a;(try simp only[Exit.inBlock,Exit.then]);refine bodyPost_ret (D1 rfl _ _ (c.heap.size+1) 71 _ _ _ rfl r.here Tryz.underlying71 rfl U) rfl ?_;exact F.o none _ (am.o ar) (q.trans (r.below O))
  ·have au:¬(rb.size:Int)<(k:Int):=O;have cW:=an.o f.drew O;go_wp2_with fail;rename_i K5 ae;have av:∀g:World,Below f.heap.size f g→g.cell? ⟨c.heap.size,1,none⟩=some (.string rb)∧g.cell? ⟨Y,0,none⟩=some (I J k)∧g.cell? ⟨Y,1,none⟩=some (I J W):=by
    intro g af;have m:=q.trans (af.mono O);have h9:=HY.o g m.block;exact⟨A1 ((af.block _ O).trans G) rfl,h9.1,h9.2⟩
   refine A5 18 (fun g=>g.cell? ⟨c.heap.size,1,none⟩=some (.string rb)∧g.cell? ⟨Y,0,none⟩=some (I J k)∧g.cell? ⟨Y,1,none⟩=some (I J W)) U ⟨c1,y0,y1⟩ (fun hH=>?_);refine A2 0 ?_;refine A2 1 ?_;refine A2 2 ?_;refine A2 3 ?_;refine A2 4 ?_;refine A2 5 ?_;refine A2 6 ?_;refine A2 7 ?_;refine A2 8 ?_;refine A2 9 ?_;refine A2 10 ?_;refine A2 11 ?_;refine wpS 12 fun K hK=>?_;go_simp;go_at_call 69;refine cW.mono ?_;rintro e w2 ⟨pv,rfl,aw,m⟩;have p:Below f.heap.size f w2:=⟨m.os,m.tape,m.output,m.size,m.block⟩;have H:=av w2 p;refine F7 hK H ?_;clear hK K hH;have hH:=H;refine A2 13 ?_;refine A2 14 ?_;refine A2 15 ?_;refine A2 16 ?_;refine A2 17 ?_;refine M7 ?_;refine ae _ _ ?_;clear ae hH H cW;exact ak.o O w2 pv {bl:=q.trans (p.mono O),b0:=(p.block _ O).trans G,b1:=(p.block _ O).trans a,b2:=(p.block _ O).trans d,sz:=by have:=p.size;omega,wo:=aw.low (by show c.heap.size≤f.heap.size;omega),co:=A3.nil _ _ _ _,ac:=rfl,a4:=O,st:=RfS.zero} _ (Fr.of _ rfl ⟨rfl,rfl,rfl,rfl,rfl,rfl,trivial⟩) Q F.o D ah.o C ai.o _ aj.o
theorem A8T (R:List S2)(base Y k W sc:Nat)(rn rb:ByteArray)(a:World)(m:1≤k)(o:k≤12)(p:1≤W)(q:W≤20)(r:∀x∈R,good x.b∧1≤x.n.size∧x.n.size≤8000∧x.b.size≤4000)(s:R.length<100000)(t:C7 R R.length≤4000)(u:RxP a base Y R k W sc)(v:rb.size≤140737488351232)(w:good rb) :
 Calls Tryz.prog 71 #[.pointer (some ⟨Y,0,none⟩),.agg #[.string rn,.string rb]] a fun e w'=>∃res,O4 R k W sc rn rb res∧e=.returned (.tuple (A0Z res))∧Below a.heap.size a w':=by
 obtain⟨f,g⟩:∃C,Tryz.f71.body.bind (G4 24)=some C:=⟨_,rfl⟩;obtain⟨C,h⟩:∃C,(Tryz.f71.body.bind (G4 10)).bind (U5 14 f)=some C:=⟨_,rfl⟩;obtain⟨i,j⟩:∃D,(Tryz.f71.body.bind (G4 5)).bind (U5 5 C)=some D:=⟨_,rfl⟩;obtain⟨B,l⟩:∃D,Tryz.f71.body.bind (U5 5 i)=some D:=⟨_,rfl⟩;have y:Tryz.f71.body=some B:=by
  have e1:=g;conv at e1=>lhs;whnf
  injection e1 with e1;subst e1;have c:=h;conv at c=>lhs;whnf
  injection c with c;subst c;have d:=j;conv at d=>lhs;whnf
  injection d with d;subst d;refine Eq.trans ?_ l;show Tryz.f71.body=_;first|kernel_rfl|rfl
 have key:=B19 R base Y k W sc rn rb a m o p q r s t u v w (fun e w'=>∃res,O4 R k W sc rn rb res∧e=.returned (.tuple (A0Z res))∧Below a.heap.size a w') (fun res w' h1 z=>⟨res,h1,rfl,z⟩) f g C h i j B l;refine calls_of_wp Tryz.func71 y ?_;simp only[Tryz.ntmps71,List.size_toArray,List.length_cons,List.length_nil,Nat.reduceAdd,Nat.reduceSub,Array.replicate_succ,Array.replicate_zero,List.push_toArray,List.append_toArray,List.nil_append,List.cons_append];exact key _ (Fr.of _ rfl ⟨rfl,rfl,trivial⟩)
end
end Mn
end Go.Proofs.YtilcmkiihefkkaaGreatDoor
