import Derived.Test.YtilcmkiihefkkaaGreatDoorJf28
import Derived.Test.YtilcmkiihefkkaaGreatDoorJf31
set_option linter.unusedVariables false
set_option linter.unusedSimpArgs false
set_option maxRecDepth 1000000
set_option maxHeartbeats 64000000
open Go.Value renaming int→I
open Go.IntKind renaming i64→J
namespace Go.Proofs.YtilcmkiihefkkaaGreatDoor
namespace Mn
section
open Go.RowKit
theorem F0 (a b:List UInt8):(⟨a.toArray⟩:ByteArray)++⟨b.toArray⟩=⟨(a++b).toArray⟩:=by
 apply ByteArray.ext;simp
theorem L4:∀(k n:Nat) (w:World),n≤9223372036854775807→k≤8→
 Calls Tryz.prog 39 #[I J n,I J k] w fun e w'=>e=.returned (.string ⟨(E5 n k).toArray⟩)∧Below w.heap.size w w'
 |0,n,w,B,hk=>by
  go_enter Tryz.func39,Tryz.ntmps39
  go_wp2_with fail
  go_ret
  exact⟨rfl,Below.refl _ _⟩
 |k+1,n,w,B,hk=>by
  obtain⟨m,hm⟩:=A8 (n/256)
  have y:∀W,Calls Tryz.prog 39 #[I J (m:Int),I J k] W fun e w'=>e=.returned (.string ⟨(E5 m k).toArray⟩)∧Below W.heap.size W w':=fun W=>L4 k m W O O
  have s:=A4 y
  have e0:(((k+1:Nat):Int)==0)=false:=by rw[beq_eq_false_iff_ne];omega
  have e1:((k+1:Nat):Int)-1=k:=O
  have E:(n:Int)/256=(m:Int):=O
  obtain⟨b,u⟩:=A8 ((n%256).toUInt8)
  have C:(n:Int)%256=(b.toNat:Int):=by rw[u,Nat.toUInt8_eq,UInt8.toNat_ofNat'];omega
  have F:(n:Int).tmod 256=(b.toNat:Int):=by rw[Int.tmod_eq_emod_of_nonneg O];exact C
  have G:IntKind.i64.wrap (m:Int)=m:=Zw
  have H:IntKind.i64.wrap (k:Int)=k:=Zw
  have L:=b.toNat_lt
  have M:IntKind.u8.wrap (b.toNat:Int)=(b.toNat:Int):=by rw[IntKind.wrap_u8];omega
  have v:Hd (E5 n (k+1)=E5 m k++[b]):=by rw[u,hm];rfl
  obtain⟨T,t⟩:=A8 (⟨(E5 m k).toArray⟩:ByteArray)
  have x:=A4 t
  have D:T.size=k:=by rw[t];show(E5 m k).toArray.size=k;rw[List.size_toArray,C8]
  rw[←t]at s
  have t1:¬9223372036854775807<T.size+1:=O
  clear y u t hm D
  go_enter Tryz.func39,Tryz.ntmps39
  go_wp2_with fail
  refine A5 12 (fun _=>True) U trivial (fun hH=>?_)
  refine A2 0 ?_
  refine A2 1 ?_
  refine A2 2 ?_
  refine A2 3 ?_
  refine A2 5 ?_
  refine A2 6 ?_
  refine A2 7 ?_
  have c:Below w.heap.size w w.drew:=⟨rfl,rfl,rfl,Nat.le_refl _,fun _ _=>rfl⟩
  obtain⟨z,A⟩:=A8 w.drew
  rw[←A]at c⊢
  clear A
  refine J6 (i:=4) (j:=8) U rfl rfl U U (fun K a=>?_) (fun K a=>?_)
  ·go_simp
   go_at_call 39
   refine(s.o _).mono ?_
   rintro e l ⟨rfl,f⟩
   have c:Below w.heap.size w l:=c.trans (f.mono c.size)
   refine E0 a trivial ?_
   clear a K f
   refine wpS 8 fun K a=>?_
   go_simp
   obtain⟨g,h⟩:=A8 (l.alloc (Obj.cells #[.int .u8 b.toNat] 5))
   rw[←h]
   obtain⟨p,q⟩:=A8 l.heap.size
   rw[←q]
   have d:g.cell? ⟨p,0,none⟩=some (.int .u8 b.toNat):=by rw[h,q];exact A1 (heap_alloc_new _ _) rfl
   have c:Below w.heap.size w g:=by rw[h];exact c.alloc c.size _
   refine E0 a trivial ?_
   clear a K h q
   refine wpS 9 fun K a=>?_
   have r:=_root_.Go.Proofs.YtilcmkiihefkkaaGreatDoor.conv_one g p b d
   go_simp
   refine E0 a trivial ?_
   clear a K r d
   refine A2 10 ?_
   refine A2 11 ?_
   refine J5 ?_
   go_wp2_with fail
   go_ret
   refine⟨?_,c⟩
   rw[v.o,←F0,←x.o]
   rfl
  ·go_simp
   obtain⟨l,h⟩:=A8 (z.alloc (Obj.cells #[.int .u8 b.toNat] 5))
   rw[←h]
   obtain⟨p,q⟩:=A8 z.heap.size
   rw[←q]
   have d:l.cell? ⟨p,0,none⟩=some (.int .u8 b.toNat):=by rw[h,q];exact A1 (heap_alloc_new _ _) rfl
   have c:Below w.heap.size w l:=by rw[h];exact c.alloc c.size _
   refine E0 a trivial ?_
   clear a K h q
   refine J6 (i:=4) (j:=9) U rfl rfl U U (fun K a=>?_) (fun K a=>?_)
   ·go_simp
    go_at_call 39
    refine(s.o _).mono ?_
    rintro e g ⟨rfl,f⟩
    have d:g.cell? ⟨p,0,none⟩=some (.int .u8 b.toNat):=(World.cell?_of_block (f.block _ (block_lt_of_cell d))).trans d
    have c:Below w.heap.size w g:=c.trans (f.mono c.size)
    refine E0 a trivial ?_
    clear a K f
    refine wpS 9 fun K a=>?_
    have r:=_root_.Go.Proofs.YtilcmkiihefkkaaGreatDoor.conv_one g p b d
    go_simp
    refine E0 a trivial ?_
    clear a K r d
    refine A2 10 ?_
    refine A2 11 ?_
    refine J5 ?_
    go_wp2_with fail
    go_ret
    refine⟨?_,c⟩
    rw[v.o,←F0,←x.o]
    rfl
   ·have r:=_root_.Go.Proofs.YtilcmkiihefkkaaGreatDoor.conv_one l p b d
    go_simp
    refine E0 a trivial ?_
    clear a K r d
    refine wpS 4 fun K a=>?_
    go_simp
    go_at_call 39
    refine(s.o _).mono ?_
    rintro e g ⟨rfl,f⟩
    have c:Below w.heap.size w g:=c.trans (f.mono c.size)
    refine E0 a trivial ?_
    clear a K f
    refine A2 10 ?_
    refine A2 11 ?_
    refine J5 ?_
    go_wp2_with fail
    go_ret
    refine⟨?_,c⟩
    rw[v.o,←F0,←x.o]
    rfl
end
section
set_option exponentiation.threshold 3000
open Go.RowKit Ieee
theorem A2r (b:Nat)(n:Int)(h:floatToIntVal .f64 b .i64=some n)(W:World):(convert 22 3 (.float .f64 b)).run Tryz.prog W=.ok (I J n) W:=
 run_convert_float_int W 22 3 .f64 .i64 b n U U h
theorem A37 (sc:Nat)(w:World)(u:0<sc)(hs:sc≤4652007308841189376) :
 Calls Tryz.prog 40 #[.float .f64 sc] w fun e w'=>e=.returned (.string ⟨(E5 sc 8).toArray⟩)∧Below w.heap.size w w':=by
 have o0:FloatKind.f64.format.order sc 0=some .gt:=by rw[A1L sc 0 O Z,Nat.compare_eq_gt.2 u]
 have l:Hd (∀W,Calls Tryz.prog 39 #[I J (sc:Int),I J 8] W fun e w'=>e=.returned (.string ⟨(E5 sc 8).toArray⟩)∧Below W.heap.size W w'):=fun W=>L4 8 sc W O O;have H1:Hd (Pt1 sc sc 0):=⟨O,Or.inl rfl⟩;go_enter Tryz.func40,Tryz.ntmps40;go_wp2_with fail;go_loopw [0,3] (fun n h wr=>Below w.heap.size w wr∧∃b e:Nat,n=.float .f64 b∧h=I J e∧Pt1 sc b e) (fun _ h _=>2000-(RowKit.intOf h).toNat);case atStart=>exact⟨Below.refl _ _,sc,0,rfl,rfl,H1.o⟩
 case round=>
  obtain⟨i,b,e,rfl,rfl,f⟩:=hrel;have a:=A4 i;clear i;have p:=A4 f;have D:b≤sc:=by have:=f.1;omega
  have E:e≤1100:=by have:=f.1;omega
  clear f;have o1:=A1L b 4611686018427387904 O Z;by_cases q:1024*2^52≤b
  ·obtain⟨r,v⟩:=p.o.step hs q;have j:=A4 v;obtain⟨b2,x⟩:=A8 (b-2^52);rw[←x]at r j;have y:∀W t,(binOp .quo t (.float .f64 b) (.float .f64 4611686018427387904)).run Tryz.prog W=.ok (.float .f64 b2) W:=fun W t=>run_float_arith W .quo t .f64 _ _ _ r;have s:FloatKind.f64.format.order b 4611686018427387904=some .gt∨FloatKind.f64.format.order b 4611686018427387904=some .eq:=by
    rcases Nat.lt_or_ge 4611686018427387904 b with g|g
    ·left;rw[o1,Nat.compare_eq_gt.2 g]
    ·right;rw[o1,Nat.compare_eq_eq.2 O]
   clear o1 r v x q;rcases s with s|s
   ·go_wp2_with fail;go_roundw;case rel=>exact⟨a.o,b2,e+1,rfl,Zn,j.o⟩
    case measure=>simp[RowKit.intOf];omega
   ·go_wp2_with fail;go_roundw;case rel=>exact⟨a.o,b2,e+1,rfl,Zn,j.o⟩
    case measure=>simp[RowKit.intOf];omega
  ·rw[Nat.compare_eq_lt.2 O]at o1;have z:Hd (Pt2 sc b e):=p.o.go u hs O;clear p;go_wp2_with fail;go_loopw [0,3] (fun n h wr=>Below w.heap.size w wr∧∃(b:Nat) (e:Int),n=.float .f64 b∧h=I J e∧Pt2 sc b e) (fun _ h _=>(RowKit.intOf h+1022).toNat);case atStart=>exact⟨a.o,b,e,rfl,rfl,z.o⟩
   case round=>
    clear z o1 q a;obtain⟨i,b,e,rfl,rfl,f⟩:=hrel;have a:=A4 i;clear i;rcases f.step with⟨g1,g2,g3,b2,g4,g5⟩|⟨g1,g2,g3,c,d,m,g4,g5,g6,g7,g8⟩|⟨g1,rfl,c,g4,g5⟩
    ·have j:=A4 g5;have y:∀W t,(binOp .mul t (.float .f64 b) (.float .f64 4611686018427387904)).run Tryz.prog W=.ok (.float .f64 b2) W:=fun W t=>run_float_arith W .mul t .f64 _ _ _ g4;have hw:IntKind.i64.wrap (e-1)=e-1:=Zw;clear f g4 g5;go_wp2_with fail;go_roundw;case rel=>exact⟨a.o,b2,e-1,rfl,rfl,j.o⟩
     case measure=>simp[RowKit.intOf];omega
    ·have y:∀W t,(binOp .sub t (.float .f64 b) (.float .f64 4607182418800017408)).run Tryz.prog W=.ok (.float .f64 c) W:=fun W t=>run_float_arith W .sub t .f64 _ _ _ g4;have B:∀W t,(binOp .mul t (.float .f64 c) (.float .f64 4841369599423283200)).run Tryz.prog W=.ok (.float .f64 d) W:=fun W t=>run_float_arith W .mul t .f64 _ _ _ g5;have C:=A2r d m g6;have w1:IntKind.i64.wrap (e+1023)=e+1023:=Zw;have w2:IntKind.i64.wrap ((e+1023)*4503599627370496)=(e+1023)*4503599627370496:=Zw;have F:IntKind.i64.wrap ((e+1023)*4503599627370496+m)=(sc:Int):=Zw;clear f g4 g5 g6 g7 g8;rcases g1 with g1|g1
     ·go_wp2_with fail;refine(l.o _).mono ?_;rintro A w' ⟨rfl,k⟩;go_wp2_with fail;go_ret;exact⟨rfl,a.o.trans (k.mono a.o.size)⟩
     ·go_wp2_with fail;refine(l.o _).mono ?_;rintro A w' ⟨rfl,k⟩;go_wp2_with fail;go_ret;exact⟨rfl,a.o.trans (k.mono a.o.size)⟩
    ·have B:∀W t,(binOp .mul t (.float .f64 b) (.float .f64 4841369599423283200)).run Tryz.prog W=.ok (.float .f64 c) W:=fun W t=>run_float_arith W .mul t .f64 _ _ _ g4;have C:=A2r c sc g5;clear f g4 g5;go_wp2_with fail;refine(l.o _).mono ?_;rintro A w' ⟨rfl,k⟩;go_wp2_with fail;go_ret;exact⟨rfl,a.o.trans (k.mono a.o.size)⟩
theorem A3n (w:World) :
 Calls Tryz.prog 40 #[.float .f64 0] w fun e w'=>e=.returned (.string ⟨(E5 0 8).toArray⟩)∧Below w.heap.size w w':=by
 have o0:FloatKind.f64.format.order 0 0=some .eq:=by decide +kernel
 have a:floatBits .quo .f64 4607182418800017408 0=some 9218868437227405312:=by decide +kernel
 have o1:FloatKind.f64.format.order 9218868437227405312 0=some .gt:=by decide +kernel
 have d:∀W t,(binOp .quo t (.float .f64 4607182418800017408) (.float .f64 0)).run Tryz.prog W=.ok (.float .f64 9218868437227405312) W:=fun W t=>run_float_arith W .quo t .f64 _ _ _ a;have b:Hd (∀W,Calls Tryz.prog 39 #[I J 0,I J 8] W fun e w'=>e=.returned (.string ⟨(E5 0 8).toArray⟩)∧Below W.heap.size W w'):=fun W=>L4 8 0 W O O;clear a;go_enter Tryz.func40,Tryz.ntmps40;go_wp2_with fail;refine(b.o _).mono ?_;rintro f w' ⟨rfl,c⟩;go_wp2_with fail;go_ret;exact⟨rfl,c⟩
theorem A4m (w:World) :
 Calls Tryz.prog 40 #[.float .f64 9223372036854775808] w fun e w'=>e=.returned (.string ⟨(E5 9223372036854775808 8).toArray⟩)∧Below w.heap.size w w':=by
 have o0:FloatKind.f64.format.order 9223372036854775808 0=some .eq:=by decide +kernel
 have r:floatBits .quo .f64 4607182418800017408 9223372036854775808=some 18442240474082181120:=by decide +kernel
 have o1:FloatKind.f64.format.order 18442240474082181120 0=some .lt:=by decide +kernel
 have v:∀W t,(binOp .quo t (.float .f64 4607182418800017408) (.float .f64 9223372036854775808)).run Tryz.prog W=.ok (.float .f64 18442240474082181120) W:=fun W t=>run_float_arith W .quo t .f64 _ _ _ r;obtain⟨T,n⟩:=A8 (⟨(E5 0 7).toArray⟩:ByteArray);have x:T.size=7:=by rw[n];rfl
 have p:=A4 n;have q:Hd (∀W,Calls Tryz.prog 39 #[I J 0,I J 7] W fun e w'=>e=.returned (.string T)∧Below W.heap.size W w'):=by rw[n];exact fun W=>L4 7 0 W O O
 clear r n;go_enter Tryz.func40,Tryz.ntmps40;go_wp2_with fail;have t1:¬9223372036854775807<1+T.size:=O;refine A5 5 (fun _=>True) U trivial (fun hH=>?_);have b:Below w.heap.size w w.drew:=⟨rfl,rfl,rfl,Nat.le_refl _,fun _ _=>rfl⟩;obtain⟨s,u⟩:=A8 w.drew;rw[←u]at b⊢;clear u;refine J6 (i:=0) (j:=2) U rfl rfl U U (fun K a=>?_) (fun K a=>?_);rotate_left
 ·go_simp;go_at_call 39;refine(q.o _).mono ?_;rintro e h ⟨rfl,d⟩;have b:Below w.heap.size w h:=b.trans (d.mono b.size);refine E0 a trivial ?_;clear a K d;refine wpS 0 fun K a=>?_;go_simp;obtain⟨f,g⟩:=A8 (h.alloc (Obj.cells #[.int .u8 128] 5));rw[←g];obtain⟨k,l⟩:=A8 h.heap.size;rw[←l];have c:f.cell? ⟨k,0,none⟩=some (.int .u8 128):=by rw[g,l];exact A1 (heap_alloc_new _ _) rfl
  have b:Below w.heap.size w f:=by rw[g];exact b.alloc b.size _
  refine E0 a trivial ?_;clear a K g l;refine wpS 1 fun K a=>?_;have m:=_root_.Go.Proofs.YtilcmkiihefkkaaGreatDoor.conv_one f k 128 c;go_simp;refine E0 a trivial ?_;clear a K m c;refine A2 3 ?_;refine A2 4 ?_;refine J5 ?_;go_wp2_with fail;go_ret;refine⟨?_,b⟩;rw[show E5 9223372036854775808 8=[128]++E5 0 7 by decide +kernel,←F0,←p.o];rfl
 ·go_simp;obtain⟨h,g⟩:=A8 (s.alloc (Obj.cells #[.int .u8 128] 5));rw[←g];obtain⟨k,l⟩:=A8 s.heap.size;rw[←l];have c:h.cell? ⟨k,0,none⟩=some (.int .u8 128):=by rw[g,l];exact A1 (heap_alloc_new _ _) rfl
  have b:Below w.heap.size w h:=by rw[g];exact b.alloc b.size _
  refine E0 a trivial ?_;clear a K g l;refine J6 (i:=1) (j:=2) U rfl rfl U U (fun K a=>?_) (fun K a=>?_);rotate_left
  ·go_simp;go_at_call 39;refine(q.o _).mono ?_;rintro e f ⟨rfl,d⟩;have c:f.cell? ⟨k,0,none⟩=some (.int .u8 128):=(World.cell?_of_block (d.block _ (block_lt_of_cell c))).trans c;have b:Below w.heap.size w f:=b.trans (d.mono b.size);refine E0 a trivial ?_;clear a K d;refine wpS 1 fun K a=>?_;have m:=_root_.Go.Proofs.YtilcmkiihefkkaaGreatDoor.conv_one f k 128 c;go_simp;refine E0 a trivial ?_;clear a K m c;refine A2 3 ?_;refine A2 4 ?_;refine J5 ?_;go_wp2_with fail;go_ret;refine⟨?_,b⟩;rw[show E5 9223372036854775808 8=[128]++E5 0 7 by decide +kernel,←F0,←p.o];rfl
  ·have m:=_root_.Go.Proofs.YtilcmkiihefkkaaGreatDoor.conv_one h k 128 c;go_simp;refine E0 a trivial ?_;clear a K m c;refine wpS 2 fun K a=>?_;go_simp;go_at_call 39;refine(q.o _).mono ?_;rintro e f ⟨rfl,d⟩;have b:Below w.heap.size w f:=b.trans (d.mono b.size);refine E0 a trivial ?_;clear a K d;refine A2 3 ?_;refine A2 4 ?_;refine J5 ?_;go_wp2_with fail;go_ret;refine⟨?_,b⟩;rw[show E5 9223372036854775808 8=[128]++E5 0 7 by decide +kernel,←F0,←p.o];rfl
theorem A32 (sc:Nat)(w:World)(hs:sc=9223372036854775808∨sc≤4652007308841189376) :
 Calls Tryz.prog 40 #[.float .f64 sc] w fun e w'=>e=.returned (.string ⟨(E5 sc 8).toArray⟩)∧Below w.heap.size w w':=by
 rcases hs with rfl|hs
 ·exact A4m w
 ·by_cases a:sc=0
  ·subst a;exact A3n w
  ·exact A37 sc w O hs
end
end Mn
end Go.Proofs.YtilcmkiihefkkaaGreatDoor
