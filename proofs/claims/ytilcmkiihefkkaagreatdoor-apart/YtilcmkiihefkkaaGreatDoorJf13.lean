import Derived.Deep.RegionHeld3
import Derived.Test.YtilcmkiihefkkaaGreatDoorJf12
set_option linter.unusedVariables false
set_option linter.unusedSimpArgs false
set_option maxRecDepth 1000000
set_option maxHeartbeats 64000000
open Go.Value renaming int→I
open Go.IntKind renaming i64→J
namespace Go.Proofs.YtilcmkiihefkkaaGreatDoor
namespace Mn
section
open Go.RowKit
theorem B0Q (k run code turned:Int)(place:Int)(b:Value)(S:Nat)(w:World)
 (a:w.heap[S]?=some (.cells #[I J k,I J run,.int .u64 code,.int .u64 turned,b] 233 (0,0))) :
 Calls Tryz.prog 116 #[.pointer (some ⟨S,0,none⟩),I J place,I J 4] w fun e w'=>e=.returned (.tuple #[])∧D7 w w' S (.cells #[I J k,I J 0,.int .u64 code,.int .u64 turned,b] 233 (0,0)):=by
 have c1:w.cell? ⟨S,1,none⟩=some (I J run):=A1 a rfl;have f1:w.frozen? ⟨S,1,none⟩=false:=frozen_of_row w _ _ _ _ a;have c:=A4 a;clear a;go_enter Tryz.func116,Tryz.ntmps116;go_wp2;first|go_end0|exact bodyPost_ret (v:=.tuple #[]) (by simp[results,Tryz.results116,go_sem]) rfl ⟨rfl,D7.of_setCell _ c.o⟩
theorem A7r (k code n:Nat)(a:1≤k)(c:k≤12)(f:code<16777216)(g:n<4) :
 bits BinOp.and IntKind.u64 (bits BinOp.or IntKind.u64 (IntKind.u64.wrap ((code:Int)*4)) n) ((4^k-1:Nat):Int)=(((4*code+n)%4^k:Nat):Int):=by
 have h:=E9 k a c;have e1:IntKind.u64.wrap ((code:Int)*4)=((code*4:Nat):Int):=by rw[IntKind.wrap_u64];omega
 rw[e1,u64_or_nat _ _ O O];have d:code*4||| n=4*code+n:=by
  have:=Nat.two_pow_add_eq_or_of_lt (i:=2) (b:=n) O code;rw[Nat.mul_comm code 4];simpa using this.symm
 rw[d,u64_and_nat _ _ O O,A7i k _ a c]
theorem A3x (k turned n:Nat)(c:1≤k)(d:k≤12)(ht:turned<4^k)(h:n<4) :
 bits BinOp.or IntKind.u64 ((turned:Int)/4) (IntKind.u64.wrap ((3-(n:Int))*2^(2*k-2)))=((turned/4+(3-n)*4^(k-1):Nat):Int):=by
 have j:=E9 k c d;have a:(4:Nat)^(k-1)=2^(2*k-2):=by
  rw[show(4:Nat)=2^2 from rfl,←Nat.pow_mul];congr 1;omega
 have l:4^k=4*4^(k-1):=by
  rw[←Nat.pow_succ'];congr 1;omega
 have hle:4^(k-1)≤4194304:=O;have hmul:(3-n)*4^(k-1)≤3*4^(k-1):=Nat.mul_le_mul_right _ O;have e1:(3-(n:Int))*2^(2*k-2)=(((3-n)*4^(k-1):Nat):Int):=by
  rw[a,Int.natCast_mul,Int.natCast_pow,show((3-n:Nat):Int)=3-(n:Int) by omega];rfl
 have f:((turned:Int)/4)=((turned/4:Nat):Int):=O;rw[e1,f,IntKind.wrap_u64,show((((3-n)*4^(k-1):Nat):Int)%18446744073709551616)=(((3-n)*4^(k-1):Nat):Int) by omega,u64_or_nat _ _ O O];have g:turned/4||| (3-n)*4^(k-1)=turned/4+(3-n)*4^(k-1):=by
  have:=Nat.two_pow_add_eq_or_of_lt (i:=2*k-2) (b:=turned/4) O (3-n);rw[←a]at this;rw[Nat.or_comm,Nat.mul_comm (3-n),←this];omega
 rw[g]
theorem PI.scan {w w':World}{base a S:Nat}{k W next run:Int}{L M:List W3}{cs i:Array Value}(h:PI w base a k W next run L M)(b:w.heap[S]?=some (.cells i 233 (0,0)))(hu:D7 w w' S (.cells cs 233 (0,0))) :
 PI w' base a k W next run L M:=by
 obtain⟨j,ov,pv,c,ho,f,l⟩:=h;refine⟨j,ov,pv,(hu.other a (fun e=>by subst e;rw[b]at c;simp at c)).trans c,ho.other (fun g d _=>hu.other g (fun e=>ho.tag Z b (by rw[d,e]))),f.other (fun g d _=>hu.other g (fun e=>f.tag Z b (by rw[d,e]))),l⟩
theorem P3 (k turned n:Nat)(a:1≤k)(b:k≤12)(ht:turned<4^k)(c:n<4):turned/4+(3-n)*4^(k-1)<4^k:=by
 have d:4^k=4*4^(k-1):=by
  rw[←Nat.pow_succ'];congr 1;omega
 have hmul:(3-n)*4^(k-1)≤3*4^(k-1):=Nat.mul_le_mul_right _ O;omega
theorem A9A (k W code turned n place:Nat)(run next prun:Int)(L M:List W3)(base S d:Nat)(w:World)
 (g:1≤k)(h:k≤12)(C:1≤W)(D:W≤20)(y:code<4^k)(ht:turned<4^k)(r:n<4)(E:0≤run)(F:run≤140737488350000)(G:run≤place)(H:(place:Int)≤140737488350000)
 (j:base≤S)(K:base≤w.heap.size)
 (b:w.heap[S]?=some (.cells #[I J k,I J run,.int .u64 code,.int .u64 turned,.func (.func 115) #[.pointer (some ⟨d,0,none⟩)] #[]] 233 (0,0)))
 (u:PI w base d k W next prun L M)(N:L.length<4398046511000)(P:M.length<4398046511000)(Q:0≤prun)(R:prun≤140737488350000)(T:run+1<k) :
 Calls Tryz.prog 116 #[.pointer (some ⟨S,0,none⟩),I J place,I J n] w fun e w'=>e=.returned (.tuple #[])∧
  w'.heap[S]?=some (.cells #[I J k,I J (run+1),.int .u64 ((4*code+n)%4^k:Nat),.int .u64 (turned/4+(3-n)*4^(k-1):Nat),.func (.func 115) #[.pointer (some ⟨d,0,none⟩)] #[]] 233 (0,0))∧
  PI w' base d k W next prun L M∧Below base w w':=by
 have c0:w.cell? ⟨S,0,none⟩=some (I J k):=A1 b rfl;have c1:w.cell? ⟨S,1,none⟩=some (I J run):=A1 b rfl;have c2:w.cell? ⟨S,2,none⟩=some (.int .u64 code):=A1 b rfl;have c3:w.cell? ⟨S,3,none⟩=some (.int .u64 turned):=A1 b rfl;have c4:w.cell? ⟨S,4,none⟩=some (.func (.func 115) #[.pointer (some ⟨d,0,none⟩)] #[]):=A1 b rfl;have f1:w.frozen? ⟨S,1,none⟩=false:=frozen_of_row w _ _ _ _ b;have f2:w.frozen? ⟨S,2,none⟩=false:=frozen_of_row w _ _ _ _ b;have f3:w.frozen? ⟨S,3,none⟩=false:=frozen_of_row w _ _ _ _ b;have v:=A4 b;clear b;have s:=E9 k g h;have V:((n:Int)==4)=false:=by rw[beq_eq_false_iff_ne];omega
 obtain⟨l,p⟩:∃c:Nat,c=(4*code+n)%4^k:=⟨_,rfl⟩;obtain⟨m,q⟩:∃c:Nat,c=turned/4+(3-n)*4^(k-1):=⟨_,rfl⟩;have z:bits BinOp.and IntKind.u64 (bits BinOp.or IntKind.u64 (IntKind.u64.wrap ((code:Int)*4)) n) ((4^k-1:Nat):Int)=(l:Int):=by rw[p];exact A7r k code n g h O r
 have A:bits BinOp.or IntKind.u64 ((turned:Int)/4) (IntKind.u64.wrap ((3-(n:Int))*2^(2*k-2)))=(m:Int):=by rw[q];exact A3x k turned n g h ht r
 have X:l<16777216:=by rw[p];exact Nat.lt_of_lt_of_le (Nat.mod_lt _ O) s.1
 have Y:m<16777216:=by rw[q];exact Nat.lt_of_lt_of_le (P3 k turned n g h ht r) s.1
 rw[←p,←q];clear p q s y ht;have B:=A4 u;clear u;go_enter Tryz.func116,Tryz.ntmps116;go_wp2;go_region_with (go_at_call 154;refine(A0A k _ g h).mono ?_;rintro e w' ⟨rfl,rfl⟩);all_goals go_wp2
 all_goals go_region
 all_goals go_wp2
 all_goals (have t:=((((D7.of_setCell (i:=2) (.int .u64 l) v.o).setCell (i:=3) (.int .u64 m)).setCell (i:=1) (I J (run+1))).drew).drew)
 all_goals (generalize ((((w.setCell ⟨S,2,none⟩ (.int .u64 l)).setCell ⟨S,3,none⟩ (.int .u64 m)).setCell ⟨S,1,none⟩ (I J (run+1))).drew).drew=f at t⊢)
 all_goals (have a:=A4 t)
 all_goals (clear t z A c0 c1 c2 c3 c4 f1 f2 f3)
 all_goals (have c0:f.cell? ⟨S,0,none⟩=some (I J k):=A1 a.o.here rfl)
 all_goals (have c1:f.cell? ⟨S,1,none⟩=some (I J (run+1)):=A1 a.o.here rfl)
 all_goals (have c2:f.cell? ⟨S,2,none⟩=some (.int .u64 l):=A1 a.o.here rfl)
 all_goals (have c3:f.cell? ⟨S,3,none⟩=some (.int .u64 m):=A1 a.o.here rfl)
 all_goals (have c4:f.cell? ⟨S,4,none⟩=some (.func (.func 115) #[.pointer (some ⟨d,0,none⟩)] #[]):=A1 a.o.here rfl)
 all_goals (have aa:decide ((k:Int)≤run+1)=false:=Zo)
 all_goals (have x:Hd (PI f base d k W next prun L M):=B.o.scan v.o a.o)
 all_goals go_quiet (fail)
 all_goals go_wp2
 all_goals go_end0
 all_goals exact⟨rfl,a.o.here,⟨x.o.low,x.o.ex⟩,⟨(a.o.below j).os,(a.o.below j).tape,(a.o.below j).output,(a.o.below j).size,(a.o.below j).block⟩⟩
theorem B0C (place k:Nat)(h:k≤place+1)(a:place≤140737488350000):IntKind.i64.wrap (IntKind.i64.wrap ((place:Int)-k)+1)=((place+1-k:Nat):Int):=by
 rw[IntKind.wrap_i64,IntKind.wrap_i64];omega
theorem B0E (k W code turned n place:Nat)(run next prun:Int)(L M:List W3)(base S b:Nat)(w:World)
 (j:1≤k)(l:k≤12)(z:1≤W)(A:W≤20)(B:code<4^k)(ht:turned<4^k)(s:n<4)(aa:0≤run)(ab:run≤140737488350000)(ac:run≤place)(ad:(place:Int)≤140737488350000)
 (C:base≤S)(D:base≤w.heap.size)
 (a:w.heap[S]?=some (.cells #[I J k,I J run,.int .u64 code,.int .u64 turned,.func (.func 115) #[.pointer (some ⟨b,0,none⟩)] #[]] 233 (0,0)))
 (v:PI w base b k W next prun L M)(E:L.length<4398046511000)(F:M.length<4398046511000)(G:0≤prun)(H:prun≤140737488350000)(ae:(k:Int)≤run+1) :
 Calls Tryz.prog 116 #[.pointer (some ⟨S,0,none⟩),I J place,I J n] w fun e w'=>e=.returned (.tuple #[])∧
  w'.heap[S]?=some (.cells #[I J k,I J (run+1),.int .u64 ((4*code+n)%4^k:Nat),.int .u64 (turned/4+(3-n)*4^(k-1):Nat),.func (.func 115) #[.pointer (some ⟨b,0,none⟩)] #[]] 233 (0,0))∧
  PI w' base b k W ((place+1-k:Nat)+1) (E1 next prun (place+1-k:Nat)) (J0 W next (place+1-k:Nat) L (E2 k (place+1-k) ((4*code+n)%4^k) (turned/4+(3-n)*4^(k-1)))) (F5 W (E1 next prun (place+1-k:Nat)) (J0 W next (place+1-k:Nat) L (E2 k (place+1-k) ((4*code+n)%4^k) (turned/4+(3-n)*4^(k-1)))) M)∧Below base w w':=by
 have c0:w.cell? ⟨S,0,none⟩=some (I J k):=A1 a rfl;have c1:w.cell? ⟨S,1,none⟩=some (I J run):=A1 a rfl;have c2:w.cell? ⟨S,2,none⟩=some (.int .u64 code):=A1 a rfl;have c3:w.cell? ⟨S,3,none⟩=some (.int .u64 turned):=A1 a rfl;have c4:w.cell? ⟨S,4,none⟩=some (.func (.func 115) #[.pointer (some ⟨b,0,none⟩)] #[]):=A1 a rfl;have f1:w.frozen? ⟨S,1,none⟩=false:=frozen_of_row w _ _ _ _ a;have f2:w.frozen? ⟨S,2,none⟩=false:=frozen_of_row w _ _ _ _ a;have f3:w.frozen? ⟨S,3,none⟩=false:=frozen_of_row w _ _ _ _ a;have x:=A4 a;clear a;have t:=E9 k j l;have af:((n:Int)==4)=false:=by rw[beq_eq_false_iff_ne];omega
 obtain⟨f,q⟩:∃c:Nat,c=(4*code+n)%4^k:=⟨_,rfl⟩;obtain⟨g,r⟩:∃c:Nat,c=turned/4+(3-n)*4^(k-1):=⟨_,rfl⟩;have K:bits BinOp.and IntKind.u64 (bits BinOp.or IntKind.u64 (IntKind.u64.wrap ((code:Int)*4)) n) ((4^k-1:Nat):Int)=(f:Int):=by rw[q];exact A7r k code n j l O s
 have N:bits BinOp.or IntKind.u64 ((turned:Int)/4) (IntKind.u64.wrap ((3-(n:Int))*2^(2*k-2)))=(g:Int):=by rw[r];exact A3x k turned n j l ht s
 have P:f<16777216:=by rw[q];exact Nat.lt_of_lt_of_le (Nat.mod_lt _ O) t.1
 have Q:g<16777216:=by rw[r];exact Nat.lt_of_lt_of_le (P3 k turned n j l ht s) t.1
 rw[←q,←r];clear q r t B ht;have R:=A4 v;clear v;go_enter Tryz.func116,Tryz.ntmps116;go_wp2;go_region_with (go_at_call 154;refine(A0A k _ j l).mono ?_;rintro e w' ⟨rfl,rfl⟩);all_goals go_wp2
 all_goals go_region
 all_goals go_wp2
 all_goals (have u:=((((D7.of_setCell (i:=2) (.int .u64 f) x.o).setCell (i:=3) (.int .u64 g)).setCell (i:=1) (I J (run+1))).drew).drew)
 all_goals (generalize ((((w.setCell ⟨S,2,none⟩ (.int .u64 f)).setCell ⟨S,3,none⟩ (.int .u64 g)).setCell ⟨S,1,none⟩ (I J (run+1))).drew).drew=h at u⊢)
 all_goals (have d:=A4 u)
 all_goals (clear u K N c0 c1 c2 c3 c4 f1 f2 f3)
 all_goals (have c0:h.cell? ⟨S,0,none⟩=some (I J k):=A1 d.o.here rfl)
 all_goals (have c1:h.cell? ⟨S,1,none⟩=some (I J (run+1)):=A1 d.o.here rfl)
 all_goals (have c2:h.cell? ⟨S,2,none⟩=some (.int .u64 f):=A1 d.o.here rfl)
 all_goals (have c3:h.cell? ⟨S,3,none⟩=some (.int .u64 g):=A1 d.o.here rfl)
 all_goals (have c4:h.cell? ⟨S,4,none⟩=some (.func (.func 115) #[.pointer (some ⟨b,0,none⟩)] #[]):=A1 d.o.here rfl)
 all_goals (have y:Hd (PI h base b k W next prun L M):=R.o.scan x.o d.o)
 all_goals (have T:Hd (IntKind.i64.wrap (IntKind.i64.wrap ((place:Int)-k)+1)=((place+1-k:Nat):Int)):=B0C place k O O)
 all_goals go_quiet (fail)
 all_goals go_wp2
 all_goals (have V:base≤h.heap.size:=by rw[d.o.size];exact D)
 all_goals (go_region_held3 (fun w'=>w'.cell? ⟨S,0,none⟩=some (I J k)∧w'.cell? ⟨S,2,none⟩=some (.int .u64 f)∧w'.cell? ⟨S,3,none⟩=some (.int .u64 g)∧w'.cell? ⟨S,4,none⟩=some (.func (.func 115) #[.pointer (some ⟨b,0,none⟩)] #[])) (go_keep) ((go_at_call 115;rw[T.o];refine(A9i k W (place+1-k) f g next prun L M base b _ j l P Q z A ?_ ?_ E F ?_ G H).mono ?_;(exact V);(exact⟨y.o.low,y.o.ex⟩);omega;rintro e w4 ⟨rfl,X,m⟩;have p:=m.scan S _ d.o.here;have d0:=A1 p (i:=0) rfl;have d2:=A1 p (i:=2) rfl;have d3:=A1 p (i:=3) rfl;have d4:=A1 p (i:=4) rfl;have Y:Hd _:=p;clear p)))
 all_goals go_wp2
 all_goals go_end0
 all_goals exact⟨rfl,Y.o,X,(d.o.below C).trans ⟨m.below.os,m.below.tape,m.below.output,m.below.size,m.below.block⟩⟩
end
end Mn
end Go.Proofs.YtilcmkiihefkkaaGreatDoor
