import Derived.Test.YtilcmkiihefkkaaGreatDoorJf18
import Derived.Test.YtilcmkiihefkkaaGreatDoorJf23
set_option linter.unusedVariables false
set_option linter.unusedSimpArgs false
set_option maxRecDepth 1000000
set_option maxHeartbeats 64000000
open Go.Value renaming int→I
open Go.IntKind renaming i64→J
namespace Go.Proofs.YtilcmkiihefkkaaGreatDoor
section
open Go.RowKit Go.Shelf Go.Lib Go.Sort
theorem A2h (l:List Nat):(F1 l).length=l.length:=by simp[F1]
theorem U0 (l:List Nat)(j:Nat)(h:j<l.length):(F1 l)[j]?=some (I J (l.getD j 9:Nat)):=by
 simp[F1,h]
theorem B1n (L:List Nat)(n:Nat)(i:L.length=n)(z:n≤1000)(base g o cap:Nat)(w:World)(q:A3 w base 3 1 (.slice (some ⟨g,o,none⟩) n cap) n (F1 L)) :
 Calls Tryz.prog 113 #[.slice (some ⟨g,o,none⟩) n cap] w fun e w'=>e=.returned (.tuple #[])∧A3 w' base 3 1 (.slice (some ⟨g,o,none⟩) n cap) n (F1 L.reverse)∧Below g w w':=by
 obtain⟨A,h⟩:=q;rcases h with⟨h,_⟩|⟨g',o',cap',cur,he,h1,d,r,s,t,v⟩
 ·simp at h
 ·simp only[Value.slice.injEq,Option.some.injEq,Addr.mk.injEq,and_true,true_and]at he;obtain⟨⟨rfl,rfl⟩,rfl⟩:=he;obtain⟨b,f⟩:=A8 (L.map (fun (k:Nat)=>(k:Int)):List Int);have p:b.length=n:=by rw[f];simpa using i
  have hH:Holds (I J) w g o b.toArray:=by
   intro j a;have c:j<L.length:=by rw[f]at a;simpa using a
   refine⟨A1 d ((v j _ (U0 L j c)).trans ?_),frozen_of_row _ _ _ _ _ d⟩;rw[f];simp[c]
  have l:=Any.slices_Reverse_int Tryz.laysRev g o cap b w hH O;change Calls Tryz.prog 113 _ _ _ at l;rw[p]at l;refine l.mono ?_;rintro e w' ⟨rfl,m,rfl⟩;have B:=lt_of_block d;have C:b.reverse.length=n:=by simpa using p
  have x:(putRow (I J) (Sort.ahead w m) g o b.reverse.toArray).heap[g]?=some (.cells (putCells (I J) o b.reverse.toArray cur) 3 (0,0)):=by
   unfold putRow mapBlock;simp only[Array.getElem?_modify,if_true];show(w.heap[g]?).map _=_;rw[d];rfl
  refine⟨rfl,⟨by rw[A2h];simp[i],Or.inr ⟨g,o,cap,_,rfl,h1,x,r,s,by simpa[putCells] using t,fun j u a=>?_⟩⟩,⟨rfl,rfl,rfl,?_,fun j a=>?_⟩⟩
  ·have c:j<L.reverse.length:=by
    rcases Nat.lt_or_ge j (F1 L.reverse).length with h|h
    ·rwa [A2h]at h
    ·rw[List.getElem?_eq_none h]at a;exact absurd a Zs
   rw[U0 _ _ c]at a;have D:j<n:=by simpa[i] using c
   unfold putCells;rw[Array.getElem?_mapIdx,Array.getElem?_eq_getElem (show o+j<cur.size by omega)];simp only[Option.map_some];rw[if_pos Zo,show o+j-o=j by omega,←a,f];have E:j<(L.map fun (k:Nat)=>(k:Int)).reverse.length:=by simpa using c
   have y:j<L.length:=O;simp[y]
  ·show w.heap.size≤(putRow _ _ _ _ _).heap.size;simp[putRow,mapBlock,Sort.ahead]
  ·unfold putRow mapBlock;simp only[Array.getElem?_modify];rw[if_neg O];rfl
theorem B03 (a:Option Addr)(cap:Nat)(w:World):Calls Tryz.prog 113 #[.slice a 0 cap] w fun e w'=>e=.returned (.tuple #[])∧w'=w:=Any.slices_Reverse_int_empty Tryz.laysRev a cap w
end
end Go.Proofs.YtilcmkiihefkkaaGreatDoor
