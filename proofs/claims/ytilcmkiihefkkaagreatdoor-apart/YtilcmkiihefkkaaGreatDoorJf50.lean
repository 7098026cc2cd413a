import Derived.Test.YtilcmkiihefkkaaGreatDoorJf49
set_option linter.unusedVariables false
set_option linter.unusedSimpArgs false
set_option maxRecDepth 1000000
set_option maxHeartbeats 64000000
open Go.Value renaming int→I
open Go.IntKind renaming i64→J
namespace Go.Proofs.YtilcmkiihefkkaaGreatDoor
namespace Mn
section
open Go.RowKit Go.Shelf Go.Lib
theorem GrP.low {κ α:Type}{P:Program}{a:κ→Lit}{ok:κ→Prop}{enc:List α→List Value}{K E sz:Nat}{w:World}{base b B n:Nat}{V:κ→Value}{L:κ→List α}(h:GrP P a ok enc K E sz w base B n V L)(c:b≤base):GrP P a ok enc K E sz w b B n V L:=
 ⟨h.map,fun x d=>(h.own x d).low c,h.apart⟩
theorem IxP.low {w:World}{base a X:Nat}{R:List S2}{k W sc:Nat}(h:IxP w base X R k W sc)(b:a≤base):IxP w a X R k W sc:=by
 obtain⟨c,d,V,h1,f,g,i,j⟩:=h
 exact⟨c,d,V,h1,f.low b,g.low b,O,O⟩
theorem apart_any (s1 s2:ByteArray)(k1 c k2 S:Int)(G C:Nat)(a1 a2:Option Addr)(n1 c1 x c2:Nat)(w:World)(bq:s1.size≤140737488351232)(br:s2.size≤140737488351232)(aE:G<2^64)(aF:C<2^64)(bN:n1≤10000000)(bO:x≤10000000)(aU:AkL w a1 n1)(aV:AkL w a2 x)(aW:Lib.TabBelow Tryz.prog w.heap.size w "internal/strconv.uint64pow10" .u64 Lib.pow10Tab)(aX:LtP w) :
 Calls Tryz.prog 5 #[.string s1,.string s2,.agg #[I J k1,I J c,.float .f64 G],.agg #[I J k2,I J S,.float .f64 C],.slice a1 n1 c1,.slice a2 x c2] w fun e w'=>e=.returned (.bool true)∧Below w.heap.size w w':=by
 obtain⟨D,af⟩:=nm ((w.alloc (Obj.cells #[I J k1,I J c,.float .f64 G] 24)).alloc (Obj.cells #[I J k2,I J S,.float .f64 C] 24))
 have aY:Below w.heap.size w D:=by rw[af];exact ((Below.refl _ w).alloc (Nat.le_refl _) _).alloc Zs _
 have bP:D.heap.size=w.heap.size+2:=by rw[af];simp
 have ao:D.heap[w.heap.size]?=some (.cells #[I J k1,I J c,.float .f64 G] 24 (0,0)):=by
  rw[af];exact (Below.heap_alloc _ _ _ Zs).trans (heap_alloc_new w _)
 have ap:D.heap[w.heap.size+1]?=some (.cells #[I J k2,I J S,.float .f64 C] 24 (0,0)):=by rw[af];exact heap_alloc2_new w _ _
 have T:=hid aY
 have aZ:Hid (∀w',Below D.heap.size D w'→w'.cell? ⟨w.heap.size+1,0,none⟩=some (I J k2)∧w'.cell? ⟨w.heap.size+1,1,none⟩=some (I J S)∧w'.cell? ⟨w.heap.size+1,2,none⟩=some (.float .f64 C)):=fun w' k=>⟨A1 ((k.block _ O).trans ap) rfl,A1 ((k.block _ O).trans ap) rfl,A1 ((k.block _ O).trans ap) rfl⟩
 have x0:D.cell? ⟨w.heap.size,0,none⟩=some (I J k1):=A1 ao rfl
 have x1:D.cell? ⟨w.heap.size,1,none⟩=some (I J c):=A1 ao rfl
 have x2:D.cell? ⟨w.heap.size,2,none⟩=some (.float .f64 G):=A1 ao rfl
 have cM:=A3g s1 k1 c G D bq aE
 have cN:=fun W0=>A3g s2 k2 S C W0 br aF
 have bs:=hid aU
 have ba:=hid aV
 have bb:=(show Hid _ from aW)
 have bc:=(show Hid _ from aX)
 have bd:Hid (G<2^64∧C<2^64):=⟨aE,aF⟩
 clear ao ap aY aU aV aW aX aE aF
 go_enter Tryz.func5,Tryz.ntmps5
 go_upto_region 1 with fail
 rw[←af]
 clear af
 go_wp2_with fail
 refine cM.mono ?_
 rintro e w1 ⟨aq,rfl | ⟨y,H,E,R1,rfl,bQ,bR,be,bf,bS,bT,bg,bh,bi⟩⟩
 ·dsimp only
  obtain⟨w2,z⟩:=nm (w1.alloc (Obj.cells #[.pointer none,.pointer none] 29))
  have ad:Below w1.heap.size w1 w2:=by rw[z];exact (Below.refl _ w1).alloc (Nat.le_refl _) _
  have ah:w2.heap[w1.heap.size]?=some (.cells #[.pointer none,.pointer none] 29 (0,0)):=by rw[z];exact heap_alloc_new w1 _
  have bt:w2.heap.size=w1.heap.size+1:=by rw[z];simp
  have s:=hid aq
  have A:=hid ad
  have ai:=hid ah
  obtain⟨y0,y1,y2⟩:=aZ.out w2 (s.out.trans (ad.mono s.out.size))
  clear cM aq ad ah x0 x1 x2
  go_upto_region 2 with fail
  rw[←z]
  clear z
  go_wp2_with fail
  refine (cN _).mono ?_
  rintro e b ⟨i,rfl | ⟨l,t,S2,R2,rfl,bu,bw,aG,aH,bx,bz,aI,aJ,aK⟩⟩
  ·dsimp only
   obtain⟨a,d⟩:=nm (b.alloc (Obj.cells #[.pointer none,.pointer none] 29))
   have m:Below b.heap.size b a:=by rw[d];exact (Below.refl _ b).alloc (Nat.le_refl _) _
   have L:a.heap[b.heap.size]?=some (.cells #[.pointer none,.pointer none] 29 (0,0)):=by rw[d];exact heap_alloc_new b _
   have ar:a.heap.size=b.heap.size+1:=by rw[d];simp
   have au:=hid i
   have aj:=hid m
   have u:Below w2.heap.size w2 a:=i.trans (m.mono i.size)
   have M:a.heap[w1.heap.size]?=some (.cells #[.pointer none,.pointer none] 29 (0,0)):=(u.block _ O).trans ai.out
   have N:Hid (Below w.heap.size w a):=T.out.trans ((s.out.trans ((A.out.trans (u.mono A.out.size)).mono s.out.size)).mono T.out.size)
   have z0:a.cell? ⟨w1.heap.size,0,none⟩=some (.pointer none):=A1 M rfl
   have z2:a.cell? ⟨b.heap.size,0,none⟩=some (.pointer none):=A1 L rfl
   clear i m y0 y1 y2
   go_upto_region 3 with fail
   rw[←d]
   clear d
   clear cN
   go_wp2
   go_ret
   exact⟨rfl,N.out⟩
  ·dsimp only
   obtain⟨a,d⟩:=nm (b.alloc (Obj.cells #[.pointer (some ⟨l,0,none⟩),.pointer (some ⟨t,0,none⟩)] 29))
   have m:Below b.heap.size b a:=by rw[d];exact (Below.refl _ b).alloc (Nat.le_refl _) _
   have L:a.heap[b.heap.size]?=some (.cells #[.pointer (some ⟨l,0,none⟩),.pointer (some ⟨t,0,none⟩)] 29 (0,0)):=by rw[d];exact heap_alloc_new b _
   have ar:a.heap.size=b.heap.size+1:=by rw[d];simp
   have au:=hid i
   have aj:=hid m
   have u:Below w2.heap.size w2 a:=i.trans (m.mono i.size)
   have M:a.heap[w1.heap.size]?=some (.cells #[.pointer none,.pointer none] 29 (0,0)):=(u.block _ O).trans ai.out
   have N:Hid (Below w.heap.size w a):=T.out.trans ((s.out.trans ((A.out.trans (u.mono A.out.size)).mono s.out.size)).mono T.out.size)
   have z0:a.cell? ⟨w1.heap.size,0,none⟩=some (.pointer none):=A1 M rfl
   have z2:a.cell? ⟨b.heap.size,0,none⟩=some (.pointer (some ⟨l,0,none⟩)):=A1 L rfl
   clear i m y0 y1 y2
   go_upto_region 3 with fail
   rw[←d]
   clear d
   clear cN
   go_wp2
   go_ret
   exact⟨rfl,N.out⟩
 ·dsimp only
  obtain⟨w2,z⟩:=nm (w1.alloc (Obj.cells #[.pointer (some ⟨y,0,none⟩),.pointer (some ⟨H,0,none⟩)] 29))
  have ad:Below w1.heap.size w1 w2:=by rw[z];exact (Below.refl _ w1).alloc (Nat.le_refl _) _
  have ah:w2.heap[w1.heap.size]?=some (.cells #[.pointer (some ⟨y,0,none⟩),.pointer (some ⟨H,0,none⟩)] 29 (0,0)):=by rw[z];exact heap_alloc_new w1 _
  have bt:w2.heap.size=w1.heap.size+1:=by rw[z];simp
  have s:=hid aq
  have A:=hid ad
  have ai:=hid ah
  obtain⟨y0,y1,y2⟩:=aZ.out w2 (s.out.trans (ad.mono s.out.size))
  clear cM aq ad ah x0 x1 x2
  go_upto_region 2 with fail
  rw[←z]
  clear z
  go_wp2_with fail
  refine (cN _).mono ?_
  rintro e b ⟨i,rfl | ⟨l,t,S2,R2,rfl,bu,bw,aG,aH,bx,bz,aI,aJ,aK⟩⟩
  ·dsimp only
   obtain⟨a,d⟩:=nm (b.alloc (Obj.cells #[.pointer none,.pointer none] 29))
   have m:Below b.heap.size b a:=by rw[d];exact (Below.refl _ b).alloc (Nat.le_refl _) _
   have L:a.heap[b.heap.size]?=some (.cells #[.pointer none,.pointer none] 29 (0,0)):=by rw[d];exact heap_alloc_new b _
   have ar:a.heap.size=b.heap.size+1:=by rw[d];simp
   have au:=hid i
   have aj:=hid m
   have u:Below w2.heap.size w2 a:=i.trans (m.mono i.size)
   have M:a.heap[w1.heap.size]?=some (.cells #[.pointer (some ⟨y,0,none⟩),.pointer (some ⟨H,0,none⟩)] 29 (0,0)):=(u.block _ O).trans ai.out
   have N:Hid (Below w.heap.size w a):=T.out.trans ((s.out.trans ((A.out.trans (u.mono A.out.size)).mono s.out.size)).mono T.out.size)
   have z0:a.cell? ⟨w1.heap.size,0,none⟩=some (.pointer (some ⟨y,0,none⟩)):=A1 M rfl
   have z2:a.cell? ⟨b.heap.size,0,none⟩=some (.pointer none):=A1 L rfl
   clear i m y0 y1 y2
   go_upto_region 3 with fail
   rw[←d]
   clear d
   clear cN
   go_wp2
   go_ret
   exact⟨rfl,N.out⟩
  ·dsimp only
   obtain⟨a,d⟩:=nm (b.alloc (Obj.cells #[.pointer (some ⟨l,0,none⟩),.pointer (some ⟨t,0,none⟩)] 29))
   have m:Below b.heap.size b a:=by rw[d];exact (Below.refl _ b).alloc (Nat.le_refl _) _
   have L:a.heap[b.heap.size]?=some (.cells #[.pointer (some ⟨l,0,none⟩),.pointer (some ⟨t,0,none⟩)] 29 (0,0)):=by rw[d];exact heap_alloc_new b _
   have ar:a.heap.size=b.heap.size+1:=by rw[d];simp
   have au:=hid i
   have aj:=hid m
   have u:Below w2.heap.size w2 a:=i.trans (m.mono i.size)
   have M:a.heap[w1.heap.size]?=some (.cells #[.pointer (some ⟨y,0,none⟩),.pointer (some ⟨H,0,none⟩)] 29 (0,0)):=(u.block _ O).trans ai.out
   have N:Hid (Below w.heap.size w a):=T.out.trans ((s.out.trans ((A.out.trans (u.mono A.out.size)).mono s.out.size)).mono T.out.size)
   have z0:a.cell? ⟨w1.heap.size,0,none⟩=some (.pointer (some ⟨y,0,none⟩)):=A1 M rfl
   have z2:a.cell? ⟨b.heap.size,0,none⟩=some (.pointer (some ⟨l,0,none⟩)):=A1 L rfl
   clear i m y0 y1 y2
   go_upto_region 3 with fail
   rw[←d]
   clear d
   have bU:E≤w2.heap.size:=O
   have aL:Below w1.heap.size w1 a:=A.out.trans (u.mono A.out.size)
   have bV:=au.out.size
   have bA:Hid (Y0 w a E y H R1 k1.toNat c.toNat G):={k1:=O,k2:=O,w1:=O,w2:=O,refs:=bg,sc8:=bd.out.1,may:=bh,head:=bi,ix:=be.kept (fun g v=>aL.block g v),rx:=bf.kept (fun g v=>aL.block g v),tab:=bb.out,lt:=bc.out}
   have bj:Hid (Y0 w a E l t R2 k2.toNat S.toNat C):={k1:=O,k2:=O,w1:=O,w2:=O,refs:=aI,sc8:=bd.out.2,may:=aJ,head:=aK,ix:=(aG.kept (fun g v=>aj.out.block g v)).low O,rx:=(aH.kept (fun g v=>aj.out.block g v)).low O,tab:=bb.out,lt:=bc.out}
   obtain⟨w5,av⟩:=nm (a.alloc (Obj.cells #[.slice none 0 0,.slice none 0 0,.slice none 0 0,.slice none 0 0,.slice none 0 0] 40))
   have aw:Below a.heap.size a w5:=by rw[av];exact (Below.refl _ a).alloc (Nat.le_refl _) _
   have bk:w5.heap[a.heap.size]?=some (.cells #[.slice none 0 0,.slice none 0 0,.slice none 0 0,.slice none 0 0,.slice none 0 0] 40 (0,0)):=by rw[av];exact heap_alloc_new a _
   have aM:Hid (BwI w a E w5 a.heap.size (.slice none 0 0) (.slice none 0 0) [] []):=BwI.new (N.out.trans (aw.mono N.out.size)) (fun g _ v=>aw.block g v) aw.size N.out.size bk (Nat.le_refl _)
   obtain⟨ag,aN⟩:=nm w1.heap.size
   obtain⟨F,aO⟩:=nm b.heap.size
   obtain⟨Bb,aP⟩:=nm (b.heap.size+1)
   have bl:Hid (∀w':World,(∀g,E≤g→g<a.heap.size→w'.heap[g]?=a.heap[g]?)→w'.cell? ⟨ag,0,none⟩=some (.pointer (some ⟨y,0,none⟩))∧w'.cell? ⟨ag,1,none⟩=some (.pointer (some ⟨H,0,none⟩))):=by
    intro w' v
    rw[aN]
    have e:=(v w1.heap.size O O).trans M
    exact⟨A1 e rfl,A1 e rfl⟩
   have ax:Hid (∀w':World,(∀g,E≤g→g<a.heap.size→w'.heap[g]?=a.heap[g]?)→w'.cell? ⟨F,0,none⟩=some (.pointer (some ⟨l,0,none⟩))∧w'.cell? ⟨F,1,none⟩=some (.pointer (some ⟨t,0,none⟩))):=by
    intro w' v
    rw[aO]
    have e:=(v b.heap.size O O).trans L
    exact⟨A1 e rfl,A1 e rfl⟩
   clear be bf bg bh bi aG aH aI aJ aK aL u aw bk cN
   go_upto_region 6 with fail
   rw[←av,←aN,←aP,←aO]
   rw[ar,←aP]at aM
   clear av aN aO M L z0 z2 aP
   generalize a=wI at *
   go_wp2_with fail
   go_loopw [14,18] (fun bv iv wr=>∃(j:Nat) (hv fv:Value) (EH EF:List (Value×Int)),j≤max n1 x∧bv=.bool true∧iv=I J j∧EH.length≤8*j∧EF.length≤8*j∧BwI w wI E wr Bb hv fv EH EF) (fun _ iv _=>max n1 x - (RowKit.intOf iv).toNat)
   case atStart=>exact⟨0,.slice none 0 0,.slice none 0 0,[],[],Nat.zero_le _,rfl,rfl,Zs,Zs,aM.out⟩
   case round=>
    clear aM
    obtain⟨j,hv,fv,EH,EF,hj,rfl,rfl,bW,bX,hS⟩:=hrel
    have HS:=hid hS
    clear hS
    by_cases bB:j<n1
    ·obtain⟨g1,o1,rfl,aQ,bm⟩:∃g o,a1=some ⟨g,o,none⟩∧g<w.heap.size∧∀j,j<n1→∃(kd h:Int) (rd:ByteArray),w.cell? ⟨g,o+j*3,none⟩=some (I J kd)∧w.cell? ⟨g,o+j*3+1,none⟩=some (.string rd)∧w.cell? ⟨g,o+j*3+2,none⟩=some (I J h)∧rd.size≤140737488351232∧okI h:=by
      rcases bs.out with h | h
      ·omega
      ·exact h
     obtain⟨ay,h1,az,d0,d1,d2,bC,bn⟩:=bm j bB
     have bo:Hid (∀w',Below w.heap.size w w'→w'.cell? ⟨g1,o1+j*3,none⟩=some (I J ay)∧w'.cell? ⟨g1,o1+j*3+1,none⟩=some (.string az)∧w'.cell? ⟨g1,o1+j*3+2,none⟩=some (I J h1)):=fun w' k=>⟨(World.cell?_of_block (k.block g1 aQ)).trans d0,(World.cell?_of_block (k.block g1 aQ)).trans d1,(World.cell?_of_block (k.block g1 aQ)).trans d2⟩
     have p:=bl.out _ HS.out.ix
     have q:=bo.out _ HS.out.bE
     have bD:Below wr.heap.size wr wr.drew:=⟨rfl,rfl,rfl,Nat.le_refl _,fun _ _=>rfl⟩
     have V:=A0O w wI E y H R1 k1.toNat c.toNat G bA.out Bb hv fv EH EF wr.drew (HS.out.keep bD) O O ay h1 az bC bn
     obtain⟨W,X⟩:=p
     obtain⟨q0,Y,q2⟩:=q
     clear d0 d1 d2 bm bn
     go_wp2_with fail
     rename_i K4 aa
     refine A5 8 (fun c=>c.cell? ⟨ag,0,none⟩=some (.pointer (some ⟨y,0,none⟩))∧c.cell? ⟨ag,1,none⟩=some (.pointer (some ⟨H,0,none⟩))∧c.cell? ⟨g1,o1+j*3,none⟩=some (I J ay)∧c.cell? ⟨g1,o1+j*3+1,none⟩=some (.string az)∧c.cell? ⟨g1,o1+j*3+2,none⟩=some (I J h1)) U ⟨W,X,q0,Y,q2⟩ (fun hH=>?_)
     refine A2 0 ?_
     refine A2 1 ?_
     refine A2 2 ?_
     refine A2 3 ?_
     refine A2 4 ?_
     refine A2 5 ?_
     refine wpS 6 fun K hK=>?_
     go_simp
     go_at_call 13
     refine V.mono ?_
     rintro e n ⟨rfl,aA,aB,aC,aD,bF,bG,r,_⟩
     have p:=bl.out _ r.ix
     have q:=bo.out _ r.bE
     have B:n.cell? ⟨ag,0,none⟩=some (.pointer (some ⟨y,0,none⟩))∧n.cell? ⟨ag,1,none⟩=some (.pointer (some ⟨H,0,none⟩))∧n.cell? ⟨g1,o1+j*3,none⟩=some (I J ay)∧n.cell? ⟨g1,o1+j*3+1,none⟩=some (.string az)∧n.cell? ⟨g1,o1+j*3+2,none⟩=some (I J h1):=⟨p.1,p.2,q⟩
     have ab:=hid r
     refine hK.out _ _ B ?_
     clear hK K hH
     have hH:=B
     clear B
     try simp only[Act.put,zA0,zZ0,zS0]
     refine A2 7 ?_
     refine J5 ?_
     refine aa _ _ ?_
     clear aa hH V r p q W X q0 Y q2
     by_cases aR:j<x
     ·obtain⟨g2,f,rfl,ae,ak⟩:∃g o,a2=some ⟨g,o,none⟩∧g<w.heap.size∧∀j,j<x→∃(kd h:Int) (rd:ByteArray),w.cell? ⟨g,o+j*3,none⟩=some (I J kd)∧w.cell? ⟨g,o+j*3+1,none⟩=some (.string rd)∧w.cell? ⟨g,o+j*3+2,none⟩=some (I J h)∧rd.size≤140737488351232∧okI h:=by
       rcases ba.out with h | h
       ·omega
       ·exact h
      obtain⟨P,Q,R,d0,d1,d2,aS,al⟩:=ak j aR
      have am:Hid (∀w',Below w.heap.size w w'→w'.cell? ⟨g2,f+j*3,none⟩=some (I J P)∧w'.cell? ⟨g2,f+j*3+1,none⟩=some (.string R)∧w'.cell? ⟨g2,f+j*3+2,none⟩=some (I J Q)):=fun w' k=>⟨(World.cell?_of_block (k.block g2 ae)).trans d0,(World.cell?_of_block (k.block g2 ae)).trans d1,(World.cell?_of_block (k.block g2 ae)).trans d2⟩
      have p:=ax.out _ ab.out.ix
      have q:=am.out _ ab.out.bE
      have aT:Below n.heap.size n n.drew:=⟨rfl,rfl,rfl,Nat.le_refl _,fun _ _=>rfl⟩
      have V:=A0O w wI E l t R2 k2.toNat S.toNat C bj.out Bb aA aB aC aD n.drew (ab.out.keep aT) O O P Q R aS al
      obtain⟨W,X⟩:=p
      obtain⟨q0,Y,q2⟩:=q
      clear d0 d1 d2 ak al
      go_wp2_with fail
      rename_i K4 aa
      refine A5 8 (fun c=>c.cell? ⟨F,0,none⟩=some (.pointer (some ⟨l,0,none⟩))∧c.cell? ⟨F,1,none⟩=some (.pointer (some ⟨t,0,none⟩))∧c.cell? ⟨g2,f+j*3,none⟩=some (I J P)∧c.cell? ⟨g2,f+j*3+1,none⟩=some (.string R)∧c.cell? ⟨g2,f+j*3+2,none⟩=some (I J Q)) U ⟨W,X,q0,Y,q2⟩ (fun hH=>?_)
      refine A2 0 ?_
      refine A2 1 ?_
      refine A2 2 ?_
      refine A2 3 ?_
      refine A2 4 ?_
      refine A2 5 ?_
      refine wpS 6 fun K hK=>?_
      go_simp
      go_at_call 13
      refine V.mono ?_
      rintro e w7 ⟨rfl,bH,bI,bJ,bK,bY,bZ,r,_⟩
      have p:=ax.out _ r.ix
      have q:=am.out _ r.bE
      have B:w7.cell? ⟨F,0,none⟩=some (.pointer (some ⟨l,0,none⟩))∧w7.cell? ⟨F,1,none⟩=some (.pointer (some ⟨t,0,none⟩))∧w7.cell? ⟨g2,f+j*3,none⟩=some (I J P)∧w7.cell? ⟨g2,f+j*3+1,none⟩=some (.string R)∧w7.cell? ⟨g2,f+j*3+2,none⟩=some (I J Q):=⟨p.1,p.2,q⟩
      have bp:=hid r
      refine hK.out _ _ B ?_
      clear hK K hH
      have hH:=B
      clear B
      try simp only[Act.put,zA0,zZ0,zS0]
      refine A2 7 ?_
      refine J5 ?_
      refine aa _ _ ?_
      clear aa hH V r p q W X q0 Y q2
      have cL:=bp.out.looks O O
      go_wp2_with fail
      refine cL.mono ?_
      rintro e w9 ⟨rfl,ac⟩
      dsimp only
      have an:=hid ac
      clear cL ac
      go_wp2_with fail
      go_roundw
      case rel=>exact⟨j+1,bH,bI,bJ,bK,O,rfl,Zn,O,O,bp.out.keep an.out⟩
      case measure=>simp[RowKit.intOf];omega
     ·have bL:¬(j:Int)<(x:Int):=O
      have cL:=ab.out.looks O O
      go_wp2_with fail
      refine cL.mono ?_
      rintro e w9 ⟨rfl,ac⟩
      dsimp only
      have an:=hid ac
      clear cL ac
      go_wp2_with fail
      go_roundw
      case rel=>exact⟨j+1,aA,aB,aC,aD,O,rfl,Zn,O,O,ab.out.keep an.out⟩
      case measure=>simp[RowKit.intOf];omega
    ·have ca:¬(j:Int)<(n1:Int):=O
     by_cases aR:j<x
     ·obtain⟨g2,f,rfl,ae,ak⟩:∃g o,a2=some ⟨g,o,none⟩∧g<w.heap.size∧∀j,j<x→∃(kd h:Int) (rd:ByteArray),w.cell? ⟨g,o+j*3,none⟩=some (I J kd)∧w.cell? ⟨g,o+j*3+1,none⟩=some (.string rd)∧w.cell? ⟨g,o+j*3+2,none⟩=some (I J h)∧rd.size≤140737488351232∧okI h:=by
       rcases ba.out with h | h
       ·omega
       ·exact h
      obtain⟨P,Q,R,d0,d1,d2,aS,al⟩:=ak j aR
      have am:Hid (∀w',Below w.heap.size w w'→w'.cell? ⟨g2,f+j*3,none⟩=some (I J P)∧w'.cell? ⟨g2,f+j*3+1,none⟩=some (.string R)∧w'.cell? ⟨g2,f+j*3+2,none⟩=some (I J Q)):=fun w' k=>⟨(World.cell?_of_block (k.block g2 ae)).trans d0,(World.cell?_of_block (k.block g2 ae)).trans d1,(World.cell?_of_block (k.block g2 ae)).trans d2⟩
      have p:=ax.out _ HS.out.ix
      have q:=am.out _ HS.out.bE
      have aT:Below wr.heap.size wr wr.drew:=⟨rfl,rfl,rfl,Nat.le_refl _,fun _ _=>rfl⟩
      have V:=A0O w wI E l t R2 k2.toNat S.toNat C bj.out Bb hv fv EH EF wr.drew (HS.out.keep aT) O O P Q R aS al
      obtain⟨W,X⟩:=p
      obtain⟨q0,Y,q2⟩:=q
      clear d0 d1 d2 ak al
      go_wp2_with fail
      rename_i K4 aa
      refine A5 8 (fun c=>c.cell? ⟨F,0,none⟩=some (.pointer (some ⟨l,0,none⟩))∧c.cell? ⟨F,1,none⟩=some (.pointer (some ⟨t,0,none⟩))∧c.cell? ⟨g2,f+j*3,none⟩=some (I J P)∧c.cell? ⟨g2,f+j*3+1,none⟩=some (.string R)∧c.cell? ⟨g2,f+j*3+2,none⟩=some (I J Q)) U ⟨W,X,q0,Y,q2⟩ (fun hH=>?_)
      refine A2 0 ?_
      refine A2 1 ?_
      refine A2 2 ?_
      refine A2 3 ?_
      refine A2 4 ?_
      refine A2 5 ?_
      refine wpS 6 fun K hK=>?_
      go_simp
      go_at_call 13
      refine V.mono ?_
      rintro e n ⟨rfl,aA,aB,aC,aD,bF,bG,r,_⟩
      have p:=ax.out _ r.ix
      have q:=am.out _ r.bE
      have B:n.cell? ⟨F,0,none⟩=some (.pointer (some ⟨l,0,none⟩))∧n.cell? ⟨F,1,none⟩=some (.pointer (some ⟨t,0,none⟩))∧n.cell? ⟨g2,f+j*3,none⟩=some (I J P)∧n.cell? ⟨g2,f+j*3+1,none⟩=some (.string R)∧n.cell? ⟨g2,f+j*3+2,none⟩=some (I J Q):=⟨p.1,p.2,q⟩
      have ab:=hid r
      refine hK.out _ _ B ?_
      clear hK K hH
      have hH:=B
      clear B
      try simp only[Act.put,zA0,zZ0,zS0]
      refine A2 7 ?_
      refine J5 ?_
      refine aa _ _ ?_
      clear aa hH V r p q W X q0 Y q2
      have cL:=ab.out.looks O O
      go_wp2_with fail
      refine cL.mono ?_
      rintro e w9 ⟨rfl,ac⟩
      dsimp only
      have an:=hid ac
      clear cL ac
      go_wp2_with fail
      go_roundw
      case rel=>exact⟨j+1,aA,aB,aC,aD,O,rfl,Zn,O,O,ab.out.keep an.out⟩
      case measure=>simp[RowKit.intOf];omega
     ·have bL:¬(j:Int)<(x:Int):=O
      have bM:=hid HS.out.bE
      go_wp2
      go_ret
      exact⟨rfl,bM.out⟩
end
end Mn
end Go.Proofs.YtilcmkiihefkkaaGreatDoor
