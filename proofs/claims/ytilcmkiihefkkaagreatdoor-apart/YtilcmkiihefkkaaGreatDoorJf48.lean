import Derived.Test.YtilcmkiihefkkaaGreatDoorJf45
set_option linter.unusedVariables false
set_option linter.unusedSimpArgs false
set_option maxRecDepth 1000000
set_option maxHeartbeats 64000000
open Go.Value renaming int→I
open Go.IntKind renaming i64→J
namespace Go.Proofs.YtilcmkiihefkkaaGreatDoor
namespace Mn
section
open Go.RowKit Go.Shelf Go.Lib
attribute [local go_sem] C4
theorem B1l (R:List S2)(X k W sc base bS g o C m i r u p q:Nat)(rv mv:Value)(rn rb:ByteArray)(Ch:List (Int×Int))(sq oq:Int)(w:World)
 (hX:w.heap[X]?=some (.cells (ixC k W sc rv mv) 147 (0,0)))(hR:A3 w base 88 2 rv R.length (B4 R))(hi:i<R.length)(hC:A3 w bS 119 2 (.slice (some ⟨g,o,none⟩) m C) m (A9 Ch))(hm:Ch.length=m)(cx:0<m)(cy:m≤400)
 (bc:Ch.getD 0 (0,0)=((r:Int),(u:Int)))(bd:Ch.getD (m - 1) (0,0)=((p:Int),(q:Int)))(hk:k≤12)(cz:r<p+k)(cA:p+k≤rb.size)(cB:u≤q+k)(bT:q+k≤(R.getD i S0).b.size)(cD:rb.size≤100000)(bU:(R.getD i S0).b.size≤100000)
 (be:0≤oq)(bf:oq≤sq)(bg:0<sq)(bh:sq≤100000)(hg:good rb)(aG:1≤(R.getD i S0).n.size∧(R.getD i S0).n.size≤8000)(bV:R.length<100000)
 (bi:Lib.TabBelow Tryz.prog w.heap.size w "internal/strconv.uint64pow10" .u64 Lib.pow10Tab)(bj:LtP w) :
 Calls Tryz.prog 79 #[.pointer (some ⟨X,0,none⟩),.agg #[.string rn,.string rb],.agg #[I J i,.bool false,.slice (some ⟨g,o,none⟩) m C,.float .f64 (fq sq)],.float .f64 (fq oq)] w fun e w'=>
  FnP k rn rb (R.getD i S0).n (R.getD i S0).b false r u p q sq oq w e w':=by
 obtain⟨s,aH⟩:=nm (R.getD i S0)
 rw[←aH]at bT bU aG ⊢
 have bk:X<w.heap.size:=lt_of_block hX
 obtain⟨G,or,cr,bW,bl⟩:∃G or cr,rv=.slice (some ⟨G,or,none⟩) R.length cr∧G<w.heap.size:=by
  rcases hR.2 with ⟨_,h0⟩ | ⟨g',o',cap,cur,h,_,bX,_⟩
  ·omega
  ·exact⟨g',o',cap,h,lt_of_block bX⟩
 subst bW
 have aI:=hR.seqs i hi
 rw[show R[i]=s by rw[aH,C1 _ _ _ hi]]at aI
 have au:g<w.heap.size:=(hC.lt (g:=g) rfl).2
 have aJ:=hC.ans
 have ai:=aJ 0 O
 have ad:=aJ (m - 1) O
 rw[show Ch[0]'O=((r:Int),(u:Int)) by rw[←bc,C1 _ _ _ O]]at ai
 rw[show Ch[m - 1]'O=((p:Int),(q:Int)) by rw[←bd,C1 _ _ _ O]]at ad
 have HX:=hid hX
 have bm:=hid aI
 have bn:Hid (w.cell? ⟨g,o,none⟩=some (I J r)∧w.cell? ⟨g,o+1,none⟩=some (I J u)):=(by have h:=ai;simp only[Nat.zero_mul,Nat.add_zero]at h;exact h)
 have bo:=hid ad
 have bY:=hid bi
 have bZ:=hid bj
 have cE:=hid hg
 obtain⟨nR,bp⟩:=nm R.length
 rw[←bp]at hi bV HX
 have av:Hid ((0≤oq∧oq≤sq)∧0<sq∧sq≤100000):=⟨⟨be,bf⟩,bg,bh⟩
 clear hX hR aI hC aJ ai ad bc bd hm aH bi bj hg bp be bf bg bh
 go_enter Tryz.func79,Tryz.ntmps79
 go_wp2_with fail
 rename_i Q0 K0 bq
 obtain⟨D,ae⟩:=nm (((w.alloc (Obj.cells #[Value.string rn,Value.string rb] 88)).alloc (Obj.cells #[I J ↑i,Value.bool false,Value.slice (some {block:=g,off:=o}) m C,Value.float FloatKind.f64 (fq sq)] 180)).alloc (Obj.cells #[Value.string {data:=#[]},I J 0,I J 0,Value.bool false,Value.string {data:=#[]},I J 0,I J 0,Value.float FloatKind.f64 0,Value.float FloatKind.f64 0,I J 0,Value.string {data:=#[]},I J 0,Value.float FloatKind.f64 0] 71))
 rw[←ae]
 have aj:Below w.heap.size w D:=by rw[ae];exact (((Below.refl _ _).alloc (Nat.le_refl _) _).alloc Zs _).alloc Zo _
 have aK:D.heap.size=w.heap.size+3:=by rw[ae];simp
 have aL:D.heap[w.heap.size]?=some (.cells #[Value.string rn,Value.string rb] 88 (0,0)):=by
  rw[ae,Below.heap_alloc _ _ _ Zo,Below.heap_alloc _ _ _ Zs];exact heap_alloc_new w _
 have aw:D.heap[w.heap.size+1]?=some (.cells #[I J ↑i,Value.bool false,Value.slice (some {block:=g,off:=o}) m C,Value.float FloatKind.f64 (fq sq)] 180 (0,0)):=by
  rw[ae,Below.heap_alloc _ _ _ Zs]
  have:=heap_alloc_new (w.alloc (Obj.cells #[Value.string rn,Value.string rb] 88)) (Obj.cells #[I J ↑i,Value.bool false,Value.slice (some {block:=g,off:=o}) m C,Value.float FloatKind.f64 (fq sq)] 180)
  have e1:(w.alloc (Obj.cells #[Value.string rn,Value.string rb] 88)).heap.size=w.heap.size+1:=Zs
  rw[e1]at this;exact this
 have br:D.heap[w.heap.size+1+1]?=some (.cells #[Value.string {data:=#[]},I J 0,I J 0,Value.bool false,Value.string {data:=#[]},I J 0,I J 0,Value.float FloatKind.f64 0,Value.float FloatKind.f64 0,I J 0,Value.string {data:=#[]},I J 0,Value.float FloatKind.f64 0] 71 (0,0)):=by
  rw[ae]
  have:=heap_alloc_new ((w.alloc (Obj.cells #[Value.string rn,Value.string rb] 88)).alloc (Obj.cells #[I J ↑i,Value.bool false,Value.slice (some {block:=g,off:=o}) m C,Value.float FloatKind.f64 (fq sq)] 180)) (Obj.cells #[Value.string {data:=#[]},I J 0,I J 0,Value.bool false,Value.string {data:=#[]},I J 0,I J 0,Value.float FloatKind.f64 0,Value.float FloatKind.f64 0,I J 0,Value.string {data:=#[]},I J 0,Value.float FloatKind.f64 0] 71)
  have e1:((w.alloc (Obj.cells #[Value.string rn,Value.string rb] 88)).alloc (Obj.cells #[I J ↑i,Value.bool false,Value.slice (some {block:=g,off:=o}) m C,Value.float FloatKind.f64 (fq sq)] 180)).heap.size=w.heap.size+1+1:=Zs
  rw[e1]at this;exact this
 clear ae
 have cF:(i:Int)<(nR:Int):=O
 have ak:∀(c:World) (b off:Nat) (v:Value),(∀j,j<w.heap.size→c.heap[j]?=w.heap[j]?)→b<w.heap.size→w.cell? ⟨b,off,none⟩=some v→c.cell? ⟨b,off,none⟩=some v:=fun c b off v h hb hv=>(World.cell?_of_block (h b hb)).trans hv
 have g1:∀c:World,(∀j,j<w.heap.size+3→c.heap[j]?=D.heap[j]?)→c.cell? ⟨X,3,none⟩=some (.slice (some ⟨G,or,none⟩) nR cr)∧c.cell? ⟨w.heap.size+1,0,none⟩=some (I J i)∧c.cell? ⟨G,or+i*2,none⟩=some (.string s.n)∧c.cell? ⟨G,or+i*2+1,none⟩=some (.string s.b)∧c.cell? ⟨w.heap.size,1,none⟩=some (.string rb):=by
  intro c H
  have S:∀j,j<w.heap.size→c.heap[j]?=w.heap[j]?:=fun j l=>(H j O).trans (aj.block j l)
  exact⟨A1 ((S X bk).trans HX.out) rfl,A1 ((H _ O).trans aw) rfl,ak c _ _ _ S bl bm.out.1,ak c _ _ _ S bl bm.out.2,A1 ((H _ O).trans aL) rfl⟩
 refine A5 14 (fun c=>c.cell? ⟨X,3,none⟩=some (.slice (some ⟨G,or,none⟩) nR cr)∧c.cell? ⟨w.heap.size+1,0,none⟩=some (I J i)∧c.cell? ⟨G,or+i*2,none⟩=some (.string s.n)∧c.cell? ⟨G,or+i*2+1,none⟩=some (.string s.b)∧c.cell? ⟨w.heap.size,1,none⟩=some (.string rb)) U (g1 D.drew (fun _ _=>rfl)) (fun hH=>?_)
 refine A2 0 ?_
 refine A2 1 ?_
 refine A2 2 ?_
 refine A2 3 ?_
 refine A2 4 ?_
 refine A2 5 ?_
 refine A2 6 ?_
 refine A2 7 ?_
 refine A2 8 ?_
 refine A2 9 ?_
 refine A2 10 ?_
 refine wpS 11 fun K f=>?_
 go_simp
 refine E0 f (g1 _ (fun j l=>Below.heap_alloc D.drew _ j (by show j<D.heap.size;omega))) ?_
 clear f K hH
 refine wpS 12 fun K f=>?_
 go_simp
 obtain⟨Q,T⟩:=nm ((D.alloc (Obj.cells #[Value.string s.n,Value.string s.b] 88)).drew)
 rw[←T]
 have V:∀j,j<w.heap.size+3→Q.heap[j]?=D.heap[j]?:=fun j l=>by rw[T];exact Below.heap_alloc D _ j O
 have bt:Q.heap[w.heap.size+3]?=some (.cells #[Value.string s.n,Value.string s.b] 88 (0,0)):=by rw[T,←aK];exact heap_alloc_new D _
 have ca:Q.heap.size=w.heap.size+4:=by rw[T];show (D.alloc _).heap.size=_;simp[aK]
 have L:Below w.heap.size w Q:=by
  refine⟨?_,?_,?_,O,fun j l=>(V j O).trans (aj.block j l)⟩
  ·rw[T];exact aj.os
  ·rw[T];exact aj.tape
  ·rw[T];exact aj.output
 refine f.out _ _ (g1 Q (fun j l=>V j l)) ?_
 clear f K
 have hH:=g1 Q (fun j l=>V j l)
 try simp only[Act.put,zA0,zZ0,zS0]
 refine A2 13 ?_
 refine J5 ?_
 refine bq _ _ ?_
 clear bq hH g1 T
 have q1:Q.cell? ⟨w.heap.size+1,1,none⟩=some (.bool false):=A1 ((V _ O).trans aw) rfl
 go_wp2_with fail
 rename_i K1 bu
 obtain⟨d,an⟩:=nm Q
 rw[←an]at L
 have ao:∀j,j<w.heap.size+4→d.heap[j]?=Q.heap[j]?:=fun j _=>by rw[an]
 have cb:w.heap.size+4≤d.heap.size:=by rw[an];omega
 rw[←an]
 clear an
 have ad:d.heap[w.heap.size+1]?=some (.cells #[I J ↑i,Value.bool false,Value.slice (some {block:=g,off:=o}) m C,Value.float FloatKind.f64 (fq sq)] 180 (0,0)):=(ao _ O).trans ((V _ O).trans aw)
 have ai:d.heap[w.heap.size]?=some (.cells #[Value.string rn,Value.string rb] 88 (0,0)):=(ao _ O).trans ((V _ O).trans aL)
 have bv:=(ao (w.heap.size+1+1) O).trans ((V _ O).trans br)
 have bw:d.heap[w.heap.size+3]?=some (.cells #[Value.string s.n,Value.string s.b] 88 (0,0)):=(ao _ O).trans bt
 clear ao V aL aw br bt aj aK ca q1
 clear Q D
 have cc:IntKind.i64.wrap ((m:Int) - 1)=((m - 1:Nat):Int):=Zw
 have cd:((m - 1:Nat):Int)<(m:Int):=O
 have ce:(0:Int)<(m:Int):=O
 have g4:∀c:World,(∀j,j<d.heap.size→c.heap[j]?=d.heap[j]?)→c.cell? ⟨w.heap.size+1,2,none⟩=some (.slice (some ⟨g,o,none⟩) m C)∧c.cell? ⟨g,o,none⟩=some (I J r)∧c.cell? ⟨g,o+1,none⟩=some (I J u)∧c.cell? ⟨g,o+(m - 1)*2,none⟩=some (I J p)∧c.cell? ⟨g,o+(m - 1)*2+1,none⟩=some (I J q):=by
  intro c H
  have S:∀j,j<w.heap.size→c.heap[j]?=w.heap[j]?:=fun j l=>(H j O).trans (L.block j l)
  exact⟨A1 ((H _ O).trans ad) rfl,ak c _ _ _ S au bn.out.1,ak c _ _ _ S au bn.out.2,ak c _ _ _ S au bo.out.1,ak c _ _ _ S au bo.out.2⟩
 have tail:∀(b0 b1:Nat) (x:World),(∀j,j<d.heap.size→x.heap[j]?=d.heap[j]?)→x.heap[b0]?=some (.cells #[I J ↑r,I J ↑u] 119 (0,0))→x.heap[b1]?=some (.cells #[I J ↑p,I J ↑q] 119 (0,0))→d.heap.size≤x.heap.size→Below w.heap.size w x→K1 {tmps:=#[Value.pointer (some {block:=X,off:=0}),Value.agg #[Value.string rn,Value.string rb],Value.agg #[I J ↑i,Value.bool false,Value.slice (some {block:=g,off:=o}) m C,Value.float FloatKind.f64 (fq sq)],Value.float FloatKind.f64 (fq oq),undef,Value.pointer (some {block:=w.heap.size,off:=0}),Value.pointer (some {block:=w.heap.size+1,off:=0}),undef,Value.pointer (some {block:=w.heap.size+1+1,off:=0}),Value.bool false,Value.pointer (some {block:=w.heap.size+3,off:=0}),Value.string rb,Value.pointer (some {block:=b0,off:=0}),Value.pointer (some {block:=b1,off:=0}),undef,undef,undef,undef,undef,undef,undef,Value.pointer (some {block:=X,off:=0}),Value.pointer (some {block:=X,off:=0}),Value.pointer (some {block:=X,off:=3}),Value.slice (some {block:=G,off:=or}) nR cr,Value.pointer (some {block:=w.heap.size+1,off:=0}),Value.pointer (some {block:=w.heap.size+1,off:=0}),I J ↑i,Value.pointer (some {block:=G,off:=or+i*2}),Value.agg #[Value.string s.n,Value.string s.b],Value.pointer (some {block:=w.heap.size,off:=1}),Value.string rb,Value.pointer (some {block:=w.heap.size+1,off:=0}),Value.pointer (some {block:=w.heap.size+1,off:=1}),Value.bool false,undef,undef,undef,undef,undef,Value.pointer (some {block:=w.heap.size+1,off:=2}),Value.slice (some {block:=g,off:=o}) m C,Value.pointer (some {block:=g,off:=o}),Value.agg #[I J ↑r,I J ↑u],Value.pointer (some {block:=w.heap.size+1,off:=2}),Value.slice (some {block:=g,off:=o}) m C,Value.pointer (some {block:=w.heap.size+1,off:=2}),Value.slice (some {block:=g,off:=o}) m C,I J ↑m,I J ↑(m - 1),Value.pointer (some {block:=g,off:=o+(m - 1)*2}),Value.agg #[I J ↑p,I J ↑q],undef,undef,undef,undef,undef,undef,undef,undef,undef,undef,undef,undef,undef,undef,undef,undef,undef,undef,undef,undef,undef,undef,undef,undef,undef,undef,undef,undef,undef,undef,undef,undef,undef,undef,undef,undef,undef,undef,undef,undef,undef,undef,undef,undef,undef,undef,undef,undef,undef,undef,undef,undef,undef,undef,undef,undef,undef,undef,undef,undef,undef,undef,undef,undef,undef,undef,undef,undef,undef,undef,undef,undef,undef,undef,undef,undef],defers:=[]} x:=by
  intro b0 b1 x M af ag aM N
  clear g4
  refine bu _ _ ?_
  clear bu
  have aN:x.heap[X]?=_:=(N.block X bk).trans HX.out
  go_wp2_with fail
  rename_i K2 bx
  have cf:IntKind.i64.wrap ((p:Int)+k)=(p:Int)+k:=Zw
  have cg:IntKind.i64.wrap ((q:Int)+k)=(q:Int)+k:=Zw
  refine A5 12 (fun c=>c.cell? ⟨b0,0,none⟩=some (I J r)∧c.cell? ⟨b1,0,none⟩=some (I J p)∧c.cell? ⟨X,0,none⟩=some (I J k)) U ⟨A1 af rfl,A1 ag rfl,A1 aN rfl⟩ (fun hH=>?_)
  refine A2 0 ?_
  refine A2 1 ?_
  refine A2 2 ?_
  refine A2 3 ?_
  refine A2 4 ?_
  refine A2 5 ?_
  refine A2 6 ?_
  refine A2 7 ?_
  refine A2 8 ?_
  refine A2 9 ?_
  refine A2 10 ?_
  refine A2 11 ?_
  refine J5 ?_
  refine bx _ _ ?_
  clear bx hH
  go_wp2_with fail
  rename_i K3 bz
  refine A5 12 (fun c=>c.cell? ⟨b0,1,none⟩=some (I J u)∧c.cell? ⟨b1,1,none⟩=some (I J q)∧c.cell? ⟨X,0,none⟩=some (I J k)) U ⟨A1 af rfl,A1 ag rfl,A1 aN rfl⟩ (fun hH=>?_)
  refine A2 0 ?_
  refine A2 1 ?_
  refine A2 2 ?_
  refine A2 3 ?_
  refine A2 4 ?_
  refine A2 5 ?_
  refine A2 6 ?_
  refine A2 7 ?_
  refine A2 8 ?_
  refine A2 9 ?_
  refine A2 10 ?_
  refine A2 11 ?_
  refine J5 ?_
  refine bz _ _ ?_
  clear bz hH
  obtain⟨E,Y⟩:=nm x.drew.drew
  rw[←Y]
  have ax:E.heap[w.heap.size+3]?=some (.cells #[Value.string s.n,Value.string s.b] 88 (0,0)):=by rw[Y];exact (M _ O).trans bw
  have bA:E.heap[w.heap.size+1]?=some (.cells #[I J ↑i,Value.bool false,Value.slice (some {block:=g,off:=o}) m C,Value.float FloatKind.f64 (fq sq)] 180 (0,0)):=by rw[Y];exact (M _ O).trans ad
  have bB:E.heap[w.heap.size]?=some (.cells #[Value.string rn,Value.string rb] 88 (0,0)):=by rw[Y];exact (M _ O).trans ai
  have bC:=(show E.heap[w.heap.size+1+1]?=x.heap[w.heap.size+1+1]? by rw[Y];rfl).trans ((M _ O).trans bv)
  have ah:Below w.heap.size w E:=by rw[Y];exact⟨N.os,N.tape,N.output,N.size,N.block⟩
  have ch:w.heap.size+4≤E.heap.size:=by rw[Y];show _≤x.heap.size;omega
  clear Y N aM af ag M aN L cb ai ad bv bw cf cg cc cd ce
  obtain⟨bs,aO⟩:=nm (rb:ByteArray)
  have ay:Hid (M7 false rb=bs):=by show M7 false rb=bs;rw[aO];(try rfl)
  have bD:bs.size=rb.size:=by rw[←ay.out];exact N0 _ _
  rw[←aO]
  clear aO
  have i1:(r:Int)≤(p:Int)+k:=O
  have i2:(p:Int)+k≤bs.size:=O
  have i3:(u:Int)≤(q:Int)+k:=O
  have i4:(q:Int)+k≤s.b.size:=O
  have i7:(0:Int)≤(p:Int)+k:=O
  have i8:(0:Int)≤(q:Int)+k:=O
  have t1:((p:Int)+k).toNat=p+k:=O
  have t2:((q:Int)+k).toNat=q+k:=O
  have aP:=hid bD
  clear bD
  go_wp2_with fail
  rename_i K4 bE
  refine A5 17 (fun c=>c.cell? ⟨w.heap.size+3,1,none⟩=some (.string s.b)) U (A1 ax rfl) (fun hH=>?_)
  refine A2 0 ?_
  refine A2 1 ?_
  refine A2 2 ?_
  refine A2 3 ?_
  refine A2 4 ?_
  refine A2 5 ?_
  refine A2 6 ?_
  refine A2 7 ?_
  refine A2 8 ?_
  have az:=A2p (bs.extract r (p+k)) (s.b.extract u (q+k)) E.drew (by have:=ByteArray.size_extract (a:=bs) (b:=r) (e:=p+k);have:=aP.out;omega) (by have:=ByteArray.size_extract (a:=s.b) (b:=u) (e:=q+k);omega) (A3h bY.out ⟨ah.os,ah.tape,ah.output,ah.size,ah.block⟩)
  have ap:Hid (scE (bs.extract r (p+k)).data.toList (s.b.extract u (q+k)).data.toList=fnE k rb s.b false r u p q):=by show _=fnE _ _ _ _ _ _ _ _;unfold fnE;rw[ay.out]
  obtain⟨la,aQ⟩:=nm ((bs.extract r (p+k)).data.toList)
  obtain⟨F,aR⟩:=nm ((s.b.extract u (q+k)).data.toList)
  rw[←aQ,←aR]at az ap
  have aS:Hid (la=((M7 false rb).extract r (p+k)).data.toList):=by show _=_;rw[ay.out];exact aQ
  have bF:=hid aR
  clear aQ aR
  obtain⟨se,aA⟩:=nm (scE la F)
  obtain⟨sn,aT⟩:=nm (scN la F)
  obtain⟨stx,al⟩:=nm (⟨(scT la F).toArray⟩:ByteArray)
  rw[←aA,←aT,←al]at az
  rw[←aA]at ap
  have bG:=hid aA
  have aB:=hid aT
  have aU:=hid al
  clear aA aT al
  refine wpS 9 fun K f=>?_
  go_simp
  go_at_call 55
  refine az.mono ?_
  rintro e z ⟨rfl,aa⟩
  have am:∀j,j<w.heap.size+4→z.heap[j]?=E.heap[j]?:=fun j l=>aa.block j (by show j<E.heap.size;omega)
  have bH:Below w.heap.size w z:=ah.trans ((show Below E.heap.size E z from ⟨aa.os,aa.tape,aa.output,aa.size,aa.block⟩).mono O)
  have cG:w.heap.size+4≤z.heap.size:=by have:=aa.size;have h2:E.drew.heap.size=E.heap.size:=rfl;omega
  have hH:z.cell? ⟨w.heap.size+3,1,none⟩=some (.string s.b):=A1 ((am _ O).trans ax) rfl
  refine E0 f hH ?_
  clear f K aa az
  refine A2 10 ?_
  refine A2 11 ?_
  refine A2 12 ?_
  refine A2 13 ?_
  refine A2 14 ?_
  refine A2 15 ?_
  refine A2 16 ?_
  refine J5 ?_
  refine bE _ _ ?_
  clear bE hH i1 i2 i3 i4 i7 i8 t1 t2
  have ci:=(am (w.heap.size+3) O).trans ax
  have aC:=(am (w.heap.size+1) O).trans bA
  have cj:=(am w.heap.size O).trans bB
  have A:=(am (w.heap.size+1+1) O).trans bC
  clear am bB bA bC ax ah ch
  have vz:∀off,z.frozen? ⟨w.heap.size+1+1,off,none⟩=false:=fun off=>frozen_of_row _ _ _ _ _ A
  have q1:z.cell? ⟨w.heap.size+1,1,none⟩=some (.bool false):=A1 aC rfl
  by_cases hz:se=0
  ·subst hz
   have aV:scE la F=0:=bG.out.symm
   obtain⟨o1,o2,o3,o4⟩:=A7t la F aV
   obtain⟨l1,l2,l3,l4,l5⟩:=A1F la F aV
   have ck:0<la.length:=by
    rw[aS.out]
    have:=ByteArray.size_extract (a:=M7 false rb) (b:=r) (e:=p+k)
    have e1:((M7 false rb).extract r (p+k)).data.toList.length=((M7 false rb).extract r (p+k)).size:=Array.length_toList
    have:=N0 false rb
    omega
   obtain⟨P,aD⟩:=nm (X4 la F)
   have cl:sn≤P:=by rw[aD,aB.out];exact l3
   have cm:0<P:=O
   have cH:P≤900:=O
   have cI:(1048576:Nat)≤2^50:=Z
   have fs:floatOfInt .f64 (sn:Int)=fq (4*(sn:Int)):=I8 sn O
   have fl:floatOfInt .f64 (P:Int)=fq (4*(P:Int)):=I8 P O
   have bI:∀c t,(binOp .quo t (.float .f64 (fq (4*(sn:Int)))) (.float .f64 (fq (4*(P:Int))))).run Tryz.prog c=.ok (.float .f64 (shr sn P)) c:=fun c t=>run_float_arith c .quo t .f64 _ _ _ (A0S sn P cl cm O).1
   have cQ:=fun c=>A2q sq oq c av.out.1.1 av.out.1.2 av.out.2.1 av.out.2.2
   have al:stx=⟨(G1 (A1W la F)).toArray⟩:=by rw[aU.out,o1]
   have cL:∀c,LtP c→Calls Tryz.prog 109 #[.string stx] c fun e w'=>e=.returned (I J (P:Nat))∧Below c.heap.size c w':=by
    intro c cn
    rw[al,aD,←A5D la F]
    exact A1y (A1W la F) o2 o3 o4 c cn
   have cC:=fun c=>A09 s.n c aG.1 aG.2
   obtain⟨dv,aW⟩:=nm (shr sn P)
   rw[←aW]at bI
   have bJ:Hid (dv=shr (scN la F) (X4 la F)):=by show _=_;rw[aW,aB.out,aD]
   obtain⟨qv,aX⟩:=nm (Y1 sq oq)
   rw[←aX]at cQ
   have bK:=hid aX
   obtain⟨aE,aq⟩:=nm (fq sq)
   obtain⟨bL,aF⟩:=nm (fq oq)
   rw[←aq,←aF]at cQ
   rw[←aq]at aC
   have bM:=hid aq
   have bN:=hid aF
   rw[←aq,←aF]
   clear aq aF aX aW al aD o1 o2 o3 o4 l1 l2 l3 l4 l5 aV ck
   go_wp2_with fail
   rename_i K5 bO
   have g12:∀c:World,(∀j,j<w.heap.size+4→j≠w.heap.size+1+1→c.heap[j]?=z.heap[j]?)→c.cell? ⟨w.heap.size,0,none⟩=some (.string rn)∧c.cell? ⟨w.heap.size+1,1,none⟩=some (.bool false)∧c.cell? ⟨w.heap.size+3,0,none⟩=some (.string s.n)∧c.cell? ⟨w.heap.size+1,3,none⟩=some (.float .f64 aE):=by
    intro c H
    exact⟨A1 ((H _ O O).trans cj) rfl,A1 ((H _ O O).trans aC) rfl,A1 ((H _ O O).trans ci) rfl,A1 ((H _ O O).trans aC) rfl⟩
   refine A5 30 (fun c=>c.cell? ⟨w.heap.size,0,none⟩=some (.string rn)∧c.cell? ⟨w.heap.size+1,1,none⟩=some (.bool false)∧c.cell? ⟨w.heap.size+3,0,none⟩=some (.string s.n)∧c.cell? ⟨w.heap.size+1,3,none⟩=some (.float .f64 aE)) U (g12 z.drew (fun _ _ _=>rfl)) (fun hH=>?_)
   refine A2 0 ?_
   refine A2 1 ?_
   refine A2 2 ?_
   refine A2 3 ?_
   refine A2 4 ?_
   refine A2 5 ?_
   refine A2 6 ?_
   refine A2 7 ?_
   refine A2 8 ?_
   refine A2 10 ?_
   refine A2 11 ?_
   refine A2 12 ?_
   refine A2 13 ?_
   refine A2 14 ?_
   refine A2 15 ?_
   refine A2 16 ?_
   refine A2 17 ?_
   refine A2 19 ?_
   refine A2 20 ?_
   refine A2 21 ?_
   refine A2 22 ?_
   refine A2 23 ?_
   refine wpS 9 fun K f=>?_
   go_simp
   go_at_call 107
   refine (cC _).mono ?_
   rintro e wG ⟨rfl,ab⟩
   have aY:∀j,j<w.heap.size+4→wG.heap[j]?=z.heap[j]?:=fun j l=>ab.block j (by show j<z.heap.size;omega)
   have bP:Below w.heap.size w wG:=bH.trans ((show Below z.heap.size z wG from ⟨ab.os,ab.tape,ab.output,ab.size,ab.block⟩).mono O)
   have cJ:w.heap.size+4≤wG.heap.size:=by have:=ab.size;have h2:z.drew.heap.size=z.heap.size:=rfl;omega
   have hH:=g12 wG (fun j l _=>aY j l)
   refine E0 f hH ?_
   clear f K ab cC
   refine wpS 18 fun K f=>?_
   go_simp
   go_at_call 108
   refine (cQ _).mono ?_
   rintro e cK ⟨rfl,rfl⟩
   refine E0 f hH ?_
   clear f K cQ
   refine wpS 24 fun K f=>?_
   go_simp
   go_at_call 109
   refine (cL _ (bZ.out.below bP)).mono ?_
   rintro e wI ⟨rfl,aZ⟩
   have ar:∀j,j<w.heap.size+4→wI.heap[j]?=z.heap[j]?:=fun j l=>(aZ.block j O).trans (aY j l)
   have co:Below w.heap.size w wI:=bP.trans (aZ.mono O)
   have hH:=g12 wI (fun j l _=>ar j l)
   refine E0 f hH ?_
   clear f K cL aZ
   refine A2 25 ?_
   refine A2 26 ?_
   refine A2 27 ?_
   have B:=(ar (w.heap.size+1+1) O).trans A
   have vI:∀off,wI.frozen? ⟨w.heap.size+1+1,off,none⟩=false:=fun off=>frozen_of_row _ _ _ _ _ B
   have v0:=A1 B (i:=0) rfl
   have v1:=A1 B (i:=1) rfl
   have v2:=A1 B (i:=2) rfl
   have v3:=A1 B (i:=3) rfl
   have v4:=A1 B (i:=4) rfl
   have v5:=A1 B (i:=5) rfl
   have v6:=A1 B (i:=6) rfl
   have v7:=A1 B (i:=7) rfl
   have v8:=A1 B (i:=8) rfl
   have v9:=A1 B (i:=9) rfl
   have v10:=A1 B (i:=10) rfl
   have v11:=A1 B (i:=11) rfl
   have v12:=A1 B (i:=12) rfl
   refine wpS 28 fun K f=>?_
   go_simp
   have ac:=R7 (.string rn) (I J (r)) (I J ((p:Int)+k)) (.bool false) (.string s.n) (I J u) (I J ((q:Int)+k)) (.float .f64 aE) (.float .f64 bL) (I J qv) (.string stx) (I J sn) (.float .f64 dv) B
   refine f.out _ _ (g12 _ (fun j l ba=>(ac.other j ba).trans (ar j l))) ?_
   clear f K hH
   have hH:=g12 _ (fun j l ba=>(ac.other j ba).trans (ar j l))
   try simp only[Act.put,zA0,zZ0,zS0]
   refine A2 29 ?_
   refine J5 ?_
   refine bO _ _ ?_
   clear bO hH
   go_wp2_with fail
   refine bodyPost_ret (C2 rfl _ _ (w.heap.size+1+1) 71 _ _ _ rfl ac.here Tryz.underlying71 rfl U) rfl ?_
   refine⟨?_,co.trans (ac.below O)⟩
   rw[if_pos ap.out.symm]
   show Ending.returned (.tuple #[.agg (List.toArray [.string rn,I J (r),I J ((p:Int)+k),.bool false,.string s.n,I J u,I J ((q:Int)+k),.float .f64 aE,.float .f64 bL,I J qv,.string stx,I J sn,.float .f64 dv]),.bool true])=_
   rw[B2B k rn rb s.n s.b r u p q sq oq la F aS.out bF.out]
   have cq:=bM.out
   have cs:=bN.out
   have ct:=bK.out
   have cu:=aU.out
   have cv:=bJ.out
   have cw:=aB.out
   have cM:=aP.out
   clear bM bN bK aU bJ aB aP aS bF ay ap bG ac v0 v1 v2 v3 v4 v5 v6 v7 v8 v9 v10 v11 v12 vI B bI fs fl g12 ar aY
   rw[cq,cs,ct,cu,cv,cw]
  ·have cN:¬(se:Int)=0:=O
   have v0:=A1 A (i:=0) rfl
   have v1:=A1 A (i:=1) rfl
   have v2:=A1 A (i:=2) rfl
   have v3:=A1 A (i:=3) rfl
   have v4:=A1 A (i:=4) rfl
   have v5:=A1 A (i:=5) rfl
   have v6:=A1 A (i:=6) rfl
   have v7:=A1 A (i:=7) rfl
   have v8:=A1 A (i:=8) rfl
   have v9:=A1 A (i:=9) rfl
   have v10:=A1 A (i:=10) rfl
   have v11:=A1 A (i:=11) rfl
   have v12:=A1 A (i:=12) rfl
   go_wp2_with fail
   have ac:=R7 (.string ⟨#[]⟩) (I J 0) (I J 0) (.bool false) (.string ⟨#[]⟩) (I J 0) (I J 0) (.float .f64 0) (.float .f64 0) (I J 0) (.string ⟨#[]⟩) (I J 0) (.float .f64 0) A
   refine bodyPost_ret (C2 rfl _ _ (w.heap.size+1+1) 71 _ _ _ rfl ac.here Tryz.underlying71 rfl U) rfl ?_
   refine⟨?_,bH.trans (ac.below O)⟩
   rw[if_neg (by rw[←ap.out];exact hz)]
   rfl
 refine A5 15 (fun c=>c.cell? ⟨w.heap.size+1,2,none⟩=some (.slice (some ⟨g,o,none⟩) m C)∧c.cell? ⟨g,o,none⟩=some (I J r)∧c.cell? ⟨g,o+1,none⟩=some (I J u)∧c.cell? ⟨g,o+(m - 1)*2,none⟩=some (I J p)∧c.cell? ⟨g,o+(m - 1)*2+1,none⟩=some (I J q)) U (g4 d.drew (fun _ _=>rfl)) (fun hH=>?_)
 refine A2 0 ?_
 refine A2 1 ?_
 refine A2 2 ?_
 refine A2 3 ?_
 refine A2 4 ?_
 refine A2 5 ?_
 refine A2 6 ?_
 refine A2 7 ?_
 refine A2 8 ?_
 refine A2 9 ?_
 refine A2 10 ?_
 refine A2 11 ?_
 have bb:∀(ob:Obj) j,j<d.heap.size→(d.drew.alloc ob).heap[j]?=d.heap[j]?:=fun ob j l=>Below.heap_alloc d.drew ob j l
 have bQ:∀(ob oc:Obj) j,j<d.heap.size→((d.drew.alloc ob).alloc oc).heap[j]?=d.heap[j]?:=fun ob oc j l=>(Below.heap_alloc _ oc j (by simp;show j<d.heap.size+1;omega)).trans (bb ob j l)
 have bR:∀(ob oc:Obj) j,j<d.heap.size→((d.alloc ob).alloc oc).drew.heap[j]?=d.heap[j]?:=fun ob oc j l=>(Below.heap_alloc _ oc j Zo).trans (Below.heap_alloc d ob j l)
 refine J6 (i:=12) (j:=13) U rfl rfl U U (fun K f=>?_) (fun K f=>?_)
 ·go_simp
  refine E0 f (g4 _ (bb _)) ?_
  clear f K hH
  refine wpS 13 fun K f=>?_
  go_simp
  refine E0 f (g4 _ (bQ _ _)) ?_
  clear f K
  refine wpS 14 fun K f=>?_
  go_simp
  refine E0 f (g4 _ (bR _ _)) ?_
  clear f K
  refine B6 (i:=15) U rfl U U (fun K f=>?_)
  go_simp
  refine f.out _ _ ?_
  clear f K
  obtain⟨x,y⟩:=nm (((d.alloc (Obj.cells #[I J ↑r,I J ↑u] 119)).alloc (Obj.cells #[I J ↑p,I J ↑q] 119)).drew)
  have M:∀j,j<d.heap.size→x.heap[j]?=d.heap[j]?:=fun j l=>by rw[y];exact (Below.heap_alloc _ _ j Zo).trans (Below.heap_alloc d _ j l)
  have af:x.heap[d.heap.size]?=some (.cells #[I J ↑r,I J ↑u] 119 (0,0)):=by rw[y];exact (Below.heap_alloc _ _ _ Zs).trans (heap_alloc_new d _)
  have ag:x.heap[d.heap.size+1]?=some (.cells #[I J ↑p,I J ↑q] 119 (0,0)):=by
   have:=heap_alloc_new (d.alloc (Obj.cells #[I J ↑r,I J ↑u] 119)) (Obj.cells #[I J ↑p,I J ↑q] 119)
   have e1:(d.alloc (Obj.cells #[I J ↑r,I J ↑u] 119)).heap.size=d.heap.size+1:=Zs
   rw[e1]at this
   rw[y];exact this
  have aM:x.heap.size=d.heap.size+2:=by rw[y];show ((d.alloc _).alloc _).heap.size=_;simp
  have N:Below w.heap.size w x:=by
   refine⟨?_,?_,?_,O,fun j l=>(M j O).trans (L.block j l)⟩
   ·rw[y];exact L.os
   ·rw[y];exact L.tape
   ·rw[y];exact L.output
  have h1:=tail d.heap.size (d.heap.size+1) x M af ag O N
  rw[y]at h1
  exact h1
 ·go_simp
  refine E0 f (g4 _ (bb _)) ?_
  clear f K hH
  refine wpS 12 fun K f=>?_
  go_simp
  refine E0 f (g4 _ (bQ _ _)) ?_
  clear f K
  refine wpS 14 fun K f=>?_
  go_simp
  refine E0 f (g4 _ (bR _ _)) ?_
  clear f K
  refine B6 (i:=15) U rfl U U (fun K f=>?_)
  go_simp
  refine f.out _ _ ?_
  clear f K
  obtain⟨x,y⟩:=nm (((d.alloc (Obj.cells #[I J ↑p,I J ↑q] 119)).alloc (Obj.cells #[I J ↑r,I J ↑u] 119)).drew)
  have M:∀j,j<d.heap.size→x.heap[j]?=d.heap[j]?:=fun j l=>by rw[y];exact (Below.heap_alloc _ _ j Zo).trans (Below.heap_alloc d _ j l)
  have af:x.heap[d.heap.size]?=some (.cells #[I J ↑p,I J ↑q] 119 (0,0)):=by rw[y];exact (Below.heap_alloc _ _ _ Zs).trans (heap_alloc_new d _)
  have ag:x.heap[d.heap.size+1]?=some (.cells #[I J ↑r,I J ↑u] 119 (0,0)):=by
   have:=heap_alloc_new (d.alloc (Obj.cells #[I J ↑p,I J ↑q] 119)) (Obj.cells #[I J ↑r,I J ↑u] 119)
   have e1:(d.alloc (Obj.cells #[I J ↑p,I J ↑q] 119)).heap.size=d.heap.size+1:=Zs
   rw[e1]at this
   rw[y];exact this
  have aM:x.heap.size=d.heap.size+2:=by rw[y];show ((d.alloc _).alloc _).heap.size=_;simp
  have N:Below w.heap.size w x:=by
   refine⟨?_,?_,?_,O,fun j l=>(M j O).trans (L.block j l)⟩
   ·rw[y];exact L.os
   ·rw[y];exact L.tape
   ·rw[y];exact L.output
  have h1:=tail (d.heap.size+1) d.heap.size x M ag af O N
  rw[y]at h1
  exact h1
theorem B1p (R:List S2)(X k W sc base bT g o D m i q u l r:Nat)(rv mv:Value)(rn rb:ByteArray)(Ch:List (Int×Int))(sq oq:Int)(w:World)
 (hX:w.heap[X]?=some (.cells (ixC k W sc rv mv) 147 (0,0)))(hR:A3 w base 88 2 rv R.length (B4 R))(hi:i<R.length)(hC:A3 w bT 119 2 (.slice (some ⟨g,o,none⟩) m D) m (A9 Ch))(hm:Ch.length=m)(cB:0<m)(cD:m≤400)
 (bd:Ch.getD 0 (0,0)=((q:Int),(u:Int)))(be:Ch.getD (m - 1) (0,0)=((l:Int),(r:Int)))(hk:k≤12)(cE:q<l+k)(cF:l+k≤rb.size)(cG:u≤r+k)(bU:r+k≤(R.getD i S0).b.size)(cH:rb.size≤100000)(bV:(R.getD i S0).b.size≤100000)
 (bf:0≤oq)(bg:oq≤sq)(bh:0<sq)(bi:sq≤100000)(hg:good rb)(aI:1≤(R.getD i S0).n.size∧(R.getD i S0).n.size≤8000)(bW:R.length<100000)
 (bj:Lib.TabBelow Tryz.prog w.heap.size w "internal/strconv.uint64pow10" .u64 Lib.pow10Tab)(bk:LtP w) :
 Calls Tryz.prog 79 #[.pointer (some ⟨X,0,none⟩),.agg #[.string rn,.string rb],.agg #[I J i,.bool true,.slice (some ⟨g,o,none⟩) m D,.float .f64 (fq sq)],.float .f64 (fq oq)] w fun e w'=>
  FnP k rn rb (R.getD i S0).n (R.getD i S0).b true q u l r sq oq w e w':=by
 obtain⟨s,aJ⟩:=nm (R.getD i S0)
 rw[←aJ]at bU bV aI ⊢
 have bl:X<w.heap.size:=lt_of_block hX
 obtain⟨L,or,cr,bX,bm⟩:∃L or cr,rv=.slice (some ⟨L,or,none⟩) R.length cr∧L<w.heap.size:=by
  rcases hR.2 with ⟨_,h0⟩ | ⟨g',o',cap,cur,h,_,bY,_⟩
  ·omega
  ·exact⟨g',o',cap,h,lt_of_block bY⟩
 subst bX
 have aK:=hR.seqs i hi
 rw[show R[i]=s by rw[aJ,C1 _ _ _ hi]]at aK
 have av:g<w.heap.size:=(hC.lt (g:=g) rfl).2
 have aL:=hC.ans
 have aj:=aL 0 O
 have ae:=aL (m - 1) O
 rw[show Ch[0]'O=((q:Int),(u:Int)) by rw[←bd,C1 _ _ _ O]]at aj
 rw[show Ch[m - 1]'O=((l:Int),(r:Int)) by rw[←be,C1 _ _ _ O]]at ae
 have HX:=hid hX
 have bn:=hid aK
 have bo:Hid (w.cell? ⟨g,o,none⟩=some (I J q)∧w.cell? ⟨g,o+1,none⟩=some (I J u)):=(by have h:=aj;simp only[Nat.zero_mul,Nat.add_zero]at h;exact h)
 have bp:=hid ae
 have bZ:=hid bj
 have ca:=hid bk
 have cb:=hid hg
 obtain⟨nR,bq⟩:=nm R.length
 rw[←bq]at hi bW HX
 have aw:Hid ((0≤oq∧oq≤sq)∧0<sq∧sq≤100000):=⟨⟨bf,bg⟩,bh,bi⟩
 clear hX hR aK hC aL aj ae bd be hm aJ bj bk hg bq bf bg bh bi
 go_enter Tryz.func79,Tryz.ntmps79
 go_wp2_with fail
 rename_i Q0 K0 br
 obtain⟨E,af⟩:=nm (((w.alloc (Obj.cells #[Value.string rn,Value.string rb] 88)).alloc (Obj.cells #[I J ↑i,Value.bool true,Value.slice (some {block:=g,off:=o}) m D,Value.float FloatKind.f64 (fq sq)] 180)).alloc (Obj.cells #[Value.string {data:=#[]},I J 0,I J 0,Value.bool false,Value.string {data:=#[]},I J 0,I J 0,Value.float FloatKind.f64 0,Value.float FloatKind.f64 0,I J 0,Value.string {data:=#[]},I J 0,Value.float FloatKind.f64 0] 71))
 rw[←af]
 have ak:Below w.heap.size w E:=by rw[af];exact (((Below.refl _ _).alloc (Nat.le_refl _) _).alloc Zs _).alloc Zo _
 have aM:E.heap.size=w.heap.size+3:=by rw[af];simp
 have aN:E.heap[w.heap.size]?=some (.cells #[Value.string rn,Value.string rb] 88 (0,0)):=by
  rw[af,Below.heap_alloc _ _ _ Zo,Below.heap_alloc _ _ _ Zs];exact heap_alloc_new w _
 have ax:E.heap[w.heap.size+1]?=some (.cells #[I J ↑i,Value.bool true,Value.slice (some {block:=g,off:=o}) m D,Value.float FloatKind.f64 (fq sq)] 180 (0,0)):=by
  rw[af,Below.heap_alloc _ _ _ Zs]
  have:=heap_alloc_new (w.alloc (Obj.cells #[Value.string rn,Value.string rb] 88)) (Obj.cells #[I J ↑i,Value.bool true,Value.slice (some {block:=g,off:=o}) m D,Value.float FloatKind.f64 (fq sq)] 180)
  have e1:(w.alloc (Obj.cells #[Value.string rn,Value.string rb] 88)).heap.size=w.heap.size+1:=Zs
  rw[e1]at this;exact this
 have bt:E.heap[w.heap.size+1+1]?=some (.cells #[Value.string {data:=#[]},I J 0,I J 0,Value.bool false,Value.string {data:=#[]},I J 0,I J 0,Value.float FloatKind.f64 0,Value.float FloatKind.f64 0,I J 0,Value.string {data:=#[]},I J 0,Value.float FloatKind.f64 0] 71 (0,0)):=by
  rw[af]
  have:=heap_alloc_new ((w.alloc (Obj.cells #[Value.string rn,Value.string rb] 88)).alloc (Obj.cells #[I J ↑i,Value.bool true,Value.slice (some {block:=g,off:=o}) m D,Value.float FloatKind.f64 (fq sq)] 180)) (Obj.cells #[Value.string {data:=#[]},I J 0,I J 0,Value.bool false,Value.string {data:=#[]},I J 0,I J 0,Value.float FloatKind.f64 0,Value.float FloatKind.f64 0,I J 0,Value.string {data:=#[]},I J 0,Value.float FloatKind.f64 0] 71)
  have e1:((w.alloc (Obj.cells #[Value.string rn,Value.string rb] 88)).alloc (Obj.cells #[I J ↑i,Value.bool true,Value.slice (some {block:=g,off:=o}) m D,Value.float FloatKind.f64 (fq sq)] 180)).heap.size=w.heap.size+1+1:=Zs
  rw[e1]at this;exact this
 clear af
 have cI:(i:Int)<(nR:Int):=O
 have al:∀(c:World) (b off:Nat) (v:Value),(∀j,j<w.heap.size→c.heap[j]?=w.heap[j]?)→b<w.heap.size→w.cell? ⟨b,off,none⟩=some v→c.cell? ⟨b,off,none⟩=some v:=fun c b off v h hb hv=>(World.cell?_of_block (h b hb)).trans hv
 have g1:∀c:World,(∀j,j<w.heap.size+3→c.heap[j]?=E.heap[j]?)→c.cell? ⟨X,3,none⟩=some (.slice (some ⟨L,or,none⟩) nR cr)∧c.cell? ⟨w.heap.size+1,0,none⟩=some (I J i)∧c.cell? ⟨L,or+i*2,none⟩=some (.string s.n)∧c.cell? ⟨L,or+i*2+1,none⟩=some (.string s.b)∧c.cell? ⟨w.heap.size,1,none⟩=some (.string rb):=by
  intro c M
  have T:∀j,j<w.heap.size→c.heap[j]?=w.heap[j]?:=fun j p=>(M j O).trans (ak.block j p)
  exact⟨A1 ((T X bl).trans HX.out) rfl,A1 ((M _ O).trans ax) rfl,al c _ _ _ T bm bn.out.1,al c _ _ _ T bm bn.out.2,A1 ((M _ O).trans aN) rfl⟩
 refine A5 14 (fun c=>c.cell? ⟨X,3,none⟩=some (.slice (some ⟨L,or,none⟩) nR cr)∧c.cell? ⟨w.heap.size+1,0,none⟩=some (I J i)∧c.cell? ⟨L,or+i*2,none⟩=some (.string s.n)∧c.cell? ⟨L,or+i*2+1,none⟩=some (.string s.b)∧c.cell? ⟨w.heap.size,1,none⟩=some (.string rb)) U (g1 E.drew (fun _ _=>rfl)) (fun hH=>?_)
 refine A2 0 ?_
 refine A2 1 ?_
 refine A2 2 ?_
 refine A2 3 ?_
 refine A2 4 ?_
 refine A2 5 ?_
 refine A2 6 ?_
 refine A2 7 ?_
 refine A2 8 ?_
 refine A2 9 ?_
 refine A2 10 ?_
 refine wpS 11 fun K f=>?_
 go_simp
 refine E0 f (g1 _ (fun j p=>Below.heap_alloc E.drew _ j (by show j<E.heap.size;omega))) ?_
 clear f K hH
 refine wpS 12 fun K f=>?_
 go_simp
 obtain⟨S,V⟩:=nm ((E.alloc (Obj.cells #[Value.string s.n,Value.string s.b] 88)).drew)
 rw[←V]
 have Y:∀j,j<w.heap.size+3→S.heap[j]?=E.heap[j]?:=fun j p=>by rw[V];exact Below.heap_alloc E _ j O
 have bu:S.heap[w.heap.size+3]?=some (.cells #[Value.string s.n,Value.string s.b] 88 (0,0)):=by rw[V,←aM];exact heap_alloc_new E _
 have cc:S.heap.size=w.heap.size+4:=by rw[V];show (E.alloc _).heap.size=_;simp[aM]
 have H:Below w.heap.size w S:=by
  refine⟨?_,?_,?_,O,fun j p=>(Y j O).trans (ak.block j p)⟩
  ·rw[V];exact ak.os
  ·rw[V];exact ak.tape
  ·rw[V];exact ak.output
 refine f.out _ _ (g1 S (fun j p=>Y j p)) ?_
 clear f K
 have hH:=g1 S (fun j p=>Y j p)
 try simp only[Act.put,zA0,zZ0,zS0]
 refine A2 13 ?_
 refine J5 ?_
 refine br _ _ ?_
 clear br hH g1 V
 have q1:S.cell? ⟨w.heap.size+1,1,none⟩=some (.bool true):=A1 ((Y _ O).trans ax) rfl
 have cT:=A6C rb S O
 go_wp2_with fail
 refine cT.mono ?_
 rintro e d ⟨⟨_,rfl⟩ | ⟨cd,_⟩,ay⟩
 rotate_left
 ·exact absurd cb.out cd
 have ao:∀j,j<w.heap.size+4→d.heap[j]?=S.heap[j]?:=fun j p=>ay.block j O
 have ce:w.heap.size+4≤d.heap.size:=by have:=ay.size;omega
 replace H:Below w.heap.size w d:=H.trans (ay.mono O)
 clear ay cT
 go_wp2_with fail
 rename_i K1 bv
 have ae:d.heap[w.heap.size+1]?=some (.cells #[I J ↑i,Value.bool true,Value.slice (some {block:=g,off:=o}) m D,Value.float FloatKind.f64 (fq sq)] 180 (0,0)):=(ao _ O).trans ((Y _ O).trans ax)
 have aj:d.heap[w.heap.size]?=some (.cells #[Value.string rn,Value.string rb] 88 (0,0)):=(ao _ O).trans ((Y _ O).trans aN)
 have bw:=(ao (w.heap.size+1+1) O).trans ((Y _ O).trans bt)
 have bx:d.heap[w.heap.size+3]?=some (.cells #[Value.string s.n,Value.string s.b] 88 (0,0)):=(ao _ O).trans bu
 clear ao Y aN ax bt bu ak aM cc q1
 clear S E
 have cf:IntKind.i64.wrap ((m:Int) - 1)=((m - 1:Nat):Int):=Zw
 have cg:((m - 1:Nat):Int)<(m:Int):=O
 have ch:(0:Int)<(m:Int):=O
 have g4:∀c:World,(∀j,j<d.heap.size→c.heap[j]?=d.heap[j]?)→c.cell? ⟨w.heap.size+1,2,none⟩=some (.slice (some ⟨g,o,none⟩) m D)∧c.cell? ⟨g,o,none⟩=some (I J q)∧c.cell? ⟨g,o+1,none⟩=some (I J u)∧c.cell? ⟨g,o+(m - 1)*2,none⟩=some (I J l)∧c.cell? ⟨g,o+(m - 1)*2+1,none⟩=some (I J r):=by
  intro c M
  have T:∀j,j<w.heap.size→c.heap[j]?=w.heap[j]?:=fun j p=>(M j O).trans (H.block j p)
  exact⟨A1 ((M _ O).trans ae) rfl,al c _ _ _ T av bo.out.1,al c _ _ _ T av bo.out.2,al c _ _ _ T av bp.out.1,al c _ _ _ T av bp.out.2⟩
 have tail:∀(b0 b1:Nat) (x:World),(∀j,j<d.heap.size→x.heap[j]?=d.heap[j]?)→x.heap[b0]?=some (.cells #[I J ↑q,I J ↑u] 119 (0,0))→x.heap[b1]?=some (.cells #[I J ↑l,I J ↑r] 119 (0,0))→d.heap.size≤x.heap.size→Below w.heap.size w x→K1 {tmps:=#[Value.pointer (some {block:=X,off:=0}),Value.agg #[Value.string rn,Value.string rb],Value.agg #[I J ↑i,Value.bool true,Value.slice (some {block:=g,off:=o}) m D,Value.float FloatKind.f64 (fq sq)],Value.float FloatKind.f64 (fq oq),undef,Value.pointer (some {block:=w.heap.size,off:=0}),Value.pointer (some {block:=w.heap.size+1,off:=0}),undef,Value.pointer (some {block:=w.heap.size+1+1,off:=0}),Value.bool false,Value.pointer (some {block:=w.heap.size+3,off:=0}),Value.string {data:=(F9 rb.data.toList).toArray},Value.pointer (some {block:=b0,off:=0}),Value.pointer (some {block:=b1,off:=0}),undef,undef,undef,undef,undef,undef,undef,Value.pointer (some {block:=X,off:=0}),Value.pointer (some {block:=X,off:=0}),Value.pointer (some {block:=X,off:=3}),Value.slice (some {block:=L,off:=or}) nR cr,Value.pointer (some {block:=w.heap.size+1,off:=0}),Value.pointer (some {block:=w.heap.size+1,off:=0}),I J ↑i,Value.pointer (some {block:=L,off:=or+i*2}),Value.agg #[Value.string s.n,Value.string s.b],Value.pointer (some {block:=w.heap.size,off:=1}),Value.string rb,Value.pointer (some {block:=w.heap.size+1,off:=0}),Value.pointer (some {block:=w.heap.size+1,off:=1}),Value.bool true,Value.tuple #[Value.string {data:=(F9 rb.data.toList).toArray},I J 0],Value.string rb,Value.tuple #[Value.string {data:=(F9 rb.data.toList).toArray},I J 0],Value.string {data:=(F9 rb.data.toList).toArray},I J 0,Value.pointer (some {block:=w.heap.size+1,off:=2}),Value.slice (some {block:=g,off:=o}) m D,Value.pointer (some {block:=g,off:=o}),Value.agg #[I J ↑q,I J ↑u],Value.pointer (some {block:=w.heap.size+1,off:=2}),Value.slice (some {block:=g,off:=o}) m D,Value.pointer (some {block:=w.heap.size+1,off:=2}),Value.slice (some {block:=g,off:=o}) m D,I J ↑m,I J ↑(m - 1),Value.pointer (some {block:=g,off:=o+(m - 1)*2}),Value.agg #[I J ↑l,I J ↑r],undef,undef,undef,undef,undef,undef,undef,undef,undef,undef,undef,undef,undef,undef,undef,undef,undef,undef,undef,undef,undef,undef,undef,undef,undef,undef,undef,undef,undef,undef,undef,undef,undef,undef,undef,undef,undef,undef,undef,undef,undef,undef,undef,undef,undef,undef,undef,undef,undef,undef,undef,undef,undef,undef,undef,undef,undef,undef,undef,undef,undef,undef,undef,undef,undef,undef,undef,undef,undef,undef,undef,undef,undef,undef,undef,undef],defers:=[]} x:=by
  intro b0 b1 x N ag ah aO P
  clear g4
  refine bv _ _ ?_
  clear bv
  have aP:x.heap[X]?=_:=(P.block X bl).trans HX.out
  go_wp2_with fail
  rename_i K2 bz
  have ci:IntKind.i64.wrap ((l:Int)+k)=(l:Int)+k:=Zw
  have cj:IntKind.i64.wrap ((r:Int)+k)=(r:Int)+k:=Zw
  refine A5 12 (fun c=>c.cell? ⟨b0,0,none⟩=some (I J q)∧c.cell? ⟨b1,0,none⟩=some (I J l)∧c.cell? ⟨X,0,none⟩=some (I J k)) U ⟨A1 ag rfl,A1 ah rfl,A1 aP rfl⟩ (fun hH=>?_)
  refine A2 0 ?_
  refine A2 1 ?_
  refine A2 2 ?_
  refine A2 3 ?_
  refine A2 4 ?_
  refine A2 5 ?_
  refine A2 6 ?_
  refine A2 7 ?_
  refine A2 8 ?_
  refine A2 9 ?_
  refine A2 10 ?_
  refine A2 11 ?_
  refine J5 ?_
  refine bz _ _ ?_
  clear bz hH
  go_wp2_with fail
  rename_i K3 bA
  refine A5 12 (fun c=>c.cell? ⟨b0,1,none⟩=some (I J u)∧c.cell? ⟨b1,1,none⟩=some (I J r)∧c.cell? ⟨X,0,none⟩=some (I J k)) U ⟨A1 ag rfl,A1 ah rfl,A1 aP rfl⟩ (fun hH=>?_)
  refine A2 0 ?_
  refine A2 1 ?_
  refine A2 2 ?_
  refine A2 3 ?_
  refine A2 4 ?_
  refine A2 5 ?_
  refine A2 6 ?_
  refine A2 7 ?_
  refine A2 8 ?_
  refine A2 9 ?_
  refine A2 10 ?_
  refine A2 11 ?_
  refine J5 ?_
  refine bA _ _ ?_
  clear bA hH
  obtain⟨F,aa⟩:=nm x.drew.drew
  rw[←aa]
  have az:F.heap[w.heap.size+3]?=some (.cells #[Value.string s.n,Value.string s.b] 88 (0,0)):=by rw[aa];exact (N _ O).trans bx
  have bB:F.heap[w.heap.size+1]?=some (.cells #[I J ↑i,Value.bool true,Value.slice (some {block:=g,off:=o}) m D,Value.float FloatKind.f64 (fq sq)] 180 (0,0)):=by rw[aa];exact (N _ O).trans ae
  have bC:F.heap[w.heap.size]?=some (.cells #[Value.string rn,Value.string rb] 88 (0,0)):=by rw[aa];exact (N _ O).trans aj
  have bD:=(show F.heap[w.heap.size+1+1]?=x.heap[w.heap.size+1+1]? by rw[aa];rfl).trans ((N _ O).trans bw)
  have ai:Below w.heap.size w F:=by rw[aa];exact⟨P.os,P.tape,P.output,P.size,P.block⟩
  have ck:w.heap.size+4≤F.heap.size:=by rw[aa];show _≤x.heap.size;omega
  clear aa P aO ag ah N aP H ce aj ae bw bx ci cj cf cg ch
  obtain⟨z,aQ⟩:=nm (⟨(F9 rb.data.toList).toArray⟩:ByteArray)
  have aA:Hid (M7 true rb=z):=by show M7 true rb=z;rw[aQ];(try rfl)
  have bE:z.size=rb.size:=by rw[←aA.out];exact N0 _ _
  rw[←aQ]
  clear aQ
  have i1:(q:Int)≤(l:Int)+k:=O
  have i2:(l:Int)+k≤z.size:=O
  have i3:(u:Int)≤(r:Int)+k:=O
  have i4:(r:Int)+k≤s.b.size:=O
  have i7:(0:Int)≤(l:Int)+k:=O
  have i8:(0:Int)≤(r:Int)+k:=O
  have t1:((l:Int)+k).toNat=l+k:=O
  have t2:((r:Int)+k).toNat=r+k:=O
  have ap:=hid bE
  clear bE
  go_wp2_with fail
  rename_i K4 bF
  refine A5 17 (fun c=>c.cell? ⟨w.heap.size+3,1,none⟩=some (.string s.b)) U (A1 az rfl) (fun hH=>?_)
  refine A2 0 ?_
  refine A2 1 ?_
  refine A2 2 ?_
  refine A2 3 ?_
  refine A2 4 ?_
  refine A2 5 ?_
  refine A2 6 ?_
  refine A2 7 ?_
  refine A2 8 ?_
  have aB:=A2p (z.extract q (l+k)) (s.b.extract u (r+k)) F.drew (by have:=ByteArray.size_extract (a:=z) (b:=q) (e:=l+k);have:=ap.out;omega) (by have:=ByteArray.size_extract (a:=s.b) (b:=u) (e:=r+k);omega) (A3h bZ.out ⟨ai.os,ai.tape,ai.output,ai.size,ai.block⟩)
  have aq:Hid (scE (z.extract q (l+k)).data.toList (s.b.extract u (r+k)).data.toList=fnE k rb s.b true q u l r):=by show _=fnE _ _ _ _ _ _ _ _;unfold fnE;rw[aA.out]
  obtain⟨la,aR⟩:=nm ((z.extract q (l+k)).data.toList)
  obtain⟨G,aS⟩:=nm ((s.b.extract u (r+k)).data.toList)
  rw[←aR,←aS]at aB aq
  have aT:Hid (la=((M7 true rb).extract q (l+k)).data.toList):=by show _=_;rw[aA.out];exact aR
  have bG:=hid aS
  clear aR aS
  obtain⟨se,aC⟩:=nm (scE la G)
  obtain⟨sn,aU⟩:=nm (scN la G)
  obtain⟨stx,am⟩:=nm (⟨(scT la G).toArray⟩:ByteArray)
  rw[←aC,←aU,←am]at aB
  rw[←aC]at aq
  have bH:=hid aC
  have aD:=hid aU
  have aV:=hid am
  clear aC aU am
  refine wpS 9 fun K f=>?_
  go_simp
  go_at_call 55
  refine aB.mono ?_
  rintro e A ⟨rfl,ab⟩
  have an:∀j,j<w.heap.size+4→A.heap[j]?=F.heap[j]?:=fun j p=>ab.block j (by show j<F.heap.size;omega)
  have bI:Below w.heap.size w A:=ai.trans ((show Below F.heap.size F A from ⟨ab.os,ab.tape,ab.output,ab.size,ab.block⟩).mono O)
  have cJ:w.heap.size+4≤A.heap.size:=by have:=ab.size;have h2:F.drew.heap.size=F.heap.size:=rfl;omega
  have hH:A.cell? ⟨w.heap.size+3,1,none⟩=some (.string s.b):=A1 ((an _ O).trans az) rfl
  refine E0 f hH ?_
  clear f K ab aB
  refine A2 10 ?_
  refine A2 11 ?_
  refine A2 12 ?_
  refine A2 13 ?_
  refine A2 14 ?_
  refine A2 15 ?_
  refine A2 16 ?_
  refine J5 ?_
  refine bF _ _ ?_
  clear bF hH i1 i2 i3 i4 i7 i8 t1 t2
  have cl:=(an (w.heap.size+3) O).trans az
  have aE:=(an (w.heap.size+1) O).trans bB
  have cm:=(an w.heap.size O).trans bC
  have B:=(an (w.heap.size+1+1) O).trans bD
  clear an bC bB bD az ai ck
  have vz:∀off,A.frozen? ⟨w.heap.size+1+1,off,none⟩=false:=fun off=>frozen_of_row _ _ _ _ _ B
  have q1:A.cell? ⟨w.heap.size+1,1,none⟩=some (.bool true):=A1 aE rfl
  by_cases hz:se=0
  ·subst hz
   have aW:scE la G=0:=bH.out.symm
   obtain⟨o1,o2,o3,o4⟩:=A7t la G aW
   obtain⟨l1,l2,l3,l4,l5⟩:=A1F la G aW
   have cn:0<la.length:=by
    rw[aT.out]
    have:=ByteArray.size_extract (a:=M7 true rb) (b:=q) (e:=l+k)
    have e1:((M7 true rb).extract q (l+k)).data.toList.length=((M7 true rb).extract q (l+k)).size:=Array.length_toList
    have:=N0 true rb
    omega
   obtain⟨Q,aF⟩:=nm (X4 la G)
   have co:sn≤Q:=by rw[aF,aD.out];exact l3
   have cq:0<Q:=O
   have cK:Q≤900:=O
   have cM:(1048576:Nat)≤2^50:=Z
   have fs:floatOfInt .f64 (sn:Int)=fq (4*(sn:Int)):=I8 sn O
   have fl:floatOfInt .f64 (Q:Int)=fq (4*(Q:Int)):=I8 Q O
   have bJ:∀c t,(binOp .quo t (.float .f64 (fq (4*(sn:Int)))) (.float .f64 (fq (4*(Q:Int))))).run Tryz.prog c=.ok (.float .f64 (shr sn Q)) c:=fun c t=>run_float_arith c .quo t .f64 _ _ _ (A0S sn Q co cq O).1
   have cQ:=fun c=>A2q sq oq c aw.out.1.1 aw.out.1.2 aw.out.2.1 aw.out.2.2
   have am:stx=⟨(G1 (A1W la G)).toArray⟩:=by rw[aV.out,o1]
   have cL:∀c,LtP c→Calls Tryz.prog 109 #[.string stx] c fun e w'=>e=.returned (I J (Q:Nat))∧Below c.heap.size c w':=by
    intro c cs
    rw[am,aF,←A5D la G]
    exact A1y (A1W la G) o2 o3 o4 c cs
   have cC:=fun c=>A09 s.n c aI.1 aI.2
   obtain⟨dv,aX⟩:=nm (shr sn Q)
   rw[←aX]at bJ
   have bK:Hid (dv=shr (scN la G) (X4 la G)):=by show _=_;rw[aX,aD.out,aF]
   obtain⟨qv,aY⟩:=nm (Y1 sq oq)
   rw[←aY]at cQ
   have bL:=hid aY
   obtain⟨aG,ar⟩:=nm (fq sq)
   obtain⟨bM,aH⟩:=nm (fq oq)
   rw[←ar,←aH]at cQ
   rw[←ar]at aE
   have bN:=hid ar
   have bO:=hid aH
   rw[←ar,←aH]
   clear ar aH aY aX am aF o1 o2 o3 o4 l1 l2 l3 l4 l5 aW cn
   have cN:IntKind.i64.wrap ((z.size:Int) - ((l:Int)+k))=(z.size:Int) - ((l:Int)+k):=by have:=ap.out;rw[IntKind.wrap_i64];omega
   have cO:IntKind.i64.wrap ((z.size:Int) - (q:Int))=(z.size:Int) - (q:Int):=by have:=ap.out;rw[IntKind.wrap_i64];omega
   go_wp2_with fail
   rename_i K5 bP
   have g12:∀c:World,(∀j,j<w.heap.size+4→j≠w.heap.size+1+1→c.heap[j]?=A.heap[j]?)→c.cell? ⟨w.heap.size,0,none⟩=some (.string rn)∧c.cell? ⟨w.heap.size+1,1,none⟩=some (.bool true)∧c.cell? ⟨w.heap.size+3,0,none⟩=some (.string s.n)∧c.cell? ⟨w.heap.size+1,3,none⟩=some (.float .f64 aG):=by
    intro c M
    exact⟨A1 ((M _ O O).trans cm) rfl,A1 ((M _ O O).trans aE) rfl,A1 ((M _ O O).trans cl) rfl,A1 ((M _ O O).trans aE) rfl⟩
   refine A5 30 (fun c=>c.cell? ⟨w.heap.size,0,none⟩=some (.string rn)∧c.cell? ⟨w.heap.size+1,1,none⟩=some (.bool true)∧c.cell? ⟨w.heap.size+3,0,none⟩=some (.string s.n)∧c.cell? ⟨w.heap.size+1,3,none⟩=some (.float .f64 aG)) U (g12 A.drew (fun _ _ _=>rfl)) (fun hH=>?_)
   refine A2 0 ?_
   refine A2 1 ?_
   refine A2 2 ?_
   refine A2 3 ?_
   refine A2 4 ?_
   refine A2 5 ?_
   refine A2 6 ?_
   refine A2 7 ?_
   refine A2 8 ?_
   refine A2 10 ?_
   refine A2 11 ?_
   refine A2 12 ?_
   refine A2 13 ?_
   refine A2 14 ?_
   refine A2 15 ?_
   refine A2 16 ?_
   refine A2 17 ?_
   refine A2 19 ?_
   refine A2 20 ?_
   refine A2 21 ?_
   refine A2 22 ?_
   refine A2 23 ?_
   refine wpS 9 fun K f=>?_
   go_simp
   go_at_call 107
   refine (cC _).mono ?_
   rintro e wG ⟨rfl,ac⟩
   have aZ:∀j,j<w.heap.size+4→wG.heap[j]?=A.heap[j]?:=fun j p=>ac.block j (by show j<A.heap.size;omega)
   have bQ:Below w.heap.size w wG:=bI.trans ((show Below A.heap.size A wG from ⟨ac.os,ac.tape,ac.output,ac.size,ac.block⟩).mono O)
   have cP:w.heap.size+4≤wG.heap.size:=by have:=ac.size;have h2:A.drew.heap.size=A.heap.size:=rfl;omega
   have hH:=g12 wG (fun j p _=>aZ j p)
   refine E0 f hH ?_
   clear f K ac cC
   refine wpS 18 fun K f=>?_
   go_simp
   go_at_call 108
   refine (cQ _).mono ?_
   rintro e cR ⟨rfl,rfl⟩
   refine E0 f hH ?_
   clear f K cQ
   refine wpS 24 fun K f=>?_
   go_simp
   go_at_call 109
   refine (cL _ (ca.out.below bQ)).mono ?_
   rintro e wI ⟨rfl,ba⟩
   have au:∀j,j<w.heap.size+4→wI.heap[j]?=A.heap[j]?:=fun j p=>(ba.block j O).trans (aZ j p)
   have ct:Below w.heap.size w wI:=bQ.trans (ba.mono O)
   have hH:=g12 wI (fun j p _=>au j p)
   refine E0 f hH ?_
   clear f K cL ba
   refine A2 25 ?_
   refine A2 26 ?_
   refine A2 27 ?_
   have C:=(au (w.heap.size+1+1) O).trans B
   have vI:∀off,wI.frozen? ⟨w.heap.size+1+1,off,none⟩=false:=fun off=>frozen_of_row _ _ _ _ _ C
   have v0:=A1 C (i:=0) rfl
   have v1:=A1 C (i:=1) rfl
   have v2:=A1 C (i:=2) rfl
   have v3:=A1 C (i:=3) rfl
   have v4:=A1 C (i:=4) rfl
   have v5:=A1 C (i:=5) rfl
   have v6:=A1 C (i:=6) rfl
   have v7:=A1 C (i:=7) rfl
   have v8:=A1 C (i:=8) rfl
   have v9:=A1 C (i:=9) rfl
   have v10:=A1 C (i:=10) rfl
   have v11:=A1 C (i:=11) rfl
   have v12:=A1 C (i:=12) rfl
   refine wpS 28 fun K f=>?_
   go_simp
   have ad:=R7 (.string rn) (I J ((z.size:Int) - ((l:Int)+k))) (I J ((z.size:Int) - (q:Int))) (.bool true) (.string s.n) (I J u) (I J ((r:Int)+k)) (.float .f64 aG) (.float .f64 bM) (I J qv) (.string stx) (I J sn) (.float .f64 dv) C
   refine f.out _ _ (g12 _ (fun j p bb=>(ad.other j bb).trans (au j p))) ?_
   clear f K hH
   have hH:=g12 _ (fun j p bb=>(ad.other j bb).trans (au j p))
   try simp only[Act.put,zA0,zZ0,zS0]
   refine A2 29 ?_
   refine J5 ?_
   refine bP _ _ ?_
   clear bP hH
   go_wp2_with fail
   refine bodyPost_ret (C2 rfl _ _ (w.heap.size+1+1) 71 _ _ _ rfl ad.here Tryz.underlying71 rfl U) rfl ?_
   refine⟨?_,ct.trans (ad.below O)⟩
   rw[if_pos aq.out.symm]
   show Ending.returned (.tuple #[.agg (List.toArray [.string rn,I J ((z.size:Int) - ((l:Int)+k)),I J ((z.size:Int) - (q:Int)),.bool true,.string s.n,I J u,I J ((r:Int)+k),.float .f64 aG,.float .f64 bM,I J qv,.string stx,I J sn,.float .f64 dv]),.bool true])=_
   rw[B2F k rn rb s.n s.b q u l r sq oq la G aT.out bG.out]
   have cu:=bN.out
   have cv:=bO.out
   have cw:=bL.out
   have cx:=aV.out
   have cy:=bK.out
   have cz:=aD.out
   have cA:=ap.out
   clear bN bO bL aV bK aD ap aT bG aA aq bH ad v0 v1 v2 v3 v4 v5 v6 v7 v8 v9 v10 v11 v12 vI C bJ fs fl g12 au aZ
   rw[cu,cv,cw,cx,cy,cz,cA]
  ·have cS:¬(se:Int)=0:=O
   have v0:=A1 B (i:=0) rfl
   have v1:=A1 B (i:=1) rfl
   have v2:=A1 B (i:=2) rfl
   have v3:=A1 B (i:=3) rfl
   have v4:=A1 B (i:=4) rfl
   have v5:=A1 B (i:=5) rfl
   have v6:=A1 B (i:=6) rfl
   have v7:=A1 B (i:=7) rfl
   have v8:=A1 B (i:=8) rfl
   have v9:=A1 B (i:=9) rfl
   have v10:=A1 B (i:=10) rfl
   have v11:=A1 B (i:=11) rfl
   have v12:=A1 B (i:=12) rfl
   go_wp2_with fail
   have ad:=R7 (.string ⟨#[]⟩) (I J 0) (I J 0) (.bool false) (.string ⟨#[]⟩) (I J 0) (I J 0) (.float .f64 0) (.float .f64 0) (I J 0) (.string ⟨#[]⟩) (I J 0) (.float .f64 0) B
   refine bodyPost_ret (C2 rfl _ _ (w.heap.size+1+1) 71 _ _ _ rfl ad.here Tryz.underlying71 rfl U) rfl ?_
   refine⟨?_,bI.trans (ad.below O)⟩
   rw[if_neg (by rw[←aq.out];exact hz)]
   rfl
 refine A5 15 (fun c=>c.cell? ⟨w.heap.size+1,2,none⟩=some (.slice (some ⟨g,o,none⟩) m D)∧c.cell? ⟨g,o,none⟩=some (I J q)∧c.cell? ⟨g,o+1,none⟩=some (I J u)∧c.cell? ⟨g,o+(m - 1)*2,none⟩=some (I J l)∧c.cell? ⟨g,o+(m - 1)*2+1,none⟩=some (I J r)) U (g4 d.drew (fun _ _=>rfl)) (fun hH=>?_)
 refine A2 0 ?_
 refine A2 1 ?_
 refine A2 2 ?_
 refine A2 3 ?_
 refine A2 4 ?_
 refine A2 5 ?_
 refine A2 6 ?_
 refine A2 7 ?_
 refine A2 8 ?_
 refine A2 9 ?_
 refine A2 10 ?_
 refine A2 11 ?_
 have bc:∀(ob:Obj) j,j<d.heap.size→(d.drew.alloc ob).heap[j]?=d.heap[j]?:=fun ob j p=>Below.heap_alloc d.drew ob j p
 have bR:∀(ob oc:Obj) j,j<d.heap.size→((d.drew.alloc ob).alloc oc).heap[j]?=d.heap[j]?:=fun ob oc j p=>(Below.heap_alloc _ oc j (by simp;show j<d.heap.size+1;omega)).trans (bc ob j p)
 have bS:∀(ob oc:Obj) j,j<d.heap.size→((d.alloc ob).alloc oc).drew.heap[j]?=d.heap[j]?:=fun ob oc j p=>(Below.heap_alloc _ oc j Zo).trans (Below.heap_alloc d ob j p)
 refine J6 (i:=12) (j:=13) U rfl rfl U U (fun K f=>?_) (fun K f=>?_)
 ·go_simp
  refine E0 f (g4 _ (bc _)) ?_
  clear f K hH
  refine wpS 13 fun K f=>?_
  go_simp
  refine E0 f (g4 _ (bR _ _)) ?_
  clear f K
  refine wpS 14 fun K f=>?_
  go_simp
  refine E0 f (g4 _ (bS _ _)) ?_
  clear f K
  refine B6 (i:=15) U rfl U U (fun K f=>?_)
  go_simp
  refine f.out _ _ ?_
  clear f K
  obtain⟨x,y⟩:=nm (((d.alloc (Obj.cells #[I J ↑q,I J ↑u] 119)).alloc (Obj.cells #[I J ↑l,I J ↑r] 119)).drew)
  have N:∀j,j<d.heap.size→x.heap[j]?=d.heap[j]?:=fun j p=>by rw[y];exact (Below.heap_alloc _ _ j Zo).trans (Below.heap_alloc d _ j p)
  have ag:x.heap[d.heap.size]?=some (.cells #[I J ↑q,I J ↑u] 119 (0,0)):=by rw[y];exact (Below.heap_alloc _ _ _ Zs).trans (heap_alloc_new d _)
  have ah:x.heap[d.heap.size+1]?=some (.cells #[I J ↑l,I J ↑r] 119 (0,0)):=by
   have:=heap_alloc_new (d.alloc (Obj.cells #[I J ↑q,I J ↑u] 119)) (Obj.cells #[I J ↑l,I J ↑r] 119)
   have e1:(d.alloc (Obj.cells #[I J ↑q,I J ↑u] 119)).heap.size=d.heap.size+1:=Zs
   rw[e1]at this
   rw[y];exact this
  have aO:x.heap.size=d.heap.size+2:=by rw[y];show ((d.alloc _).alloc _).heap.size=_;simp
  have P:Below w.heap.size w x:=by
   refine⟨?_,?_,?_,O,fun j p=>(N j O).trans (H.block j p)⟩
   ·rw[y];exact H.os
   ·rw[y];exact H.tape
   ·rw[y];exact H.output
  have h1:=tail d.heap.size (d.heap.size+1) x N ag ah O P
  rw[y]at h1
  exact h1
 ·go_simp
  refine E0 f (g4 _ (bc _)) ?_
  clear f K hH
  refine wpS 12 fun K f=>?_
  go_simp
  refine E0 f (g4 _ (bR _ _)) ?_
  clear f K
  refine wpS 14 fun K f=>?_
  go_simp
  refine E0 f (g4 _ (bS _ _)) ?_
  clear f K
  refine B6 (i:=15) U rfl U U (fun K f=>?_)
  go_simp
  refine f.out _ _ ?_
  clear f K
  obtain⟨x,y⟩:=nm (((d.alloc (Obj.cells #[I J ↑l,I J ↑r] 119)).alloc (Obj.cells #[I J ↑q,I J ↑u] 119)).drew)
  have N:∀j,j<d.heap.size→x.heap[j]?=d.heap[j]?:=fun j p=>by rw[y];exact (Below.heap_alloc _ _ j Zo).trans (Below.heap_alloc d _ j p)
  have ag:x.heap[d.heap.size]?=some (.cells #[I J ↑l,I J ↑r] 119 (0,0)):=by rw[y];exact (Below.heap_alloc _ _ _ Zs).trans (heap_alloc_new d _)
  have ah:x.heap[d.heap.size+1]?=some (.cells #[I J ↑q,I J ↑u] 119 (0,0)):=by
   have:=heap_alloc_new (d.alloc (Obj.cells #[I J ↑l,I J ↑r] 119)) (Obj.cells #[I J ↑q,I J ↑u] 119)
   have e1:(d.alloc (Obj.cells #[I J ↑l,I J ↑r] 119)).heap.size=d.heap.size+1:=Zs
   rw[e1]at this
   rw[y];exact this
  have aO:x.heap.size=d.heap.size+2:=by rw[y];show ((d.alloc _).alloc _).heap.size=_;simp
  have P:Below w.heap.size w x:=by
   refine⟨?_,?_,?_,O,fun j p=>(N j O).trans (H.block j p)⟩
   ·rw[y];exact H.os
   ·rw[y];exact H.tape
   ·rw[y];exact H.output
  have h1:=tail (d.heap.size+1) d.heap.size x N ah ag O P
  rw[y]at h1
  exact h1
end
end Mn
end Go.Proofs.YtilcmkiihefkkaaGreatDoor
