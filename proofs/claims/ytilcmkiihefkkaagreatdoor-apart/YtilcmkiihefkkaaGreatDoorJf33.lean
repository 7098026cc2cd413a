import Derived.Test.YtilcmkiihefkkaaGreatDoorJf32
set_option linter.unusedVariables false
set_option linter.unusedSimpArgs false
set_option maxRecDepth 1000000
set_option maxHeartbeats 64000000
open Go.Value renaming int→I
open Go.IntKind renaming i64→J
namespace Go.Proofs.YtilcmkiihefkkaaGreatDoor
section
open Go.RowKit Go.Shelf
theorem B1d (read ref:ByteArray)(hn:read.size≤300)(hm:ref.size≤600)(f:World)(G i x oM Q y oI R z oD S p q r:Nat)(A C D:Nat→Nat)(hi:i≤read.size)(T:∀W,G7 f W p q r→GF read ref W G i (.slice (some ⟨x,oM,none⟩) (i+1) Q) (.slice (some ⟨y,oI,none⟩) (i+1) R) (.slice (some ⟨z,oD,none⟩) (i+1) S) x oM y oI z oD A C D)(V:A i=p∧C i=q∧D i=r)(E:p≠q)(F:p≠r)(H:q≠r)(j:Nat)(X:j≤ref.size)(K:0<i)(L:j=0)(g:World)(hR:A2v read ref f p q r i j g)(Y:Act)(t:Fr 277 [(0,.string read),(1,.string ref),(5,.pointer (some ⟨G,0,none⟩)),(6,I J i),(7,I J ((j:Nat)))] Y)(Q0:Exit→Act→World→Prop)(hQ0:∀(c:List PanicEntry) (a:Act) (d:Option Tmp) (v:Value) (w:World),Q0 (.panic c) (a.put d v) w→Q0 (.panic c) a w)(B:Code)(hB:((Tryz.f124.body.bind B0).bind B0)=some B) :
 Code.wp Tryz.prog B (Exit.then (fun M w'=>A4Q read ref f G p q r i M w'∧JMu ref.size M w'<JMu ref.size Y g) Q0) Y g:=by
 have N:=hB
 conv at N=>lhs;whnf
 injection N with N
 subst N
 clear hB
 obtain⟨f0,rfl,b⟩:=t
 simp only[Hs]at b
 simp only[fr,Y7,Nat.reduceAdd,b]
 clear b
 obtain⟨aa,ab,ao,ap⟩:=hR
 have ac:=A4 T
 have ad:=A4 V
 have ba:(j:Int)≤ref.size:=O
 have bb:(j:Int)<(ref.size:Int)+1:=O
 have bc:(i:Int)<(i:Int)+1:=O
 have aq:=A4 K
 have ar:=A4 L
 clear K L
 have ae:=ac.o g aa
 have au:=(ae.2.2.2.1 i (Nat.le_refl _)).1
 rw[ad.o.1]at au
 have aL:=ae.1
 obtain⟨⟨y0,aM⟩,aN⟩:=ab.any j O
 clear ae
 go_upto_region 12 with fail
 obtain⟨l,m⟩:=A8 (g.setCell ⟨p,j,none⟩ (I J 1000000000))
 have af:G7 f l p q r:=by rw[m];exact aa.set _ _ _ (by exact Or.inl rfl)
 have ag:=ab.set O 1000000000
 rw[←m]at ag
 have ah:RP l q (ref.size+1) j (fun k=>(cel 1000000000 (uR read ref) i k).i):=ao.other (by rw[m];exact heap_setCell_other g _ q _ (Ne.symm E))
 have av:RP l r (ref.size+1) j (fun k=>(cel 1000000000 (uR read ref) i k).d):=ap.other (by rw[m];exact heap_setCell_other g _ r _ (Ne.symm F))
 rw[←m]
 clear m aa ab ao ap au aL aM aN
 have ai:=ac.o l af
 have aw:=(ai.2.2.2.1 i (Nat.le_refl _)).2.1
 rw[ad.o.2.1]at aw
 have aO:=ai.2.1
 obtain⟨⟨y1,aP⟩,aQ⟩:=ah.any j O
 clear ai
 go_upto_region 13 with fail
 obtain⟨w7,n⟩:=A8 (l.setCell ⟨q,j,none⟩ (I J 1000000000))
 have aj:G7 f w7 p q r:=by rw[n];exact af.set _ _ _ (by exact Or.inr (Or.inl rfl))
 have ak:=ah.set O 1000000000
 rw[←n]at ak
 have ax:=ag.other (w':=w7) (by rw[n];exact heap_setCell_other l _ p _ E)
 have al:RP w7 r (ref.size+1) j (fun k=>(cel 1000000000 (uR read ref) i k).d):=av.other (by rw[n];exact heap_setCell_other l _ r _ (Ne.symm H))
 rw[←n]
 clear n af ag ah av aw aO aP aQ
 have am:=ac.o w7 aj
 have ay:=(am.2.2.2.1 i (Nat.le_refl _)).2.2
 rw[ad.o.2.2]at ay
 have aR:=am.2.2.1
 obtain⟨⟨y2,aS⟩,aT⟩:=al.any j O
 clear am
 go_upto_region 14 with fail
 obtain⟨P,s⟩:=A8 (w7.setCell ⟨r,j,none⟩ (I J 1000000000))
 have az:G7 f P p q r:=by rw[s];exact aj.set _ _ _ (by exact Or.inr (Or.inr rfl))
 have an:=al.set O 1000000000
 rw[←s]at an
 have aA:=ax.other (w':=P) (by rw[s];exact heap_setCell_other w7 _ p _ F)
 have aB:=ak.other (w':=P) (by rw[s];exact heap_setCell_other w7 _ q _ H)
 rw[←s]
 have aU:=A4 aB
 have aV:=A4 an
 have aW:=A4 aA
 have aX:=A4 az
 clear s aj ax ak al ay aR aS aT aB an aA az
 have K:=aq.o
 have L:=ar.o
 have bd:((i:Int)==0)=false:=by rw[beq_eq_false_iff_ne];omega
 have be:((j:Int)==0)=true:=by rw[beq_iff_eq];omega
 have bf:(0:Int)<i:=O
 have bg:¬(0:Int)<j:=O
 clear K L
 go_wp2_with fail
 refine A4H read ref hn hm f G i x oM Q y oI R z oD S p q r A C D hi T V E F H j X 1000000000 _ ?_ ?_ _ rfl _ (Fr.of _ rfl ⟨rfl,rfl,rfl,rfl,rfl,rfl,trivial⟩) P ⟨Nat.zero_le _,aX.o,aW.o,aU.o,aV.o⟩
 ·exact fun c a d v w h=>hQ0 c a d v w h
 intro M wI u
 unfold A6J at u
 obtain⟨⟨_,aC,aD,aE,aF⟩,t⟩:=u
 obtain⟨f0,rfl,b⟩:=t
 simp only[Hs]at b
 simp only[fr,Y7,Nat.reduceAdd,b]
 clear b
 have aG:Hd (A4S read ref f p q r i j (1000000000) (S3 1000000000 (uR read ref) i j i) 0 wI):=⟨Nat.zero_le _,aC,aD,aE,aF⟩
 clear aC aD aE aF
 go_wp2_with fail
 refine A4o read ref hn hm f G i x oM Q y oI R z oD S p q r A C D hi T V E F H j X (1000000000) (S3 1000000000 (uR read ref) i j i) _ ?_ ?_ _ rfl _ (Fr.of _ rfl ⟨rfl,rfl,rfl,rfl,rfl,rfl,trivial⟩) wI aG.o
 ·exact fun c a d v w h=>hQ0 c a d v w h
 intro M wD u
 unfold A6b at u
 obtain⟨⟨_,aH,aI,aJ,aK⟩,t⟩:=u
 obtain⟨f0,rfl,b⟩:=t
 simp only[Hs]at b
 simp only[fr,Y7,Nat.reduceAdd,b]
 clear b
 have aY:Hd (A2v read ref f p q r i (j+1) wD):=⟨aH,aI.next (by obtain⟨i1,aZ⟩:∃i1,i=i1+1:=⟨i - 1,by have:=aq.o;omega⟩;rw[ar.o,aZ];exact rfl),aJ.next (A1Q 1000000000 O (uR read ref) (P0 read ref) j O i O),aK.next (A1O 1000000000 O (uR read ref) (P0 read ref) i O j O)⟩
 have bh:IntKind.i64.wrap ((j:Int)+1)=((j+1:Nat):Int):=Zw
 have bi:j≤ref.size:=X
 clear aH aI aJ aK aG
 go_wp2_with fail
 refine⟨?_,?_⟩
 ·exact⟨j+1,⟨O,aY.o⟩,Fr.of _ rfl ⟨rfl,rfl,rfl,rfl,rfl,trivial⟩⟩
 ·simp[JMu,intOf];omega
theorem B1v (read ref:ByteArray)(hn:read.size≤300)(hm:ref.size≤600)(g:World)(G i t oM T z oI V A oD X p q r:Nat)(C D E:Nat→Nat)(hi:i≤read.size)(ag:∀W,G7 g W p q r→GF read ref W G i (.slice (some ⟨t,oM,none⟩) (i+1) T) (.slice (some ⟨z,oI,none⟩) (i+1) V) (.slice (some ⟨A,oD,none⟩) (i+1) X) t oM z oI A oD C D E)(ah:C i=p∧D i=q∧E i=r)(N:p≠q)(P:p≠r)(Y:q≠r)(j:Nat)(hj:j≤ref.size)(aa:0<i)(ab:0<j)(x:World)(hR:A2v read ref g p q r i j x)(fa:Act)(Q:Fr 277 [(0,.string read),(1,.string ref),(5,.pointer (some ⟨G,0,none⟩)),(6,I J i),(7,I J ((j:Nat)))] fa)(Q0:Exit→Act→World→Prop)(hQ0:∀(c:List PanicEntry) (a:Act) (d:Option Tmp) (v:Value) (w:World),Q0 (.panic c) (a.put d v) w→Q0 (.panic c) a w)(B:Code)(hB:((Tryz.f124.body.bind B0).bind B0)=some B) :
 Code.wp Tryz.prog B (Exit.then (fun a' w'=>A4Q read ref g G p q r i a' w'∧JMu ref.size a' w'<JMu ref.size fa x) Q0) fa x:=by
 have ac:=hB
 conv at ac=>lhs;whnf
 injection ac with ac
 subst ac
 clear hB
 obtain⟨f0,rfl,l⟩:=Q
 simp only[Hs]at l
 simp only[fr,Y7,Nat.reduceAdd,l]
 clear l
 obtain⟨ai,aj,aD,aE⟩:=hR
 have ad:=A4 ag
 have ae:=A4 ah
 have bz:(j:Int)≤ref.size:=O
 have bA:(j:Int)<(ref.size:Int)+1:=O
 have bB:(i:Int)<(i:Int)+1:=O
 have ba:=A4 aa
 have bb:=A4 ab
 clear aa ab
 have ak:=ad.o x ai
 have aF:=(ak.2.2.2.1 i (Nat.le_refl _)).1
 rw[ae.o.1]at aF
 have bc:=ak.1
 obtain⟨⟨y0,bd⟩,be⟩:=aj.any j O
 clear ak
 go_upto_region 12 with fail
 obtain⟨y,F⟩:=A8 (x.setCell ⟨p,j,none⟩ (I J 1000000000))
 have al:G7 g y p q r:=by rw[F];exact ai.set _ _ _ (by exact Or.inl rfl)
 have am:=aj.set O 1000000000
 rw[←F]at am
 have an:RP y q (ref.size+1) j (fun k=>(cel 1000000000 (uR read ref) i k).i):=aD.other (by rw[F];exact heap_setCell_other x _ q _ (Ne.symm N))
 have aG:RP y r (ref.size+1) j (fun k=>(cel 1000000000 (uR read ref) i k).d):=aE.other (by rw[F];exact heap_setCell_other x _ r _ (Ne.symm P))
 rw[←F]
 clear F ai aj aD aE aF bc bd be
 have ao:=ad.o y al
 have aH:=(ao.2.2.2.1 i (Nat.le_refl _)).2.1
 rw[ae.o.2.1]at aH
 have bf:=ao.2.1
 obtain⟨⟨y1,bg⟩,bh⟩:=an.any j O
 clear ao
 go_upto_region 13 with fail
 obtain⟨w7,H⟩:=A8 (y.setCell ⟨q,j,none⟩ (I J 1000000000))
 have ap:G7 g w7 p q r:=by rw[H];exact al.set _ _ _ (by exact Or.inr (Or.inl rfl))
 have aq:=an.set O 1000000000
 rw[←H]at aq
 have aI:=am.other (w':=w7) (by rw[H];exact heap_setCell_other y _ p _ N)
 have ar:RP w7 r (ref.size+1) j (fun k=>(cel 1000000000 (uR read ref) i k).d):=aG.other (by rw[H];exact heap_setCell_other y _ r _ (Ne.symm Y))
 rw[←H]
 clear H al am an aG aH bf bg bh
 have au:=ad.o w7 ap
 have aJ:=(au.2.2.2.1 i (Nat.le_refl _)).2.2
 rw[ae.o.2.2]at aJ
 have bi:=au.2.2.1
 obtain⟨⟨y2,bj⟩,bk⟩:=ar.any j O
 clear au
 go_upto_region 14 with fail
 obtain⟨s,L⟩:=A8 (w7.setCell ⟨r,j,none⟩ (I J 1000000000))
 have aK:G7 g s p q r:=by rw[L];exact ap.set _ _ _ (by exact Or.inr (Or.inr rfl))
 have av:=ar.set O 1000000000
 rw[←L]at av
 have aL:=aI.other (w':=s) (by rw[L];exact heap_setCell_other w7 _ p _ P)
 have aN:=aq.other (w':=s) (by rw[L];exact heap_setCell_other w7 _ q _ Y)
 rw[←L]
 have bl:=A4 aN
 have bm:=A4 av
 have aw:=A4 aL
 have aO:=A4 aK
 clear L ap aI aq ar aJ bi bj bk aN av aL aK
 have aa:=ba.o
 have ab:=bb.o
 have bC:((i:Int)==0)=false:=by rw[beq_eq_false_iff_ne];omega
 have bE:((j:Int)==0)=false:=by rw[beq_eq_false_iff_ne];omega
 have bF:(0:Int)<i:=O
 have bG:(0:Int)<j:=O
 have gf:=ad.o s aO.o
 obtain⟨b,ax⟩:∃b,i=b+1:=⟨i - 1,O⟩
 obtain⟨f,ay⟩:∃f,j=f+1:=⟨j - 1,O⟩
 have bH:=A4 ax
 have bJ:=A4 ay
 have s0:=(gf.2.2.2.1 i (Nat.le_refl _)).1
 rw[ae.o.1]at s0
 obtain⟨s1,s2,s3⟩:=gf.2.2.2.1 b O
 obtain⟨t1,t2,t3⟩:=gf.2.2.2.2 b f O O
 obtain⟨g2,g3,g4,_,_⟩:=gf
 have af:=U9 read ref b f O O
 obtain⟨cc,az⟩:=A8 (cel 1000000000 (uR read ref) b f)
 rw[←az]at t1 t2 t3 af
 have bn:b<read.size:=O
 have bo:f<ref.size:=O
 have aP:=B1O read ref b f bn bo
 have aQ:=P0 read ref b f
 have aA:Hd (aM cc+uR read ref b f=(cel 1000000000 (uR read ref) i j).m):=by rw[ax,ay,az];exact rfl
 obtain⟨u,hu⟩:=A8 (uR read ref b f)
 rw[←hu]at aP aQ aA
 obtain⟨c1,c2,c3⟩:=cc
 unfold okB at af
 simp only at t1 t2 t3 af
 obtain⟨m1,aB⟩:=A8 (min c2 c3)
 obtain⟨m2,aC⟩:=A8 (min c1 m1)
 have bp:0≤m2∧m2≤1500000000:=O
 have bq:Hd (m2+u=(cel 1000000000 (uR read ref) i j).m):=by
  have:=aA.o
  show _=_
  rw[←this,aC,aB];rfl
 have cA:=fun W=>U4 c2 c3 W
 rw[←aB]at cA
 have cB:=fun W=>U4 c1 m1 W
 rw[←aC]at cB
 have cU:=fun W=>T6 read[b] ref[f] W
 rw[aP]at cU
 have bK:IntKind.i64.wrap ((i:Int) - 1)=(b:Int):=Zw
 have bL:IntKind.i64.wrap ((j:Int) - 1)=(f:Int):=Zw
 have bN:(b:Int)<(i:Int)+1:=O
 have bO:(f:Int)<(ref.size:Int)+1:=O
 have bP:(b:Int)<read.size:=O
 have bQ:(f:Int)<ref.size:=O
 have bR:IntKind.i64.wrap (m2+u)=m2+u:=Zw
 have fy:=aw.o.2
 have fz:=(aw.o.1.any j O).2
 have br:s.drew.cell? ⟨p,j,none⟩=some (I J 1000000000):=fy
 have bs:s.drew.frozen? ⟨p,j,none⟩=false:=fz
 clear hu az aB aC af ax ay aA bp aQ aa ab
 go_upto_region 17 with fail
 refine A5 57 (fun W=>W.cell? ⟨G,2,none⟩=some (.slice (some ⟨t,oM,none⟩) (i+1) T)∧W.cell? ⟨G,3,none⟩=some (.slice (some ⟨z,oI,none⟩) (i+1) V)∧W.cell? ⟨G,4,none⟩=some (.slice (some ⟨A,oD,none⟩) (i+1) X)∧W.cell? ⟨t,oM+i,none⟩=some (.slice (some ⟨p,0,none⟩) (ref.size+1) (ref.size+1))∧W.cell? ⟨t,oM+b,none⟩=some (.slice (some ⟨C b,0,none⟩) (ref.size+1) (ref.size+1))∧W.cell? ⟨z,oI+b,none⟩=some (.slice (some ⟨D b,0,none⟩) (ref.size+1) (ref.size+1))∧W.cell? ⟨A,oD+b,none⟩=some (.slice (some ⟨E b,0,none⟩) (ref.size+1) (ref.size+1))∧W.cell? ⟨C b,f,none⟩=some (I J c1)∧W.cell? ⟨D b,f,none⟩=some (I J c2)∧W.cell? ⟨E b,f,none⟩=some (I J c3)) U ⟨g2,g3,g4,s0,s1,s2,s3,t1,t2,t3⟩ (fun hH=>?_)
 refine A2 0 ?_
 refine A2 1 ?_
 refine A2 2 ?_
 refine A2 3 ?_
 refine A2 4 ?_
 refine A2 5 ?_
 refine A2 6 ?_
 refine A2 7 ?_
 refine A2 8 ?_
 refine A2 9 ?_
 refine A2 10 ?_
 refine A2 11 ?_
 refine A2 12 ?_
 refine A2 13 ?_
 refine A2 14 ?_
 refine A2 15 ?_
 refine A2 16 ?_
 refine A2 17 ?_
 refine A2 18 ?_
 refine A2 19 ?_
 refine A2 20 ?_
 refine A2 21 ?_
 refine A2 22 ?_
 refine A2 23 ?_
 refine A2 24 ?_
 refine A2 25 ?_
 refine A2 26 ?_
 refine A2 27 ?_
 refine A2 28 ?_
 refine A2 29 ?_
 refine A2 30 ?_
 refine A2 31 ?_
 refine A2 32 ?_
 refine A2 33 ?_
 refine A2 34 ?_
 refine A2 35 ?_
 refine A2 36 ?_
 refine A2 37 ?_
 refine A2 38 ?_
 refine A2 39 ?_
 refine A2 40 ?_
 refine A2 41 ?_
 refine A2 42 ?_
 refine A2 43 ?_
 refine A2 46 ?_
 refine A2 47 ?_
 refine A2 48 ?_
 refine A2 49 ?_
 refine A2 50 ?_
 refine A2 51 ?_
 refine A2 52 ?_
 refine A2 53 ?_
 refine wpS 44 fun K n=>?_
 go_simp
 go_at_call 169
 refine (cA _).mono ?_
 rintro e wz ⟨rfl,rfl⟩
 refine E0 n hH ?_
 clear n K
 refine wpS 45 fun K n=>?_
 go_simp
 go_at_call 169
 refine (cB _).mono ?_
 rintro e wz ⟨rfl,rfl⟩
 refine E0 n hH ?_
 clear n K
 refine wpS 54 fun K n=>?_
 go_simp
 go_at_call 170
 refine (cU _).mono ?_
 rintro e wz ⟨rfl,rfl⟩
 refine E0 n hH ?_
 clear n K
 refine A2 55 ?_
 refine A2 56 ?_
 refine B6 (i:=57) U rfl U U (fun K n=>?_)
 go_simp
 refine n.out _ _ ?_
 clear n K hH
 try simp only[Act.put,zA0,zZ0,zS0]
 obtain⟨R,M⟩:=A8 ((s.setCell ⟨p,j,none⟩ (I J (m2+u))).drew)
 have bt:G7 g R p q r:=by rw[M];exact (aO.o.set _ _ _ (Or.inl rfl)).drewN 1
 have bu:RX R p (ref.size+1) j (fun k=>(cel 1000000000 (uR read ref) i k).m) (m2+u):=by rw[M];exact (aw.o.1.set O (m2+u)).other rfl
 have bv:RX R q (ref.size+1) j (fun k=>(cel 1000000000 (uR read ref) i k).i) 1000000000:=bl.o.other (by rw[M];exact heap_setCell_other s _ q _ (Ne.symm N))
 have bw:RX R r (ref.size+1) j (fun k=>(cel 1000000000 (uR read ref) i k).d) 1000000000:=bm.o.other (by rw[M];exact heap_setCell_other s _ r _ (Ne.symm P))
 rw[←M]
 clear M g2 g3 g4 s0 s1 s2 s3 t1 t2 t3 fy fz br bs cA cB cU
 go_wp2_with fail
 refine A4H read ref hn hm g G i t oM T z oI V A oD X p q r C D E hi ag ah N P Y j hj (m2+u) _ ?_ ?_ _ rfl _ (Fr.of _ rfl ⟨rfl,rfl,rfl,rfl,rfl,rfl,trivial⟩) R ⟨Nat.zero_le _,bt,bu,bv,bw⟩
 ·exact fun c a d v w h=>hQ0 c a d v w h
 intro a' wI S
 unfold A6J at S
 obtain⟨⟨_,aR,aS,aT,aU⟩,Q⟩:=S
 obtain⟨f0,rfl,l⟩:=Q
 simp only[Hs]at l
 simp only[fr,Y7,Nat.reduceAdd,l]
 clear l
 have aV:Hd (A4S read ref g p q r i j ((m2+u)) (S3 1000000000 (uR read ref) i j i) 0 wI):=⟨Nat.zero_le _,aR,aS,aT,aU⟩
 clear aR aS aT aU
 go_wp2_with fail
 refine A4o read ref hn hm g G i t oM T z oI V A oD X p q r C D E hi ag ah N P Y j hj ((m2+u)) (S3 1000000000 (uR read ref) i j i) _ ?_ ?_ _ rfl _ (Fr.of _ rfl ⟨rfl,rfl,rfl,rfl,rfl,rfl,trivial⟩) wI aV.o
 ·exact fun c a d v w h=>hQ0 c a d v w h
 intro a' wD S
 unfold A6b at S
 obtain⟨⟨_,aW,aX,aY,aZ⟩,Q⟩:=S
 obtain⟨f0,rfl,l⟩:=Q
 simp only[Hs]at l
 simp only[fr,Y7,Nat.reduceAdd,l]
 clear l
 have bx:Hd (A2v read ref g p q r i (j+1) wD):=⟨aW,aX.next bq.o,aY.next (A1Q 1000000000 O (uR read ref) (P0 read ref) j O i O),aZ.next (A1O 1000000000 O (uR read ref) (P0 read ref) i O j O)⟩
 have bS:IntKind.i64.wrap ((j:Int)+1)=((j+1:Nat):Int):=Zw
 have bT:j≤ref.size:=hj
 clear aW aX aY aZ aV
 go_wp2_with fail
 refine⟨?_,?_⟩
 ·exact⟨j+1,⟨O,bx.o⟩,Fr.of _ rfl ⟨rfl,rfl,rfl,rfl,rfl,trivial⟩⟩
 ·simp[JMu,intOf];omega
theorem B2w (read ref:ByteArray)(hm:ref.size≤600)(c:World)(G p q r i:Nat)(wr:World)(d:A2v read ref c p q r i (ref.size+1) wr)(f:Act)(l:Fr 277 [(0,.string read),(1,.string ref),(5,.pointer (some ⟨G,0,none⟩)),(6,I J i),(7,I J (((ref.size+1:Nat):Int)))] f)(m:Act→World→Prop)(g:Exit→Act→World→Prop)(h:∀j w',B0S read ref c G p q r i j w'→g (.exit 2) j w')(B:Code)(k:((Tryz.f124.body.bind B0).bind B0)=some B) :
 Code.wp Tryz.prog B (Exit.then m g) f wr:=by
 have a:=k
 conv at a=>lhs;whnf
 injection a with a
 subst a
 clear k
 obtain⟨f0,rfl,b⟩:=l
 simp only[Hs]at b
 simp only[fr,Y7,Nat.reduceAdd,b]
 clear b
 have n:=A4 h
 have s:=A4 d
 have t:¬(ref.size:Int)+1≤ref.size:=O
 clear h d
 go_wp2_with fail
 refine n.o _ _ ?_
 exact⟨s.o,Fr.of _ rfl ⟨rfl,rfl,rfl,rfl,trivial⟩⟩
theorem B1s (read ref:ByteArray)(A:read.size≤300)(hm:ref.size≤600)(b:World)(G i g oM o h oI s k oD t p q r:Nat)(l m n:Nat→Nat)(hi:i≤read.size)(C:∀W,G7 b W p q r→GF read ref W G i (.slice (some ⟨g,oM,none⟩) (i+1) o) (.slice (some ⟨h,oI,none⟩) (i+1) s) (.slice (some ⟨k,oD,none⟩) (i+1) t) g oM h oI k oD l m n)(D:l i=p∧m i=q∧n i=r)(E:p≠q)(F:p≠r)(H:q≠r)(f:Exit→Act→World→Prop)(hQ0:∀(c:List PanicEntry) (a:Act) (d:Option Tmp) (v:Value) (w:World),f (.panic c) (a.put d v) w→f (.panic c) a w)(N:∀u w',B0S read ref b G p q r i u w'→f (.exit 2) u w')(B:Code)(x:((Tryz.f124.body.bind B0).bind B0)=some B)(a:Act)(wx:World)(K:A4Q read ref b G p q r i a wx) :
 Code.wp Tryz.prog B (Exit.then (fun u w'=>A4Q read ref b G p q r i u w'∧JMu ref.size u w'<JMu ref.size a wx) f) a wx:=by
 unfold A4Q at K
 obtain⟨j,K⟩:=K
 obtain⟨⟨P,y⟩,z⟩:=K
 by_cases L:j≤ref.size
 ·by_cases h1:i=0
  ·by_cases M:j=0
   ·exact B1r read ref A hm b G i g oM o h oI s k oD t p q r l m n hi C D E F H j L h1 M wx y a z f hQ0 B x
   ·exact B1c read ref A hm b G i g oM o h oI s k oD t p q r l m n hi C D E F H j L h1 O wx y a z f hQ0 B x
  ·by_cases M:j=0
   ·exact B1d read ref A hm b G i g oM o h oI s k oD t p q r l m n hi C D E F H j L O M wx y a z f hQ0 B x
   ·exact B1v read ref A hm b G i g oM o h oI s k oD t p q r l m n hi C D E F H j L O O wx y a z f hQ0 B x
 ·obtain rfl:j=ref.size+1:=O
  exact B2w read ref hm b G p q r i wx y a z _ f N B x
theorem B2e (read ref:ByteArray)(x:read.size≤300)(hm:ref.size≤600)(b:World)(G i g oM n h oI o j oD s p q r:Nat)(k l m:Nat→Nat)(hi:i≤read.size)(y:∀W,G7 b W p q r→GF read ref W G i (.slice (some ⟨g,oM,none⟩) (i+1) n) (.slice (some ⟨h,oI,none⟩) (i+1) o) (.slice (some ⟨j,oD,none⟩) (i+1) s) g oM h oI j oD k l m)(z:k i=p∧l i=q∧m i=r)(A:p≠q)(C:p≠r)(D:q≠r)(f:Exit→Act→World→Prop)(hQ0:∀(c:List PanicEntry) (a:Act) (d:Option Tmp) (v:Value) (w:World),f (.panic c) (a.put d v) w→f (.panic c) a w)(E:∀t w',B0S read ref b G p q r i t w'→f (.exit 2) t w')(B:Code)(F:((Tryz.f124.body.bind B0).bind B0)=some B)(u:Act)(H:Fr 277 [(0,.string read),(1,.string ref),(5,.pointer (some ⟨G,0,none⟩)),(6,I J i),(7,I J (0))] u)(wx:World)(K:A2v read ref b p q r i 0 wx) :
 Code.wp Tryz.prog (Code.loop B) f u wx:=by
 refine wp_loop (A4Q read ref b G p q r i) (JMu ref.size) ?_ (fun a L M=>B1s read ref x hm b G i g oM n h oI o j oD s p q r k l m hi y z A C D f hQ0 E B F a L M)
 unfold A4Q
 exact⟨0,⟨Nat.zero_le _,K⟩,H⟩
theorem Tb.but {read ref:ByteArray}{base:Nat}{a W:World}{G i:Nat}{j oM k l oI m s oD u p q r:Nat}{w x y:Nat→Nat}
 (h:Tb read ref base a G (i+1) (i+1) (i+1) (.slice (some ⟨j,oM,none⟩) (i+1) k) (.slice (some ⟨l,oI,none⟩) (i+1) m) (.slice (some ⟨s,oD,none⟩) (i+1) u) w x y)
 (B:∀f,RP a p (ref.size+1) 0 f)(C:∀f,RP a q (ref.size+1) 0 f)(D:∀f,RP a r (ref.size+1) 0 f)(E:G7 a W p q r) :
 Tb read ref base W G (i+1) (i+1) (i+1) (.slice (some ⟨j,oM,none⟩) (i+1) k) (.slice (some ⟨l,oI,none⟩) (i+1) m) (.slice (some ⟨s,oD,none⟩) (i+1) u) w x y:=by
 have ne:∀{b:Nat} {cs:Array Value} {t:TypeId},t≠3→a.heap[b]?=some (.cells cs t (0,0))→W.heap[b]?=a.heap[b]?:=by
  intro b cs t ht d
  have aux:∀c,(∀f,RP a c (ref.size+1) 0 f)→b≠c:=by
   intro c F he
   subst he
   obtain⟨cur,h1,_⟩:=F (fun _=>0)
   rw[h1]at d
   simp at d
   exact ht d.2.symm
  exact E.other b (aux p B) (aux q C) (aux r D)
 have ow:∀{v:Value} {n:Nat} {xs:List Value},A3 a base 56 1 v n xs→A3 W base 56 1 v n xs:=by
  intro v n xs ho
  obtain⟨z,ho⟩:=ho
  rcases ho with ⟨rfl,rfl⟩ | ⟨g,o,cap,cur,rfl,h1,A,H⟩
  ·exact⟨z,Or.inl ⟨rfl,rfl⟩⟩
  ·exact⟨z,Or.inr ⟨g,o,cap,cur,rfl,h1,(ne Z A).trans A,H⟩⟩
 exact⟨(ne Z h.hG).trans h.hG,ow h.oM,ow h.oI,ow h.oD,h.dMI,h.dMD,h.dID⟩
def B0N (read ref:ByteArray)(w:World)(G:Nat)(a:Act)(wx:World):Prop:=∃i:Nat,(i≤read.size+1∧TbI read ref w wx G i)∧Fr 277 [(0,.string read),(1,.string ref),(5,.pointer (some ⟨G,0,none⟩)),(6,I J i)] a
def TMu (n:Nat)(a:Act)(_:World):Nat:=n+1-(intOf (a.tmps.getD 6 undef)).toNat
theorem A5I (read ref:ByteArray)(hn:read.size≤300)(hm:ref.size≤600)(w:World) :
 Calls Tryz.prog 124 #[.string read,.string ref] w fun e w'=>∃G,e=.returned (.pointer (some ⟨G,0,none⟩))∧TbI read ref w w' G (read.size+1):=by
 obtain⟨i3,bw,bx,bz,bA⟩:=info_parts Tryz.info3;obtain⟨is,ax,ay,az,aA⟩:=info_parts B0u;obtain⟨V,hZ,bX⟩:∃V:Array Value,V.size=ref.size+1∧∀W:World,(Instr.makeSlice 56 (I J ((ref.size:Int)+1)) (I J ((ref.size:Int)+1))).run Tryz.prog W=.ok (.slice (some ⟨W.heap.size,0,none⟩) (ref.size+1) (ref.size+1)) (W.alloc (.cells V 3)):=by
  refine⟨madeCells (I J 0).cells ((ref.size+1)*1),by rw[size_madeCells];omega,fun W=>?_⟩;have e:(ref.size:Int)+1=((ref.size+1:Nat):Int):=O;rw[e];have:=run_make (P:=Tryz.prog) W 56 3 i3 (I J 0) Tryz.underlying56 bw bx .i64 .i64 ((ref.size+1:Nat):Int) ((ref.size+1:Nat):Int) O O (by rw[bA];omega) O;rw[bz]at this;simpa using this
 have HZ:Hd (V.size=ref.size+1):=hZ;have bY:IntKind.i64.wrap ((ref.size:Int)+1)=(ref.size:Int)+1:=Zw;clear hZ;go_enter Tryz.func124,Tryz.ntmps124;go_wp2_with fail;have aB:Hd (TbI read ref w (w.alloc (.cells #[.string read,.string ref,.slice none 0 0,.slice none 0 0,.slice none 0 0] 288)) w.heap.size 0):=
  ⟨.slice none 0 0,.slice none 0 0,.slice none 0 0,fun _=>0,fun _=>0,fun _=>0,⟨heap_alloc_new w _,A3.nil _ _ _ _,A3.nil _ _ _ _,A3.nil _ _ _ _,fun g hg=>by simp[Value.ownBlock]at hg,fun g hg=>by simp[Value.ownBlock]at hg,fun g hg=>by simp[Value.ownBlock]at hg⟩,Nat.le_refl _,(Below.refl _ w).alloc (Nat.le_refl _) _,fun t ht=>absurd ht O⟩
 obtain⟨G,hG⟩:=A8 w.heap.size;rw[←hG]at aB⊢;clear hG;refine wp_loop (B0N read ref w G) (TMu read.size) ?_ ?_
 ·unfold B0N;exact⟨0,⟨Nat.zero_le _,aB.o⟩,Fr.of _ rfl ⟨rfl,rfl,rfl,rfl,trivial⟩⟩
 ·intro a wr hI;clear aB;unfold B0N at hI;obtain⟨i,hI⟩:=hI;obtain⟨⟨hi,vM,vI,vD,Q,D,A,R,ae,af,aj⟩,aC⟩:=hI;obtain⟨f0,rfl,X⟩:=aC;simp only[Hs]at X;simp only[fr,Y7,Nat.reduceAdd,X];clear X;by_cases hle:i≤read.size
  ·have bB:(i:Int)≤read.size:=O;have ag:=af.size;obtain⟨aM,L,bC⟩:=R.oM.shape;obtain⟨aI,C,bE⟩:=R.oI.shape;obtain⟨aD,z,bF⟩:=R.oD.shape;subst bC;subst bE;subst bF;obtain⟨w1,bG⟩:=A8 wr;subst bG;have M:Hd (Tb read ref w.heap.size w1 G i i i (.slice aM i L) (.slice aI i C) (.slice aD i z) Q D A):=R;have aY:Hd (Below w.heap.size w w1):=af;have aZ:Hd (∀t,t<i→RP w1 (Q t) (ref.size+1) (ref.size+1) (fun j=>(cel 1000000000 (uR read ref) t j).m)∧RP w1 (D t) (ref.size+1) (ref.size+1) (fun j=>(cel 1000000000 (uR read ref) t j).i)∧RP w1 (A t) (ref.size+1) (ref.size+1) (fun j=>(cel 1000000000 (uR read ref) t j).d)):=aj;have S:=lt_of_block R.hG;clear R af aj;go_upto_region 5 with fail;have f0:w1.cell? ⟨G,2,none⟩=some (.slice aM i L):=A1 M.o.hG rfl;refine A5 13 (fun W=>W.cell? ⟨G,2,none⟩=some (.slice aM i L)) U f0 (fun hH=>?_);refine A2 0 ?_;refine A2 1 ?_;refine A2 2 ?_;refine A2 3 ?_;refine A2 4 ?_;refine A2 5 ?_;refine A2 6 ?_;refine A2 7 ?_;refine wpS 8 fun K b=>?_;go_simp;have g0:∀ob,(w1.drew.alloc ob).cell? ⟨G,2,none⟩=some (.slice aM i L):=fun ob=>(World.cell?_of_block (Below.heap_alloc w1.drew ob G S)).trans f0;refine E0 b (g0 _) ?_;clear b K hH;refine wpS 9 fun K b=>?_;go_simp;have k0:∀s ob,((w1.drew.alloc s).alloc ob).cell? ⟨G,2,none⟩=some (.slice aM i L):=fun s ob=>(World.cell?_of_block (Below.heap_alloc (w1.drew.alloc s) ob G (by simp;exact Nat.lt_succ_of_lt S))).trans (g0 s);refine E0 b (k0 _ _) ?_;clear b K;refine wpS 10 fun K b=>?_;refine G3 rfl (.tmp 24) (.tmp 29) 286 rfl 56 is _ 1 24 Tryz.underlying286 ax ay az aA rfl Z w.heap.size (.slice aM i L) i (H8 Q i ref.size) (by simp[Act.eval]) (by exact((M.o.oM.drewN 1).alloc _).alloc _) ⟨w1.heap.size+1,0,none⟩ 1 [.slice (some ⟨w1.heap.size,0,none⟩) (ref.size+1) (ref.size+1)] (by simp[Act.eval]) rfl (by exact O7 _ [.slice (some ⟨w1.heap.size,0,none⟩) (ref.size+1) (ref.size+1)] 56 _ Zs) (by intro u hu;simp only[List.mem_cons,List.not_mem_nil,or_false]at hu;subst hu;rfl) (by unfold maxLen;omega) O Zo ?_;intro E oM N wM ba bb;have bc:Tb read ref w.heap.size w1.drew G i i i (.slice aM i L) (.slice aI i C) (.slice aD i z) Q D A:=⟨M.o.hG,M.o.oM,M.o.oI,M.o.oD,M.o.dMI,M.o.dMD,M.o.dID⟩;obtain⟨t0,m0,e0,aE⟩:=bc.addM ag ae V HZ.o E oM N ba bb;have ak:=A4 t0;have al:=A4 m0;have Y:=A4 e0;have bd:wM.cell? ⟨G,2,none⟩=some (.slice aM i L):=A1 aE rfl;have bH:wM.frozen? ⟨G,2,none⟩=false:=frozen_of_row _ _ _ _ _ aE;have hH:wM.cell? ⟨G,2,none⟩=some (.slice aM i L):=bd;clear t0 m0 e0 aE bc ba bb g0 k0;refine E0 b hH ?_;clear b K;refine wpS 11 fun K b=>?_;go_simp;refine E0 b hH ?_;clear b K;refine wpS 12 fun K b=>?_;go_simp;refine E0 b hH ?_;clear b K;refine B6 (i:=13) U rfl U U (fun K b=>?_);go_simp;refine b.out _ _ ?_;clear b K hH;try simp only[Act.put,zA0,zZ0,zS0]
   obtain⟨w2,be⟩:=A8 (wM.setCell ⟨G,2,none⟩ (.slice (some ⟨E,oM,none⟩) (i+1) N));rw[←be]at ak al Y⊢;obtain⟨l,aF⟩:=A8 ((fun t=>if t=i then w1.drew.heap.size else Q t):Nat→Nat);rw[←aF]at ak;have am:Hd (l=fun t=>if t=i then w1.heap.size else Q t):=aF;have F:Hd (Tb read ref w.heap.size w2 G (i+1) i i (.slice (some ⟨E,oM,none⟩) (i+1) N) (.slice aI i C) (.slice aD i z) l D A):=ak;have an:Hd (Made w1 w2 w1.heap.size ref.size):=⟨al.o.row,fun c n j f hc=>al.o.old c n j f (hc.other rfl),Nat.le_refl _⟩;have aG:Hd (Below w.heap.size w1 w2):=⟨Y.o.os,Y.o.tape,Y.o.output,Y.o.size,Y.o.block⟩;have bK:=aG.o.size;clear ak al Y be aF bd bH f0;have S:G<w2.heap.size:=lt_of_block F.o.hG;have ag:w.heap.size≤w2.heap.size:=O;go_upto_region 6 with fail;have f1:w2.cell? ⟨G,3,none⟩=some (.slice aI i C):=A1 F.o.hG rfl;refine A5 13 (fun W=>W.cell? ⟨G,3,none⟩=some (.slice aI i C)) U f1 (fun hH=>?_);refine A2 0 ?_;refine A2 1 ?_;refine A2 2 ?_;refine A2 3 ?_;refine A2 4 ?_;refine A2 5 ?_;refine A2 6 ?_;refine A2 7 ?_;refine wpS 8 fun K b=>?_;go_simp;have g1:∀ob,(w2.drew.alloc ob).cell? ⟨G,3,none⟩=some (.slice aI i C):=fun ob=>(World.cell?_of_block (Below.heap_alloc w2.drew ob G S)).trans f1;refine E0 b (g1 _) ?_;clear b K hH;refine wpS 9 fun K b=>?_;go_simp;have k1:∀s ob,((w2.drew.alloc s).alloc ob).cell? ⟨G,3,none⟩=some (.slice aI i C):=fun s ob=>(World.cell?_of_block (Below.heap_alloc (w2.drew.alloc s) ob G (by simp;exact Nat.lt_succ_of_lt S))).trans (g1 s);refine E0 b (k1 _ _) ?_;clear b K;refine wpS 10 fun K b=>?_;refine G3 rfl (.tmp 37) (.tmp 42) 286 rfl 56 is _ 1 24 Tryz.underlying286 ax ay az aA rfl Z w.heap.size (.slice aI i C) i (H8 D i ref.size) (by simp[Act.eval]) (by exact((F.o.oI.drewN 1).alloc _).alloc _) ⟨w2.heap.size+1,0,none⟩ 1 [.slice (some ⟨w2.heap.size,0,none⟩) (ref.size+1) (ref.size+1)] (by simp[Act.eval]) rfl (by exact O7 _ [.slice (some ⟨w2.heap.size,0,none⟩) (ref.size+1) (ref.size+1)] 56 _ Zs) (by intro u hu;simp only[List.mem_cons,List.not_mem_nil,or_false]at hu;subst hu;rfl) (by unfold maxLen;omega) O Zo ?_;intro T oI aa wI bf bg;have bh:Tb read ref w.heap.size w2.drew G (i+1) i i (.slice (some ⟨E,oM,none⟩) (i+1) N) (.slice aI i C) (.slice aD i z) l D A:=⟨F.o.hG,F.o.oM,F.o.oI,F.o.oD,F.o.dMI,F.o.dMD,F.o.dID⟩;obtain⟨t1,m1,e1,aH⟩:=bh.addI ag ae V HZ.o T oI aa bf bg;have ao:=A4 t1;have ap:=A4 m1;have ab:=A4 e1;have bi:wI.cell? ⟨G,3,none⟩=some (.slice aI i C):=A1 aH rfl;have bL:wI.frozen? ⟨G,3,none⟩=false:=frozen_of_row _ _ _ _ _ aH;have hH:wI.cell? ⟨G,3,none⟩=some (.slice aI i C):=bi;clear t1 m1 e1 aH bh bf bg g1 k1;refine E0 b hH ?_;clear b K;refine wpS 11 fun K b=>?_;go_simp;refine E0 b hH ?_;clear b K;refine wpS 12 fun K b=>?_;go_simp;refine E0 b hH ?_;clear b K;refine B6 (i:=13) U rfl U U (fun K b=>?_);go_simp;refine b.out _ _ ?_;clear b K hH;try simp only[Act.put,zA0,zZ0,zS0]
   obtain⟨k,bj⟩:=A8 (wI.setCell ⟨G,3,none⟩ (.slice (some ⟨T,oI,none⟩) (i+1) aa));rw[←bj]at ao ap ab⊢;obtain⟨x,aJ⟩:=A8 ((fun t=>if t=i then w2.drew.heap.size else D t):Nat→Nat);rw[←aJ]at ao;have aq:Hd (x=fun t=>if t=i then w2.heap.size else D t):=aJ;have H:Hd (Tb read ref w.heap.size k G (i+1) (i+1) i (.slice (some ⟨E,oM,none⟩) (i+1) N) (.slice (some ⟨T,oI,none⟩) (i+1) aa) (.slice aD i z) l x A):=ao;have ah:Hd (Made w2 k w2.heap.size ref.size):=⟨ap.o.row,fun c n j f hc=>ap.o.old c n j f (hc.other rfl),Nat.le_refl _⟩;have aK:Hd (Below w.heap.size w2 k):=⟨ab.o.os,ab.o.tape,ab.o.output,ab.o.size,ab.o.block⟩;have bN:=aK.o.size;clear ao ap ab bj aJ bi bL f1;have S:G<k.heap.size:=lt_of_block H.o.hG;have ag:w.heap.size≤k.heap.size:=O;go_upto_region 7 with fail;have f2:k.cell? ⟨G,4,none⟩=some (.slice aD i z):=A1 H.o.hG rfl;refine A5 13 (fun W=>W.cell? ⟨G,4,none⟩=some (.slice aD i z)) U f2 (fun hH=>?_);refine A2 0 ?_;refine A2 1 ?_;refine A2 2 ?_;refine A2 3 ?_;refine A2 4 ?_;refine A2 5 ?_;refine A2 6 ?_;refine A2 7 ?_;refine wpS 8 fun K b=>?_;go_simp;have g2:∀ob,(k.drew.alloc ob).cell? ⟨G,4,none⟩=some (.slice aD i z):=fun ob=>(World.cell?_of_block (Below.heap_alloc k.drew ob G S)).trans f2;refine E0 b (g2 _) ?_;clear b K hH;refine wpS 9 fun K b=>?_;go_simp;have k2:∀s ob,((k.drew.alloc s).alloc ob).cell? ⟨G,4,none⟩=some (.slice aD i z):=fun s ob=>(World.cell?_of_block (Below.heap_alloc (k.drew.alloc s) ob G (by simp;exact Nat.lt_succ_of_lt S))).trans (g2 s);refine E0 b (k2 _ _) ?_;clear b K;refine wpS 10 fun K b=>?_;refine G3 rfl (.tmp 50) (.tmp 55) 286 rfl 56 is _ 1 24 Tryz.underlying286 ax ay az aA rfl Z w.heap.size (.slice aD i z) i (H8 A i ref.size) (by simp[Act.eval]) (by exact((H.o.oD.drewN 1).alloc _).alloc _) ⟨k.heap.size+1,0,none⟩ 1 [.slice (some ⟨k.heap.size,0,none⟩) (ref.size+1) (ref.size+1)] (by simp[Act.eval]) rfl (by exact O7 _ [.slice (some ⟨k.heap.size,0,none⟩) (ref.size+1) (ref.size+1)] 56 _ Zs) (by intro u hu;simp only[List.mem_cons,List.not_mem_nil,or_false]at hu;subst hu;rfl) (by unfold maxLen;omega) O Zo ?_;intro gD oD ai wD bk bl;have bm:Tb read ref w.heap.size k.drew G (i+1) (i+1) i (.slice (some ⟨E,oM,none⟩) (i+1) N) (.slice (some ⟨T,oI,none⟩) (i+1) aa) (.slice aD i z) l x A:=⟨H.o.hG,H.o.oM,H.o.oI,H.o.oD,H.o.dMI,H.o.dMD,H.o.dID⟩;obtain⟨t2,m2,e2,aL⟩:=bm.addD ag ae V HZ.o gD oD ai bk bl;have ar:=A4 t2;have au:=A4 m2;have ac:=A4 e2;have bn:wD.cell? ⟨G,4,none⟩=some (.slice aD i z):=A1 aL rfl;have bO:wD.frozen? ⟨G,4,none⟩=false:=frozen_of_row _ _ _ _ _ aL;have hH:wD.cell? ⟨G,4,none⟩=some (.slice aD i z):=bn;clear t2 m2 e2 aL bm bk bl g2 k2;refine E0 b hH ?_;clear b K;refine wpS 11 fun K b=>?_;go_simp;refine E0 b hH ?_;clear b K;refine wpS 12 fun K b=>?_;go_simp;refine E0 b hH ?_;clear b K;refine B6 (i:=13) U rfl U U (fun K b=>?_);go_simp;refine b.out _ _ ?_;clear b K hH;try simp only[Act.put,zA0,zZ0,zS0]
   obtain⟨y,bo⟩:=A8 (wD.setCell ⟨G,4,none⟩ (.slice (some ⟨gD,oD,none⟩) (i+1) ai));rw[←bo]at ar au ac⊢;obtain⟨B,aN⟩:=A8 ((fun t=>if t=i then k.drew.heap.size else A t):Nat→Nat);rw[←aN]at ar;have av:Hd (B=fun t=>if t=i then k.heap.size else A t):=aN;have aO:Hd (Tb read ref w.heap.size y G (i+1) (i+1) (i+1) (.slice (some ⟨E,oM,none⟩) (i+1) N) (.slice (some ⟨T,oI,none⟩) (i+1) aa) (.slice (some ⟨gD,oD,none⟩) (i+1) ai) l x B):=ar;have ad:Hd (Made k y k.heap.size ref.size):=⟨au.o.row,fun c n j f hc=>au.o.old c n j f (hc.other rfl),Nat.le_refl _⟩;have aP:Hd (Below w.heap.size k y):=⟨ac.o.os,ac.o.tape,ac.o.output,ac.o.size,ac.o.block⟩;have bP:=aP.o.size;clear ar au ac bo aN bn bO f2;obtain⟨p,hp⟩:=A8 w1.heap.size;obtain⟨q,hq⟩:=A8 w2.heap.size;obtain⟨r,hr⟩:=A8 k.heap.size;rw[←hp]at an am;rw[←hq]at ah aq;rw[←hr]at ad av;have bp:=fun f=>an.o.row f;have aQ:=fun f=>ah.o.old _ _ _ _ (bp f);have aR:=fun f=>ad.o.old _ _ _ _ (aQ f).1;have bq:=fun f=>ah.o.row f;have aS:=fun f=>ad.o.old _ _ _ _ (bq f);have br:=fun f=>ad.o.row f;have bQ:p≠q:=(aQ (fun _=>0)).2;have bR:p≠r:=(aR (fun _=>0)).2;have bS:q≠r:=(aS (fun _=>0)).2;have bs:Hd (∀t,t<i→(RP y (l t) (ref.size+1) (ref.size+1) (fun j=>(cel 1000000000 (uR read ref) t j).m)∧RP y (x t) (ref.size+1) (ref.size+1) (fun j=>(cel 1000000000 (uR read ref) t j).i)∧RP y (B t) (ref.size+1) (ref.size+1) (fun j=>(cel 1000000000 (uR read ref) t j).d))∧(l t≠p∧l t≠q∧l t≠r)∧(x t≠p∧x t≠q∧x t≠r)∧(B t≠p∧B t≠q∧B t≠r)):=by
    intro t ht;obtain⟨x1,x2,x3⟩:=aZ.o t ht;have up:∀c n j f,RP w1 c n j f→RP y c n j f∧c≠p∧c≠q∧c≠r:=by
     intro c n j f hc;have a1:=an.o.old _ _ _ _ hc;have a2:=ah.o.old _ _ _ _ a1.1;have a3:=ad.o.old _ _ _ _ a2.1;exact⟨a3.1,a1.2,a2.2,a3.2⟩
    have eM:l t=Q t:=by rw[am.o];simp only;rw[if_neg O]
    have eI:x t=D t:=by rw[aq.o];simp only;rw[if_neg O]
    have eD:B t=A t:=by rw[av.o];simp only;rw[if_neg O]
    rw[eM,eI,eD];exact⟨⟨(up _ _ _ _ x1).1,(up _ _ _ _ x2).1,(up _ _ _ _ x3).1⟩,(up _ _ _ _ x1).2,(up _ _ _ _ x2).2,(up _ _ _ _ x3).2⟩
   have bt:l i=p:=by rw[am.o];simp
   have bu:x i=q:=by rw[aq.o];simp
   have bv:B i=r:=by rw[av.o];simp
   have aT:Hd (∀f,RP y p (ref.size+1) 0 f):=fun f=>(aR f).1;have aU:Hd (∀f,RP y q (ref.size+1) 0 f):=fun f=>(aS f).1;have aV:Hd (∀f,RP y r (ref.size+1) 0 f):=br;have bT:Hd (∀W,G7 y W p q r→GF read ref W G i (.slice (some ⟨E,oM,none⟩) (i+1) N) (.slice (some ⟨T,oI,none⟩) (i+1) aa) (.slice (some ⟨gD,oD,none⟩) (i+1) ai) E oM T oI gD oD l x B):=fun W hb=>aO.o.gf aT.o aU.o aV.o bs.o hb;have bU:Hd (Below w.heap.size w y):=((aY.o.trans aG.o).trans aK.o).trans aP.o;have aW:Hd (w.heap.size≤p∧w.heap.size≤q∧w.heap.size≤r):=⟨O,O,O⟩;have aw:Hd (l i=p∧x i=q∧B i=r):=⟨bt,bu,bv⟩;clear bp aQ aR bq aS br bt bu bv hp hq hr an ah ad am aq av aG aK aP aZ aY bK bN bP;have bZ:=aO;go_wp2_with fail;refine B2e read ref hn hm y G i E oM N T oI aa gD oD ai p q r l x B hle bT.o aw.o bQ bR bS _ ?_ ?_ _ rfl _ (Fr.of _ rfl ⟨rfl,rfl,rfl,rfl,rfl,trivial⟩) y ⟨G7.refl _ _ _ _,aT.o _,aU.o _,aV.o _⟩
   ·intro c a d v w h;cases d<;>exact h
   intro a' wJ hE;unfold B0S at hE;obtain⟨⟨bJ,pJ,qJ,rJ⟩,aC⟩:=hE;obtain⟨f0,rfl,X⟩:=aC;simp only[Hs]at X;simp only[fr,Y7,Nat.reduceAdd,X];clear X;have aX:Hd (TbI read ref w wJ G (i+1)):=by
    refine⟨_,_,_,l,x,B,aO.o.but aT.o aU.o aV.o bJ,ae,bU.o.trans (bJ.below aW.o.1 aW.o.2.1 aW.o.2.2),fun t ht=>?_⟩;by_cases bV:t<i
    ·obtain⟨⟨x1,x2,x3⟩,n1,n2,n3⟩:=bs.o t bV;exact⟨x1.other (bJ.other _ n1.1 n1.2.1 n1.2.2),x2.other (bJ.other _ n2.1 n2.2.1 n2.2.2),x3.other (bJ.other _ n3.1 n3.2.1 n3.2.2)⟩
    ·obtain rfl:t=i:=O;rw[aw.o.1,aw.o.2.1,aw.o.2.2];exact⟨pJ,qJ,rJ⟩
   clear bJ pJ qJ rJ;have ca:IntKind.i64.wrap ((i:Int)+1)=((i+1:Nat):Int):=Zw;go_wp2_with fail;refine⟨?_,?_⟩
   ·unfold B0N;exact⟨i+1,⟨O,aX.o⟩,Fr.of _ rfl ⟨rfl,rfl,rfl,rfl,trivial⟩⟩
   ·simp[TMu,intOf];omega
  ·have bW:i=read.size+1:=O;subst bW;have bB:¬(read.size:Int)+1≤read.size:=O;have aX:Hd (TbI read ref w wr G (read.size+1)):=⟨vM,vI,vD,Q,D,A,R,ae,af,aj⟩;clear R af aj;go_wp2_with fail;go_ret;exact⟨G,rfl,aX.o⟩
def numOf (o:Option UInt8):Nat×UInt8:=match o with
 |some c=>((B2 c).toNat,c)
 |none=>(9,0)
theorem A9R (a b:Option UInt8)(g:∀c,a=some c→0≤B2 c)(i:∀c,b=some c→0≤B2 c):((numOf a).1=(numOf b).1↔(numOf a).2=(numOf b).2)∧((numOf a).1=4↔(numOf a).2=78):=by
 have f:∀(o:Option UInt8),(∀c,o=some c→0≤B2 c)→numOf o∈([(0,65),(1,67),(2,71),(3,84),(4,78),(9,0)]:List (Nat×UInt8)):=by
  intro o ho;cases o with
  |none=>simp[numOf]
  |some c=>
   have h:=ho c rfl;show((B2 c).toNat,c)∈_;rcases Q1 c with⟨rfl,e⟩|⟨rfl,e⟩|⟨rfl,e⟩|⟨rfl,e⟩|⟨rfl,e⟩|⟨e,_⟩
   ·rw[e];decide
   ·rw[e];decide
   ·rw[e];decide
   ·rw[e];decide
   ·rw[e];decide
   ·omega
 have h1:=f a g;have d:=f b i;generalize numOf a=x at h1;generalize numOf b=y at d;revert h1 d;have key:∀x∈([(0,65),(1,67),(2,71),(3,84),(4,78),(9,0)]:List (Nat×UInt8)),∀y∈([(0,65),(1,67),(2,71),(3,84),(4,78),(9,0)]:List (Nat×UInt8)),(x.1=y.1↔x.2=y.2)∧(x.1=4↔x.2=78):=Z;intro h1 d;exact key x h1 y d
theorem A4Y (l:List UInt8)(i:Nat):(nums l).getD i 9=(numOf l[i]?).1∧l.getD i 0=(numOf l[i]?).2:=by
 unfold nums;rw[List.getD_eq_getElem?_getD,List.getElem?_map,List.getD_eq_getElem?_getD];cases l[i]?<;>exact⟨rfl,rfl⟩
theorem A48 {s:ByteArray}(h:good s)(i:Nat):∀c,s.data.toList[i]?=some c→0≤B2 c:=fun c a=>(U8 s).1 h c (List.mem_of_getElem? a)
theorem B1K {read ref:ByteArray}(h1:good read)(a:good ref):sN (nums read.data.toList) (nums ref.data.toList)=sR read ref:=by
 funext i j;unfold sN sR sB;obtain⟨b,a2⟩:=A4Y read.data.toList i;obtain⟨b1,b2⟩:=A4Y ref.data.toList j;obtain⟨k1,k2⟩:=A9R _ _ (A48 h1 i) (A48 a j);rw[b,a2,b1,b2];exact decide_eq_decide.2 (and_congr k1 (not_congr k2))
theorem B1L {read ref:ByteArray}(h1:good read)(a:good ref):uN (nums read.data.toList) (nums ref.data.toList)=uR read ref:=by
 funext i j;have h:=congrFun (congrFun (B1K h1 a) i) j;have e1:uN (nums read.data.toList) (nums ref.data.toList) i j=if sN (nums read.data.toList) (nums ref.data.toList) i j=true then 0 else 4:=by
  unfold uN prC sN;simp only[decide_eq_true_eq]
 have b:uR read ref i j=if sR read ref i j=true then 0 else 4:=rfl;rw[e1,b,h]
theorem pth_fwd {read ref:ByteArray}(h1:good read)(a:good ref)(b:read.size≤300)(hm:ref.size≤600):(pth (nums read.data.toList) (nums ref.data.toList)).reverse=fwd read ref:=by
 have c:(nums read.data.toList).length=read.size:=by rw[nums_length];simp
 have d:(nums ref.data.toList).length=ref.size:=by rw[nums_length];simp
 unfold pth fwd;rw[c,d,B1L h1 a,A3D 1048576 1000000000 O O (uR read ref) (P0 read ref) _ _ _ 0 b hm]
theorem B0P {read ref:ByteArray}(h1:good read)(a:good ref)(b:read.size≤300)(hm:ref.size≤600):A1E (sR read ref) (fwd read ref) (0,0)=A0V (sN (nums read.data.toList) (nums ref.data.toList)) (pth (nums read.data.toList) (nums ref.data.toList)) (nums read.data.toList).length (nums ref.data.toList).length:=by
 have c:(nums read.data.toList).length=read.size:=by rw[nums_length];simp
 have d:(nums ref.data.toList).length=ref.size:=by rw[nums_length];simp
 rw[←pth_fwd h1 a b hm,B1K h1 a];refine A43 _ _ _ _ ?_;unfold pth;rw[B1L h1 a];exact A0M 1048576 O (uR read ref) (P0 read ref) _ _ _ 0 O O (Nat.le_refl _)
theorem scT_fwd {read ref:ByteArray}(h1:good read)(a:good ref)(c:read.size≤300)(hm:ref.size≤600) :
 scE read.data.toList ref.data.toList=0∧scT read.data.toList ref.data.toList=G1 (rl (fwd read ref) (fwd read ref).length).2∧scN read.data.toList ref.data.toList=A1E (sR read ref) (fwd read ref) (0,0):=by
 have e1:read.data.toList.length=read.size:=Zs;have d:ref.data.toList.length=ref.size:=Zs;have b:scE read.data.toList ref.data.toList=0:=by
  unfold scE;rw[e1,d,if_neg O,if_pos ⟨(U8 read).1 h1,(U8 ref).1 a⟩]
 refine⟨b,?_,?_⟩
 ·unfold scT;rw[if_pos b,←pth_fwd h1 a c hm,List.length_reverse]
 ·unfold scN;rw[if_pos b,B0P h1 a c hm]
end
end Go.Proofs.YtilcmkiihefkkaaGreatDoor
