import Derived.Test.YtilcmkiihefkkaaGreatDoorJf50
import Derived.Test.YtilcmkiihefkkaaGreatDoorJf51
set_option linter.unusedVariables false
set_option linter.unusedSimpArgs false
set_option maxRecDepth 1000000
set_option maxHeartbeats 64000000
open Go.Value renaming int→I
open Go.IntKind renaming i64→J
namespace Go.Proofs.YtilcmkiihefkkaaGreatDoor
section
open Go.Shelf Go.ChangeShapes Go.WideShapes Go.ChangeAt Go.RowKit
open Go.ChangeMaps (open_string shut_string)
theorem A4q (os:Os)(started:os.Started)(H:Type)(enc:TypeId×Value→H)(F:Stop.Interp) :
 ReturnsInHanded {} Tryz.checked os 5 .any ((Rows.OpenSpec.upto Rows.apartSpec).preRow enc Tryz.prog Tryz.f5 Rows.apartUptoRow.domain false Rows.apartUptoRow.laid) (((Rows.OpenSpec.upto Rows.apartSpec).at F).post enc Tryz.prog Tryz.f5 false true false false):=by
 obtain⟨x,m,n⟩:=A5y (o:=DataW.whole enc Tryz.prog ((World.laidAll Tryz.prog os A47).forCall (fun _ _=>0) ⟨#[],#[.string ByteArray.empty,.string ByteArray.empty,.agg #[I J 0,I J 0,.float .f64 0],.agg #[I J 0,I J 0,.float .f64 0],.slice none 0 0,.slice none 0 0],[]⟩).memory Tryz.f5.params.toList (Rows.OpenSpec.upto Rows.apartSpec).vars false #[.string ByteArray.empty,.string ByteArray.empty,.agg #[I J 0,I J 0,.float .f64 0],.agg #[I J 0,I J 0,.float .f64 0],.slice none 0 0,.slice none 0 0].toList 8) (f:=fun x=>Rows.uptoSmall H (x.1++x.2.1)) (b:=true) U
 refine returnsInHanded_of_row (C:=Tryz.checked) (s:=Rows.OpenSpec.upto Rows.apartSpec) Tryz.ownG started U Tryz.func5
  (T5 (World.laidAll Tryz.prog os A47) #[.string ByteArray.empty,.string ByteArray.empty,.agg #[I J 0,I J 0,.float .f64 0],.agg #[I J 0,I J 0,.float .f64 0],.slice none 0 0,.slice none 0 0] (World.laidAll_os _ _ _) (World.shaped_of_ZipB U U) U
   (OpenSpec.preRow_of_cond 8 m rfl (fun k hk=>by cases hk;exact n) U (by rw[MakeChecks.laidMetH_plain _ _ _ U];exact laidMet_laidAll _ U U))) ?_
 clear m n x
 intro W base args r gs before u w _ L aw M _ _
 have hk:Rows.uptoSmall H (r++gs)=true:=L _ rfl
 have c:∀(j:Nat) t v,Tryz.f5.params[j]?=some t→args[j]?=some v→Value.okWide Tryz.prog W .any base t v:=u
 have l:=w
 obtain⟨p,q,z,N,rfl,ax,ay⟩:=w
 have A:DataW.TrodAll enc Tryz.prog W 0 (fun _=>true) true Tryz.f5.params.toList args.toList r p:=z
 rw[Tryz.params5]at A c
 obtain⟨v0,az,d0,aA,p0,q0,aB,rfl,rfl,B,P⟩:=trodAll_cons A
 obtain⟨v1,aC,d1,aD,p1,q1,rfl,rfl,rfl,h1,Q⟩:=trodAll_cons P
 obtain⟨v2,aE,d2,aF,R,q2,rfl,rfl,rfl,D,S⟩:=trodAll_cons Q
 obtain⟨v3,aG,d3,aH,T,q3,rfl,rfl,rfl,E,V⟩:=trodAll_cons S
 obtain⟨v4,aI,d4,aJ,X,q4,rfl,rfl,rfl,G,Y⟩:=trodAll_cons V
 obtain⟨v5,aK,d5,aL,p5,q5,rfl,rfl,rfl,K,r5⟩:=trodAll_cons Y
 obtain⟨rfl,rfl,rfl⟩:=trodAll_nil r5
 obtain rfl:args=#[v0,v1,v2,v3,v4,v5]:=by cases args;simp_all
 obtain⟨rfl,rfl⟩:=trodVars_none N
 have k0:=B
 have k1:=h1
 have k2:=D
 have k3:=E
 have k4:=G
 have k5:=K
 have d:=A5w hk
 simp only[List.append_nil,Rows.uptoBulkAll]at d
 obtain⟨a0,rfl,rfl,rfl,w0⟩:=open_string Tryz.underlying9 (c 0 9 v0 rfl rfl) B
 have aa:a0.size≤140737488351232:=by
  have e:a0.data.toList.length=a0.size:=rfl
  simp only[Rows.uptoBulk]at d
  omega
 obtain⟨g,rfl,rfl,rfl,w1⟩:=open_string Tryz.underlying9 (c 1 9 v1 rfl rfl) h1
 have ab:g.size≤140737488351232:=by
  have e:g.data.toList.length=g.size:=rfl
  simp only[Rows.uptoBulk]at d
  omega
 obtain⟨ac,ad,ae,rfl,af,aM⟩:=A0e (c 2 24 v2 rfl rfl) D
 obtain⟨ag,ah,ai,rfl,aj,aN⟩:=A0e (c 3 24 v3 rfl rfl) E
 obtain⟨ak,al,am,rfl⟩:=okWide_slice Tryz.underlying25 (c 4 25 v4 rfl rfl)
 obtain⟨an,ao⟩:=A10 G (by have h9:=d;clear hk;omega)
 obtain⟨ap,aq,ar,rfl⟩:=okWide_slice Tryz.underlying25 (c 5 25 v5 rfl rfl)
 obtain⟨au,av⟩:=A10 K (by have h9:=d;clear hk;omega)
 obtain⟨ht,hl⟩:=A3i M
 clear z u
 simp only[List.append_nil,List.nil_append]at l
 have i:∀y∈R++T++X++p5,y.block<W.heap.size:=fun y a=>by simpa using l.lt y (by simpa using a)
 refine (Mn.apart_any a0 g ac ad ag ah ae ai ak ap al am aq ar W aa ab af aj an au ao av (Lib.tabBelow_of_tabIs ht) hl).mono fun e W' ⟨he,bel⟩=>?_
 subst he
 have g0:=Below.trod Tryz.laidG U (of_decide_eq_true U) k0 bel (fun y a=>by cases a)
 have g1:=Below.trod Tryz.laidG U (of_decide_eq_true U) k1 bel (fun y a=>by cases a)
 have g2:=Below.trod Tryz.laidG U (of_decide_eq_true U) k2 bel (fun y a=>i y (by simp[a]))
 have g3:=Below.trod Tryz.laidG U (of_decide_eq_true U) k3 bel (fun y a=>i y (by simp[a]))
 have g4:=Below.trod Tryz.laidG U (of_decide_eq_true U) k4 bel (fun y a=>i y (by simp[a]))
 have g5:=Below.trod Tryz.laidG U (of_decide_eq_true U) k5 bel (fun y a=>i y (by simp[a]))
 exact⟨_,rfl,_,_,_,[],_,[],l,trodAll_mk1 (shut_bool Tryz.underlying4 _),(trodAll_cons_mk g0 (trodAll_cons_mk g1 (trodAll_cons_mk g2 (trodAll_cons_mk g3 (trodAll_cons_mk g4 (trodAll_mk1 g5)))))),rfl,bel.frame _,fun h=>by cases h⟩
theorem A77:Rows.ApartUptoSaid:=
 OpenClaim.holds_of_cond 5 Tryz.f5 rfl rfl rfl rfl rfl rfl rfl ⟨rfl,rfl,rfl,rfl,rfl⟩ rfl rfl rfl rfl rfl U Tryz.func5 U
  (of_decide_eq_true U) (by unfold Func.isWrapper;first | (rw[if_pos (by decide +kernel)];kernel_rfl) | (rw[if_neg (by decide +kernel)];exact⟨rfl,rfl⟩))
  (fun os started H enc _ F=>by rw[OpenClaim.pre_eq_preRow];exact A4q os started H enc F)
theorem apart_holds:Rows.ApartUptoCardSaid:=
 Claim7.holds_tied_plain_at .later [] [.data,.data,.data,.sentinel,.sentinel,.data,.pinned] true (true,"a3f0a3d7dddd0f40e9b2c302b34ff28a80833b9ecb03a97e3cd0b383ebecd343") true
  A77 (fun _ h=>by cases h) U (fun _ h=>by cases h) apartUpto_row_tie rfl ⟨rfl,rfl⟩ U rfl
  (fun f fn a b=>by
   obtain rfl:f=5:=Option.some.inj ((show Tryz.prog.funcNamed "pilgrim/pilgrimlaw.Apart"=some 5 by kernel_rfl).symm.trans a) |>.symm
   obtain rfl:fn=Tryz.f5:=(Option.some.inj (Tryz.func5.symm.trans b)).symm
   exact⟨U,fun j t ht=>by
    rw[Tryz.params5]at ht
    have hm:t∈[9,9,24,24,25,25]:=by simpa using Array.mem_of_getElem? ht
    have c:([9,9,24,24,25,25].all fun u=>!Tryz.prog.wantsStandIn u)=true:=U
    exact (show Tryz.prog.wantsStandIn t=false by simpa using List.all_eq_true.1 c t hm)⟩)
  U
#print axioms apart_holds
end
end Go.Proofs.YtilcmkiihefkkaaGreatDoor
