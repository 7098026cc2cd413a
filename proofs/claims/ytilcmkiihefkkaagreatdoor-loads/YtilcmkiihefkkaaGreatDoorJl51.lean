import Derived.Test.YtilcmkiihefkkaaGreatDoorJl49
import Derived.Test.YtilcmkiihefkkaaGreatDoorJl50
set_option linter.unusedVariables false
set_option linter.unusedSimpArgs false
set_option maxRecDepth 1000000
set_option maxHeartbeats 64000000
open Go.Value renaming int→I
open Go.IntKind renaming i64→J
namespace Go.Proofs.YtilcmkiihefkkaaGreatDoor
section
open Go.Shelf Go.ChangeShapes Go.WideShapes Go.ChangeAt Go.RowKit
open Go.ChangeMaps (open_string shut_string)
theorem A5b (os:Os)(started:os.Started)(H:Type)(enc:TypeId×Value→H)(F:Stop.Interp) :
 ReturnsInHanded {} Tryz.checked os 4 .any ((Rows.OpenSpec.upto Rows.loadsSpec).preRow enc Tryz.prog Tryz.f4 Rows.loadsUptoRow.domain false Rows.loadsUptoRow.laid) (((Rows.OpenSpec.upto Rows.loadsSpec).at F).post enc Tryz.prog Tryz.f4 false true false false):=by
 obtain⟨x,l,m⟩:=B0M (o:=DataW.whole enc Tryz.prog ((World.laidAll Tryz.prog os B1m).forCall (fun _ _=>0) ⟨#[],#[.string ByteArray.empty,.string ByteArray.empty,.agg #[I J 0,I J 0,.float .f64 0],.slice none 0 0],[]⟩).memory Tryz.f4.params.toList (Rows.OpenSpec.upto Rows.loadsSpec).vars false #[.string ByteArray.empty,.string ByteArray.empty,.agg #[I J 0,I J 0,.float .f64 0],.slice none 0 0].toList 8) (f:=fun x=>Rows.uptoSmall H (x.1++x.2.1)) (b:=true) U
 refine returnsInHanded_of_row (C:=Tryz.checked) (s:=Rows.OpenSpec.upto Rows.loadsSpec) Tryz.ownG started U Tryz.func4
  (A1o (World.laidAll Tryz.prog os B1m) #[.string ByteArray.empty,.string ByteArray.empty,.agg #[I J 0,I J 0,.float .f64 0],.slice none 0 0] (World.laidAll_os _ _ _) (World.shaped_of_ZipB U U) U
   (OpenSpec.preRow_of_cond 8 l rfl (fun k hk=>by cases hk;exact m) U (by rw[MakeChecks.laidMetH_plain _ _ _ U];exact laidMet_laidAll _ U U))) ?_
 clear l m x
 intro W base args n gs before r u _ G aj K _ _
 have hk:Rows.uptoSmall H (n++gs)=true:=G _ rfl
 have c:∀(j:Nat) t v,Tryz.f4.params[j]?=some t→args[j]?=some v→Value.okWide Tryz.prog W .any base t v:=r
 have i:=u
 obtain⟨p,q,w,L,rfl,ak,al⟩:=u
 have z:DataW.TrodAll enc Tryz.prog W 0 (fun _=>true) true Tryz.f4.params.toList args.toList n p:=w
 rw[Tryz.params4]at z c
 obtain⟨v0,am,d0,an,p0,q0,ao,rfl,rfl,A,M⟩:=trodAll_cons z
 obtain⟨v1,ap,d1,aq,p1,q1,rfl,rfl,rfl,h1,N⟩:=trodAll_cons M
 obtain⟨v2,ar,d2,au,P,q2,rfl,rfl,rfl,B,Q⟩:=trodAll_cons N
 obtain⟨v3,av,d3,aw,R,q3,rfl,rfl,rfl,D,S⟩:=trodAll_cons Q
 obtain⟨rfl,rfl,rfl⟩:=trodAll_nil S
 obtain rfl:args=#[v0,v1,v2,v3]:=by cases args;simp_all
 obtain⟨rfl,rfl⟩:=trodVars_none L
 have T:=A
 have k1:=h1
 have k2:=B
 have V:=D
 have d:=B0X hk
 simp only[List.append_nil,Rows.uptoBulkAll]at d
 obtain⟨a0,rfl,rfl,rfl,w0⟩:=open_string Tryz.underlying9 (c 0 9 v0 rfl rfl) A
 have X:a0.size≤140737488351232:=by
  have e:a0.data.toList.length=a0.size:=rfl
  simp only[Rows.uptoBulk]at d
  omega
 obtain⟨g,rfl,rfl,rfl,w1⟩:=open_string Tryz.underlying9 (c 1 9 v1 rfl rfl) h1
 have Y:g.size≤140737488351232:=by
  have e:g.data.toList.length=g.size:=rfl
  simp only[Rows.uptoBulk]at d
  omega
 obtain⟨aa,ab,ac,rfl,ad,ax⟩:=A4t (c 2 24 v2 rfl rfl) B
 obtain⟨ae,af,ag,rfl⟩:=okWide_slice Tryz.underlying25 (c 3 25 v3 rfl rfl)
 obtain⟨ah,ai⟩:=A9R D (by have h9:=d;clear hk;omega)
 obtain⟨ht,hl⟩:=A6Q K
 clear w r
 simp only[List.append_nil,List.nil_append]at i
 have E:∀y∈P++R,y.block<W.heap.size:=fun y a=>by simpa using i.lt y (by simpa using a)
 refine (Mn.loads_any a0 g aa ab ac af ag ae W X Y ad ah ai (Lib.tabBelow_of_tabIs ht) hl).mono fun e W' ⟨he,bel⟩=>?_
 subst he
 have g0:=Below.trod Tryz.laidG U (of_decide_eq_true U) T bel (fun y a=>by cases a)
 have g1:=Below.trod Tryz.laidG U (of_decide_eq_true U) k1 bel (fun y a=>by cases a)
 have g2:=Below.trod Tryz.laidG U (of_decide_eq_true U) k2 bel (fun y a=>E y (by simp[a]))
 have g3:=Below.trod Tryz.laidG U (of_decide_eq_true U) V bel (fun y a=>E y (by simp[a]))
 exact⟨_,rfl,_,_,_,[],_,[],i,trodAll_mk1 (shut_bool Tryz.underlying4 _),(trodAll_cons_mk g0 (trodAll_cons_mk g1 (trodAll_cons_mk g2 (trodAll_mk1 g3)))),rfl,bel.frame _,fun h=>by cases h⟩
theorem A9q:Rows.LoadsUptoSaid:=
 OpenClaim.holds_of_cond 4 Tryz.f4 rfl rfl rfl rfl rfl rfl rfl ⟨rfl,rfl,rfl,rfl,rfl⟩ rfl rfl rfl rfl rfl U Tryz.func4 U
  (of_decide_eq_true U) (by unfold Func.isWrapper;first | (rw[if_pos (by decide +kernel)];kernel_rfl) | (rw[if_neg (by decide +kernel)];exact⟨rfl,rfl⟩))
  (fun os started H enc _ F=>by rw[OpenClaim.pre_eq_preRow];exact A5b os started H enc F)
theorem loads_holds:Rows.LoadsUptoCardSaid:=
 Claim7.holds_tied_plain_at .later [] [.data,.data,.data,.sentinel,.sentinel,.data,.pinned] true (true,"a3f0a3d7dddd0f40e9b2c302b34ff28a80833b9ecb03a97e3cd0b383ebecd343") true
  A9q (fun _ h=>by cases h) U (fun _ h=>by cases h) loadsUpto_row_tie rfl ⟨rfl,rfl⟩ U rfl
  (fun f fn a b=>by
   obtain rfl:f=4:=Option.some.inj ((show Tryz.prog.funcNamed "pilgrim/pilgrimlaw.Loads"=some 4 by kernel_rfl).symm.trans a) |>.symm
   obtain rfl:fn=Tryz.f4:=(Option.some.inj (Tryz.func4.symm.trans b)).symm
   exact⟨U,fun j t ht=>by
    rw[Tryz.params4]at ht
    have hm:t∈[9,9,24,25]:=by simpa using Array.mem_of_getElem? ht
    have c:([9,9,24,25].all fun u=>!Tryz.prog.wantsStandIn u)=true:=U
    exact (show Tryz.prog.wantsStandIn t=false by simpa using List.all_eq_true.1 c t hm)⟩)
  U
#print axioms loads_holds
end
end Go.Proofs.YtilcmkiihefkkaaGreatDoor
