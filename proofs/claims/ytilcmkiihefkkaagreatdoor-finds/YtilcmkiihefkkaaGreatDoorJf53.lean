import Derived.Test.YtilcmkiihefkkaaGreatDoorJf51
set_option linter.unusedVariables false
set_option linter.unusedSimpArgs false
set_option maxRecDepth 1000000
set_option maxHeartbeats 64000000
open Go.Value renaming int→I
open Go.IntKind renaming i64→J
namespace Go.Proofs.YtilcmkiihefkkaaGreatDoor
section
open Go.Shelf Go.ChangeShapes Go.WideShapes Go.ChangeAt Go.RowKit
open Go.ChangeMaps (open_string shut_string)
theorem A34 (os:Os)(started:os.Started)(H:Type)(enc:TypeId×Value→H)(F:Stop.Interp) :
 ReturnsInHanded {} Tryz.checked os 3 .any ((Rows.OpenSpec.upto Rows.findsSpec).preRow enc Tryz.prog Tryz.f3 Rows.findsUptoRow.domain false Rows.findsUptoRow.laid) (((Rows.OpenSpec.upto Rows.findsSpec).at F).post enc Tryz.prog Tryz.f3 false true false false):=by
 obtain⟨x,i,l⟩:=A5y (o:=DataW.whole enc Tryz.prog ((World.laidAll Tryz.prog os A47).forCall (fun _ _=>0) ⟨#[],#[.string ByteArray.empty,.agg #[I J 0,I J 0,.float .f64 0],.slice none 0 0],[]⟩).memory Tryz.f3.params.toList (Rows.OpenSpec.upto Rows.findsSpec).vars false #[.string ByteArray.empty,.agg #[I J 0,I J 0,.float .f64 0],.slice none 0 0].toList 8) (f:=fun x=>Rows.uptoSmall H (x.1++x.2.1)) (b:=true) U
 refine returnsInHanded_of_row (C:=Tryz.checked) (s:=Rows.OpenSpec.upto Rows.findsSpec) Tryz.ownG started U Tryz.func3
  (T5 (World.laidAll Tryz.prog os A47) #[.string ByteArray.empty,.agg #[I J 0,I J 0,.float .f64 0],.slice none 0 0] (World.laidAll_os _ _ _) (World.shaped_of_ZipB U U) U
   (OpenSpec.preRow_of_cond 8 i rfl (fun k hk=>by cases hk;exact l) U (by rw[MakeChecks.laidMetH_plain _ _ _ U];exact laidMet_laidAll _ U U))) ?_
 clear i l x
 intro W base args m gs before n r _ D ae E _ _
 have hk:Rows.uptoSmall H (m++gs)=true:=D _ rfl
 have c:∀(j:Nat) t v,Tryz.f3.params[j]?=some t→args[j]?=some v→Value.okWide Tryz.prog W .any base t v:=n
 have d:=r
 obtain⟨p,q,u,G,rfl,af,ag⟩:=r
 have w:DataW.TrodAll enc Tryz.prog W 0 (fun _=>true) true Tryz.f3.params.toList args.toList m p:=u
 rw[Tryz.params3]at w c
 obtain⟨v0,ah,d0,ai,p0,q0,aj,rfl,rfl,z,K⟩:=trodAll_cons w
 obtain⟨v1,ak,d1,al,L,q1,rfl,rfl,rfl,h1,M⟩:=trodAll_cons K
 obtain⟨v2,am,d2,an,N,q2,rfl,rfl,rfl,A,P⟩:=trodAll_cons M
 obtain⟨rfl,rfl,rfl⟩:=trodAll_nil P
 obtain rfl:args=#[v0,v1,v2]:=by cases args;simp_all
 obtain⟨rfl,rfl⟩:=trodVars_none G
 have Q:=z
 have k1:=h1
 have k2:=A
 have g:=A5w hk
 simp only[List.append_nil,Rows.uptoBulkAll]at g
 obtain⟨a0,rfl,rfl,rfl,w0⟩:=open_string Tryz.underlying9 (c 0 9 v0 rfl rfl) z
 have R:a0.size≤140737488351232:=by
  have e:a0.data.toList.length=a0.size:=rfl
  simp only[Rows.uptoBulk]at g
  omega
 obtain⟨S,T,V,rfl,X,ao⟩:=A0e (c 1 24 v1 rfl rfl) h1
 obtain⟨Y,aa,ab,rfl⟩:=okWide_slice Tryz.underlying25 (c 2 25 v2 rfl rfl)
 obtain⟨ac,ad⟩:=A10 A (by have h9:=g;clear hk;omega)
 obtain⟨ht,hl⟩:=A3i E
 clear u n
 simp only[List.append_nil,List.nil_append]at d
 have B:∀y∈L++N,y.block<W.heap.size:=fun y a=>by simpa using d.lt y (by simpa using a)
 refine (Mn.finds_any a0 S T V Y aa ab W R X ac ad (Lib.tabBelow_of_tabIs ht) hl).mono fun e W' ⟨he,bel⟩=>?_
 subst he
 have g0:=Below.trod Tryz.laidG U (of_decide_eq_true U) Q bel (fun y a=>by cases a)
 have g1:=Below.trod Tryz.laidG U (of_decide_eq_true U) k1 bel (fun y a=>B y (by simp[a]))
 have g2:=Below.trod Tryz.laidG U (of_decide_eq_true U) k2 bel (fun y a=>B y (by simp[a]))
 exact⟨_,rfl,_,_,_,[],_,[],d,trodAll_mk1 (shut_bool Tryz.underlying4 _),(trodAll_cons_mk g0 (trodAll_cons_mk g1 (trodAll_mk1 g2))),rfl,bel.frame _,fun h=>by cases h⟩
theorem A79:Rows.FindsUptoSaid:=
 OpenClaim.holds_of_cond 3 Tryz.f3 rfl rfl rfl rfl rfl rfl rfl ⟨rfl,rfl,rfl,rfl,rfl⟩ rfl rfl rfl rfl rfl U Tryz.func3 U
  (of_decide_eq_true U) (by unfold Func.isWrapper;first | (rw[if_pos (by decide +kernel)];kernel_rfl) | (rw[if_neg (by decide +kernel)];exact⟨rfl,rfl⟩))
  (fun os started H enc _ F=>by rw[OpenClaim.pre_eq_preRow];exact A34 os started H enc F)
theorem finds_holds:Rows.FindsUptoCardSaid:=
 Claim7.holds_tied_plain_at .later [] [.data,.data,.data,.sentinel,.sentinel,.data,.pinned] true (true,"a3f0a3d7dddd0f40e9b2c302b34ff28a80833b9ecb03a97e3cd0b383ebecd343") true
  A79 (fun _ h=>by cases h) U (fun _ h=>by cases h) findsUpto_row_tie rfl ⟨rfl,rfl⟩ U rfl
  (fun f fn a b=>by
   obtain rfl:f=3:=Option.some.inj ((show Tryz.prog.funcNamed "pilgrim/pilgrimlaw.Finds"=some 3 by kernel_rfl).symm.trans a) |>.symm
   obtain rfl:fn=Tryz.f3:=(Option.some.inj (Tryz.func3.symm.trans b)).symm
   exact⟨U,fun j t ht=>by
    rw[Tryz.params3]at ht
    have hm:t∈[9,24,25]:=by simpa using Array.mem_of_getElem? ht
    have c:([9,24,25].all fun u=>!Tryz.prog.wantsStandIn u)=true:=U
    exact (show Tryz.prog.wantsStandIn t=false by simpa using List.all_eq_true.1 c t hm)⟩)
  U
#print axioms finds_holds
end
end Go.Proofs.YtilcmkiihefkkaaGreatDoor
