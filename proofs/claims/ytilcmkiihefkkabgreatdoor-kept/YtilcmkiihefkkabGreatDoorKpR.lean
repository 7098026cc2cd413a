import Derived.Below
import Derived.Carry
import Derived.ChangeOld
import Derived.ChangeSlices
import Derived.Deep.Strs
import Derived.Ground.NamesProg
import Derived.LaidOnce
import Derived.Laws.Cover2
import Derived.Lay
import Derived.Lib.LaidRTab
import Derived.Lib.LaidTab
import Derived.Lib.LaidU8
import Derived.OpenShut
import Derived.PinnedBridge
import Derived.ProofKit
import Derived.SevenTiedAt
import Derived.Shelf.Unicode.PredsPay
import Derived.ShutString
import Derived.SizedLaws
import Derived.Test.YtilcmkiihefkkabGreatDoorCards
import Derived.Test.YtilcmkiihefkkabGreatDoorKpA
import Derived.Test.YtilcmkiihefkkabGreatDoorRows
import Derived.Test.YtilcmkiihefkkabGreatDoorTie
import Derived.WalkKit
section
set_option linter.unusedVariables false
set_option linter.unusedSimpArgs false
set_option maxRecDepth 100000
namespace Go.Proofs.YtilcmkiihefkkabGreatDoor
open Go.Shelf Go.ChangeShapes Go.WideShapes Go.ChangeAt Go.RowKit
open Go.ChangeMaps (open_string shut_string)
theorem Tryz.ownG : ownKnob Tryz.prog.godebug = none := by kernel_rfl
theorem Tryz.laidG : laidOutB Tryz.prog = true := by kernel_rfl
theorem Tryz.cells3g : Tryz.prog.cellsOf 3 = 1 := by kernel_rfl
def Tryz.laysIL_ren : Go.Shelf.Ren := ⟨fun | 200 => 102 | 261 => 139 | 311 => 155 | 312 => 156 | n => n, fun | 21 => 21 | 4 => 4 | 51 => 161 | 5 => 5 | 119 => 243 | 0 => 0 | 141 => 245 | 196 => 262 | 193 => 259 | 3 => 3 | 198 => 265 | 49 => 263 | 194 => 260 | 201 => 268 | 226 => 285 | 46 => 128 | 227 => 286 | n => n, fun | 7 => 1 | 8 => 2 | n => n⟩
theorem Tryz.laysIL : Go.Proofs.Lays.n200 Tryz.prog Tryz.laysIL_ren := {
  mixed := by kernel_rfl
  f200 := Tryz.func102.trans (congrArg some (by kernel_rfl))
  f261 := Tryz.func139.trans (congrArg some (by kernel_rfl))
  f311 := Tryz.func155.trans (congrArg some (by kernel_rfl))
  f312 := Tryz.func156.trans (congrArg some (by kernel_rfl))
  t0 := Tryz.underlying0
  a0 := Tryz.isAgg0
  z0 := Tryz.sizeOf0
  v0 := Tryz.zeroValue0
  t3 := Tryz.underlying3
  a3 := Tryz.isAgg3
  z3 := Tryz.sizeOf3
  v3 := Tryz.zeroValue3
  t4 := Tryz.underlying4
  a4 := Tryz.isAgg4
  z4 := Tryz.sizeOf4
  v4 := Tryz.zeroValue4
  t5 := Tryz.underlying5
  a5 := Tryz.isAgg5
  z5 := Tryz.sizeOf5
  v5 := Tryz.zeroValue5
  t21 := Tryz.underlying21
  a21 := Tryz.isAgg21
  z21 := Tryz.sizeOf21
  v21 := Tryz.zeroValue21
  t46 := Tryz.underlying128
  a46 := Tryz.isAgg128
  z46 := Tryz.sizeOf128
  v46 := Tryz.zeroValue128
  t49 := Tryz.underlying263
  a49 := Tryz.isAgg263
  z49 := Tryz.sizeOf263
  v49 := Tryz.zeroValue263
  t51 := Tryz.underlying161
  a51 := Tryz.isAgg161
  z51 := Tryz.sizeOf161
  v51 := Tryz.zeroValue161
  t119 := Tryz.underlying243
  a119 := Tryz.isAgg243
  z119 := Tryz.sizeOf243
  t141 := Tryz.underlying245
  a141 := Tryz.isAgg245
  z141 := Tryz.sizeOf245
  v141 := Tryz.zeroValue245
  t193 := Tryz.underlying259
  a193 := Tryz.isAgg259
  z193 := Tryz.sizeOf259
  v193 := Tryz.zeroValue259
  t194 := Tryz.underlying260
  a194 := Tryz.isAgg260
  z194 := Tryz.sizeOf260
  v194 := Tryz.zeroValue260
  t196 := Tryz.underlying262
  a196 := Tryz.isAgg262
  z196 := Tryz.sizeOf262
  v196 := Tryz.zeroValue262
  t198 := Tryz.underlying265
  a198 := Tryz.isAgg265
  z198 := Tryz.sizeOf265
  v198 := Tryz.zeroValue265
  t201 := Tryz.underlying268
  a201 := Tryz.isAgg268
  z201 := Tryz.sizeOf268
  v201 := Tryz.zeroValue268
  t226 := Tryz.underlying285
  a226 := Tryz.isAgg285
  z226 := Tryz.sizeOf285
  v226 := Tryz.zeroValue285
  t227 := Tryz.underlying286
  a227 := Tryz.isAgg286
  z227 := Tryz.sizeOf286
  v227 := Tryz.zeroValue286
  g7 := by kernel_rfl
  g8 := by kernel_rfl }
theorem Tryz.xIL : RExtra Tryz.prog Tryz.laysIL_ren := ⟨by kernel_rfl, by kernel_rfl, by kernel_rfl, by kernel_rfl, by kernel_rfl, by kernel_rfl, by kernel_rfl, by kernel_rfl⟩
/-- the variables that the rows list -/
def laid7 : List (String × DataW Unit) := Rows.keptRow.laid
theorem tab_of_reads {P : Program} {W : World} {name : String} {k : IntKind} {zs : List Int} {g : Nat} {t e : TypeId} {n : Nat}
    (hg : P.globalNamed name = some g) (hty : (P.globals[g]?).map (·.type) = some t) (ht : P.underlying t = some (.array n e)) (he : P.underlying e = some (.int k)) (hce : P.cellsOf e = 1) (hct : P.cellsOf t = n)
    (h : Lib.VarReads P W name (Lib.tabData k zs)) : Lib.TabIs P W name k zs := by
  obtain ⟨g', t', cs, fuel, p, hg', ht', hvar, hd⟩ := h
  obtain rfl := Option.some.inj (hg.symm.trans hg')
  obtain rfl := Option.some.inj (hty.symm.trans ht')
  unfold Lib.TabIs
  rw [hvar, ← Lib.cells_of_tab ht he hce hct hd]
theorem pow_eq : (Rows.laid_internal_strconv_uint64pow10 : DataW Unit) = Lib.tabData .u64 Lib.pow10Tab := by kernel_rfl
theorem prop_eq : (Rows.laid_unicode_properties : DataW Unit) = Lib.tabData .u8 Lib.propertiesTab := by kernel_rfl
theorem laid_facts {W : World} (h : laidMetH Tryz.prog laid7 W) : Lib.TabIs Tryz.prog W "internal/strconv.uint64pow10" .u64 Lib.pow10Tab ∧ Mn.LtP W := by
  rw [MakeChecks.laidMetH_plain _ _ _ (by kernel_rfl)] at h
  have h1 := Lib.laidMet.reads h (n := "internal/strconv.uint64pow10") (d := Rows.laid_internal_strconv_uint64pow10) (.tail _ (.tail _ (.head _)))
  have h2 := Lib.laidMet.reads h (n := "unicode.properties") (d := Rows.laid_unicode_properties) (.tail _ (.tail _ (.tail _ (.tail _ (.tail _ (.head _))))))
  have h3 := Lib.laidMet.reads h (n := "unicode.Letter") (d := Rows.laid_unicode_Letter) (.tail _ (.tail _ (.tail _ (.tail _ (.tail _ (.tail _ (.head _)))))))
  rw [pow_eq] at h1
  rw [prop_eq] at h2
  have e3 : Rows.laid_unicode_Letter = Lib.rtabData Lib.letterT := Pinned.letter_eq
  rw [e3] at h3
  have t1 := tab_of_reads (g := (Tryz.prog.globalNamed "internal/strconv.uint64pow10").getD 0) (t := 304) (e := 91) (n := 20) (by kernel_rfl) (by kernel_rfl) Tryz.underlying304 Tryz.underlying91 (by kernel_rfl) (by kernel_rfl) h1
  have t2 := tab_of_reads (g := (Tryz.prog.globalNamed "unicode.properties").getD 0) (t := 243) (e := 5) (n := 256) (by kernel_rfl) (by kernel_rfl) Tryz.underlying243 Tryz.underlying5 (by kernel_rfl) (by kernel_rfl) h2
  have t3 := rvar_of_reads (g := Tryz.laysIL_ren.g 8) (ρ := Tryz.laysIL_ren) { Tryz.laysIL with } Tryz.xIL (by kernel_rfl) (by kernel_rfl) h3
  exact ⟨t1, isLetter_pays Tryz.laysIL (by kernel_rfl) W t2 t3⟩
/-- options, as they come in -/
theorem open_options {H : Type} {enc : TypeId × Value → H} {W : World} {base b0 : Nat} {sp : Nat → Bool} {held : Bool} {r : Reach} {v : Value} {d : DataW H} {ps : List MemPlace} (hv : Value.okWide Tryz.prog W r b0 24 v) (h : DataW.Trod enc Tryz.prog W base sp held 24 v d ps) :
    ∃ (k w : Int) (sc : Nat), v = .agg #[.int .i64 k, .int .i64 w, .float .f64 sc] ∧ (Lit.int .i64 k).wf = true ∧ (Lit.int .i64 w).wf = true ∧ ps = [] := by
  obtain ⟨cs, rfl, hsz⟩ := okWide_struct Tryz.underlying24 hv
  have hc : Tryz.prog.cellsOf 24 = 3 := by kernel_rfl
  have hcf : Tryz.prog.cellsOf 22 = 1 := by kernel_rfl
  rw [hc] at hsz
  obtain ⟨fuel, hf⟩ := h
  obtain ⟨y0, y1, y2, n, hx, _, h0, h1, h2⟩ := Go.Deep.trod_struct3 Tryz.underlying24 hf
  match hcs : cs.toList, (show cs.toList.length = 3 by simpa using hsz) with
  | [a, b, c], _ =>
    have e : Value.cells (.agg cs) = cs := rfl
    simp only [e, hcs, Tryz.cells3g, hcf] at h0 h1 h2
    obtain ⟨k, hk, hy0, wk⟩ := DataW.trod_int Tryz.underlying3 h0
    obtain ⟨w, hw, hy1, ww⟩ := DataW.trod_int Tryz.underlying3 h1
    simp at hk hw
    have hfl : ∃ sc, c = .float .f64 sc ∧ y2.2 = [] := by
      cases n with
      | zero => simp [DataW.trod] at h2
      | succ m =>
        simp only [DataW.trod, Tryz.underlying22] at h2
        cases c <;> simp_all
        rename_i kd bb
        obtain ⟨⟨h3, _⟩, h4⟩ := h2
        subst h3
        exact by rw [← h4]
    obtain ⟨sc, rfl, hp2⟩ := hfl
    subst hk hw
    refine ⟨k, w, sc, ?_, wk, ww, ?_⟩
    · congr 1
      rw [← Array.toArray_toList (xs := cs), hcs]
    · simp only [Prod.mk.injEq] at hx
      rw [hx.2, hy0, hy1, hp2]
      rfl
theorem i64_of_wf {n : Int} (h : (Lit.int .i64 n).wf = true) : -9223372036854775808 ≤ n ∧ n ≤ 9223372036854775807 := by
  have := bounds_i64 h
  omega
set_option maxHeartbeats 2000000 in
theorem kept_lifted (os : Os) (started : os.Started) (H : Type) (enc : TypeId × Value → H) :
    ReturnsInHanded {} Tryz.checked os 3 .any (fun w args => (Rows.keptSpec.pre enc Tryz.prog Tryz.f3 [] false w args ∧ laidMetH Tryz.prog laid7 w) ∧ sizedMet enc Tryz.prog Tryz.f3 (OpenSpec.ofChange Rows.keptSpec) false w args)
      (Rows.keptSpec.post enc Tryz.prog Tryz.f3 false true false false) := by
  refine returnsInHanded_of_change_and (C := Tryz.checked) (X := fun w _ => laidMetH Tryz.prog laid7 w) (fun _ _ _ hh h => h.of_heap hh) Tryz.ownG started (by kernel_rfl) Tryz.func3
    (ChangeSpec.witness_shaped (enc := enc) (C := Tryz.checked) (os := os) (X := fun w _ => laidMetH Tryz.prog laid7 w) false (World.laidAll Tryz.prog os laid7) #[.string ByteArray.empty, .string ByteArray.empty, .agg #[.int .i64 0, .int .i64 0, .float .f64 0], .string ByteArray.empty, .int .i64 0, .string ByteArray.empty] 8 (World.laidAll_os _ _ _)
      (World.shaped_of_ZipB (by kernel_rfl) (by kernel_rfl)) (by kernel_rfl) (by kernel_rfl) (by kernel_rfl)
      (by rw [MakeChecks.laidMetH_plain _ _ _ (by kernel_rfl)]; exact laidMet_laidAll _ (by kernel_rfl) (by kernel_rfl))) ?_
  intro W base args ds gs before hval0 hW hcnd hsz0 hL _
  have hval : ∀ (j : Nat) t v, Tryz.f3.params[j]? = some t → args[j]? = some v → Value.okWide Tryz.prog W .any base t v := hval0
  have hW' := hW
  obtain ⟨p, q, hA0, hV, rfl, hfz, hnd⟩ := hW
  have hA : DataW.TrodAll enc Tryz.prog W 0 (fun _ => true) true Tryz.f3.params.toList args.toList ds p := hA0
  rw [Tryz.params3] at hA hval
  have hsz : (DataW.weightsEach Tryz.prog (#[9, 9, 24, 9, 3, 9].toList ++ Rows.keptSpec.plain.varTypes Tryz.prog) (ds ++ gs)).all (· ≤ reachBytes) = true := hsz0
  obtain ⟨v0, vs0, d0, ds0, p0, q0, hargs, rfl, rfl, h0, r0⟩ := trodAll_cons hA
  obtain ⟨v1, vs1, d1, ds1, p1, q1, rfl, rfl, rfl, h1, r1⟩ := trodAll_cons r0
  obtain ⟨v2, vs2, d2, ds2, p2, q2, rfl, rfl, rfl, h2, r2⟩ := trodAll_cons r1
  obtain ⟨v3, vs3, d3, ds3, p3, q3, rfl, rfl, rfl, h3, r3⟩ := trodAll_cons r2
  obtain ⟨v4, vs4, d4, ds4, p4, q4, rfl, rfl, rfl, h4, r4⟩ := trodAll_cons r3
  obtain ⟨v5, vs5, d5, ds5, p5, q5, rfl, rfl, rfl, h5, r5⟩ := trodAll_cons r4
  obtain ⟨rfl, rfl, rfl⟩ := trodAll_nil r5
  obtain rfl : args = #[v0, v1, v2, v3, v4, v5] := by cases args; simp_all
  obtain ⟨rfl, rfl⟩ := trodVars_none hV
  have k0 := h0
  have k1 := h1
  have k2 := h2
  have k3 := h3
  have k4 := h4
  have k5 := h5
  obtain ⟨a0, rfl, rfl, rfl, w0⟩ := open_string Tryz.underlying9 (hval 0 9 v0 rfl rfl) h0
  obtain ⟨a1, rfl, rfl, rfl, w1⟩ := open_string Tryz.underlying9 (hval 1 9 v1 rfl rfl) h1
  obtain ⟨ok, ow, osc, rfl, wk, ww, hp3⟩ := open_options (hval 2 24 v2 rfl rfl) h2
  obtain ⟨a3, rfl, rfl, rfl, w3⟩ := open_string Tryz.underlying9 (hval 3 9 v3 rfl rfl) h3
  obtain ⟨x, rfl, rfl, rfl, wx⟩ := open_int Tryz.underlying3 (hval 4 3 v4 rfl rfl) h4
  obtain ⟨a5, rfl, rfl, rfl, w5⟩ := open_string Tryz.underlying9 (hval 5 9 v5 rfl rfl) h5
  have hs0 : a0.size ≤ 140737488351232 := by
    have := sized_string hsz (j := 0) (t := 9) rfl rfl
    simpa [reachBytes] using this
  have hs1 : a1.size ≤ 140737488351232 := by
    have := sized_string hsz (j := 1) (t := 9) rfl rfl
    simpa [reachBytes] using this
  have hs3 : a3.size ≤ 140737488351232 := by
    have := sized_string hsz (j := 3) (t := 9) rfl rfl
    simpa [reachBytes] using this
  have hs5 : a5.size ≤ 140737488351232 := by
    have := sized_string hsz (j := 5) (t := 9) rfl rfl
    simpa [reachBytes] using this
  obtain ⟨ht, hl⟩ := laid_facts hL
  clear hA0 hval0
  simp only [List.append_nil, List.nil_append] at hW'
  have hlt : ∀ y ∈ p2, y.block < W.heap.size := fun y hy => by simpa using hW'.lt y (by simpa using hy)
  refine (Mn.kept_any a0 a1 a3 ok ow osc x a5 W hs0 hs1 hs3 hs5 (i64_of_wf wk) (i64_of_wf ww) (i64_of_wf wx) (Lib.tabBelow_of_tabIs ht) hl).mono fun e W' ⟨he, bel⟩ => ?_
  subst he
  have g0 := Below.trod Tryz.laidG (by kernel_rfl) (of_decide_eq_true (by kernel_rfl)) k0 bel (fun y hy => by cases hy)
  have g1 := Below.trod Tryz.laidG (by kernel_rfl) (of_decide_eq_true (by kernel_rfl)) k1 bel (fun y hy => by cases hy)
  have g2 := Below.trod Tryz.laidG (by kernel_rfl) (of_decide_eq_true (by kernel_rfl)) k2 bel (fun y hy => hlt y hy)
  have g3 := Below.trod Tryz.laidG (by kernel_rfl) (of_decide_eq_true (by kernel_rfl)) k3 bel (fun y hy => by cases hy)
  have g4 := Below.trod Tryz.laidG (by kernel_rfl) (of_decide_eq_true (by kernel_rfl)) k4 bel (fun y hy => by cases hy)
  have g5 := Below.trod Tryz.laidG (by kernel_rfl) (of_decide_eq_true (by kernel_rfl)) k5 bel (fun y hy => by cases hy)
  exact ⟨_, rfl, _, _, _, [], _, [], hW', trodAll_mk1 (shut_bool Tryz.underlying4 _), (trodAll_cons_mk g0 (trodAll_cons_mk g1 (trodAll_cons_mk g2 (trodAll_cons_mk g3 (trodAll_cons_mk g4 (trodAll_mk1 g5)))))), rfl, bel.frame _, fun h => by cases h⟩
theorem kept_row : Rows.KeptSaid :=
  OpenClaim.holds_of_wide 3 Tryz.f3 rfl rfl rfl rfl rfl rfl rfl ⟨rfl, rfl, rfl, rfl, rfl⟩ rfl rfl rfl rfl rfl (by kernel_rfl) Tryz.func3 (by kernel_rfl)
    (of_decide_eq_true (by kernel_rfl)) (by unfold Func.isWrapper; first | (rw [if_pos (by decide +kernel)]; kernel_rfl) | (rw [if_neg (by decide +kernel)]; exact ⟨rfl, rfl⟩))
    (fun os started H enc _ => kept_lifted os started H enc)
theorem kept_holds : Rows.KeptCardSaid :=
  Claim7.holds_tied_plain_at .later [] [.data, .data, .data, .sentinel, .sentinel, .data, .pinned] true (true, "54dbd4a386ea2bd82fd596d337862e4ac40f6d95fa0e89dea06473d26ff94961") true
    kept_row (fun _ h => by cases h) (by kernel_rfl) (fun _ h => by cases h) kept_row_tie rfl ⟨rfl, rfl⟩ (by kernel_rfl) rfl
    (fun f fn hf hfn => by
      obtain rfl : f = 3 := Option.some.inj ((show Tryz.prog.funcNamed "pilgrim/pilgrimlaw.Kept" = some 3 by kernel_rfl).symm.trans hf) |>.symm
      obtain rfl : fn = Tryz.f3 := (Option.some.inj (Tryz.func3.symm.trans hfn)).symm
      exact ⟨by kernel_rfl, fun j t ht => by
        rw [Tryz.params3] at ht
        have hm : t ∈ [9, 9, 24, 9, 3, 9] := by simpa using Array.mem_of_getElem? ht
        have hall : ([9, 9, 24, 9, 3, 9].all fun u => !Tryz.prog.wantsStandIn u) = true := by kernel_rfl
        exact (show Tryz.prog.wantsStandIn t = false by simpa using List.all_eq_true.1 hall t hm)⟩)
    (by kernel_rfl)
end Go.Proofs.YtilcmkiihefkkabGreatDoor
end
