import Derived.Below
import Derived.Carry
import Derived.ChangeOld
import Derived.ChangeSlices
import Derived.Deep.Strs
import Derived.LaidOnce
import Derived.Laws.Cover2
import Derived.Lay
import Derived.Lib.LaidRTab
import Derived.Lib.LaidTab
import Derived.Lib.LaidU8
import Derived.OpenShut
import Derived.PinnedBridge
import Derived.ProofKit
import Derived.SevenTiedAt
import Derived.ShutString
import Derived.SizedLaws
import Derived.Test.YtilcmkiihefkkaaGreatDoorCards
import Derived.Test.YtilcmkiihefkkaaGreatDoorJt49
import Derived.Test.YtilcmkiihefkkaaGreatDoorRows
import Derived.Test.YtilcmkiihefkkaaGreatDoorTie
import Derived.WalkKit
section
set_option linter.unusedVariables false
set_option linter.unusedSimpArgs false
set_option maxRecDepth 100000
namespace Go.Proofs.YtilcmkiihefkkaaGreatDoor
open Go.Shelf Go.ChangeShapes Go.WideShapes Go.ChangeAt Go.RowKit
open Go.ChangeMaps (open_string shut_string)
theorem Tryz.ownG : ownKnob Tryz.prog.godebug = none := by kernel_rfl
theorem Tryz.laidG : laidOutB Tryz.prog = true := by kernel_rfl
theorem Tryz.cells3g : Tryz.prog.cellsOf 3 = 1 := by kernel_rfl
theorem Tryz.xIL : RExtra Tryz.prog Tryz.laysIL_ren := ⟨by kernel_rfl, by kernel_rfl, by kernel_rfl, by kernel_rfl, by kernel_rfl, by kernel_rfl, by kernel_rfl, by kernel_rfl⟩
/-- the variables that the rows list -/
def laid7 : List (String × DataW Unit) := Rows.trueRow.laid
theorem tab_of_reads {P : Program} {W : World} {name : String} {k : IntKind} {zs : List Int} {g : Nat} {t e : TypeId} {n : Nat}
    (hg : P.globalNamed name = some g) (hty : (P.globals[g]?).map (·.type) = some t) (ht : P.underlying t = some (.array n e)) (he : P.underlying e = some (.int k)) (hce : P.cellsOf e = 1) (hct : P.cellsOf t = n)
    (h : Lib.VarReads P W name (Lib.tabData k zs)) : Lib.TabIs P W name k zs := by
  obtain ⟨g', t', cs, fuel, p, hg', ht', hvar, hd⟩ := h
  obtain rfl := Option.some.inj (hg.symm.trans hg')
  obtain rfl := Option.some.inj (hty.symm.trans ht')
  unfold Lib.TabIs
  rw [hvar, ← Lib.cells_of_tab ht he hce hct hd]
theorem pow_eq : (Rows.laid_internal_strconv_uint64pow10 : DataW Unit) = Lib.tabData .u64 Lib.pow10Tab := by kernel_rfl
theorem prop_eq : (Rows.laid_unicode_properties : DataW Unit) = Lib.tabData .u8 Lib.propertiesTab := by kernel_rfl
theorem laid_facts {W : World} (h : laidMetH Tryz.prog laid7 W) : Lib.TabIs Tryz.prog W "internal/strconv.uint64pow10" .u64 Lib.pow10Tab ∧ Mn.LtP W := by
  rw [MakeChecks.laidMetH_plain _ _ _ (by kernel_rfl)] at h
  have h1 := Lib.laidMet.reads h (n := "internal/strconv.uint64pow10") (d := Rows.laid_internal_strconv_uint64pow10) (.tail _ (.tail _ (.head _)))
  have h2 := Lib.laidMet.reads h (n := "unicode.properties") (d := Rows.laid_unicode_properties) (.tail _ (.tail _ (.tail _ (.tail _ (.tail _ (.head _))))))
  have h3 := Lib.laidMet.reads h (n := "unicode.Letter") (d := Rows.laid_unicode_Letter) (.tail _ (.tail _ (.tail _ (.tail _ (.tail _ (.tail _ (.head _)))))))
  rw [pow_eq] at h1
  rw [prop_eq] at h2
  have e3 : Rows.laid_unicode_Letter = Lib.rtabData Lib.letterT := Pinned.letter_eq
  rw [e3] at h3
  have t1 := tab_of_reads (g := (Tryz.prog.globalNamed "internal/strconv.uint64pow10").getD 0) (t := 368) (e := 139) (n := 20) (by kernel_rfl) (by kernel_rfl) Tryz.underlying368 Tryz.underlying139 (by kernel_rfl) (by kernel_rfl) h1
  have t2 := tab_of_reads (g := (Tryz.prog.globalNamed "unicode.properties").getD 0) (t := 313) (e := 5) (n := 256) (by kernel_rfl) (by kernel_rfl) Tryz.underlying313 Tryz.underlying5 (by kernel_rfl) (by kernel_rfl) h2
  have t3 := rvar_of_reads (g := Tryz.laysIL_ren.g 8) (ρ := Tryz.laysIL_ren) { Tryz.laysIL with } Tryz.xIL (by kernel_rfl) (by kernel_rfl) h3
  exact ⟨t1, isLetter_pays Tryz.laysIL (by kernel_rfl) W t2 t3⟩
/-- options, as they come in -/
theorem open_options {H : Type} {enc : TypeId × Value → H} {W : World} {base b0 : Nat} {sp : Nat → Bool} {held : Bool} {r : Reach} {v : Value} {d : DataW H} {ps : List MemPlace} (hv : Value.okWide Tryz.prog W r b0 24 v) (h : DataW.Trod enc Tryz.prog W base sp held 24 v d ps) :
    ∃ (k w : Int) (sc : Nat), v = .agg #[.int .i64 k, .int .i64 w, .float .f64 sc] ∧ (Lit.int .i64 k).wf = true ∧ (Lit.int .i64 w).wf = true ∧ ps = [] := by
  obtain ⟨cs, rfl, hsz⟩ := okWide_struct Tryz.underlying24 hv
  have hc : Tryz.prog.cellsOf 24 = 3 := by kernel_rfl
  have hcf : Tryz.prog.cellsOf 22 = 1 := by kernel_rfl
  rw [hc] at hsz
  obtain ⟨fuel, hf⟩ := h
  obtain ⟨y0, y1, y2, n, hx, _, h0, h1, h2⟩ := Go.Deep.trod_struct3 Tryz.underlying24 hf
  match hcs : cs.toList, (show cs.toList.length = 3 by simpa using hsz) with
  | [a, b, c], _ =>
    have e : Value.cells (.agg cs) = cs := rfl
    simp only [e, hcs, Tryz.cells3g, hcf] at h0 h1 h2
    obtain ⟨k, hk, hy0, wk⟩ := DataW.trod_int Tryz.underlying3 h0
    obtain ⟨w, hw, hy1, ww⟩ := DataW.trod_int Tryz.underlying3 h1
    simp at hk hw
    have hfl : ∃ sc, c = .float .f64 sc ∧ y2.2 = [] := by
      cases n with
      | zero => simp [DataW.trod] at h2
      | succ m =>
        simp only [DataW.trod, Tryz.underlying22] at h2
        cases c <;> simp_all
        rename_i kd bb
        obtain ⟨⟨h3, _⟩, h4⟩ := h2
        subst h3
        exact by rw [← h4]
    obtain ⟨sc, rfl, hp2⟩ := hfl
    subst hk hw
    refine ⟨k, w, sc, ?_, wk, ww, ?_⟩
    · congr 1
      rw [← Array.toArray_toList (xs := cs), hcs]
    · simp only [Prod.mk.injEq] at hx
      rw [hx.2, hy0, hy1, hp2]
      rfl
theorem i64_of_wf {n : Int} (h : (Lit.int .i64 n).wf = true) : -9223372036854775808 ≤ n ∧ n ≤ 9223372036854775807 := by
  have := bounds_i64 h
  omega
/-- a list of whole numbers, as it comes in -/
theorem open_rdi {H : Type} {enc : TypeId × Value → H} {W : World} {r0 : Option Addr} {nr cr : Nat} {d : DataW H} {ps : List MemPlace} (h : DataW.Trod enc Tryz.prog W 0 (fun _ => true) true 56 (.slice r0 nr cr) d ps) : nr ≤ 9223372036854775807 ∧ Mn.RdI W r0 nr := by
  obtain ⟨fuel, hf⟩ := h
  rcases Go.ChangeShapes.open_ints Tryz.underlying56 Tryz.underlying3 Tryz.cells3g hf with ⟨hcs, _⟩ | ⟨a, len, cap, zs, hcs, _, hl, hm, hzl, _, hcell, hwf⟩
  · simp [Value.cells] at hcs
    obtain ⟨rfl, rfl, rfl⟩ := hcs
    exact ⟨by omega, Or.inl rfl⟩
  · simp [Value.cells] at hcs
    obtain ⟨rfl, rfl, rfl⟩ := hcs
    unfold maxLen at hm
    simp only [if_true] at hzl
    refine ⟨by omega, ?_⟩
    obtain ⟨b, off, spot⟩ := a
    by_cases hz0 : nr = 0
    · exact Or.inl hz0
    · have hspot : spot = none := by simpa [Addr.add] using World.cell?_spot (hcell 0 (by omega))
      subst hspot
      right
      have hc0 := hcell 0 (by omega)
      rw [add_plain] at hc0
      refine ⟨b, off, rfl, block_lt_of_cell hc0, fun j hj => ?_⟩
      have hcj := hcell j (by omega)
      rw [add_plain] at hcj
      have hj2 : j < zs.length := by omega
      have hb := bounds_i64 (hwf (zs.getD j 0) (by simp [hj2]))
      exact ⟨_, hcj, by omega, by omega⟩
set_option maxHeartbeats 2000000 in
theorem true_lifted (os : Os) (started : os.Started) (H : Type) (enc : TypeId × Value → H) :
    ReturnsInHanded {} Tryz.checked os 6 .any (fun w args => (Rows.trueSpec.pre enc Tryz.prog Tryz.f6 [] false w args ∧ laidMetH Tryz.prog laid7 w) ∧ sizedMet enc Tryz.prog Tryz.f6 (OpenSpec.ofChange Rows.trueSpec) false w args)
      (Rows.trueSpec.post enc Tryz.prog Tryz.f6 false true false false) := by
  refine returnsInHanded_of_change_and (C := Tryz.checked) (X := fun w _ => laidMetH Tryz.prog laid7 w) (fun _ _ _ hh h => h.of_heap hh) Tryz.ownG started (by kernel_rfl) Tryz.func6
    (ChangeSpec.witness_shaped (enc := enc) (C := Tryz.checked) (os := os) (X := fun w _ => laidMetH Tryz.prog laid7 w) false (World.laidAll Tryz.prog os laid7) #[.string ByteArray.empty, .string ByteArray.empty, .string ByteArray.empty, .agg #[.int .i64 0, .int .i64 0, .float .f64 0], .int .i64 0, .bool false, .slice none 0 0] 8 (World.laidAll_os _ _ _)
      (World.shaped_of_ZipB (by kernel_rfl) (by kernel_rfl)) (by kernel_rfl) (by kernel_rfl) (by kernel_rfl)
      (by rw [MakeChecks.laidMetH_plain _ _ _ (by kernel_rfl)]; exact laidMet_laidAll _ (by kernel_rfl) (by kernel_rfl))) ?_
  intro W base args ds gs before hval0 hW hcnd hsz0 hL _
  have hval : ∀ (j : Nat) t v, Tryz.f6.params[j]? = some t → args[j]? = some v → Value.okWide Tryz.prog W .any base t v := hval0
  have hW' := hW
  obtain ⟨p, q, hA0, hV, rfl, hfz, hnd⟩ := hW
  have hA : DataW.TrodAll enc Tryz.prog W 0 (fun _ => true) true Tryz.f6.params.toList args.toList ds p := hA0
  rw [Tryz.params6] at hA hval
  have hsz : (DataW.weightsEach Tryz.prog (#[9, 9, 9, 24, 3, 4, 56].toList ++ Rows.trueSpec.plain.varTypes Tryz.prog) (ds ++ gs)).all (· ≤ reachBytes) = true := hsz0
  obtain ⟨v0, vs0, d0, ds0, p0, q0, hargs, rfl, rfl, h0, r0⟩ := trodAll_cons hA
  obtain ⟨v1, vs1, d1, ds1, p1, q1, rfl, rfl, rfl, h1, r1⟩ := trodAll_cons r0
  obtain ⟨v2, vs2, d2, ds2, p2, q2, rfl, rfl, rfl, h2, r2⟩ := trodAll_cons r1
  obtain ⟨v3, vs3, d3, ds3, p3, q3, rfl, rfl, rfl, h3, r3⟩ := trodAll_cons r2
  obtain ⟨v4, vs4, d4, ds4, p4, q4, rfl, rfl, rfl, h4, r4⟩ := trodAll_cons r3
  obtain ⟨v5, vs5, d5, ds5, p5, q5, rfl, rfl, rfl, h5, r5⟩ := trodAll_cons r4
  obtain ⟨v6, vs6, d6, ds6, p6, q6, rfl, rfl, rfl, h6, r6⟩ := trodAll_cons r5
  obtain ⟨rfl, rfl, rfl⟩ := trodAll_nil r6
  obtain rfl : args = #[v0, v1, v2, v3, v4, v5, v6] := by cases args; simp_all
  obtain ⟨rfl, rfl⟩ := trodVars_none hV
  have k0 := h0
  have k1 := h1
  have k2 := h2
  have k3 := h3
  have k4 := h4
  have k5 := h5
  have k6 := h6
  obtain ⟨a0, rfl, rfl, rfl, w0⟩ := open_string Tryz.underlying9 (hval 0 9 v0 rfl rfl) h0
  obtain ⟨a1, rfl, rfl, rfl, w1⟩ := open_string Tryz.underlying9 (hval 1 9 v1 rfl rfl) h1
  obtain ⟨a2, rfl, rfl, rfl, w2⟩ := open_string Tryz.underlying9 (hval 2 9 v2 rfl rfl) h2
  obtain ⟨ok, ow, osc, rfl, wk, ww, hp3⟩ := open_options (hval 3 24 v3 rfl rfl) h3
  obtain ⟨x, rfl, rfl, rfl, wx⟩ := open_int Tryz.underlying3 (hval 4 3 v4 rfl rfl) h4
  obtain ⟨tb, rfl, rfl, rfl⟩ := open_bool Tryz.underlying4 (hval 5 4 v5 rfl rfl) h5
  obtain ⟨r0', nr, cr, rfl⟩ := okWide_slice Tryz.underlying56 (hval 6 56 v6 rfl rfl)
  have hs0 : a0.size ≤ 140737488351232 := by
    have := sized_string hsz (j := 0) (t := 9) rfl rfl
    simpa [reachBytes] using this
  have hs1 : a1.size ≤ 140737488351232 := by
    have := sized_string hsz (j := 1) (t := 9) rfl rfl
    simpa [reachBytes] using this
  have hs2 : a2.size ≤ 140737488351232 := by
    have := sized_string hsz (j := 2) (t := 9) rfl rfl
    simpa [reachBytes] using this
  obtain ⟨hnr, hRd⟩ := open_rdi h6
  obtain ⟨ht, hl⟩ := laid_facts hL
  clear hA0 hval0
  simp only [List.append_nil, List.nil_append] at hW'
  have hlt : ∀ y ∈ p3 ++ p6, y.block < W.heap.size := fun y hy => by simpa using hW'.lt y (by simpa using hy)
  refine (Mn.true_any a0 a1 a2 ok ow x osc tb r0' nr cr W hs0 hs1 hs2 (i64_of_wf wk) (i64_of_wf ww) (i64_of_wf wx) hnr hRd (Lib.tabBelow_of_tabIs ht) hl).mono fun e W' ⟨he, bel⟩ => ?_
  subst he
  have g0 := Below.trod Tryz.laidG (by kernel_rfl) (of_decide_eq_true (by kernel_rfl)) k0 bel (fun y hy => by cases hy)
  have g1 := Below.trod Tryz.laidG (by kernel_rfl) (of_decide_eq_true (by kernel_rfl)) k1 bel (fun y hy => by cases hy)
  have g2 := Below.trod Tryz.laidG (by kernel_rfl) (of_decide_eq_true (by kernel_rfl)) k2 bel (fun y hy => by cases hy)
  have g3 := Below.trod Tryz.laidG (by kernel_rfl) (of_decide_eq_true (by kernel_rfl)) k3 bel (fun y hy => hlt y (List.mem_append_left _ hy))
  have g4 := Below.trod Tryz.laidG (by kernel_rfl) (of_decide_eq_true (by kernel_rfl)) k4 bel (fun y hy => by cases hy)
  have g5 := Below.trod Tryz.laidG (by kernel_rfl) (of_decide_eq_true (by kernel_rfl)) k5 bel (fun y hy => by cases hy)
  have g6 := Below.trod Tryz.laidG (by kernel_rfl) (of_decide_eq_true (by kernel_rfl)) k6 bel (fun y hy => hlt y (List.mem_append_right _ hy))
  exact ⟨_, rfl, _, _, _, [], _, [], hW', trodAll_mk1 (shut_bool Tryz.underlying4 _), (trodAll_cons_mk g0 (trodAll_cons_mk g1 (trodAll_cons_mk g2 (trodAll_cons_mk g3 (trodAll_cons_mk g4 (trodAll_cons_mk g5 (trodAll_mk1 g6))))))), rfl, bel.frame _, fun h => by cases h⟩
theorem true_row : Rows.TrueSaid :=
  OpenClaim.holds_of_wide 6 Tryz.f6 rfl rfl rfl rfl rfl rfl rfl ⟨rfl, rfl, rfl, rfl, rfl⟩ rfl rfl rfl rfl rfl (by kernel_rfl) Tryz.func6 (by kernel_rfl)
    (of_decide_eq_true (by kernel_rfl)) (by unfold Func.isWrapper; first | (rw [if_pos (by decide +kernel)]; kernel_rfl) | (rw [if_neg (by decide +kernel)]; exact ⟨rfl, rfl⟩))
    (fun os started H enc _ => true_lifted os started H enc)
theorem true_holds : Rows.TrueCardSaid :=
  Claim7.holds_tied_plain_at .later [] [.data, .data, .data, .sentinel, .sentinel, .data, .pinned] true (true, "a3f0a3d7dddd0f40e9b2c302b34ff28a80833b9ecb03a97e3cd0b383ebecd343") true
    true_row (fun _ h => by cases h) (by kernel_rfl) (fun _ h => by cases h) true_row_tie rfl ⟨rfl, rfl⟩ (by kernel_rfl) rfl
    (fun f fn hf hfn => by
      obtain rfl : f = 6 := Option.some.inj ((show Tryz.prog.funcNamed "pilgrim/pilgrimlaw.True" = some 6 by kernel_rfl).symm.trans hf) |>.symm
      obtain rfl : fn = Tryz.f6 := (Option.some.inj (Tryz.func6.symm.trans hfn)).symm
      exact ⟨by kernel_rfl, fun j t ht => by
        rw [Tryz.params6] at ht
        have hm : t ∈ [9, 9, 9, 24, 3, 4, 56] := by simpa using Array.mem_of_getElem? ht
        have hall : ([9, 9, 9, 24, 3, 4, 56].all fun u => !Tryz.prog.wantsStandIn u) = true := by kernel_rfl
        exact (show Tryz.prog.wantsStandIn t = false by simpa using List.all_eq_true.1 hall t hm)⟩)
    (by kernel_rfl)
end Go.Proofs.YtilcmkiihefkkaaGreatDoor
end
