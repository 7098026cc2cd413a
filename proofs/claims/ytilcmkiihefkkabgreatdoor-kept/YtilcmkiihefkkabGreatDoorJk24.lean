import Derived.Test.YtilcmkiihefkkabGreatDoorJk17
import Derived.Test.YtilcmkiihefkkabGreatDoorJk22
import Derived.Test.YtilcmkiihefkkabGreatDoorJk6
import Derived.Test.YtilcmkiihefkkabGreatDoorJk9
section
set_option linter.unusedVariables false
set_option linter.unusedSimpArgs false
set_option maxRecDepth 100000
namespace Go.Proofs.YtilcmkiihefkkabGreatDoor.Mn
open Go.RowKit Go.Maps Go.MapKept Go.ChangeMaps
abbrev SdP (w : World) (base Gb n : Nat) (V : Int × Bool → Value) (A : Int × Bool → List (Int × Int)) : Prop := GrP Tryz.prog kS okS acells 109 140 2 w base Gb n V A
/-- the side of a hit, and the anchor -/
def sdOf (x y : W3) : Int × Bool := (y.h, x.b != y.b)
def anOf (len k : Int) (x y : W3) : Int × Int := (if (x.b != y.b) = true then len - k - x.p else x.p, y.p)
def gatA (len k : Int) (A : Int × Bool → List (Int × Int)) (x y : W3) : Int × Bool → List (Int × Int) := updF eqS A (sdOf x y) (A (sdOf x y) ++ [anOf len k x y])
/-- what ganchor leaves -/
def GaP (w : World) (base Gb n : Nat) (V : Int × Bool → Value) (s : Int × Bool) (A' : Int × Bool → List (Int × Int)) (e : Ending) (w' : World) : Prop :=
  e = .returned (.tuple #[]) ∧ (∃ V', SdP w' base Gb (n + 1) V' A') ∧ w.heap.size ≤ w'.heap.size ∧ (∀ g, g < w.heap.size → g ≠ Gb → (V s).ownBlock ≠ some g → w'.heap[g]? = w.heap[g]?) ∧ w'.os = w.os ∧ w'.tape = w.tape ∧ w'.output = w.output
theorem abox2 (W : World) (x y : Int) (s : Nat) (hs : s = W.heap.size) : ∀ j u, ([.int .i64 x, .int .i64 y] : List Value)[j]? = some u → (W.alloc (.cells #[.int .i64 x, .int .i64 y] 140)).cell? ((⟨s, 0, none⟩ : Addr).add j) = some u := abox_cells W _ _ _ s hs
set_option maxHeartbeats 4000000 in
theorem ganchor_ff (xh xp yh yp : Int) (len k cnt : Int) (kn Wn scn : Nat) (rv mv : Value) (Gt X Gb base n : Nat) (V : Int × Bool → Value) (A : Int × Bool → List (Int × Int)) (w : World) (hy : okS (yh, false)) (hn : n < 100000) (hA : (A (yh, false)).length < 100000) (hbase : base ≤ w.heap.size)
    (hlen : 0 ≤ len ∧ len ≤ 1000000) (hk : k = kn) (hkn : kn ≤ 12) (hp : 0 ≤ xp ∧ xp ≤ 1000000)
    (hG : w.heap[Gt]? = some (.cells #[.pointer (some ⟨X, 0, none⟩), .int .i64 len, .int .i64 cnt, .map (some Gb)] 136 (0, 0))) (hX : w.heap[X]? = some (.cells (#[.int .i64 kn, .int .i64 Wn, .float .f64 scn, rv, mv]) 59 (0, 0))) (hS : SdP w base Gb n V A) :
    Calls Tryz.prog 93 #[.pointer (some ⟨Gt, 0, none⟩), .agg #[.int .i64 xh, .int .i64 xp, .bool false], .agg #[.int .i64 yh, .int .i64 yp, .bool false]] w fun e w' =>
      GaP w base Gb n V (yh, false) (updF eqS A (yh, false) (A (yh, false) ++ [(xp, yp)])) e w' := by
  obtain ⟨i0, hi, hz0, hz1, hz2⟩ := info_parts Tryz.info140
  have HS : Hid (SdP w base Gb n V A) := hS
  have hGl : Gt < w.heap.size := lt_of_block hG
  have hXl : X < w.heap.size := lt_of_block hX
  have HG : Hid (w.heap[Gt]? = some (.cells #[.pointer (some ⟨X, 0, none⟩), .int .i64 len, .int .i64 cnt, .map (some Gb)] 136 (0, 0))) := hG
  have HX : Hid (w.heap[X]? = some (.cells (#[.int .i64 kn, .int .i64 Wn, .float .f64 scn, rv, mv]) 59 (0, 0))) := hX
  have hGbl : Gb < w.heap.size := hS.lt
  have HGG : Hid (Gt ≠ Gb) := by
    obtain ⟨D, ⟨es, clock, hb, _⟩, _⟩ := hS.map
    intro e; rw [e, hb] at hG; cases hG
  clear hG hX hS
  subst hk
  go_enter Tryz.func93, Tryz.ntmps93
  go_wp2_with fail
  obtain ⟨wA, hwA⟩ : ∃ W1 : World, W1 = (((w.alloc (Obj.cells #[Value.int IntKind.i64 xh, Value.int IntKind.i64 xp, Value.bool false] 124)).alloc (Obj.cells #[Value.int IntKind.i64 yh, Value.int IntKind.i64 yp, Value.bool false] 78)).alloc (Obj.cells #[Value.int IntKind.i64 yh, Value.bool false] 109)).alloc (Obj.cells #[Value.int IntKind.i64 xp, Value.int IntKind.i64 yp] 140) := ⟨_, rfl⟩
  rw [← hwA]
  have hbA : Below w.heap.size w wA := by rw [hwA]; exact ((((Below.refl _ _).alloc (Nat.le_refl _) _).alloc (by simp) _).alloc (by simp; omega) _).alloc (by simp; omega) _
  have hsA : wA.heap.size = w.heap.size + 4 := by rw [hwA]; simp
  have hA0 : wA.heap[w.heap.size]? = some (.cells #[Value.int IntKind.i64 xh, Value.int IntKind.i64 xp, Value.bool false] 124 (0, 0)) := by
    rw [hwA, Below.heap_alloc _ _ _ (by simp; omega), Below.heap_alloc _ _ _ (by simp; omega), Below.heap_alloc _ _ _ (by simp)]; exact heap_alloc_new w _
  have hA2 : wA.heap[w.heap.size + 1 + 1]? = some (.cells #[Value.int IntKind.i64 yh, Value.bool false] 109 (0, 0)) := by
    rw [hwA, Below.heap_alloc _ _ _ (by simp)]
    have := heap_alloc_new ((w.alloc (Obj.cells #[Value.int IntKind.i64 xh, Value.int IntKind.i64 xp, Value.bool false] 124)).alloc (Obj.cells #[Value.int IntKind.i64 yh, Value.int IntKind.i64 yp, Value.bool false] 78)) (Obj.cells #[Value.int IntKind.i64 yh, Value.bool false] 109)
    have e1 : ((w.alloc (Obj.cells #[Value.int IntKind.i64 xh, Value.int IntKind.i64 xp, Value.bool false] 124)).alloc (Obj.cells #[Value.int IntKind.i64 yh, Value.int IntKind.i64 yp, Value.bool false] 78)).heap.size = w.heap.size + 1 + 1 := by simp
    rw [e1] at this; exact this
  have hA3 : wA.heap[w.heap.size + 1 + 1 + 1]? = some (.cells #[Value.int IntKind.i64 xp, Value.int IntKind.i64 yp] 140 (0, 0)) := by
    rw [hwA]
    have := heap_alloc_new (((w.alloc (Obj.cells #[Value.int IntKind.i64 xh, Value.int IntKind.i64 xp, Value.bool false] 124)).alloc (Obj.cells #[Value.int IntKind.i64 yh, Value.int IntKind.i64 yp, Value.bool false] 78)).alloc (Obj.cells #[Value.int IntKind.i64 yh, Value.bool false] 109)) (Obj.cells #[Value.int IntKind.i64 xp, Value.int IntKind.i64 yp] 140)
    have e1 : (((w.alloc (Obj.cells #[Value.int IntKind.i64 xh, Value.int IntKind.i64 xp, Value.bool false] 124)).alloc (Obj.cells #[Value.int IntKind.i64 yh, Value.int IntKind.i64 yp, Value.bool false] 78)).alloc (Obj.cells #[Value.int IntKind.i64 yh, Value.bool false] 109)).heap.size = w.heap.size + 1 + 1 + 1 := by simp
    rw [e1] at this; exact this
  clear hwA
  have hbB := hbA
  have hsB := hsA
  have hB2 := hA2
  have hB3 := hA3
  clear hbA hsA hA2 hA3 hA0
  revert hbB hsB hB2 hB3
  generalize wA = wB
  intro hbB hsB hB2 hB3
  have hSB : SdP wB base Gb n V A := HS.out.kept (fun j hj => hbB.block j hj)
  have HVl : ∀ g, (V (yh, false)).ownBlock = some g → g < w.heap.size := fun g hg => ((HS.out.own _ hy).lt hg).2
  have g0 : ∀ W1 : World, (∀ j, j < w.heap.size + 4 → j ≠ Gb → (V (yh, false)).ownBlock ≠ some j → W1.heap[j]? = wB.heap[j]?) → W1.cell? ⟨Gt, 3, none⟩ = some (.map (some Gb)) ∧ W1.cell? ⟨w.heap.size + 1 + 1, 0, none⟩ = some (.int .i64 yh) ∧ W1.cell? ⟨w.heap.size + 1 + 1, 1, none⟩ = some (.bool false) ∧ W1.cell? ⟨w.heap.size + 1 + 1 + 1, 0, none⟩ = some (.int .i64 (xp)) ∧ W1.cell? ⟨w.heap.size + 1 + 1 + 1, 1, none⟩ = some (.int .i64 yp) := by
    intro W1 hW
    have k0 : W1.heap[Gt]? = some (.cells #[.pointer (some ⟨X, 0, none⟩), .int .i64 len, .int .i64 cnt, .map (some Gb)] 136 (0, 0)) := (hW Gt (by omega) HGG.out ((HS.out.own _ hy).tag (by decide) HG.out)).trans ((hbB.block Gt hGl).trans HG.out)
    have k2 := (hW (w.heap.size + 1 + 1) (by omega) (by omega) (fun e => by have := HVl _ e; omega)).trans hB2
    have k3 := (hW (w.heap.size + 1 + 1 + 1) (by omega) (by omega) (fun e => by have := HVl _ e; omega)).trans hB3
    exact ⟨cell_at k0 rfl, cell_at k2 rfl, cell_at k2 rfl, cell_at k3 rfl, cell_at k3 rfl⟩
  refine wp_region_X 11 (fun W1 => W1.cell? ⟨Gt, 3, none⟩ = some (.map (some Gb)) ∧ W1.cell? ⟨w.heap.size + 1 + 1, 0, none⟩ = some (.int .i64 yh) ∧ W1.cell? ⟨w.heap.size + 1 + 1, 1, none⟩ = some (.bool false) ∧ W1.cell? ⟨w.heap.size + 1 + 1 + 1, 0, none⟩ = some (.int .i64 (xp)) ∧ W1.cell? ⟨w.heap.size + 1 + 1 + 1, 1, none⟩ = some (.int .i64 yp)) (by kernel_rfl) (g0 wB.drew (fun _ _ _ _ => rfl)) (fun hH => ?_)
  refine wpZ 0 hH ?_
  refine wpZ 1 hH ?_
  refine wpZ 2 hH ?_
  refine wpZ 3 hH ?_
  refine wpZ 4 hH ?_
  refine wpZ 5 hH ?_
  obtain ⟨wC, hwC⟩ : ∃ W1 : World, W1 = (wB.alloc (Obj.cells #[Value.int IntKind.i64 (xp), Value.int IntKind.i64 yp] 140)).drew := ⟨_, rfl⟩
  have hbC : ∀ j, j < wB.heap.size → wC.heap[j]? = wB.heap[j]? := fun j hj => by rw [hwC]; exact Below.heap_alloc wB.drew _ j hj
  have hsC : wC.heap.size = w.heap.size + 5 := by rw [hwC]; show (wB.alloc _).heap.size = _; simp [hsB]
  have hSC : SdP wC base Gb n V A := hSB.kept hbC
  have hbx : ∀ j u, ([.int .i64 (xp), .int .i64 yp] : List Value)[j]? = some u → wC.cell? ((⟨w.heap.size + 4, 0, none⟩ : Addr).add j) = some u := by
    rw [hwC]; exact abox2 wB.drew _ _ _ (by show _ = wB.heap.size; omega)
  have hCo : wC.os = w.os ∧ wC.tape = w.tape ∧ wC.output = w.output := by rw [hwC]; exact ⟨hbB.os, hbB.tape, hbB.output⟩
  obtain ⟨st, es1, clock1, hrunE, hcont⟩ := hSC.entry lawS Tryz.underlying106 zeroAnchors eqS_iff kS_inj hy (keyS _ hy) (by unfold maxLen; omega)
  have hrunE' : (Instr.mapEntry 106 (.map (some Gb)) (.agg #[.int .i64 yh, .bool false])).run Tryz.prog wC = .ok (.tuple #[V (yh, false), .int .i64 st]) (setBlock wC Gb (.map es1 clock1)) := hrunE
  have HC : Hid (∀ (w2 : World) (v' : Value) (g' : Nat) (l' : List (Int × Int)), w2.heap[Gb]? = some (.map es1 clock1) → wC.heap.size ≤ w2.heap.size → (∀ j, j < wC.heap.size → j ≠ Gb → (V (yh, false)).ownBlock ≠ some j → w2.heap[j]? = wC.heap[j]?) →
        OwnR w2 base 140 2 v' l'.length (acells l') → v'.ownBlock = some g' → ((V (yh, false)).ownBlock = some g' ∨ wC.heap.size ≤ g') → l'.isEmpty = false →
        ∃ w3, (Instr.entryStore 106 (.map (some Gb)) (.int .i64 st) v').run Tryz.prog w2 = .ok () w3 ∧ SdP w3 base Gb (n + 1) (updF eqS V (yh, false) v') (updF eqS A (yh, false) l') ∧ (∀ j, j ≠ Gb → w3.heap[j]? = w2.heap[j]?) ∧ w3.heap.size = w2.heap.size ∧ w3.os = w2.os ∧ w3.tape = w2.tape ∧ w3.output = w2.output) := hcont
  have hCb : wC.heap[Gb]? = some (.map es1 clock1) ∨ True := Or.inr trivial
  clear hcont hrunE hCb
  refine wpAnyX_step (i := 6) (by kernel_rfl) rfl (by kernel_rfl) (fun K hK => ?_)
  go_simp
  rw [← hwC]
  refine hK.out _ _ (g0 wC (fun j hj _ _ => hbC j (by omega))) ?_
  clear hK K hH hwC
  try simp only [Act.put, zA0, zZ0, zS0]
  obtain ⟨wD, hwD⟩ : ∃ W1 : World, W1 = setBlock wC Gb (.map es1 clock1) := ⟨_, rfl⟩
  rw [← hwD] at hrunE'
  obtain ⟨es0, clock0, hes0⟩ : ∃ es0 clock0, wC.heap[Gb]? = some (.map es0 clock0) := by
    obtain ⟨D, ⟨es, clock, hb, _⟩, _⟩ := hSC.map
    exact ⟨es, clock, hb⟩
  have hD1 : wD.heap[Gb]? = some (.map es1 clock1) := by rw [hwD]; exact heap_setBlock_same hes0 _
  have hD2 : ∀ j, j ≠ Gb → wD.heap[j]? = wC.heap[j]? := fun j hj => by rw [hwD]; exact heap_setBlock_other hes0 _ hj
  have hD3 : wD.heap.size = wC.heap.size := by rw [hwD]; simp [setBlock]
  have hDo : wD.os = w.os ∧ wD.tape = w.tape ∧ wD.output = w.output := by rw [hwD]; exact hCo
  clear hwD
  refine wpAnyX_step (i := 7) (by kernel_rfl) rfl (by kernel_rfl) (fun K hK => ?_)
  go_simp
  have hH := g0 wD (fun j hj hjG _ => (hD2 j hjG).trans (hbC j (by omega)))
  refine hK.out _ _ hH ?_
  clear hK K
  try simp only [Act.put, zA0, zZ0, zS0]
  refine wpZ 8 hH ?_
  refine wpZ 10 hH ?_
  have hownD : OwnR wD base 140 2 (V (yh, false)) (A (yh, false)).length (acells (A (yh, false))) := (hSC.own _ hy).other (fun g hg _ => hD2 g (fun e => hSC.ne hy (e ▸ hg)))
  have hbxD : ∀ j u, ([.int .i64 (xp), .int .i64 yp] : List Value)[j]? = some u → wD.cell? ((⟨w.heap.size + 4, 0, none⟩ : Addr).add j) = some u := by
    intro j u hj
    have := hbx j u hj
    rw [Addr.add_lit] at this ⊢
    exact (World.cell?_of_block (hD2 (w.heap.size + 4) (by omega))).trans this
  refine wpAnyX_step (i := 9) (by kernel_rfl) rfl (by kernel_rfl) (fun K hK => ?_)
  refine step_own rfl (.tmp 45) (.tmp 47) 110 rfl 140 i0 _ 2 16 Tryz.underlying110 hi hz0 hz1 hz2 rfl (by decide) base (V (yh, false)) (A (yh, false)).length (acells (A (yh, false))) (by simp [Act.eval]) hownD ⟨w.heap.size + 4, 0, none⟩ 1 [.int .i64 (xp), .int .i64 yp] (by simp [Act.eval, hsB]) rfl hbxD (an_oneCell _ _) (by unfold maxLen; omega) (by omega) (by omega) ?_
  intro g' o' cap' w2 hown' hfr
  have hf2 : ∀ j, j < wC.heap.size → j ≠ Gb → (V (yh, false)).ownBlock ≠ some j → w2.heap[j]? = wC.heap[j]? := fun j hj hjG hne => (hfr.other j (by omega) hne).trans (hD2 j hjG)
  have hs2 : wD.heap.size ≤ w2.heap.size := hfr.size
  have hG2 : w2.heap[Gb]? = some (.map es1 clock1) := (hfr.other Gb (by omega) (hSC.ne hy)).trans hD1
  have hown2 : OwnR w2 base 140 2 (.slice (some ⟨g', o', none⟩) ((A (yh, false)).length + 1) cap') (A (yh, false) ++ [(xp, yp)]).length (acells (A (yh, false) ++ [(xp, yp)])) := by
    rw [acells_append, List.length_append]; exact hown'
  obtain ⟨w3, hrunS, hS3, h3j, h3s, h3o⟩ := HC.out w2 (.slice (some ⟨g', o', none⟩) ((A (yh, false)).length + 1) cap') g' (A (yh, false) ++ [(xp, yp)]) hG2 (by omega) hf2 hown2 rfl (by rcases hfr.new with h | h; exact Or.inl h; right; omega) (by simp)
  have hos : w2.os = wD.os ∧ w2.tape = wD.tape ∧ w2.output = wD.output := ⟨hfr.os, hfr.tape, hfr.output⟩
  have hH := g0 w2 (fun j hj hjG hne => (hf2 j (by omega) hjG hne).trans (hbC j (by omega)))
  refine hK.out _ _ hH ?_
  clear hK K hH
  try simp only [Act.put, zA0, zZ0, zS0]
  refine wpAnyX_last (i := 11) (by kernel_rfl) rfl (by kernel_rfl) (by kernel_rfl) (fun K hK => ?_)
  go_simp
  refine hK.out _ _ ?_
  clear hK K
  go_end0
  refine ⟨rfl, ⟨_, hS3⟩, by omega, ?_, ?_, ?_, ?_⟩
  · intro g hg hgG hgV
    rw [h3j g hgG, hf2 g (by omega) hgG hgV, hbC g (by omega)]
    exact hbB.block g hg
  · rw [h3o.1, hos.1, hDo.1]
  · rw [h3o.2.1, hos.2.1, hDo.2.1]
  · rw [h3o.2.2, hos.2.2, hDo.2.2]
set_option maxHeartbeats 4000000 in
theorem ganchor_ft (xh xp yh yp : Int) (len k cnt : Int) (kn Wn scn : Nat) (rv mv : Value) (Gt X Gb base n : Nat) (V : Int × Bool → Value) (A : Int × Bool → List (Int × Int)) (w : World) (hy : okS (yh, true)) (hn : n < 100000) (hA : (A (yh, true)).length < 100000) (hbase : base ≤ w.heap.size)
    (hlen : 0 ≤ len ∧ len ≤ 1000000) (hk : k = kn) (hkn : kn ≤ 12) (hp : 0 ≤ xp ∧ xp ≤ 1000000)
    (hG : w.heap[Gt]? = some (.cells #[.pointer (some ⟨X, 0, none⟩), .int .i64 len, .int .i64 cnt, .map (some Gb)] 136 (0, 0))) (hX : w.heap[X]? = some (.cells (#[.int .i64 kn, .int .i64 Wn, .float .f64 scn, rv, mv]) 59 (0, 0))) (hS : SdP w base Gb n V A) :
    Calls Tryz.prog 93 #[.pointer (some ⟨Gt, 0, none⟩), .agg #[.int .i64 xh, .int .i64 xp, .bool false], .agg #[.int .i64 yh, .int .i64 yp, .bool true]] w fun e w' =>
      GaP w base Gb n V (yh, true) (updF eqS A (yh, true) (A (yh, true) ++ [(len - kn - xp, yp)])) e w' := by
  obtain ⟨i0, hi, hz0, hz1, hz2⟩ := info_parts Tryz.info140
  have HS : Hid (SdP w base Gb n V A) := hS
  have hGl : Gt < w.heap.size := lt_of_block hG
  have hXl : X < w.heap.size := lt_of_block hX
  have HG : Hid (w.heap[Gt]? = some (.cells #[.pointer (some ⟨X, 0, none⟩), .int .i64 len, .int .i64 cnt, .map (some Gb)] 136 (0, 0))) := hG
  have HX : Hid (w.heap[X]? = some (.cells (#[.int .i64 kn, .int .i64 Wn, .float .f64 scn, rv, mv]) 59 (0, 0))) := hX
  have hGbl : Gb < w.heap.size := hS.lt
  have HGG : Hid (Gt ≠ Gb) := by
    obtain ⟨D, ⟨es, clock, hb, _⟩, _⟩ := hS.map
    intro e; rw [e, hb] at hG; cases hG
  clear hG hX hS
  subst hk
  go_enter Tryz.func93, Tryz.ntmps93
  go_wp2_with fail
  obtain ⟨wA, hwA⟩ : ∃ W1 : World, W1 = (((w.alloc (Obj.cells #[Value.int IntKind.i64 xh, Value.int IntKind.i64 xp, Value.bool false] 124)).alloc (Obj.cells #[Value.int IntKind.i64 yh, Value.int IntKind.i64 yp, Value.bool true] 78)).alloc (Obj.cells #[Value.int IntKind.i64 yh, Value.bool true] 109)).alloc (Obj.cells #[Value.int IntKind.i64 xp, Value.int IntKind.i64 yp] 140) := ⟨_, rfl⟩
  rw [← hwA]
  have hbA : Below w.heap.size w wA := by rw [hwA]; exact ((((Below.refl _ _).alloc (Nat.le_refl _) _).alloc (by simp) _).alloc (by simp; omega) _).alloc (by simp; omega) _
  have hsA : wA.heap.size = w.heap.size + 4 := by rw [hwA]; simp
  have hA0 : wA.heap[w.heap.size]? = some (.cells #[Value.int IntKind.i64 xh, Value.int IntKind.i64 xp, Value.bool false] 124 (0, 0)) := by
    rw [hwA, Below.heap_alloc _ _ _ (by simp; omega), Below.heap_alloc _ _ _ (by simp; omega), Below.heap_alloc _ _ _ (by simp)]; exact heap_alloc_new w _
  have hA2 : wA.heap[w.heap.size + 1 + 1]? = some (.cells #[Value.int IntKind.i64 yh, Value.bool true] 109 (0, 0)) := by
    rw [hwA, Below.heap_alloc _ _ _ (by simp)]
    have := heap_alloc_new ((w.alloc (Obj.cells #[Value.int IntKind.i64 xh, Value.int IntKind.i64 xp, Value.bool false] 124)).alloc (Obj.cells #[Value.int IntKind.i64 yh, Value.int IntKind.i64 yp, Value.bool true] 78)) (Obj.cells #[Value.int IntKind.i64 yh, Value.bool true] 109)
    have e1 : ((w.alloc (Obj.cells #[Value.int IntKind.i64 xh, Value.int IntKind.i64 xp, Value.bool false] 124)).alloc (Obj.cells #[Value.int IntKind.i64 yh, Value.int IntKind.i64 yp, Value.bool true] 78)).heap.size = w.heap.size + 1 + 1 := by simp
    rw [e1] at this; exact this
  have hA3 : wA.heap[w.heap.size + 1 + 1 + 1]? = some (.cells #[Value.int IntKind.i64 xp, Value.int IntKind.i64 yp] 140 (0, 0)) := by
    rw [hwA]
    have := heap_alloc_new (((w.alloc (Obj.cells #[Value.int IntKind.i64 xh, Value.int IntKind.i64 xp, Value.bool false] 124)).alloc (Obj.cells #[Value.int IntKind.i64 yh, Value.int IntKind.i64 yp, Value.bool true] 78)).alloc (Obj.cells #[Value.int IntKind.i64 yh, Value.bool true] 109)) (Obj.cells #[Value.int IntKind.i64 xp, Value.int IntKind.i64 yp] 140)
    have e1 : (((w.alloc (Obj.cells #[Value.int IntKind.i64 xh, Value.int IntKind.i64 xp, Value.bool false] 124)).alloc (Obj.cells #[Value.int IntKind.i64 yh, Value.int IntKind.i64 yp, Value.bool true] 78)).alloc (Obj.cells #[Value.int IntKind.i64 yh, Value.bool true] 109)).heap.size = w.heap.size + 1 + 1 + 1 := by simp
    rw [e1] at this; exact this
  clear hwA
  rename_i Q0 K0 hK0
  have f0 : wA.drew.cell? ⟨Gt, 1, none⟩ = some (.int .i64 len) := cell_at ((hbA.block Gt hGl).trans HG.out) rfl
  have f1 : wA.drew.cell? ⟨Gt, 0, none⟩ = some (.pointer (some ⟨X, 0, none⟩)) := cell_at ((hbA.block Gt hGl).trans HG.out) rfl
  have f2 : wA.drew.cell? ⟨X, 0, none⟩ = some (.int .i64 kn) := cell_at ((hbA.block X hXl).trans HX.out) rfl
  have f3 : wA.drew.cell? ⟨w.heap.size, 1, none⟩ = some (.int .i64 xp) := cell_at hA0 rfl
  have fa : wA.drew.cell? ⟨w.heap.size + 1 + 1 + 1, 0, none⟩ = some (.int .i64 xp) := cell_at hA3 rfl
  have ff : wA.drew.frozen? ⟨w.heap.size + 1 + 1 + 1, 0, none⟩ = false := frozen_of_row _ _ _ _ _ hA3
  have hw1 : IntKind.i64.wrap (len - kn) = len - kn := by rw [IntKind.wrap_i64]; omega
  have hw2 : IntKind.i64.wrap (len - kn - xp) = len - kn - xp := by rw [IntKind.wrap_i64]; omega
  refine wp_region_X 17 (fun W1 => W1.cell? ⟨Gt, 1, none⟩ = some (.int .i64 len) ∧ W1.cell? ⟨Gt, 0, none⟩ = some (.pointer (some ⟨X, 0, none⟩)) ∧ W1.cell? ⟨X, 0, none⟩ = some (.int .i64 kn) ∧ W1.cell? ⟨w.heap.size, 1, none⟩ = some (.int .i64 xp)) (by kernel_rfl) ⟨f0, f1, f2, f3⟩ (fun hH => ?_)
  refine wpZ 0 hH ?_
  refine wpZ 1 hH ?_
  refine wpZ 2 hH ?_
  refine wpZ 3 hH ?_
  refine wpZ 4 hH ?_
  refine wpZ 5 hH ?_
  refine wpZ 6 hH ?_
  refine wpZ 7 hH ?_
  refine wpZ 8 hH ?_
  refine wpZ 9 hH ?_
  refine wpZ 10 hH ?_
  refine wpZ 11 hH ?_
  refine wpZ 12 hH ?_
  refine wpZ 13 hH ?_
  refine wpZ 14 hH ?_
  refine wpZ 15 hH ?_
  refine wpZ 16 hH ?_
  refine wpAnyX_last (i := 17) (by kernel_rfl) rfl (by kernel_rfl) (by kernel_rfl) (fun K hK => ?_)
  go_simp
  refine hK.out _ _ ?_
  clear hK K hH
  refine hK0 _ _ ?_
  clear hK0
  obtain ⟨wB, hwB⟩ : ∃ W1 : World, W1 = (wA.setCell ⟨w.heap.size + 1 + 1 + 1, 0, none⟩ (.int .i64 (len - kn - xp))).drew := ⟨_, rfl⟩
  rw [← hwB]
  have hB3 : wB.heap[w.heap.size + 1 + 1 + 1]? = some (.cells #[Value.int IntKind.i64 (len - kn - xp), Value.int IntKind.i64 yp] 140 (0, 0)) := by
    rw [hwB]; exact heap_setCell_same wA _ 0 _ _ _ hA3
  have hoB : ∀ j, j ≠ w.heap.size + 1 + 1 + 1 → wB.heap[j]? = wA.heap[j]? := fun j hj => by rw [hwB]; exact heap_setCell_other wA _ j _ hj
  have hB2 := (hoB (w.heap.size + 1 + 1) (by omega)).trans hA2
  have hsB : wB.heap.size = w.heap.size + 4 := by rw [hwB]; show (wA.setCell _ _).heap.size = _; simp [hsA]
  have hbB : Below w.heap.size w wB := by
    refine ⟨?_, ?_, ?_, by omega, fun g hg => (hoB g (by omega)).trans (hbA.block g hg)⟩
    · rw [hwB]; exact hbA.os
    · rw [hwB]; exact hbA.tape
    · rw [hwB]; exact hbA.output
  clear hwB hoB f0 f1 f2 f3 fa ff hw1 hw2 hA0 hA2 hA3 hbA hsA
  clear wA
  have hSB : SdP wB base Gb n V A := HS.out.kept (fun j hj => hbB.block j hj)
  have HVl : ∀ g, (V (yh, true)).ownBlock = some g → g < w.heap.size := fun g hg => ((HS.out.own _ hy).lt hg).2
  have g0 : ∀ W1 : World, (∀ j, j < w.heap.size + 4 → j ≠ Gb → (V (yh, true)).ownBlock ≠ some j → W1.heap[j]? = wB.heap[j]?) → W1.cell? ⟨Gt, 3, none⟩ = some (.map (some Gb)) ∧ W1.cell? ⟨w.heap.size + 1 + 1, 0, none⟩ = some (.int .i64 yh) ∧ W1.cell? ⟨w.heap.size + 1 + 1, 1, none⟩ = some (.bool true) ∧ W1.cell? ⟨w.heap.size + 1 + 1 + 1, 0, none⟩ = some (.int .i64 (len - kn - xp)) ∧ W1.cell? ⟨w.heap.size + 1 + 1 + 1, 1, none⟩ = some (.int .i64 yp) := by
    intro W1 hW
    have k0 : W1.heap[Gt]? = some (.cells #[.pointer (some ⟨X, 0, none⟩), .int .i64 len, .int .i64 cnt, .map (some Gb)] 136 (0, 0)) := (hW Gt (by omega) HGG.out ((HS.out.own _ hy).tag (by decide) HG.out)).trans ((hbB.block Gt hGl).trans HG.out)
    have k2 := (hW (w.heap.size + 1 + 1) (by omega) (by omega) (fun e => by have := HVl _ e; omega)).trans hB2
    have k3 := (hW (w.heap.size + 1 + 1 + 1) (by omega) (by omega) (fun e => by have := HVl _ e; omega)).trans hB3
    exact ⟨cell_at k0 rfl, cell_at k2 rfl, cell_at k2 rfl, cell_at k3 rfl, cell_at k3 rfl⟩
  refine wp_region_X 11 (fun W1 => W1.cell? ⟨Gt, 3, none⟩ = some (.map (some Gb)) ∧ W1.cell? ⟨w.heap.size + 1 + 1, 0, none⟩ = some (.int .i64 yh) ∧ W1.cell? ⟨w.heap.size + 1 + 1, 1, none⟩ = some (.bool true) ∧ W1.cell? ⟨w.heap.size + 1 + 1 + 1, 0, none⟩ = some (.int .i64 (len - kn - xp)) ∧ W1.cell? ⟨w.heap.size + 1 + 1 + 1, 1, none⟩ = some (.int .i64 yp)) (by kernel_rfl) (g0 wB.drew (fun _ _ _ _ => rfl)) (fun hH => ?_)
  refine wpZ 0 hH ?_
  refine wpZ 1 hH ?_
  refine wpZ 2 hH ?_
  refine wpZ 3 hH ?_
  refine wpZ 4 hH ?_
  refine wpZ 5 hH ?_
  obtain ⟨wC, hwC⟩ : ∃ W1 : World, W1 = (wB.alloc (Obj.cells #[Value.int IntKind.i64 (len - kn - xp), Value.int IntKind.i64 yp] 140)).drew := ⟨_, rfl⟩
  have hbC : ∀ j, j < wB.heap.size → wC.heap[j]? = wB.heap[j]? := fun j hj => by rw [hwC]; exact Below.heap_alloc wB.drew _ j hj
  have hsC : wC.heap.size = w.heap.size + 5 := by rw [hwC]; show (wB.alloc _).heap.size = _; simp [hsB]
  have hSC : SdP wC base Gb n V A := hSB.kept hbC
  have hbx : ∀ j u, ([.int .i64 (len - kn - xp), .int .i64 yp] : List Value)[j]? = some u → wC.cell? ((⟨w.heap.size + 4, 0, none⟩ : Addr).add j) = some u := by
    rw [hwC]; exact abox2 wB.drew _ _ _ (by show _ = wB.heap.size; omega)
  have hCo : wC.os = w.os ∧ wC.tape = w.tape ∧ wC.output = w.output := by rw [hwC]; exact ⟨hbB.os, hbB.tape, hbB.output⟩
  obtain ⟨st, es1, clock1, hrunE, hcont⟩ := hSC.entry lawS Tryz.underlying106 zeroAnchors eqS_iff kS_inj hy (keyS _ hy) (by unfold maxLen; omega)
  have hrunE' : (Instr.mapEntry 106 (.map (some Gb)) (.agg #[.int .i64 yh, .bool true])).run Tryz.prog wC = .ok (.tuple #[V (yh, true), .int .i64 st]) (setBlock wC Gb (.map es1 clock1)) := hrunE
  have HC : Hid (∀ (w2 : World) (v' : Value) (g' : Nat) (l' : List (Int × Int)), w2.heap[Gb]? = some (.map es1 clock1) → wC.heap.size ≤ w2.heap.size → (∀ j, j < wC.heap.size → j ≠ Gb → (V (yh, true)).ownBlock ≠ some j → w2.heap[j]? = wC.heap[j]?) →
        OwnR w2 base 140 2 v' l'.length (acells l') → v'.ownBlock = some g' → ((V (yh, true)).ownBlock = some g' ∨ wC.heap.size ≤ g') → l'.isEmpty = false →
        ∃ w3, (Instr.entryStore 106 (.map (some Gb)) (.int .i64 st) v').run Tryz.prog w2 = .ok () w3 ∧ SdP w3 base Gb (n + 1) (updF eqS V (yh, true) v') (updF eqS A (yh, true) l') ∧ (∀ j, j ≠ Gb → w3.heap[j]? = w2.heap[j]?) ∧ w3.heap.size = w2.heap.size ∧ w3.os = w2.os ∧ w3.tape = w2.tape ∧ w3.output = w2.output) := hcont
  have hCb : wC.heap[Gb]? = some (.map es1 clock1) ∨ True := Or.inr trivial
  clear hcont hrunE hCb
  refine wpAnyX_step (i := 6) (by kernel_rfl) rfl (by kernel_rfl) (fun K hK => ?_)
  go_simp
  rw [← hwC]
  refine hK.out _ _ (g0 wC (fun j hj _ _ => hbC j (by omega))) ?_
  clear hK K hH hwC
  try simp only [Act.put, zA0, zZ0, zS0]
  obtain ⟨wD, hwD⟩ : ∃ W1 : World, W1 = setBlock wC Gb (.map es1 clock1) := ⟨_, rfl⟩
  rw [← hwD] at hrunE'
  obtain ⟨es0, clock0, hes0⟩ : ∃ es0 clock0, wC.heap[Gb]? = some (.map es0 clock0) := by
    obtain ⟨D, ⟨es, clock, hb, _⟩, _⟩ := hSC.map
    exact ⟨es, clock, hb⟩
  have hD1 : wD.heap[Gb]? = some (.map es1 clock1) := by rw [hwD]; exact heap_setBlock_same hes0 _
  have hD2 : ∀ j, j ≠ Gb → wD.heap[j]? = wC.heap[j]? := fun j hj => by rw [hwD]; exact heap_setBlock_other hes0 _ hj
  have hD3 : wD.heap.size = wC.heap.size := by rw [hwD]; simp [setBlock]
  have hDo : wD.os = w.os ∧ wD.tape = w.tape ∧ wD.output = w.output := by rw [hwD]; exact hCo
  clear hwD
  refine wpAnyX_step (i := 7) (by kernel_rfl) rfl (by kernel_rfl) (fun K hK => ?_)
  go_simp
  have hH := g0 wD (fun j hj hjG _ => (hD2 j hjG).trans (hbC j (by omega)))
  refine hK.out _ _ hH ?_
  clear hK K
  try simp only [Act.put, zA0, zZ0, zS0]
  refine wpZ 8 hH ?_
  refine wpZ 10 hH ?_
  have hownD : OwnR wD base 140 2 (V (yh, true)) (A (yh, true)).length (acells (A (yh, true))) := (hSC.own _ hy).other (fun g hg _ => hD2 g (fun e => hSC.ne hy (e ▸ hg)))
  have hbxD : ∀ j u, ([.int .i64 (len - kn - xp), .int .i64 yp] : List Value)[j]? = some u → wD.cell? ((⟨w.heap.size + 4, 0, none⟩ : Addr).add j) = some u := by
    intro j u hj
    have := hbx j u hj
    rw [Addr.add_lit] at this ⊢
    exact (World.cell?_of_block (hD2 (w.heap.size + 4) (by omega))).trans this
  refine wpAnyX_step (i := 9) (by kernel_rfl) rfl (by kernel_rfl) (fun K hK => ?_)
  refine step_own rfl (.tmp 45) (.tmp 47) 110 rfl 140 i0 _ 2 16 Tryz.underlying110 hi hz0 hz1 hz2 rfl (by decide) base (V (yh, true)) (A (yh, true)).length (acells (A (yh, true))) (by simp [Act.eval]) hownD ⟨w.heap.size + 4, 0, none⟩ 1 [.int .i64 (len - kn - xp), .int .i64 yp] (by simp [Act.eval, hsB]) rfl hbxD (an_oneCell _ _) (by unfold maxLen; omega) (by omega) (by omega) ?_
  intro g' o' cap' w2 hown' hfr
  have hf2 : ∀ j, j < wC.heap.size → j ≠ Gb → (V (yh, true)).ownBlock ≠ some j → w2.heap[j]? = wC.heap[j]? := fun j hj hjG hne => (hfr.other j (by omega) hne).trans (hD2 j hjG)
  have hs2 : wD.heap.size ≤ w2.heap.size := hfr.size
  have hG2 : w2.heap[Gb]? = some (.map es1 clock1) := (hfr.other Gb (by omega) (hSC.ne hy)).trans hD1
  have hown2 : OwnR w2 base 140 2 (.slice (some ⟨g', o', none⟩) ((A (yh, true)).length + 1) cap') (A (yh, true) ++ [(len - kn - xp, yp)]).length (acells (A (yh, true) ++ [(len - kn - xp, yp)])) := by
    rw [acells_append, List.length_append]; exact hown'
  obtain ⟨w3, hrunS, hS3, h3j, h3s, h3o⟩ := HC.out w2 (.slice (some ⟨g', o', none⟩) ((A (yh, true)).length + 1) cap') g' (A (yh, true) ++ [(len - kn - xp, yp)]) hG2 (by omega) hf2 hown2 rfl (by rcases hfr.new with h | h; exact Or.inl h; right; omega) (by simp)
  have hos : w2.os = wD.os ∧ w2.tape = wD.tape ∧ w2.output = wD.output := ⟨hfr.os, hfr.tape, hfr.output⟩
  have hH := g0 w2 (fun j hj hjG hne => (hf2 j (by omega) hjG hne).trans (hbC j (by omega)))
  refine hK.out _ _ hH ?_
  clear hK K hH
  try simp only [Act.put, zA0, zZ0, zS0]
  refine wpAnyX_last (i := 11) (by kernel_rfl) rfl (by kernel_rfl) (by kernel_rfl) (fun K hK => ?_)
  go_simp
  refine hK.out _ _ ?_
  clear hK K
  go_end0
  refine ⟨rfl, ⟨_, hS3⟩, by omega, ?_, ?_, ?_, ?_⟩
  · intro g hg hgG hgV
    rw [h3j g hgG, hf2 g (by omega) hgG hgV, hbC g (by omega)]
    exact hbB.block g hg
  · rw [h3o.1, hos.1, hDo.1]
  · rw [h3o.2.1, hos.2.1, hDo.2.1]
  · rw [h3o.2.2, hos.2.2, hDo.2.2]
set_option maxHeartbeats 4000000 in
theorem ganchor_tf (xh xp yh yp : Int) (len k cnt : Int) (kn Wn scn : Nat) (rv mv : Value) (Gt X Gb base n : Nat) (V : Int × Bool → Value) (A : Int × Bool → List (Int × Int)) (w : World) (hy : okS (yh, true)) (hn : n < 100000) (hA : (A (yh, true)).length < 100000) (hbase : base ≤ w.heap.size)
    (hlen : 0 ≤ len ∧ len ≤ 1000000) (hk : k = kn) (hkn : kn ≤ 12) (hp : 0 ≤ xp ∧ xp ≤ 1000000)
    (hG : w.heap[Gt]? = some (.cells #[.pointer (some ⟨X, 0, none⟩), .int .i64 len, .int .i64 cnt, .map (some Gb)] 136 (0, 0))) (hX : w.heap[X]? = some (.cells (#[.int .i64 kn, .int .i64 Wn, .float .f64 scn, rv, mv]) 59 (0, 0))) (hS : SdP w base Gb n V A) :
    Calls Tryz.prog 93 #[.pointer (some ⟨Gt, 0, none⟩), .agg #[.int .i64 xh, .int .i64 xp, .bool true], .agg #[.int .i64 yh, .int .i64 yp, .bool false]] w fun e w' =>
      GaP w base Gb n V (yh, true) (updF eqS A (yh, true) (A (yh, true) ++ [(len - kn - xp, yp)])) e w' := by
  obtain ⟨i0, hi, hz0, hz1, hz2⟩ := info_parts Tryz.info140
  have HS : Hid (SdP w base Gb n V A) := hS
  have hGl : Gt < w.heap.size := lt_of_block hG
  have hXl : X < w.heap.size := lt_of_block hX
  have HG : Hid (w.heap[Gt]? = some (.cells #[.pointer (some ⟨X, 0, none⟩), .int .i64 len, .int .i64 cnt, .map (some Gb)] 136 (0, 0))) := hG
  have HX : Hid (w.heap[X]? = some (.cells (#[.int .i64 kn, .int .i64 Wn, .float .f64 scn, rv, mv]) 59 (0, 0))) := hX
  have hGbl : Gb < w.heap.size := hS.lt
  have HGG : Hid (Gt ≠ Gb) := by
    obtain ⟨D, ⟨es, clock, hb, _⟩, _⟩ := hS.map
    intro e; rw [e, hb] at hG; cases hG
  clear hG hX hS
  subst hk
  go_enter Tryz.func93, Tryz.ntmps93
  go_wp2_with fail
  obtain ⟨wA, hwA⟩ : ∃ W1 : World, W1 = (((w.alloc (Obj.cells #[Value.int IntKind.i64 xh, Value.int IntKind.i64 xp, Value.bool true] 124)).alloc (Obj.cells #[Value.int IntKind.i64 yh, Value.int IntKind.i64 yp, Value.bool false] 78)).alloc (Obj.cells #[Value.int IntKind.i64 yh, Value.bool true] 109)).alloc (Obj.cells #[Value.int IntKind.i64 xp, Value.int IntKind.i64 yp] 140) := ⟨_, rfl⟩
  rw [← hwA]
  have hbA : Below w.heap.size w wA := by rw [hwA]; exact ((((Below.refl _ _).alloc (Nat.le_refl _) _).alloc (by simp) _).alloc (by simp; omega) _).alloc (by simp; omega) _
  have hsA : wA.heap.size = w.heap.size + 4 := by rw [hwA]; simp
  have hA0 : wA.heap[w.heap.size]? = some (.cells #[Value.int IntKind.i64 xh, Value.int IntKind.i64 xp, Value.bool true] 124 (0, 0)) := by
    rw [hwA, Below.heap_alloc _ _ _ (by simp; omega), Below.heap_alloc _ _ _ (by simp; omega), Below.heap_alloc _ _ _ (by simp)]; exact heap_alloc_new w _
  have hA2 : wA.heap[w.heap.size + 1 + 1]? = some (.cells #[Value.int IntKind.i64 yh, Value.bool true] 109 (0, 0)) := by
    rw [hwA, Below.heap_alloc _ _ _ (by simp)]
    have := heap_alloc_new ((w.alloc (Obj.cells #[Value.int IntKind.i64 xh, Value.int IntKind.i64 xp, Value.bool true] 124)).alloc (Obj.cells #[Value.int IntKind.i64 yh, Value.int IntKind.i64 yp, Value.bool false] 78)) (Obj.cells #[Value.int IntKind.i64 yh, Value.bool true] 109)
    have e1 : ((w.alloc (Obj.cells #[Value.int IntKind.i64 xh, Value.int IntKind.i64 xp, Value.bool true] 124)).alloc (Obj.cells #[Value.int IntKind.i64 yh, Value.int IntKind.i64 yp, Value.bool false] 78)).heap.size = w.heap.size + 1 + 1 := by simp
    rw [e1] at this; exact this
  have hA3 : wA.heap[w.heap.size + 1 + 1 + 1]? = some (.cells #[Value.int IntKind.i64 xp, Value.int IntKind.i64 yp] 140 (0, 0)) := by
    rw [hwA]
    have := heap_alloc_new (((w.alloc (Obj.cells #[Value.int IntKind.i64 xh, Value.int IntKind.i64 xp, Value.bool true] 124)).alloc (Obj.cells #[Value.int IntKind.i64 yh, Value.int IntKind.i64 yp, Value.bool false] 78)).alloc (Obj.cells #[Value.int IntKind.i64 yh, Value.bool true] 109)) (Obj.cells #[Value.int IntKind.i64 xp, Value.int IntKind.i64 yp] 140)
    have e1 : (((w.alloc (Obj.cells #[Value.int IntKind.i64 xh, Value.int IntKind.i64 xp, Value.bool true] 124)).alloc (Obj.cells #[Value.int IntKind.i64 yh, Value.int IntKind.i64 yp, Value.bool false] 78)).alloc (Obj.cells #[Value.int IntKind.i64 yh, Value.bool true] 109)).heap.size = w.heap.size + 1 + 1 + 1 := by simp
    rw [e1] at this; exact this
  clear hwA
  rename_i Q0 K0 hK0
  have f0 : wA.drew.cell? ⟨Gt, 1, none⟩ = some (.int .i64 len) := cell_at ((hbA.block Gt hGl).trans HG.out) rfl
  have f1 : wA.drew.cell? ⟨Gt, 0, none⟩ = some (.pointer (some ⟨X, 0, none⟩)) := cell_at ((hbA.block Gt hGl).trans HG.out) rfl
  have f2 : wA.drew.cell? ⟨X, 0, none⟩ = some (.int .i64 kn) := cell_at ((hbA.block X hXl).trans HX.out) rfl
  have f3 : wA.drew.cell? ⟨w.heap.size, 1, none⟩ = some (.int .i64 xp) := cell_at hA0 rfl
  have fa : wA.drew.cell? ⟨w.heap.size + 1 + 1 + 1, 0, none⟩ = some (.int .i64 xp) := cell_at hA3 rfl
  have ff : wA.drew.frozen? ⟨w.heap.size + 1 + 1 + 1, 0, none⟩ = false := frozen_of_row _ _ _ _ _ hA3
  have hw1 : IntKind.i64.wrap (len - kn) = len - kn := by rw [IntKind.wrap_i64]; omega
  have hw2 : IntKind.i64.wrap (len - kn - xp) = len - kn - xp := by rw [IntKind.wrap_i64]; omega
  refine wp_region_X 17 (fun W1 => W1.cell? ⟨Gt, 1, none⟩ = some (.int .i64 len) ∧ W1.cell? ⟨Gt, 0, none⟩ = some (.pointer (some ⟨X, 0, none⟩)) ∧ W1.cell? ⟨X, 0, none⟩ = some (.int .i64 kn) ∧ W1.cell? ⟨w.heap.size, 1, none⟩ = some (.int .i64 xp)) (by kernel_rfl) ⟨f0, f1, f2, f3⟩ (fun hH => ?_)
  refine wpZ 0 hH ?_
  refine wpZ 1 hH ?_
  refine wpZ 2 hH ?_
  refine wpZ 3 hH ?_
  refine wpZ 4 hH ?_
  refine wpZ 5 hH ?_
  refine wpZ 6 hH ?_
  refine wpZ 7 hH ?_
  refine wpZ 8 hH ?_
  refine wpZ 9 hH ?_
  refine wpZ 10 hH ?_
  refine wpZ 11 hH ?_
  refine wpZ 12 hH ?_
  refine wpZ 13 hH ?_
  refine wpZ 14 hH ?_
  refine wpZ 15 hH ?_
  refine wpZ 16 hH ?_
  refine wpAnyX_last (i := 17) (by kernel_rfl) rfl (by kernel_rfl) (by kernel_rfl) (fun K hK => ?_)
  go_simp
  refine hK.out _ _ ?_
  clear hK K hH
  refine hK0 _ _ ?_
  clear hK0
  obtain ⟨wB, hwB⟩ : ∃ W1 : World, W1 = (wA.setCell ⟨w.heap.size + 1 + 1 + 1, 0, none⟩ (.int .i64 (len - kn - xp))).drew := ⟨_, rfl⟩
  rw [← hwB]
  have hB3 : wB.heap[w.heap.size + 1 + 1 + 1]? = some (.cells #[Value.int IntKind.i64 (len - kn - xp), Value.int IntKind.i64 yp] 140 (0, 0)) := by
    rw [hwB]; exact heap_setCell_same wA _ 0 _ _ _ hA3
  have hoB : ∀ j, j ≠ w.heap.size + 1 + 1 + 1 → wB.heap[j]? = wA.heap[j]? := fun j hj => by rw [hwB]; exact heap_setCell_other wA _ j _ hj
  have hB2 := (hoB (w.heap.size + 1 + 1) (by omega)).trans hA2
  have hsB : wB.heap.size = w.heap.size + 4 := by rw [hwB]; show (wA.setCell _ _).heap.size = _; simp [hsA]
  have hbB : Below w.heap.size w wB := by
    refine ⟨?_, ?_, ?_, by omega, fun g hg => (hoB g (by omega)).trans (hbA.block g hg)⟩
    · rw [hwB]; exact hbA.os
    · rw [hwB]; exact hbA.tape
    · rw [hwB]; exact hbA.output
  clear hwB hoB f0 f1 f2 f3 fa ff hw1 hw2 hA0 hA2 hA3 hbA hsA
  clear wA
  have hSB : SdP wB base Gb n V A := HS.out.kept (fun j hj => hbB.block j hj)
  have HVl : ∀ g, (V (yh, true)).ownBlock = some g → g < w.heap.size := fun g hg => ((HS.out.own _ hy).lt hg).2
  have g0 : ∀ W1 : World, (∀ j, j < w.heap.size + 4 → j ≠ Gb → (V (yh, true)).ownBlock ≠ some j → W1.heap[j]? = wB.heap[j]?) → W1.cell? ⟨Gt, 3, none⟩ = some (.map (some Gb)) ∧ W1.cell? ⟨w.heap.size + 1 + 1, 0, none⟩ = some (.int .i64 yh) ∧ W1.cell? ⟨w.heap.size + 1 + 1, 1, none⟩ = some (.bool true) ∧ W1.cell? ⟨w.heap.size + 1 + 1 + 1, 0, none⟩ = some (.int .i64 (len - kn - xp)) ∧ W1.cell? ⟨w.heap.size + 1 + 1 + 1, 1, none⟩ = some (.int .i64 yp) := by
    intro W1 hW
    have k0 : W1.heap[Gt]? = some (.cells #[.pointer (some ⟨X, 0, none⟩), .int .i64 len, .int .i64 cnt, .map (some Gb)] 136 (0, 0)) := (hW Gt (by omega) HGG.out ((HS.out.own _ hy).tag (by decide) HG.out)).trans ((hbB.block Gt hGl).trans HG.out)
    have k2 := (hW (w.heap.size + 1 + 1) (by omega) (by omega) (fun e => by have := HVl _ e; omega)).trans hB2
    have k3 := (hW (w.heap.size + 1 + 1 + 1) (by omega) (by omega) (fun e => by have := HVl _ e; omega)).trans hB3
    exact ⟨cell_at k0 rfl, cell_at k2 rfl, cell_at k2 rfl, cell_at k3 rfl, cell_at k3 rfl⟩
  refine wp_region_X 11 (fun W1 => W1.cell? ⟨Gt, 3, none⟩ = some (.map (some Gb)) ∧ W1.cell? ⟨w.heap.size + 1 + 1, 0, none⟩ = some (.int .i64 yh) ∧ W1.cell? ⟨w.heap.size + 1 + 1, 1, none⟩ = some (.bool true) ∧ W1.cell? ⟨w.heap.size + 1 + 1 + 1, 0, none⟩ = some (.int .i64 (len - kn - xp)) ∧ W1.cell? ⟨w.heap.size + 1 + 1 + 1, 1, none⟩ = some (.int .i64 yp)) (by kernel_rfl) (g0 wB.drew (fun _ _ _ _ => rfl)) (fun hH => ?_)
  refine wpZ 0 hH ?_
  refine wpZ 1 hH ?_
  refine wpZ 2 hH ?_
  refine wpZ 3 hH ?_
  refine wpZ 4 hH ?_
  refine wpZ 5 hH ?_
  obtain ⟨wC, hwC⟩ : ∃ W1 : World, W1 = (wB.alloc (Obj.cells #[Value.int IntKind.i64 (len - kn - xp), Value.int IntKind.i64 yp] 140)).drew := ⟨_, rfl⟩
  have hbC : ∀ j, j < wB.heap.size → wC.heap[j]? = wB.heap[j]? := fun j hj => by rw [hwC]; exact Below.heap_alloc wB.drew _ j hj
  have hsC : wC.heap.size = w.heap.size + 5 := by rw [hwC]; show (wB.alloc _).heap.size = _; simp [hsB]
  have hSC : SdP wC base Gb n V A := hSB.kept hbC
  have hbx : ∀ j u, ([.int .i64 (len - kn - xp), .int .i64 yp] : List Value)[j]? = some u → wC.cell? ((⟨w.heap.size + 4, 0, none⟩ : Addr).add j) = some u := by
    rw [hwC]; exact abox2 wB.drew _ _ _ (by show _ = wB.heap.size; omega)
  have hCo : wC.os = w.os ∧ wC.tape = w.tape ∧ wC.output = w.output := by rw [hwC]; exact ⟨hbB.os, hbB.tape, hbB.output⟩
  obtain ⟨st, es1, clock1, hrunE, hcont⟩ := hSC.entry lawS Tryz.underlying106 zeroAnchors eqS_iff kS_inj hy (keyS _ hy) (by unfold maxLen; omega)
  have hrunE' : (Instr.mapEntry 106 (.map (some Gb)) (.agg #[.int .i64 yh, .bool true])).run Tryz.prog wC = .ok (.tuple #[V (yh, true), .int .i64 st]) (setBlock wC Gb (.map es1 clock1)) := hrunE
  have HC : Hid (∀ (w2 : World) (v' : Value) (g' : Nat) (l' : List (Int × Int)), w2.heap[Gb]? = some (.map es1 clock1) → wC.heap.size ≤ w2.heap.size → (∀ j, j < wC.heap.size → j ≠ Gb → (V (yh, true)).ownBlock ≠ some j → w2.heap[j]? = wC.heap[j]?) →
        OwnR w2 base 140 2 v' l'.length (acells l') → v'.ownBlock = some g' → ((V (yh, true)).ownBlock = some g' ∨ wC.heap.size ≤ g') → l'.isEmpty = false →
        ∃ w3, (Instr.entryStore 106 (.map (some Gb)) (.int .i64 st) v').run Tryz.prog w2 = .ok () w3 ∧ SdP w3 base Gb (n + 1) (updF eqS V (yh, true) v') (updF eqS A (yh, true) l') ∧ (∀ j, j ≠ Gb → w3.heap[j]? = w2.heap[j]?) ∧ w3.heap.size = w2.heap.size ∧ w3.os = w2.os ∧ w3.tape = w2.tape ∧ w3.output = w2.output) := hcont
  have hCb : wC.heap[Gb]? = some (.map es1 clock1) ∨ True := Or.inr trivial
  clear hcont hrunE hCb
  refine wpAnyX_step (i := 6) (by kernel_rfl) rfl (by kernel_rfl) (fun K hK => ?_)
  go_simp
  rw [← hwC]
  refine hK.out _ _ (g0 wC (fun j hj _ _ => hbC j (by omega))) ?_
  clear hK K hH hwC
  try simp only [Act.put, zA0, zZ0, zS0]
  obtain ⟨wD, hwD⟩ : ∃ W1 : World, W1 = setBlock wC Gb (.map es1 clock1) := ⟨_, rfl⟩
  rw [← hwD] at hrunE'
  obtain ⟨es0, clock0, hes0⟩ : ∃ es0 clock0, wC.heap[Gb]? = some (.map es0 clock0) := by
    obtain ⟨D, ⟨es, clock, hb, _⟩, _⟩ := hSC.map
    exact ⟨es, clock, hb⟩
  have hD1 : wD.heap[Gb]? = some (.map es1 clock1) := by rw [hwD]; exact heap_setBlock_same hes0 _
  have hD2 : ∀ j, j ≠ Gb → wD.heap[j]? = wC.heap[j]? := fun j hj => by rw [hwD]; exact heap_setBlock_other hes0 _ hj
  have hD3 : wD.heap.size = wC.heap.size := by rw [hwD]; simp [setBlock]
  have hDo : wD.os = w.os ∧ wD.tape = w.tape ∧ wD.output = w.output := by rw [hwD]; exact hCo
  clear hwD
  refine wpAnyX_step (i := 7) (by kernel_rfl) rfl (by kernel_rfl) (fun K hK => ?_)
  go_simp
  have hH := g0 wD (fun j hj hjG _ => (hD2 j hjG).trans (hbC j (by omega)))
  refine hK.out _ _ hH ?_
  clear hK K
  try simp only [Act.put, zA0, zZ0, zS0]
  refine wpZ 8 hH ?_
  refine wpZ 10 hH ?_
  have hownD : OwnR wD base 140 2 (V (yh, true)) (A (yh, true)).length (acells (A (yh, true))) := (hSC.own _ hy).other (fun g hg _ => hD2 g (fun e => hSC.ne hy (e ▸ hg)))
  have hbxD : ∀ j u, ([.int .i64 (len - kn - xp), .int .i64 yp] : List Value)[j]? = some u → wD.cell? ((⟨w.heap.size + 4, 0, none⟩ : Addr).add j) = some u := by
    intro j u hj
    have := hbx j u hj
    rw [Addr.add_lit] at this ⊢
    exact (World.cell?_of_block (hD2 (w.heap.size + 4) (by omega))).trans this
  refine wpAnyX_step (i := 9) (by kernel_rfl) rfl (by kernel_rfl) (fun K hK => ?_)
  refine step_own rfl (.tmp 45) (.tmp 47) 110 rfl 140 i0 _ 2 16 Tryz.underlying110 hi hz0 hz1 hz2 rfl (by decide) base (V (yh, true)) (A (yh, true)).length (acells (A (yh, true))) (by simp [Act.eval]) hownD ⟨w.heap.size + 4, 0, none⟩ 1 [.int .i64 (len - kn - xp), .int .i64 yp] (by simp [Act.eval, hsB]) rfl hbxD (an_oneCell _ _) (by unfold maxLen; omega) (by omega) (by omega) ?_
  intro g' o' cap' w2 hown' hfr
  have hf2 : ∀ j, j < wC.heap.size → j ≠ Gb → (V (yh, true)).ownBlock ≠ some j → w2.heap[j]? = wC.heap[j]? := fun j hj hjG hne => (hfr.other j (by omega) hne).trans (hD2 j hjG)
  have hs2 : wD.heap.size ≤ w2.heap.size := hfr.size
  have hG2 : w2.heap[Gb]? = some (.map es1 clock1) := (hfr.other Gb (by omega) (hSC.ne hy)).trans hD1
  have hown2 : OwnR w2 base 140 2 (.slice (some ⟨g', o', none⟩) ((A (yh, true)).length + 1) cap') (A (yh, true) ++ [(len - kn - xp, yp)]).length (acells (A (yh, true) ++ [(len - kn - xp, yp)])) := by
    rw [acells_append, List.length_append]; exact hown'
  obtain ⟨w3, hrunS, hS3, h3j, h3s, h3o⟩ := HC.out w2 (.slice (some ⟨g', o', none⟩) ((A (yh, true)).length + 1) cap') g' (A (yh, true) ++ [(len - kn - xp, yp)]) hG2 (by omega) hf2 hown2 rfl (by rcases hfr.new with h | h; exact Or.inl h; right; omega) (by simp)
  have hos : w2.os = wD.os ∧ w2.tape = wD.tape ∧ w2.output = wD.output := ⟨hfr.os, hfr.tape, hfr.output⟩
  have hH := g0 w2 (fun j hj hjG hne => (hf2 j (by omega) hjG hne).trans (hbC j (by omega)))
  refine hK.out _ _ hH ?_
  clear hK K hH
  try simp only [Act.put, zA0, zZ0, zS0]
  refine wpAnyX_last (i := 11) (by kernel_rfl) rfl (by kernel_rfl) (by kernel_rfl) (fun K hK => ?_)
  go_simp
  refine hK.out _ _ ?_
  clear hK K
  go_end0
  refine ⟨rfl, ⟨_, hS3⟩, by omega, ?_, ?_, ?_, ?_⟩
  · intro g hg hgG hgV
    rw [h3j g hgG, hf2 g (by omega) hgG hgV, hbC g (by omega)]
    exact hbB.block g hg
  · rw [h3o.1, hos.1, hDo.1]
  · rw [h3o.2.1, hos.2.1, hDo.2.1]
  · rw [h3o.2.2, hos.2.2, hDo.2.2]
set_option maxHeartbeats 4000000 in
theorem ganchor_tt (xh xp yh yp : Int) (len k cnt : Int) (kn Wn scn : Nat) (rv mv : Value) (Gt X Gb base n : Nat) (V : Int × Bool → Value) (A : Int × Bool → List (Int × Int)) (w : World) (hy : okS (yh, false)) (hn : n < 100000) (hA : (A (yh, false)).length < 100000) (hbase : base ≤ w.heap.size)
    (hlen : 0 ≤ len ∧ len ≤ 1000000) (hk : k = kn) (hkn : kn ≤ 12) (hp : 0 ≤ xp ∧ xp ≤ 1000000)
    (hG : w.heap[Gt]? = some (.cells #[.pointer (some ⟨X, 0, none⟩), .int .i64 len, .int .i64 cnt, .map (some Gb)] 136 (0, 0))) (hX : w.heap[X]? = some (.cells (#[.int .i64 kn, .int .i64 Wn, .float .f64 scn, rv, mv]) 59 (0, 0))) (hS : SdP w base Gb n V A) :
    Calls Tryz.prog 93 #[.pointer (some ⟨Gt, 0, none⟩), .agg #[.int .i64 xh, .int .i64 xp, .bool true], .agg #[.int .i64 yh, .int .i64 yp, .bool true]] w fun e w' =>
      GaP w base Gb n V (yh, false) (updF eqS A (yh, false) (A (yh, false) ++ [(xp, yp)])) e w' := by
  obtain ⟨i0, hi, hz0, hz1, hz2⟩ := info_parts Tryz.info140
  have HS : Hid (SdP w base Gb n V A) := hS
  have hGl : Gt < w.heap.size := lt_of_block hG
  have hXl : X < w.heap.size := lt_of_block hX
  have HG : Hid (w.heap[Gt]? = some (.cells #[.pointer (some ⟨X, 0, none⟩), .int .i64 len, .int .i64 cnt, .map (some Gb)] 136 (0, 0))) := hG
  have HX : Hid (w.heap[X]? = some (.cells (#[.int .i64 kn, .int .i64 Wn, .float .f64 scn, rv, mv]) 59 (0, 0))) := hX
  have hGbl : Gb < w.heap.size := hS.lt
  have HGG : Hid (Gt ≠ Gb) := by
    obtain ⟨D, ⟨es, clock, hb, _⟩, _⟩ := hS.map
    intro e; rw [e, hb] at hG; cases hG
  clear hG hX hS
  subst hk
  go_enter Tryz.func93, Tryz.ntmps93
  go_wp2_with fail
  obtain ⟨wA, hwA⟩ : ∃ W1 : World, W1 = (((w.alloc (Obj.cells #[Value.int IntKind.i64 xh, Value.int IntKind.i64 xp, Value.bool true] 124)).alloc (Obj.cells #[Value.int IntKind.i64 yh, Value.int IntKind.i64 yp, Value.bool true] 78)).alloc (Obj.cells #[Value.int IntKind.i64 yh, Value.bool false] 109)).alloc (Obj.cells #[Value.int IntKind.i64 xp, Value.int IntKind.i64 yp] 140) := ⟨_, rfl⟩
  rw [← hwA]
  have hbA : Below w.heap.size w wA := by rw [hwA]; exact ((((Below.refl _ _).alloc (Nat.le_refl _) _).alloc (by simp) _).alloc (by simp; omega) _).alloc (by simp; omega) _
  have hsA : wA.heap.size = w.heap.size + 4 := by rw [hwA]; simp
  have hA0 : wA.heap[w.heap.size]? = some (.cells #[Value.int IntKind.i64 xh, Value.int IntKind.i64 xp, Value.bool true] 124 (0, 0)) := by
    rw [hwA, Below.heap_alloc _ _ _ (by simp; omega), Below.heap_alloc _ _ _ (by simp; omega), Below.heap_alloc _ _ _ (by simp)]; exact heap_alloc_new w _
  have hA2 : wA.heap[w.heap.size + 1 + 1]? = some (.cells #[Value.int IntKind.i64 yh, Value.bool false] 109 (0, 0)) := by
    rw [hwA, Below.heap_alloc _ _ _ (by simp)]
    have := heap_alloc_new ((w.alloc (Obj.cells #[Value.int IntKind.i64 xh, Value.int IntKind.i64 xp, Value.bool true] 124)).alloc (Obj.cells #[Value.int IntKind.i64 yh, Value.int IntKind.i64 yp, Value.bool true] 78)) (Obj.cells #[Value.int IntKind.i64 yh, Value.bool false] 109)
    have e1 : ((w.alloc (Obj.cells #[Value.int IntKind.i64 xh, Value.int IntKind.i64 xp, Value.bool true] 124)).alloc (Obj.cells #[Value.int IntKind.i64 yh, Value.int IntKind.i64 yp, Value.bool true] 78)).heap.size = w.heap.size + 1 + 1 := by simp
    rw [e1] at this; exact this
  have hA3 : wA.heap[w.heap.size + 1 + 1 + 1]? = some (.cells #[Value.int IntKind.i64 xp, Value.int IntKind.i64 yp] 140 (0, 0)) := by
    rw [hwA]
    have := heap_alloc_new (((w.alloc (Obj.cells #[Value.int IntKind.i64 xh, Value.int IntKind.i64 xp, Value.bool true] 124)).alloc (Obj.cells #[Value.int IntKind.i64 yh, Value.int IntKind.i64 yp, Value.bool true] 78)).alloc (Obj.cells #[Value.int IntKind.i64 yh, Value.bool false] 109)) (Obj.cells #[Value.int IntKind.i64 xp, Value.int IntKind.i64 yp] 140)
    have e1 : (((w.alloc (Obj.cells #[Value.int IntKind.i64 xh, Value.int IntKind.i64 xp, Value.bool true] 124)).alloc (Obj.cells #[Value.int IntKind.i64 yh, Value.int IntKind.i64 yp, Value.bool true] 78)).alloc (Obj.cells #[Value.int IntKind.i64 yh, Value.bool false] 109)).heap.size = w.heap.size + 1 + 1 + 1 := by simp
    rw [e1] at this; exact this
  clear hwA
  have hbB := hbA
  have hsB := hsA
  have hB2 := hA2
  have hB3 := hA3
  clear hbA hsA hA2 hA3 hA0
  revert hbB hsB hB2 hB3
  generalize wA = wB
  intro hbB hsB hB2 hB3
  have hSB : SdP wB base Gb n V A := HS.out.kept (fun j hj => hbB.block j hj)
  have HVl : ∀ g, (V (yh, false)).ownBlock = some g → g < w.heap.size := fun g hg => ((HS.out.own _ hy).lt hg).2
  have g0 : ∀ W1 : World, (∀ j, j < w.heap.size + 4 → j ≠ Gb → (V (yh, false)).ownBlock ≠ some j → W1.heap[j]? = wB.heap[j]?) → W1.cell? ⟨Gt, 3, none⟩ = some (.map (some Gb)) ∧ W1.cell? ⟨w.heap.size + 1 + 1, 0, none⟩ = some (.int .i64 yh) ∧ W1.cell? ⟨w.heap.size + 1 + 1, 1, none⟩ = some (.bool false) ∧ W1.cell? ⟨w.heap.size + 1 + 1 + 1, 0, none⟩ = some (.int .i64 (xp)) ∧ W1.cell? ⟨w.heap.size + 1 + 1 + 1, 1, none⟩ = some (.int .i64 yp) := by
    intro W1 hW
    have k0 : W1.heap[Gt]? = some (.cells #[.pointer (some ⟨X, 0, none⟩), .int .i64 len, .int .i64 cnt, .map (some Gb)] 136 (0, 0)) := (hW Gt (by omega) HGG.out ((HS.out.own _ hy).tag (by decide) HG.out)).trans ((hbB.block Gt hGl).trans HG.out)
    have k2 := (hW (w.heap.size + 1 + 1) (by omega) (by omega) (fun e => by have := HVl _ e; omega)).trans hB2
    have k3 := (hW (w.heap.size + 1 + 1 + 1) (by omega) (by omega) (fun e => by have := HVl _ e; omega)).trans hB3
    exact ⟨cell_at k0 rfl, cell_at k2 rfl, cell_at k2 rfl, cell_at k3 rfl, cell_at k3 rfl⟩
  refine wp_region_X 11 (fun W1 => W1.cell? ⟨Gt, 3, none⟩ = some (.map (some Gb)) ∧ W1.cell? ⟨w.heap.size + 1 + 1, 0, none⟩ = some (.int .i64 yh) ∧ W1.cell? ⟨w.heap.size + 1 + 1, 1, none⟩ = some (.bool false) ∧ W1.cell? ⟨w.heap.size + 1 + 1 + 1, 0, none⟩ = some (.int .i64 (xp)) ∧ W1.cell? ⟨w.heap.size + 1 + 1 + 1, 1, none⟩ = some (.int .i64 yp)) (by kernel_rfl) (g0 wB.drew (fun _ _ _ _ => rfl)) (fun hH => ?_)
  refine wpZ 0 hH ?_
  refine wpZ 1 hH ?_
  refine wpZ 2 hH ?_
  refine wpZ 3 hH ?_
  refine wpZ 4 hH ?_
  refine wpZ 5 hH ?_
  obtain ⟨wC, hwC⟩ : ∃ W1 : World, W1 = (wB.alloc (Obj.cells #[Value.int IntKind.i64 (xp), Value.int IntKind.i64 yp] 140)).drew := ⟨_, rfl⟩
  have hbC : ∀ j, j < wB.heap.size → wC.heap[j]? = wB.heap[j]? := fun j hj => by rw [hwC]; exact Below.heap_alloc wB.drew _ j hj
  have hsC : wC.heap.size = w.heap.size + 5 := by rw [hwC]; show (wB.alloc _).heap.size = _; simp [hsB]
  have hSC : SdP wC base Gb n V A := hSB.kept hbC
  have hbx : ∀ j u, ([.int .i64 (xp), .int .i64 yp] : List Value)[j]? = some u → wC.cell? ((⟨w.heap.size + 4, 0, none⟩ : Addr).add j) = some u := by
    rw [hwC]; exact abox2 wB.drew _ _ _ (by show _ = wB.heap.size; omega)
  have hCo : wC.os = w.os ∧ wC.tape = w.tape ∧ wC.output = w.output := by rw [hwC]; exact ⟨hbB.os, hbB.tape, hbB.output⟩
  obtain ⟨st, es1, clock1, hrunE, hcont⟩ := hSC.entry lawS Tryz.underlying106 zeroAnchors eqS_iff kS_inj hy (keyS _ hy) (by unfold maxLen; omega)
  have hrunE' : (Instr.mapEntry 106 (.map (some Gb)) (.agg #[.int .i64 yh, .bool false])).run Tryz.prog wC = .ok (.tuple #[V (yh, false), .int .i64 st]) (setBlock wC Gb (.map es1 clock1)) := hrunE
  have HC : Hid (∀ (w2 : World) (v' : Value) (g' : Nat) (l' : List (Int × Int)), w2.heap[Gb]? = some (.map es1 clock1) → wC.heap.size ≤ w2.heap.size → (∀ j, j < wC.heap.size → j ≠ Gb → (V (yh, false)).ownBlock ≠ some j → w2.heap[j]? = wC.heap[j]?) →
        OwnR w2 base 140 2 v' l'.length (acells l') → v'.ownBlock = some g' → ((V (yh, false)).ownBlock = some g' ∨ wC.heap.size ≤ g') → l'.isEmpty = false →
        ∃ w3, (Instr.entryStore 106 (.map (some Gb)) (.int .i64 st) v').run Tryz.prog w2 = .ok () w3 ∧ SdP w3 base Gb (n + 1) (updF eqS V (yh, false) v') (updF eqS A (yh, false) l') ∧ (∀ j, j ≠ Gb → w3.heap[j]? = w2.heap[j]?) ∧ w3.heap.size = w2.heap.size ∧ w3.os = w2.os ∧ w3.tape = w2.tape ∧ w3.output = w2.output) := hcont
  have hCb : wC.heap[Gb]? = some (.map es1 clock1) ∨ True := Or.inr trivial
  clear hcont hrunE hCb
  refine wpAnyX_step (i := 6) (by kernel_rfl) rfl (by kernel_rfl) (fun K hK => ?_)
  go_simp
  rw [← hwC]
  refine hK.out _ _ (g0 wC (fun j hj _ _ => hbC j (by omega))) ?_
  clear hK K hH hwC
  try simp only [Act.put, zA0, zZ0, zS0]
  obtain ⟨wD, hwD⟩ : ∃ W1 : World, W1 = setBlock wC Gb (.map es1 clock1) := ⟨_, rfl⟩
  rw [← hwD] at hrunE'
  obtain ⟨es0, clock0, hes0⟩ : ∃ es0 clock0, wC.heap[Gb]? = some (.map es0 clock0) := by
    obtain ⟨D, ⟨es, clock, hb, _⟩, _⟩ := hSC.map
    exact ⟨es, clock, hb⟩
  have hD1 : wD.heap[Gb]? = some (.map es1 clock1) := by rw [hwD]; exact heap_setBlock_same hes0 _
  have hD2 : ∀ j, j ≠ Gb → wD.heap[j]? = wC.heap[j]? := fun j hj => by rw [hwD]; exact heap_setBlock_other hes0 _ hj
  have hD3 : wD.heap.size = wC.heap.size := by rw [hwD]; simp [setBlock]
  have hDo : wD.os = w.os ∧ wD.tape = w.tape ∧ wD.output = w.output := by rw [hwD]; exact hCo
  clear hwD
  refine wpAnyX_step (i := 7) (by kernel_rfl) rfl (by kernel_rfl) (fun K hK => ?_)
  go_simp
  have hH := g0 wD (fun j hj hjG _ => (hD2 j hjG).trans (hbC j (by omega)))
  refine hK.out _ _ hH ?_
  clear hK K
  try simp only [Act.put, zA0, zZ0, zS0]
  refine wpZ 8 hH ?_
  refine wpZ 10 hH ?_
  have hownD : OwnR wD base 140 2 (V (yh, false)) (A (yh, false)).length (acells (A (yh, false))) := (hSC.own _ hy).other (fun g hg _ => hD2 g (fun e => hSC.ne hy (e ▸ hg)))
  have hbxD : ∀ j u, ([.int .i64 (xp), .int .i64 yp] : List Value)[j]? = some u → wD.cell? ((⟨w.heap.size + 4, 0, none⟩ : Addr).add j) = some u := by
    intro j u hj
    have := hbx j u hj
    rw [Addr.add_lit] at this ⊢
    exact (World.cell?_of_block (hD2 (w.heap.size + 4) (by omega))).trans this
  refine wpAnyX_step (i := 9) (by kernel_rfl) rfl (by kernel_rfl) (fun K hK => ?_)
  refine step_own rfl (.tmp 45) (.tmp 47) 110 rfl 140 i0 _ 2 16 Tryz.underlying110 hi hz0 hz1 hz2 rfl (by decide) base (V (yh, false)) (A (yh, false)).length (acells (A (yh, false))) (by simp [Act.eval]) hownD ⟨w.heap.size + 4, 0, none⟩ 1 [.int .i64 (xp), .int .i64 yp] (by simp [Act.eval, hsB]) rfl hbxD (an_oneCell _ _) (by unfold maxLen; omega) (by omega) (by omega) ?_
  intro g' o' cap' w2 hown' hfr
  have hf2 : ∀ j, j < wC.heap.size → j ≠ Gb → (V (yh, false)).ownBlock ≠ some j → w2.heap[j]? = wC.heap[j]? := fun j hj hjG hne => (hfr.other j (by omega) hne).trans (hD2 j hjG)
  have hs2 : wD.heap.size ≤ w2.heap.size := hfr.size
  have hG2 : w2.heap[Gb]? = some (.map es1 clock1) := (hfr.other Gb (by omega) (hSC.ne hy)).trans hD1
  have hown2 : OwnR w2 base 140 2 (.slice (some ⟨g', o', none⟩) ((A (yh, false)).length + 1) cap') (A (yh, false) ++ [(xp, yp)]).length (acells (A (yh, false) ++ [(xp, yp)])) := by
    rw [acells_append, List.length_append]; exact hown'
  obtain ⟨w3, hrunS, hS3, h3j, h3s, h3o⟩ := HC.out w2 (.slice (some ⟨g', o', none⟩) ((A (yh, false)).length + 1) cap') g' (A (yh, false) ++ [(xp, yp)]) hG2 (by omega) hf2 hown2 rfl (by rcases hfr.new with h | h; exact Or.inl h; right; omega) (by simp)
  have hos : w2.os = wD.os ∧ w2.tape = wD.tape ∧ w2.output = wD.output := ⟨hfr.os, hfr.tape, hfr.output⟩
  have hH := g0 w2 (fun j hj hjG hne => (hf2 j (by omega) hjG hne).trans (hbC j (by omega)))
  refine hK.out _ _ hH ?_
  clear hK K hH
  try simp only [Act.put, zA0, zZ0, zS0]
  refine wpAnyX_last (i := 11) (by kernel_rfl) rfl (by kernel_rfl) (by kernel_rfl) (fun K hK => ?_)
  go_simp
  refine hK.out _ _ ?_
  clear hK K
  go_end0
  refine ⟨rfl, ⟨_, hS3⟩, by omega, ?_, ?_, ?_, ?_⟩
  · intro g hg hgG hgV
    rw [h3j g hgG, hf2 g (by omega) hgG hgV, hbC g (by omega)]
    exact hbB.block g hg
  · rw [h3o.1, hos.1, hDo.1]
  · rw [h3o.2.1, hos.2.1, hDo.2.1]
  · rw [h3o.2.2, hos.2.2, hDo.2.2]
theorem ganchor_any (x y : W3) (len k cnt : Int) (kn Wn scn : Nat) (rv mv : Value) (Gt X Gb base n : Nat) (V : Int × Bool → Value) (A : Int × Bool → List (Int × Int)) (w : World) (hy : okS (sdOf x y)) (hn : n < 100000) (hA : (A (sdOf x y)).length < 100000) (hbase : base ≤ w.heap.size)
    (hlen : 0 ≤ len ∧ len ≤ 1000000) (hk : k = kn) (hkn : kn ≤ 12) (hp : 0 ≤ x.p ∧ x.p ≤ 1000000)
    (hG : w.heap[Gt]? = some (.cells #[.pointer (some ⟨X, 0, none⟩), .int .i64 len, .int .i64 cnt, .map (some Gb)] 136 (0, 0))) (hX : w.heap[X]? = some (.cells (#[.int .i64 kn, .int .i64 Wn, .float .f64 scn, rv, mv]) 59 (0, 0))) (hS : SdP w base Gb n V A) :
    Calls Tryz.prog 93 #[.pointer (some ⟨Gt, 0, none⟩), .agg #[.int .i64 x.h, .int .i64 x.p, .bool x.b], .agg #[.int .i64 y.h, .int .i64 y.p, .bool y.b]] w fun e w' =>
      GaP w base Gb n V (sdOf x y) (gatA len k A x y) e w' := by
  obtain ⟨xh, xp, xb⟩ := x
  obtain ⟨yh, yp, yb⟩ := y
  subst hk
  cases xb <;> cases yb
  · exact ganchor_ff xh xp yh yp len kn cnt kn Wn scn rv mv Gt X Gb base n V A w hy hn hA hbase hlen rfl hkn hp hG hX hS
  · exact ganchor_ft xh xp yh yp len kn cnt kn Wn scn rv mv Gt X Gb base n V A w hy hn hA hbase hlen rfl hkn hp hG hX hS
  · exact ganchor_tf xh xp yh yp len kn cnt kn Wn scn rv mv Gt X Gb base n V A w hy hn hA hbase hlen rfl hkn hp hG hX hS
  · exact ganchor_tt xh xp yh yp len kn cnt kn Wn scn rv mv Gt X Gb base n V A w hy hn hA hbase hlen rfl hkn hp hG hX hS
end Go.Proofs.YtilcmkiihefkkabGreatDoor.Mn
end
