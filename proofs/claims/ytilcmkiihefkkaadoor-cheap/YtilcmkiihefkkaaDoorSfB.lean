import Derived.Test.YtilcmkiihefkkaaDoorSfA
set_option linter.unusedVariables false
set_option linter.unusedSimpArgs false
set_option maxRecDepth 100000
namespace Go.Proofs.YtilcmkiihefkkaaDoor
open Go.RowKit Go.Shelf

/-- what a pair of bases costs, by their places -/
def uR (read ref : ByteArray) (i j : Nat) : Int := uB (read.data.toList.getD i 0) (ref.data.toList.getD j 0)

theorem uR_bd (read ref : ByteArray) : ∀ i j, 0 ≤ uR read ref i j ∧ uR read ref i j ≤ 4 := fun i j => by
  unfold uR uB
  split <;> omega

def rowsV (b : Nat → Nat) (i m : Nat) : List Value := (List.range i).map fun t => .slice (some ⟨b t, 0, none⟩) (m + 1) (m + 1)

theorem rowsV_get (b : Nat → Nat) (i m t : Nat) (h : t < i) : (rowsV b i m)[t]? = some (.slice (some ⟨b t, 0, none⟩) (m + 1) (m + 1)) := by
  simp [rowsV, h]

theorem rowsV_succ (b : Nat → Nat) (i m x : Nat) : rowsV b i m ++ [.slice (some ⟨x, 0, none⟩) (m + 1) (m + 1)] = rowsV (fun t => if t = i then x else b t) (i + 1) m := by
  unfold rowsV
  rw [List.range_succ, List.map_append]
  simp only [List.map_cons, List.map_nil, if_true]
  congr 1
  refine List.map_congr_left (fun t ht => ?_)
  have : t ≠ i := by have := List.mem_range.1 ht; omega
  rw [if_neg this]

theorem RP.app {w w' : World} {b n j : Nat} {f : Nat → Int} (h : RP w b n j f) {base k : Nat} {v : Value} {xs : List Value} {g' : Nat} (ho : OwnR w base 26 1 v k xs) (hf : AppFr w w' v g') : RP w' b n j f := by
  obtain ⟨cur, h1, h2⟩ := h
  exact ⟨cur, (hf.other b (lt_of_block h1) (ho.tag (by decide) h1)).trans h1, h2⟩

theorem RP.alloc {w : World} {b n j : Nat} {f : Nat → Int} (h : RP w b n j f) (ob : Obj) : RP (w.alloc ob) b n j f := h.other (Below.heap_alloc _ _ _ h.lt)

theorem RP.setOther {w : World} {b n j : Nat} {f : Nat → Int} (h : RP w b n j f) {G i : Nat} {cs : Array Value} (hG : w.heap[G]? = some (.cells cs 72 (0, 0))) (v : Value) : RP (w.setCell ⟨G, i, none⟩ v) b n j f := by
  refine h.other (heap_setCell_other w _ b v ?_)
  intro he
  have he : b = G := he
  subst he
  obtain ⟨cur, h1, _⟩ := h
  rw [h1] at hG
  simp at hG

theorem infoInts : (Tryd.prog.info? 26).map (fun i => (i.zero, i.size, i.bytes)) = some (some (.slice none 0 0), 1, 24) := by kernel_rfl

/-- the three tables -/
structure Tb (read ref : ByteArray) (base : Nat) (wx : World) (G iM iI iD : Nat) (vM vI vD : Value) (bM bI bD : Nat → Nat) : Prop where
  hG : wx.heap[G]? = some (.cells #[.string read, .string ref, vM, vI, vD] 72 (0, 0))
  oM : OwnR wx base 26 1 vM iM (rowsV bM iM ref.size)
  oI : OwnR wx base 26 1 vI iI (rowsV bI iI ref.size)
  oD : OwnR wx base 26 1 vD iD (rowsV bD iD ref.size)
  dMI : ∀ g, vM.ownBlock = some g → vI.ownBlock ≠ some g
  dMD : ∀ g, vM.ownBlock = some g → vD.ownBlock ≠ some g
  dID : ∀ g, vI.ownBlock = some g → vD.ownBlock ≠ some g

/-- a row is made and put behind a table -/
structure Made (w w' : World) (b m : Nat) : Prop where
  row : ∀ f, RP w' b (m + 1) 0 f
  old : ∀ c n j f, RP w c n j f → RP w' c n j f ∧ c ≠ b
  ge : w.heap.size ≤ b

theorem Tb.addM {read ref : ByteArray} {base : Nat} {wa wc : World} {G iM iI iD : Nat} {vM vI vD : Value} {bM bI bD : Nat → Nat} (h : Tb read ref base wa G iM iI iD vM vI vD bM bI bD) (hb : base ≤ wa.heap.size) (hbG : base ≤ G) (Z : Array Value) (hZ : Z.size = ref.size + 1) (g' o' cap' : Nat)
    (hown : OwnR wc base 26 1 (.slice (some ⟨g', o', none⟩) (iM + 1) cap') (iM + 1) (rowsV bM iM ref.size ++ [.slice (some ⟨wa.heap.size, 0, none⟩) (ref.size + 1) (ref.size + 1)]))
    (hfr : AppFr (((wa.alloc (.cells Z 3)).alloc (.cells #[.slice (some ⟨wa.heap.size, 0, none⟩) (ref.size + 1) (ref.size + 1)] 26))) wc vM g') :
    Tb read ref base (wc.setCell ⟨G, 2, none⟩ (.slice (some ⟨g', o', none⟩) (iM + 1) cap')) G (iM + 1) iI iD (.slice (some ⟨g', o', none⟩) (iM + 1) cap') vI vD (fun t => if t = iM then wa.heap.size else bM t) bI bD ∧
    Made wa (wc.setCell ⟨G, 2, none⟩ (.slice (some ⟨g', o', none⟩) (iM + 1) cap')) wa.heap.size ref.size ∧ Below base wa (wc.setCell ⟨G, 2, none⟩ (.slice (some ⟨g', o', none⟩) (iM + 1) cap')) ∧
    wc.heap[G]? = some (.cells #[.string read, .string ref, vM, vI, vD] 72 (0, 0)) := by
  obtain ⟨wb, hwb⟩ : ∃ wb : World, wb = ((wa.alloc (.cells Z 3)).alloc (.cells #[.slice (some ⟨wa.heap.size, 0, none⟩) (ref.size + 1) (ref.size + 1)] 26)) := ⟨_, rfl⟩
  rw [← hwb] at hfr
  have hold : ∀ b, b < wa.heap.size → wb.heap[b]? = wa.heap[b]? := fun b hb => by
    rw [hwb, Below.heap_alloc _ _ _ (by simp; omega), Below.heap_alloc _ _ _ hb]
  have hsz : wb.heap.size = wa.heap.size + 1 + 1 := by rw [hwb]; simp
  have hltG := lt_of_block h.hG
  have hGb : wb.heap[G]? = some (.cells #[.string read, .string ref, vM, vI, vD] 72 (0, 0)) := (hold G hltG).trans h.hG
  have oMb : OwnR wb base 26 1 vM iM (rowsV bM iM ref.size) := h.oM.other (fun g _ hlt => hold g hlt)
  have oIb : OwnR wb base 26 1 vI iI (rowsV bI iI ref.size) := h.oI.other (fun g _ hlt => hold g hlt)
  have oDb : OwnR wb base 26 1 vD iD (rowsV bD iD ref.size) := h.oD.other (fun g _ hlt => hold g hlt)
  have hGc : wc.heap[G]? = some (.cells #[.string read, .string ref, vM, vI, vD] 72 (0, 0)) := (hfr.other G (by omega) (oMb.tag (by decide) hGb)).trans hGb
  have hu := Upd.of_setCell (i := 2) (.slice (some ⟨g', o', none⟩) (iM + 1) cap') hGc
  have hnew : wb.heap[wa.heap.size]? = some (.cells Z 3 (0, 0)) := by
    rw [hwb, Below.heap_alloc _ _ _ (by simp)]
    exact heap_alloc_new wa _
  rw [rowsV_succ] at hown
  refine ⟨⟨hu.here, ?_, ?_, ?_, ?_, ?_, ?_⟩, ⟨fun f => ?_, fun c n j f hc => ⟨?_, ?_⟩, Nat.le_refl _⟩, ?_, hGc⟩
  · exact hown.setOther _ (hown.tag (by decide) hGc)
  · have hx : OwnR wc base 26 1 vI iI (rowsV bI iI ref.size) := oIb.other (fun g hg hlt => hfr.other g hlt (fun he => h.dMI g he hg))
    exact hx.setOther _ (hx.tag (by decide) hGc)
  · have hx : OwnR wc base 26 1 vD iD (rowsV bD iD ref.size) := oDb.other (fun g hg hlt => hfr.other g hlt (fun he => h.dMD g he hg))
    exact hx.setOther _ (hx.tag (by decide) hGc)
  · intro g hg he
    have hg2 : g' = g := by simpa [Value.ownBlock] using hg
    subst hg2
    have hl := (h.oI.lt he).2
    rcases hfr.new with h1 | h1
    · exact h.dMI g' h1 he
    · omega
  · intro g hg he
    have hg2 : g' = g := by simpa [Value.ownBlock] using hg
    subst hg2
    have hl := (h.oD.lt he).2
    rcases hfr.new with h1 | h1
    · exact h.dMD g' h1 he
    · omega
  · exact h.dID
  · have hr : RP wb wa.heap.size (ref.size + 1) 0 f := ⟨Z, hnew, hZ, fun k hk => absurd hk (by omega)⟩
    exact (hr.app oMb hfr).setOther hGc _
  · have hr : RP wb c n j f := hc.other (hold c hc.lt)
    exact (hr.app oMb hfr).setOther hGc _
  · have := hc.lt; omega
  · have h1 : Below base wa wb := ⟨by rw [hwb]; rfl, by rw [hwb]; rfl, by rw [hwb]; rfl, by omega, fun b hb' => hold b (by omega)⟩
    exact (h1.trans (hfr.below (fun g hg => (oMb.lt hg).1) (by omega))).trans (hu.below hbG)

theorem Tb.addI {read ref : ByteArray} {base : Nat} {wa wc : World} {G iM iI iD : Nat} {vM vI vD : Value} {bM bI bD : Nat → Nat} (h : Tb read ref base wa G iM iI iD vM vI vD bM bI bD) (hb : base ≤ wa.heap.size) (hbG : base ≤ G) (Z : Array Value) (hZ : Z.size = ref.size + 1) (g' o' cap' : Nat)
    (hown : OwnR wc base 26 1 (.slice (some ⟨g', o', none⟩) (iI + 1) cap') (iI + 1) (rowsV bI iI ref.size ++ [.slice (some ⟨wa.heap.size, 0, none⟩) (ref.size + 1) (ref.size + 1)]))
    (hfr : AppFr (((wa.alloc (.cells Z 3)).alloc (.cells #[.slice (some ⟨wa.heap.size, 0, none⟩) (ref.size + 1) (ref.size + 1)] 26))) wc vI g') :
    Tb read ref base (wc.setCell ⟨G, 3, none⟩ (.slice (some ⟨g', o', none⟩) (iI + 1) cap')) G iM (iI + 1) iD vM (.slice (some ⟨g', o', none⟩) (iI + 1) cap') vD bM (fun t => if t = iI then wa.heap.size else bI t) bD ∧
    Made wa (wc.setCell ⟨G, 3, none⟩ (.slice (some ⟨g', o', none⟩) (iI + 1) cap')) wa.heap.size ref.size ∧ Below base wa (wc.setCell ⟨G, 3, none⟩ (.slice (some ⟨g', o', none⟩) (iI + 1) cap')) ∧
    wc.heap[G]? = some (.cells #[.string read, .string ref, vM, vI, vD] 72 (0, 0)) := by
  obtain ⟨wb, hwb⟩ : ∃ wb : World, wb = ((wa.alloc (.cells Z 3)).alloc (.cells #[.slice (some ⟨wa.heap.size, 0, none⟩) (ref.size + 1) (ref.size + 1)] 26)) := ⟨_, rfl⟩
  rw [← hwb] at hfr
  have hold : ∀ b, b < wa.heap.size → wb.heap[b]? = wa.heap[b]? := fun b hb => by
    rw [hwb, Below.heap_alloc _ _ _ (by simp; omega), Below.heap_alloc _ _ _ hb]
  have hsz : wb.heap.size = wa.heap.size + 1 + 1 := by rw [hwb]; simp
  have hltG := lt_of_block h.hG
  have hGb : wb.heap[G]? = some (.cells #[.string read, .string ref, vM, vI, vD] 72 (0, 0)) := (hold G hltG).trans h.hG
  have oMb : OwnR wb base 26 1 vM iM (rowsV bM iM ref.size) := h.oM.other (fun g _ hlt => hold g hlt)
  have oIb : OwnR wb base 26 1 vI iI (rowsV bI iI ref.size) := h.oI.other (fun g _ hlt => hold g hlt)
  have oDb : OwnR wb base 26 1 vD iD (rowsV bD iD ref.size) := h.oD.other (fun g _ hlt => hold g hlt)
  have hGc : wc.heap[G]? = some (.cells #[.string read, .string ref, vM, vI, vD] 72 (0, 0)) := (hfr.other G (by omega) (oIb.tag (by decide) hGb)).trans hGb
  have hu := Upd.of_setCell (i := 3) (.slice (some ⟨g', o', none⟩) (iI + 1) cap') hGc
  have hnew : wb.heap[wa.heap.size]? = some (.cells Z 3 (0, 0)) := by
    rw [hwb, Below.heap_alloc _ _ _ (by simp)]
    exact heap_alloc_new wa _
  rw [rowsV_succ] at hown
  refine ⟨⟨hu.here, ?_, ?_, ?_, ?_, ?_, ?_⟩, ⟨fun f => ?_, fun c n j f hc => ⟨?_, ?_⟩, Nat.le_refl _⟩, ?_, hGc⟩
  · have hx : OwnR wc base 26 1 vM iM (rowsV bM iM ref.size) := oMb.other (fun g hg hlt => hfr.other g hlt (fun he => h.dMI g hg he))
    exact hx.setOther _ (hx.tag (by decide) hGc)
  · exact hown.setOther _ (hown.tag (by decide) hGc)
  · have hx : OwnR wc base 26 1 vD iD (rowsV bD iD ref.size) := oDb.other (fun g hg hlt => hfr.other g hlt (fun he => h.dID g he hg))
    exact hx.setOther _ (hx.tag (by decide) hGc)
  · intro g hg he
    have hg2 : g' = g := by simpa [Value.ownBlock] using he
    subst hg2
    have hl := (h.oM.lt hg).2
    rcases hfr.new with h1 | h1
    · exact h.dMI g' hg h1
    · omega
  · exact h.dMD
  · intro g hg he
    have hg2 : g' = g := by simpa [Value.ownBlock] using hg
    subst hg2
    have hl := (h.oD.lt he).2
    rcases hfr.new with h1 | h1
    · exact h.dID g' h1 he
    · omega
  · have hr : RP wb wa.heap.size (ref.size + 1) 0 f := ⟨Z, hnew, hZ, fun k hk => absurd hk (by omega)⟩
    exact (hr.app oIb hfr).setOther hGc _
  · have hr : RP wb c n j f := hc.other (hold c hc.lt)
    exact (hr.app oIb hfr).setOther hGc _
  · have := hc.lt; omega
  · have h1 : Below base wa wb := ⟨by rw [hwb]; rfl, by rw [hwb]; rfl, by rw [hwb]; rfl, by omega, fun b hb' => hold b (by omega)⟩
    exact (h1.trans (hfr.below (fun g hg => (oIb.lt hg).1) (by omega))).trans (hu.below hbG)

theorem Tb.addD {read ref : ByteArray} {base : Nat} {wa wc : World} {G iM iI iD : Nat} {vM vI vD : Value} {bM bI bD : Nat → Nat} (h : Tb read ref base wa G iM iI iD vM vI vD bM bI bD) (hb : base ≤ wa.heap.size) (hbG : base ≤ G) (Z : Array Value) (hZ : Z.size = ref.size + 1) (g' o' cap' : Nat)
    (hown : OwnR wc base 26 1 (.slice (some ⟨g', o', none⟩) (iD + 1) cap') (iD + 1) (rowsV bD iD ref.size ++ [.slice (some ⟨wa.heap.size, 0, none⟩) (ref.size + 1) (ref.size + 1)]))
    (hfr : AppFr (((wa.alloc (.cells Z 3)).alloc (.cells #[.slice (some ⟨wa.heap.size, 0, none⟩) (ref.size + 1) (ref.size + 1)] 26))) wc vD g') :
    Tb read ref base (wc.setCell ⟨G, 4, none⟩ (.slice (some ⟨g', o', none⟩) (iD + 1) cap')) G iM iI (iD + 1) vM vI (.slice (some ⟨g', o', none⟩) (iD + 1) cap') bM bI (fun t => if t = iD then wa.heap.size else bD t) ∧
    Made wa (wc.setCell ⟨G, 4, none⟩ (.slice (some ⟨g', o', none⟩) (iD + 1) cap')) wa.heap.size ref.size ∧ Below base wa (wc.setCell ⟨G, 4, none⟩ (.slice (some ⟨g', o', none⟩) (iD + 1) cap')) ∧
    wc.heap[G]? = some (.cells #[.string read, .string ref, vM, vI, vD] 72 (0, 0)) := by
  obtain ⟨wb, hwb⟩ : ∃ wb : World, wb = ((wa.alloc (.cells Z 3)).alloc (.cells #[.slice (some ⟨wa.heap.size, 0, none⟩) (ref.size + 1) (ref.size + 1)] 26)) := ⟨_, rfl⟩
  rw [← hwb] at hfr
  have hold : ∀ b, b < wa.heap.size → wb.heap[b]? = wa.heap[b]? := fun b hb => by
    rw [hwb, Below.heap_alloc _ _ _ (by simp; omega), Below.heap_alloc _ _ _ hb]
  have hsz : wb.heap.size = wa.heap.size + 1 + 1 := by rw [hwb]; simp
  have hltG := lt_of_block h.hG
  have hGb : wb.heap[G]? = some (.cells #[.string read, .string ref, vM, vI, vD] 72 (0, 0)) := (hold G hltG).trans h.hG
  have oMb : OwnR wb base 26 1 vM iM (rowsV bM iM ref.size) := h.oM.other (fun g _ hlt => hold g hlt)
  have oIb : OwnR wb base 26 1 vI iI (rowsV bI iI ref.size) := h.oI.other (fun g _ hlt => hold g hlt)
  have oDb : OwnR wb base 26 1 vD iD (rowsV bD iD ref.size) := h.oD.other (fun g _ hlt => hold g hlt)
  have hGc : wc.heap[G]? = some (.cells #[.string read, .string ref, vM, vI, vD] 72 (0, 0)) := (hfr.other G (by omega) (oDb.tag (by decide) hGb)).trans hGb
  have hu := Upd.of_setCell (i := 4) (.slice (some ⟨g', o', none⟩) (iD + 1) cap') hGc
  have hnew : wb.heap[wa.heap.size]? = some (.cells Z 3 (0, 0)) := by
    rw [hwb, Below.heap_alloc _ _ _ (by simp)]
    exact heap_alloc_new wa _
  rw [rowsV_succ] at hown
  refine ⟨⟨hu.here, ?_, ?_, ?_, ?_, ?_, ?_⟩, ⟨fun f => ?_, fun c n j f hc => ⟨?_, ?_⟩, Nat.le_refl _⟩, ?_, hGc⟩
  · have hx : OwnR wc base 26 1 vM iM (rowsV bM iM ref.size) := oMb.other (fun g hg hlt => hfr.other g hlt (fun he => h.dMD g hg he))
    exact hx.setOther _ (hx.tag (by decide) hGc)
  · have hx : OwnR wc base 26 1 vI iI (rowsV bI iI ref.size) := oIb.other (fun g hg hlt => hfr.other g hlt (fun he => h.dID g hg he))
    exact hx.setOther _ (hx.tag (by decide) hGc)
  · exact hown.setOther _ (hown.tag (by decide) hGc)
  · exact h.dMI
  · intro g hg he
    have hg2 : g' = g := by simpa [Value.ownBlock] using he
    subst hg2
    have hl := (h.oM.lt hg).2
    rcases hfr.new with h1 | h1
    · exact h.dMD g' hg h1
    · omega
  · intro g hg he
    have hg2 : g' = g := by simpa [Value.ownBlock] using he
    subst hg2
    have hl := (h.oI.lt hg).2
    rcases hfr.new with h1 | h1
    · exact h.dID g' hg h1
    · omega
  · have hr : RP wb wa.heap.size (ref.size + 1) 0 f := ⟨Z, hnew, hZ, fun k hk => absurd hk (by omega)⟩
    exact (hr.app oDb hfr).setOther hGc _
  · have hr : RP wb c n j f := hc.other (hold c hc.lt)
    exact (hr.app oDb hfr).setOther hGc _
  · have := hc.lt; omega
  · have h1 : Below base wa wb := ⟨by rw [hwb]; rfl, by rw [hwb]; rfl, by rw [hwb]; rfl, by omega, fun b hb' => hold b (by omega)⟩
    exact (h1.trans (hfr.below (fun g hg => (oDb.lt hg).1) (by omega))).trans (hu.below hbG)
end Go.Proofs.YtilcmkiihefkkaaDoor
