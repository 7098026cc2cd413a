import Derived.DeepKeys4
import Derived.Test.YtilcmkiihefkkabGreatDoorJk5
import Derived.Test.YtilcmkiihefkkabGreatDoorProg
import Derived.WalkKit
import Derived.WideKeyEntry
section
set_option linter.unusedVariables false
set_option linter.unusedSimpArgs false
set_option maxRecDepth 100000
namespace Go.Proofs.YtilcmkiihefkkabGreatDoor.Mn
open Go.RowKit Go.Maps Go.WideElems Go.ChangeMaps Go.MapKept Go.WideMaps
section
variable {κ α : Type} {P : Program} {kl : κ → Lit} {ok : κ → Prop} {enc : List α → List Value} {K E sz : Nat} {w : World} {base B n : Nat} {V : κ → Value} {L : κ → List α}
theorem GrP.put (h : GrP P kl ok enc K E sz w base B n V L) {q : κ → κ → Bool} (hq : ∀ a b, q a b = true ↔ a = b) (hinj : ∀ a b, ok a → ok b → kl a = kl b → a = b) {x : κ} (hx : ok x) (hkl : WideAt.IsKeyLit (kl x))
    {w3 : World} {v' : Value} {g' : Nat} {l' : List α} (hD3 : ∀ D : DataW Value, w.ownsMap P K rawR B n D → w3.ownsMap P K rawR B (n + 1) (D.put (kl x) (.held v')))
    (hfr : ∀ j, j < w.heap.size → j ≠ B → (V x).ownBlock ≠ some j → w3.heap[j]? = w.heap[j]?)
    (hown : OwnR w3 base E sz v' l'.length (enc l')) (hg' : v'.ownBlock = some g') (hloc : (V x).ownBlock = some g' ∨ w.heap.size ≤ g') (hne : l'.isEmpty = false) :
    GrP P kl ok enc K E sz w3 base B (n + 1) (updF q V x v') (updF q L x l') := by
  have hBx := h.ne hx
  obtain ⟨D, hD, h1, h2, h3⟩ := h.map
  have qn : ∀ {y : κ}, y ≠ x → q y x = false := fun {y} hy => by cases hqq : q y x with | false => rfl | true => exact absurd ((hq y x).1 hqq) hy
  have qs : q x x = true := (hq x x).2 rfl
  refine ⟨⟨_, hD3 D hD, ?_, ?_, ?_⟩, ?_, ?_⟩
  · intro y hy
    by_cases hyx : y = x
    · subst hyx
      rw [Maps.atKey_put_same hD.isMap hkl]
      simp [updF, qs]
    · rw [Maps.atKey_put_other (fun e => hyx (hinj _ _ hy hx e)), h1 y hy]
      simp [updF, qn hyx]
  · intro y hy
    by_cases hyx : y = x
    · subst hyx
      rw [Maps.has_put_same hD.isMap hkl]
      simp only [updF, qs, if_true]
      rw [hne]; rfl
    · rw [Maps.has_put_other (fun e => hyx (hinj _ _ hy hx e)), h2 y hy]
      simp [updF, qn hyx]
  · intro l hl
    by_cases hlx : l = kl x
    · exact ⟨x, hx, hlx⟩
    · rw [Maps.has_put_other hlx] at hl
      exact h3 l hl
  · intro y hy
    by_cases hyx : y = x
    · subst hyx
      simp only [updF, qs, if_true]
      exact hown
    · simp only [updF, qn hyx]
      simp only [Bool.false_eq_true, if_false]
      refine (h.own y hy).other (fun g hgg hglt => hfr g hglt (fun e => h.ne hy (e ▸ hgg)) (fun e => h.apart y x g hy hx hyx hgg e))
  · intro a b g ha hb hab hag
    by_cases hax : a = x
    · subst hax
      simp only [updF, qs, if_true] at hag
      simp only [updF, qn (Ne.symm hab), Bool.false_eq_true, if_false]
      intro hbg
      rw [hg'] at hag
      have : g' = g := by simpa using hag
      subst this
      rcases hloc with h' | h'
      · exact h.apart a b g' hx hb hab h' hbg
      · have := ((h.own b hb).lt hbg).2
        omega
    · simp only [updF, qn hax, Bool.false_eq_true, if_false] at hag
      by_cases hbx : b = x
      · subst hbx
        simp only [updF, qs, if_true]
        intro hbg
        rw [hg'] at hbg
        have : g' = g := by simpa using hbg
        subst this
        rcases hloc with h' | h'
        · exact h.apart a b g' ha hx hab hag h'
        · have := ((h.own a ha).lt hag).2
          omega
      · simp only [updF, qn hbx, Bool.false_eq_true, if_false]
        exact h.apart a b g ha hb hab hag
/-- 'm[k] = append(m[k], v)' where the entry is taken once -/
theorem GrP.entry (h : GrP P kl ok enc K E sz w base B n V L) (hL : KeyLaw P K) {t e : TypeId} (ht : P.underlying t = some (.map K e)) (hz : ∀ u : World, (zeroValue e).run P u = .ok nilS u) {q : κ → κ → Bool} (hq : ∀ a b, q a b = true ↔ a = b)
    (hinj : ∀ a b, ok a → ok b → kl a = kl b → a = b) {x : κ} (hx : ok x) {key : Value} (hkey : keyOf P K key = some (kl x)) (hn : n < maxLen) :
    ∃ (st : Nat) (es1 : Array MapEntry) (clock1 : Nat), (Instr.mapEntry t (.map (some B)) key).run P w = .ok (.tuple #[V x, goInt st]) (setBlock w B (.map es1 clock1)) ∧
      ∀ (w2 : World) (v' : Value) (g' : Nat) (l' : List α), w2.heap[B]? = some (.map es1 clock1) → w.heap.size ≤ w2.heap.size → (∀ j, j < w.heap.size → j ≠ B → (V x).ownBlock ≠ some j → w2.heap[j]? = w.heap[j]?) →
        OwnR w2 base E sz v' l'.length (enc l') → v'.ownBlock = some g' → ((V x).ownBlock = some g' ∨ w.heap.size ≤ g') → l'.isEmpty = false →
        ∃ w3, (Instr.entryStore t (.map (some B)) (goInt st) v').run P w2 = .ok () w3 ∧ GrP P kl ok enc K E sz w3 base B (n + 1) (updF q V x v') (updF q L x l') ∧ (∀ j, j ≠ B → w3.heap[j]? = w2.heap[j]?) ∧ w3.heap.size = w2.heap.size ∧ w3.os = w2.os ∧ w3.tape = w2.tape ∧ w3.output = w2.output := by
  have hK : Keyed P K := Keyed.of_law hL
  have hlook := h.look hK ht (hz w) hx hkey
  obtain ⟨D, ⟨es, clock, hb, F, hsz, hD⟩, h1, h2, h3⟩ := h.map
  obtain ⟨v0, st, es1, clock1, hrun, hv0, hst⟩ := entry_then_store hL ht hz hb F hkey
  have hv : v0 = V x := by
    have hDo : w.ownsMap P K rawR B n D := ⟨es, clock, hb, F, hsz, hD⟩
    rcases Maps.fit_look false hK ht (hz w) hb F hkey with ⟨hr, hno, _⟩ | ⟨e0, y, he0, hek, hr, _⟩
    · rw [hlook] at hr
      rcases hv0 with ⟨e1, he1, hk1, rfl⟩ | ⟨_, rfl⟩
      · exact absurd hk1 (hno e1 he1)
      · simp at hr; exact hr.symm
    · rw [hlook] at hr
      rcases hv0 with ⟨e1, he1, hk1, rfl⟩ | ⟨hno, _⟩
      · simp at hr
        have hst2 := (stamped_iff es clock).1 F.stamped
        have := entry_eq_of_key hst2.2.2 he1 he0 (hk1.trans hek.symm)
        rw [this, hr]
      · exact absurd hek (hno e0 he0)
  subst hv
  refine ⟨st, es1, clock1, hrun, fun w2 v' g' l' hw2 hsz2 hfr hown hg' hloc hne => ?_⟩
  obtain ⟨es', clock', hrS, hrU⟩ := hst w2 v' hw2
  have hBx := h.ne hx
  refine ⟨_, hrS, h.put (v' := v') (g' := g') (l' := l') hq hinj hx (hK.key hkey) (fun D' hD' => ?_) (fun j hj hjB hjV => ?_) ?_ hg' hloc hne, fun j hj => heap_setBlock_other hw2 _ hj, by simp [setBlock], rfl, rfl, rfl⟩
  · obtain ⟨w', hr', hD2, _⟩ := hD'.update hK ht hn hkey (val := v') (d := .held v') (ps := []) rfl
    rw [hrU] at hr'
    have e : w' = setBlock w B (.map es' clock') := by simp at hr'; exact hr'.symm
    rw [e] at hD2
    exact ownsMap_at hD2 ((heap_setBlock_same hw2 _).trans (heap_setBlock_same hb _).symm)
  · rw [heap_setBlock_other hw2 _ hjB]
    exact hfr j hj hjB hjV
  · refine hown.other (fun g hgg hglt => heap_setBlock_other hw2 _ (fun e => ?_))
    rw [hg'] at hgg
    have : g' = g := by simpa using hgg
    subst this; subst e
    rcases hloc with h' | h'
    · exact hBx h'
    · have := h.lt; omega
end
/-- a side as a key -/
def kS (x : Int × Bool) : Lit := .string (keyBytes [.int .i64 x.1, .bool x.2])
def okS (x : Int × Bool) : Prop := (Lit.int .i64 x.1).wf = true
def eqS (a b : Int × Bool) : Bool := decide (a = b)
theorem eqS_iff (a b : Int × Bool) : eqS a b = true ↔ a = b := by simp [eqS]
def vS (x : Int × Bool) : Value := .agg #[.int .i64 x.1, .bool x.2]
theorem laidOutG : laidOutB Tryz.prog = true := by kernel_rfl
theorem wideS : (match Tryz.prog.underlying 109 with | some (.array _ _) | some (.struct _) => true | _ => false) = true := by rw [Tryz.underlying109]
theorem rowS_ : (109 : TypeId) < Tryz.prog.types.size := of_decide_eq_true (by kernel_rfl)
theorem lawS : KeyLaw Tryz.prog 109 := deep_law_laid laidOutG (m := 2) (by omega) rowS_ (by kernel_rfl) wideS
theorem keyS (x : Int × Bool) (h : okS x) : keyOf Tryz.prog 109 (vS x) = some (kS x) := by
  have hk : Tryz.prog.keyType 109 = true := by kernel_rfl
  have hc : Tryz.prog.cellsOf 109 = 2 := by kernel_rfl
  have hc3 : Tryz.prog.cellsOf 3 = 1 := by kernel_rfl
  have hc4 : Tryz.prog.cellsOf 4 = 1 := by kernel_rfl
  have hs : ∃ m, Tryz.prog.types.size + 1 = m + 2 := ⟨Tryz.prog.types.size - 1, by have h : (109 : Nat) < Tryz.prog.types.size := rowS_; omega⟩
  obtain ⟨m, hm⟩ := hs
  have hf : (vS x).formed Tryz.prog 109 = true := by simp [vS, Value.formed, Tryz.underlying109, hc]
  have hw : (Lit.int .i64 x.1).wf = true := h
  unfold keyOf
  rw [Tryz.underlying109]
  simp only [hk, hf, Bool.and_self, if_true, hm]
  simp [Program.keyLits, Tryz.underlying109, Tryz.underlying3, Tryz.underlying4, hc, hc3, hc4, vS, Value.cells, hw, kS]
theorem kS_inj (a b : Int × Bool) (ha : okS a) (hb : okS b) (h : kS a = kS b) : a = b := by
  have h1 := keyS a ha
  have h2 := keyS b hb
  rw [h] at h1
  have := (Keyed.of_law lawS).inj h1 h2
  simp only [vS, Value.agg.injEq, Array.mk.injEq, List.cons.injEq, Value.int.injEq, Value.bool.injEq, true_and, and_true] at this
  exact Prod.ext this.1 this.2
theorem zeroAnchors (w : World) : (zeroValue 110).run Tryz.prog w = .ok nilS w := by kernel_rfl
end Go.Proofs.YtilcmkiihefkkabGreatDoor.Mn
end
