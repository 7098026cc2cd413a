import Derived.Maps.OwnSet
import Derived.Maps.RangeWalk
import Derived.Maps.Views
import Derived.Test.YtilcmkiihefkkabGreatDoorJk4
section
set_option linter.unusedVariables false
set_option linter.unusedSimpArgs false
set_option maxRecDepth 100000
namespace Go.Proofs.YtilcmkiihefkkabGreatDoor.Mn
open Go.RowKit Go.Maps
/-- a map's element as it lies -/
def rawR (v : Value) : Option (DataW Value × List MemPlace) := some (.held v, [])
def nilS : Value := .slice none 0 0
def updF {κ β : Type} (q : κ → κ → Bool) (f : κ → β) (x : κ) (v : β) : κ → β := fun y => if q y x = true then v else f y
/-- a map of slices, each in a row of its own -/
structure GrP {κ α : Type} (P : Program) (kl : κ → Lit) (ok : κ → Prop) (enc : List α → List Value) (K E sz : Nat) (w : World) (base B n : Nat) (V : κ → Value) (L : κ → List α) : Prop where
  map : ∃ D : DataW Value, w.ownsMap P K rawR B n D ∧ (∀ x, ok x → D.atKey (kl x) (.held nilS) = .held (V x)) ∧ (∀ x, ok x → Maps.has D (kl x) = !(L x).isEmpty) ∧ (∀ l, Maps.has D l = true → ∃ x, ok x ∧ l = kl x)
  own : ∀ x, ok x → OwnR w base E sz (V x) (L x).length (enc (L x))
  apart : ∀ x y g, ok x → ok y → x ≠ y → (V x).ownBlock = some g → (V y).ownBlock ≠ some g
theorem ownsMap_at {H : Type} {P : Program} {k : TypeId} {R : Value → Option (DataW H × List MemPlace)} {w w' : World} {b n : Nat} {D : DataW H} (h : w.ownsMap P k R b n D) (e : w'.heap[b]? = w.heap[b]?) : w'.ownsMap P k R b n D := by
  obtain ⟨es, clock, hb, F, hs, hD⟩ := h
  exact ⟨es, clock, e.trans hb, F, hs, hD⟩
section
variable {κ α : Type} {P : Program} {kl : κ → Lit} {ok : κ → Prop} {enc : List α → List Value} {K E sz : Nat} {w : World} {base B n : Nat} {V : κ → Value} {L : κ → List α}
theorem GrP.lt (h : GrP P kl ok enc K E sz w base B n V L) : B < w.heap.size := by
  obtain ⟨D, hD, _⟩ := h.map
  exact hD.lt
theorem GrP.ne (h : GrP P kl ok enc K E sz w base B n V L) {x : κ} (hx : ok x) : (V x).ownBlock ≠ some B := by
  obtain ⟨D, ⟨es, clock, hb, _⟩, _⟩ := h.map
  obtain ⟨_, ho⟩ := h.own x hx
  rcases ho with ⟨e, _⟩ | ⟨g, o, cap, cur, e, _, hg, _⟩
  · rw [e]; simp [Value.ownBlock]
  · rw [e]
    simp only [Value.ownBlock, ne_eq, Option.some.injEq]
    intro e2
    rw [e2, hb] at hg
    cases hg
/-- nothing that was there has turned -/
theorem GrP.kept (h : GrP P kl ok enc K E sz w base B n V L) {w' : World} (hk : ∀ j, j < w.heap.size → w'.heap[j]? = w.heap[j]?) : GrP P kl ok enc K E sz w' base B n V L := by
  obtain ⟨D, hD, r⟩ := h.map
  exact ⟨⟨D, ownsMap_at hD (hk _ hD.lt), r⟩, fun x hx => (h.own x hx).other (fun g _ hlt => hk g hlt), h.apart⟩
theorem GrP.mono (h : GrP P kl ok enc K E sz w base B n V L) {n' : Nat} (hn : n ≤ n') : GrP P kl ok enc K E sz w base B n' V L := by
  obtain ⟨D, hD, r⟩ := h.map
  exact ⟨⟨D, hD.mono hn, r⟩, h.own, h.apart⟩
theorem GrP.made (w : World) (P : Program) (kl : κ → Lit) (ok : κ → Prop) (enc : List α → List Value) (henc : enc [] = []) (K E sz base : Nat) : GrP P kl ok enc K E sz (w.alloc (.map #[] 0)) base w.heap.size 0 (fun _ => nilS) (fun _ => []) :=
  ⟨⟨.map [], World.ownsMap_made w P K rawR, fun _ _ => rfl, fun _ _ => rfl, fun l hl => by cases hl⟩, fun x _ => by show OwnR _ _ _ _ _ 0 (enc []); rw [henc]; exact OwnR.nil _ _ _ _, fun x y g _ _ _ hx => by cases hx⟩
theorem GrP.look (h : GrP P kl ok enc K E sz w base B n V L) (hK : Keyed P K) {t e : TypeId} (ht : P.underlying t = some (.map K e)) (hz : (zeroValue e).run P w = .ok nilS w) {x : κ} (hx : ok x) {key : Value} (hkey : keyOf P K key = some (kl x)) :
    (Instr.lookup t (.map (some B)) key false).run P w = .ok (V x) w := by
  obtain ⟨D, hD, h1, _⟩ := h.map
  obtain ⟨v, ps, hrun, hv⟩ := hD.lookup hK ht hz (zd := .held nilS) (zp := []) rfl hkey
  rw [h1 x hx] at hv
  simp only [rawR, Option.some.injEq, Prod.mk.injEq, DataW.held.injEq] at hv
  rw [hrun, hv.1]
theorem GrP.store (h : GrP P kl ok enc K E sz w base B n V L) (hK : Keyed P K) {t e : TypeId} (ht : P.underlying t = some (.map K e)) {q : κ → κ → Bool} (hq : ∀ a b, q a b = true ↔ a = b)
    (hinj : ∀ a b, ok a → ok b → kl a = kl b → a = b) {x : κ} (hx : ok x) {key : Value} (hkey : keyOf P K key = some (kl x)) (hn : n < maxLen)
    {w2 : World} {v' : Value} {g' : Nat} {l' : List α} (hsz : w.heap.size ≤ w2.heap.size) (hfr : ∀ j, j < w.heap.size → (V x).ownBlock ≠ some j → w2.heap[j]? = w.heap[j]?)
    (hown : OwnR w2 base E sz v' l'.length (enc l')) (hg' : v'.ownBlock = some g') (hloc : (V x).ownBlock = some g' ∨ w.heap.size ≤ g') (hne : l'.isEmpty = false) :
    ∃ w3, (Instr.mapUpdate t (.map (some B)) key v').run P w2 = .ok () w3 ∧ GrP P kl ok enc K E sz w3 base B (n + 1) (updF q V x v') (updF q L x l') ∧ w2.grownBy w3 (some B) := by
  have hlt := h.lt
  have hBx := h.ne hx
  obtain ⟨D, hD, h1, h2, h3⟩ := h.map
  have hD2 := ownsMap_at hD (hfr B hlt hBx)
  obtain ⟨w3, hrun, hD3, hgr⟩ := hD2.update hK ht hn hkey (val := v') (d := .held v') (ps := []) rfl
  have hkl : WideAt.IsKeyLit (kl x) := hK.key hkey
  have hg3 : ∀ j, j < w2.heap.size → j ≠ B → w3.heap[j]? = w2.heap[j]? := fun j hj hjB => hgr.block j hj (fun e => hjB (by simpa using e))
  refine ⟨w3, hrun, ⟨⟨_, hD3, ?_, ?_, ?_⟩, ?_, ?_⟩, hgr⟩
  · intro y hy
    by_cases hyx : y = x
    · subst hyx
      rw [Maps.atKey_put_same hD.isMap hkl]
      simp [updF, (hq y y).2 rfl]
    · have hqn : q y x = false := by cases hqq : q y x with | false => rfl | true => exact absurd ((hq y x).1 hqq) hyx
      rw [Maps.atKey_put_other (fun e => hyx (hinj _ _ hy hx e)), h1 y hy]
      simp [updF, hqn]
  · intro y hy
    by_cases hyx : y = x
    · subst hyx
      rw [Maps.has_put_same hD.isMap hkl]
      simp only [updF, (hq y y).2 rfl, if_true]
      rw [hne]; rfl
    · have hqn : q y x = false := by cases hqq : q y x with | false => rfl | true => exact absurd ((hq y x).1 hqq) hyx
      rw [Maps.has_put_other (fun e => hyx (hinj _ _ hy hx e)), h2 y hy]
      simp [updF, hqn]
  · intro l hl
    by_cases hlx : l = kl x
    · exact ⟨x, hx, hlx⟩
    · rw [Maps.has_put_other hlx] at hl
      exact h3 l hl
  · intro y hy
    by_cases hyx : y = x
    · subst hyx
      simp only [updF, (hq y y).2 rfl, if_true]
      refine hown.other (fun g hgg hglt => hg3 g hglt (fun e => ?_))
      rw [hg'] at hgg
      have : g' = g := by simpa using hgg
      subst this; subst e
      rcases hloc with h' | h'
      · exact hBx h'
      · omega
    · have hqn : q y x = false := by cases hqq : q y x with | false => rfl | true => exact absurd ((hq y x).1 hqq) hyx
      simp only [updF, hqn]
      simp only [Bool.false_eq_true, if_false]
      refine (h.own y hy).other (fun g hgg hglt => ?_)
      rw [hg3 g (Nat.lt_of_lt_of_le hglt hsz) (fun e => h.ne hy (e ▸ hgg))]
      exact hfr g hglt (fun e => h.apart y x g hy hx hyx hgg e)
  · intro a b g ha hb hab hag
    by_cases hax : a = x
    · subst hax
      have hbn : q b a = false := by cases hqq : q b a with | false => rfl | true => exact absurd ((hq b a).1 hqq).symm hab
      simp only [updF, (hq a a).2 rfl, if_true] at hag
      simp only [updF, hbn, Bool.false_eq_true, if_false]
      intro hbg
      rw [hg'] at hag
      have : g' = g := by simpa using hag
      subst this
      rcases hloc with h' | h'
      · exact h.apart a b g' hx hb hab h' hbg
      · have := ((h.own b hb).lt hbg).2
        omega
    · have han : q a x = false := by cases hqq : q a x with | false => rfl | true => exact absurd ((hq a x).1 hqq) hax
      simp only [updF, han, Bool.false_eq_true, if_false] at hag
      by_cases hbx : b = x
      · subst hbx
        simp only [updF, (hq b b).2 rfl, if_true]
        intro hbg
        rw [hg'] at hbg
        have : g' = g := by simpa using hbg
        subst this
        rcases hloc with h' | h'
        · exact h.apart a b g' ha hx hab hag h'
        · have := ((h.own a ha).lt hag).2
          omega
      · have hbn : q b x = false := by cases hqq : q b x with | false => rfl | true => exact absurd ((hq b x).1 hqq) hbx
        simp only [updF, hbn, Bool.false_eq_true, if_false]
        exact h.apart a b g ha hb hab hag
end
end Go.Proofs.YtilcmkiihefkkabGreatDoor.Mn
end
