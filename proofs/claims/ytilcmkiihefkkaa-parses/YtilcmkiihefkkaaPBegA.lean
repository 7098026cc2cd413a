import Derived.Test.YtilcmkiihefkkaaPFin
import Derived.Maps.Own
import Derived.Maps.OwnOps
import Derived.Maps.OwnSet
import Derived.Maps.Views
set_option linter.unusedVariables false
set_option linter.unusedSimpArgs false
set_option maxRecDepth 100000
namespace Go.Proofs.Ytilcmkiihefkkaa
open Go.RowKit Go.Maps

/-- the last one's bases are yet to come -/
def openL (L : List S2) : List S2 := L.dropLast ++ (L.getLast?.map fun y => ⟨y.n, ⟨#[]⟩⟩).toList

/-- the bases that are gathered -/
def lastB (L : List S2) : List UInt8 := (L.getLast?.map fun y => y.b.data.toList).getD []

theorem openL_snoc (A : List S2) (y : S2) : openL (A ++ [y]) = A ++ [⟨y.n, ⟨#[]⟩⟩] := by simp [openL]
theorem lastB_snoc (A : List S2) (y : S2) : lastB (A ++ [y]) = y.b.data.toList := by simp [lastB]

theorem law9 : Keyed Try.prog 9 := string_keyed Try.underlying9
theorem zero3 (w : World) : (zeroValue 3).run Try.prog w = .ok (.int .i64 0) w := by kernel_rfl

/-- a store into a map, as one step of a region that draws -/
theorem step_map {H : Type} {P : Program} {ops : Array Oper} {o : Oper} {a : Act} {w : World} {K : Act → World → Prop} {Q : Exit → Act → World → Prop} {E : Prop}
    (hg : o.guard = none) (m x v : Operand) (t : TypeId) (hop : o.op = Op.mapUpdate t m x v)
    (k e : TypeId) (Kd : Keyed P k) (ht : P.underlying t = some (.map k e)) (R : Value → Option (DataW H × List MemPlace)) (b n : Nat) (D : DataW H)
    (hm : a.eval m = .map (some b)) (hown : w.ownsMap P k R b n D) (hn : n < maxLen) (key val : Value) (kl : Lit) (hx : a.eval x = key) (hv : a.eval v = val) (hkey : keyOf P k key = some kl)
    (d : DataW H) (ps : List MemPlace) (hval : R val = some (d, ps))
    (hK : ∀ w', w'.ownsMap P k R b (n + 1) (D.put kl d) → w.grownBy w' (some b) → K (a.put o.dst undef) w') :
    if Region.wanted o (yielded ops a.tmps) = true then Oper.wp P o a w K Q else E := by
  have hw : Region.wanted o (yielded ops a.tmps) = true := by simp [Region.wanted, hg]
  rw [if_pos hw]
  obtain ⟨w', hrun, r1, r2⟩ := hown.update Kd ht hn hkey hval
  unfold Oper.wp
  simp [execOp, hop, hm, hx, hv, hrun, Result.andThen]
  exact hK w' r1 r2

/-- the parser, with its parts -/
structure PrP (base B Bm : Nat) (L : List S2) (sv bv : Value) (D : DataW Unit) (w : World) : Prop where
  par : w.heap[B]? = some (.cells #[sv, .map (some Bm), bv] 74 (0, 0))
  seqs : OwnR w base 70 2 sv L.length (qcells (openL L))
  bases : OwnR w base 5 1 bv (lastB L).length (Lib.byteCells (lastB L))
  map : w.ownsMap Try.prog 9 (plainElem Try.prog 3) Bm L.length D
  has : ∀ s : ByteArray, Maps.has D (.string s.data.toList) = true ↔ hasN L s
  low : base ≤ w.heap.size
  lowB : base ≤ B
  lowM : base ≤ Bm

theorem ownsMap_block {w w' : World} {P : Program} {k : TypeId} {R : Value → Option (DataW Unit × List MemPlace)} {b n : Nat} {D : DataW Unit} (h : w.ownsMap P k R b n D) (hb : w'.heap[b]? = w.heap[b]?) : w'.ownsMap P k R b n D := by
  obtain ⟨es, clock, h1, h2⟩ := h
  exact ⟨es, clock, hb.trans h1, h2⟩

theorem ownsMap_ne {w : World} {P : Program} {k : TypeId} {R : Value → Option (DataW Unit × List MemPlace)} {b n : Nat} {D : DataW Unit} (h : w.ownsMap P k R b n D) {g : Nat} {cs : Array Value} {t : TypeId} (hg : w.heap[g]? = some (.cells cs t (0, 0))) : g ≠ b := by
  obtain ⟨es, clock, h1, h2⟩ := h
  intro e
  subst e
  rw [hg] at h1
  simp at h1

theorem OwnR.neMap {w : World} {base : Nat} {e : TypeId} {size : Nat} {v : Value} {n : Nat} {xs : List Value} (h : OwnR w base e size v n xs) {P : Program} {k : TypeId} {R : Value → Option (DataW Unit × List MemPlace)} {b n' : Nat} {D : DataW Unit} (hm : w.ownsMap P k R b n' D) : v.ownBlock ≠ some b := by
  obtain ⟨_, h⟩ := h
  rcases h with ⟨rfl, rfl⟩ | ⟨g, o, cap, cur, rfl, h1, h2, h3⟩
  · simp [Value.ownBlock]
  · intro e
    simp only [Value.ownBlock, Option.some.injEq] at e
    exact ownsMap_ne hm h2 e

theorem OwnR.apart {w : World} {base : Nat} {e e' : TypeId} {size size' : Nat} {v v' : Value} {n n' : Nat} {xs xs' : List Value} (h : OwnR w base e size v n xs) (h' : OwnR w base e' size' v' n' xs') (he : e ≠ e') {g : Nat} (hg : v.ownBlock = some g) : v'.ownBlock ≠ some g := by
  obtain ⟨_, h⟩ := h
  rcases h with ⟨rfl, rfl⟩ | ⟨g2, o, cap, cur, rfl, h1, h2, h3⟩
  · simp [Value.ownBlock] at hg
  · simp only [Value.ownBlock, Option.some.injEq] at hg
    subst hg
    exact h'.tag he h2

/-- 'finish', whatever was begun -/
theorem finish_any (base B Bm : Nat) (L : List S2) (sv bv : Value) (D : DataW Unit) (w : World) (h : PrP base B Bm L sv bv D w) (hL : L.length ≤ 100000000) (hb : (lastB L).length ≤ 1000000000) :
    Calls Try.prog 35 #[.pointer (some ⟨B, 0, none⟩)] w fun e w' => e = .returned (.tuple #[]) ∧ ∃ bv', w'.heap[B]? = some (.cells #[sv, .map (some Bm), bv'] 74 (0, 0)) ∧ OwnR w' base 70 2 sv L.length (qcells L) ∧ OwnR w' base 5 1 bv' 0 [] ∧ FFr w w' sv B := by
  by_cases hn : L = []
  · subst hn
    obtain ⟨ao, c, rfl⟩ := h.seqs.form
    refine (finish_nil B ao c _ bv w h.par).mono ?_
    rintro e w' ⟨rfl, rfl⟩
    exact ⟨rfl, bv, h.par, h.seqs, h.bases, ⟨rfl, rfl, rfl, rfl, fun _ _ _ => rfl⟩⟩
  · obtain ⟨A, y, rfl⟩ := snoc_of hn
    have hs := h.seqs
    have hbs := h.bases
    have hp := h.par
    rw [openL_snoc, List.length_append] at hs
    rw [lastB_snoc] at hbs hb
    obtain ⟨bao, bc, rfl⟩ := hbs.form
    rcases hs.2 with ⟨_, h0⟩ | ⟨g, o, sc, cur, rfl, h1, h2, h3, h4, h5, h6⟩
    · simp at h0
    · have hbc : (bc : Int) ≤ 9223372036854775807 := by
        rcases hbs.2 with ⟨h1, _⟩ | ⟨_, _, _, _, h1, _, _, _, h4, _⟩
        · simp only [Value.slice.injEq] at h1; omega
        · simp only [Value.slice.injEq] at h1; obtain ⟨_, _, rfl⟩ := h1; unfold maxLen at h4; omega
      rw [List.length_append] at hL
      refine (finish_some B base A.length _ g o sc bc bao _ A ⟨y.n, ⟨#[]⟩⟩ rfl y.b.data.toList rfl w hp hs hbs hb (by omega) hbc).mono ?_
      rintro e w' ⟨rfl, hp', hs', hf⟩
      refine ⟨rfl, _, hp', ?_, ?_, hf⟩
      · rw [list_mk] at hs'
        rw [List.length_append]
        exact hs'
      · have : OwnR w' base 5 1 (.slice bao y.b.data.toList.length bc) _ _ := hbs.other (fun j hj hlt => hf.other j (fun e => by subst e; exact hbs.tag (by decide) hp hj) (hbs.apart hs (by decide) hj))
        rcases this.2 with ⟨h1, h0⟩ | ⟨g2, o2, cap, cur2, h1, q1, q2, q3, q4, q5, q6⟩
        · simp only [Value.slice.injEq] at h1
          obtain ⟨rfl, _, rfl⟩ := h1
          exact OwnR.nil _ _ _ _
        · simp only [Value.slice.injEq, true_and] at h1
          obtain ⟨rfl, rfl⟩ := h1
          exact ⟨rfl, Or.inr ⟨g2, o2, bc, cur2, rfl, q1, q2, Nat.zero_le _, q4, q5, fun j u hj => by simp at hj⟩⟩

end Go.Proofs.Ytilcmkiihefkkaa
