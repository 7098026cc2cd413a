import Derived.Test.YtilcmkiihefkkaaStrC
import Derived.Test.YtilcmkiihefkkaaBookA
import Derived.Deep.QuietTactic
import Derived.BigQuiet
set_option linter.unusedVariables false
set_option linter.unusedSimpArgs false
set_option maxRecDepth 100000
namespace Go.Proofs.Ytilcmkiihefkkaa
open Go.RowKit

/-- a sequence: its name and its bases -/
structure S2 where
  n : ByteArray
  b : ByteArray

/-- sequences, as they lie in memory -/
def qcells (L : List S2) : List Value := L.flatMap fun x => [.string x.n, .string x.b]

theorem qcells_append (E F : List S2) : qcells (E ++ F) = qcells E ++ qcells F := by simp [qcells]

theorem qcells_length (E : List S2) : (qcells E).length = E.length * 2 := by
  induction E with
  | nil => rfl
  | cons x E ih =>
    show (Value.string x.n :: Value.string x.b :: qcells E).length = _
    simp only [List.length_cons, ih]
    omega

theorem qcells_at (E : List S2) : ∀ j (h : j < E.length), (qcells E)[2 * j]? = some (.string E[j].n) ∧ (qcells E)[2 * j + 1]? = some (.string E[j].b) := by
  induction E with
  | nil => intro j h; exact absurd h (by simp)
  | cons x E ih =>
    intro j h
    cases j with
    | zero => exact ⟨rfl, rfl⟩
    | succ j =>
      have := ih j (by simpa using h)
      show (Value.string x.n :: Value.string x.b :: qcells E)[2 * (j + 1)]? = _ ∧ (Value.string x.n :: Value.string x.b :: qcells E)[2 * (j + 1) + 1]? = _
      rw [show 2 * (j + 1) = 2 * j + 1 + 1 by omega]
      simpa using this

theorem qcells_iff (X : List S2) (cur : Array Value) (o : Nat) : (∀ i u, (qcells X)[i]? = some u → cur[o + i]? = some u) ↔ ∀ q (h : q < X.length), cur[o + 2 * q]? = some (.string X[q].n) ∧ cur[o + (2 * q + 1)]? = some (.string X[q].b) := by
  constructor
  · intro h q hq
    have := qcells_at X q hq
    exact ⟨h _ _ this.1, h _ _ this.2⟩
  · intro h i u hi
    have hlt : i < X.length * 2 := by
      rcases Nat.lt_or_ge i (qcells X).length with hh | hh
      · rwa [qcells_length] at hh
      · rw [List.getElem?_eq_none hh] at hi; exact absurd hi (by simp)
    have hq : i / 2 < X.length := by omega
    have h1 := qcells_at X (i / 2) hq
    have h2 := h (i / 2) hq
    rcases (show i = 2 * (i / 2) ∨ i = 2 * (i / 2) + 1 by omega) with he | he
    · rw [he] at hi ⊢; rw [h1.1] at hi; rw [h2.1]; exact hi
    · rw [he] at hi ⊢; rw [h1.2] at hi; rw [h2.2]; exact hi

/-- what a slice of sequences of the call's own reads as -/
theorem OwnR.seqs {w : World} {base g o cap n : Nat} {L : List S2} (h : OwnR w base 70 2 (.slice (some ⟨g, o, none⟩) n cap) n (qcells L)) :
    ∀ j (hj : j < L.length), w.cell? ⟨g, o + j * 2, none⟩ = some (.string L[j].n) ∧ w.cell? ⟨g, o + j * 2 + 1, none⟩ = some (.string L[j].b) := by
  rcases h.2 with ⟨h, _⟩ | ⟨_, _, _, cur, he, h1, h2, h3, h4, h5, h6⟩
  · simp at h
  · simp only [Value.slice.injEq, Option.some.injEq, Addr.mk.injEq, and_true, true_and] at he
    obtain ⟨⟨rfl, rfl⟩, rfl⟩ := he
    intro j hj
    have := qcells_at L j hj
    rw [Nat.mul_comm]
    exact ⟨cell_at h2 (h6 _ _ this.1), cell_at h2 (h6 _ _ this.2)⟩

set_option maxHeartbeats 400000 in
theorem sameSeqs_some (L : List S2) (base base' g o cap g' o' cap' : Nat) (w : World) (hL : L.length < 4398046511104)
    (ha : OwnR w base 70 2 (.slice (some ⟨g, o, none⟩) L.length cap) L.length (qcells L)) (hb : OwnR w base' 70 2 (.slice (some ⟨g', o', none⟩) L.length cap') L.length (qcells L)) :
    Calls Try.prog 11 #[.slice (some ⟨g, o, none⟩) L.length cap, .slice (some ⟨g', o', none⟩) L.length cap'] w fun e w' => e = .returned (.bool true) ∧ ∃ n, w' = w.drewN n := by
  have HA : Hid (∀ j (hj : j < L.length), w.cell? ⟨g, o + j * 2, none⟩ = some (.string L[j].n) ∧ w.cell? ⟨g, o + j * 2 + 1, none⟩ = some (.string L[j].b)) := ha.seqs
  have HB : Hid (∀ j (hj : j < L.length), w.cell? ⟨g', o' + j * 2, none⟩ = some (.string L[j].n) ∧ w.cell? ⟨g', o' + j * 2 + 1, none⟩ = some (.string L[j].b)) := hb.seqs
  clear ha hb
  obtain ⟨n, hn⟩ : ∃ n, n = L.length := ⟨_, rfl⟩
  have HN : Hid (n = L.length) := hn
  rw [← hn] at hL ⊢
  clear hn
  go_enter Try.func11, Try.ntmps11
  go_wp2
  go_loopw [5] (fun i wr => ∃ k : Nat, k ≤ n ∧ i = .int .i64 k ∧ ∃ m, wr = w.drewN m) (fun i _ => n - (intOf i).toNat)
  case atStart => exact ⟨0, Nat.zero_le _, rfl, 0, rfl⟩
  case round =>
    obtain ⟨k, hk, rfl, m, rfl⟩ := hrel
    by_cases hlt : k < n
    · obtain ⟨a1, a2⟩ := HA.out k (by rw [← HN.out]; exact hlt)
      obtain ⟨b1, b2⟩ := HB.out k (by rw [← HN.out]; exact hlt)
      obtain ⟨h, hh⟩ : ∃ h, h = (L[k]'(by rw [← HN.out]; exact hlt)).n := ⟨_, rfl⟩
      obtain ⟨p, hp⟩ : ∃ p, p = (L[k]'(by rw [← HN.out]; exact hlt)).b := ⟨_, rfl⟩
      rw [← hh] at a1 b1
      rw [← hp] at a2 b2
      clear hh hp
      have hltI : (k : Int) < n := by omega
      go_wp2
      go_quiet (fail)
      go_wp2
      go_roundw
      case rel => exact ⟨k + 1, by omega, by go_num, _, rfl⟩
      case measure => simp [intOf]; omega
    · go_wp2
      go_ret
      exact ⟨rfl, m, rfl⟩

set_option maxHeartbeats 400000 in
theorem sameSeqs_nil (ao ao' : Option Addr) (cap cap' : Nat) (w : World) :
    Calls Try.prog 11 #[.slice ao 0 cap, .slice ao' 0 cap'] w fun e w' => e = .returned (.bool true) ∧ ∃ n, w' = w.drewN n := by
  go_enter Try.func11, Try.ntmps11
  go_wp2
  refine wp_loop_rounds 1 ?_
  rw [rounds_succ]
  go_wp2
  go_ret
  exact ⟨rfl, 0, rfl⟩

theorem sameSeqs_any (L : List S2) (base base' : Nat) (v v' : Value) (w : World) (hL : L.length < 4398046511104)
    (ha : OwnR w base 70 2 v L.length (qcells L)) (hb : OwnR w base' 70 2 v' L.length (qcells L)) :
    Calls Try.prog 11 #[v, v'] w fun e w' => e = .returned (.bool true) ∧ ∃ n, w' = w.drewN n := by
  have ha2 := ha.2
  have hb2 := hb.2
  by_cases h0 : L.length = 0
  · rw [h0] at ha2 hb2
    rcases ha2 with ⟨rfl, _⟩ | ⟨_, _, _, _, rfl, _⟩ <;> rcases hb2 with ⟨rfl, _⟩ | ⟨_, _, _, _, rfl, _⟩ <;> exact sameSeqs_nil _ _ _ _ _
  · rcases ha2 with ⟨_, h⟩ | ⟨g, o, cap, cur, rfl, _⟩
    · omega
    · rcases hb2 with ⟨_, h⟩ | ⟨g', o', cap', cur', rfl, _⟩
      · omega
      · exact sameSeqs_some L base base' g o cap g' o' cap' w hL ha hb

/-- is a name there? -/
def hasN (L : List S2) (s : ByteArray) : Prop := ∃ x ∈ L, x.n = s

set_option maxRecDepth 100000 in
set_option maxHeartbeats 1000000 in
theorem has_any (L : List S2) (s : ByteArray) (base : Nat) (v : Value) (w : World) (hL : L.length < 4398046511104)
    (ha : OwnR w base 70 2 v L.length (qcells L)) :
    Calls Try.prog 31 #[v, .string s] w fun e w' => ((hasN L s ∧ e = .returned (.bool true)) ∨ (¬ hasN L s ∧ e = .returned (.bool false))) ∧ w' = w := by
  obtain ⟨n, hn⟩ : ∃ n, n = L.length := ⟨_, rfl⟩
  have HN : Hid (n = L.length) := hn
  have HO : Hid (OwnR w base 70 2 v n (qcells L)) := by rw [← hn] at ha; exact ha
  obtain ⟨ao, c, hv⟩ : ∃ ao c, v = .slice ao n c := by
    rcases HO.out.2 with ⟨h, h0⟩ | ⟨g, o, cap, cur, h, _⟩
    · exact ⟨_, _, by rw [h, h0]⟩
    · exact ⟨_, _, h⟩
  subst hv
  rw [← hn] at hL
  clear ha hn
  go_enter Try.func31, Try.ntmps31
  go_wp2
  go_loop [5] (fun i => ∃ k : Nat, k ≤ n ∧ i = .int .i64 k ∧ ∀ j (hj : j < L.length), j < k → L[j].n ≠ s) (fun i => n - (intOf i).toNat)
  case atStart => exact ⟨0, Nat.zero_le _, rfl, fun j hj h => absurd h (by omega)⟩
  case round =>
    obtain ⟨k, hk, rfl, hall⟩ := hrel
    have HA : Hid (∀ j (hj : j < L.length), j < k → L[j].n ≠ s) := hall
    clear hall
    by_cases hlt : k < n
    · have hkL : k < L.length := by rw [← HN.out]; exact hlt
      obtain ⟨g, o, hao⟩ : ∃ g o, ao = some ⟨g, o, none⟩ := by
        rcases HO.out.2 with ⟨_, h⟩ | ⟨g, o, cap, cur, h, _⟩
        · omega
        · simp only [Value.slice.injEq] at h
          exact ⟨g, o, h.1⟩
      subst hao
      obtain ⟨a1, _⟩ := HO.out.seqs k hkL
      have hltI : (k : Int) < n := by omega
      obtain ⟨h, hh⟩ : ∃ h, h = L[k].n := ⟨_, rfl⟩
      have HH : Hid (h = L[k].n) := hh
      rw [← hh] at a1
      clear hh
      cases he : (h.toList == s.toList)
      · have HE : Hid (h ≠ s) := fun e => by rw [e] at he; simp at he
        go_wp2
        go_round
        case rel =>
          refine ⟨k + 1, by omega, by go_num, fun j hj h => ?_⟩
          by_cases hjk : j < k
          · exact HA.out j hj hjk
          · obtain rfl : j = k := by omega
            rw [← HH.out]
            exact HE.out
        case measure => simp [intOf]; omega
      · have HE : Hid (hasN L s) := ⟨L[k], List.getElem_mem hkL, by
          rw [← HH.out]
          have := eq_of_beq he
          rw [ByteArray.toList_eq, ByteArray.toList_eq] at this
          exact WideShapes.bytes_inj this⟩
        go_wp2
        go_ret
        exact ⟨Or.inl ⟨HE.out, rfl⟩, rfl⟩
    · have HE : Hid (¬ hasN L s) := by
        rintro ⟨x, hx, hxs⟩
        obtain ⟨j, hj, hjx⟩ := List.getElem_of_mem hx
        exact HA.out j hj (by have := HN.out; omega) (by rw [hjx]; exact hxs)
      go_wp2
      go_ret
      exact ⟨Or.inr ⟨HE.out, rfl⟩, rfl⟩

end Go.Proofs.Ytilcmkiihefkkaa
