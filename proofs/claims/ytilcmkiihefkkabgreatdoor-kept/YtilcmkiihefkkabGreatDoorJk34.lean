import Derived.Laws.RangeString
import Derived.Test.YtilcmkiihefkkabGreatDoorJk17
import Derived.Test.YtilcmkiihefkkabGreatDoorJk3
import Derived.Test.YtilcmkiihefkkabGreatDoorJk31
import Derived.Test.YtilcmkiihefkkabGreatDoorJk32
section
set_option linter.unusedVariables false
set_option linter.unusedSimpArgs false
set_option maxRecDepth 100000
namespace Go.Proofs.YtilcmkiihefkkabGreatDoor.Mn
open Go.RowKit Go.Shelf Go.Lib
/-- the quality as a float64, and cut -/
def quaV (s o : Int) : Option Nat := (floatBits .quo .f64 (fq o) (fq s)).bind fun a => (floatBits .sub .f64 (fq 4) a).bind fun b => floatBits .mul .f64 b (fq 240)
def qual (s o : Int) : Int := ((quaV s o).bind fun q => floatToIntVal .f64 q .i64).getD 0
theorem qual_facts (s o : Int) (h0 : 0 ≤ o) (h1 : o ≤ s) (h2 : 0 < s) (h3 : s ≤ 100000) :
    ∃ A B Q, floatBits .quo .f64 (fq o) (fq s) = some A ∧ floatBits .sub .f64 (fq 4) A = some B ∧ floatBits .mul .f64 B (fq 240) = some Q ∧ quaV s o = some Q ∧ floatToIntVal .f64 Q .i64 = some (qual s o) ∧ 0 ≤ qual s o ∧ qual s o ≤ 60 ∧
      (Ieee.double.order (fq (4 * qual s o)) Q = some .lt ∨ Ieee.double.order (fq (4 * qual s o)) Q = some .eq) ∧ Ieee.double.order Q (fq (4 * qual s o + 4)) = some .lt := by
  have p53 : (1048576 : Nat) ≤ 2 ^ 53 := by decide
  obtain ⟨o, rfl⟩ : ∃ n : Nat, o = n := ⟨o.toNat, by omega⟩
  obtain ⟨s, rfl⟩ : ∃ n : Nat, s = n := ⟨s.toNat, by omega⟩
  obtain ⟨A, hA, hA2⟩ := quot_le o s (by omega) (by omega) (by omega)
  obtain ⟨B, hB, hB2⟩ := sub_le A hA2
  obtain ⟨Q, hQ, hQ2⟩ := mul_le B hB2
  obtain ⟨n, hn, hi, ho1, ho2⟩ := whole_le Q hQ2
  have hv : quaV s o = some Q := by
    unfold quaV
    rw [hA]
    simp only [Option.bind_some]
    rw [hB]
    simp only [Option.bind_some]
    exact hQ
  have hq : qual s o = n := by
    unfold qual
    rw [hv]
    simp only [Option.bind_some]
    rw [hi]; rfl
  refine ⟨A, B, Q, hA, hB, hQ, hv, ?_, ?_, ?_, ?_, ?_⟩
  · rw [hq]; exact hi
  · rw [hq]; omega
  · rw [hq]; omega
  · rw [hq]; exact ho1
  · rw [hq]; exact ho2
theorem fq4 : fq 4 = 4607182418800017408 := by decide
theorem fq240 : fq 240 = 4633641066610819072 := by decide
set_option maxHeartbeats 1000000 in
theorem quality_any (s o : Int) (w : World) (h0 : 0 ≤ o) (h1 : o ≤ s) (h2 : 0 < s) (h3 : s ≤ 100000) :
    Calls Tryz.prog 64 #[.float .f64 (fq s), .float .f64 (fq o)] w fun e w' => e = .returned (.int .i64 (qual s o)) ∧ w' = w := by
  obtain ⟨A, B, Q, hA, hB, hQ, _, hi, _⟩ := qual_facts s o h0 h1 h2 h3
  rw [fq4] at hB
  rw [fq240] at hQ
  have q1 : ∀ W t, (binOp .quo t (.float .f64 (fq o)) (.float .f64 (fq s))).run Tryz.prog W = .ok (.float .f64 A) W := fun W t => run_float_arith W .quo t .f64 _ _ _ hA
  have q2 : ∀ W t, (binOp .sub t (.float .f64 4607182418800017408) (.float .f64 A)).run Tryz.prog W = .ok (.float .f64 B) W := fun W t => run_float_arith W .sub t .f64 _ _ _ hB
  have q3 : ∀ W t, (binOp .mul t (.float .f64 B) (.float .f64 4633641066610819072)).run Tryz.prog W = .ok (.float .f64 Q) W := fun W t => run_float_arith W .mul t .f64 _ _ _ hQ
  have q4 : ∀ W, (convert 22 3 (.float .f64 Q)).run Tryz.prog W = .ok (.int .i64 (qual s o)) W := fun W => run_convert_float_int W 22 3 .f64 .i64 Q _ (by kernel_rfl) Tryz.underlying3 hi
  generalize qual s o = z at *
  generalize fq o = fo at *
  generalize fq s = fs at *
  clear hA hB hQ hi h0 h1 h2 h3
  go_enter Tryz.func64, Tryz.ntmps64
  go_wp2
  go_ret
  exact ⟨rfl, rfl⟩
end Go.Proofs.YtilcmkiihefkkabGreatDoor.Mn
end
section
set_option linter.unusedVariables false
set_option linter.unusedSimpArgs false
set_option maxRecDepth 100000
namespace Go.Proofs.YtilcmkiihefkkabGreatDoor.Mn
open Go.RowKit Go.Shelf Go.Lib
theorem at1000 : ∀ n : Fin 1001, atoiAll (decDigits n.val) = .ok (n.val : Int) := by decide +kernel
/-- is it a letter? -/
def ltP (x : Nat) : Bool := isLetterU (x : Int)
theorem ltP_digit : ∀ n : Fin 10, ltP (48 + n.val) = false := by decide +kernel
theorem ltP_ltr : ∀ l : Fin 3, ltP (ltr l.val).toNat = true := by decide +kernel
theorem ltr_lt : ∀ l : Fin 3, (ltr l.val).toNat < 128 := by decide
theorem decDigits_bytes : ∀ (f u : Nat), u ≤ f → decDigits u ≠ [] ∧ ∀ c ∈ decDigits u, c.toNat < 128 ∧ ltP c.toNat = false := by
  have dig : ∀ i, i < 10 → (UInt8.ofNat (48 + i)).toNat < 128 ∧ ltP (UInt8.ofNat (48 + i)).toNat = false := by
    intro i hi
    have e : (UInt8.ofNat (48 + i)).toNat = 48 + i := by
      rw [UInt8.toNat_ofNat']; exact Nat.mod_eq_of_lt (by omega)
    rw [e]
    exact ⟨by omega, ltP_digit ⟨i, hi⟩⟩
  intro f
  induction f with
  | zero =>
    intro u hu
    have : u = 0 := by omega
    subst this
    rw [decDigits, dif_pos (by omega)]
    exact ⟨by simp, fun c hc => by rw [List.mem_singleton] at hc; subst hc; exact dig 0 (by omega)⟩
  | succ f ih =>
    intro u hu
    by_cases h : u < 10
    · rw [decDigits, dif_pos h]
      exact ⟨by simp, fun c hc => by rw [List.mem_singleton] at hc; subst hc; exact dig u h⟩
    · rw [decDigits, dif_neg h]
      refine ⟨by simp, fun c hc => ?_⟩
      rcases List.mem_append.1 hc with hc | hc
      · exact (ih (u / 10) (by omega)).2 c hc
      · rw [List.mem_singleton] at hc; subst hc; exact dig (u % 10) (by omega)
/-- a text that goes on with these bytes -/
def At (s : ByteArray) (pos : Nat) (l : List UInt8) : Prop := s.data.toList.drop pos = l
theorem At.cons {s : ByteArray} {pos : Nat} {c : UInt8} {l : List UInt8} (h : At s pos (c :: l)) : ∃ hp : pos < s.size, s[pos] = c ∧ At s (pos + 1) l := by
  unfold At at h
  have hp : pos < s.data.toList.length := by
    rcases Nat.lt_or_ge pos s.data.toList.length with h' | h'
    · exact h'
    · rw [List.drop_eq_nil_of_le h'] at h; cases h
  have hp' : pos < s.size := by simpa using hp
  rw [List.drop_eq_getElem_cons hp] at h
  injection h with h1 h2
  exact ⟨hp', h1, h2⟩
theorem sp_digits (s : ByteArray) : ∀ (d : List UInt8) (r : List UInt8) (f pos a : Nat) (acc : List (Nat × Nat)), At s pos (d ++ r) → (∀ c ∈ d, c.toNat < 128 ∧ ltP c.toNat = false) →
    spansFromP ltP s (f + d.length) pos (some a) acc = spansFromP ltP s f (pos + d.length) (some a) acc ∧ At s (pos + d.length) r
  | [], r, f, pos, a, acc, h, _ => ⟨rfl, h⟩
  | c :: d, r, f, pos, a, acc, h, hd => by
    obtain ⟨hp, hc, h2⟩ := At.cons h
    have hcc := hd c (List.mem_cons_self)
    have hdec := decode_ascii s pos hp (by rw [hc]; exact hcc.1)
    have ih := sp_digits s d r f (pos + 1) a acc h2 (fun x hx => hd x (List.mem_cons_of_mem _ hx))
    constructor
    · rw [List.length_cons, show f + (d.length + 1) = (f + d.length) + 1 by omega]
      conv => lhs; unfold spansFromP
      rw [if_pos hp, hdec, hc]
      simp only [hcc.2, Bool.false_eq_true, if_false]
      rw [ih.1, show pos + (d.length + 1) = pos + 1 + d.length by omega]
    · rw [List.length_cons, show pos + (d.length + 1) = pos + 1 + d.length by omega]
      exact ih.2
theorem sp_run (s : ByteArray) (d : List UInt8) (t : UInt8) (r : List UInt8) (f pos : Nat) (acc : List (Nat × Nat)) (h : At s pos (d ++ t :: r)) (hn : d ≠ []) (hd : ∀ c ∈ d, c.toNat < 128 ∧ ltP c.toNat = false) (ht : t.toNat < 128 ∧ ltP t.toNat = true) :
    spansFromP ltP s (f + 1 + d.length) pos none acc = spansFromP ltP s f (pos + d.length + 1) none (acc ++ [(pos, pos + d.length)]) ∧ At s (pos + d.length + 1) r ∧ s.extract pos (pos + d.length) = ⟨d.toArray⟩ := by
  match d, hn with
  | c :: d', _ =>
    obtain ⟨hp, hc, h2⟩ := At.cons h
    have hcc := hd c (List.mem_cons_self)
    have hdec := decode_ascii s pos hp (by rw [hc]; exact hcc.1)
    obtain ⟨e1, h3⟩ := sp_digits s d' (t :: r) (f + 1) (pos + 1) pos acc h2 (fun x hx => hd x (List.mem_cons_of_mem _ hx))
    obtain ⟨hp3, hc3, h4⟩ := At.cons h3
    have hdec3 := decode_ascii s _ hp3 (by rw [hc3]; exact ht.1)
    refine ⟨?_, ?_, ?_⟩
    · rw [List.length_cons, show f + 1 + (d'.length + 1) = (f + 1 + d'.length) + 1 by omega]
      conv => lhs; unfold spansFromP
      rw [if_pos hp, hdec, hc]
      simp only [hcc.2, Bool.false_eq_true, if_false]
      rw [e1]
      conv => lhs; unfold spansFromP
      rw [if_pos hp3, hdec3, hc3]
      simp only [ht.2, if_true]
      rw [show pos + (d'.length + 1) = pos + 1 + d'.length by omega]
    · rw [List.length_cons, show pos + (d'.length + 1) + 1 = pos + 1 + d'.length + 1 by omega]
      exact h4
    · have hl : (s.extract pos (pos + (c :: d').length)).data.toList = c :: d' := by
        have e : (s.extract pos (pos + (c :: d').length)).data.toList = (s.data.toList.drop pos).take ((pos + (c :: d').length) - pos) := by
          simp [ByteArray.data_extract]
        rw [e, h, Nat.add_sub_cancel_left]
        simp
      apply ByteArray.ext
      apply Array.toList_inj.1
      rw [hl]
theorem sp_all (s : ByteArray) : ∀ (ps : List (Nat × Nat)) (f pos : Nat) (acc : List (Nat × Nat)), At s pos (rtxt ps) → (∀ p ∈ ps, p.2 ≤ 2) → (rtxt ps).length ≤ f →
    ∃ sp : List (Nat × Nat), spansFromP ltP s f pos none acc = (acc ++ sp, none) ∧ sp.map (fun x => s.extract x.1 x.2) = ps.map (fun p => (⟨(decDigits p.1).toArray⟩ : ByteArray))
  | [], f, pos, acc, h, _, _ => by
    refine ⟨[], ?_, rfl⟩
    rw [List.append_nil]
    have : ¬ pos < s.size := by
      intro hp
      have h' : s.data.toList.drop pos = [] := h
      have := List.drop_eq_nil_iff.1 h'
      have e : s.data.toList.length = s.size := by simp
      omega
    exact spansFromP_end ltP s f pos none acc this
  | p :: ps, f, pos, acc, h, hp, hf => by
    have e : rtxt (p :: ps) = decDigits p.1 ++ ltr p.2 :: rtxt ps := by simp [rtxt]
    rw [e] at h hf
    have hd := decDigits_bytes p.1 p.1 (Nat.le_refl _)
    have h2 := hp p (List.mem_cons_self)
    have hl1 := ltr_lt ⟨p.2, by omega⟩
    have hl2 := ltP_ltr ⟨p.2, by omega⟩
    simp only [List.length_append, List.length_cons] at hf
    obtain ⟨g, hg⟩ : ∃ g, f = g + 1 + (decDigits p.1).length := ⟨f - 1 - (decDigits p.1).length, by omega⟩
    obtain ⟨r1, r2, r3⟩ := sp_run s (decDigits p.1) (ltr p.2) (rtxt ps) g pos acc h hd.1 hd.2 ⟨hl1, hl2⟩
    obtain ⟨sp, q1, q2⟩ := sp_all s ps g (pos + (decDigits p.1).length + 1) (acc ++ [(pos, pos + (decDigits p.1).length)]) r2 (fun x hx => hp x (List.mem_cons_of_mem _ hx)) (by omega)
    refine ⟨(pos, pos + (decDigits p.1).length) :: sp, ?_, ?_⟩
    · rw [hg, r1, q1]; simp
    · simp only [List.map_cons, r3, q2]
theorem fields_rtxt (ps : List (Nat × Nat)) (h : ∀ p ∈ ps, p.2 ≤ 2) : goFieldsP ltP ⟨(rtxt ps).toArray⟩ = ps.map (fun p => (⟨(decDigits p.1).toArray⟩ : ByteArray)) := by
  have hs : (⟨(rtxt ps).toArray⟩ : ByteArray).size = (rtxt ps).length := by show (rtxt ps).toArray.size = _; simp
  obtain ⟨sp, h1, h2⟩ := sp_all ⟨(rtxt ps).toArray⟩ ps (rtxt ps).length 0 [] (by simp [At]) h (Nat.le_refl _)
  unfold goFieldsP spansOfP
  rw [hs, h1]
  unfold closeSpans
  simpa using h2
end Go.Proofs.YtilcmkiihefkkabGreatDoor.Mn
end
