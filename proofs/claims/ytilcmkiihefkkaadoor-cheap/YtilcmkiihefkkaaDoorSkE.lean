import Derived.Test.YtilcmkiihefkkaaDoorSkD
set_option linter.unusedVariables false
set_option linter.unusedSimpArgs false
set_option maxRecDepth 100000
namespace Go.Proofs.YtilcmkiihefkkaaDoor
open Go.RowKit Go.Shelf

def lastS (la : Nat) : ByteArray := if la = 9 then ⟨#[]⟩ else ⟨#[ltr la]⟩

theorem lastS_ne (la l : Nat) (hl : l ≤ 2) (ha : la ≤ 2 ∨ la = 9) (h : la ≠ l) : (([ltr l] : List UInt8) == (lastS la).toList) = false := by
  rcases (show l = 0 ∨ l = 1 ∨ l = 2 by omega) with rfl | rfl | rfl <;> rcases (show la = 0 ∨ la = 1 ∨ la = 2 ∨ la = 9 by omega) with rfl | rfl | rfl | rfl <;> first | (exact absurd rfl h) | kernel_rfl

def LeP (o : List Nat) (w : World) (e : Ending) (w' : World) : Prop := e = .returned (.tuple #[.string (lets o), .bool true]) ∧ Below w.heap.size w w'

/-- where letters stands at a place of the text -/
structure LI (s : ByteArray) (fin : LS) (i : Nat) (st : LS) : Prop where
  rest : pst (s.data.toList.drop i) st = some fin
  len : st.o.length ≤ 1000 * i
  n : st.n ≤ 1000
  la : st.la ≤ 2 ∨ st.la = 9

theorem LI.step {s : ByteArray} {fin : LS} {i : Nat} {st : LS} (h : LI s fin i st) (hi : i < s.size) :
    (∃ d, d ≤ 9 ∧ s[i].toNat = 48 + d ∧ 0 < 10 * st.n + d ∧ 10 * st.n + d ≤ 1000 ∧ LI s fin (i + 1) ⟨st.o, 10 * st.n + d, st.la⟩) ∨
    (∃ l, l ≤ 2 ∧ s[i] = ltr l ∧ 0 < st.n ∧ st.la ≠ l ∧ LI s fin (i + 1) ⟨st.o ++ List.replicate st.n l, 0, l⟩) := by
  have hi' : i < s.data.toList.length := by simpa using hi
  have hr := h.rest
  rw [List.drop_eq_getElem_cons hi'] at hr
  have e : s.data.toList[i] = s[i] := rfl
  rw [e] at hr
  change (lstep st s[i]).bind (pst _) = _ at hr
  cases hs : lstep st s[i] with
  | none => rw [hs] at hr; cases hr
  | some st' =>
    rw [hs] at hr
    rcases lstep_cases st st' _ hs with ⟨d, h1, h2, h3, h4, rfl⟩ | ⟨l, h1, h2, h3, h4, rfl⟩
    · exact Or.inl ⟨d, h1, h2, h3, h4, hr, by have := h.len; simp only; omega, h4, h.la⟩
    · exact Or.inr ⟨l, h1, h2, h3, h4, hr, by have := h.len; have := h.n; simp only [List.length_append, List.length_replicate]; omega, by simp, Or.inl h1⟩

theorem LI.done {s : ByteArray} {fin : LS} {st : LS} (h : LI s fin s.size st) : st = fin := by
  have hr := h.rest
  rw [List.drop_of_length_le (by simp)] at hr
  exact Option.some.inj hr

set_option maxHeartbeats 8000000 in
theorem lletters_any (s : ByteArray) (o : List Nat) (la : Nat) (hs : s.size ≤ 1000000) (h : pst s.data.toList ⟨[], 0, 9⟩ = some ⟨o, 0, la⟩) (w : World) :
    Calls Tryd.prog 8 #[.string s] w (LeP o w) := by
  have H0 : Hid (LI s ⟨o, 0, la⟩ 0 ⟨[], 0, 9⟩) := ⟨h, Nat.zero_le _, Nat.zero_le _, Or.inr rfl⟩
  clear h
  go_enter Tryd.func8, Tryd.ntmps8
  go_wp2_with fail
  go_loopw [4, 5, 6, 7] (fun ov nv lv iv wx => ∃ (i : Nat) (st : LS), i ≤ s.size ∧ ov = .string (lets st.o) ∧ nv = .int .i64 (st.n : Nat) ∧ lv = .string (lastS st.la) ∧ iv = .int .i64 i ∧ LI s ⟨o, 0, la⟩ i st ∧ Below w.heap.size w wx) (fun _ _ _ iv _ => s.size - (intOf iv).toNat)
  case atStart => exact ⟨0, ⟨[], 0, 9⟩, Nat.zero_le _, rfl, rfl, rfl, rfl, H0.out, Below.refl _ _⟩
  case round =>
    clear H0
    obtain ⟨i, st, hi, rfl, rfl, rfl, rfl, hli, hbel⟩ := hrel
    have HBL : Hid (Below w.heap.size w wr) := hbel
    have HLI : Hid (LI s ⟨o, 0, la⟩ i st) := hli
    clear hbel hli
    by_cases hlt : i < s.size
    · have hiI : (i : Int) < s.size := by omega
      have hiw : IntKind.i64.wrap ((i : Int) + 1) = (i : Int) + 1 := by rw [IntKind.wrap_i64]; omega
      have hx := extract_one s i hlt
      have hin : ((i : Int) + 1).toNat = i + 1 := by omega
      have hi0 : (0 : Int) ≤ (i : Int) + 1 := by omega
      have hc3 : (i : Int) + 1 ≤ s.size := by omega
      have hc4 : (i : Int) ≤ (i : Int) + 1 := by omega
      have hnb := HLI.out.n
      have hlen := HLI.out.len
      obtain ⟨N, hN⟩ : ∃ N, N = st.n := ⟨_, rfl⟩
      rcases HLI.out.step hlt with ⟨d, h1, h2, h3, h4, h5⟩ | ⟨l, h1, h2, h3, h4, h5⟩
      · rw [← hN] at h3 h4 h5 hnb ⊢
        have HL5 : Hid (LI s ⟨o, 0, la⟩ (i + 1) ⟨st.o, 10 * N + d, st.la⟩) := h5
        obtain ⟨M, hM⟩ : ∃ M, M = 10 * N + d := ⟨_, rfl⟩
        have hc : (s[i].toNat : Int) = 48 + d := by omega
        have hw1 : IntKind.u8.wrap (48 + (d : Int) - 48) = d := by rw [IntKind.wrap_u8]; omega
        have hw2 : IntKind.i64.wrap (10 * (N : Int)) = 10 * N := by rw [IntKind.wrap_i64]; omega
        have hw3 : IntKind.i64.wrap (10 * (N : Int) + d) = (M : Int) := by rw [IntKind.wrap_i64]; omega
        have g1 : (48 : Int) ≤ 48 + d := by omega
        have g2 : (48 : Int) + d ≤ 57 := by omega
        have g3 : ((M : Int) == 0) = false := by rw [beq_eq_false_iff_ne]; omega
        have g4 : ¬ (1000 : Int) < M := by omega
        rw [← hM] at HL5
        clear h2 h5 hN hx hM h3 h4
        go_wp2_with fail
        case roundEnd => exact ⟨⟨i + 1, ⟨st.o, M, st.la⟩, by omega, rfl, rfl, rfl, by go_num, HL5.out, HBL.out⟩, by simp [intOf]; omega⟩
      · rw [← hN] at h3 h5 hnb ⊢
        have HL5 : Hid (LI s ⟨o, 0, la⟩ (i + 1) ⟨st.o ++ List.replicate N l, 0, l⟩) := h5
        rw [h2] at hx
        have hne := lastS_ne st.la l h1 HLI.out.la h4
        obtain ⟨ls, hls⟩ : ∃ ls, ls = lastS st.la := ⟨_, rfl⟩
        rw [← hls] at hne ⊢
        have qN : ((N : Int) == 0) = false := by rw [beq_eq_false_iff_ne]; omega
        have hNi : (0 : Int) < N := by omega
        obtain ⟨O, hO⟩ : ∃ O, O = st.o := ⟨_, rfl⟩
        rw [← hO] at hlen HL5 ⊢
        clear h5 hN hls h4 hO h3
        rcases (show l = 0 ∨ l = 1 ∨ l = 2 by omega) with rfl | rfl | rfl
        · have hc : (s[i].toNat : Int) = 77 := by rw [h2]; rfl
          rw [show ltr 0 = (77 : UInt8) from rfl] at hx hne
          clear h2
          go_wp2_with fail
          go_loopw [4, 9] (fun ov kv wx => ∃ k : Nat, k ≤ N ∧ kv = .int .i64 k ∧ ov = .string (lets (O ++ List.replicate k 0)) ∧ Below w.heap.size w wx) (fun _ kv _ => N - (intOf kv).toNat)
          case atStart => exact ⟨0, Nat.zero_le _, rfl, by simp, HBL.out⟩
          case round =>
            clear HBL
            obtain ⟨k, hk, rfl, rfl, hbel⟩ := hrel
            have HBL : Hid (Below w.heap.size w wr) := hbel
            clear hbel
            obtain ⟨P, hP⟩ : ∃ P, P = lets (O ++ List.replicate k 0) := ⟨_, rfl⟩
            have hPs : P.size ≤ 1000001000 := by rw [hP, lets_size, List.length_append, List.length_replicate]; omega
            have hPo : ¬ 9223372036854775807 < P.size + 1 := by omega
            have HP : Hid (P = lets (O ++ List.replicate k 0)) := hP
            rw [← hP]
            clear hP
            by_cases hkN : k < N
            · have hkI : (k : Int) < N := by omega
              have hkw : IntKind.i64.wrap ((k : Int) + 1) = (k : Int) + 1 := by rw [IntKind.wrap_i64]; omega
              go_wp2_with fail
              go_roundw
              case rel => exact ⟨k + 1, by omega, by go_num, by rw [List.replicate_succ', ← List.append_assoc, lets_snoc, ← HP.out]; rfl, HBL.out⟩
              case measure => simp [intOf]; omega
            · have hke : k = N := by omega
              have hkI : ¬ (k : Int) < N := by omega
              rw [hke] at HP
              clear hke
              go_wp2_with fail
              go_roundw
              case rel => exact ⟨i + 1, ⟨O ++ List.replicate N 0, 0, 0⟩, by omega, by rw [HP.out], rfl, rfl, by go_num, HL5.out, HBL.out⟩
              case measure => simp [intOf]; omega
        · have hc : (s[i].toNat : Int) = 73 := by rw [h2]; rfl
          rw [show ltr 1 = (73 : UInt8) from rfl] at hx hne
          clear h2
          go_wp2_with fail
          go_loopw [4, 9] (fun ov kv wx => ∃ k : Nat, k ≤ N ∧ kv = .int .i64 k ∧ ov = .string (lets (O ++ List.replicate k 1)) ∧ Below w.heap.size w wx) (fun _ kv _ => N - (intOf kv).toNat)
          case atStart => exact ⟨0, Nat.zero_le _, rfl, by simp, HBL.out⟩
          case round =>
            clear HBL
            obtain ⟨k, hk, rfl, rfl, hbel⟩ := hrel
            have HBL : Hid (Below w.heap.size w wr) := hbel
            clear hbel
            obtain ⟨P, hP⟩ : ∃ P, P = lets (O ++ List.replicate k 1) := ⟨_, rfl⟩
            have hPs : P.size ≤ 1000001000 := by rw [hP, lets_size, List.length_append, List.length_replicate]; omega
            have hPo : ¬ 9223372036854775807 < P.size + 1 := by omega
            have HP : Hid (P = lets (O ++ List.replicate k 1)) := hP
            rw [← hP]
            clear hP
            by_cases hkN : k < N
            · have hkI : (k : Int) < N := by omega
              have hkw : IntKind.i64.wrap ((k : Int) + 1) = (k : Int) + 1 := by rw [IntKind.wrap_i64]; omega
              go_wp2_with fail
              go_roundw
              case rel => exact ⟨k + 1, by omega, by go_num, by rw [List.replicate_succ', ← List.append_assoc, lets_snoc, ← HP.out]; rfl, HBL.out⟩
              case measure => simp [intOf]; omega
            · have hke : k = N := by omega
              have hkI : ¬ (k : Int) < N := by omega
              rw [hke] at HP
              clear hke
              go_wp2_with fail
              go_roundw
              case rel => exact ⟨i + 1, ⟨O ++ List.replicate N 1, 0, 1⟩, by omega, by rw [HP.out], rfl, rfl, by go_num, HL5.out, HBL.out⟩
              case measure => simp [intOf]; omega
        · have hc : (s[i].toNat : Int) = 68 := by rw [h2]; rfl
          rw [show ltr 2 = (68 : UInt8) from rfl] at hx hne
          clear h2
          go_wp2_with fail
          go_loopw [4, 9] (fun ov kv wx => ∃ k : Nat, k ≤ N ∧ kv = .int .i64 k ∧ ov = .string (lets (O ++ List.replicate k 2)) ∧ Below w.heap.size w wx) (fun _ kv _ => N - (intOf kv).toNat)
          case atStart => exact ⟨0, Nat.zero_le _, rfl, by simp, HBL.out⟩
          case round =>
            clear HBL
            obtain ⟨k, hk, rfl, rfl, hbel⟩ := hrel
            have HBL : Hid (Below w.heap.size w wr) := hbel
            clear hbel
            obtain ⟨P, hP⟩ : ∃ P, P = lets (O ++ List.replicate k 2) := ⟨_, rfl⟩
            have hPs : P.size ≤ 1000001000 := by rw [hP, lets_size, List.length_append, List.length_replicate]; omega
            have hPo : ¬ 9223372036854775807 < P.size + 1 := by omega
            have HP : Hid (P = lets (O ++ List.replicate k 2)) := hP
            rw [← hP]
            clear hP
            by_cases hkN : k < N
            · have hkI : (k : Int) < N := by omega
              have hkw : IntKind.i64.wrap ((k : Int) + 1) = (k : Int) + 1 := by rw [IntKind.wrap_i64]; omega
              go_wp2_with fail
              go_roundw
              case rel => exact ⟨k + 1, by omega, by go_num, by rw [List.replicate_succ', ← List.append_assoc, lets_snoc, ← HP.out]; rfl, HBL.out⟩
              case measure => simp [intOf]; omega
            · have hke : k = N := by omega
              have hkI : ¬ (k : Int) < N := by omega
              rw [hke] at HP
              clear hke
              go_wp2_with fail
              go_roundw
              case rel => exact ⟨i + 1, ⟨O ++ List.replicate N 2, 0, 2⟩, by omega, by rw [HP.out], rfl, rfl, by go_num, HL5.out, HBL.out⟩
              case measure => simp [intOf]; omega
    · have hie : i = s.size := by omega
      have hiI : ¬ (i : Int) < s.size := by omega
      have hli := HLI.out
      rw [hie] at hli
      have hfin := hli.done
      subst hfin
      clear hli hie
      go_wp2_with fail
      go_ret2
      exact ⟨rfl, HBL.out⟩
end Go.Proofs.YtilcmkiihefkkaaDoor
