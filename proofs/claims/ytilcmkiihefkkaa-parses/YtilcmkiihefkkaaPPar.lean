import Derived.Test.YtilcmkiihefkkaaPLine
set_option linter.unusedVariables false
set_option linter.unusedSimpArgs false
set_option maxRecDepth 100000
namespace Go.Proofs.Ytilcmkiihefkkaa
open Go.RowKit Go.Maps

/-- how long a text is -/
def szOf : Value → Nat
  | .string s => s.size
  | _ => 0

theorem PrP.drew {base B Bm : Nat} {L : List S2} {sv bv : Value} {D : DataW Unit} {w : World} (h : PrP base B Bm L sv bv D w) (n : Nat) : PrP base B Bm L sv bv D (w.drewN n) :=
  ⟨h.par, h.seqs.other (fun _ _ _ => rfl), h.bases.other (fun _ _ _ => rfl), ownsMap_block h.map rfl, h.has, h.low, h.lowB, h.lowM⟩

theorem pstep_grow (L : List S2) (x : ByteArray) (h : (pstep L x).1 = 0) : (pstep L x).2.length ≤ L.length + 1 ∧ (lastB (pstep L x).2).length ≤ (lastB L).length + x.size := by
  by_cases hb : begins x
  · by_cases hn : nameOK (tl x)
    · by_cases hh : hasN L (tl x)
      · rw [pstep_twice hb hn hh] at h; exact absurd h (by decide)
      · rw [pstep_begin hb hn hh]
        refine ⟨by simp, ?_⟩
        show (lastB (L ++ [_])).length ≤ _
        rw [lastB_snoc]
        exact Nat.zero_le _
    · rw [pstep_name hb hn] at h; exact absurd h (by decide)
  · by_cases hL : L = []
    · rw [pstep_line hb hL] at h; exact absurd h (by decide)
    · by_cases hg : good x
      · rw [pstep_bases hb hL hg]
        refine ⟨by show (addB L x).length ≤ _; rw [addB_length]; omega, ?_⟩
        obtain ⟨A, y, rfl⟩ := snoc_of hL
        show (lastB (addB (A ++ [y]) x)).length ≤ _
        rw [addB_snoc, lastB_snoc, lastB_snoc, list_len, list_len, ByteArray.size_append]
        exact Nat.le_refl _
      · rw [pstep_byte hb hL hg] at h; exact absurd h (by decide)

theorem parseL_nil : ∀ (l : List ByteArray) (i : Nat) (L : List S2), (parseL i L l).2.1 ≠ 0 → (parseL i L l).1 = []
  | [], i, L, h => by rw [parseL] at h; exact absurd rfl h
  | x :: r, i, L, h => by
    rw [parseL] at h ⊢
    split
    · rename_i h0
      rw [if_pos h0] at h
      exact parseL_nil r _ _ h
    · rfl

theorem parseL_zero : ∀ (l : List ByteArray) (i : Nat) (L : List S2), (parseL i L l).2.1 = 0 → (parseL i L l).2.2 = 0
  | [], i, L, h => by rw [parseL]
  | x :: r, i, L, h => by
    rw [parseL] at h ⊢
    split
    · rename_i h0
      rw [if_pos h0] at h
      exact parseL_zero r _ _ h
    · rename_i h0
      rw [if_neg h0] at h
      exact absurd h h0

theorem enter26 (args : Array Value) (w : World) : (callFunc 34 args).run Try.prog w = .ok (.enter 34 args) w := by
  obtain ⟨c, hc⟩ : ∃ c, Try.f34.body = some c := ⟨_, rfl⟩
  exact enter_of Try.func34 (by kernel_rfl) hc args w

theorem linesB_nil : linesB ⟨#[]⟩ = [] := by simp [linesB, linesA]

theorem size_zero {s : ByteArray} (h : s.size = 0) : s = ⟨#[]⟩ := by
  cases s with
  | mk d => have : d.size = 0 := h; simp at this; subst this; rfl

set_option maxRecDepth 100000 in
set_option maxHeartbeats 2000000 in
theorem eachLine_any (base B Bm : Nat) (s : ByteArray) (w : World) (hs : s.size ≤ 8000) (sv bv : Value) (D : DataW Unit) (h : PrP base B Bm [] sv bv D w) (R : List S2 × Nat × Nat) (hR : parseL 0 [] (linesB s) = R) :
    Calls Try.prog 33 #[.string s, .func (.func 34) #[.pointer (some ⟨B, 0, none⟩)] #[]] w fun e w' => e = .returned (.tuple #[.int .i64 R.2.1, .int .i64 R.2.2]) ∧ (R.2.1 = 0 → ∃ sv bv D, PrP base B Bm R.1 sv bv D w' ∧ R.1.length ≤ 8000 ∧ (lastB R.1).length ≤ 90000000) ∧ Below base w w' := by
  have HP0 : Hid (PrP base B Bm [] sv bv D w) := h
  have HR : Hid (parseL 0 [] (linesB s) = R) := hR
  clear h hR
  go_enter Try.func33, Try.ntmps33
  go_wp2
  go_loopw [0, 6] (fun x i wx => ∃ (k : Nat) (rest : ByteArray) (L : List S2) (sv bv : Value) (D : DataW Unit), x = .string rest ∧ i = .int .i64 k ∧ k + rest.size ≤ s.size ∧ L.length ≤ k ∧ (lastB L).length ≤ 8000 * k ∧ PrP base B Bm L sv bv D wx ∧ parseL k L (linesB rest) = R ∧ Below base w wx) (fun x _ _ => szOf x)
  case atStart => exact ⟨0, s, [], sv, bv, D, rfl, rfl, by omega, Nat.zero_le _, Nat.zero_le _, HP0.out, HR.out, Below.refl _ _⟩
  case round =>
    obtain ⟨k, rest, L, sv, bv, D, rfl, rfl, hks, hLk, hlb, hpr, heq, hbel⟩ := hrel
    have HPR : Hid (PrP base B Bm L sv bv D wr) := hpr
    have HEQ : Hid (parseL k L (linesB rest) = R) := heq
    have HBL : Hid (Below base w wr) := hbel
    clear hpr heq hbel
    by_cases h0 : rest.size = 0
    · obtain rfl := size_zero h0
      have HP : Hid (R = (L, 0, 0)) := by
        show _ = _
        rw [← HEQ.out, linesB_nil, parseL]
      go_wp2
      go_ret2
      rw [HP.out]
      exact ⟨rfl, fun _ => ⟨sv, bv, D, HPR.out, by show L.length ≤ _; omega, by show (lastB L).length ≤ _; omega⟩, HBL.out⟩
    · have hne : (rest.toList == ([] : List UInt8)) = false := by
        rw [ByteArray.toList_eq]
        cases hl : rest.data.toList with
        | nil => have := list_len rest; rw [hl] at this; simp at this; omega
        | cons c r => rfl
      go_wp2_with fail
      refine (scut_any rest _ (by omega) h0).mono ?_
      rintro e w1 ⟨x, rest', f, rfl, hcut, m, rfl⟩
      obtain ⟨hc1, hc2, hc3⟩ := hcut
      have HCU : Hid (linesB rest = x :: linesB rest') := hc3
      clear hc3
      go_wp2_with fail
      refine (line_any base B Bm L sv bv D _ x (HPR.out.drew m) (by omega) (by omega) (by omega)).mono ?_
      rintro e w2 ⟨rfl, hex, hb2⟩
      have HB2 : Hid (Below base w w2) := HBL.out.trans ⟨hb2.os, hb2.tape, hb2.output, hb2.size, hb2.block⟩
      obtain ⟨E, hE⟩ : ∃ E, E = (pstep L x).1 := ⟨_, rfl⟩
      have HE : Hid (E = (pstep L x).1) := hE
      have HEX : Hid (E = 0 → ∃ sv' bv' D', PrP base B Bm (pstep L x).2 sv' bv' D' w2) := fun h => hex (by rw [← hE]; exact h)
      rw [← hE]
      clear hex hb2 hE
      by_cases hE0 : E = 0
      · have HG := pstep_grow L x (by rw [← HE.out, hE0])
        have HNX : Hid (parseL (k + 1) (pstep L x).2 (linesB rest') = R) := by
          show _ = _
          rw [← HEQ.out, HCU.out, parseL, if_pos (by rw [← HE.out, hE0])]
        obtain ⟨sv', bv', D', hp'⟩ := HEX.out hE0
        have HPX : Hid (PrP base B Bm (pstep L x).2 sv' bv' D' w2) := hp'
        have HGG : Hid ((pstep L x).2.length ≤ L.length + 1 ∧ (lastB (pstep L x).2).length ≤ (lastB L).length + x.size) := HG
        clear HG hp'
        subst hE0
        go_wp2
        go_roundw
        case rel =>
          exact ⟨k + 1, rest', (pstep L x).2, sv', bv', D', rfl, by go_num, by omega, by have := HGG.out.1; omega, by have := HGG.out.2; omega, HPX.out, HNX.out, HB2.out⟩
        case measure => simp [szOf]; omega
      · have HP : Hid (R = ([], E, k)) := by
          show _ = _
          rw [← HEQ.out, HCU.out, parseL, if_neg (by rw [← HE.out]; exact hE0), ← HE.out]
        go_wp2
        go_ret2
        rw [HP.out]
        exact ⟨rfl, fun h => absurd h hE0, HB2.out⟩

set_option maxRecDepth 100000 in
set_option maxHeartbeats 2000000 in
theorem parse_any (s : ByteArray) (w : World) (hs : s.size ≤ 140737488351232) :
    Calls Try.prog 10 #[.string s] w fun e w' => ∃ v, e = .returned (.tuple #[v, .int .i64 (parseR s).2.1, .int .i64 (parseR s).2.2]) ∧ OwnR w' w.heap.size 70 2 v (parseR s).1.length (qcells (parseR s).1) ∧ ((parseR s).2.1 ≠ 0 → v = .slice none 0 0) ∧ Below w.heap.size w w' := by
  by_cases h8 : 8000 < s.size
  · have HR : Hid (parseR s = ([], 1, 0)) := by show _ = _; unfold parseR; rw [if_pos h8]
    have c1 : (8000 : Int) < s.size := by omega
    go_enter Try.func10, Try.ntmps10
    go_wp2
    go_ret3
    rw [HR.out]
    exact ⟨_, rfl, OwnR.nil _ _ _ _, fun _ => rfl, Below.refl _ _⟩
  · have HR : Hid (parseL 0 [] (linesB s) = parseR s) := by show _ = _; unfold parseR; rw [if_neg h8]
    have hs8 : s.size ≤ 8000 := by omega
    have c1 : ¬ (8000 : Int) < s.size := by omega
    have hmm := run_makeMap (P := Try.prog) 71 w
    go_enter Try.func10, Try.ntmps10
    go_wp2_with fail
    have HPP : Hid (PrP w.heap.size (w.heap.size + 1) w.heap.size [] (.slice none 0 0) (.slice none 0 0) (.map []) ((w.alloc (.map #[] 0)).alloc (.cells #[.slice none 0 0, .map (some w.heap.size), .slice none 0 0] 74))) := by
      refine ⟨by simpa using heap_alloc_new (w.alloc (.map #[] 0)) _, OwnR.nil _ _ _ _, OwnR.nil _ _ _ _, (World.ownsMap_made w _ _ _).alloc _, fun x => ?_, by simp; omega, by omega, Nat.le_refl _⟩
      constructor
      · intro h; simp [Maps.has] at h
      · rintro ⟨_, h, _⟩; simp at h
    refine (eachLine_any w.heap.size (w.heap.size + 1) w.heap.size s _ hs8 _ _ _ HPP.out (parseR s) HR.out).mono ?_
    rintro e w2 ⟨rfl, hex, hb2⟩
    obtain ⟨L, F, K, hLFK⟩ : ∃ L F K, parseR s = (L, F, K) := ⟨_, _, _, rfl⟩
    have HPQ : Hid (parseR s = (L, F, K)) := hLFK
    rw [hLFK] at hex ⊢
    have HEX : Hid (F = 0 → ∃ sv bv D, PrP w.heap.size (w.heap.size + 1) w.heap.size L sv bv D w2 ∧ L.length ≤ 8000 ∧ (lastB L).length ≤ 90000000) := hex
    have HB2 : Hid (Below w.heap.size w w2) := by
      have h1 : Below w.heap.size w (w.alloc (.map #[] 0)) := (Below.refl _ w).alloc (Nat.le_refl _) _
      have h2 := h1.alloc h1.size (.cells #[.slice none 0 0, .map (some w.heap.size), .slice none 0 0] 74)
      exact h2.trans hb2
    clear hex hb2 hLFK HPP
    by_cases hF : F = 0
    · obtain ⟨sv, bv, D, hp, hl1, hl2⟩ := HEX.out hF
      subst hF
      have HP : Hid (PrP w.heap.size (w.heap.size + 1) w.heap.size L sv bv D w2) := hp
      clear hp
      go_wp2_with fail
      refine (finish_any w.heap.size (w.heap.size + 1) w.heap.size L sv bv D w2 HP.out (by omega) (by omega)).mono ?_
      rintro e w3 ⟨rfl, bv', hpar, hsq, hbq, hff⟩
      have c0 : w3.cell? ⟨w.heap.size + 1, 0, none⟩ = some sv := cell_at hpar rfl
      have HSQ : Hid (OwnR w3 w.heap.size 70 2 sv L.length (qcells L)) := hsq
      have HB3 : Hid (Below w.heap.size w w3) := HB2.out.trans ⟨hff.os, hff.tape, hff.output, by rw [hff.size]; exact Nat.le_refl _, fun q hq => hff.other q (by omega) (fun he => by have := (HP.out.seqs.lt he).1; omega)⟩
      obtain ⟨ao, c, hsv⟩ := hsq.form
      subst hsv
      clear hpar hsq hbq hff
      go_wp2
      go_ret3
      rw [HPQ.out]
      obtain rfl : K = 0 := by
        have := parseL_zero (linesB s) 0 [] (by rw [HR.out, HPQ.out])
        rw [HR.out, HPQ.out] at this
        exact this
      exact ⟨_, rfl, HSQ.out, fun h => absurd rfl h, HB3.out⟩
    · go_wp2
      go_ret3
      rw [HPQ.out]
      have hLn : L = [] := by
        have := parseL_nil (linesB s) 0 [] (by rw [HR.out, HPQ.out]; exact hF)
        rw [HR.out, HPQ.out] at this
        exact this
      subst hLn
      exact ⟨_, rfl, OwnR.nil _ _ _ _, fun _ => rfl, HB2.out⟩
end Go.Proofs.Ytilcmkiihefkkaa
