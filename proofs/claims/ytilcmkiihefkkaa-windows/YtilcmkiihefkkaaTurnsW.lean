import Derived.Test.YtilcmkiihefkkaaLawB
import Derived.Test.YtilcmkiihefkkaaLawC
import Derived.Test.YtilcmkiihefkkaaPureB
set_option linter.unusedVariables false
set_option linter.unusedSimpArgs false
set_option maxRecDepth 100000
namespace Go.Proofs.Ytilcmkiihefkkaa
open Go.RowKit

theorem good_list {s : ByteArray} (h : good s) : ∀ c ∈ s.data.toList, 0 ≤ numb c := by
  intro c hc
  obtain ⟨i, hi, rfl⟩ := List.mem_iff_getElem.1 hc
  exact h i (by simpa using hi)

theorem list_good {l : List UInt8} (h : ∀ c ∈ l, 0 ≤ numb c) : good ⟨l.toArray⟩ := by
  intro j hj
  have hj' : j < l.length := by
    have : (⟨l.toArray⟩ : ByteArray).size = l.length := by show l.toArray.size = _; simp
    omega
  exact h _ (List.getElem_mem hj')

theorem good_getD {l : List UInt8} (h : ∀ c ∈ l, 0 ≤ numb c) : ∀ i, i < l.length → 0 ≤ numb (l.getD i 0) := by
  intro i hi
  rw [List.getD_eq_getElem?_getD, List.getElem?_eq_getElem hi]
  exact h _ (List.getElem_mem _)

theorem good_turnL {l : List UInt8} : ∀ c ∈ turnL l, 0 ≤ numb c := by
  intro c hc
  simp only [turnL, List.mem_reverse, List.mem_map] at hc
  obtain ⟨b, _, rfl⟩ := hc
  have := numb_lt b
  exact (numb_pbyte _ (by omega)).2

theorem cleanL_good (l : List UInt8) (n : Nat) : ∀ c ∈ cleanL l n, 0 ≤ numb c := by
  intro c hc
  simp only [cleanL, List.mem_map] at hc
  obtain ⟨b, _, rfl⟩ := hc
  exact cleanB_good b

theorem allW_p (a : List Nat) (k : Nat) : ∀ x ∈ allW a k, 0 ≤ x.p ∧ x.p ≤ a.length := by
  intro x hx
  unfold allW at hx
  rw [List.mem_filterMap] at hx
  obtain ⟨p, hp, h⟩ := hx
  have := candW_p h
  have hp' : p < a.length + 1 - k := by simpa using hp
  omega

theorem allW_length (a : List Nat) (k : Nat) : (allW a k).length ≤ a.length + 1 := by
  unfold allW
  refine Nat.le_trans (List.length_filterMap_le _ _) ?_
  simp

theorem size_mk (l : List UInt8) : (⟨l.toArray⟩ : ByteArray).size = l.length := by show l.toArray.size = _; simp

theorem mk_data (s : ByteArray) : (⟨s.data.toList.toArray⟩ : ByteArray) = s := by
  apply ByteArray.ext
  simp

/-- the element that is put behind the others: in the law's own words -/
theorem cells_word (L : List W3) (base g o cap : Nat) (w : World) (h : OwnR w base 50 3 (.slice (some ⟨g, o, none⟩) L.length cap) L.length (wcells L)) :
    ∀ j (hj : j < L.length), w.cell? ⟨g, o + j * 3, none⟩ = some (.int .i64 L[j].h) ∧ w.cell? ⟨g, o + j * 3 + 1, none⟩ = some (.int .i64 L[j].p) ∧ w.cell? ⟨g, o + j * 3 + 2, none⟩ = some (.bool L[j].b) := by
  rcases h.2 with ⟨h, _⟩ | ⟨_, _, _, cur, he, h1, h2, h3, h4, h5, h6⟩
  · simp at h
  · simp only [Value.slice.injEq, Option.some.injEq, Addr.mk.injEq, and_true, true_and] at he
    obtain ⟨⟨rfl, rfl⟩, rfl⟩ := he
    intro j hj
    have := wcells_at L j hj
    rw [Nat.mul_comm]
    exact ⟨cell_at h2 (h6 _ _ this.1), cell_at h2 (h6 _ _ this.2.1), cell_at h2 (h6 _ _ this.2.2)⟩

set_option maxRecDepth 100000 in
set_option maxHeartbeats 4000000 in
theorem turns_any (text : ByteArray) (kk : Int) (w : World) (hs : text.size ≤ 140737488351232) (hkk : -9223372036854775808 ≤ kk ∧ kk ≤ 9223372036854775807) :
    Calls Try.prog 6 #[.string text, .int .i64 kk] w fun e w' => e = .returned (.bool true) ∧ Below w.heap.size w w' := by
  obtain ⟨s0, hs0⟩ : ∃ s0 : ByteArray, s0 = ⟨(cleanL text.data.toList 300).toArray⟩ := ⟨_, rfl⟩
  have hl0 : ∀ c ∈ s0.data.toList, 0 ≤ numb c := by rw [hs0]; simpa using cleanL_good text.data.toList 300
  have hsz0 : s0.size ≤ 300 := by rw [hs0, size_mk, cleanL_length]; omega
  have hg0 : good s0 := by have := list_good hl0; rwa [mk_data] at this
  obtain ⟨t0, ht0⟩ : ∃ t0 : ByteArray, t0 = ⟨(turnL s0.data.toList).toArray⟩ := ⟨_, rfl⟩
  have htl : t0.data.toList = turnL s0.data.toList := by rw [ht0]
  have hgt : good t0 := by rw [ht0]; exact list_good good_turnL
  have htsz : t0.size = s0.size := by rw [ht0, size_mk, turnL_length]; rfl
  have htt : (⟨(turnL t0.data.toList).toArray⟩ : ByteArray) = s0 := by rw [htl, turn_turn _ hl0, mk_data]
  obtain ⟨i0, hi, hz0, hz1, hz2⟩ := info_parts Try.info50
  have HS0 : Hid (s0 = ⟨(cleanL text.data.toList 300).toArray⟩) := hs0
  have HL0 : Hid (∀ c ∈ s0.data.toList, 0 ≤ numb c) := hl0
  have HG0 : Hid (good s0) := hg0
  have HT0 : Hid (t0 = ⟨(turnL s0.data.toList).toArray⟩) := ht0
  have HTL : Hid (t0.data.toList = turnL s0.data.toList) := htl
  have HGT : Hid (good t0) := hgt
  have HTSZ : Hid (t0.size = s0.size) := htsz
  have HTT : Hid ((⟨(turnL t0.data.toList).toArray⟩ : ByteArray) = s0) := htt
  clear hs0 hl0 hg0 ht0 htl hgt htsz htt
  go_enter Try.func6, Try.ntmps6
  go_wp2_with fail
  refine (reads_any w).mono ?_
  rintro e w1 ⟨rfl, hb1⟩
  go_wp2_with fail
  refine (clean_any text w1 hs).mono ?_
  rintro e w1' ⟨rfl, rfl⟩
  rw [← HS0.out]
  go_wp2_with fail
  refine (lpick_any kk 12 _ hkk (by omega) (by omega)).mono ?_
  rintro e w1'' ⟨r, rfl, hr, rfl⟩
  obtain ⟨k, hk⟩ : ∃ k : Nat, (1 : Int) + r = k := ⟨1 + r, by omega⟩
  have hk1 : 1 ≤ k := by omega
  have hk2 : k ≤ 12 := by omega
  go_wp2_with fail
  refine (turned_any s0 _ (by omega)).mono ?_
  rintro e w2 ⟨h2, hb2⟩
  obtain rfl : e = .returned (.tuple #[.string ⟨(turnL s0.data.toList).toArray⟩, .int .i64 0]) := by
    rcases h2 with ⟨_, h⟩ | ⟨h, _⟩
    · exact h
    · exact absurd HG0.out h
  rw [← HT0.out]
  clear h2
  go_wp2_with fail
  refine (turned_any t0 _ (by have := HTSZ.out; omega)).mono ?_
  rintro e w3 ⟨h3, hb3⟩
  obtain rfl : e = .returned (.tuple #[.string ⟨(turnL t0.data.toList).toArray⟩, .int .i64 0]) := by
    rcases h3 with ⟨_, h⟩ | ⟨h, _⟩
    · exact h
    · exact absurd HGT.out h
  rw [HTT.out]
  clear h3
  go_wp2_with fail
  refine (words_any s0 k 1 w3 (by omega) hk1 hk2 (by omega) (by omega)).mono ?_
  rintro e w4 ⟨h4, hb4⟩
  obtain ⟨lv, rfl, hol⟩ : ∃ pv, e = .returned (.tuple #[pv, .int .i64 0]) ∧ OwnR w4 w3.heap.size 50 3 pv (allW (nums s0.data.toList) k).length (wcells (allW (nums s0.data.toList) k)) := by
    rcases h4 with ⟨_, pv, h, ho⟩ | ⟨h, _⟩
    · have e1 := words1 k hk1 hk2 s0.data.toList (good_getD HL0.out) (nums_lt5 _)
      rw [show s0.data.toList.length = s0.size from Array.length_toList] at e1
      rw [e1] at ho
      exact ⟨pv, h, ho⟩
    · exact absurd HG0.out h
  clear h4
  go_wp2_with fail
  refine (words_any t0 k 1 w4 (by have := HTSZ.out; omega) hk1 hk2 (by omega) (by omega)).mono ?_
  rintro e w5 ⟨h5, hb5⟩
  obtain ⟨mv, rfl, hom⟩ : ∃ pv, e = .returned (.tuple #[pv, .int .i64 0]) ∧ OwnR w5 w4.heap.size 50 3 pv ((allW (nums s0.data.toList) k).reverse.map (flipW s0.size k)).length (wcells ((allW (nums s0.data.toList) k).reverse.map (flipW s0.size k))) := by
    rcases h5 with ⟨_, pv, h, ho⟩ | ⟨h, _⟩
    · have e1 := words1 k hk1 hk2 t0.data.toList (good_getD (by rw [HTL.out]; exact good_turnL)) (nums_lt5 _)
      rw [show t0.data.toList.length = t0.size from Array.length_toList] at e1
      have e2 : allW (nums t0.data.toList) k = (allW (nums s0.data.toList) k).reverse.map (flipW s0.size k) := by
        rw [HTL.out, nums_turnL, allW_turn _ (nums_lt5 _), show (nums s0.data.toList).length = s0.size by simp [nums]]
      rw [e1, e2] at ho
      exact ⟨pv, h, ho⟩
    · exact absurd HGT.out h
  clear h5
  have hLp := allW_p (nums s0.data.toList) k
  have hLl := allW_length (nums s0.data.toList) k
  rw [show (nums s0.data.toList).length = s0.size by simp [nums]] at hLp hLl
  generalize allW (nums s0.data.toList) k = L at *
  have HLP : Hid (∀ x ∈ L, 0 ≤ x.p ∧ x.p ≤ s0.size) := hLp
  clear hLp
  have hol5 : OwnR w5 w3.heap.size 50 3 lv L.length (wcells L) := hol.other (fun g hg hlt => hb5.block g hlt)
  have hszn : ((t0.size : Int) != s0.size) = false := by rw [HTSZ.out]; simp
  have hsL : L.length ≤ 301 := by omega
  obtain ⟨lcap, lao, n, hlv, HN⟩ : ∃ lcap lao n, lv = .slice lao n lcap ∧ Hid (n = L.length) := by
    rcases hol.2 with ⟨h, h0⟩ | ⟨g, o, cap, cur, h, _⟩
    · exact ⟨_, _, 0, h, h0.symm⟩
    · exact ⟨_, _, L.length, h, rfl⟩
  subst hlv
  have hn301 : n ≤ 301 := by have := HN.out; omega
  have HOM : Hid (OwnR w5 w4.heap.size 50 3 mv (L.reverse.map (flipW s0.size k)).length (wcells (L.reverse.map (flipW s0.size k)))) := hom
  have HOL : Hid (OwnR w5 w3.heap.size 50 3 (.slice lao n lcap) L.length (wcells L)) := hol5
  have HBB : Hid (Below w.heap.size w w5) := (((hb1.trans (hb2.mono hb1.size)).trans (hb3.mono (Nat.le_trans hb1.size hb2.size))).trans (hb4.mono (Nat.le_trans hb1.size (Nat.le_trans hb2.size hb3.size)))).trans (hb5.mono (Nat.le_trans hb1.size (Nat.le_trans hb2.size (Nat.le_trans hb3.size hb4.size))))
  have HSZ : Hid (w.heap.size ≤ w5.heap.size) := HBB.out.size
  clear hom hol hol5 hb1 hb2 hb3 hb4 hb5
  go_wp2
  go_loopw [15, 16] (fun v i wr => ∃ (j : Nat) (ii : Int), j ≤ n ∧ i = .int .i64 ii ∧ ii = (n : Int) - 1 - j ∧ OwnR wr w5.heap.size 50 3 v j (wcells ((L.reverse.take j).map (flipW s0.size k))) ∧ Below w5.heap.size w5 wr) (fun _ i _ => (intOf i + 1).toNat)
  case atStart => exact ⟨0, _, Nat.zero_le _, rfl, by omega, OwnR.nil _ _ _ _, Below.refl _ _⟩
  case round =>
    obtain ⟨j, ii, hj, rfl, hii, hown, hbel⟩ := hrel
    by_cases hlt : j < n
    · obtain ⟨idx, hidx⟩ : ∃ idx : Nat, idx = n - 1 - j := ⟨_, rfl⟩
      obtain rfl : ii = (idx : Int) := by omega
      have hidxn : (idx : Int) < n := by omega
      have HIX : Hid (idx = n - 1 - j) := hidx
      clear hii hidx
      have hiL : idx < L.length := by rw [← HN.out]; omega
      obtain ⟨g, o, hlao⟩ : ∃ g o, lao = some ⟨g, o, none⟩ := by
        rcases HOL.out.2 with ⟨h, h0⟩ | ⟨g, o, cap, cur, h, _⟩
        · omega
        · simp only [Value.slice.injEq] at h
          exact ⟨g, o, h.1⟩
      subst hlao
      have hcl := cells_word L w3.heap.size g o lcap w5 (by have := HOL.out; rw [HN.out] at this; exact this) idx hiL
      have hgl := (HOL.out.lt (g := g) rfl).2
      have hF : Hid (wcells ((L.reverse.take j).map (flipW s0.size k)) ++ (flipW s0.size k L[idx]).cells = wcells ((L.reverse.take (j + 1)).map (flipW s0.size k))) := by
        show _ = _
        have hjr : j < L.reverse.length := by rw [List.length_reverse, ← HN.out]; exact hlt
        rw [List.take_succ_eq_append_getElem hjr, List.map_append, wcells_append, List.getElem_reverse]
        have e : L.length - 1 - j = idx := by rw [HIX.out, HN.out]
        simp only [e]
        rfl
      have hpb := HLP.out L[idx] (List.getElem_mem hiL)
      generalize hx : L[idx] = x at *
      obtain ⟨h, p, b⟩ := x
      simp only [W3.cells, flipW] at hF hcl hpb
      have c1 : wr.cell? ⟨g, o + idx * 3, none⟩ = some (.int .i64 h) := (hbel.cell hgl).trans hcl.1
      have c2 : wr.cell? ⟨g, o + idx * 3 + 1, none⟩ = some (.int .i64 p) := (hbel.cell hgl).trans hcl.2.1
      have c3 : wr.cell? ⟨g, o + idx * 3 + 2, none⟩ = some (.bool b) := (hbel.cell hgl).trans hcl.2.2
      have a1 : ∀ ob nq, ((wr.drewN nq).alloc ob).cell? ⟨g, o + idx * 3, none⟩ = some (.int .i64 h) := fun ob nq => cell_allocN c1 ob nq
      clear hcl hx
      have hpb1 := hpb.1
      have hpb2 := hpb.2
      clear hpb
      have hszr := hbel.size
      go_wp2
      have hne : u15.ownBlock ≠ some g := fun he => by have := (hown.lt he).1; omega
      have HB : Hid (Below w5.heap.size w5 wr) := hbel
      clear hbel a1
      have HPP : Hid (IntKind.i64.wrap (IntKind.i64.wrap ((s0.size : Int) - k) - p) = (s0.size : Int) - k - p) := by
        show _ = _
        rw [IntKind.wrap_i64, IntKind.wrap_i64]
        omega
      go_region_held3 (fun w' => w'.cell? ⟨g, o + idx * 3, none⟩ = some (.int .i64 h) ∧ w'.cell? ⟨g, o + idx * 3 + 1, none⟩ = some (.int .i64 p) ∧ w'.cell? ⟨g, o + idx * 3 + 2, none⟩ = some (.bool b)) (go_keep) ((refine step_own rfl (.tmp 82) (.tmp 105) 40 rfl 50 i0 _ 3 24 Try.underlying40 hi hz0 hz1 hz2 rfl (by decide) w5.heap.size u15 j (wcells ((L.reverse.take j).map (flipW s0.size k))) (by simp [Act.eval]) (by exact hown.other (fun g _ hlt => Below.heap_alloc _ _ _ hlt)) ⟨wr.heap.size, 0, none⟩ 1 [.int .i64 h, .int .i64 ((s0.size : Int) - k - p), .bool (!b)] (by simp [Act.eval]) rfl (by rw [HPP.out]; exact box_cells wr ⟨h, (s0.size : Int) - k - p, !b⟩ _ rfl) (word_oneCell ⟨h, (s0.size : Int) - k - p, !b⟩) (by unfold maxLen; omega) (by omega) (by simp; omega) ?_; intro g' o' cap' w6 hown' hfr; have k0 : w6.heap[g]? = wr.heap[g]? := (hfr.other g (by simp; omega) hne).trans (Below.heap_alloc _ _ _ (by show g < wr.heap.size; omega)); have k1 : w6.cell? ⟨g, o + idx * 3, none⟩ = some (.int .i64 h) := (World.cell?_of_block k0).trans c1; have k2 : w6.cell? ⟨g, o + idx * 3 + 1, none⟩ = some (.int .i64 p) := (World.cell?_of_block k0).trans c2; have k3 : w6.cell? ⟨g, o + idx * 3 + 2, none⟩ = some (.bool b) := (World.cell?_of_block k0).trans c3; clear k0))
      all_goals go_wp2
      go_roundw
      case rel =>
        refine ⟨j + 1, _, by omega, rfl, by have := HIX.out; omega, ?_, HB.out.trans ?_⟩
        · have := hF.out
          rw [← this]
          exact hown'
        · have hsz := hfr.size
          simp at hsz
          refine ⟨hfr.os, hfr.tape, hfr.output, by omega, fun q hq => ?_⟩
          exact (hfr.other q (by simp; omega) (fun he => by have := (hown.lt he).1; omega)).trans (Below.heap_alloc _ _ _ (by show q < wr.heap.size; omega))
      case measure => simp [intOf]
    · obtain rfl : j = n := by omega
      have HO : Hid (OwnR wr w5.heap.size 50 3 u15 (L.reverse.map (flipW s0.size k)).length (wcells (L.reverse.map (flipW s0.size k)))) := by
        have e : L.reverse.take j = L.reverse := List.take_of_length_le (by rw [List.length_reverse, ← HN.out]; exact Nat.le_refl _)
        rw [e] at hown
        have e2 : (L.reverse.map (flipW s0.size k)).length = j := by rw [List.length_map, List.length_reverse, HN.out]
        show OwnR _ _ _ _ _ _ _
        rw [e2]
        exact hown
      have HB : Hid (Below w5.heap.size w5 wr) := hbel
      clear hbel hown
      have hneg : ¬ (0 : Int) ≤ ii := by omega
      go_wp2_with fail
      refine (sameWords_any (L.reverse.map (flipW s0.size k)) w4.heap.size w5.heap.size mv u15 wr (by rw [List.length_map, List.length_reverse]; omega) (HOM.out.other (fun g _ hlt => HB.out.block g hlt)) HO.out).mono ?_
      rintro e w6 ⟨rfl, m, rfl⟩
      go_wp2
      go_ret
      refine ⟨rfl, ?_⟩
      have hb := HBB.out.trans (HB.out.mono HSZ.out)
      exact ⟨hb.os, hb.tape, hb.output, hb.size, hb.block⟩
end Go.Proofs.Ytilcmkiihefkkaa
