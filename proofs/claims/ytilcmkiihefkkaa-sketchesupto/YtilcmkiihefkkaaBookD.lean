import Derived.Test.YtilcmkiihefkkaaBookA
import Derived.Test.YtilcmkiihefkkaaWords
set_option linter.unusedVariables false
set_option linter.unusedSimpArgs false
namespace Go.Proofs.Ytilcmkiihefkkaa
open Go.RowKit

set_option maxRecDepth 100000 in
set_option maxHeartbeats 8000000 in
theorem looks_any (Bb base : Nat) (E : List (Value × Int)) (wv : Value) (w : World) (hE : E.length ≤ 1000)
    (hB : w.heap[Bb]? = some (.cells #[.slice none 0 0, wv, .slice none 0 0, .slice none 0 0, .slice none 0 0] 34 (0, 0)))
    (hwv : OwnR w base 82 2 wv E.length (ecells E))
    (hall : ∀ i (h : i < E.length), ∃ n mk : Nat, E[i].2 = mk ∧ mk ≤ 1000 ∧ n < 4398046511104 ∧ OwnR w base 50 3 E[i].1 n (wcells (marks n mk))) :
    Calls Try.prog 13 #[.pointer (some ⟨Bb, 0, none⟩)] w fun e w' => e = .returned (.bool true) ∧ Below w.heap.size w w' := by
  obtain ⟨wao, wc, hws⟩ : ∃ ao c, wv = .slice ao E.length c := by
    rcases hwv.2 with ⟨rfl, h⟩ | ⟨g, o, cap, cur, rfl, _⟩
    · exact ⟨_, _, by rw [h]⟩
    · exact ⟨_, _, rfl⟩
  have hltB := lt_of_block hB
  have HB : Hid (w.heap[Bb]? = some (.cells #[.slice none 0 0, wv, .slice none 0 0, .slice none 0 0, .slice none 0 0] 34 (0, 0))) := hB
  have HW : Hid (OwnR w base 82 2 wv E.length (ecells E)) := hwv
  have HALL : Hid (∀ i (h : i < E.length), ∃ n mk : Nat, E[i].2 = mk ∧ mk ≤ 1000 ∧ n < 4398046511104 ∧ OwnR w base 50 3 E[i].1 n (wcells (marks n mk))) := hall
  have b0 : w.cell? ⟨Bb, 0, none⟩ = some (.slice none 0 0) := cell_at hB rfl
  have b1 : w.cell? ⟨Bb, 1, none⟩ = some wv := cell_at hB rfl
  subst hws
  obtain ⟨NE, hNE⟩ : ∃ NE, NE = E.length := ⟨_, rfl⟩
  have HNE : Hid (NE = E.length) := hNE
  rw [← hNE] at hE b1 HB HW
  clear hB hwv hall hNE
  go_enter Try.func13, Try.ntmps13
  go_wp2
  refine wp_loop_rounds 1 ?_
  rw [rounds_succ]
  go_wp2
  go_loopw [6] (fun i wx => ∃ t : Nat, t ≤ NE ∧ i = .int .i64 t ∧ Below w.heap.size w wx) (fun i _ => NE - (intOf i).toNat)
  case atStart => exact ⟨0, Nat.zero_le _, rfl, Below.refl _ _⟩
  case round =>
    obtain ⟨t, ht, rfl, hbel⟩ := hrel
    have HBL : Hid (Below w.heap.size w wr) := hbel
    have a1 : wr.cell? ⟨Bb, 1, none⟩ = some (.slice wao NE wc) := (hbel.cell hltB).trans b1
    have hszr := hbel.size
    by_cases htn : t < NE
    · have htE : t < E.length := by rw [← HNE.out]; exact htn
      obtain ⟨gw, ow, hwao, hgwl, hc0, hc1⟩ : ∃ gw ow, wao = some ⟨gw, ow, none⟩ ∧ gw < w.heap.size ∧ w.cell? ⟨gw, ow + t * 2, none⟩ = some E[t].1 ∧ w.cell? ⟨gw, ow + t * 2 + 1, none⟩ = some (.int .i64 E[t].2) := by
        rcases HW.out.2 with ⟨_, h⟩ | ⟨g, o, cap, cur, h, _, h2, _, _, _, h6⟩
        · omega
        · simp only [Value.slice.injEq] at h
          have he := ecells_at E t htE
          refine ⟨g, o, h.1, lt_of_block h2, cell_at h2 ?_, cell_at h2 ?_⟩
          · rw [Nat.mul_comm]; exact h6 _ _ he.1
          · rw [show o + t * 2 + 1 = o + (2 * t + 1) by omega]; exact h6 _ _ he.2
      subst hwao
      obtain ⟨n, mk, hmk, hmkb, hnb, hol⟩ := HALL.out t htE
      obtain ⟨lao, lc, hls⟩ : ∃ ao c, E[t].1 = .slice ao n c := by
        rcases hol.2 with ⟨h, h0⟩ | ⟨g, o, cap, cur, h, _⟩
        · exact ⟨_, _, by rw [h, h0]⟩
        · exact ⟨_, _, h⟩
      rw [hls] at hc0 hol
      rw [hmk] at hc1
      have a2 : wr.cell? ⟨gw, ow + t * 2, none⟩ = some (.slice lao n lc) := (hbel.cell hgwl).trans hc0
      have a3 : wr.cell? ⟨gw, ow + t * 2 + 1, none⟩ = some (.int .i64 mk) := (hbel.cell hgwl).trans hc1
      have htI : (t : Int) < NE := by omega
      have HOL : Hid (OwnR w base 50 3 (.slice lao n lc) n (wcells (marks n mk))) := hol
      obtain ⟨w7, hw7⟩ : ∃ w7, w7 = wr := ⟨_, rfl⟩
      subst hw7
      have n1 : ∀ o, (w7.alloc o).cell? ⟨Bb, 1, none⟩ = some (.slice (some ⟨gw, ow, none⟩) NE wc) := fun o => (World.cell?_of_block (Below.heap_alloc _ _ _ (block_lt_of_cell a1))).trans a1
      have n2 : ∀ o, (w7.alloc o).cell? ⟨gw, ow + t * 2, none⟩ = some (.slice lao n lc) := fun o => (World.cell?_of_block (Below.heap_alloc _ _ _ (block_lt_of_cell a2))).trans a2
      clear hbel hc0 hc1 hmk hls hol
      go_wp2
      go_loopw [8] (fun i wx => ∃ q mq : Nat, q ≤ n ∧ i = .int .i64 q ∧ wx = (w7.alloc (.cells #[.int .i64 (-1 - (mk : Int)), .int .i64 0, .bool false] 50)).drewN mq) (fun i _ => n - (intOf i).toNat)
      case atStart => exact ⟨0, 0, Nat.zero_le _, rfl, rfl⟩
      case round =>
        obtain ⟨q, mq, hq, rfl, rfl⟩ := hrel
        by_cases hqn : q < n
        · obtain ⟨g, o, hlao, hgl, d1, d2, d3⟩ : ∃ g o, lao = some ⟨g, o, none⟩ ∧ g < w.heap.size ∧ w.cell? ⟨g, o + q * 3, none⟩ = some (.int .i64 (-1 - (mk : Int))) ∧ w.cell? ⟨g, o + q * 3 + 1, none⟩ = some (.int .i64 0) ∧ w.cell? ⟨g, o + q * 3 + 2, none⟩ = some (.bool false) := by
            rcases HOL.out.2 with ⟨_, h⟩ | ⟨g, o, cap, cur, h, _, h2, _, _, _, h6⟩
            · omega
            · simp only [Value.slice.injEq] at h
              have hqm : q < (marks n mk).length := by simp [marks]; exact hqn
              have he := (wcells_iff _ _ _).1 h6 q hqm
              have hm : (marks n mk)[q] = ⟨-1 - (mk : Int), 0, false⟩ := by simp [marks]
              rw [hm] at he
              refine ⟨g, o, h.1, lt_of_block h2, cell_at h2 ?_, cell_at h2 ?_, cell_at h2 ?_⟩
              · rw [Nat.mul_comm]; exact he.1
              · rw [show o + q * 3 + 1 = o + (3 * q + 1) by omega]; exact he.2.1
              · rw [show o + q * 3 + 2 = o + (3 * q + 2) by omega]; exact he.2.2
          subst hlao
          have hg7 : g < w7.heap.size := by omega
          have e1 : ∀ ob, (w7.alloc ob).cell? ⟨g, o + q * 3, none⟩ = some (.int .i64 (-1 - (mk : Int))) := fun ob => (World.cell?_of_block (Below.heap_alloc _ _ _ hg7)).trans ((HBL.out.cell hgl).trans d1)
          have e2 : ∀ ob, (w7.alloc ob).cell? ⟨g, o + q * 3 + 1, none⟩ = some (.int .i64 0) := fun ob => (World.cell?_of_block (Below.heap_alloc _ _ _ hg7)).trans ((HBL.out.cell hgl).trans d2)
          have e3 : ∀ ob, (w7.alloc ob).cell? ⟨g, o + q * 3 + 2, none⟩ = some (.bool false) := fun ob => (World.cell?_of_block (Below.heap_alloc _ _ _ hg7)).trans ((HBL.out.cell hgl).trans d3)
          have hqI : (q : Int) < n := by omega
          clear d1 d2 d3
          go_wp2
          go_quiet (fail)
          go_wp2
          go_roundw
          case rel => exact ⟨q + 1, _, by omega, by go_num, rfl⟩
          case measure => simp [intOf]; omega
        · go_wp2
          go_roundw
          case rel =>
            refine ⟨t + 1, by omega, by go_num, ?_⟩
            have := HBL.out.alloc HBL.out.size (.cells #[.int .i64 (-1 - (mk : Int)), .int .i64 0, .bool false] 50)
            exact ⟨this.os, this.tape, this.output, this.size, this.block⟩
          case measure => simp [intOf]; omega
    · have x2 : wr.cell? ⟨Bb, 2, none⟩ = some (.slice none 0 0) := (hbel.cell hltB).trans (cell_at HB.out rfl)
      have x3 : wr.cell? ⟨Bb, 3, none⟩ = some (.slice none 0 0) := (hbel.cell hltB).trans (cell_at HB.out rfl)
      have x4 : wr.cell? ⟨Bb, 4, none⟩ = some (.slice none 0 0) := (hbel.cell hltB).trans (cell_at HB.out rfl)
      clear hbel
      go_wp2
      refine wp_loop_rounds 1 ?_
      rw [rounds_succ]
      go_wp2
      refine wp_loop_rounds 1 ?_
      rw [rounds_succ]
      go_wp2
      refine wp_loop_rounds 1 ?_
      rw [rounds_succ]
      go_wp2
      go_ret
      exact ⟨rfl, HBL.out⟩
end Go.Proofs.Ytilcmkiihefkkaa
