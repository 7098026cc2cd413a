import Derived.Deep.RegionHeld3
import Derived.Test.YtilcmkiihefkkabGreatDoorJk11
section
set_option linter.unusedVariables false
set_option linter.unusedSimpArgs false
set_option maxRecDepth 100000
namespace Go.Proofs.YtilcmkiihefkkabGreatDoor.Mn
open Go.RowKit
set_option maxHeartbeats 400000 in
theorem sbase_N (k run code turned : Int) (place : Int) (fv : Value) (S : Nat) (w : World)
    (hS : w.heap[S]? = some (.cells #[.int .i64 k, .int .i64 run, .int .u64 code, .int .u64 turned, fv] 152 (0, 0))) :
    Calls Tryz.prog 71 #[.pointer (some ⟨S, 0, none⟩), .int .i64 place, .int .i64 4] w fun e w' => e = .returned (.tuple #[]) ∧ Upd w w' S (.cells #[.int .i64 k, .int .i64 0, .int .u64 code, .int .u64 turned, fv] 152 (0, 0)) := by
  have c1 : w.cell? ⟨S, 1, none⟩ = some (.int .i64 run) := cell_at hS rfl
  have f1 : w.frozen? ⟨S, 1, none⟩ = false := frozen_of_row w _ _ _ _ hS
  have HS : Hid (w.heap[S]? = some (.cells #[.int .i64 k, .int .i64 run, .int .u64 code, .int .u64 turned, fv] 152 (0, 0))) := hS
  clear hS
  go_enter Tryz.func71, Tryz.ntmps71
  go_wp2
  first | go_end0 | exact bodyPost_ret (v := .tuple #[]) (by simp [results, Tryz.results71, go_sem]) rfl ⟨rfl, Upd.of_setCell _ HS.out⟩
theorem code_eq (k code n : Nat) (hk1 : 1 ≤ k) (hk2 : k ≤ 12) (hc : code < 16777216) (hn : n < 4) :
    bits BinOp.and IntKind.u64 (bits BinOp.or IntKind.u64 (IntKind.u64.wrap ((code : Int) * 4)) n) ((4 ^ k - 1 : Nat) : Int) = (((4 * code + n) % 4 ^ k : Nat) : Int) := by
  have hp := pow_cases k hk1 hk2
  have e1 : IntKind.u64.wrap ((code : Int) * 4) = ((code * 4 : Nat) : Int) := by rw [IntKind.wrap_u64]; omega
  rw [e1, u64_or_nat _ _ (by omega) (by omega)]
  have e2 : code * 4 ||| n = 4 * code + n := by
    have := Nat.two_pow_add_eq_or_of_lt (i := 2) (b := n) (by omega) code
    rw [Nat.mul_comm code 4]
    simpa using this.symm
  rw [e2, u64_and_nat _ _ (by omega) (by omega), mask_eq k _ hk1 hk2]
theorem turned_eq (k turned n : Nat) (hk1 : 1 ≤ k) (hk2 : k ≤ 12) (ht : turned < 4 ^ k) (hn : n < 4) :
    bits BinOp.or IntKind.u64 ((turned : Int) / 4) (IntKind.u64.wrap ((3 - (n : Int)) * 2 ^ (2 * k - 2))) = ((turned / 4 + (3 - n) * 4 ^ (k - 1) : Nat) : Int) := by
  have hp := pow_cases k hk1 hk2
  have hpow : (4 : Nat) ^ (k - 1) = 2 ^ (2 * k - 2) := by
    rw [show (4 : Nat) = 2 ^ 2 from rfl, ← Nat.pow_mul]
    congr 1
    omega
  have h4 : 4 ^ k = 4 * 4 ^ (k - 1) := by
    rw [← Nat.pow_succ']
    congr 1
    omega
  have hle : 4 ^ (k - 1) ≤ 4194304 := by omega
  have hmul : (3 - n) * 4 ^ (k - 1) ≤ 3 * 4 ^ (k - 1) := Nat.mul_le_mul_right _ (by omega)
  have e1 : (3 - (n : Int)) * 2 ^ (2 * k - 2) = (((3 - n) * 4 ^ (k - 1) : Nat) : Int) := by
    rw [hpow, Int.natCast_mul, Int.natCast_pow, show ((3 - n : Nat) : Int) = 3 - (n : Int) by omega]
    rfl
  have e2 : ((turned : Int) / 4) = ((turned / 4 : Nat) : Int) := by omega
  rw [e1, e2, IntKind.wrap_u64, show ((((3 - n) * 4 ^ (k - 1) : Nat) : Int) % 18446744073709551616) = (((3 - n) * 4 ^ (k - 1) : Nat) : Int) by omega, u64_or_nat _ _ (by omega) (by omega)]
  have e3 : turned / 4 ||| (3 - n) * 4 ^ (k - 1) = turned / 4 + (3 - n) * 4 ^ (k - 1) := by
    have := Nat.two_pow_add_eq_or_of_lt (i := 2 * k - 2) (b := turned / 4) (by omega) (3 - n)
    rw [← hpow] at this
    rw [Nat.or_comm, Nat.mul_comm (3 - n), ← this]
    omega
  rw [e3]
theorem PI.scan {w w' : World} {base Bk S : Nat} {k W next run : Int} {L M : List W3} {cs cs' : Array Value} (h : PI w base Bk k W next run L M) (hS : w.heap[S]? = some (.cells cs' 152 (0, 0))) (hu : Upd w w' S (.cells cs 152 (0, 0))) :
    PI w' base Bk k W next run L M := by
  obtain ⟨hlow, ov, pv, hB, ho, hp, hd⟩ := h
  refine ⟨hlow, ov, pv, (hu.other Bk (fun e => by subst e; rw [hS] at hB; simp at hB)).trans hB, ho.other (fun g hg _ => hu.other g (fun e => ho.tag (by decide) hS (by rw [hg, e]))), hp.other (fun g hg _ => hu.other g (fun e => hp.tag (by decide) hS (by rw [hg, e]))), hd⟩
theorem turned_lt (k turned n : Nat) (hk1 : 1 ≤ k) (hk2 : k ≤ 12) (ht : turned < 4 ^ k) (hn : n < 4) : turned / 4 + (3 - n) * 4 ^ (k - 1) < 4 ^ k := by
  have h4 : 4 ^ k = 4 * 4 ^ (k - 1) := by
    rw [← Nat.pow_succ']
    congr 1
    omega
  have hmul : (3 - n) * 4 ^ (k - 1) ≤ 3 * 4 ^ (k - 1) := Nat.mul_le_mul_right _ (by omega)
  omega
set_option maxHeartbeats 2000000 in
set_option maxRecDepth 100000 in
theorem sbase_lt (k W code turned n place : Nat) (run next prun : Int) (L M : List W3) (base S Bk : Nat) (w : World)
    (hk1 : 1 ≤ k) (hk2 : k ≤ 12) (hW : 1 ≤ W) (hW2 : W ≤ 20) (hc : code < 4 ^ k) (ht : turned < 4 ^ k) (hn : n < 4) (hrun : 0 ≤ run) (hrun2 : run ≤ 140737488350000) (hrp : run ≤ place) (hpl2 : (place : Int) ≤ 140737488350000)
    (hlowS : base ≤ S) (hbase : base ≤ w.heap.size)
    (hS : w.heap[S]? = some (.cells #[.int .i64 k, .int .i64 run, .int .u64 code, .int .u64 turned, .func (.func 70) #[.pointer (some ⟨Bk, 0, none⟩)] #[]] 152 (0, 0)))
    (hPI : PI w base Bk k W next prun L M) (hL : L.length < 4398046511000) (hM : M.length < 4398046511000) (hpr : 0 ≤ prun) (hpr2 : prun ≤ 140737488350000) (hge : run + 1 < k) :
    Calls Tryz.prog 71 #[.pointer (some ⟨S, 0, none⟩), .int .i64 place, .int .i64 n] w fun e w' => e = .returned (.tuple #[]) ∧
      w'.heap[S]? = some (.cells #[.int .i64 k, .int .i64 (run + 1), .int .u64 ((4 * code + n) % 4 ^ k : Nat), .int .u64 (turned / 4 + (3 - n) * 4 ^ (k - 1) : Nat), .func (.func 70) #[.pointer (some ⟨Bk, 0, none⟩)] #[]] 152 (0, 0)) ∧
      PI w' base Bk k W next prun L M ∧ Below base w w' := by
  have c0 : w.cell? ⟨S, 0, none⟩ = some (.int .i64 k) := cell_at hS rfl
  have c1 : w.cell? ⟨S, 1, none⟩ = some (.int .i64 run) := cell_at hS rfl
  have c2 : w.cell? ⟨S, 2, none⟩ = some (.int .u64 code) := cell_at hS rfl
  have c3 : w.cell? ⟨S, 3, none⟩ = some (.int .u64 turned) := cell_at hS rfl
  have c4 : w.cell? ⟨S, 4, none⟩ = some (.func (.func 70) #[.pointer (some ⟨Bk, 0, none⟩)] #[]) := cell_at hS rfl
  have f1 : w.frozen? ⟨S, 1, none⟩ = false := frozen_of_row w _ _ _ _ hS
  have f2 : w.frozen? ⟨S, 2, none⟩ = false := frozen_of_row w _ _ _ _ hS
  have f3 : w.frozen? ⟨S, 3, none⟩ = false := frozen_of_row w _ _ _ _ hS
  have HS : Hid (w.heap[S]? = some (.cells #[.int .i64 k, .int .i64 run, .int .u64 code, .int .u64 turned, .func (.func 70) #[.pointer (some ⟨Bk, 0, none⟩)] #[]] 152 (0, 0))) := hS
  clear hS
  have hp := pow_cases k hk1 hk2
  have hn4 : ((n : Int) == 4) = false := by rw [beq_eq_false_iff_ne]; omega
  obtain ⟨code', hcode'⟩ : ∃ c : Nat, c = (4 * code + n) % 4 ^ k := ⟨_, rfl⟩
  obtain ⟨turned', hturned'⟩ : ∃ c : Nat, c = turned / 4 + (3 - n) * 4 ^ (k - 1) := ⟨_, rfl⟩
  have hcode : bits BinOp.and IntKind.u64 (bits BinOp.or IntKind.u64 (IntKind.u64.wrap ((code : Int) * 4)) n) ((4 ^ k - 1 : Nat) : Int) = (code' : Int) := by rw [hcode']; exact code_eq k code n hk1 hk2 (by omega) hn
  have hturned : bits BinOp.or IntKind.u64 ((turned : Int) / 4) (IntKind.u64.wrap ((3 - (n : Int)) * 2 ^ (2 * k - 2))) = (turned' : Int) := by rw [hturned']; exact turned_eq k turned n hk1 hk2 ht hn
  have hcb : code' < 16777216 := by rw [hcode']; exact Nat.lt_of_lt_of_le (Nat.mod_lt _ (by omega)) hp.1
  have htb : turned' < 16777216 := by rw [hturned']; exact Nat.lt_of_lt_of_le (turned_lt k turned n hk1 hk2 ht hn) hp.1
  rw [← hcode', ← hturned']
  clear hcode' hturned' hp hc ht
  have HPI : Hid (PI w base Bk k W next prun L M) := hPI
  clear hPI
  go_enter Tryz.func71, Tryz.ntmps71
  go_wp2
  go_region_with (go_at_call 111; refine (allBits_any k _ hk1 hk2).mono ?_; rintro e w' ⟨rfl, rfl⟩)
  all_goals go_wp2
  all_goals go_region
  all_goals go_wp2
  all_goals (have HU := ((((Upd.of_setCell (i := 2) (.int .u64 code') HS.out).setCell (i := 3) (.int .u64 turned')).setCell (i := 1) (.int .i64 (run + 1))).drew).drew)
  all_goals (generalize ((((w.setCell ⟨S, 2, none⟩ (.int .u64 code')).setCell ⟨S, 3, none⟩ (.int .u64 turned')).setCell ⟨S, 1, none⟩ (.int .i64 (run + 1))).drew).drew = w3 at HU ⊢)
  all_goals (have HU3 : Hid (Upd w w3 S (.cells #[.int .i64 k, .int .i64 (run + 1), .int .u64 code', .int .u64 turned', .func (.func 70) #[.pointer (some ⟨Bk, 0, none⟩)] #[]] 152 (0, 0))) := HU)
  all_goals (clear HU hcode hturned c0 c1 c2 c3 c4 f1 f2 f3)
  all_goals (have c0 : w3.cell? ⟨S, 0, none⟩ = some (.int .i64 k) := cell_at HU3.out.here rfl)
  all_goals (have c1 : w3.cell? ⟨S, 1, none⟩ = some (.int .i64 (run + 1)) := cell_at HU3.out.here rfl)
  all_goals (have c2 : w3.cell? ⟨S, 2, none⟩ = some (.int .u64 code') := cell_at HU3.out.here rfl)
  all_goals (have c3 : w3.cell? ⟨S, 3, none⟩ = some (.int .u64 turned') := cell_at HU3.out.here rfl)
  all_goals (have c4 : w3.cell? ⟨S, 4, none⟩ = some (.func (.func 70) #[.pointer (some ⟨Bk, 0, none⟩)] #[]) := cell_at HU3.out.here rfl)
  all_goals (have hgd : decide ((k : Int) ≤ run + 1) = false := by simp; omega)
  all_goals (have HP3 : Hid (PI w3 base Bk k W next prun L M) := HPI.out.scan HS.out HU3.out)
  all_goals go_quiet (fail)
  all_goals go_wp2
  all_goals go_end0
  all_goals exact ⟨rfl, HU3.out.here, ⟨HP3.out.low, HP3.out.ex⟩, ⟨(HU3.out.below hlowS).os, (HU3.out.below hlowS).tape, (HU3.out.below hlowS).output, (HU3.out.below hlowS).size, (HU3.out.below hlowS).block⟩⟩
end Go.Proofs.YtilcmkiihefkkabGreatDoor.Mn
end
section
set_option linter.unusedVariables false
set_option linter.unusedSimpArgs false
set_option maxRecDepth 100000
namespace Go.Proofs.YtilcmkiihefkkabGreatDoor.Mn
open Go.RowKit
theorem place_eq (place k : Nat) (h : k ≤ place + 1) (h2 : place ≤ 140737488350000) : IntKind.i64.wrap (IntKind.i64.wrap ((place : Int) - k) + 1) = ((place + 1 - k : Nat) : Int) := by
  rw [IntKind.wrap_i64, IntKind.wrap_i64]
  omega
set_option maxHeartbeats 2000000 in
set_option maxRecDepth 100000 in
theorem sbase_ge (k W code turned n place : Nat) (run next prun : Int) (L M : List W3) (base S Bk : Nat) (w : World)
    (hk1 : 1 ≤ k) (hk2 : k ≤ 12) (hW : 1 ≤ W) (hW2 : W ≤ 20) (hc : code < 4 ^ k) (ht : turned < 4 ^ k) (hn : n < 4) (hrun : 0 ≤ run) (hrun2 : run ≤ 140737488350000) (hrp : run ≤ place) (hpl2 : (place : Int) ≤ 140737488350000)
    (hlowS : base ≤ S) (hbase : base ≤ w.heap.size)
    (hS : w.heap[S]? = some (.cells #[.int .i64 k, .int .i64 run, .int .u64 code, .int .u64 turned, .func (.func 70) #[.pointer (some ⟨Bk, 0, none⟩)] #[]] 152 (0, 0)))
    (hPI : PI w base Bk k W next prun L M) (hL : L.length < 4398046511000) (hM : M.length < 4398046511000) (hpr : 0 ≤ prun) (hpr2 : prun ≤ 140737488350000) (hge : (k : Int) ≤ run + 1) :
    Calls Tryz.prog 71 #[.pointer (some ⟨S, 0, none⟩), .int .i64 place, .int .i64 n] w fun e w' => e = .returned (.tuple #[]) ∧
      w'.heap[S]? = some (.cells #[.int .i64 k, .int .i64 (run + 1), .int .u64 ((4 * code + n) % 4 ^ k : Nat), .int .u64 (turned / 4 + (3 - n) * 4 ^ (k - 1) : Nat), .func (.func 70) #[.pointer (some ⟨Bk, 0, none⟩)] #[]] 152 (0, 0)) ∧
      PI w' base Bk k W ((place + 1 - k : Nat) + 1) (stepR next prun (place + 1 - k : Nat)) (stepL W next (place + 1 - k : Nat) L (candOf k (place + 1 - k) ((4 * code + n) % 4 ^ k) (turned / 4 + (3 - n) * 4 ^ (k - 1)))) (stepM W (stepR next prun (place + 1 - k : Nat)) (stepL W next (place + 1 - k : Nat) L (candOf k (place + 1 - k) ((4 * code + n) % 4 ^ k) (turned / 4 + (3 - n) * 4 ^ (k - 1)))) M) ∧ Below base w w' := by
  have c0 : w.cell? ⟨S, 0, none⟩ = some (.int .i64 k) := cell_at hS rfl
  have c1 : w.cell? ⟨S, 1, none⟩ = some (.int .i64 run) := cell_at hS rfl
  have c2 : w.cell? ⟨S, 2, none⟩ = some (.int .u64 code) := cell_at hS rfl
  have c3 : w.cell? ⟨S, 3, none⟩ = some (.int .u64 turned) := cell_at hS rfl
  have c4 : w.cell? ⟨S, 4, none⟩ = some (.func (.func 70) #[.pointer (some ⟨Bk, 0, none⟩)] #[]) := cell_at hS rfl
  have f1 : w.frozen? ⟨S, 1, none⟩ = false := frozen_of_row w _ _ _ _ hS
  have f2 : w.frozen? ⟨S, 2, none⟩ = false := frozen_of_row w _ _ _ _ hS
  have f3 : w.frozen? ⟨S, 3, none⟩ = false := frozen_of_row w _ _ _ _ hS
  have HS : Hid (w.heap[S]? = some (.cells #[.int .i64 k, .int .i64 run, .int .u64 code, .int .u64 turned, .func (.func 70) #[.pointer (some ⟨Bk, 0, none⟩)] #[]] 152 (0, 0))) := hS
  clear hS
  have hp := pow_cases k hk1 hk2
  have hn4 : ((n : Int) == 4) = false := by rw [beq_eq_false_iff_ne]; omega
  obtain ⟨code', hcode'⟩ : ∃ c : Nat, c = (4 * code + n) % 4 ^ k := ⟨_, rfl⟩
  obtain ⟨turned', hturned'⟩ : ∃ c : Nat, c = turned / 4 + (3 - n) * 4 ^ (k - 1) := ⟨_, rfl⟩
  have hcode : bits BinOp.and IntKind.u64 (bits BinOp.or IntKind.u64 (IntKind.u64.wrap ((code : Int) * 4)) n) ((4 ^ k - 1 : Nat) : Int) = (code' : Int) := by rw [hcode']; exact code_eq k code n hk1 hk2 (by omega) hn
  have hturned : bits BinOp.or IntKind.u64 ((turned : Int) / 4) (IntKind.u64.wrap ((3 - (n : Int)) * 2 ^ (2 * k - 2))) = (turned' : Int) := by rw [hturned']; exact turned_eq k turned n hk1 hk2 ht hn
  have hcb : code' < 16777216 := by rw [hcode']; exact Nat.lt_of_lt_of_le (Nat.mod_lt _ (by omega)) hp.1
  have htb : turned' < 16777216 := by rw [hturned']; exact Nat.lt_of_lt_of_le (turned_lt k turned n hk1 hk2 ht hn) hp.1
  rw [← hcode', ← hturned']
  clear hcode' hturned' hp hc ht
  have HPI : Hid (PI w base Bk k W next prun L M) := hPI
  clear hPI
  go_enter Tryz.func71, Tryz.ntmps71
  go_wp2
  go_region_with (go_at_call 111; refine (allBits_any k _ hk1 hk2).mono ?_; rintro e w' ⟨rfl, rfl⟩)
  all_goals go_wp2
  all_goals go_region
  all_goals go_wp2
  all_goals (have HU := ((((Upd.of_setCell (i := 2) (.int .u64 code') HS.out).setCell (i := 3) (.int .u64 turned')).setCell (i := 1) (.int .i64 (run + 1))).drew).drew)
  all_goals (generalize ((((w.setCell ⟨S, 2, none⟩ (.int .u64 code')).setCell ⟨S, 3, none⟩ (.int .u64 turned')).setCell ⟨S, 1, none⟩ (.int .i64 (run + 1))).drew).drew = w3 at HU ⊢)
  all_goals (have HU3 : Hid (Upd w w3 S (.cells #[.int .i64 k, .int .i64 (run + 1), .int .u64 code', .int .u64 turned', .func (.func 70) #[.pointer (some ⟨Bk, 0, none⟩)] #[]] 152 (0, 0))) := HU)
  all_goals (clear HU hcode hturned c0 c1 c2 c3 c4 f1 f2 f3)
  all_goals (have c0 : w3.cell? ⟨S, 0, none⟩ = some (.int .i64 k) := cell_at HU3.out.here rfl)
  all_goals (have c1 : w3.cell? ⟨S, 1, none⟩ = some (.int .i64 (run + 1)) := cell_at HU3.out.here rfl)
  all_goals (have c2 : w3.cell? ⟨S, 2, none⟩ = some (.int .u64 code') := cell_at HU3.out.here rfl)
  all_goals (have c3 : w3.cell? ⟨S, 3, none⟩ = some (.int .u64 turned') := cell_at HU3.out.here rfl)
  all_goals (have c4 : w3.cell? ⟨S, 4, none⟩ = some (.func (.func 70) #[.pointer (some ⟨Bk, 0, none⟩)] #[]) := cell_at HU3.out.here rfl)
  all_goals (have HP3 : Hid (PI w3 base Bk k W next prun L M) := HPI.out.scan HS.out HU3.out)
  all_goals (have HPK : Hid (IntKind.i64.wrap (IntKind.i64.wrap ((place : Int) - k) + 1) = ((place + 1 - k : Nat) : Int)) := place_eq place k (by omega) (by omega))
  all_goals go_quiet (fail)
  all_goals go_wp2
  all_goals (have hb3 : base ≤ w3.heap.size := by rw [HU3.out.size]; exact hbase)
  all_goals (go_region_held3 (fun w' => w'.cell? ⟨S, 0, none⟩ = some (.int .i64 k) ∧ w'.cell? ⟨S, 2, none⟩ = some (.int .u64 code') ∧ w'.cell? ⟨S, 3, none⟩ = some (.int .u64 turned') ∧ w'.cell? ⟨S, 4, none⟩ = some (.func (.func 70) #[.pointer (some ⟨Bk, 0, none⟩)] #[])) (go_keep) ((go_at_call 70; rw [HPK.out]; refine (word_any k W (place + 1 - k) code' turned' next prun L M base Bk _ hk1 hk2 hcb htb hW hW2 ?_ ?_ hL hM ?_ hpr hpr2).mono ?_; (exact hb3); (exact ⟨HP3.out.low, HP3.out.ex⟩); omega; rintro e w4 ⟨rfl, hpi4, hpf4⟩; have HS4 := hpf4.scan S _ HU3.out.here; have d0 := cell_at HS4 (i := 0) rfl; have d2 := cell_at HS4 (i := 2) rfl; have d3 := cell_at HS4 (i := 3) rfl; have d4 := cell_at HS4 (i := 4) rfl; have HS5 : Hid _ := HS4; clear HS4)))
  all_goals go_wp2
  all_goals go_end0
  all_goals exact ⟨rfl, HS5.out, hpi4, (HU3.out.below hlowS).trans ⟨hpf4.below.os, hpf4.below.tape, hpf4.below.output, hpf4.below.size, hpf4.below.block⟩⟩
end Go.Proofs.YtilcmkiihefkkabGreatDoor.Mn
end
