import Derived.Test.YtilcmkiihefkkaaAnA
import Derived.Test.YtilcmkiihefkkaaChB
import Derived.Deep.CutBlock
import Derived.Deep.DeepCutAuto
import Derived.Deep.QuietTactic
import Derived.Deep.RegionWith
import Derived.BigQuiet
import Derived.Lib.QuietBelow
import Derived.Laws.StructEq
set_option linter.unusedVariables false
set_option linter.unusedSimpArgs false
namespace Go.Proofs.Ytilcmkiihefkkaa
open Go.RowKit

theorem Try.info62 : (Try.prog.info? 62).map (fun i => (i.zero, i.size, i.bytes)) = some (some (.agg #[.int .i64 0, .int .i64 0]), 2, 16) := by kernel_rfl

theorem info_parts {P : Program} {t : TypeId} {z : Option Value} {s b : Nat} (h : (P.info? t).map (fun i => (i.zero, i.size, i.bytes)) = some (z, s, b)) : ∃ i, P.info? t = some i ∧ i.zero = z ∧ i.size = s ∧ i.bytes = b := by
  cases hi : P.info? t with
  | none => rw [hi] at h; simp at h
  | some i => rw [hi] at h; simp at h; exact ⟨i, rfl, h.1, h.2.1, h.2.2⟩

theorem OwnR.shape {w : World} {base : Nat} {e : TypeId} {size : Nat} {v : Value} {n : Nat} {xs : List Value} (h : OwnR w base e size v n xs) : ∃ ao c, v = .slice ao n c := by
  rcases h.2 with ⟨rfl, rfl⟩ | ⟨g, o, cap, cur, rfl, _⟩
  · exact ⟨_, _, rfl⟩
  · exact ⟨_, _, rfl⟩

theorem belDrewN {B : Nat} {a w : World} (h : Below B a w) (n : Nat) : Below B a (w.drewN n) := ⟨h.os, h.tape, h.output, h.size, h.block⟩

theorem abox_cells (W : World) (x y : Value) (t : TypeId) (s : Nat) (hs : s = W.heap.size) : ∀ j u, ([x, y] : List Value)[j]? = some u → (W.alloc (.cells #[x, y] t)).cell? ((⟨s, 0, none⟩ : Addr).add j) = some u := by
  intro j u hj
  subst hs
  rw [Addr.add_lit, Nat.zero_add]
  refine cell_at (heap_alloc_new W _) ?_
  simpa using hj

theorem an_oneCell (x y : Int) : ∀ u ∈ ([.int .i64 x, .int .i64 y] : List Value), u.oneCell' = true := by
  intro u hu
  simp at hu
  rcases hu with rfl | rfl <;> rfl

/-- where an anchor belongs: what the search has seen -/
def SrI (P : List (Int × Int)) (x : Int × Int) (k : Nat) (th : Bool) : Prop := (∀ j (hj : j < P.length), k ≤ j → ¬ bef P[j] x) ∧ (th = true ↔ ∃ j, ∃ hj : j < P.length, k ≤ j ∧ P[j] = x)

def SrE (P : List (Int × Int)) (x : Int × Int) (k : Nat) (th : Bool) : Prop := (∀ h : 0 < k, ∀ h2 : k ≤ P.length, bef (P[k - 1]'(by omega)) x) ∧ SrI P x k th

theorem SrI.start (P : List (Int × Int)) (x : Int × Int) (k : Nat) (hk : k = P.length) : SrI P x k false := by
  refine ⟨fun j hj h => absurd hj (by omega), ?_⟩
  constructor
  · intro h; simp at h
  · rintro ⟨j, hj, h, _⟩; omega

theorem SrI.down {P : List (Int × Int)} {x y : Int × Int} {p : Nat} {th th' : Bool} (h : SrI P x (p + 1) th) (hp : p < P.length) (hy : P[p] = y) (hb : ¬ bef y x) (ht : th' = (th || decide (y = x))) : SrI P x p th' := by
  refine ⟨?_, ?_⟩
  · intro j hj hpj
    by_cases he : j = p
    · subst he; rw [hy]; exact hb
    · exact h.1 j hj (by omega)
  · rw [ht, Bool.or_eq_true, h.2, decide_eq_true_iff]
    constructor
    · rintro (⟨j, hj, h1, h2⟩ | h1)
      · exact ⟨j, hj, by omega, h2⟩
      · exact ⟨p, hp, Nat.le_refl _, by rw [hy]; exact h1⟩
    · rintro ⟨j, hj, h1, h2⟩
      by_cases he : j = p
      · subst he; right; rw [← hy]; exact h2
      · left; exact ⟨j, hj, by omega, h2⟩

set_option maxRecDepth 100000 in
set_option maxHeartbeats 2000000 in
theorem rsorted_some (L : List (Int × Int)) (n : Nat) (hn : L.length = n) (g o cap : Nat) (w : World) (hL : n ≤ 400) (hg : g < w.heap.size)
    (hA : ∀ j (hj : j < L.length), w.cell? ⟨g, o + j * 2, none⟩ = some (.int .i64 L[j].1) ∧ w.cell? ⟨g, o + j * 2 + 1, none⟩ = some (.int .i64 L[j].2)) :
    Calls Try.prog 43 #[.slice (some ⟨g, o, none⟩) n cap] w fun e w' => ∃ v, e = .returned v ∧ Below w.heap.size w w' ∧ OwnR w' w.heap.size 62 2 v (canon L).length (acells (canon L)) := by
  obtain ⟨i0, hi, hz0, hz1, hz2⟩ := info_parts Try.info62
  have HA : Hid (∀ j (hj : j < L.length), w.cell? ⟨g, o + j * 2, none⟩ = some (.int .i64 L[j].1) ∧ w.cell? ⟨g, o + j * 2 + 1, none⟩ = some (.int .i64 L[j].2)) := hA
  have HN : Hid (L.length = n) := hn
  clear hA hn
  go_enter Try.func43, Try.ntmps43
  go_wp2
  go_loopw [3, 4] (fun ov iv wr => ∃ (i : Nat) (P : List (Int × Int)) , i ≤ n ∧ P.length ≤ i ∧ iv = .int .i64 i ∧ Hid (P.Pairwise bef ∧ ∀ x, x ∈ P ↔ x ∈ L.take i) ∧ OwnR wr w.heap.size 62 2 ov P.length (acells P) ∧ Below w.heap.size w wr) (fun _ iv _ => n - (intOf iv).toNat)
  case atStart => exact ⟨0, [], Nat.zero_le _, Nat.zero_le _, rfl, ⟨by simp, by simp⟩, OwnR.nil _ _ _ _, Below.refl _ _⟩
  case round =>
    obtain ⟨w1, hw1⟩ : ∃ x : World, x = wr := ⟨_, rfl⟩
    subst hw1
    obtain ⟨i, P, hiN, hPi, rfl, HP, hown, hbel⟩ := hrel
    obtain ⟨ao, c, hv⟩ := hown.shape
    subst hv
    by_cases hlt : i < n
    · have hltI : (i : Int) < n := by omega
      obtain ⟨xr, hxr⟩ : ∃ x, x = (L[i]'(by rw [HN.out]; exact hlt)).1 := ⟨_, rfl⟩
      obtain ⟨xp, hxp⟩ : ∃ x, x = (L[i]'(by rw [HN.out]; exact hlt)).2 := ⟨_, rfl⟩
      have HX : Hid ((xr, xp) = L[i]'(by rw [HN.out]; exact hlt)) := by rw [hxr, hxp]; exact rfl
      have hcx := HA.out i (by rw [HN.out]; exact hlt)
      rw [← hxr, ← hxp] at hcx
      have hx1 : w1.cell? ⟨g, o + i * 2, none⟩ = some (.int .i64 xr) := by rw [hbel.cell hg]; exact hcx.1
      have hx2 : w1.cell? ⟨g, o + i * 2 + 1, none⟩ = some (.int .i64 xp) := by rw [hbel.cell hg]; exact hcx.2
      clear hcx hxr hxp
      have HB0 : Hid (Below w.heap.size w w1) := hbel
      have HOW : Hid (OwnR w1 w.heap.size 62 2 (.slice ao P.length c) P.length (acells P)) := hown
      have HSZ : Hid (w.heap.size ≤ w1.heap.size) := hbel.size
      have hgr : g < w1.heap.size := Nat.lt_of_lt_of_le hg hbel.size
      clear hbel hown
      obtain ⟨m, hm⟩ : ∃ m, m = P.length := ⟨_, rfl⟩
      have HM : Hid (m = P.length) := hm
      rw [← hm] at hPi HOW ⊢
      clear hm
      go_upto_block 2 with fail
      go_cut [5, 6, 7] (fun av tv lv wc => ∃ (at_ : Nat) (th : Bool), at_ ≤ m ∧ av = .int .i64 at_ ∧ tv = .bool th ∧ Below w1.heap.size w1 wc ∧ SrE P (xr, xp) at_ th)
      case first =>
        go_wp2_with fail
        go_loopw [5, 6] (fun av tv wc => ∃ (at_ : Nat) (th : Bool), at_ ≤ m ∧ av = .int .i64 at_ ∧ tv = .bool th ∧ Below w1.heap.size w1 wc ∧ SrI P (xr, xp) at_ th) (fun av _ _ => (intOf av).toNat)
        case atStart =>
          exact ⟨m, false, Nat.le_refl _, rfl, rfl, Below.refl _ _, SrI.start _ _ _ HM.out⟩
        case round =>
          obtain ⟨at_, th, hat, rfl, rfl, hbq, HI⟩ := hrel
          by_cases h0 : 0 < at_
          · obtain ⟨ag, aoff, hao, hag1, hag2, hcells⟩ : ∃ ag aoff, ao = some ⟨ag, aoff, none⟩ ∧ w.heap.size ≤ ag ∧ ag < w1.heap.size ∧ ∀ j (hj : j < P.length), w1.cell? ⟨ag, aoff + j * 2, none⟩ = some (.int .i64 P[j].1) ∧ w1.cell? ⟨ag, aoff + j * 2 + 1, none⟩ = some (.int .i64 P[j].2) := by
              have hh := HOW.out
              rcases hh.2 with ⟨_, h⟩ | ⟨g', o', cap', cur, he, h1, h2, _⟩
              · omega
              · simp only [Value.slice.injEq] at he
                have hao := he.1
                subst hao
                exact ⟨g', o', rfl, h1, lt_of_block h2, hh.ans⟩
            subst hao
            obtain ⟨p, rfl⟩ : ∃ p, at_ = p + 1 := ⟨at_ - 1, by omega⟩
            have hpm : p < P.length := by have := HM.out; omega
            have hc := hcells p hpm
            obtain ⟨pr, hpr⟩ : ∃ x, x = P[p].1 := ⟨_, rfl⟩
            obtain ⟨pp, hpp⟩ : ∃ x, x = P[p].2 := ⟨_, rfl⟩
            have HPX : Hid (P[p] = (pr, pp)) := by rw [hpr, hpp]; exact rfl
            rw [← hpr, ← hpp] at hc
            have y1 : wr.cell? ⟨ag, aoff + p * 2, none⟩ = some (.int .i64 pr) := by rw [hbq.cell hag2]; exact hc.1
            have y2 : wr.cell? ⟨ag, aoff + p * 2 + 1, none⟩ = some (.int .i64 pp) := by rw [hbq.cell hag2]; exact hc.2
            have z1 : wr.cell? ⟨g, o + i * 2, none⟩ = some (.int .i64 xr) := by rw [hbq.cell hgr]; exact hx1
            have z2 : wr.cell? ⟨g, o + i * 2 + 1, none⟩ = some (.int .i64 xp) := by rw [hbq.cell hgr]; exact hx2
            have HBQ : Hid (Below w1.heap.size w1 wr) := hbq
            have hpI : (p : Int) < m := by omega
            have hpJ : ((p + 1 : Nat) : Int) - 1 = p := by omega
            have hp2 : p ≤ 400 := by omega
            clear hpr hpp hc hcells hbq h0
            obtain ⟨b, hb⟩ : ∃ b, b = befB (pr, pp) (xr, xp) := ⟨_, rfl⟩
            have cB : ∀ d os, Calls Try.prog 63 #[.agg #[.int .i64 pr, .int .i64 pp], .agg #[.int .i64 xr, .int .i64 xp]] (Sort.grow (redrawn wr d) os) fun e w'' => e = .returned (.bool b) ∧ ∃ p : Regrown, w'' = Sort.grow (redrawn wr p.d) p.os := fun d os => by
              rw [hb]; exact Calls.regrown_of (rbefore_any (pr, pp) (xr, xp) _)
            have HBB : Hid (b = befB (pr, pp) (xr, xp)) := hb
            clear hb
            have k1 := cell_regrown y1
            have k2 := cell_regrown y2
            have k3 := cell_regrown z1
            have k4 := cell_regrown z2
            go_wp2_with fail
            refine wp_region_quiet_below (by kernel_rfl) (by kernel_rfl) ?_
            repeat (go_big_quiet_step (exact cB _ _))
            refine wpQuiet_nil ?_
            intro w2 hw'
            have hb2 : Below wr.heap.size wr w2 := by
              obtain ⟨pq, hw''⟩ := hw'
              rw [hw'']; exact below_regrown wr pq.d pq.os
            have HB2 : Hid (Below w1.heap.size w1 w2) := HBQ.out.trans (hb2.mono HBQ.out.size)
            have v1 : w2.cell? ⟨ag, aoff + p * 2, none⟩ = some (.int .i64 pr) := by rw [hb2.cell (Nat.lt_of_lt_of_le hag2 HBQ.out.size)]; exact y1
            have v2 : w2.cell? ⟨ag, aoff + p * 2 + 1, none⟩ = some (.int .i64 pp) := by rw [hb2.cell (Nat.lt_of_lt_of_le hag2 HBQ.out.size)]; exact y2
            have v3 : w2.cell? ⟨g, o + i * 2, none⟩ = some (.int .i64 xr) := by rw [hb2.cell (Nat.lt_of_lt_of_le hgr HBQ.out.size)]; exact z1
            have v4 : w2.cell? ⟨g, o + i * 2 + 1, none⟩ = some (.int .i64 xp) := by rw [hb2.cell (Nat.lt_of_lt_of_le hgr HBQ.out.size)]; exact z2
            clear k1 k2 k3 k4 cB hw' hb2 y1 y2 z1 z2
            cases b with
            | true =>
              go_wp2_with fail
              go_meet
              case rel =>
                have hbf : bef (pr, pp) (xr, xp) := (befB_iff _ _).1 HBB.out.symm
                refine ⟨p + 1, th, hat, rfl, rfl, HB2.out, fun _ h2 => ?_, HI⟩
                simp only [Nat.add_sub_cancel]
                rw [HPX.out]; exact hbf
            | false =>
              have hbf : ¬ bef (pr, pp) (xr, xp) := (befB_not _ _).1 HBB.out.symm
              have HBF : Hid (¬ bef (pr, pp) (xr, xp)) := hbf
              clear hbf HBB
              cases th with
              | true =>
                go_wp2_with fail
                go_quiet (fail)
                go_wp2_with fail
                go_roundw
                case rel =>
                  exact ⟨p, true, by omega, by go_num, rfl, belDrewN HB2.out _, HI.down hpm HPX.out HBF.out rfl⟩
                case measure => simp [intOf]
              | false =>
                by_cases e1 : pr = xr
                · by_cases e2 : pp = xp
                  · subst e1 e2
                    go_wp2_with fail
                    go_quiet (fail)
                    go_wp2_with fail
                    go_roundw
                    case rel =>
                      exact ⟨p, true, by omega, by go_num, rfl, belDrewN HB2.out _, HI.down hpm HPX.out HBF.out (by simp)⟩
                    case measure => simp [intOf]
                  · subst e1
                    go_wp2_with fail
                    go_quiet (fail)
                    go_wp2_with fail
                    go_roundw
                    case rel =>
                      exact ⟨p, false, by omega, by go_num, rfl, belDrewN HB2.out _, HI.down hpm HPX.out HBF.out (by simp [e2])⟩
                    case measure => simp [intOf]
                · go_wp2_with fail
                  go_quiet (fail)
                  go_wp2_with fail
                  go_roundw
                  case rel =>
                    exact ⟨p, false, by omega, by go_num, rfl, belDrewN HB2.out _, HI.down hpm HPX.out HBF.out (by simp [e1])⟩
                  case measure => simp [intOf]
          · have h00 : at_ = 0 := by omega
            subst h00
            go_wp2_with fail
            go_meet
            case rel =>
              exact ⟨0, th, Nat.zero_le _, rfl, rfl, hbq, fun h _ => absurd h (by omega), HI⟩
      case rest =>
        obtain ⟨at_, th, hat, rfl, rfl, hbc, HE⟩ := hcut
        have HBC : Hid (Below w.heap.size w wc) := HB0.out.trans (hbc.mono HSZ.out)
        have HOC : Hid (OwnR wc w.heap.size 62 2 (.slice ao m c) m (acells P)) := HOW.out.other (fun g' _ hlt => hbc.block g' hlt)
        clear hbc
        cases th with
        | true =>
          go_wp2_with fail
          go_roundw
          case rel =>
            refine ⟨i + 1, P, by omega, by have := HM.out; omega, by go_num, ⟨HP.out.1, fun x => ?_⟩, by rw [← HM.out]; exact HOC.out, HBC.out⟩
            obtain ⟨j, hj, h1, h2⟩ := HE.2.2.1 rfl
            rw [mem_take_succ L i (by rw [HN.out]; exact hlt), ← HP.out.2]
            constructor
            · exact Or.inl
            · rintro (h | h)
              · exact h
              · rw [h, ← HX.out, ← h2]; exact List.getElem_mem hj
          case measure => simp [intOf]; omega
        | false =>
          have hsz := HBC.out.size
          go_wp2_with (at_builtin; go_must (refine wpList_own _ rfl (.tmp 47) (.tmp 49) 52 rfl 62 i0 _ 2 16 Try.underlying52 hi hz0 hz1 hz2 rfl (by decide) w.heap.size (.slice ao m c) m (acells P) rfl (by exact HOC.out.other (fun g _ hlt => Below.heap_alloc _ _ _ hlt)) ⟨wc.heap.size, 0, none⟩ 1 [.int .i64 0, .int .i64 0] rfl rfl (by exact abox_cells _ _ _ _ _ rfl) (an_oneCell _ _) (by unfold maxLen; omega) (by omega) (by simp; omega) ?_; intro g' o' cap' w3 hown3 hf3))
          have HS3 : Hid (w.heap.size ≤ g') := by
            rcases hf3.new with h | h
            · exact (HOC.out.lt h).1
            · have : wc.heap.size + 1 ≤ g' := by simpa using h
              show _ ≤ _
              omega
          have HB3 : Hid (Below w.heap.size w w3) := by
            refine ⟨hf3.os.trans HBC.out.os, hf3.tape.trans HBC.out.tape, hf3.output.trans HBC.out.output, ?_, fun q hq => ?_⟩
            · have := hf3.size
              have e : (wc.alloc (Obj.cells #[Value.int IntKind.i64 0, Value.int IntKind.i64 0] 62)).heap.size = wc.heap.size + 1 := by simp
              omega
            · rw [hf3.other q (by simp; omega) (fun he => by have := (HOC.out.lt he).1; omega), Below.heap_alloc _ _ _ (by omega)]
              exact HBC.out.block q hq
          have HO3 : Hid (OwnR w3 w.heap.size 62 2 (.slice (some ⟨g', o', none⟩) (m + 1) cap') (m + 1) (acells (insK P m (0, 0)))) := by
            have e : insK P m (0, 0) = P ++ [(0, 0)] := by rw [HM.out]; exact insK_end P _
            rw [e, acells_append]
            exact hown3
          clear hf3 hown3 hsz
          go_loopw [8] (fun kv wx => ∃ (k : Nat) (y : Int × Int), at_ ≤ k ∧ k ≤ m ∧ kv = .int .i64 k ∧ OwnR wx w.heap.size 62 2 (.slice (some ⟨g', o', none⟩) (m + 1) cap') (m + 1) (acells (insK P k y)) ∧ Below w.heap.size w wx) (fun kv _ => (intOf kv).toNat)
          case atStart => exact ⟨m, (0, 0), hat, Nat.le_refl _, by first | rfl | go_num, HO3.out, HB3.out⟩
          case round =>
            obtain ⟨k, y, hk1, hk2, rfl, hok, hbk⟩ := hrel
            obtain ⟨cur, hgc, hgs⟩ : ∃ cur, wr.heap[g']? = some (.cells cur 62 (0, 0)) ∧ o' + (m + 1) * 2 ≤ cur.size := by
              rcases hok.2 with ⟨h, _⟩ | ⟨g2, o2, cap2, cur, h, _, h2, h3, _, h5, _⟩
              · simp at h
              · simp only [Value.slice.injEq, Option.some.injEq, Addr.mk.injEq, and_true, true_and] at h
                obtain ⟨⟨rfl, rfl⟩, rfl⟩ := h
                exact ⟨cur, h2, Nat.le_trans (Nat.add_le_add_left (Nat.mul_le_mul_right 2 h3) _) h5⟩
            obtain ⟨q0, hq0⟩ : ∃ y, wr.cell? ⟨g', o' + k * 2, none⟩ = some y := ⟨_, cell_at hgc (Array.getElem?_eq_getElem (by omega))⟩
            obtain ⟨q1, hq1⟩ : ∃ y, wr.cell? ⟨g', o' + k * 2 + 1, none⟩ = some y := ⟨_, cell_at hgc (Array.getElem?_eq_getElem (by omega))⟩
            have f0 : wr.frozen? ⟨g', o' + k * 2, none⟩ = false := frozen_of_row _ _ _ _ _ hgc
            have f1 : wr.frozen? ⟨g', o' + k * 2 + 1, none⟩ = false := frozen_of_row _ _ _ _ _ hgc
            have hkI : (k : Int) < ((m + 1 : Nat) : Int) := by omega
            by_cases hka : at_ < k
            · obtain ⟨p, rfl⟩ : ∃ p, k = p + 1 := ⟨k - 1, by omega⟩
              have hpP : p < P.length := by have := HM.out; omega
              have hc := hok.ans p (by rw [insK_length]; omega)
              rw [insK_get P (p + 1) p y (by omega) (by omega)] at hc
              obtain ⟨z, hz⟩ : ∃ z, z = P[p] := ⟨_, rfl⟩
              rw [← hz] at hc
              obtain ⟨c1, c2⟩ := hc
              have HSET : Hid (OwnR ((wr.setCell ⟨g', o' + (p + 1) * 2, none⟩ (.int .i64 z.1)).setCell ⟨g', o' + (p + 1) * 2 + 1, none⟩ (.int .i64 z.2)) w.heap.size 62 2 (.slice (some ⟨g', o', none⟩) (m + 1) cap') (m + 1) (acells (insK P p z))) := by
                have := hok.setA (by rw [insK_length]; have := HM.out; omega) (p + 1) (by omega) z
                rw [insK_set P (p + 1) y z (by omega), insK_step P p (by omega) z hz] at this
                exact this
              have hpI : (p : Int) < ((m + 1 : Nat) : Int) := by omega
              have hatI : (at_ : Int) < ((p + 1 : Nat) : Int) := by omega
              have hp4 : p ≤ 400 := by omega
              have hpJ : ((p + 1 : Nat) : Int) - 1 = p := by omega
              have HBK : Hid (Below w.heap.size w wr) := hbk
              clear hok hgc hgs hz hbk
              go_wp2_with fail
              go_roundw
              case rel =>
                refine ⟨p, z, by omega, by omega, by go_num, HSET.out, (HBK.out.setCell (p := ⟨g', _, none⟩) HS3.out _).setCell (p := ⟨g', _, none⟩) HS3.out _⟩
              case measure => simp [intOf]
            · have hka2 : k = at_ := by omega
              subst hka2
              have e1 : wr.cell? ⟨g, o + i * 2, none⟩ = some (.int .i64 xr) := by rw [hbk.cell hg]; rw [HB0.out.cell hg] at hx1; exact hx1
              have e2 : wr.cell? ⟨g, o + i * 2 + 1, none⟩ = some (.int .i64 xp) := by rw [hbk.cell hg]; rw [HB0.out.cell hg] at hx2; exact hx2
              have HSET : Hid (OwnR ((wr.setCell ⟨g', o' + k * 2, none⟩ (.int .i64 xr)).setCell ⟨g', o' + k * 2 + 1, none⟩ (.int .i64 xp)) w.heap.size 62 2 (.slice (some ⟨g', o', none⟩) (m + 1) cap') (m + 1) (acells (insK P k (xr, xp)))) := by
                have := hok.setA (by rw [insK_length]; have := HM.out; omega) k (by omega) (xr, xp)
                rw [insK_set P k y (xr, xp) (by have := HM.out; omega)] at this
                exact this
              have HBK : Hid (Below w.heap.size w wr) := hbk
              clear hok hgc hgs hbk hx1 hx2
              go_wp2_with fail
              go_roundw
              case rel =>
                refine ⟨i + 1, insK P k (xr, xp), by omega, by rw [insK_length]; have := HM.out; omega, by go_num, ⟨?_, fun x => ?_⟩, ?_, (HBK.out.setCell (p := ⟨g', _, none⟩) HS3.out _).setCell (p := ⟨g', _, none⟩) HS3.out _⟩
                · refine srt_insK P HP.out.1 k (xr, xp) (by have := HM.out; omega) (fun h => HE.1 h (by have := HM.out; omega)) HE.2.1 (fun j hj hkj he => ?_)
                  have := HE.2.2.2 ⟨j, hj, hkj, he⟩
                  simp at this
                · rw [mem_insK, mem_take_succ L i (by rw [HN.out]; exact hlt), ← HP.out.2, HX.out]
                · rw [insK_length, ← HM.out]
                  exact HSET.out
              case measure => simp [intOf]; omega
    · go_wp2
      go_ret
      have he : i = n := by omega
      have := HP.out
      have hc : P = canon L := canon_unique L P this.1 (fun x => by rw [this.2, he, List.take_of_length_le (by rw [HN.out]; exact Nat.le_refl _)])
      rw [← hc]
      exact ⟨_, rfl, hbel, hown⟩
end Go.Proofs.Ytilcmkiihefkkaa
