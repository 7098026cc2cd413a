import Derived.Laws.ResultCell
import Derived.Test.YtilcmkiihefkkabGreatDoorJk31
import Derived.Test.YtilcmkiihefkkabGreatDoorJk35
import Derived.Test.YtilcmkiihefkkabGreatDoorJk41
section
set_option linter.unusedVariables false
set_option linter.unusedSimpArgs false
set_option maxRecDepth 100000
namespace Go.Proofs.YtilcmkiihefkkabGreatDoor.Mn
open Go.RowKit Go.Shelf Go.Lib
/-- what is told of a read -/
structure FD where
  rd : ByteArray
  fr : Int
  tl : Int
  bk : Bool
  sn : ByteArray
  st : Int
  en : Int
  sq : Int
  oq : Int
  ql : Int
  sc : List UInt8
  sm : Nat
  id : Nat
def FD.cells (f : FD) : List Value := [.string f.rd, .int .i64 f.fr, .int .i64 f.tl, .bool f.bk, .string f.sn, .int .i64 f.st, .int .i64 f.en, .float .f64 (fq f.sq), .float .f64 (fq f.oq), .int .i64 f.ql, .string ⟨f.sc.toArray⟩, .int .i64 f.sm, .float .f64 f.id]
/-- a share -/
def shr (n m : Nat) : Nat := (floatBits .quo .f64 (fq (4 * n)) (fq (4 * m))).getD 0
theorem shr_facts (n m : Nat) (h : n ≤ m) (h0 : 0 < m) (h2 : m ≤ 100000) : floatBits .quo .f64 (fq (4 * (n : Int))) (fq (4 * (m : Int))) = some (shr n m) ∧ Ieee.double.order (shr n m) (shr n m) = some .eq := by
  have p53 : (1048576 : Nat) ≤ 2 ^ 53 := by decide
  obtain ⟨A, hA, hA2⟩ := quot_le (4 * n) (4 * m) (by omega) (by omega) (by omega)
  have hA' : floatBits .quo .f64 (fq (4 * (n : Int))) (fq (4 * (m : Int))) = some A := by
    have := hA
    push_cast at this
    exact this
  have e : shr n m = A := by unfold shr; rw [hA']; rfl
  rw [e]
  refine ⟨hA', ?_⟩
  obtain ⟨m', e', hr, _, _⟩ := read_le A (2 ^ 52) (-52) (Nat.le_refl _) (by decide) (by omega) (by omega) hA2
  show (Ieee.double.read A).order (Ieee.double.read A) = _
  rw [hr]
  unfold Ieee.Datum.order
  simp [compare, compareOfLessAndEq]
theorem cntB_le (s : Nat → Nat → Bool) : ∀ (t : List Nat) (i j : Nat), cntB s t i j ≤ t.length
  | [], _, _ => Nat.le_refl _
  | l :: t, i, j => by
    unfold cntB
    have := cntB_le s t (if l = 2 then i else i - 1) (if l = 1 then j else j - 1)
    simp only [List.length_cons]
    split <;> omega
/-- the runs have as many letters as the script -/
theorem sumR_app (ps : List (Nat × Nat)) (p : Nat × Nat) : ∀ j, j ≤ ps.length → sumR (ps ++ [p]) j = sumR ps j
  | 0, _ => rfl
  | j + 1, h => by
    show sumR (ps ++ [p]) j + ((ps ++ [p]).getD j (0, 0)).1 = sumR ps j + (ps.getD j (0, 0)).1
    rw [sumR_app ps p j (by omega)]
    congr 2
    simp [List.getD_eq_getElem?_getD, List.getElem?_append_left (show j < ps.length by omega)]
theorem sumR_snoc (ps : List (Nat × Nat)) (p : Nat × Nat) : sumR (ps ++ [p]) (ps ++ [p]).length = sumR ps ps.length + p.1 := by
  rw [List.length_append]
  show sumR (ps ++ [p]) ps.length + ((ps ++ [p]).getD ps.length (0, 0)).1 = _
  rw [sumR_app ps p ps.length (Nat.le_refl _)]
  simp [List.getD_eq_getElem?_getD]
theorem rl_sum (L : List Nat) : ∀ k, sumR (rl L k).2 (rl L k).2.length = (rl L k).1
  | 0 => rfl
  | k + 1 => by
    have ih := rl_sum L k
    have hf := (rl_from L k).1
    unfold rl
    split
    · show sumR ((rl L k).2 ++ [(k + 1 - (rl L k).1, L.getD k 9)]) ((rl L k).2 ++ [(k + 1 - (rl L k).1, L.getD k 9)]).length = k + 1
      rw [sumR_snoc, ih]
      show (rl L k).1 + (k + 1 - (rl L k).1) = k + 1
      omega
    · exact ih
/-- how long the script is, letter by letter -/
def scLn (a b : List UInt8) : Nat := (pth (_root_.Go.Proofs.YtilcmkiihefkkabGreatDoor.nums a) (_root_.Go.Proofs.YtilcmkiihefkkabGreatDoor.nums b)).length
/-- its runs -/
def scRs (a b : List UInt8) : List (Nat × Nat) := (rl (pth (_root_.Go.Proofs.YtilcmkiihefkkabGreatDoor.nums a) (_root_.Go.Proofs.YtilcmkiihefkkabGreatDoor.nums b)).reverse (pth (_root_.Go.Proofs.YtilcmkiihefkkabGreatDoor.nums a) (_root_.Go.Proofs.YtilcmkiihefkkabGreatDoor.nums b)).length).2
theorem scRs_sum (a b : List UInt8) : sumR (scRs a b) (scRs a b).length = scLn a b := by
  unfold scRs scLn
  rw [rl_sum]
  have := rl_whole (pth (_root_.Go.Proofs.YtilcmkiihefkkabGreatDoor.nums a) (_root_.Go.Proofs.YtilcmkiihefkkabGreatDoor.nums b)).reverse
  rw [List.length_reverse] at this
  exact this
theorem ends_len : ∀ (t : List Nat) (i j : Nat), ends t i j → i ≤ t.length
  | [], i, j, h => by unfold ends at h; omega
  | l :: t, i, j, h => by
    unfold ends at h
    have := ends_len t _ _ h.2.2.2
    simp only [List.length_cons]
    split at this <;> omega
theorem scLn_ok (a b : List UInt8) (h : scE a b = 0) : scLn a b ≤ 900 ∧ a.length ≤ scLn a b ∧ scN a b ≤ scLn a b ∧ a.length ≤ 300 ∧ b.length ≤ 600 := by
  have hab : a.length ≤ 300 ∧ b.length ≤ 600 := by
    unfold scE at h
    split at h
    · cases h
    · omega
  have h1 : scLn a b ≤ a.length + b.length := by
    have := path_len 1048576 (uN (_root_.Go.Proofs.YtilcmkiihefkkabGreatDoor.nums a) (_root_.Go.Proofs.YtilcmkiihefkkabGreatDoor.nums b)) ((_root_.Go.Proofs.YtilcmkiihefkkabGreatDoor.nums a).length + (_root_.Go.Proofs.YtilcmkiihefkkabGreatDoor.nums b).length) (_root_.Go.Proofs.YtilcmkiihefkkabGreatDoor.nums a).length (_root_.Go.Proofs.YtilcmkiihefkkabGreatDoor.nums b).length 0
    unfold scLn pth
    rw [_root_.Go.Proofs.YtilcmkiihefkkabGreatDoor.nums_length, _root_.Go.Proofs.YtilcmkiihefkkabGreatDoor.nums_length] at this ⊢
    exact this
  refine ⟨by omega, ?_, ?_, hab⟩
  · have he := path_ends 1048576 (by omega) (uN (_root_.Go.Proofs.YtilcmkiihefkkabGreatDoor.nums a) (_root_.Go.Proofs.YtilcmkiihefkkabGreatDoor.nums b)) (uN_bd _ _) ((_root_.Go.Proofs.YtilcmkiihefkkabGreatDoor.nums a).length + (_root_.Go.Proofs.YtilcmkiihefkkabGreatDoor.nums b).length) (_root_.Go.Proofs.YtilcmkiihefkkabGreatDoor.nums a).length (_root_.Go.Proofs.YtilcmkiihefkkabGreatDoor.nums b).length 0 (by rw [_root_.Go.Proofs.YtilcmkiihefkkabGreatDoor.nums_length]; omega) (by rw [_root_.Go.Proofs.YtilcmkiihefkkabGreatDoor.nums_length]; omega) (Nat.le_refl _)
    have h5 := ends_len _ _ _ he
    have h6 : (_root_.Go.Proofs.YtilcmkiihefkkabGreatDoor.nums a).length ≤ scLn a b := h5
    rwa [_root_.Go.Proofs.YtilcmkiihefkkabGreatDoor.nums_length] at h6
  · unfold scN
    rw [if_pos h]
    exact cntB_le _ _ _ _
theorem scRs_ok (a b : List UInt8) (h : scE a b = 0) : scT a b = rtxt (scRs a b) ∧ (∀ p ∈ scRs a b, p.1 ≤ 1000 ∧ p.2 ≤ 2) ∧ (scRs a b).length ≤ 1000 ∧ (rtxt (scRs a b)).length ≤ 100000 := by
  have hl := scLn_ok a b h
  have hlen : (pth (_root_.Go.Proofs.YtilcmkiihefkkabGreatDoor.nums a) (_root_.Go.Proofs.YtilcmkiihefkkabGreatDoor.nums b)).length = scLn a b := rfl
  have h2 : ∀ p ∈ scRs a b, p.1 ≤ 1000 ∧ p.2 ≤ 2 := by
    intro p hp
    have := rl_small (pth (_root_.Go.Proofs.YtilcmkiihefkkabGreatDoor.nums a) (_root_.Go.Proofs.YtilcmkiihefkkabGreatDoor.nums b)).reverse 900 (by rw [List.length_reverse]; omega) (fun x hx => path_le _ _ _ _ _ _ x (List.mem_reverse.1 hx)) (pth (_root_.Go.Proofs.YtilcmkiihefkkabGreatDoor.nums a) (_root_.Go.Proofs.YtilcmkiihefkkabGreatDoor.nums b)).length (by rw [List.length_reverse]; exact Nat.le_refl _) p hp
    omega
  have h3 : (scRs a b).length ≤ 900 := Nat.le_trans (rl_len _ _) (by omega)
  refine ⟨by unfold scT; rw [if_pos h]; rfl, h2, by omega, ?_⟩
  have key : ∀ ps : List (Nat × Nat), (∀ p ∈ ps, p.1 ≤ 1000) → (rtxt ps).length ≤ 5 * ps.length := by
    intro ps
    induction ps with
    | nil => intro _; simp [rtxt]
    | cons p t ih =>
      intro hp
      have h4 : (decDigits p.1).length ≤ 4 := dl4 ⟨p.1, by have := hp p (List.mem_cons_self); omega⟩
      have := ih (fun x hx => hp x (List.mem_cons_of_mem _ hx))
      have e : rtxt (p :: t) = decDigits p.1 ++ [ltr p.2] ++ rtxt t := by simp [rtxt]
      rw [e]
      simp only [List.length_append, List.length_cons, List.length_nil]
      omega
  have := key _ (fun p hp => (h2 p hp).1)
  omega
end Go.Proofs.YtilcmkiihefkkabGreatDoor.Mn
end
section
set_option linter.unusedVariables false
set_option linter.unusedSimpArgs false
set_option maxRecDepth 100000
namespace Go.Proofs.YtilcmkiihefkkabGreatDoor.Mn
open Go.RowKit Go.Shelf Go.Lib
attribute [local go_sem] run_store_flt
theorem tabOnM {w w1 : World} (h : Lib.TabBelow Tryz.prog w.heap.size w "internal/strconv.uint64pow10" .u64 Lib.pow10Tab) (hb : Below w.heap.size w w1) : Lib.TabBelow Tryz.prog w1.heap.size w1 "internal/strconv.uint64pow10" .u64 Lib.pow10Tab :=
  fun w' hw' => h w' (hb.trans (hw'.mono hb.size))
theorem results_ct {P : Program} {fn : Func} {p u : Tmp} {ty : TypeId} (h : fn.results = #[.cell p ty, .tmp u]) (tmps : Array Value) (w : World) (g : Nat) (t : TypeId) (cs : Array Value) (fr : Nat × Nat) (d : TypeDesc)
    (hp : tmps.getD p undef = .pointer (some ⟨g, 0, none⟩)) (hg : w.heap[g]? = some (.cells cs t fr))
    (hu : P.underlying ty = some d) (hd : (match d with | .struct _ | .array _ _ => true | _ => false) = true) (hi : (P.info? ty).map (·.size) = some cs.size) :
    (results fn tmps).run P w = .ok (.tuple #[.agg cs, tmps.getD u undef]) w := by
  rw [results_cell_tmp h, hp]
  simp [asAddr, Result.andThen, run_loadVar_row w g t ty cs fr d hg hu hd hi]
def zFound : Value := .agg #[.string ⟨#[]⟩, .int .i64 0, .int .i64 0, .bool false, .string ⟨#[]⟩, .int .i64 0, .int .i64 0, .float .f64 0, .float .f64 0, .int .i64 0, .string ⟨#[]⟩, .int .i64 0, .float .f64 0]
def bsOf (b : Bool) (s : ByteArray) : ByteArray := if b = true then ⟨(turnL s.data.toList).toArray⟩ else s
theorem bsOf_size (b : Bool) (s : ByteArray) : (bsOf b s).size = s.size := by
  unfold bsOf
  split
  · show (turnL s.data.toList).toArray.size = _
    simp [turnL_length]
  · rfl
/-- what found answers -/
def fdOf (k : Nat) (rn rb fn fb : ByteArray) (back : Bool) (r0 p0 r1 p1 : Nat) (sq oq : Int) : FD :=
  let a := ((bsOf back rb).extract r0 (r1 + k)).data.toList
  let b := (fb.extract p0 (p1 + k)).data.toList
  { rd := rn, fr := if back = true then (rb.size : Int) - (r1 + k) else r0, tl := if back = true then (rb.size : Int) - r0 else r1 + k, bk := back, sn := fn, st := p0, en := p1 + k, sq := sq, oq := oq, ql := qual sq oq, sc := scT a b, sm := scN a b, id := shr (scN a b) (scLn a b) }
def fnE (k : Nat) (rb fb : ByteArray) (back : Bool) (r0 p0 r1 p1 : Nat) : Nat := scE ((bsOf back rb).extract r0 (r1 + k)).data.toList (fb.extract p0 (p1 + k)).data.toList
def FnP (k : Nat) (rn rb fn fb : ByteArray) (back : Bool) (r0 p0 r1 p1 : Nat) (sq oq : Int) (w : World) (e : Ending) (w' : World) : Prop :=
  e = .returned (.tuple (if fnE k rb fb back r0 p0 r1 p1 = 0 then #[.agg (fdOf k rn rb fn fb back r0 p0 r1 p1 sq oq).cells.toArray, .bool true] else #[zFound, .bool false])) ∧ Below w.heap.size w w'
theorem fd_f (k : Nat) (rn rb fn fb : ByteArray) (r0 p0 r1 p1 : Nat) (sq oq : Int) (la lb : List UInt8) (hla : la = ((bsOf false rb).extract r0 (r1 + k)).data.toList) (hlb : lb = (fb.extract p0 (p1 + k)).data.toList) :
    (fdOf k rn rb fn fb false r0 p0 r1 p1 sq oq).cells = [.string rn, .int .i64 (r0), .int .i64 ((r1 : Int) + k), .bool false, .string fn, .int .i64 p0, .int .i64 ((p1 : Int) + k), .float .f64 (fq sq), .float .f64 (fq oq), .int .i64 (qual sq oq), .string ⟨(scT la lb).toArray⟩, .int .i64 (scN la lb), .float .f64 (shr (scN la lb) (scLn la lb))] := by
  subst hla
  subst hlb
  rfl
theorem fd_t (k : Nat) (rn rb fn fb : ByteArray) (r0 p0 r1 p1 : Nat) (sq oq : Int) (la lb : List UInt8) (hla : la = ((bsOf true rb).extract r0 (r1 + k)).data.toList) (hlb : lb = (fb.extract p0 (p1 + k)).data.toList) :
    (fdOf k rn rb fn fb true r0 p0 r1 p1 sq oq).cells = [.string rn, .int .i64 ((rb.size : Int) - ((r1 : Int) + k)), .int .i64 ((rb.size : Int) - (r0 : Int)), .bool true, .string fn, .int .i64 p0, .int .i64 ((p1 : Int) + k), .float .f64 (fq sq), .float .f64 (fq oq), .int .i64 (qual sq oq), .string ⟨(scT la lb).toArray⟩, .int .i64 (scN la lb), .float .f64 (shr (scN la lb) (scLn la lb))] := by
  subst hla
  subst hlb
  rfl
theorem set13 (a0 a1 a2 a3 a4 a5 a6 a7 a8 a9 a10 a11 a12 x0 x1 x2 x3 x4 x5 x6 x7 x8 x9 x10 x11 x12 : Value) : ((((((((((((((#[a0, a1, a2, a3, a4, a5, a6, a7, a8, a9, a10, a11, a12].setIfInBounds 0 x0).setIfInBounds 1 x1).setIfInBounds 2 x2).setIfInBounds 3 x3).setIfInBounds 4 x4).setIfInBounds 5 x5).setIfInBounds 6 x6).setIfInBounds 7 x7).setIfInBounds 8 x8).setIfInBounds 9 x9).setIfInBounds 10 x10).setIfInBounds 11 x11).setIfInBounds 12 x12)) = #[x0, x1, x2, x3, x4, x5, x6, x7, x8, x9, x10, x11, x12] := by simp only [List.setIfInBounds_toArray, List.set_cons_zero, List.set_cons_succ]
theorem upd13 {w : World} {g : Nat} {t : TypeId} {a0 a1 a2 a3 a4 a5 a6 a7 a8 a9 a10 a11 a12 : Value} (x0 x1 x2 x3 x4 x5 x6 x7 x8 x9 x10 x11 x12 : Value) (h : w.heap[g]? = some (.cells #[a0, a1, a2, a3, a4, a5, a6, a7, a8, a9, a10, a11, a12] t (0, 0))) : Upd w (((((((((((((w.setCell ⟨g, 0, none⟩ x0).setCell ⟨g, 1, none⟩ x1).setCell ⟨g, 2, none⟩ x2).setCell ⟨g, 3, none⟩ x3).setCell ⟨g, 4, none⟩ x4).setCell ⟨g, 5, none⟩ x5).setCell ⟨g, 6, none⟩ x6).setCell ⟨g, 7, none⟩ x7).setCell ⟨g, 8, none⟩ x8).setCell ⟨g, 9, none⟩ x9).setCell ⟨g, 10, none⟩ x10).setCell ⟨g, 11, none⟩ x11).setCell ⟨g, 12, none⟩ x12) g (.cells #[x0, x1, x2, x3, x4, x5, x6, x7, x8, x9, x10, x11, x12] t (0, 0)) := by
  have U0 := Upd.of_setCell (i := 0) x0 h
  have U1 := U0.setCell (i := 1) x1
  have U2 := U1.setCell (i := 2) x2
  have U3 := U2.setCell (i := 3) x3
  have U4 := U3.setCell (i := 4) x4
  have U5 := U4.setCell (i := 5) x5
  have U6 := U5.setCell (i := 6) x6
  have U7 := U6.setCell (i := 7) x7
  have U8 := U7.setCell (i := 8) x8
  have U9 := U8.setCell (i := 9) x9
  have U10 := U9.setCell (i := 10) x10
  have U11 := U10.setCell (i := 11) x11
  have U12 := U11.setCell (i := 12) x12
  rw [set13] at U12
  exact U12
end Go.Proofs.YtilcmkiihefkkabGreatDoor.Mn
end
section
set_option linter.unusedVariables false
set_option linter.unusedSimpArgs false
set_option maxRecDepth 100000
namespace Go.Proofs.YtilcmkiihefkkabGreatDoor.Mn
open Go.RowKit Go.Shelf Go.Lib
/-- the candidates of a read -/
def IsC (G : Int × Bool → List (Int × Int)) (k : Int) (C : List Cd) : Prop := C.Pairwise (ltC (fun q => ansQ (G q) k)) ∧ ∀ a, a ∈ C ↔ G (sd a) ≠ []
def othQ (G : Int × Bool → List (Int × Int)) (k : Int) : List Cd → Int
  | _ :: b :: _ => ansQ (G (sd b)) k
  | _ => 0
/-- what is told by candidates -/
def findC (R : List S2) (k sc : Nat) (rn rb : ByteArray) (G : Int × Bool → List (Int × Int)) (C : List Cd) : Option FD :=
  match C with
  | [] => none
  | a :: t =>
    if FloatKind.f64.format.order (fq (ansQ (G (sd a)) k)) sc = some .lt then none
    else if fnE k rb (R.getD a.1.val S0).b a.2 (c0 (chL k (G (sd a)))).1.toNat (c0 (chL k (G (sd a)))).2.toNat (c1 (chL k (G (sd a)))).1.toNat (c1 (chL k (G (sd a)))).2.toNat = 0 then
      some (fdOf k rn rb (R.getD a.1.val S0).n (R.getD a.1.val S0).b a.2 (c0 (chL k (G (sd a)))).1.toNat (c0 (chL k (G (sd a)))).2.toNat (c1 (chL k (G (sd a)))).1.toNat (c1 (chL k (G (sd a)))).2.toNat (ansQ (G (sd a)) k) (othQ G k (a :: t)))
    else none
def FindR (R : List S2) (k W sc : Nat) (rn rb : ByteArray) (res : Option FD) : Prop :=
  (300 < rb.size ∧ res = none) ∨ (rb.size ≤ 300 ∧ 400 < (gat k W R rb).1 ∧ res = none) ∨ (rb.size ≤ 300 ∧ (gat k W R rb).1 ≤ 400 ∧ ∃ C, IsC (gat k W R rb).2 k C ∧ res = findC R k sc rn rb (gat k W R rb).2 C)
def resV : Option FD → Array Value
  | some f => #[.agg f.cells.toArray, .bool true]
  | none => #[zFound, .bool false]
def FiP (R : List S2) (k W sc : Nat) (rn rb : ByteArray) (w : World) (e : Ending) (w' : World) : Prop :=
  ∃ res, FindR R k W sc rn rb res ∧ e = .returned (.tuple (resV res)) ∧ Below w.heap.size w w'
end Go.Proofs.YtilcmkiihefkkabGreatDoor.Mn
end
