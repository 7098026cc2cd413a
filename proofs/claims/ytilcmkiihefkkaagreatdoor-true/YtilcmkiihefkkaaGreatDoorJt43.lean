import Derived.Laws.ResultCell
import Derived.Test.YtilcmkiihefkkaaGreatDoorJt31
import Derived.Test.YtilcmkiihefkkaaGreatDoorJt36
import Derived.Test.YtilcmkiihefkkaaGreatDoorJt42
section
set_option linter.unusedVariables false
set_option linter.unusedSimpArgs false
set_option maxRecDepth 100000
namespace Go.Proofs.YtilcmkiihefkkaaGreatDoor.Mn
open Go.RowKit Go.Shelf Go.Lib
/-- what is told of a read -/
structure FD where
  rd : ByteArray
  fr : Int
  tl : Int
  bk : Bool
  sn : ByteArray
  st : Int
  en : Int
  sq : Int
  oq : Int
  ql : Int
  sc : List UInt8
  sm : Nat
  id : Nat
def FD.cells (f : FD) : List Value := [.string f.rd, .int .i64 f.fr, .int .i64 f.tl, .bool f.bk, .string f.sn, .int .i64 f.st, .int .i64 f.en, .float .f64 (fq f.sq), .float .f64 (fq f.oq), .int .i64 f.ql, .string ⟨f.sc.toArray⟩, .int .i64 f.sm, .float .f64 f.id]
/-- a share -/
def shr (n m : Nat) : Nat := (floatBits .quo .f64 (fq (4 * n)) (fq (4 * m))).getD 0
theorem shr_facts (n m : Nat) (h : n ≤ m) (h0 : 0 < m) (h2 : m ≤ 100000) : floatBits .quo .f64 (fq (4 * (n : Int))) (fq (4 * (m : Int))) = some (shr n m) ∧ Ieee.double.order (shr n m) (shr n m) = some .eq := by
  have p53 : (1048576 : Nat) ≤ 2 ^ 53 := by decide
  obtain ⟨A, hA, hA2⟩ := quot_le (4 * n) (4 * m) (by omega) (by omega) (by omega)
  have hA' : floatBits .quo .f64 (fq (4 * (n : Int))) (fq (4 * (m : Int))) = some A := by
    have := hA
    push_cast at this
    exact this
  have e : shr n m = A := by unfold shr; rw [hA']; rfl
  rw [e]
  refine ⟨hA', ?_⟩
  obtain ⟨m', e', hr, _, _⟩ := read_le A (2 ^ 52) (-52) (Nat.le_refl _) (by decide) (by omega) (by omega) hA2
  show (Ieee.double.read A).order (Ieee.double.read A) = _
  rw [hr]
  unfold Ieee.Datum.order
  simp [compare, compareOfLessAndEq]
theorem cntB_le (s : Nat → Nat → Bool) : ∀ (t : List Nat) (i j : Nat), cntB s t i j ≤ t.length
  | [], _, _ => Nat.le_refl _
  | l :: t, i, j => by
    unfold cntB
    have := cntB_le s t (if l = 2 then i else i - 1) (if l = 1 then j else j - 1)
    simp only [List.length_cons]
    split <;> omega
/-- the runs have as many letters as the script -/
theorem sumR_app (ps : List (Nat × Nat)) (p : Nat × Nat) : ∀ j, j ≤ ps.length → sumR (ps ++ [p]) j = sumR ps j
  | 0, _ => rfl
  | j + 1, h => by
    show sumR (ps ++ [p]) j + ((ps ++ [p]).getD j (0, 0)).1 = sumR ps j + (ps.getD j (0, 0)).1
    rw [sumR_app ps p j (by omega)]
    congr 2
    simp [List.getD_eq_getElem?_getD, List.getElem?_append_left (show j < ps.length by omega)]
theorem sumR_snoc (ps : List (Nat × Nat)) (p : Nat × Nat) : sumR (ps ++ [p]) (ps ++ [p]).length = sumR ps ps.length + p.1 := by
  rw [List.length_append]
  show sumR (ps ++ [p]) ps.length + ((ps ++ [p]).getD ps.length (0, 0)).1 = _
  rw [sumR_app ps p ps.length (Nat.le_refl _)]
  simp [List.getD_eq_getElem?_getD]
theorem rl_sum (L : List Nat) : ∀ k, sumR (rl L k).2 (rl L k).2.length = (rl L k).1
  | 0 => rfl
  | k + 1 => by
    have ih := rl_sum L k
    have hf := (rl_from L k).1
    unfold rl
    split
    · show sumR ((rl L k).2 ++ [(k + 1 - (rl L k).1, L.getD k 9)]) ((rl L k).2 ++ [(k + 1 - (rl L k).1, L.getD k 9)]).length = k + 1
      rw [sumR_snoc, ih]
      show (rl L k).1 + (k + 1 - (rl L k).1) = k + 1
      omega
    · exact ih
/-- how long the script is, letter by letter -/
def scLn (a b : List UInt8) : Nat := (pth (_root_.Go.Proofs.YtilcmkiihefkkaaGreatDoor.nums a) (_root_.Go.Proofs.YtilcmkiihefkkaaGreatDoor.nums b)).length
/-- its runs -/
def scRs (a b : List UInt8) : List (Nat × Nat) := (rl (pth (_root_.Go.Proofs.YtilcmkiihefkkaaGreatDoor.nums a) (_root_.Go.Proofs.YtilcmkiihefkkaaGreatDoor.nums b)).reverse (pth (_root_.Go.Proofs.YtilcmkiihefkkaaGreatDoor.nums a) (_root_.Go.Proofs.YtilcmkiihefkkaaGreatDoor.nums b)).length).2
theorem scRs_sum (a b : List UInt8) : sumR (scRs a b) (scRs a b).length = scLn a b := by
  unfold scRs scLn
  rw [rl_sum]
  have := rl_whole (pth (_root_.Go.Proofs.YtilcmkiihefkkaaGreatDoor.nums a) (_root_.Go.Proofs.YtilcmkiihefkkaaGreatDoor.nums b)).reverse
  rw [List.length_reverse] at this
  exact this
theorem ends_len : ∀ (t : List Nat) (i j : Nat), ends t i j → i ≤ t.length
  | [], i, j, h => by unfold ends at h; omega
  | l :: t, i, j, h => by
    unfold ends at h
    have := ends_len t _ _ h.2.2.2
    simp only [List.length_cons]
    split at this <;> omega
theorem scLn_ok (a b : List UInt8) (h : scE a b = 0) : scLn a b ≤ 900 ∧ a.length ≤ scLn a b ∧ scN a b ≤ scLn a b ∧ a.length ≤ 300 ∧ b.length ≤ 600 := by
  have hab : a.length ≤ 300 ∧ b.length ≤ 600 := by
    unfold scE at h
    split at h
    · cases h
    · omega
  have h1 : scLn a b ≤ a.length + b.length := by
    have := path_len 1048576 (uN (_root_.Go.Proofs.YtilcmkiihefkkaaGreatDoor.nums a) (_root_.Go.Proofs.YtilcmkiihefkkaaGreatDoor.nums b)) ((_root_.Go.Proofs.YtilcmkiihefkkaaGreatDoor.nums a).length + (_root_.Go.Proofs.YtilcmkiihefkkaaGreatDoor.nums b).length) (_root_.Go.Proofs.YtilcmkiihefkkaaGreatDoor.nums a).length (_root_.Go.Proofs.YtilcmkiihefkkaaGreatDoor.nums b).length 0
    unfold scLn pth
    rw [_root_.Go.Proofs.YtilcmkiihefkkaaGreatDoor.nums_length, _root_.Go.Proofs.YtilcmkiihefkkaaGreatDoor.nums_length] at this ⊢
    exact this
  refine ⟨by omega, ?_, ?_, hab⟩
  · have he := path_ends 1048576 (by omega) (uN (_root_.Go.Proofs.YtilcmkiihefkkaaGreatDoor.nums a) (_root_.Go.Proofs.YtilcmkiihefkkaaGreatDoor.nums b)) (uN_bd _ _) ((_root_.Go.Proofs.YtilcmkiihefkkaaGreatDoor.nums a).length + (_root_.Go.Proofs.YtilcmkiihefkkaaGreatDoor.nums b).length) (_root_.Go.Proofs.YtilcmkiihefkkaaGreatDoor.nums a).length (_root_.Go.Proofs.YtilcmkiihefkkaaGreatDoor.nums b).length 0 (by rw [_root_.Go.Proofs.YtilcmkiihefkkaaGreatDoor.nums_length]; omega) (by rw [_root_.Go.Proofs.YtilcmkiihefkkaaGreatDoor.nums_length]; omega) (Nat.le_refl _)
    have h5 := ends_len _ _ _ he
    have h6 : (_root_.Go.Proofs.YtilcmkiihefkkaaGreatDoor.nums a).length ≤ scLn a b := h5
    rwa [_root_.Go.Proofs.YtilcmkiihefkkaaGreatDoor.nums_length] at h6
  · unfold scN
    rw [if_pos h]
    exact cntB_le _ _ _ _
theorem scRs_ok (a b : List UInt8) (h : scE a b = 0) : scT a b = rtxt (scRs a b) ∧ (∀ p ∈ scRs a b, p.1 ≤ 1000 ∧ p.2 ≤ 2) ∧ (scRs a b).length ≤ 1000 ∧ (rtxt (scRs a b)).length ≤ 100000 := by
  have hl := scLn_ok a b h
  have hlen : (pth (_root_.Go.Proofs.YtilcmkiihefkkaaGreatDoor.nums a) (_root_.Go.Proofs.YtilcmkiihefkkaaGreatDoor.nums b)).length = scLn a b := rfl
  have h2 : ∀ p ∈ scRs a b, p.1 ≤ 1000 ∧ p.2 ≤ 2 := by
    intro p hp
    have := rl_small (pth (_root_.Go.Proofs.YtilcmkiihefkkaaGreatDoor.nums a) (_root_.Go.Proofs.YtilcmkiihefkkaaGreatDoor.nums b)).reverse 900 (by rw [List.length_reverse]; omega) (fun x hx => path_le _ _ _ _ _ _ x (List.mem_reverse.1 hx)) (pth (_root_.Go.Proofs.YtilcmkiihefkkaaGreatDoor.nums a) (_root_.Go.Proofs.YtilcmkiihefkkaaGreatDoor.nums b)).length (by rw [List.length_reverse]; exact Nat.le_refl _) p hp
    omega
  have h3 : (scRs a b).length ≤ 900 := Nat.le_trans (rl_len _ _) (by omega)
  refine ⟨by unfold scT; rw [if_pos h]; rfl, h2, by omega, ?_⟩
  have key : ∀ ps : List (Nat × Nat), (∀ p ∈ ps, p.1 ≤ 1000) → (rtxt ps).length ≤ 5 * ps.length := by
    intro ps
    induction ps with
    | nil => intro _; simp [rtxt]
    | cons p t ih =>
      intro hp
      have h4 : (decDigits p.1).length ≤ 4 := dl4 ⟨p.1, by have := hp p (List.mem_cons_self); omega⟩
      have := ih (fun x hx => hp x (List.mem_cons_of_mem _ hx))
      have e : rtxt (p :: t) = decDigits p.1 ++ [ltr p.2] ++ rtxt t := by simp [rtxt]
      rw [e]
      simp only [List.length_append, List.length_cons, List.length_nil]
      omega
  have := key _ (fun p hp => (h2 p hp).1)
  omega
end Go.Proofs.YtilcmkiihefkkaaGreatDoor.Mn
end
section
set_option linter.unusedVariables false
set_option linter.unusedSimpArgs false
set_option maxRecDepth 100000
namespace Go.Proofs.YtilcmkiihefkkaaGreatDoor.Mn
open Go.RowKit Go.Shelf Go.Lib
attribute [local go_sem] run_store_flt
theorem tabOnM {w w1 : World} (h : Lib.TabBelow Tryz.prog w.heap.size w "internal/strconv.uint64pow10" .u64 Lib.pow10Tab) (hb : Below w.heap.size w w1) : Lib.TabBelow Tryz.prog w1.heap.size w1 "internal/strconv.uint64pow10" .u64 Lib.pow10Tab :=
  fun w' hw' => h w' (hb.trans (hw'.mono hb.size))
theorem results_ct {P : Program} {fn : Func} {p u : Tmp} {ty : TypeId} (h : fn.results = #[.cell p ty, .tmp u]) (tmps : Array Value) (w : World) (g : Nat) (t : TypeId) (cs : Array Value) (fr : Nat × Nat) (d : TypeDesc)
    (hp : tmps.getD p undef = .pointer (some ⟨g, 0, none⟩)) (hg : w.heap[g]? = some (.cells cs t fr))
    (hu : P.underlying ty = some d) (hd : (match d with | .struct _ | .array _ _ => true | _ => false) = true) (hi : (P.info? ty).map (·.size) = some cs.size) :
    (results fn tmps).run P w = .ok (.tuple #[.agg cs, tmps.getD u undef]) w := by
  rw [results_cell_tmp h, hp]
  simp [asAddr, Result.andThen, run_loadVar_row w g t ty cs fr d hg hu hd hi]
def zFound : Value := .agg #[.string ⟨#[]⟩, .int .i64 0, .int .i64 0, .bool false, .string ⟨#[]⟩, .int .i64 0, .int .i64 0, .float .f64 0, .float .f64 0, .int .i64 0, .string ⟨#[]⟩, .int .i64 0, .float .f64 0]
def bsOf (b : Bool) (s : ByteArray) : ByteArray := if b = true then ⟨(turnL s.data.toList).toArray⟩ else s
theorem bsOf_size (b : Bool) (s : ByteArray) : (bsOf b s).size = s.size := by
  unfold bsOf
  split
  · show (turnL s.data.toList).toArray.size = _
    simp [turnL_length]
  · rfl
/-- what found answers -/
def fdOf (k : Nat) (rn rb fn fb : ByteArray) (back : Bool) (r0 p0 r1 p1 : Nat) (sq oq : Int) : FD :=
  let a := ((bsOf back rb).extract r0 (r1 + k)).data.toList
  let b := (fb.extract p0 (p1 + k)).data.toList
  { rd := rn, fr := if back = true then (rb.size : Int) - (r1 + k) else r0, tl := if back = true then (rb.size : Int) - r0 else r1 + k, bk := back, sn := fn, st := p0, en := p1 + k, sq := sq, oq := oq, ql := qual sq oq, sc := scT a b, sm := scN a b, id := shr (scN a b) (scLn a b) }
def fnE (k : Nat) (rb fb : ByteArray) (back : Bool) (r0 p0 r1 p1 : Nat) : Nat := scE ((bsOf back rb).extract r0 (r1 + k)).data.toList (fb.extract p0 (p1 + k)).data.toList
def FnP (k : Nat) (rn rb fn fb : ByteArray) (back : Bool) (r0 p0 r1 p1 : Nat) (sq oq : Int) (w : World) (e : Ending) (w' : World) : Prop :=
  e = .returned (.tuple (if fnE k rb fb back r0 p0 r1 p1 = 0 then #[.agg (fdOf k rn rb fn fb back r0 p0 r1 p1 sq oq).cells.toArray, .bool true] else #[zFound, .bool false])) ∧ Below w.heap.size w w'
theorem fd_f (k : Nat) (rn rb fn fb : ByteArray) (r0 p0 r1 p1 : Nat) (sq oq : Int) (la lb : List UInt8) (hla : la = ((bsOf false rb).extract r0 (r1 + k)).data.toList) (hlb : lb = (fb.extract p0 (p1 + k)).data.toList) :
    (fdOf k rn rb fn fb false r0 p0 r1 p1 sq oq).cells = [.string rn, .int .i64 (r0), .int .i64 ((r1 : Int) + k), .bool false, .string fn, .int .i64 p0, .int .i64 ((p1 : Int) + k), .float .f64 (fq sq), .float .f64 (fq oq), .int .i64 (qual sq oq), .string ⟨(scT la lb).toArray⟩, .int .i64 (scN la lb), .float .f64 (shr (scN la lb) (scLn la lb))] := by
  subst hla
  subst hlb
  rfl
theorem fd_t (k : Nat) (rn rb fn fb : ByteArray) (r0 p0 r1 p1 : Nat) (sq oq : Int) (la lb : List UInt8) (hla : la = ((bsOf true rb).extract r0 (r1 + k)).data.toList) (hlb : lb = (fb.extract p0 (p1 + k)).data.toList) :
    (fdOf k rn rb fn fb true r0 p0 r1 p1 sq oq).cells = [.string rn, .int .i64 ((rb.size : Int) - ((r1 : Int) + k)), .int .i64 ((rb.size : Int) - (r0 : Int)), .bool true, .string fn, .int .i64 p0, .int .i64 ((p1 : Int) + k), .float .f64 (fq sq), .float .f64 (fq oq), .int .i64 (qual sq oq), .string ⟨(scT la lb).toArray⟩, .int .i64 (scN la lb), .float .f64 (shr (scN la lb) (scLn la lb))] := by
  subst hla
  subst hlb
  rfl
theorem set13 (a0 a1 a2 a3 a4 a5 a6 a7 a8 a9 a10 a11 a12 x0 x1 x2 x3 x4 x5 x6 x7 x8 x9 x10 x11 x12 : Value) : ((((((((((((((#[a0, a1, a2, a3, a4, a5, a6, a7, a8, a9, a10, a11, a12].setIfInBounds 0 x0).setIfInBounds 1 x1).setIfInBounds 2 x2).setIfInBounds 3 x3).setIfInBounds 4 x4).setIfInBounds 5 x5).setIfInBounds 6 x6).setIfInBounds 7 x7).setIfInBounds 8 x8).setIfInBounds 9 x9).setIfInBounds 10 x10).setIfInBounds 11 x11).setIfInBounds 12 x12)) = #[x0, x1, x2, x3, x4, x5, x6, x7, x8, x9, x10, x11, x12] := by simp only [List.setIfInBounds_toArray, List.set_cons_zero, List.set_cons_succ]
theorem upd13 {w : World} {g : Nat} {t : TypeId} {a0 a1 a2 a3 a4 a5 a6 a7 a8 a9 a10 a11 a12 : Value} (x0 x1 x2 x3 x4 x5 x6 x7 x8 x9 x10 x11 x12 : Value) (h : w.heap[g]? = some (.cells #[a0, a1, a2, a3, a4, a5, a6, a7, a8, a9, a10, a11, a12] t (0, 0))) : Upd w (((((((((((((w.setCell ⟨g, 0, none⟩ x0).setCell ⟨g, 1, none⟩ x1).setCell ⟨g, 2, none⟩ x2).setCell ⟨g, 3, none⟩ x3).setCell ⟨g, 4, none⟩ x4).setCell ⟨g, 5, none⟩ x5).setCell ⟨g, 6, none⟩ x6).setCell ⟨g, 7, none⟩ x7).setCell ⟨g, 8, none⟩ x8).setCell ⟨g, 9, none⟩ x9).setCell ⟨g, 10, none⟩ x10).setCell ⟨g, 11, none⟩ x11).setCell ⟨g, 12, none⟩ x12) g (.cells #[x0, x1, x2, x3, x4, x5, x6, x7, x8, x9, x10, x11, x12] t (0, 0)) := by
  have U0 := Upd.of_setCell (i := 0) x0 h
  have U1 := U0.setCell (i := 1) x1
  have U2 := U1.setCell (i := 2) x2
  have U3 := U2.setCell (i := 3) x3
  have U4 := U3.setCell (i := 4) x4
  have U5 := U4.setCell (i := 5) x5
  have U6 := U5.setCell (i := 6) x6
  have U7 := U6.setCell (i := 7) x7
  have U8 := U7.setCell (i := 8) x8
  have U9 := U8.setCell (i := 9) x9
  have U10 := U9.setCell (i := 10) x10
  have U11 := U10.setCell (i := 11) x11
  have U12 := U11.setCell (i := 12) x12
  rw [set13] at U12
  exact U12
end Go.Proofs.YtilcmkiihefkkaaGreatDoor.Mn
end
section
set_option linter.unusedVariables false
set_option linter.unusedSimpArgs false
set_option maxRecDepth 100000
namespace Go.Proofs.YtilcmkiihefkkaaGreatDoor.Mn
open Go.RowKit Go.Shelf Go.Lib
/-- the candidates of a read -/
def IsC (G : Int × Bool → List (Int × Int)) (k : Int) (C : List Cd) : Prop := C.Pairwise (ltC (fun q => ansQ (G q) k)) ∧ ∀ a, a ∈ C ↔ G (sd a) ≠ []
def othQ (G : Int × Bool → List (Int × Int)) (k : Int) : List Cd → Int
  | _ :: b :: _ => ansQ (G (sd b)) k
  | _ => 0
/-- what is told by candidates -/
def findC (R : List S2) (k sc : Nat) (rn rb : ByteArray) (G : Int × Bool → List (Int × Int)) (C : List Cd) : Option FD :=
  match C with
  | [] => none
  | a :: t =>
    if FloatKind.f64.format.order (fq (ansQ (G (sd a)) k)) sc = some .lt then none
    else if fnE k rb (R.getD a.1.val S0).b a.2 (c0 (chL k (G (sd a)))).1.toNat (c0 (chL k (G (sd a)))).2.toNat (c1 (chL k (G (sd a)))).1.toNat (c1 (chL k (G (sd a)))).2.toNat = 0 then
      some (fdOf k rn rb (R.getD a.1.val S0).n (R.getD a.1.val S0).b a.2 (c0 (chL k (G (sd a)))).1.toNat (c0 (chL k (G (sd a)))).2.toNat (c1 (chL k (G (sd a)))).1.toNat (c1 (chL k (G (sd a)))).2.toNat (ansQ (G (sd a)) k) (othQ G k (a :: t)))
    else none
def FindR (R : List S2) (k W sc : Nat) (rn rb : ByteArray) (res : Option FD) : Prop :=
  (300 < rb.size ∧ res = none) ∨ (rb.size ≤ 300 ∧ 400 < (gat k W R rb).1 ∧ res = none) ∨ (rb.size ≤ 300 ∧ (gat k W R rb).1 ≤ 400 ∧ ∃ C, IsC (gat k W R rb).2 k C ∧ res = findC R k sc rn rb (gat k W R rb).2 C)
def resV : Option FD → Array Value
  | some f => #[.agg f.cells.toArray, .bool true]
  | none => #[zFound, .bool false]
def FiP (R : List S2) (k W sc : Nat) (rn rb : ByteArray) (w : World) (e : Ending) (w' : World) : Prop :=
  ∃ res, FindR R k W sc rn rb res ∧ e = .returned (.tuple (resV res)) ∧ Below w.heap.size w w'
end Go.Proofs.YtilcmkiihefkkaaGreatDoor.Mn
end
section
set_option linter.unusedVariables false
set_option linter.unusedSimpArgs false
set_option maxRecDepth 100000
namespace Go.Proofs.YtilcmkiihefkkaaGreatDoor.Mn
open Go.RowKit Go.Shelf Go.Lib
attribute [local go_sem] run_store_flt
theorem Tryz.info71x : (Tryz.prog.info? 71).map (fun i => (i.zero, i.size, i.bytes)) = some (some zFound, 13, 128) := by kernel_rfl
def foundsC (L : List FD) : List Value := L.flatMap FD.cells
theorem foundsC_snoc (L : List FD) (f : FD) : foundsC (L ++ [f]) = foundsC L ++ f.cells := by simp [foundsC]
/-- what is told of reads, one by one -/
def FindsR (R : List S2) (k W sc : Nat) (P : List S2) (rs : List (Option FD)) : Prop := ∀ j, j < rs.length → FindR R k W sc (P.getD j S0).n (P.getD j S0).b (rs.getD j none)
theorem FindsR.snoc {R : List S2} {k W sc : Nat} {P : List S2} {rs : List (Option FD)} (h : FindsR R k W sc P rs) (r : Option FD) (hr : FindR R k W sc (P.getD rs.length S0).n (P.getD rs.length S0).b r) : FindsR R k W sc P (rs ++ [r]) := by
  intro j hj
  simp only [List.length_append, List.length_cons, List.length_nil] at hj
  by_cases hlt : j < rs.length
  · have := h j hlt
    simpa [List.getD_eq_getElem?_getD, List.getElem?_append_left hlt] using this
  · have e : j = rs.length := by omega
    subst e
    simpa [List.getD_eq_getElem?_getD] using hr
/-- what Map answers -/
def MapP (R : List S2) (k W sc : Nat) (s : ByteArray) (w : World) (e : Ending) (w' : World) : Prop :=
  ∃ v, e = .returned (.tuple #[v, .int .i64 (parseR s).2.1, .int .i64 (parseR s).2.2]) ∧ Below w.heap.size w w' ∧ ((parseR s).2.1 ≠ 0 → v = .slice none 0 0) ∧
    ((parseR s).2.1 = 0 → ∃ rs : List (Option FD), rs.length = (parseR s).1.length ∧ FindsR R k W sc (parseR s).1 rs ∧ OwnR w' w.heap.size 71 13 v (rs.filterMap id).length (foundsC (rs.filterMap id)))
theorem fbox_cells (W : World) (f : FD) (s : Nat) (hs : s = W.heap.size) : ∀ j u, (f.cells)[j]? = some u → (W.alloc (.cells #[.string f.rd, .int .i64 f.fr, .int .i64 f.tl, .bool f.bk, .string f.sn, .int .i64 f.st, .int .i64 f.en, .float .f64 (fq f.sq), .float .f64 (fq f.oq), .int .i64 f.ql, .string ⟨f.sc.toArray⟩, .int .i64 f.sm, .float .f64 f.id] 71)).cell? ((⟨s, 0, none⟩ : Addr).add j) = some u := by
  intro j u hj
  subst hs
  rw [Addr.add_lit, Nat.zero_add]
  refine cell_at (heap_alloc_new W _) ?_
  simpa [FD.cells] using hj
theorem fd_one (f : FD) : ∀ u ∈ f.cells, u.oneCell' = true := by
  intro u hu
  simp [FD.cells] at hu
  rcases hu with rfl | rfl | rfl | rfl | rfl | rfl | rfl | rfl | rfl | rfl | rfl | rfl | rfl <;> rfl
/-- find may be asked -/
def FdC (R : List S2) (base X k W sc : Nat) (w : World) : Prop := ∀ (w1 : World) (rn rb : ByteArray), Below w.heap.size w w1 → rb.size ≤ 140737488351232 → good rb →
    Calls Tryz.prog 52 #[.pointer (some ⟨X, 0, none⟩), .agg #[.string rn, .string rb]] w1 fun e w' => FiP R k W sc rn rb w1 e w'
set_option maxHeartbeats 8000000 in
theorem Map_of (R : List S2) (base X k W sc : Nat) (s : ByteArray) (w : World) (hs : s.size ≤ 140737488351232) (hC : FdC R base X k W sc w) :
    Calls Tryz.prog 21 #[.pointer (some ⟨X, 0, none⟩), .string s] w fun e w' => MapP R k W sc s w e w' := by
  obtain ⟨i0, hi, hz0, hz1, hz2⟩ := info_parts Tryz.info71x
  have HP := (show Hid _ from parseR_ok s)
  have cP : ∀ W1, _ := fun W1 => parse_any s W1 hs
  by_cases he : (parseR s).2.1 = 0
  · have hline : (parseR s).2.2 = 0 := by
      by_cases h8 : 8000 < s.size
      · unfold parseR at he; rw [if_pos h8] at he; cases he
      · unfold parseR at he ⊢; rw [if_neg h8] at he ⊢; exact parseL_zero _ _ _ he
    have HMP : Hid (∀ v w' rs, Below w.heap.size w w' → rs.length = (parseR s).1.length → FindsR R k W sc (parseR s).1 rs → OwnR w' w.heap.size 71 13 v (rs.filterMap id).length (foundsC (rs.filterMap id)) → MapP R k W sc s w (.returned (.tuple #[v, .int .i64 0, .int .i64 0])) w') := by
      intro v w' rs h1 h2 h3 h4
      refine ⟨v, by rw [he, hline]; rfl, h1, fun h => absurd he h, fun _ => ⟨rs, h2, h3, h4⟩⟩
    rw [he, hline] at cP
    obtain ⟨P, hP⟩ : ∃ P, P = (parseR s).1 := ⟨_, rfl⟩
    rw [← hP] at cP HP HMP
    clear he hline hP
    have HC := (show Hid _ from hC)
    clear hC
    go_enter Tryz.func21, Tryz.ntmps21
    go_wp2_with fail
    refine (cP w).mono ?_
    rintro e w2 ⟨v, rfl, hown, _, hb2⟩
    obtain ⟨ao, cp, rfl⟩ := hown.form
    obtain ⟨n, hn⟩ : ∃ n, n = P.length := ⟨_, rfl⟩
    have HN : Hid (n = P.length) := hn
    rw [← hn] at hown ⊢
    have hn8 : n ≤ 8000 := by rw [hn]; exact HP.out.1
    have HO : Hid (OwnR w2 w.heap.size 88 2 (.slice ao n cp) n (qcells P)) := hown
    have HB2 : Hid (Below w.heap.size w w2) := hb2
    have hsh : n ≠ 0 → ∃ g o, ao = some ⟨g, o, none⟩ ∧ g < w2.heap.size := by
      intro h0
      rcases hown.2 with ⟨_, h'⟩ | ⟨g, o, cap, cur, h, _, hg, _⟩
      · exact absurd h' h0
      · simp only [Value.slice.injEq] at h
        exact ⟨g, o, h.1, lt_of_block hg⟩
    clear hown hb2 hn cP
    go_wp2_with fail
    go_loopw [10, 27] (fun tv i wr => ∃ (j : Nat) (rs : List (Option FD)), j ≤ n ∧ i = .int .i64 j ∧ rs.length = j ∧ FindsR R k W sc P rs ∧ OwnR wr w.heap.size 71 13 tv (rs.filterMap id).length (foundsC (rs.filterMap id)) ∧ Below w2.heap.size w2 wr ∧ (rs.filterMap id).length ≤ j ∧ (∀ g, tv.ownBlock = some g → w2.heap.size ≤ g)) (fun _ i _ => n - (RowKit.intOf i).toNat)
    case atStart => exact ⟨0, [], Nat.zero_le _, rfl, rfl, fun j hj => absurd hj (Nat.not_lt_zero _), OwnR.nil _ _ _ _, Below.refl _ _, Nat.le_refl _, fun g hg => by cases hg⟩
    case round =>
      obtain ⟨j, rs, hj, rfl, hrl, hrs, hto, hbr, hlj, hfr0⟩ := hrel
      have HRS : Hid (FindsR R k W sc P rs) := hrs
      have HTO : Hid (OwnR wr w.heap.size 71 13 u10 (rs.filterMap id).length (foundsC (rs.filterMap id))) := hto
      have HBR : Hid (Below w2.heap.size w2 wr) := hbr
      have HFR0 : Hid (∀ g, u10.ownBlock = some g → w2.heap.size ≤ g) := hfr0
      have HRL : Hid (rs.length = j) := hrl
      obtain ⟨m, hm⟩ : ∃ m, m = (rs.filterMap id).length := ⟨_, rfl⟩
      have HM : Hid (m = (rs.filterMap id).length) := hm
      rw [← hm] at hlj hto
      obtain ⟨at', ct, hu⟩ := hto.form
      subst hu
      clear hrs hbr hfr0 hm hrl
      by_cases hlt : j < n
      · obtain ⟨g, o, rfl, hgl⟩ := hsh (by omega)
        have hjP : j < P.length := by have := HN.out; omega
        have hc := (HO.out.other (w' := wr) (fun g' _ hlt' => HBR.out.block g' hlt')).seqs j hjP
        obtain ⟨x, hx⟩ : ∃ x, x = P[j] := ⟨_, rfl⟩
        rw [← hx] at hc
        obtain ⟨d0, d1⟩ := hc
        have hxP : x ∈ P := by rw [hx]; exact List.getElem_mem _
        have hxg := HP.out.2 x hxP
        have HX : Hid (P.getD j S0 = x) := by show _ = _; rw [getD_get _ _ _ hjP, hx]
        have hbw : Below w.heap.size w wr := HB2.out.trans (HBR.out.mono HB2.out.size)
        have cF := fun W1 hW1 => HC.out W1 x.n x.b hW1 (by have := hxg.2.2; omega) hxg.1
        clear hx hxg
        go_wp2_with fail
        refine (cF _ (hbw.alloc hbw.size _)).mono ?_
        rintro e w3 ⟨res, hres, rfl, hb3⟩
        have HRES : Hid (FindR R k W sc x.n x.b res) := hres
        have hb3r : Below wr.heap.size wr w3 := ((Below.refl _ wr).alloc (Nat.le_refl _) _).trans (hb3.mono (by simp))
        have HB3 : Hid (Below wr.heap.size wr w3) := hb3r
        have hto3 : OwnR w3 w.heap.size 71 13 (.slice at' m ct) m (foundsC (rs.filterMap id)) := hto.other (fun g' _ hg' => hb3r.block g' hg')
        have HT3 : Hid (∀ g, (Value.slice at' m ct).ownBlock = some g → w2.heap.size ≤ g ∧ g < w3.heap.size) := fun g' hg' => ⟨HFR0.out g' hg', (hto3.lt hg').2⟩
        have hbs3 : w.heap.size ≤ w3.heap.size := Nat.le_trans hbw.size hb3r.size
        clear cF hres hb3 hb3r hto d0 d1
        cases res with
        | none =>
          simp only [resV, zFound]
          go_wp2
          go_roundw
          case rel =>
            refine ⟨j + 1, rs ++ [none], by omega, by go_num, by simp [HRL.out], FindsR.snoc HRS.out none (by rw [HRL.out, HX.out]; exact HRES.out), ?_, ?_, ?_, ?_⟩
            · have e : (rs ++ [none]).filterMap id = rs.filterMap id := by simp
              rw [e, ← HM.out]
              exact hto3.other (fun g' _ hg' => Below.heap_alloc _ _ _ hg')
            · exact (HBR.out.trans (HB3.out.mono HBR.out.size)).alloc (Nat.le_trans HBR.out.size HB3.out.size) _
            · have e : (rs ++ [none]).filterMap id = rs.filterMap id := by simp
              rw [e, ← HM.out]; omega
            · exact fun g' hg' => (HT3.out g' hg').1
          case measure => simp [RowKit.intOf]; omega
        | some f =>
          simp only [resV, FD.cells]
          go_wp2_with (at_builtin; refine wpList_own _ rfl (.tmp 38) (.tmp 40) 66 rfl 71 i0 _ 13 128 Tryz.underlying66 hi hz0 hz1 hz2 rfl (by decide) w.heap.size (.slice at' m ct) m (foundsC (rs.filterMap id)) rfl (by exact (hto3.other (fun g' _ hg' => Below.heap_alloc _ _ _ hg')).other (fun g' _ hg' => Below.heap_alloc _ _ _ hg')) ⟨w3.heap.size + 1, 0, none⟩ 1 f.cells rfl rfl (by exact fbox_cells _ f _ (by simp)) (fd_one f) (by unfold maxLen; omega) (by omega) (by simp; omega) ?_; intro g' o' cap' w8 hown' hfr)
          go_roundw
          case rel =>
            have e : (rs ++ [some f]).filterMap id = rs.filterMap id ++ [f] := by simp
            refine ⟨j + 1, rs ++ [some f], by omega, by go_num, by simp [HRL.out], FindsR.snoc HRS.out (some f) (by rw [HRL.out, HX.out]; exact HRES.out), ?_, ?_, ?_, ?_⟩
            · rw [e, foundsC_snoc, List.length_append, ← HM.out]
              exact hown'
            · have h1 := ((HBR.out.trans (HB3.out.mono HBR.out.size)).alloc (Nat.le_trans HBR.out.size HB3.out.size) (Obj.cells #[.string f.rd, .int .i64 f.fr, .int .i64 f.tl, .bool f.bk, .string f.sn, .int .i64 f.st, .int .i64 f.en, .float .f64 (fq f.sq), .float .f64 (fq f.oq), .int .i64 f.ql, .string ⟨f.sc.toArray⟩, .int .i64 f.sm, .float .f64 f.id] 71))
              have h2 := h1.alloc h1.size (Obj.cells #[.string f.rd, .int .i64 f.fr, .int .i64 f.tl, .bool f.bk, .string f.sn, .int .i64 f.st, .int .i64 f.en, .float .f64 (fq f.sq), .float .f64 (fq f.oq), .int .i64 f.ql, .string ⟨f.sc.toArray⟩, .int .i64 f.sm, .float .f64 f.id] 71)
              exact h2.trans (hfr.below (fun g' hg' => (HT3.out g' hg').1) h2.size)
            · rw [e, List.length_append, ← HM.out]; show m + 1 ≤ _; omega
            · intro g1 hg1
              have e1 : g' = g1 := by simpa [Value.ownBlock] using hg1
              subst e1
              rcases hfr.new with h | h
              · exact (HT3.out _ h).1
              · have h1 := HBR.out.size
                have h2 := HB3.out.size
                simp at h
                omega
          case measure => simp [RowKit.intOf]; omega
      · have hjn : j = n := by omega
        subst hjn
        go_wp2
        go_ret3
        exact HMP.out _ _ rs (HB2.out.trans (HBR.out.mono HB2.out.size)) (by rw [HRL.out, HN.out]) HRS.out HTO.out
  · obtain ⟨en, hen⟩ : ∃ en, en = (parseR s).2.1 := ⟨_, rfl⟩
    obtain ⟨ln, hln⟩ : ∃ ln, ln = (parseR s).2.2 := ⟨_, rfl⟩
    have HMP : Hid (∀ w', Below w.heap.size w w' → MapP R k W sc s w (.returned (.tuple #[.slice none 0 0, .int .i64 en, .int .i64 ln])) w') := by
      intro w' h1
      refine ⟨_, by rw [hen, hln], h1, fun _ => rfl, fun h => absurd h he⟩
    rw [← hen, ← hln] at cP
    rw [← hen] at he
    have heI : ¬ (en : Int) = 0 := by omega
    clear hen hln hC
    go_enter Tryz.func21, Tryz.ntmps21
    go_wp2_with fail
    refine (cP w).mono ?_
    rintro e w2 ⟨v, rfl, hown, _, hb2⟩
    have HB2 : Hid (Below w.heap.size w w2) := hb2
    clear hown hb2 cP
    go_wp2
    go_ret3
    exact HMP.out _ HB2.out
end Go.Proofs.YtilcmkiihefkkaaGreatDoor.Mn
end
