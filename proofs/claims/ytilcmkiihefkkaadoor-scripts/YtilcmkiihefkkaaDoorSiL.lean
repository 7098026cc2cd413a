import Derived.Test.YtilcmkiihefkkaaDoorSiK
set_option linter.unusedVariables false
set_option linter.unusedSimpArgs false
set_option maxRecDepth 1000000
namespace Go.Proofs.YtilcmkiihefkkaaDoor
open Go.RowKit Go.Shelf

def TInv (read ref : ByteArray) (w : World) (G : Nat) (a : Act) (wx : World) : Prop := ∃ (i : Nat) (u2 u3 u4 u7 u8 u9 u10 u11 u12 u13 u14 u15 u16 u17 u18 u19 u20 u21 u22 u23 u24 u25 u26 u27 u28 u29 u30 u31 u32 u33 u34 u35 u36 u37 u38 u39 u40 u41 u42 u43 u44 u45 u46 u47 u48 u49 u50 u51 u52 u53 u54 u55 u56 u57 u58 u59 u60 u61 u62 u63 u64 u65 u66 u67 u68 u69 u70 u71 u72 u73 u74 u75 u76 u77 u78 u79 u80 u81 u82 u83 u84 u85 u86 u87 u88 u89 u90 u91 u92 u93 u94 u95 u96 u97 u98 u99 u100 u101 u102 u103 u104 u105 u106 u107 u108 u109 u110 u111 u112 u113 u114 u115 u116 u117 u118 u119 u120 u121 u122 u123 u124 u125 u126 u127 u128 u129 u130 u131 u132 u133 u134 u135 u136 u137 u138 u139 u140 u141 u142 u143 u144 u145 u146 u147 u148 u149 u150 u151 u152 u153 u154 u155 u156 u157 u158 u159 u160 u161 u162 u163 u164 u165 u166 u167 u168 u169 u170 u171 u172 u173 u174 u175 u176 u177 u178 u179 u180 u181 u182 u183 u184 u185 u186 u187 u188 u189 u190 u191 u192 u193 u194 u195 u196 u197 u198 u199 u200 u201 u202 u203 u204 u205 u206 u207 u208 u209 u210 u211 u212 u213 u214 u215 u216 u217 u218 u219 u220 u221 u222 u223 u224 u225 u226 u227 u228 u229 u230 u231 u232 u233 u234 u235 u236 u237 u238 u239 u240 u241 u242 u243 u244 u245 u246 u247 u248 u249 u250 u251 u252 u253 u254 u255 u256 u257 u258 u259 u260 u261 u262 u263 u264 u265 u266 u267 u268 u269 u270 u271 u272 u273 u274 u275 u276 : Value), (i ≤ read.size + 1 ∧ TbI read ref w wx G i) ∧ a = ⟨#[.string read, .string ref, u2, u3, u4, .pointer (some ⟨G, 0, none⟩), .int .i64 i, u7, u8, u9, u10, u11, u12, u13, u14, u15, u16, u17, u18, u19, u20, u21, u22, u23, u24, u25, u26, u27, u28, u29, u30, u31, u32, u33, u34, u35, u36, u37, u38, u39, u40, u41, u42, u43, u44, u45, u46, u47, u48, u49, u50, u51, u52, u53, u54, u55, u56, u57, u58, u59, u60, u61, u62, u63, u64, u65, u66, u67, u68, u69, u70, u71, u72, u73, u74, u75, u76, u77, u78, u79, u80, u81, u82, u83, u84, u85, u86, u87, u88, u89, u90, u91, u92, u93, u94, u95, u96, u97, u98, u99, u100, u101, u102, u103, u104, u105, u106, u107, u108, u109, u110, u111, u112, u113, u114, u115, u116, u117, u118, u119, u120, u121, u122, u123, u124, u125, u126, u127, u128, u129, u130, u131, u132, u133, u134, u135, u136, u137, u138, u139, u140, u141, u142, u143, u144, u145, u146, u147, u148, u149, u150, u151, u152, u153, u154, u155, u156, u157, u158, u159, u160, u161, u162, u163, u164, u165, u166, u167, u168, u169, u170, u171, u172, u173, u174, u175, u176, u177, u178, u179, u180, u181, u182, u183, u184, u185, u186, u187, u188, u189, u190, u191, u192, u193, u194, u195, u196, u197, u198, u199, u200, u201, u202, u203, u204, u205, u206, u207, u208, u209, u210, u211, u212, u213, u214, u215, u216, u217, u218, u219, u220, u221, u222, u223, u224, u225, u226, u227, u228, u229, u230, u231, u232, u233, u234, u235, u236, u237, u238, u239, u240, u241, u242, u243, u244, u245, u246, u247, u248, u249, u250, u251, u252, u253, u254, u255, u256, u257, u258, u259, u260, u261, u262, u263, u264, u265, u266, u267, u268, u269, u270, u271, u272, u273, u274, u275, u276], []⟩

def TMu (n : Nat) (a : Act) (_ : World) : Nat := n + 1 - (intOf (a.tmps.getD 6 undef)).toNat

set_option maxHeartbeats 16000000 in
theorem newgrid_any (read ref : ByteArray) (hn : read.size ≤ 300) (hm : ref.size ≤ 600) (w : World) :
    Calls Tryd.prog 28 #[.string read, .string ref] w fun e w' => ∃ G, e = .returned (.pointer (some ⟨G, 0, none⟩)) ∧ TbI read ref w w' G (read.size + 1) := by
  obtain ⟨i3, hi3, hz0, hz1, hz2⟩ := info_parts Tryd.info3
  obtain ⟨is, his, hs0, hs1, hs2⟩ := info_parts infoInts
  obtain ⟨Z, hZ, hmk⟩ : ∃ Z : Array Value, Z.size = ref.size + 1 ∧ ∀ W : World, (Instr.makeSlice 26 (.int .i64 ((ref.size : Int) + 1)) (.int .i64 ((ref.size : Int) + 1))).run Tryd.prog W = .ok (.slice (some ⟨W.heap.size, 0, none⟩) (ref.size + 1) (ref.size + 1)) (W.alloc (.cells Z 3)) := by
    refine ⟨madeCells (Value.int .i64 0).cells ((ref.size + 1) * 1), by rw [size_madeCells]; omega, fun W => ?_⟩
    have e : (ref.size : Int) + 1 = ((ref.size + 1 : Nat) : Int) := by omega
    rw [e]
    have := run_make (P := Tryd.prog) W 26 3 i3 (.int .i64 0) Tryd.underlying26 hi3 hz0 .i64 .i64 ((ref.size + 1 : Nat) : Int) ((ref.size + 1 : Nat) : Int) (by omega) (by omega) (by rw [hz2]; omega) (by omega)
    rw [hz1] at this
    simpa using this
  have HZ : Hid (Z.size = ref.size + 1) := hZ
  have hmw : IntKind.i64.wrap ((ref.size : Int) + 1) = (ref.size : Int) + 1 := by rw [IntKind.wrap_i64]; omega
  clear hZ
  go_enter Tryd.func28, Tryd.ntmps28
  go_wp2_with fail
  have HST : Hid (TbI read ref w (w.alloc (.cells #[.string read, .string ref, .slice none 0 0, .slice none 0 0, .slice none 0 0] 72)) w.heap.size 0) :=
    ⟨.slice none 0 0, .slice none 0 0, .slice none 0 0, fun _ => 0, fun _ => 0, fun _ => 0, ⟨heap_alloc_new w _, OwnR.nil _ _ _ _, OwnR.nil _ _ _ _, OwnR.nil _ _ _ _, fun g hg => by simp [Value.ownBlock] at hg, fun g hg => by simp [Value.ownBlock] at hg, fun g hg => by simp [Value.ownBlock] at hg⟩, Nat.le_refl _, (Below.refl _ w).alloc (Nat.le_refl _) _, fun t ht => absurd ht (by omega)⟩
  obtain ⟨G, hG⟩ : ∃ G, G = w.heap.size := ⟨_, rfl⟩
  rw [← hG] at HST ⊢
  clear hG
  refine wp_loop (TInv read ref w G) (TMu read.size) ?_ ?_
  · unfold TInv
    exact ⟨0, _, _, _, _, _, _, _, _, _, _, _, _, _, _, _, _, _, _, _, _, _, _, _, _, _, _, _, _, _, _, _, _, _, _, _, _, _, _, _, _, _, _, _, _, _, _, _, _, _, _, _, _, _, _, _, _, _, _, _, _, _, _, _, _, _, _, _, _, _, _, _, _, _, _, _, _, _, _, _, _, _, _, _, _, _, _, _, _, _, _, _, _, _, _, _, _, _, _, _, _, _, _, _, _, _, _, _, _, _, _, _, _, _, _, _, _, _, _, _, _, _, _, _, _, _, _, _, _, _, _, _, _, _, _, _, _, _, _, _, _, _, _, _, _, _, _, _, _, _, _, _, _, _, _, _, _, _, _, _, _, _, _, _, _, _, _, _, _, _, _, _, _, _, _, _, _, _, _, _, _, _, _, _, _, _, _, _, _, _, _, _, _, _, _, _, _, _, _, _, _, _, _, _, _, _, _, _, _, _, _, _, _, _, _, _, _, _, _, _, _, _, _, _, _, _, _, _, _, _, _, _, _, _, _, _, _, _, _, _, _, _, _, _, _, _, _, _, _, _, _, _, _, _, _, _, _, _, _, _, _, _, _, _, _, _, _, _, _, _, _, _, _, _, ⟨Nat.zero_le _, HST.out⟩, rfl⟩
  · intro a wr hI
    clear HST
    unfold TInv at hI
    obtain ⟨i, hI⟩ := hI
    obtain ⟨u2, hI⟩ := hI
    obtain ⟨u3, hI⟩ := hI
    obtain ⟨u4, hI⟩ := hI
    obtain ⟨u7, hI⟩ := hI
    obtain ⟨u8, hI⟩ := hI
    obtain ⟨u9, hI⟩ := hI
    obtain ⟨u10, hI⟩ := hI
    obtain ⟨u11, hI⟩ := hI
    obtain ⟨u12, hI⟩ := hI
    obtain ⟨u13, hI⟩ := hI
    obtain ⟨u14, hI⟩ := hI
    obtain ⟨u15, hI⟩ := hI
    obtain ⟨u16, hI⟩ := hI
    obtain ⟨u17, hI⟩ := hI
    obtain ⟨u18, hI⟩ := hI
    obtain ⟨u19, hI⟩ := hI
    obtain ⟨u20, hI⟩ := hI
    obtain ⟨u21, hI⟩ := hI
    obtain ⟨u22, hI⟩ := hI
    obtain ⟨u23, hI⟩ := hI
    obtain ⟨u24, hI⟩ := hI
    obtain ⟨u25, hI⟩ := hI
    obtain ⟨u26, hI⟩ := hI
    obtain ⟨u27, hI⟩ := hI
    obtain ⟨u28, hI⟩ := hI
    obtain ⟨u29, hI⟩ := hI
    obtain ⟨u30, hI⟩ := hI
    obtain ⟨u31, hI⟩ := hI
    obtain ⟨u32, hI⟩ := hI
    obtain ⟨u33, hI⟩ := hI
    obtain ⟨u34, hI⟩ := hI
    obtain ⟨u35, hI⟩ := hI
    obtain ⟨u36, hI⟩ := hI
    obtain ⟨u37, hI⟩ := hI
    obtain ⟨u38, hI⟩ := hI
    obtain ⟨u39, hI⟩ := hI
    obtain ⟨u40, hI⟩ := hI
    obtain ⟨u41, hI⟩ := hI
    obtain ⟨u42, hI⟩ := hI
    obtain ⟨u43, hI⟩ := hI
    obtain ⟨u44, hI⟩ := hI
    obtain ⟨u45, hI⟩ := hI
    obtain ⟨u46, hI⟩ := hI
    obtain ⟨u47, hI⟩ := hI
    obtain ⟨u48, hI⟩ := hI
    obtain ⟨u49, hI⟩ := hI
    obtain ⟨u50, hI⟩ := hI
    obtain ⟨u51, hI⟩ := hI
    obtain ⟨u52, hI⟩ := hI
    obtain ⟨u53, hI⟩ := hI
    obtain ⟨u54, hI⟩ := hI
    obtain ⟨u55, hI⟩ := hI
    obtain ⟨u56, hI⟩ := hI
    obtain ⟨u57, hI⟩ := hI
    obtain ⟨u58, hI⟩ := hI
    obtain ⟨u59, hI⟩ := hI
    obtain ⟨u60, hI⟩ := hI
    obtain ⟨u61, hI⟩ := hI
    obtain ⟨u62, hI⟩ := hI
    obtain ⟨u63, hI⟩ := hI
    obtain ⟨u64, hI⟩ := hI
    obtain ⟨u65, hI⟩ := hI
    obtain ⟨u66, hI⟩ := hI
    obtain ⟨u67, hI⟩ := hI
    obtain ⟨u68, hI⟩ := hI
    obtain ⟨u69, hI⟩ := hI
    obtain ⟨u70, hI⟩ := hI
    obtain ⟨u71, hI⟩ := hI
    obtain ⟨u72, hI⟩ := hI
    obtain ⟨u73, hI⟩ := hI
    obtain ⟨u74, hI⟩ := hI
    obtain ⟨u75, hI⟩ := hI
    obtain ⟨u76, hI⟩ := hI
    obtain ⟨u77, hI⟩ := hI
    obtain ⟨u78, hI⟩ := hI
    obtain ⟨u79, hI⟩ := hI
    obtain ⟨u80, hI⟩ := hI
    obtain ⟨u81, hI⟩ := hI
    obtain ⟨u82, hI⟩ := hI
    obtain ⟨u83, hI⟩ := hI
    obtain ⟨u84, hI⟩ := hI
    obtain ⟨u85, hI⟩ := hI
    obtain ⟨u86, hI⟩ := hI
    obtain ⟨u87, hI⟩ := hI
    obtain ⟨u88, hI⟩ := hI
    obtain ⟨u89, hI⟩ := hI
    obtain ⟨u90, hI⟩ := hI
    obtain ⟨u91, hI⟩ := hI
    obtain ⟨u92, hI⟩ := hI
    obtain ⟨u93, hI⟩ := hI
    obtain ⟨u94, hI⟩ := hI
    obtain ⟨u95, hI⟩ := hI
    obtain ⟨u96, hI⟩ := hI
    obtain ⟨u97, hI⟩ := hI
    obtain ⟨u98, hI⟩ := hI
    obtain ⟨u99, hI⟩ := hI
    obtain ⟨u100, hI⟩ := hI
    obtain ⟨u101, hI⟩ := hI
    obtain ⟨u102, hI⟩ := hI
    obtain ⟨u103, hI⟩ := hI
    obtain ⟨u104, hI⟩ := hI
    obtain ⟨u105, hI⟩ := hI
    obtain ⟨u106, hI⟩ := hI
    obtain ⟨u107, hI⟩ := hI
    obtain ⟨u108, hI⟩ := hI
    obtain ⟨u109, hI⟩ := hI
    obtain ⟨u110, hI⟩ := hI
    obtain ⟨u111, hI⟩ := hI
    obtain ⟨u112, hI⟩ := hI
    obtain ⟨u113, hI⟩ := hI
    obtain ⟨u114, hI⟩ := hI
    obtain ⟨u115, hI⟩ := hI
    obtain ⟨u116, hI⟩ := hI
    obtain ⟨u117, hI⟩ := hI
    obtain ⟨u118, hI⟩ := hI
    obtain ⟨u119, hI⟩ := hI
    obtain ⟨u120, hI⟩ := hI
    obtain ⟨u121, hI⟩ := hI
    obtain ⟨u122, hI⟩ := hI
    obtain ⟨u123, hI⟩ := hI
    obtain ⟨u124, hI⟩ := hI
    obtain ⟨u125, hI⟩ := hI
    obtain ⟨u126, hI⟩ := hI
    obtain ⟨u127, hI⟩ := hI
    obtain ⟨u128, hI⟩ := hI
    obtain ⟨u129, hI⟩ := hI
    obtain ⟨u130, hI⟩ := hI
    obtain ⟨u131, hI⟩ := hI
    obtain ⟨u132, hI⟩ := hI
    obtain ⟨u133, hI⟩ := hI
    obtain ⟨u134, hI⟩ := hI
    obtain ⟨u135, hI⟩ := hI
    obtain ⟨u136, hI⟩ := hI
    obtain ⟨u137, hI⟩ := hI
    obtain ⟨u138, hI⟩ := hI
    obtain ⟨u139, hI⟩ := hI
    obtain ⟨u140, hI⟩ := hI
    obtain ⟨u141, hI⟩ := hI
    obtain ⟨u142, hI⟩ := hI
    obtain ⟨u143, hI⟩ := hI
    obtain ⟨u144, hI⟩ := hI
    obtain ⟨u145, hI⟩ := hI
    obtain ⟨u146, hI⟩ := hI
    obtain ⟨u147, hI⟩ := hI
    obtain ⟨u148, hI⟩ := hI
    obtain ⟨u149, hI⟩ := hI
    obtain ⟨u150, hI⟩ := hI
    obtain ⟨u151, hI⟩ := hI
    obtain ⟨u152, hI⟩ := hI
    obtain ⟨u153, hI⟩ := hI
    obtain ⟨u154, hI⟩ := hI
    obtain ⟨u155, hI⟩ := hI
    obtain ⟨u156, hI⟩ := hI
    obtain ⟨u157, hI⟩ := hI
    obtain ⟨u158, hI⟩ := hI
    obtain ⟨u159, hI⟩ := hI
    obtain ⟨u160, hI⟩ := hI
    obtain ⟨u161, hI⟩ := hI
    obtain ⟨u162, hI⟩ := hI
    obtain ⟨u163, hI⟩ := hI
    obtain ⟨u164, hI⟩ := hI
    obtain ⟨u165, hI⟩ := hI
    obtain ⟨u166, hI⟩ := hI
    obtain ⟨u167, hI⟩ := hI
    obtain ⟨u168, hI⟩ := hI
    obtain ⟨u169, hI⟩ := hI
    obtain ⟨u170, hI⟩ := hI
    obtain ⟨u171, hI⟩ := hI
    obtain ⟨u172, hI⟩ := hI
    obtain ⟨u173, hI⟩ := hI
    obtain ⟨u174, hI⟩ := hI
    obtain ⟨u175, hI⟩ := hI
    obtain ⟨u176, hI⟩ := hI
    obtain ⟨u177, hI⟩ := hI
    obtain ⟨u178, hI⟩ := hI
    obtain ⟨u179, hI⟩ := hI
    obtain ⟨u180, hI⟩ := hI
    obtain ⟨u181, hI⟩ := hI
    obtain ⟨u182, hI⟩ := hI
    obtain ⟨u183, hI⟩ := hI
    obtain ⟨u184, hI⟩ := hI
    obtain ⟨u185, hI⟩ := hI
    obtain ⟨u186, hI⟩ := hI
    obtain ⟨u187, hI⟩ := hI
    obtain ⟨u188, hI⟩ := hI
    obtain ⟨u189, hI⟩ := hI
    obtain ⟨u190, hI⟩ := hI
    obtain ⟨u191, hI⟩ := hI
    obtain ⟨u192, hI⟩ := hI
    obtain ⟨u193, hI⟩ := hI
    obtain ⟨u194, hI⟩ := hI
    obtain ⟨u195, hI⟩ := hI
    obtain ⟨u196, hI⟩ := hI
    obtain ⟨u197, hI⟩ := hI
    obtain ⟨u198, hI⟩ := hI
    obtain ⟨u199, hI⟩ := hI
    obtain ⟨u200, hI⟩ := hI
    obtain ⟨u201, hI⟩ := hI
    obtain ⟨u202, hI⟩ := hI
    obtain ⟨u203, hI⟩ := hI
    obtain ⟨u204, hI⟩ := hI
    obtain ⟨u205, hI⟩ := hI
    obtain ⟨u206, hI⟩ := hI
    obtain ⟨u207, hI⟩ := hI
    obtain ⟨u208, hI⟩ := hI
    obtain ⟨u209, hI⟩ := hI
    obtain ⟨u210, hI⟩ := hI
    obtain ⟨u211, hI⟩ := hI
    obtain ⟨u212, hI⟩ := hI
    obtain ⟨u213, hI⟩ := hI
    obtain ⟨u214, hI⟩ := hI
    obtain ⟨u215, hI⟩ := hI
    obtain ⟨u216, hI⟩ := hI
    obtain ⟨u217, hI⟩ := hI
    obtain ⟨u218, hI⟩ := hI
    obtain ⟨u219, hI⟩ := hI
    obtain ⟨u220, hI⟩ := hI
    obtain ⟨u221, hI⟩ := hI
    obtain ⟨u222, hI⟩ := hI
    obtain ⟨u223, hI⟩ := hI
    obtain ⟨u224, hI⟩ := hI
    obtain ⟨u225, hI⟩ := hI
    obtain ⟨u226, hI⟩ := hI
    obtain ⟨u227, hI⟩ := hI
    obtain ⟨u228, hI⟩ := hI
    obtain ⟨u229, hI⟩ := hI
    obtain ⟨u230, hI⟩ := hI
    obtain ⟨u231, hI⟩ := hI
    obtain ⟨u232, hI⟩ := hI
    obtain ⟨u233, hI⟩ := hI
    obtain ⟨u234, hI⟩ := hI
    obtain ⟨u235, hI⟩ := hI
    obtain ⟨u236, hI⟩ := hI
    obtain ⟨u237, hI⟩ := hI
    obtain ⟨u238, hI⟩ := hI
    obtain ⟨u239, hI⟩ := hI
    obtain ⟨u240, hI⟩ := hI
    obtain ⟨u241, hI⟩ := hI
    obtain ⟨u242, hI⟩ := hI
    obtain ⟨u243, hI⟩ := hI
    obtain ⟨u244, hI⟩ := hI
    obtain ⟨u245, hI⟩ := hI
    obtain ⟨u246, hI⟩ := hI
    obtain ⟨u247, hI⟩ := hI
    obtain ⟨u248, hI⟩ := hI
    obtain ⟨u249, hI⟩ := hI
    obtain ⟨u250, hI⟩ := hI
    obtain ⟨u251, hI⟩ := hI
    obtain ⟨u252, hI⟩ := hI
    obtain ⟨u253, hI⟩ := hI
    obtain ⟨u254, hI⟩ := hI
    obtain ⟨u255, hI⟩ := hI
    obtain ⟨u256, hI⟩ := hI
    obtain ⟨u257, hI⟩ := hI
    obtain ⟨u258, hI⟩ := hI
    obtain ⟨u259, hI⟩ := hI
    obtain ⟨u260, hI⟩ := hI
    obtain ⟨u261, hI⟩ := hI
    obtain ⟨u262, hI⟩ := hI
    obtain ⟨u263, hI⟩ := hI
    obtain ⟨u264, hI⟩ := hI
    obtain ⟨u265, hI⟩ := hI
    obtain ⟨u266, hI⟩ := hI
    obtain ⟨u267, hI⟩ := hI
    obtain ⟨u268, hI⟩ := hI
    obtain ⟨u269, hI⟩ := hI
    obtain ⟨u270, hI⟩ := hI
    obtain ⟨u271, hI⟩ := hI
    obtain ⟨u272, hI⟩ := hI
    obtain ⟨u273, hI⟩ := hI
    obtain ⟨u274, hI⟩ := hI
    obtain ⟨u275, hI⟩ := hI
    obtain ⟨u276, hI⟩ := hI
    obtain ⟨⟨hi, vM, vI, vD, bM, bI, bD, htb, hbG, hbel, hrows⟩, ha⟩ := hI
    subst ha
    by_cases hle : i ≤ read.size
    · have hleI : (i : Int) ≤ read.size := by omega
      have hsz := hbel.size
      obtain ⟨aM, cM, hvM⟩ := htb.oM.shape
      obtain ⟨aI, cI, hvI⟩ := htb.oI.shape
      obtain ⟨aD, cD, hvD⟩ := htb.oD.shape
      subst hvM
      subst hvI
      subst hvD
      obtain ⟨w1, hw1⟩ : ∃ x : World, x = wr := ⟨_, rfl⟩
      subst hw1
      have HT1 : Hid (Tb read ref w.heap.size w1 G i i i (.slice aM i cM) (.slice aI i cI) (.slice aD i cD) bM bI bD) := htb
      have HB1 : Hid (Below w.heap.size w w1) := hbel
      have HR1 : Hid (∀ t, t < i → RP w1 (bM t) (ref.size + 1) (ref.size + 1) (fun j => (cel 1000000000 (uR read ref) t j).m) ∧ RP w1 (bI t) (ref.size + 1) (ref.size + 1) (fun j => (cel 1000000000 (uR read ref) t j).i) ∧ RP w1 (bD t) (ref.size + 1) (ref.size + 1) (fun j => (cel 1000000000 (uR read ref) t j).d)) := hrows
      have hlG := lt_of_block htb.hG
      clear htb hbel hrows
      go_upto_region 5 with fail
      have f0 : w1.cell? ⟨G, 2, none⟩ = some (.slice aM i cM) := cell_at HT1.out.hG rfl
      refine wp_region_X 13 (fun W => W.cell? ⟨G, 2, none⟩ = some (.slice aM i cM)) (by kernel_rfl) f0 (fun hH => ?_)
      refine wpAnyX_take (i := 0) (v := ?_) rfl (by kernel_rfl) (by kernel_rfl) (by kernel_rfl) (by kernel_rfl) (fun _ _ _ h => h) (Or.inl ⟨by rfl, ?_⟩) hH ?_
      rotate_left
      · intro W hS; (try dsimp only at hS); go_simp; all_goals (with_reducible rfl)
      try simp only [Act.put, List.setIfInBounds_toArray, List.set_cons_zero, List.set_cons_succ]
      refine wpAnyX_take (i := 1) (v := ?_) rfl (by kernel_rfl) (by kernel_rfl) (by kernel_rfl) (by kernel_rfl) (fun _ _ _ h => h) (Or.inl ⟨by rfl, ?_⟩) hH ?_
      rotate_left
      · intro W hS; (try dsimp only at hS); go_simp; all_goals (with_reducible rfl)
      try simp only [Act.put, List.setIfInBounds_toArray, List.set_cons_zero, List.set_cons_succ]
      refine wpAnyX_take (i := 2) (v := ?_) rfl (by kernel_rfl) (by kernel_rfl) (by kernel_rfl) (by kernel_rfl) (fun _ _ _ h => h) (Or.inl ⟨by rfl, ?_⟩) hH ?_
      rotate_left
      · intro W hS; (try dsimp only at hS); go_simp; all_goals (with_reducible rfl)
      try simp only [Act.put, List.setIfInBounds_toArray, List.set_cons_zero, List.set_cons_succ]
      refine wpAnyX_take (i := 3) (v := ?_) rfl (by kernel_rfl) (by kernel_rfl) (by kernel_rfl) (by kernel_rfl) (fun _ _ _ h => h) (Or.inl ⟨by rfl, ?_⟩) hH ?_
      rotate_left
      · intro W hS; (try dsimp only at hS); go_simp; all_goals (with_reducible rfl)
      try simp only [Act.put, List.setIfInBounds_toArray, List.set_cons_zero, List.set_cons_succ]
      refine wpAnyX_take (i := 4) (v := ?_) rfl (by kernel_rfl) (by kernel_rfl) (by kernel_rfl) (by kernel_rfl) (fun _ _ _ h => h) (Or.inl ⟨by rfl, ?_⟩) hH ?_
      rotate_left
      · intro W hS; (try dsimp only at hS); go_simp; all_goals (with_reducible rfl)
      try simp only [Act.put, List.setIfInBounds_toArray, List.set_cons_zero, List.set_cons_succ]
      refine wpAnyX_take (i := 5) (v := ?_) rfl (by kernel_rfl) (by kernel_rfl) (by kernel_rfl) (by kernel_rfl) (fun _ _ _ h => h) (Or.inl ⟨by rfl, ?_⟩) hH ?_
      rotate_left
      · intro W hS; (try dsimp only at hS); go_simp; all_goals (with_reducible rfl)
      try simp only [Act.put, List.setIfInBounds_toArray, List.set_cons_zero, List.set_cons_succ]
      refine wpAnyX_take (i := 6) (v := ?_) rfl (by kernel_rfl) (by kernel_rfl) (by kernel_rfl) (by kernel_rfl) (fun _ _ _ h => h) (Or.inl ⟨by rfl, ?_⟩) hH ?_
      rotate_left
      · intro W hS; (try dsimp only at hS); go_simp; all_goals (with_reducible rfl)
      try simp only [Act.put, List.setIfInBounds_toArray, List.set_cons_zero, List.set_cons_succ]
      refine wpAnyX_take (i := 7) (v := ?_) rfl (by kernel_rfl) (by kernel_rfl) (by kernel_rfl) (by kernel_rfl) (fun _ _ _ h => h) (Or.inl ⟨by rfl, ?_⟩) hH ?_
      rotate_left
      · intro W hS; (try dsimp only at hS); go_simp; all_goals (with_reducible rfl)
      try simp only [Act.put, List.setIfInBounds_toArray, List.set_cons_zero, List.set_cons_succ]
      refine wpAnyX_step (i := 8) (by kernel_rfl) rfl (by kernel_rfl) (fun K hK => ?_)
      go_simp
      have g0 : ∀ ob, (w1.drew.alloc ob).cell? ⟨G, 2, none⟩ = some (.slice aM i cM) := fun ob => (World.cell?_of_block (Below.heap_alloc w1.drew ob G hlG)).trans f0
      refine hK.out _ _ (g0 _) ?_
      clear hK K hH
      try simp only [Act.put, List.setIfInBounds_toArray, List.set_cons_zero, List.set_cons_succ]
      refine wpAnyX_step (i := 9) (by kernel_rfl) rfl (by kernel_rfl) (fun K hK => ?_)
      go_simp
      have k0 : ∀ oa ob, ((w1.drew.alloc oa).alloc ob).cell? ⟨G, 2, none⟩ = some (.slice aM i cM) := fun oa ob => (World.cell?_of_block (Below.heap_alloc (w1.drew.alloc oa) ob G (by simp; exact Nat.lt_succ_of_lt hlG))).trans (g0 oa)
      refine hK.out _ _ (k0 _ _) ?_
      clear hK K
      try simp only [Act.put, List.setIfInBounds_toArray, List.set_cons_zero, List.set_cons_succ]
      refine wpAnyX_step (i := 10) (by kernel_rfl) rfl (by kernel_rfl) (fun K hK => ?_)
      refine step_own rfl (.tmp 24) (.tmp 29) 70 rfl 26 is _ 1 24 Tryd.underlying70 his hs0 hs1 hs2 rfl (by decide) w.heap.size (.slice aM i cM) i (rowsV bM i ref.size) (by simp [Act.eval]) (by exact ((HT1.out.oM.drewN 1).alloc _).alloc _) ⟨w1.heap.size + 1, 0, none⟩ 1 [.slice (some ⟨w1.heap.size, 0, none⟩) (ref.size + 1) (ref.size + 1)] (by simp [Act.eval]) rfl (by exact box_at _ [.slice (some ⟨w1.heap.size, 0, none⟩) (ref.size + 1) (ref.size + 1)] 26 _ (by simp)) (by intro u hu; simp only [List.mem_cons, List.not_mem_nil, or_false] at hu; subst hu; rfl) (by unfold maxLen; omega) (by omega) (by simp; omega) ?_
      intro gM oM cM' wM hownM hfrM
      have HT1d : Tb read ref w.heap.size w1.drew G i i i (.slice aM i cM) (.slice aI i cI) (.slice aD i cD) bM bI bD := ⟨HT1.out.hG, HT1.out.oM, HT1.out.oI, HT1.out.oD, HT1.out.dMI, HT1.out.dMD, HT1.out.dID⟩
      obtain ⟨t0, m0, e0, hGc0⟩ := HT1d.addM hsz hbG Z HZ.out gM oM cM' hownM hfrM
      have HT2x := (show Hid _ from t0)
      have HMD0 := (show Hid _ from m0)
      have HBE0 := (show Hid _ from e0)
      have cc0 : wM.cell? ⟨G, 2, none⟩ = some (.slice aM i cM) := cell_at hGc0 rfl
      have fz0 : wM.frozen? ⟨G, 2, none⟩ = false := frozen_of_row _ _ _ _ _ hGc0
      have hH : wM.cell? ⟨G, 2, none⟩ = some (.slice aM i cM) := cc0
      clear t0 m0 e0 hGc0 HT1d hownM hfrM g0 k0
      refine hK.out _ _ hH ?_
      clear hK K
      try simp only [Act.put, List.setIfInBounds_toArray, List.set_cons_zero, List.set_cons_succ]
      refine wpAnyX_step (i := 11) (by kernel_rfl) rfl (by kernel_rfl) (fun K hK => ?_)
      go_simp
      refine hK.out _ _ hH ?_
      clear hK K
      try simp only [Act.put, List.setIfInBounds_toArray, List.set_cons_zero, List.set_cons_succ]
      refine wpAnyX_step (i := 12) (by kernel_rfl) rfl (by kernel_rfl) (fun K hK => ?_)
      go_simp
      refine hK.out _ _ hH ?_
      clear hK K
      try simp only [Act.put, List.setIfInBounds_toArray, List.set_cons_zero, List.set_cons_succ]
      refine wpAnyX_last (i := 13) (by kernel_rfl) rfl (by kernel_rfl) (by kernel_rfl) (fun K hK => ?_)
      go_simp
      refine hK.out _ _ ?_
      clear hK K hH
      try simp only [Act.put, List.setIfInBounds_toArray, List.set_cons_zero, List.set_cons_succ]
      obtain ⟨w2, hw2⟩ : ∃ x : World, x = wM.setCell ⟨G, 2, none⟩ (.slice (some ⟨gM, oM, none⟩) (i + 1) cM') := ⟨_, rfl⟩
      rw [← hw2] at HT2x HMD0 HBE0 ⊢
      obtain ⟨bM2, hbM2⟩ : ∃ b : Nat → Nat, b = (fun t => if t = i then w1.drew.heap.size else bM t) := ⟨_, rfl⟩
      rw [← hbM2] at HT2x
      have HBX0 : Hid (bM2 = fun t => if t = i then w1.heap.size else bM t) := hbM2
      have HT2 : Hid (Tb read ref w.heap.size w2 G (i + 1) i i (.slice (some ⟨gM, oM, none⟩) (i + 1) cM') (.slice aI i cI) (.slice aD i cD) bM2 bI bD) := HT2x
      have HMA0 : Hid (Made w1 w2 w1.heap.size ref.size) := ⟨HMD0.out.row, fun c n j f hc => HMD0.out.old c n j f (hc.other rfl), Nat.le_refl _⟩
      have HBB0 : Hid (Below w.heap.size w1 w2) := ⟨HBE0.out.os, HBE0.out.tape, HBE0.out.output, HBE0.out.size, HBE0.out.block⟩
      have hsz0 := HBB0.out.size
      clear HT2x HMD0 HBE0 hw2 hbM2 cc0 fz0 f0
      have hlG : G < w2.heap.size := lt_of_block HT2.out.hG
      have hsz : w.heap.size ≤ w2.heap.size := by omega
      go_upto_region 6 with fail
      have f1 : w2.cell? ⟨G, 3, none⟩ = some (.slice aI i cI) := cell_at HT2.out.hG rfl
      refine wp_region_X 13 (fun W => W.cell? ⟨G, 3, none⟩ = some (.slice aI i cI)) (by kernel_rfl) f1 (fun hH => ?_)
      refine wpAnyX_take (i := 0) (v := ?_) rfl (by kernel_rfl) (by kernel_rfl) (by kernel_rfl) (by kernel_rfl) (fun _ _ _ h => h) (Or.inl ⟨by rfl, ?_⟩) hH ?_
      rotate_left
      · intro W hS; (try dsimp only at hS); go_simp; all_goals (with_reducible rfl)
      try simp only [Act.put, List.setIfInBounds_toArray, List.set_cons_zero, List.set_cons_succ]
      refine wpAnyX_take (i := 1) (v := ?_) rfl (by kernel_rfl) (by kernel_rfl) (by kernel_rfl) (by kernel_rfl) (fun _ _ _ h => h) (Or.inl ⟨by rfl, ?_⟩) hH ?_
      rotate_left
      · intro W hS; (try dsimp only at hS); go_simp; all_goals (with_reducible rfl)
      try simp only [Act.put, List.setIfInBounds_toArray, List.set_cons_zero, List.set_cons_succ]
      refine wpAnyX_take (i := 2) (v := ?_) rfl (by kernel_rfl) (by kernel_rfl) (by kernel_rfl) (by kernel_rfl) (fun _ _ _ h => h) (Or.inl ⟨by rfl, ?_⟩) hH ?_
      rotate_left
      · intro W hS; (try dsimp only at hS); go_simp; all_goals (with_reducible rfl)
      try simp only [Act.put, List.setIfInBounds_toArray, List.set_cons_zero, List.set_cons_succ]
      refine wpAnyX_take (i := 3) (v := ?_) rfl (by kernel_rfl) (by kernel_rfl) (by kernel_rfl) (by kernel_rfl) (fun _ _ _ h => h) (Or.inl ⟨by rfl, ?_⟩) hH ?_
      rotate_left
      · intro W hS; (try dsimp only at hS); go_simp; all_goals (with_reducible rfl)
      try simp only [Act.put, List.setIfInBounds_toArray, List.set_cons_zero, List.set_cons_succ]
      refine wpAnyX_take (i := 4) (v := ?_) rfl (by kernel_rfl) (by kernel_rfl) (by kernel_rfl) (by kernel_rfl) (fun _ _ _ h => h) (Or.inl ⟨by rfl, ?_⟩) hH ?_
      rotate_left
      · intro W hS; (try dsimp only at hS); go_simp; all_goals (with_reducible rfl)
      try simp only [Act.put, List.setIfInBounds_toArray, List.set_cons_zero, List.set_cons_succ]
      refine wpAnyX_take (i := 5) (v := ?_) rfl (by kernel_rfl) (by kernel_rfl) (by kernel_rfl) (by kernel_rfl) (fun _ _ _ h => h) (Or.inl ⟨by rfl, ?_⟩) hH ?_
      rotate_left
      · intro W hS; (try dsimp only at hS); go_simp; all_goals (with_reducible rfl)
      try simp only [Act.put, List.setIfInBounds_toArray, List.set_cons_zero, List.set_cons_succ]
      refine wpAnyX_take (i := 6) (v := ?_) rfl (by kernel_rfl) (by kernel_rfl) (by kernel_rfl) (by kernel_rfl) (fun _ _ _ h => h) (Or.inl ⟨by rfl, ?_⟩) hH ?_
      rotate_left
      · intro W hS; (try dsimp only at hS); go_simp; all_goals (with_reducible rfl)
      try simp only [Act.put, List.setIfInBounds_toArray, List.set_cons_zero, List.set_cons_succ]
      refine wpAnyX_take (i := 7) (v := ?_) rfl (by kernel_rfl) (by kernel_rfl) (by kernel_rfl) (by kernel_rfl) (fun _ _ _ h => h) (Or.inl ⟨by rfl, ?_⟩) hH ?_
      rotate_left
      · intro W hS; (try dsimp only at hS); go_simp; all_goals (with_reducible rfl)
      try simp only [Act.put, List.setIfInBounds_toArray, List.set_cons_zero, List.set_cons_succ]
      refine wpAnyX_step (i := 8) (by kernel_rfl) rfl (by kernel_rfl) (fun K hK => ?_)
      go_simp
      have g1 : ∀ ob, (w2.drew.alloc ob).cell? ⟨G, 3, none⟩ = some (.slice aI i cI) := fun ob => (World.cell?_of_block (Below.heap_alloc w2.drew ob G hlG)).trans f1
      refine hK.out _ _ (g1 _) ?_
      clear hK K hH
      try simp only [Act.put, List.setIfInBounds_toArray, List.set_cons_zero, List.set_cons_succ]
      refine wpAnyX_step (i := 9) (by kernel_rfl) rfl (by kernel_rfl) (fun K hK => ?_)
      go_simp
      have k1 : ∀ oa ob, ((w2.drew.alloc oa).alloc ob).cell? ⟨G, 3, none⟩ = some (.slice aI i cI) := fun oa ob => (World.cell?_of_block (Below.heap_alloc (w2.drew.alloc oa) ob G (by simp; exact Nat.lt_succ_of_lt hlG))).trans (g1 oa)
      refine hK.out _ _ (k1 _ _) ?_
      clear hK K
      try simp only [Act.put, List.setIfInBounds_toArray, List.set_cons_zero, List.set_cons_succ]
      refine wpAnyX_step (i := 10) (by kernel_rfl) rfl (by kernel_rfl) (fun K hK => ?_)
      refine step_own rfl (.tmp 37) (.tmp 42) 70 rfl 26 is _ 1 24 Tryd.underlying70 his hs0 hs1 hs2 rfl (by decide) w.heap.size (.slice aI i cI) i (rowsV bI i ref.size) (by simp [Act.eval]) (by exact ((HT2.out.oI.drewN 1).alloc _).alloc _) ⟨w2.heap.size + 1, 0, none⟩ 1 [.slice (some ⟨w2.heap.size, 0, none⟩) (ref.size + 1) (ref.size + 1)] (by simp [Act.eval]) rfl (by exact box_at _ [.slice (some ⟨w2.heap.size, 0, none⟩) (ref.size + 1) (ref.size + 1)] 26 _ (by simp)) (by intro u hu; simp only [List.mem_cons, List.not_mem_nil, or_false] at hu; subst hu; rfl) (by unfold maxLen; omega) (by omega) (by simp; omega) ?_
      intro gI oI cI' wI hownI hfrI
      have HT2d : Tb read ref w.heap.size w2.drew G (i + 1) i i (.slice (some ⟨gM, oM, none⟩) (i + 1) cM') (.slice aI i cI) (.slice aD i cD) bM2 bI bD := ⟨HT2.out.hG, HT2.out.oM, HT2.out.oI, HT2.out.oD, HT2.out.dMI, HT2.out.dMD, HT2.out.dID⟩
      obtain ⟨t1, m1, e1, hGc1⟩ := HT2d.addI hsz hbG Z HZ.out gI oI cI' hownI hfrI
      have HT3x := (show Hid _ from t1)
      have HMD1 := (show Hid _ from m1)
      have HBE1 := (show Hid _ from e1)
      have cc1 : wI.cell? ⟨G, 3, none⟩ = some (.slice aI i cI) := cell_at hGc1 rfl
      have fz1 : wI.frozen? ⟨G, 3, none⟩ = false := frozen_of_row _ _ _ _ _ hGc1
      have hH : wI.cell? ⟨G, 3, none⟩ = some (.slice aI i cI) := cc1
      clear t1 m1 e1 hGc1 HT2d hownI hfrI g1 k1
      refine hK.out _ _ hH ?_
      clear hK K
      try simp only [Act.put, List.setIfInBounds_toArray, List.set_cons_zero, List.set_cons_succ]
      refine wpAnyX_step (i := 11) (by kernel_rfl) rfl (by kernel_rfl) (fun K hK => ?_)
      go_simp
      refine hK.out _ _ hH ?_
      clear hK K
      try simp only [Act.put, List.setIfInBounds_toArray, List.set_cons_zero, List.set_cons_succ]
      refine wpAnyX_step (i := 12) (by kernel_rfl) rfl (by kernel_rfl) (fun K hK => ?_)
      go_simp
      refine hK.out _ _ hH ?_
      clear hK K
      try simp only [Act.put, List.setIfInBounds_toArray, List.set_cons_zero, List.set_cons_succ]
      refine wpAnyX_last (i := 13) (by kernel_rfl) rfl (by kernel_rfl) (by kernel_rfl) (fun K hK => ?_)
      go_simp
      refine hK.out _ _ ?_
      clear hK K hH
      try simp only [Act.put, List.setIfInBounds_toArray, List.set_cons_zero, List.set_cons_succ]
      obtain ⟨w3, hw3⟩ : ∃ x : World, x = wI.setCell ⟨G, 3, none⟩ (.slice (some ⟨gI, oI, none⟩) (i + 1) cI') := ⟨_, rfl⟩
      rw [← hw3] at HT3x HMD1 HBE1 ⊢
      obtain ⟨bI2, hbI2⟩ : ∃ b : Nat → Nat, b = (fun t => if t = i then w2.drew.heap.size else bI t) := ⟨_, rfl⟩
      rw [← hbI2] at HT3x
      have HBX1 : Hid (bI2 = fun t => if t = i then w2.heap.size else bI t) := hbI2
      have HT3 : Hid (Tb read ref w.heap.size w3 G (i + 1) (i + 1) i (.slice (some ⟨gM, oM, none⟩) (i + 1) cM') (.slice (some ⟨gI, oI, none⟩) (i + 1) cI') (.slice aD i cD) bM2 bI2 bD) := HT3x
      have HMA1 : Hid (Made w2 w3 w2.heap.size ref.size) := ⟨HMD1.out.row, fun c n j f hc => HMD1.out.old c n j f (hc.other rfl), Nat.le_refl _⟩
      have HBB1 : Hid (Below w.heap.size w2 w3) := ⟨HBE1.out.os, HBE1.out.tape, HBE1.out.output, HBE1.out.size, HBE1.out.block⟩
      have hsz1 := HBB1.out.size
      clear HT3x HMD1 HBE1 hw3 hbI2 cc1 fz1 f1
      have hlG : G < w3.heap.size := lt_of_block HT3.out.hG
      have hsz : w.heap.size ≤ w3.heap.size := by omega
      go_upto_region 7 with fail
      have f2 : w3.cell? ⟨G, 4, none⟩ = some (.slice aD i cD) := cell_at HT3.out.hG rfl
      refine wp_region_X 13 (fun W => W.cell? ⟨G, 4, none⟩ = some (.slice aD i cD)) (by kernel_rfl) f2 (fun hH => ?_)
      refine wpAnyX_take (i := 0) (v := ?_) rfl (by kernel_rfl) (by kernel_rfl) (by kernel_rfl) (by kernel_rfl) (fun _ _ _ h => h) (Or.inl ⟨by rfl, ?_⟩) hH ?_
      rotate_left
      · intro W hS; (try dsimp only at hS); go_simp; all_goals (with_reducible rfl)
      try simp only [Act.put, List.setIfInBounds_toArray, List.set_cons_zero, List.set_cons_succ]
      refine wpAnyX_take (i := 1) (v := ?_) rfl (by kernel_rfl) (by kernel_rfl) (by kernel_rfl) (by kernel_rfl) (fun _ _ _ h => h) (Or.inl ⟨by rfl, ?_⟩) hH ?_
      rotate_left
      · intro W hS; (try dsimp only at hS); go_simp; all_goals (with_reducible rfl)
      try simp only [Act.put, List.setIfInBounds_toArray, List.set_cons_zero, List.set_cons_succ]
      refine wpAnyX_take (i := 2) (v := ?_) rfl (by kernel_rfl) (by kernel_rfl) (by kernel_rfl) (by kernel_rfl) (fun _ _ _ h => h) (Or.inl ⟨by rfl, ?_⟩) hH ?_
      rotate_left
      · intro W hS; (try dsimp only at hS); go_simp; all_goals (with_reducible rfl)
      try simp only [Act.put, List.setIfInBounds_toArray, List.set_cons_zero, List.set_cons_succ]
      refine wpAnyX_take (i := 3) (v := ?_) rfl (by kernel_rfl) (by kernel_rfl) (by kernel_rfl) (by kernel_rfl) (fun _ _ _ h => h) (Or.inl ⟨by rfl, ?_⟩) hH ?_
      rotate_left
      · intro W hS; (try dsimp only at hS); go_simp; all_goals (with_reducible rfl)
      try simp only [Act.put, List.setIfInBounds_toArray, List.set_cons_zero, List.set_cons_succ]
      refine wpAnyX_take (i := 4) (v := ?_) rfl (by kernel_rfl) (by kernel_rfl) (by kernel_rfl) (by kernel_rfl) (fun _ _ _ h => h) (Or.inl ⟨by rfl, ?_⟩) hH ?_
      rotate_left
      · intro W hS; (try dsimp only at hS); go_simp; all_goals (with_reducible rfl)
      try simp only [Act.put, List.setIfInBounds_toArray, List.set_cons_zero, List.set_cons_succ]
      refine wpAnyX_take (i := 5) (v := ?_) rfl (by kernel_rfl) (by kernel_rfl) (by kernel_rfl) (by kernel_rfl) (fun _ _ _ h => h) (Or.inl ⟨by rfl, ?_⟩) hH ?_
      rotate_left
      · intro W hS; (try dsimp only at hS); go_simp; all_goals (with_reducible rfl)
      try simp only [Act.put, List.setIfInBounds_toArray, List.set_cons_zero, List.set_cons_succ]
      refine wpAnyX_take (i := 6) (v := ?_) rfl (by kernel_rfl) (by kernel_rfl) (by kernel_rfl) (by kernel_rfl) (fun _ _ _ h => h) (Or.inl ⟨by rfl, ?_⟩) hH ?_
      rotate_left
      · intro W hS; (try dsimp only at hS); go_simp; all_goals (with_reducible rfl)
      try simp only [Act.put, List.setIfInBounds_toArray, List.set_cons_zero, List.set_cons_succ]
      refine wpAnyX_take (i := 7) (v := ?_) rfl (by kernel_rfl) (by kernel_rfl) (by kernel_rfl) (by kernel_rfl) (fun _ _ _ h => h) (Or.inl ⟨by rfl, ?_⟩) hH ?_
      rotate_left
      · intro W hS; (try dsimp only at hS); go_simp; all_goals (with_reducible rfl)
      try simp only [Act.put, List.setIfInBounds_toArray, List.set_cons_zero, List.set_cons_succ]
      refine wpAnyX_step (i := 8) (by kernel_rfl) rfl (by kernel_rfl) (fun K hK => ?_)
      go_simp
      have g2 : ∀ ob, (w3.drew.alloc ob).cell? ⟨G, 4, none⟩ = some (.slice aD i cD) := fun ob => (World.cell?_of_block (Below.heap_alloc w3.drew ob G hlG)).trans f2
      refine hK.out _ _ (g2 _) ?_
      clear hK K hH
      try simp only [Act.put, List.setIfInBounds_toArray, List.set_cons_zero, List.set_cons_succ]
      refine wpAnyX_step (i := 9) (by kernel_rfl) rfl (by kernel_rfl) (fun K hK => ?_)
      go_simp
      have k2 : ∀ oa ob, ((w3.drew.alloc oa).alloc ob).cell? ⟨G, 4, none⟩ = some (.slice aD i cD) := fun oa ob => (World.cell?_of_block (Below.heap_alloc (w3.drew.alloc oa) ob G (by simp; exact Nat.lt_succ_of_lt hlG))).trans (g2 oa)
      refine hK.out _ _ (k2 _ _) ?_
      clear hK K
      try simp only [Act.put, List.setIfInBounds_toArray, List.set_cons_zero, List.set_cons_succ]
      refine wpAnyX_step (i := 10) (by kernel_rfl) rfl (by kernel_rfl) (fun K hK => ?_)
      refine step_own rfl (.tmp 50) (.tmp 55) 70 rfl 26 is _ 1 24 Tryd.underlying70 his hs0 hs1 hs2 rfl (by decide) w.heap.size (.slice aD i cD) i (rowsV bD i ref.size) (by simp [Act.eval]) (by exact ((HT3.out.oD.drewN 1).alloc _).alloc _) ⟨w3.heap.size + 1, 0, none⟩ 1 [.slice (some ⟨w3.heap.size, 0, none⟩) (ref.size + 1) (ref.size + 1)] (by simp [Act.eval]) rfl (by exact box_at _ [.slice (some ⟨w3.heap.size, 0, none⟩) (ref.size + 1) (ref.size + 1)] 26 _ (by simp)) (by intro u hu; simp only [List.mem_cons, List.not_mem_nil, or_false] at hu; subst hu; rfl) (by unfold maxLen; omega) (by omega) (by simp; omega) ?_
      intro gD oD cD' wD hownD hfrD
      have HT3d : Tb read ref w.heap.size w3.drew G (i + 1) (i + 1) i (.slice (some ⟨gM, oM, none⟩) (i + 1) cM') (.slice (some ⟨gI, oI, none⟩) (i + 1) cI') (.slice aD i cD) bM2 bI2 bD := ⟨HT3.out.hG, HT3.out.oM, HT3.out.oI, HT3.out.oD, HT3.out.dMI, HT3.out.dMD, HT3.out.dID⟩
      obtain ⟨t2, m2, e2, hGc2⟩ := HT3d.addD hsz hbG Z HZ.out gD oD cD' hownD hfrD
      have HT4x := (show Hid _ from t2)
      have HMD2 := (show Hid _ from m2)
      have HBE2 := (show Hid _ from e2)
      have cc2 : wD.cell? ⟨G, 4, none⟩ = some (.slice aD i cD) := cell_at hGc2 rfl
      have fz2 : wD.frozen? ⟨G, 4, none⟩ = false := frozen_of_row _ _ _ _ _ hGc2
      have hH : wD.cell? ⟨G, 4, none⟩ = some (.slice aD i cD) := cc2
      clear t2 m2 e2 hGc2 HT3d hownD hfrD g2 k2
      refine hK.out _ _ hH ?_
      clear hK K
      try simp only [Act.put, List.setIfInBounds_toArray, List.set_cons_zero, List.set_cons_succ]
      refine wpAnyX_step (i := 11) (by kernel_rfl) rfl (by kernel_rfl) (fun K hK => ?_)
      go_simp
      refine hK.out _ _ hH ?_
      clear hK K
      try simp only [Act.put, List.setIfInBounds_toArray, List.set_cons_zero, List.set_cons_succ]
      refine wpAnyX_step (i := 12) (by kernel_rfl) rfl (by kernel_rfl) (fun K hK => ?_)
      go_simp
      refine hK.out _ _ hH ?_
      clear hK K
      try simp only [Act.put, List.setIfInBounds_toArray, List.set_cons_zero, List.set_cons_succ]
      refine wpAnyX_last (i := 13) (by kernel_rfl) rfl (by kernel_rfl) (by kernel_rfl) (fun K hK => ?_)
      go_simp
      refine hK.out _ _ ?_
      clear hK K hH
      try simp only [Act.put, List.setIfInBounds_toArray, List.set_cons_zero, List.set_cons_succ]
      obtain ⟨w4, hw4⟩ : ∃ x : World, x = wD.setCell ⟨G, 4, none⟩ (.slice (some ⟨gD, oD, none⟩) (i + 1) cD') := ⟨_, rfl⟩
      rw [← hw4] at HT4x HMD2 HBE2 ⊢
      obtain ⟨bD2, hbD2⟩ : ∃ b : Nat → Nat, b = (fun t => if t = i then w3.drew.heap.size else bD t) := ⟨_, rfl⟩
      rw [← hbD2] at HT4x
      have HBX2 : Hid (bD2 = fun t => if t = i then w3.heap.size else bD t) := hbD2
      have HT4 : Hid (Tb read ref w.heap.size w4 G (i + 1) (i + 1) (i + 1) (.slice (some ⟨gM, oM, none⟩) (i + 1) cM') (.slice (some ⟨gI, oI, none⟩) (i + 1) cI') (.slice (some ⟨gD, oD, none⟩) (i + 1) cD') bM2 bI2 bD2) := HT4x
      have HMA2 : Hid (Made w3 w4 w3.heap.size ref.size) := ⟨HMD2.out.row, fun c n j f hc => HMD2.out.old c n j f (hc.other rfl), Nat.le_refl _⟩
      have HBB2 : Hid (Below w.heap.size w3 w4) := ⟨HBE2.out.os, HBE2.out.tape, HBE2.out.output, HBE2.out.size, HBE2.out.block⟩
      have hsz2 := HBB2.out.size
      clear HT4x HMD2 HBE2 hw4 hbD2 cc2 fz2 f2
      obtain ⟨p, hp⟩ : ∃ p, p = w1.heap.size := ⟨_, rfl⟩
      obtain ⟨q, hq⟩ : ∃ q, q = w2.heap.size := ⟨_, rfl⟩
      obtain ⟨r, hr⟩ : ∃ r, r = w3.heap.size := ⟨_, rfl⟩
      rw [← hp] at HMA0 HBX0
      rw [← hq] at HMA1 HBX1
      rw [← hr] at HMA2 HBX2
      have hp2 := fun f => HMA0.out.row f
      have hp3 := fun f => HMA1.out.old _ _ _ _ (hp2 f)
      have hp4 := fun f => HMA2.out.old _ _ _ _ (hp3 f).1
      have hq3 := fun f => HMA1.out.row f
      have hq4 := fun f => HMA2.out.old _ _ _ _ (hq3 f)
      have hr4 := fun f => HMA2.out.row f
      have hpq : p ≠ q := (hp3 (fun _ => 0)).2
      have hpr : p ≠ r := (hp4 (fun _ => 0)).2
      have hqr : q ≠ r := (hq4 (fun _ => 0)).2
      have HROW4 : Hid (∀ t, t < i → (RP w4 (bM2 t) (ref.size + 1) (ref.size + 1) (fun j => (cel 1000000000 (uR read ref) t j).m) ∧ RP w4 (bI2 t) (ref.size + 1) (ref.size + 1) (fun j => (cel 1000000000 (uR read ref) t j).i) ∧ RP w4 (bD2 t) (ref.size + 1) (ref.size + 1) (fun j => (cel 1000000000 (uR read ref) t j).d)) ∧ (bM2 t ≠ p ∧ bM2 t ≠ q ∧ bM2 t ≠ r) ∧ (bI2 t ≠ p ∧ bI2 t ≠ q ∧ bI2 t ≠ r) ∧ (bD2 t ≠ p ∧ bD2 t ≠ q ∧ bD2 t ≠ r)) := by
        intro t ht
        obtain ⟨x1, x2, x3⟩ := HR1.out t ht
        have up : ∀ c n j f, RP w1 c n j f → RP w4 c n j f ∧ c ≠ p ∧ c ≠ q ∧ c ≠ r := by
          intro c n j f hc
          have a1 := HMA0.out.old _ _ _ _ hc
          have a2 := HMA1.out.old _ _ _ _ a1.1
          have a3 := HMA2.out.old _ _ _ _ a2.1
          exact ⟨a3.1, a1.2, a2.2, a3.2⟩
        have eM : bM2 t = bM t := by rw [HBX0.out]; simp only; rw [if_neg (by omega)]
        have eI : bI2 t = bI t := by rw [HBX1.out]; simp only; rw [if_neg (by omega)]
        have eD : bD2 t = bD t := by rw [HBX2.out]; simp only; rw [if_neg (by omega)]
        rw [eM, eI, eD]
        exact ⟨⟨(up _ _ _ _ x1).1, (up _ _ _ _ x2).1, (up _ _ _ _ x3).1⟩, (up _ _ _ _ x1).2, (up _ _ _ _ x2).2, (up _ _ _ _ x3).2⟩
      have ePM : bM2 i = p := by rw [HBX0.out]; simp
      have ePI : bI2 i = q := by rw [HBX1.out]; simp
      have ePD : bD2 i = r := by rw [HBX2.out]; simp
      have HP4 : Hid (∀ f, RP w4 p (ref.size + 1) 0 f) := fun f => (hp4 f).1
      have HQ4 : Hid (∀ f, RP w4 q (ref.size + 1) 0 f) := fun f => (hq4 f).1
      have HR4 : Hid (∀ f, RP w4 r (ref.size + 1) 0 f) := hr4
      have HGF : Hid (∀ W, But3 w4 W p q r → GF read ref W G i (.slice (some ⟨gM, oM, none⟩) (i + 1) cM') (.slice (some ⟨gI, oI, none⟩) (i + 1) cI') (.slice (some ⟨gD, oD, none⟩) (i + 1) cD') gM oM gI oI gD oD bM2 bI2 bD2) := fun W hb => HT4.out.gf HP4.out HQ4.out HR4.out HROW4.out hb
      have HB4 : Hid (Below w.heap.size w w4) := ((HB1.out.trans HBB0.out).trans HBB1.out).trans HBB2.out
      have HGEP : Hid (w.heap.size ≤ p ∧ w.heap.size ≤ q ∧ w.heap.size ≤ r) := ⟨by omega, by omega, by omega⟩
      have HEP : Hid (bM2 i = p ∧ bI2 i = q ∧ bD2 i = r) := ⟨ePM, ePI, ePD⟩
      clear hp2 hp3 hp4 hq3 hq4 hr4 ePM ePI ePD hp hq hr HMA0 HMA1 HMA2 HBX0 HBX1 HBX2 HBB0 HBB1 HBB2 HR1 HB1 hsz0 hsz1 hsz2
      have HTB4 := HT4
      go_wp2_with fail
      refine j_loop read ref hn hm w4 G i gM oM cM' gI oI cI' gD oD cD' p q r bM2 bI2 bD2 hle HGF.out HEP.out hpq hpr hqr _ ?_ ?_ _ rfl _ _ _ _ _ _ _ _ _ _ _ _ _ _ _ _ _ _ _ _ _ _ _ _ _ _ _ _ _ _ _ _ _ _ _ _ _ _ _ _ _ _ _ _ _ _ _ _ _ _ _ _ _ _ _ _ _ _ _ _ _ _ _ _ _ _ _ _ _ _ _ _ _ _ _ _ _ _ _ _ _ _ _ _ _ _ _ _ _ _ _ _ _ _ _ _ _ _ _ _ _ _ _ _ _ _ _ _ _ _ _ _ _ _ _ _ _ _ _ _ _ _ _ _ _ _ _ _ _ _ _ _ _ _ _ _ _ _ _ _ _ _ _ _ _ _ _ _ _ _ _ _ _ _ _ _ _ _ _ _ _ _ _ _ _ _ _ _ _ _ _ _ _ _ _ _ _ _ _ _ _ _ _ _ _ _ _ _ _ _ _ _ _ _ _ _ _ _ _ _ _ _ _ _ _ _ _ _ _ _ _ _ _ _ _ _ _ _ _ _ _ _ _ _ _ _ _ _ _ _ _ _ _ _ _ _ _ _ _ _ _ _ _ _ _ _ _ _ _ _ _ _ _ _ _ _ _ _ _ _ _ _ _ _ _ _ _ _ _ _ _ _ w4 ⟨But3.refl _ _ _ _, HP4.out _, HQ4.out _, HR4.out _⟩
      · intro c a d v w h
        cases d <;> exact h
      intro a' wJ hE
      unfold JEnd at hE
      obtain ⟨xu2, hE⟩ := hE
      obtain ⟨xu3, hE⟩ := hE
      obtain ⟨xu4, hE⟩ := hE
      obtain ⟨xu7, hE⟩ := hE
      obtain ⟨xu8, hE⟩ := hE
      obtain ⟨xu9, hE⟩ := hE
      obtain ⟨xu10, hE⟩ := hE
      obtain ⟨xu11, hE⟩ := hE
      obtain ⟨xu12, hE⟩ := hE
      obtain ⟨xu13, hE⟩ := hE
      obtain ⟨xu14, hE⟩ := hE
      obtain ⟨xu15, hE⟩ := hE
      obtain ⟨xu16, hE⟩ := hE
      obtain ⟨xu17, hE⟩ := hE
      obtain ⟨xu18, hE⟩ := hE
      obtain ⟨xu19, hE⟩ := hE
      obtain ⟨xu20, hE⟩ := hE
      obtain ⟨xu21, hE⟩ := hE
      obtain ⟨xu22, hE⟩ := hE
      obtain ⟨xu23, hE⟩ := hE
      obtain ⟨xu24, hE⟩ := hE
      obtain ⟨xu25, hE⟩ := hE
      obtain ⟨xu26, hE⟩ := hE
      obtain ⟨xu27, hE⟩ := hE
      obtain ⟨xu28, hE⟩ := hE
      obtain ⟨xu29, hE⟩ := hE
      obtain ⟨xu30, hE⟩ := hE
      obtain ⟨xu31, hE⟩ := hE
      obtain ⟨xu32, hE⟩ := hE
      obtain ⟨xu33, hE⟩ := hE
      obtain ⟨xu34, hE⟩ := hE
      obtain ⟨xu35, hE⟩ := hE
      obtain ⟨xu36, hE⟩ := hE
      obtain ⟨xu37, hE⟩ := hE
      obtain ⟨xu38, hE⟩ := hE
      obtain ⟨xu39, hE⟩ := hE
      obtain ⟨xu40, hE⟩ := hE
      obtain ⟨xu41, hE⟩ := hE
      obtain ⟨xu42, hE⟩ := hE
      obtain ⟨xu43, hE⟩ := hE
      obtain ⟨xu44, hE⟩ := hE
      obtain ⟨xu45, hE⟩ := hE
      obtain ⟨xu46, hE⟩ := hE
      obtain ⟨xu47, hE⟩ := hE
      obtain ⟨xu48, hE⟩ := hE
      obtain ⟨xu49, hE⟩ := hE
      obtain ⟨xu50, hE⟩ := hE
      obtain ⟨xu51, hE⟩ := hE
      obtain ⟨xu52, hE⟩ := hE
      obtain ⟨xu53, hE⟩ := hE
      obtain ⟨xu54, hE⟩ := hE
      obtain ⟨xu55, hE⟩ := hE
      obtain ⟨xu56, hE⟩ := hE
      obtain ⟨xu57, hE⟩ := hE
      obtain ⟨xu58, hE⟩ := hE
      obtain ⟨xu59, hE⟩ := hE
      obtain ⟨xu60, hE⟩ := hE
      obtain ⟨xu61, hE⟩ := hE
      obtain ⟨xu62, hE⟩ := hE
      obtain ⟨xu63, hE⟩ := hE
      obtain ⟨xu64, hE⟩ := hE
      obtain ⟨xu65, hE⟩ := hE
      obtain ⟨xu66, hE⟩ := hE
      obtain ⟨xu67, hE⟩ := hE
      obtain ⟨xu68, hE⟩ := hE
      obtain ⟨xu69, hE⟩ := hE
      obtain ⟨xu70, hE⟩ := hE
      obtain ⟨xu71, hE⟩ := hE
      obtain ⟨xu72, hE⟩ := hE
      obtain ⟨xu73, hE⟩ := hE
      obtain ⟨xu74, hE⟩ := hE
      obtain ⟨xu75, hE⟩ := hE
      obtain ⟨xu76, hE⟩ := hE
      obtain ⟨xu77, hE⟩ := hE
      obtain ⟨xu78, hE⟩ := hE
      obtain ⟨xu79, hE⟩ := hE
      obtain ⟨xu80, hE⟩ := hE
      obtain ⟨xu81, hE⟩ := hE
      obtain ⟨xu82, hE⟩ := hE
      obtain ⟨xu83, hE⟩ := hE
      obtain ⟨xu84, hE⟩ := hE
      obtain ⟨xu85, hE⟩ := hE
      obtain ⟨xu86, hE⟩ := hE
      obtain ⟨xu87, hE⟩ := hE
      obtain ⟨xu88, hE⟩ := hE
      obtain ⟨xu89, hE⟩ := hE
      obtain ⟨xu90, hE⟩ := hE
      obtain ⟨xu91, hE⟩ := hE
      obtain ⟨xu92, hE⟩ := hE
      obtain ⟨xu93, hE⟩ := hE
      obtain ⟨xu94, hE⟩ := hE
      obtain ⟨xu95, hE⟩ := hE
      obtain ⟨xu96, hE⟩ := hE
      obtain ⟨xu97, hE⟩ := hE
      obtain ⟨xu98, hE⟩ := hE
      obtain ⟨xu99, hE⟩ := hE
      obtain ⟨xu100, hE⟩ := hE
      obtain ⟨xu101, hE⟩ := hE
      obtain ⟨xu102, hE⟩ := hE
      obtain ⟨xu103, hE⟩ := hE
      obtain ⟨xu104, hE⟩ := hE
      obtain ⟨xu105, hE⟩ := hE
      obtain ⟨xu106, hE⟩ := hE
      obtain ⟨xu107, hE⟩ := hE
      obtain ⟨xu108, hE⟩ := hE
      obtain ⟨xu109, hE⟩ := hE
      obtain ⟨xu110, hE⟩ := hE
      obtain ⟨xu111, hE⟩ := hE
      obtain ⟨xu112, hE⟩ := hE
      obtain ⟨xu113, hE⟩ := hE
      obtain ⟨xu114, hE⟩ := hE
      obtain ⟨xu115, hE⟩ := hE
      obtain ⟨xu116, hE⟩ := hE
      obtain ⟨xu117, hE⟩ := hE
      obtain ⟨xu118, hE⟩ := hE
      obtain ⟨xu119, hE⟩ := hE
      obtain ⟨xu120, hE⟩ := hE
      obtain ⟨xu121, hE⟩ := hE
      obtain ⟨xu122, hE⟩ := hE
      obtain ⟨xu123, hE⟩ := hE
      obtain ⟨xu124, hE⟩ := hE
      obtain ⟨xu125, hE⟩ := hE
      obtain ⟨xu126, hE⟩ := hE
      obtain ⟨xu127, hE⟩ := hE
      obtain ⟨xu128, hE⟩ := hE
      obtain ⟨xu129, hE⟩ := hE
      obtain ⟨xu130, hE⟩ := hE
      obtain ⟨xu131, hE⟩ := hE
      obtain ⟨xu132, hE⟩ := hE
      obtain ⟨xu133, hE⟩ := hE
      obtain ⟨xu134, hE⟩ := hE
      obtain ⟨xu135, hE⟩ := hE
      obtain ⟨xu136, hE⟩ := hE
      obtain ⟨xu137, hE⟩ := hE
      obtain ⟨xu138, hE⟩ := hE
      obtain ⟨xu139, hE⟩ := hE
      obtain ⟨xu140, hE⟩ := hE
      obtain ⟨xu141, hE⟩ := hE
      obtain ⟨xu142, hE⟩ := hE
      obtain ⟨xu143, hE⟩ := hE
      obtain ⟨xu144, hE⟩ := hE
      obtain ⟨xu145, hE⟩ := hE
      obtain ⟨xu146, hE⟩ := hE
      obtain ⟨xu147, hE⟩ := hE
      obtain ⟨xu148, hE⟩ := hE
      obtain ⟨xu149, hE⟩ := hE
      obtain ⟨xu150, hE⟩ := hE
      obtain ⟨xu151, hE⟩ := hE
      obtain ⟨xu152, hE⟩ := hE
      obtain ⟨xu153, hE⟩ := hE
      obtain ⟨xu154, hE⟩ := hE
      obtain ⟨xu155, hE⟩ := hE
      obtain ⟨xu156, hE⟩ := hE
      obtain ⟨xu157, hE⟩ := hE
      obtain ⟨xu158, hE⟩ := hE
      obtain ⟨xu159, hE⟩ := hE
      obtain ⟨xu160, hE⟩ := hE
      obtain ⟨xu161, hE⟩ := hE
      obtain ⟨xu162, hE⟩ := hE
      obtain ⟨xu163, hE⟩ := hE
      obtain ⟨xu164, hE⟩ := hE
      obtain ⟨xu165, hE⟩ := hE
      obtain ⟨xu166, hE⟩ := hE
      obtain ⟨xu167, hE⟩ := hE
      obtain ⟨xu168, hE⟩ := hE
      obtain ⟨xu169, hE⟩ := hE
      obtain ⟨xu170, hE⟩ := hE
      obtain ⟨xu171, hE⟩ := hE
      obtain ⟨xu172, hE⟩ := hE
      obtain ⟨xu173, hE⟩ := hE
      obtain ⟨xu174, hE⟩ := hE
      obtain ⟨xu175, hE⟩ := hE
      obtain ⟨xu176, hE⟩ := hE
      obtain ⟨xu177, hE⟩ := hE
      obtain ⟨xu178, hE⟩ := hE
      obtain ⟨xu179, hE⟩ := hE
      obtain ⟨xu180, hE⟩ := hE
      obtain ⟨xu181, hE⟩ := hE
      obtain ⟨xu182, hE⟩ := hE
      obtain ⟨xu183, hE⟩ := hE
      obtain ⟨xu184, hE⟩ := hE
      obtain ⟨xu185, hE⟩ := hE
      obtain ⟨xu186, hE⟩ := hE
      obtain ⟨xu187, hE⟩ := hE
      obtain ⟨xu188, hE⟩ := hE
      obtain ⟨xu189, hE⟩ := hE
      obtain ⟨xu190, hE⟩ := hE
      obtain ⟨xu191, hE⟩ := hE
      obtain ⟨xu192, hE⟩ := hE
      obtain ⟨xu193, hE⟩ := hE
      obtain ⟨xu194, hE⟩ := hE
      obtain ⟨xu195, hE⟩ := hE
      obtain ⟨xu196, hE⟩ := hE
      obtain ⟨xu197, hE⟩ := hE
      obtain ⟨xu198, hE⟩ := hE
      obtain ⟨xu199, hE⟩ := hE
      obtain ⟨xu200, hE⟩ := hE
      obtain ⟨xu201, hE⟩ := hE
      obtain ⟨xu202, hE⟩ := hE
      obtain ⟨xu203, hE⟩ := hE
      obtain ⟨xu204, hE⟩ := hE
      obtain ⟨xu205, hE⟩ := hE
      obtain ⟨xu206, hE⟩ := hE
      obtain ⟨xu207, hE⟩ := hE
      obtain ⟨xu208, hE⟩ := hE
      obtain ⟨xu209, hE⟩ := hE
      obtain ⟨xu210, hE⟩ := hE
      obtain ⟨xu211, hE⟩ := hE
      obtain ⟨xu212, hE⟩ := hE
      obtain ⟨xu213, hE⟩ := hE
      obtain ⟨xu214, hE⟩ := hE
      obtain ⟨xu215, hE⟩ := hE
      obtain ⟨xu216, hE⟩ := hE
      obtain ⟨xu217, hE⟩ := hE
      obtain ⟨xu218, hE⟩ := hE
      obtain ⟨xu219, hE⟩ := hE
      obtain ⟨xu220, hE⟩ := hE
      obtain ⟨xu221, hE⟩ := hE
      obtain ⟨xu222, hE⟩ := hE
      obtain ⟨xu223, hE⟩ := hE
      obtain ⟨xu224, hE⟩ := hE
      obtain ⟨xu225, hE⟩ := hE
      obtain ⟨xu226, hE⟩ := hE
      obtain ⟨xu227, hE⟩ := hE
      obtain ⟨xu228, hE⟩ := hE
      obtain ⟨xu229, hE⟩ := hE
      obtain ⟨xu230, hE⟩ := hE
      obtain ⟨xu231, hE⟩ := hE
      obtain ⟨xu232, hE⟩ := hE
      obtain ⟨xu233, hE⟩ := hE
      obtain ⟨xu234, hE⟩ := hE
      obtain ⟨xu235, hE⟩ := hE
      obtain ⟨xu236, hE⟩ := hE
      obtain ⟨xu237, hE⟩ := hE
      obtain ⟨xu238, hE⟩ := hE
      obtain ⟨xu239, hE⟩ := hE
      obtain ⟨xu240, hE⟩ := hE
      obtain ⟨xu241, hE⟩ := hE
      obtain ⟨xu242, hE⟩ := hE
      obtain ⟨xu243, hE⟩ := hE
      obtain ⟨xu244, hE⟩ := hE
      obtain ⟨xu245, hE⟩ := hE
      obtain ⟨xu246, hE⟩ := hE
      obtain ⟨xu247, hE⟩ := hE
      obtain ⟨xu248, hE⟩ := hE
      obtain ⟨xu249, hE⟩ := hE
      obtain ⟨xu250, hE⟩ := hE
      obtain ⟨xu251, hE⟩ := hE
      obtain ⟨xu252, hE⟩ := hE
      obtain ⟨xu253, hE⟩ := hE
      obtain ⟨xu254, hE⟩ := hE
      obtain ⟨xu255, hE⟩ := hE
      obtain ⟨xu256, hE⟩ := hE
      obtain ⟨xu257, hE⟩ := hE
      obtain ⟨xu258, hE⟩ := hE
      obtain ⟨xu259, hE⟩ := hE
      obtain ⟨xu260, hE⟩ := hE
      obtain ⟨xu261, hE⟩ := hE
      obtain ⟨xu262, hE⟩ := hE
      obtain ⟨xu263, hE⟩ := hE
      obtain ⟨xu264, hE⟩ := hE
      obtain ⟨xu265, hE⟩ := hE
      obtain ⟨xu266, hE⟩ := hE
      obtain ⟨xu267, hE⟩ := hE
      obtain ⟨xu268, hE⟩ := hE
      obtain ⟨xu269, hE⟩ := hE
      obtain ⟨xu270, hE⟩ := hE
      obtain ⟨xu271, hE⟩ := hE
      obtain ⟨xu272, hE⟩ := hE
      obtain ⟨xu273, hE⟩ := hE
      obtain ⟨xu274, hE⟩ := hE
      obtain ⟨xu275, hE⟩ := hE
      obtain ⟨xu276, hE⟩ := hE
      obtain ⟨⟨bJ, pJ, qJ, rJ⟩, ha⟩ := hE
      subst ha
      have HEND : Hid (TbI read ref w wJ G (i + 1)) := by
        refine ⟨_, _, _, bM2, bI2, bD2, HT4.out.but HP4.out HQ4.out HR4.out bJ, hbG, HB4.out.trans (bJ.below HGEP.out.1 HGEP.out.2.1 HGEP.out.2.2), fun t ht => ?_⟩
        by_cases hti : t < i
        · obtain ⟨⟨x1, x2, x3⟩, n1, n2, n3⟩ := HROW4.out t hti
          exact ⟨x1.other (bJ.other _ n1.1 n1.2.1 n1.2.2), x2.other (bJ.other _ n2.1 n2.2.1 n2.2.2), x3.other (bJ.other _ n3.1 n3.2.1 n3.2.2)⟩
        · obtain rfl : t = i := by omega
          rw [HEP.out.1, HEP.out.2.1, HEP.out.2.2]
          exact ⟨pJ, qJ, rJ⟩
      clear bJ pJ qJ rJ
      have hiw : IntKind.i64.wrap ((i : Int) + 1) = ((i + 1 : Nat) : Int) := by rw [IntKind.wrap_i64]; omega
      go_wp2_with fail
      refine ⟨?_, ?_⟩
      · unfold TInv
        exact ⟨i + 1, _, _, _, _, _, _, _, _, _, _, _, _, _, _, _, _, _, _, _, _, _, _, _, _, _, _, _, _, _, _, _, _, _, _, _, _, _, _, _, _, _, _, _, _, _, _, _, _, _, _, _, _, _, _, _, _, _, _, _, _, _, _, _, _, _, _, _, _, _, _, _, _, _, _, _, _, _, _, _, _, _, _, _, _, _, _, _, _, _, _, _, _, _, _, _, _, _, _, _, _, _, _, _, _, _, _, _, _, _, _, _, _, _, _, _, _, _, _, _, _, _, _, _, _, _, _, _, _, _, _, _, _, _, _, _, _, _, _, _, _, _, _, _, _, _, _, _, _, _, _, _, _, _, _, _, _, _, _, _, _, _, _, _, _, _, _, _, _, _, _, _, _, _, _, _, _, _, _, _, _, _, _, _, _, _, _, _, _, _, _, _, _, _, _, _, _, _, _, _, _, _, _, _, _, _, _, _, _, _, _, _, _, _, _, _, _, _, _, _, _, _, _, _, _, _, _, _, _, _, _, _, _, _, _, _, _, _, _, _, _, _, _, _, _, _, _, _, _, _, _, _, _, _, _, _, _, _, _, _, _, _, _, _, _, _, _, _, _, _, _, _, _, _, ⟨by omega, HEND.out⟩, rfl⟩
      · simp [TMu, intOf]; omega
    · have hie : i = read.size + 1 := by omega
      subst hie
      have hleI : ¬ (read.size : Int) + 1 ≤ read.size := by omega
      have HEND : Hid (TbI read ref w wr G (read.size + 1)) := ⟨vM, vI, vD, bM, bI, bD, htb, hbG, hbel, hrows⟩
      clear htb hbel hrows
      go_wp2_with fail
      go_ret
      exact ⟨G, rfl, HEND.out⟩
end Go.Proofs.YtilcmkiihefkkaaDoor
