/- ScanPieces: the loop over the steps: what is assigned, the body. -/
import Derived.Test.YthpbgeaajehlkaaDoorPieB
namespace Go.Proofs.YthpbgeaajehlkaaDoor
open Go.ChangeShapes Go.WideShapes Go.ChangeAt Go.RowKit
attribute [local go_sem] Oper.semAt_some

/-- a loop over an iterator: what is assigned, the body -/
def rangeParts : Code → Option (Code × Code)
  | .rangeFunc _ _ a b => some (a, b)
  | .seq a b => match rangeParts a with
    | some x => some x
    | none => rangeParts b
  | .block _ c => rangeParts c
  | _ => none
def bodyF (f : Func) : Code := f.body.getD .skip

set_option maxRecDepth 100000 in
set_option maxHeartbeats 4000000 in
theorem pie_assign (R G gs gk ga Bn n₁ : Nat) (l : List Int) (vg : Value) (w : World) (B : Nat) (asg bod : Code) (hr : rangeParts (bodyF Tryd.f4) = some (asg, bod)) (u0 u1 u3 u4 u6 u9 u10 u11 u12 u13 u14 u15 u16 u17 u18 u19 u20 u21 u22 u23 u24 u25 u26 u27 u28 u29 u30 u31 u32 u33 u34 u35 u36 u37 u38 u39 u40 u41 u42 u43 u44 u45 u46 u47 u48 u49 u50 u51 u52 u53 u54 u55 u56 u57 u58 u59 u60 u61 u62 u63 u64 u65 u66 u67 u68 u69 u70 u71 u72 u73 u74 u75 u76 u77 u78 u79 u80 u81 u82 u83 u84 u85 u86 u87 u88 u89 u90 u91 u92 u93 u94 u95 u96 u97 u98 u99 u100 u101 u102 u103 u104 u105 u106 u107 u108 u109 u110 : Value) (lo : Nat) (pre : List (PlL l)) (x : PlL l) (W : World) (K : Act → World → Prop)
    (hI : plI R G gs gk ga Bn n₁ l vg w pre W) (hw : R ≤ w.heap.size) (hK : ∀ a' W', KeepsFrom B W W' → Kq Bn W W' → plI R G gs gk ga Bn n₁ l vg w pre W' → plA R G gk ga l x a' W' → K a' W') :
    asg.wpIn (Fence.wide.inRound lo) 1 Tryd.prog (Exit.then K (fun _ _ _ => False)) { tmps := ((#[64, 65] : Array Tmp).zip (encS l x.1)).foldl (fun t (p, v) => t.setIfInBounds p v) #[u0, u1, .pointer (some ⟨R, 0, none⟩), u3, u4, .pointer (some ⟨G, 0, none⟩), u6, .pointer (some ⟨gk, 0, none⟩), .pointer (some ⟨ga, 0, none⟩), u9, u10, u11, u12, u13, u14, u15, u16, u17, u18, u19, u20, u21, u22, u23, u24, u25, u26, u27, u28, u29, u30, u31, u32, u33, u34, u35, u36, u37, u38, u39, u40, u41, u42, u43, u44, u45, u46, u47, u48, u49, u50, u51, u52, u53, u54, u55, u56, u57, u58, u59, u60, u61, u62, u63, u64, u65, u66, u67, u68, u69, u70, u71, u72, u73, u74, u75, u76, u77, u78, u79, u80, u81, u82, u83, u84, u85, u86, u87, u88, u89, u90, u91, u92, u93, u94, u95, u96, u97, u98, u99, u100, u101, u102, u103, u104, u105, u106, u107, u108, u109, u110], defers := [] } W := by
  cases hr
  obtain ⟨q, h1, h2, hm⟩ := hI
  obtain ⟨x, hxs⟩ := x
  have HM := hide hm
  have H1 := hide h1
  have HK := hide hK
  clear hm h1 hK
  unfold encS
  gi_wp2
  have hm := unhide HM
  have hnl := hm.bn.lt
  exact unhide HK _ _ ((KeepsOthers.alloc _ _).from _) ⟨toQ ((Below.refl W.heap.size W).alloc (Nat.le_refl _) _) (by omega) hnl, KeepsWalks.alloc _ _⟩ ⟨q, unhide H1, h2, hm.alloc hw _⟩ ⟨W.heap.size, Box3.new W _ _ _ _, ⟨_, _, _, _, _, _, _, _, _, _, _, _, _, _, _, _, _, _, _, _, _, _, _, _, _, _, _, _, _, _, _, _, _, _, _, _, _, _, _, _, _, _, _, _, _, _, _, _, _, _, _, _, _, _, _, _, _, _, _, _, _, _, _, _, _, _, _, _, _, _, _, _, _, _, _, _, _, _, _, _, _, _, _, _, _, _, _, _, _, _, _, _, _, _, _, _, _, _, _, _, _, _, _, _, _, rfl⟩⟩

theorem spots_next {l : List Int} {pre : List (PlL l)} {q : Nat} (h1 : spots l 0 = vals pre ++ spots l q) (hlt : pre.length < (spots l 0).length) : q < l.length ∧ spots l 0 = (vals pre ++ [q]) ++ spots l (q + wid (l.drop q)) ∧ (stepsL l).getD pre.length badT = tri (l.drop q) := by
  have hq : q < l.length := by
    rcases Nat.lt_or_ge q l.length with h | h
    · exact h
    · rw [spots_end (l := l) (p := q) (by omega), List.append_nil] at h1
      rw [h1, vals_len] at hlt
      omega
  have h2 : spots l 0 = (vals pre ++ [q]) ++ spots l (q + wid (l.drop q)) := by rw [h1, spots_cons hq]; simp
  refine ⟨hq, h2, ?_⟩
  have hl : pre.length = (vals pre).length := (vals_len pre).symm
  have hg : (spots l 0)[pre.length]? = some q := by rw [h2, List.append_assoc, hl]; simp
  simp [stepsL, List.getD, hg]
theorem not_next {l : List Int} {pre : List (PlL l)} {q x : Nat} (hx : x < l.length) (h2 : spots l 0 = (vals pre ++ [q]) ++ spots l (q + wid (l.drop q))) (hne : x ≠ q) : ¬ (vals (pre ++ [⟨x, hx⟩]) <+: spots l 0) := by
  rintro ⟨r, hr⟩
  rw [vals_snoc, h2] at hr
  simp at hr
  exact hne hr.1

end Go.Proofs.YthpbgeaajehlkaaDoor
