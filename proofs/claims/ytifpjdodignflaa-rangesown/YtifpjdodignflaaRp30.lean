/- Rows of structs that are sorted: what one owns behind slices.SortFunc. · Layer 16: the comparison of ranges (Mki's text, turned; written by wip/tools/mki.py with KIND=R). · Layer 16: a nil *Ranges; what Behind refuses. -/
import Derived.Test.YtifpjdodignflaaProg
import Derived.WalkKit
import Derived.Below
import Derived.Carry
import Derived.ChangeAt
import Derived.Shelf.SlSortCmp.WholeK
import Derived.Test.YtifpjdodignflaaRp29
import Derived.Test.YtifpjdodignflaaRp12
import Derived.Test.YtifpjdodignflaaRp09

section
namespace Go.Proofs.Ytifpjdodignflaa
open Go.ChangeShapes Go.WideShapes Go.ChangeAt Go.RowKit
open Go.Sort (grow putRow putRowK HoldsK flatK Holds putCells mapBlock)

section
variable {α : Type} [Inhabited α]
theorem flat_at (enc : α → List Value) (k : Nat) (hk : ∀ x, (enc x).length = k) : ∀ (l : List α) (i j : Nat), i < l.length → j < k → (l.flatMap enc)[i * k + j]? = (enc l[i]!)[j]?
  | [], i, _, hi, _ => absurd hi (by simp)
  | x :: l, 0, j, _, hj => by
    rw [List.flatMap_cons, Nat.zero_mul, Nat.zero_add, List.getElem?_append_left (by rw [hk]; exact hj)]; rfl
  | x :: l, i + 1, j, hi, hj => by
    have ih := flat_at enc k hk l i j (by simpa using hi) hj
    rw [List.flatMap_cons, List.getElem?_append_right (by rw [hk, Nat.succ_mul]; omega), hk, show (i + 1) * k + j - k = i * k + j by rw [Nat.succ_mul]; omega, ih]
    rfl
theorem flat_len {β : Type} (enc : β → List Value) (k : Nat) (hk : ∀ x, (enc x).length = k) : ∀ l : List β, (l.flatMap enc).length = l.length * k
  | [] => by simp
  | x :: l => by rw [List.flatMap_cons, List.length_append, flat_len enc k hk l, hk, List.length_cons, Nat.succ_mul]; omega
theorem flat_eq (enc : α → List Value) (k : Nat) (hk : ∀ x, (enc x).length = k) (h0 : 0 < k) (l : List α) (t : Nat) (ht : t < l.length * k) : (l.flatMap enc)[t]? = some (flatK enc k l.toArray)[t]! := by
  have hi : t / k < l.length := Nat.div_lt_of_lt_mul (by rw [Nat.mul_comm]; exact ht)
  have hj : t % k < k := Nat.mod_lt _ h0
  rw [Go.Sort.get_flatK enc k l.toArray t (by simpa using ht)]
  have e := flat_at enc k hk l (t / k) (t % k) hi hj
  rw [Nat.div_add_mod'] at e
  have hj' : t % k < (enc l[t / k]!).length := by rw [hk]; exact hj
  rw [e, List.getElem?_eq_getElem hj']
  have e2 : l.toArray[t / k]! = l[t / k]! := by simp
  rw [e2, getElem!_pos (enc l[t / k]!) (t % k) hj']
theorem own_holdsK (enc : α → List Value) (k : Nat) (hk : ∀ x, (enc x).length = k) (h0 : 0 < k) {w : World} {B g c : Nat} {t : TypeId} {l : List α} (h : w.ownsRow B t k (.slice (some ⟨g, 0, none⟩) l.length c) l.length (l.flatMap enc)) : HoldsK enc k w g 0 l.toArray := fun j hj => by
  have hj' : j < l.length * k := by simpa using hj
  have e := World.ownsRow.cells h rfl j _ (flat_eq enc k hk h0 l j hj')
  rw [Addr.add_lit] at e
  refine ⟨e, ?_⟩
  rcases h.2 with ⟨e1, _⟩ | ⟨g', c', cur, e1, _, hg, _⟩
  · cases e1
  · cases e1
    simp [World.frozen?, hg]
theorem sort_own (enc : α → List Value) (k : Nat) (hk : ∀ x, (enc x).length = k) (h0 : 0 < k) {w : World} {B g c : Nat} {t : TypeId} {l : List α} (h : w.ownsRow B t k (.slice (some ⟨g, 0, none⟩) l.length c) l.length (l.flatMap enc)) (l' : List α) (hl : l'.length = l.length) (m : Nat) (os : Array Obj) :
    (sortWorldK enc k w g 0 m l'.toArray os).ownsRow B t k (.slice (some ⟨g, 0, none⟩) l.length c) l.length (l'.flatMap enc) ∧ (∀ i, i < w.heap.size → i ≠ g → (sortWorldK enc k w g 0 m l'.toArray os).heap[i]? = w.heap[i]?) ∧ (∀ N, N ≤ g → N ≤ w.heap.size → Below N w (sortWorldK enc k w g 0 m l'.toArray os)) := by
  have hother : ∀ i, i < w.heap.size → i ≠ g → (sortWorldK enc k w g 0 m l'.toArray os).heap[i]? = w.heap[i]? := fun i h1 h2 => by
    show (w.heap.modify g _ ++ os)[i]? = _
    rw [Array.getElem?_append_left (by rw [Array.size_modify]; exact h1), Array.getElem?_modify, if_neg (Ne.symm h2)]
  refine ⟨?_, hother, fun N hN hw => ⟨rfl, rfl, rfl, ?_, fun i hi => hother i (by omega) (by omega)⟩⟩
  · rcases h.2 with ⟨e1, _⟩ | ⟨g', c', cur, e1, hb, hg, hn, hm, hs, ht⟩
    · cases e1
    · cases e1
      refine ⟨by rw [flat_len enc k hk, hl], .inr ⟨g, c, putCells id 0 (flatK enc k l'.toArray) cur, rfl, hb, ?_, hn, hm, ?_, ?_⟩⟩
      · have hlt := (Array.getElem?_eq_some_iff.1 hg).1
        show (w.heap.modify g _ ++ os)[g]? = _
        rw [Array.getElem?_append_left (by rw [Array.size_modify]; exact hlt), Array.getElem?_modify, if_pos rfl]
        have : (Go.Sort.ahead w m).heap[g]? = some (.cells cur t (0, 0)) := hg
        rw [hg]; rfl
      · simp only [putCells, Array.size_mapIdx]; exact hs
      · have hnk : l.length * k ≤ cur.size := by rw [hs]; exact Nat.mul_le_mul_right _ hn
        apply List.ext_getElem?
        intro i
        rcases Nat.lt_or_ge i (l.length * k) with hi | hi
        · rw [List.getElem?_take_of_lt hi, Array.getElem?_toList, flat_eq enc k hk h0 l' i (by rw [hl]; exact hi)]
          have hic : i < cur.size := by omega
          simp only [putCells, Array.getElem?_mapIdx, Array.getElem?_eq_getElem hic, Option.map_some]
          rw [if_pos ⟨Nat.zero_le _, by simp [hl, hi]⟩]
          rfl
        · rw [List.getElem?_take_eq_none hi, List.getElem?_eq_none (by rw [flat_len enc k hk, hl]; exact hi)]
  · show _ ≤ (w.heap.modify g _ ++ os).size
    rw [Array.size_append, Array.size_modify]; omega
/-- a comparison whose world has only new blocks, and perhaps draws: of the form that the sort asks for -/
theorem grown_of {W w' : World} (hb : Below W.heap.size W w') (hd : ∃ q, w'.drawn = W.drawn + q) : ∃ q os, w' = grow (W.drewN q) os := by
  obtain ⟨q, hq⟩ := hd
  refine ⟨q, w'.heap.extract W.heap.size w'.heap.size, ?_⟩
  have hh : w'.heap = W.heap ++ w'.heap.extract W.heap.size w'.heap.size := by
    apply Array.ext_getElem?
    intro i
    rcases Nat.lt_or_ge i W.heap.size with hi | hi
    · rw [Array.getElem?_append_left hi]; exact hb.block i hi
    · rw [Array.getElem?_append_right hi, Array.getElem?_extract]
      have := hb.size
      rcases Nat.lt_or_ge i w'.heap.size with h2 | h2
      · rw [if_pos (by omega), show W.heap.size + (i - W.heap.size) = i by omega]
      · rw [if_neg (by omega), Array.getElem?_eq_none h2]
  obtain ⟨os, tape, outp, size, _⟩ := hb
  cases w'
  cases W
  simp only at *
  subst os tape outp hq
  simp only [grow, World.drewN]
  rw [← hh]
end
end Go.Proofs.Ytifpjdodignflaa
end

section
namespace Go.Proofs.Ytifpjdodignflaa
open Go.ChangeShapes Go.WideShapes Go.ChangeAt Go.RowKit
attribute [local go_sem] Oper.semAt_some

/-- the first number that isn't 0 -/
def firstNZ : List Int → Int
  | [] => 0
  | x :: l => if x = 0 then firstNZ l else x
theorem fnz_drop (vs : List Int) (i : Nat) (hi : i < vs.length) : firstNZ (vs.drop i) = if vs.getD i 0 = 0 then firstNZ (vs.drop (i + 1)) else vs.getD i 0 := by
  rw [List.drop_eq_getElem_cons hi]
  simp [firstNZ, hi]
set_option maxRecDepth 100000 in
set_option maxHeartbeats 1000000 in
/-- cmp.Or -/
theorem CmpOr_at (g : Nat) (vs : List Int) (W : World) (hc : ∀ i, i < vs.length → W.cell? ⟨g, i, none⟩ = some (.int .i64 (vs.getD i 0))) (hl : vs.length ≤ 1000) :
    Calls Try.prog 55 #[.slice (some ⟨g, 0, none⟩) vs.length vs.length] W fun y W' => y = .returned (.int .i64 (firstNZ vs)) ∧ W' = W := by
  have HC := hide hc
  obtain ⟨N, hN⟩ : ∃ N, N = vs.length := ⟨_, rfl⟩
  have HN := hide hN
  rw [← hN] at hl ⊢
  clear hc hN
  obtain ⟨V, hV⟩ : ∃ V, V = firstNZ vs := ⟨_, rfl⟩
  rw [← hV]
  have HV := hide hV
  clear hV
  go_enter Try.func55, Try.ntmps55
  go_wp2_with fail
  go_loopw [5, 8] (fun v5 v8 wx => ((∃ z, v5 = z) ∧ ∃ i : Nat, v8 = .int .i64 (i : Int) ∧ i ≤ N ∧ Hid (firstNZ (vs.drop i) = V)) ∧ Hid (wx = W)) (fun _ v8 _ => N - (intOf v8).toNat)
  case atStart => exact ⟨⟨⟨_, rfl⟩, 0, rfl, Nat.zero_le _, hide (unhide HV).symm⟩, hide rfl⟩
  case round =>
    obtain ⟨⟨⟨z, rfl⟩, i, rfl, hi, HD⟩, HW⟩ := hrel
    obtain rfl := unhide HW
    by_cases hlt : i < N
    · have t1 : decide ((i : Int) < (N : Int)) = true := decide_eq_true (by omega)
      have hlt' : i < vs.length := by rw [← unhide HN]; exact hlt
      have c0 := unhide HC i hlt'
      have HD2 := hide ((fnz_drop vs i hlt').symm.trans (unhide HD))
      generalize vs.getD i 0 = x at *
      by_cases hx : x = 0
      · subst hx
        rw [if_pos rfl] at HD2
        clear HD
        go_wp2_with fail
        go_roundw
        case rel => exact ⟨⟨⟨_, rfl⟩, i + 1, by go_num, hlt, HD2⟩, hide (by trivial)⟩
        case measure => simp [intOf]; omega
      · have t2 : (x != 0) = true := by simpa using hx
        rw [if_neg hx] at HD2
        obtain rfl := unhide HD2
        clear HD HD2
        go_wp2_with fail
        refine bodyPost_ret (results_tmp rfl _ _ _) rfl ⟨rfl, rfl⟩
    · obtain rfl : i = N := by omega
      have t1 : decide ((i : Int) < (i : Int)) = false := decide_eq_false (by omega)
      have h0 : firstNZ (vs.drop i) = 0 := by rw [unhide HN, List.drop_length]; rfl
      obtain rfl : V = 0 := (unhide HD).symm.trans h0
      clear h0 HD HV
      go_wp2_with fail
      refine bodyPost_ret (results_tmp rfl _ _ _) rfl ⟨rfl, rfl⟩
theorem cmpG_or (x y : Rg) : cmpG x y = firstNZ [Lib.compareInt x.lo y.lo, Lib.compareInt x.hi y.hi, Lib.compareBytes x.n.data.toList y.n.data.toList] := by
  unfold cmpG firstNZ firstNZ firstNZ firstNZ Lib.compareInt
  by_cases h1 : x.lo < y.lo
  · simp [h1]
  · by_cases h2 : y.lo < x.lo
    · simp [h1, h2]
    · by_cases h3 : x.hi < y.hi
      · simp [h1, h2, h3]
      · by_cases h4 : y.hi < x.hi
        · simp [h1, h2, h3, h4]
        · simp [h1, h2, h3, h4]
set_option maxRecDepth 100000 in
set_option maxHeartbeats 1000000 in
theorem GCmp_at (x y : Rg) (W : World) :
    Calls Try.prog 40 #[.agg (rgL x).toArray, .agg (rgL y).toArray] W fun e W' => e = .returned (.int .i64 (cmpG x y)) ∧ ∃ q os, W' = Go.Sort.grow (W.drewN q) os := by
  have hcmp := cmpG_or x y
  obtain ⟨xn, xl, xh, xs, xe⟩ := x
  obtain ⟨yn, yl, yh, ys, ye⟩ := y
  dsimp only at hcmp
  unfold rgL
  dsimp only
  generalize cmpG _ _ = CV at *
  have H1 := hide fun (Y : World) => Try.cmp_Compare_int xl yl Y
  have H1b := hide fun (Y : World) => Try.cmp_Compare_int xh yh Y
  have H2 := hide fun (Y : World) => Try.strings_Compare xn yn Y
  have k1 := (Cls.new W 37 #[.string xn, .int .i64 xl, .int .i64 xh, .int .i64 xs, .int .i64 xe]).alloc (.cells #[.string yn, .int .i64 yl, .int .i64 yh, .int .i64 ys, .int .i64 ye] 37)
  have k2 := Cls.new (W.alloc (.cells #[.string xn, .int .i64 xl, .int .i64 xh, .int .i64 xs, .int .i64 xe] 37)) 37 #[.string yn, .int .i64 yl, .int .i64 yh, .int .i64 ys, .int .i64 ye]
  rw [World.size_alloc] at k2
  have hb := ((Below.refl W.heap.size W).alloc (Nat.le_refl _) (.cells #[.string xn, .int .i64 xl, .int .i64 xh, .int .i64 xs, .int .i64 xe] 37)).alloc ((Below.refl W.heap.size W).alloc (Nat.le_refl _) (.cells #[.string xn, .int .i64 xl, .int .i64 xh, .int .i64 xs, .int .i64 xe] 37)).size (.cells #[.string yn, .int .i64 yl, .int .i64 yh, .int .i64 ys, .int .i64 ye] 37)
  have HB : Hid (Below W.heap.size W ((W.alloc (.cells #[.string xn, .int .i64 xl, .int .i64 xh, .int .i64 xs, .int .i64 xe] 37)).alloc (.cells #[.string yn, .int .i64 yl, .int .i64 yh, .int .i64 ys, .int .i64 ye] 37)).drew) := hide hb.drew
  have HQ : Hid (((W.alloc (.cells #[.string xn, .int .i64 xl, .int .i64 xh, .int .i64 xs, .int .i64 xe] 37)).alloc (.cells #[.string yn, .int .i64 yl, .int .i64 yh, .int .i64 ys, .int .i64 ye] 37)).drew.drawn = W.drawn + 1) := hide rfl
  have HK : Hid (Cls ((W.alloc (.cells #[.string xn, .int .i64 xl, .int .i64 xh, .int .i64 xs, .int .i64 xe] 37)).alloc (.cells #[.string yn, .int .i64 yl, .int .i64 yh, .int .i64 ys, .int .i64 ye] 37)).drew W.heap.size 37 #[.string xn, .int .i64 xl, .int .i64 xh, .int .i64 xs, .int .i64 xe] ∧ Cls ((W.alloc (.cells #[.string xn, .int .i64 xl, .int .i64 xh, .int .i64 xs, .int .i64 xe] 37)).alloc (.cells #[.string yn, .int .i64 yl, .int .i64 yh, .int .i64 ys, .int .i64 ye] 37)).drew (W.heap.size + 1) 37 #[.string yn, .int .i64 yl, .int .i64 yh, .int .i64 ys, .int .i64 ye]) := hide ⟨k1, k2⟩
  clear k1 k2 hb
  generalize hv0 : Lib.compareInt xl yl = V0 at *
  generalize hv1 : Lib.compareInt xh yh = V1 at *
  generalize hv2 : Lib.compareBytes xn.data.toList yn.data.toList = V2 at *
  go_enter Try.func40, Try.ntmps40
  go_upto_region 1 with fail
  refine regionL (S := fun z => z.cell? ⟨W.heap.size, 0, none⟩ = some (.string xn) ∧ z.cell? ⟨W.heap.size, 1, none⟩ = some (.int .i64 xl) ∧ z.cell? ⟨W.heap.size, 2, none⟩ = some (.int .i64 xh) ∧ z.cell? ⟨(W.heap.size + 1), 0, none⟩ = some (.string yn) ∧ z.cell? ⟨(W.heap.size + 1), 1, none⟩ = some (.int .i64 yl) ∧ z.cell? ⟨(W.heap.size + 1), 2, none⟩ = some (.int .i64 yh)) (fun _ => false) (by kernel_rfl) ?_
  generalize ((W.alloc (.cells #[.string xn, .int .i64 xl, .int .i64 xh, .int .i64 xs, .int .i64 xe] 37)).alloc (.cells #[.string yn, .int .i64 yl, .int .i64 yh, .int .i64 ys, .int .i64 ye] 37)).drew = X0 at *
  generalize W.heap.size + 1 = B1 at *
  obtain ⟨k1, k2⟩ := unhide HK
  have HS : Hid (X0.cell? ⟨W.heap.size, 0, none⟩ = some (.string xn) ∧ X0.cell? ⟨W.heap.size, 1, none⟩ = some (.int .i64 xl) ∧ X0.cell? ⟨W.heap.size, 2, none⟩ = some (.int .i64 xh) ∧ X0.cell? ⟨B1, 0, none⟩ = some (.string yn) ∧ X0.cell? ⟨B1, 1, none⟩ = some (.int .i64 yl) ∧ X0.cell? ⟨B1, 2, none⟩ = some (.int .i64 yh)) := hide ⟨(k1.cell 0).trans rfl, (k1.cell 1).trans rfl, (k1.cell 2).trans rfl, (k2.cell 0).trans rfl, (k2.cell 1).trans rfl, (k2.cell 2).trans rfl⟩
  have VO : Hid (∀ i, i < [V0, V1, V2].length → (X0.alloc (.cells #[.int .i64 V0, .int .i64 V1, .int .i64 V2] 3)).cell? ⟨X0.heap.size, i, none⟩ = some (.int .i64 ([V0, V1, V2].getD i 0))) := hide fun i hi => by
    have e := (Cls.new X0 3 #[.int .i64 V0, .int .i64 V1, .int .i64 V2]).cell i
    rw [e]
    match i, hi with
    | 0, _ => rfl
    | 1, _ => rfl
    | 2, _ => rfl
  have HSA : Hid ((X0.alloc (.cells #[.int .i64 V0, .int .i64 V1, .int .i64 V2] 3)).cell? ⟨W.heap.size, 0, none⟩ = some (.string xn) ∧ (X0.alloc (.cells #[.int .i64 V0, .int .i64 V1, .int .i64 V2] 3)).cell? ⟨W.heap.size, 1, none⟩ = some (.int .i64 xl) ∧ (X0.alloc (.cells #[.int .i64 V0, .int .i64 V1, .int .i64 V2] 3)).cell? ⟨W.heap.size, 2, none⟩ = some (.int .i64 xh) ∧ (X0.alloc (.cells #[.int .i64 V0, .int .i64 V1, .int .i64 V2] 3)).cell? ⟨B1, 0, none⟩ = some (.string yn) ∧ (X0.alloc (.cells #[.int .i64 V0, .int .i64 V1, .int .i64 V2] 3)).cell? ⟨B1, 1, none⟩ = some (.int .i64 yl) ∧ (X0.alloc (.cells #[.int .i64 V0, .int .i64 V1, .int .i64 V2] 3)).cell? ⟨B1, 2, none⟩ = some (.int .i64 yh)) := hide ⟨((k1.alloc _).cell 0).trans rfl, ((k1.alloc _).cell 1).trans rfl, ((k1.alloc _).cell 2).trans rfl, ((k2.alloc _).cell 0).trans rfl, ((k2.alloc _).cell 1).trans rfl, ((k2.alloc _).cell 2).trans rfl⟩
  have HO := hide (CmpOr_at X0.heap.size [V0, V1, V2] _ (unhide VO) (by simp))
  rw [← hcmp] at HO
  have hB9 := (unhide HB).alloc (unhide HB).size (.cells #[.int .i64 V0, .int .i64 V1, .int .i64 V2] 3)
  have HF : Hid (∃ q os, (X0.alloc (.cells #[.int .i64 V0, .int .i64 V1, .int .i64 V2] 3)) = Go.Sort.grow (W.drewN q) os) := hide (grown_of hB9 ⟨1, unhide HQ⟩)
  clear k1 k2 HK hB9 HB HQ VO hcmp
  refine anyL_take (i := 0) (v := ?vcm0) rfl (by kernel_rfl) (by kernel_rfl) (by kernel_rfl) (by kernel_rfl) (fun _ _ _ h => h) (Or.inl ⟨by rfl, ?hcm0⟩) (unhide HS) ?_
  case hcm0 => (intro w hSw; (try dsimp only at hSw); go_simp) <;> with_reducible rfl
  simp only [Act.put, List.getElem_toArray, List.getElem_cons_zero, List.setIfInBounds_toArray, List.set_cons_zero, List.set_cons_succ]
  refine anyL_take (i := 1) (v := ?vcm1) rfl (by kernel_rfl) (by kernel_rfl) (by kernel_rfl) (by kernel_rfl) (fun _ _ _ h => h) (Or.inl ⟨by rfl, ?hcm1⟩) (unhide HS) ?_
  case hcm1 => (intro w hSw; (try dsimp only at hSw); go_simp) <;> with_reducible rfl
  simp only [Act.put, List.getElem_toArray, List.getElem_cons_zero, List.getElem_cons_succ, List.setIfInBounds_toArray, List.set_cons_zero, List.set_cons_succ]
  refine anyL_take (i := 2) (v := ?vcm2) rfl (by kernel_rfl) (by kernel_rfl) (by kernel_rfl) (by kernel_rfl) (fun _ _ _ h => h) (Or.inl ⟨by rfl, ?hcm2⟩) (unhide HS) ?_
  case hcm2 => (intro w hSw; (try dsimp only at hSw); go_simp) <;> with_reducible rfl
  simp only [Act.put, List.getElem_toArray, List.getElem_cons_zero, List.getElem_cons_succ, List.setIfInBounds_toArray, List.set_cons_zero, List.set_cons_succ]
  refine anyL_take (i := 3) (v := ?vcm3) rfl (by kernel_rfl) (by kernel_rfl) (by kernel_rfl) (by kernel_rfl) (fun _ _ _ h => h) (Or.inl ⟨by rfl, ?hcm3⟩) (unhide HS) ?_
  case hcm3 => (intro w hSw; (try dsimp only at hSw); go_simp) <;> with_reducible rfl
  simp only [Act.put, List.getElem_toArray, List.getElem_cons_zero, List.getElem_cons_succ, List.setIfInBounds_toArray, List.set_cons_zero, List.set_cons_succ]
  refine anyL_take (i := 5) (v := ?vcm4) rfl (by kernel_rfl) (by kernel_rfl) (by kernel_rfl) (by kernel_rfl) (fun _ _ _ h => h) (Or.inl ⟨by rfl, ?hcm4⟩) (unhide HS) ?_
  case hcm4 => (intro w hSw; (try dsimp only at hSw); go_simp) <;> with_reducible rfl
  simp only [Act.put, List.getElem_toArray, List.getElem_cons_zero, List.getElem_cons_succ, List.setIfInBounds_toArray, List.set_cons_zero, List.set_cons_succ]
  refine anyL_take (i := 6) (v := ?vcm5) rfl (by kernel_rfl) (by kernel_rfl) (by kernel_rfl) (by kernel_rfl) (fun _ _ _ h => h) (Or.inl ⟨by rfl, ?hcm5⟩) (unhide HS) ?_
  case hcm5 => (intro w hSw; (try dsimp only at hSw); go_simp) <;> with_reducible rfl
  simp only [Act.put, List.getElem_toArray, List.getElem_cons_zero, List.getElem_cons_succ, List.setIfInBounds_toArray, List.set_cons_zero, List.set_cons_succ]
  refine anyL_take (i := 7) (v := ?vcm6) rfl (by kernel_rfl) (by kernel_rfl) (by kernel_rfl) (by kernel_rfl) (fun _ _ _ h => h) (Or.inl ⟨by rfl, ?hcm6⟩) (unhide HS) ?_
  case hcm6 => (intro w hSw; (try dsimp only at hSw); go_simp) <;> with_reducible rfl
  simp only [Act.put, List.getElem_toArray, List.getElem_cons_zero, List.getElem_cons_succ, List.setIfInBounds_toArray, List.set_cons_zero, List.set_cons_succ]
  refine anyL_take (i := 8) (v := ?vcm7) rfl (by kernel_rfl) (by kernel_rfl) (by kernel_rfl) (by kernel_rfl) (fun _ _ _ h => h) (Or.inl ⟨by rfl, ?hcm7⟩) (unhide HS) ?_
  case hcm7 => (intro w hSw; (try dsimp only at hSw); go_simp) <;> with_reducible rfl
  simp only [Act.put, List.getElem_toArray, List.getElem_cons_zero, List.getElem_cons_succ, List.setIfInBounds_toArray, List.set_cons_zero, List.set_cons_succ]
  refine anyL_take (i := 10) (v := ?vcm8) rfl (by kernel_rfl) (by kernel_rfl) (by kernel_rfl) (by kernel_rfl) (fun _ _ _ h => h) (Or.inl ⟨by rfl, ?hcm8⟩) (unhide HS) ?_
  case hcm8 => (intro w hSw; (try dsimp only at hSw); go_simp) <;> with_reducible rfl
  simp only [Act.put, List.getElem_toArray, List.getElem_cons_zero, List.getElem_cons_succ, List.setIfInBounds_toArray, List.set_cons_zero, List.set_cons_succ]
  refine anyL_take (i := 11) (v := ?vcm9) rfl (by kernel_rfl) (by kernel_rfl) (by kernel_rfl) (by kernel_rfl) (fun _ _ _ h => h) (Or.inl ⟨by rfl, ?hcm9⟩) (unhide HS) ?_
  case hcm9 => (intro w hSw; (try dsimp only at hSw); go_simp) <;> with_reducible rfl
  simp only [Act.put, List.getElem_toArray, List.getElem_cons_zero, List.getElem_cons_succ, List.setIfInBounds_toArray, List.set_cons_zero, List.set_cons_succ]
  refine anyL_take (i := 12) (v := ?vcm10) rfl (by kernel_rfl) (by kernel_rfl) (by kernel_rfl) (by kernel_rfl) (fun _ _ _ h => h) (Or.inl ⟨by rfl, ?hcm10⟩) (unhide HS) ?_
  case hcm10 => (intro w hSw; (try dsimp only at hSw); go_simp) <;> with_reducible rfl
  simp only [Act.put, List.getElem_toArray, List.getElem_cons_zero, List.getElem_cons_succ, List.setIfInBounds_toArray, List.set_cons_zero, List.set_cons_succ]
  refine anyL_take (i := 13) (v := ?vcm11) rfl (by kernel_rfl) (by kernel_rfl) (by kernel_rfl) (by kernel_rfl) (fun _ _ _ h => h) (Or.inl ⟨by rfl, ?hcm11⟩) (unhide HS) ?_
  case hcm11 => (intro w hSw; (try dsimp only at hSw); go_simp) <;> with_reducible rfl
  simp only [Act.put, List.getElem_toArray, List.getElem_cons_zero, List.getElem_cons_succ, List.setIfInBounds_toArray, List.set_cons_zero, List.set_cons_succ]
  refine anyL_ready (rs := [4]) (by kernel_rfl) (by simp) ?_
  refine AllL.cons rfl (fun K hK => ?_) AllL.nil
  go_simp
  refine (unhide H1 X0).mono ?_
  rintro y w' ⟨rfl, e⟩
  subst w'
  refine unhide hK _ _ (fun _ => unhide HS) ?_
  clear hK K H1
  refine anyL_ready (rs := [9]) (by kernel_rfl) (by simp) ?_
  refine AllL.cons rfl (fun K hK => ?_) AllL.nil
  go_simp
  refine (unhide H1b X0).mono ?_
  rintro y w' ⟨rfl, e⟩
  subst w'
  refine unhide hK _ _ (fun _ => unhide HS) ?_
  clear hK K H1b
  refine anyL_ready (rs := [14]) (by kernel_rfl) (by simp) ?_
  refine AllL.cons rfl (fun K hK => ?_) AllL.nil
  go_simp
  refine (unhide H2 X0).mono ?_
  rintro y w' ⟨rfl, e⟩
  subst w'
  refine unhide hK _ _ (fun _ => unhide HS) ?_
  clear hK K H2
  refine anyL_ready (rs := [15]) (by kernel_rfl) (by simp) ?_
  refine AllL.cons rfl (fun K hK => ?_) AllL.nil
  go_simp
  refine unhide hK _ _ (fun _ => unhide HSA) ?_
  clear hK K
  refine anyL_ready (rs := [16]) (by kernel_rfl) (by simp) ?_
  refine AllL.cons rfl (fun K hK => ?_) AllL.nil
  go_simp
  refine (unhide HO).mono ?_
  rintro y w' ⟨rfl, e⟩
  subst w'
  refine unhide hK _ _ (fun _ => unhide HSA) ?_
  clear hK K HO
  refine anyL_take (i := 17) (v := ?vcm12) rfl (by kernel_rfl) (by kernel_rfl) (by kernel_rfl) (by kernel_rfl) (fun _ _ _ h => h) (Or.inl ⟨by rfl, ?hcm12⟩) (unhide HSA) ?_
  case hcm12 => (intro w hSw; (try dsimp only at hSw); go_simp) <;> with_reducible rfl
  simp only [Act.put, List.getElem_toArray, List.getElem_cons_zero, List.getElem_cons_succ, List.setIfInBounds_toArray, List.set_cons_zero, List.set_cons_succ]
  refine anyL_done (by kernel_rfl) ?_ _
  go_wp2_with fail
  refine bodyPost_ret (results_tmp rfl _ _ _) rfl ⟨rfl, unhide HF⟩
end Go.Proofs.Ytifpjdodignflaa
end

section
namespace Go.Proofs.Ytifpjdodignflaa
open Go.ChangeShapes Go.WideShapes Go.ChangeAt Go.RowKit
attribute [local go_sem] Oper.semAt_some

set_option maxRecDepth 100000 in
set_option maxHeartbeats 1000000 in
theorem GLenN_at (X : World) : Calls Try.prog 32 #[.pointer none] X fun y X' => y = .returned (.int .i64 0) ∧ Below X.heap.size X X' := by
  go_enter Try.func32, Try.ntmps32
  go_wp2_with fail
  refine bodyPost_ret (results_tmp rfl _ _ _) rfl ⟨rfl, Below.refl _ _⟩
set_option maxRecDepth 100000 in
set_option maxHeartbeats 1000000 in
theorem GDropN_at (s : ByteArray) (X : World) : Calls Try.prog 23 #[.pointer none, .string s] X fun y X' => y = .returned (.tuple #[.pointer none, .int .i64 1]) ∧ Below X.heap.size X X' := by
  go_enter Try.func23, Try.ntmps23
  go_wp2_with fail
  refine bodyPost_ret (results_tmp2 rfl _ _ _) rfl ⟨rfl, Below.refl _ _⟩
set_option maxRecDepth 100000 in
set_option maxHeartbeats 1000000 in
theorem GOverN_at (a b : Int) (X : World) : Calls Try.prog 18 #[.pointer none, .int .i64 a, .int .i64 b] X fun y X' => y = .returned (.slice none 0 0) ∧ Below X.heap.size X X' := by
  go_enter Try.func18, Try.ntmps18
  go_wp2_with fail
  refine bodyPost_ret (results_tmp rfl _ _ _) rfl ⟨rfl, Below.refl _ _⟩
set_option maxRecDepth 100000 in
set_option maxHeartbeats 1000000 in
theorem GBehN_at (v : Value) (X : World) : Calls Try.prog 15 #[.pointer none, v] X fun y X' => y = .returned (.tuple #[.pointer none, .slice none 0 0, .int .i64 1]) ∧ Below X.heap.size X X' := by
  go_enter Try.func15, Try.ntmps15
  go_wp2_with fail
  refine bodyPost_ret (results_tmp3 rfl _ _) rfl ⟨rfl, Below.refl _ _⟩
set_option maxRecDepth 100000 in
set_option maxHeartbeats 1000000 in
theorem GGetN_at (s : ByteArray) (X : World) : Calls Try.prog 21 #[.pointer none, .string s] X fun y X' => y = .returned (.tuple #[.agg #[.string ⟨#[]⟩, .int .i64 0, .int .i64 0, .int .i64 0, .int .i64 0], .bool false]) ∧ Below X.heap.size X X' := by
  have b0 := (Below.refl X.heap.size X).alloc (Nat.le_refl _) (.cells #[.string ⟨#[]⟩, .int .i64 0, .int .i64 0, .int .i64 0, .int .i64 0] 37)
  have k0 := Cls.new X 37 #[.string ⟨#[]⟩, .int .i64 0, .int .i64 0, .int .i64 0, .int .i64 0]
  have HB := hide b0
  have f0 := k0.frozen 0
  have f1 := k0.frozen 1
  have f2 := k0.frozen 2
  have f3 := k0.frozen 3
  have f4 := k0.frozen 4
  have e0 := k0.cell 0
  have e1 := k0.cell 1
  have e2 := k0.cell 2
  have e3 := k0.cell 3
  have e4 := k0.cell 4
  simp only [List.getElem?_toArray, List.getElem?_cons_zero, List.getElem?_cons_succ] at e0 e1 e2 e3 e4
  clear b0 k0
  go_enter Try.func21, Try.ntmps21
  go_wp2_with fail
  refine bodyPost_ret (v := .tuple #[.agg #[.string ⟨#[]⟩, .int .i64 0, .int .i64 0, .int .i64 0, .int .i64 0], .bool false]) (by simp [results, Try.results21, go_sem, e0, e1, e2, e3, e4]) rfl ⟨rfl, unhide HB⟩
set_option maxRecDepth 100000 in
set_option maxHeartbeats 1000000 in
theorem GListN_at (X : World) : Calls Try.prog 13 #[.pointer none] X fun y X' => y = .returned (.slice none 0 0) ∧ Below X.heap.size X X' := by
  have H1 := hide (GLenN_at X)
  have H2 := hide fun (Y : World) (a b : Int) => GOverN_at a b Y
  go_enter Try.func13, Try.ntmps13
  go_wp2_with fail
  refine (unhide H1).mono ?_
  rintro y w1 ⟨rfl, x1⟩
  dsimp only
  have HX1 := hide x1
  have HC := hide (unhide H2 w1 0 0)
  clear H1 H2 x1
  go_wp2_with fail
  refine (unhide HC).mono ?_
  rintro y w2 ⟨rfl, x2⟩
  dsimp only
  have HX2 := hide ((unhide HX1).trans (x2.mono (unhide HX1).size))
  clear HC HX1 x2
  go_wp2_with fail
  refine bodyPost_ret (results_tmp rfl _ _ _) rfl ⟨rfl, unhide HX2⟩
set_option maxRecDepth 100000 in
set_option maxHeartbeats 1000000 in
theorem GCovN_at (X : World) : Calls Try.prog 17 #[.pointer none] X fun y X' => y = .returned (.slice none 0 0) ∧ Below X.heap.size X X' := by
  have H1 := hide (GListN_at X)
  go_enter Try.func17, Try.ntmps17
  go_wp2_with fail
  refine (unhide H1).mono ?_
  rintro y w1 ⟨rfl, x1⟩
  dsimp only
  have HX1 := hide x1
  clear H1 x1
  go_wp2_with fail
  go_loopw [3, 5, 6, 10] (fun v3 v5 v6 v10 wx => ((∃ z, v5 = z) ∧ (∃ z, v6 = z)) ∧ v3 = .slice none 0 0 ∧ v10 = .int .i64 0 ∧ Hid (Below X.heap.size X wx)) (fun _ _ _ _ _ => 0)
  case atStart => exact ⟨⟨⟨_, rfl⟩, ⟨_, rfl⟩⟩, rfl, rfl, HX1⟩
  case round =>
    obtain ⟨⟨⟨z1, rfl⟩, ⟨z2, rfl⟩⟩, rfl, rfl, HX⟩ := hrel
    clear HX1
    go_wp2_with fail
    refine bodyPost_ret (results_tmp rfl _ _ _) rfl ⟨rfl, unhide HX⟩
set_option maxRecDepth 100000 in
set_option maxHeartbeats 1000000 in
theorem GSetN_at (x : Rg) (X : World) : Calls Try.prog 12 #[.pointer none, rgV x] X fun y X' => y = .returned (.tuple #[.pointer none, .int .i64 1]) ∧ Below X.heap.size X X' := by
  obtain ⟨xn, xl, xh, xs, xe⟩ := x
  unfold rgV
  dsimp only
  have HR : Hid (∀ Y : World, Calls Try.prog 29 #[.pointer none, .agg #[.string xn, .int .i64 xl, .int .i64 xh, .int .i64 xs, .int .i64 xe]] Y fun y X' => y = .returned (.int .i64 1) ∧ Below Y.heap.size Y X') := hide fun Y => by
    have HB := hide ((Below.refl Y.heap.size Y).alloc (Nat.le_refl _) (.cells #[.string xn, .int .i64 xl, .int .i64 xh, .int .i64 xs, .int .i64 xe] 37))
    go_enter Try.func29, Try.ntmps29
    go_wp2_with fail
    refine bodyPost_ret (results_tmp rfl _ _ _) rfl ⟨rfl, unhide HB⟩
  have b1 := (Below.refl X.heap.size X).alloc (Nat.le_refl _) (.cells #[.string xn, .int .i64 xl, .int .i64 xh, .int .i64 xs, .int .i64 xe] 37)
  have k1 := Cls.new X 37 #[.string xn, .int .i64 xl, .int .i64 xh, .int .i64 xs, .int .i64 xe]
  have d0 := k1.cell 0
  have d1 := k1.cell 1
  have d2 := k1.cell 2
  have d3 := k1.cell 3
  have d4 := k1.cell 4
  simp only [List.getElem?_toArray, List.getElem?_cons_zero, List.getElem?_cons_succ] at d0 d1 d2 d3 d4
  have HB := hide b1
  have HC := hide (unhide HR (X.alloc (.cells #[.string xn, .int .i64 xl, .int .i64 xh, .int .i64 xs, .int .i64 xe] 37)))
  clear b1 k1 HR
  go_enter Try.func12, Try.ntmps12
  go_wp2_with fail
  refine (unhide HC).mono ?_
  rintro y w1 ⟨rfl, x1⟩
  dsimp only
  have HX := hide ((unhide HB).trans (x1.mono (unhide HB).size))
  clear HC HB x1 d0 d1 d2 d3 d4
  go_wp2_with fail
  refine bodyPost_ret (results_tmp2 rfl _ _ _) rfl ⟨rfl, unhide HX⟩
end Go.Proofs.Ytifpjdodignflaa
end
