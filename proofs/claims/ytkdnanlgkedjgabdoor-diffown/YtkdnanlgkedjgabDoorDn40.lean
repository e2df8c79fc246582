/- DERIVED: THE SHELF's CONTRACTS AT THIS DUMP, IN PLAIN WORDS (tools/lay-plain.mjs out of 'YtkdnanlgkedjgabDoorShj0.lean', which tools/lay-shelf.mjs wrote): THE SAME DECLARATIONS UNDER THE SAME NAMES: 'import', 'namespace', 'open', 'def', 'theorem' AND NOTHING ELSE: no command of the shelf's: FOR A HAND-IN. Each laying: the table of numbers ('.._ren') and one theorem, a field a fact of the dump's own or the kernel's comparison; each contract: ONE APPLICATION. · Layer 13: the builder's close, keep and delta (written by wip/tools/dmc.py). · Layer 13: Valid, Lens, Canon. · Layer 13: Canon. -/
import Derived.Shelf.Strings.OnBuilder
import Derived.Test.YtkdnanlgkedjgabDoorProg
import Derived.Test.YtkdnanlgkedjgabDoorDn35
import Derived.Test.YtkdnanlgkedjgabDoorDn39
import Derived.RegionTactic

section
namespace Go.Proofs
open Go.Shelf
def Tryd.lays156_ren : Go.Shelf.Ren := ⟨fun | 156 => 84 | 165 => 85 | 166 => 86 | 169 => 87 | 240 => 88 | 241 => 89 | 276 => 90 | 277 => 91 | n => n, fun | 31 => 109 | 9 => 9 | 3 => 3 | 4 => 4 | 0 => 0 | 20 => 20 | 72 => 138 | 76 => 141 | 70 => 136 | 37 => 22 | 75 => 140 | 127 => 144 | 164 => 145 | 5 => 5 | 80 => 143 | n => n, fun | n => n⟩
theorem Tryd.lays156 : Go.Proofs.Lays.n156 Tryd.prog Tryd.lays156_ren := {
  mixed := by kernel_rfl
  f156 := Tryd.func84.trans (congrArg some (by kernel_rfl))
  f165 := Tryd.func85.trans (congrArg some (by kernel_rfl))
  f166 := Tryd.func86.trans (congrArg some (by kernel_rfl))
  f169 := Tryd.func87.trans (congrArg some (by kernel_rfl))
  f240 := Tryd.func88.trans (congrArg some (by kernel_rfl))
  f241 := Tryd.func89.trans (congrArg some (by kernel_rfl))
  f276 := Tryd.func90.trans (congrArg some (by kernel_rfl))
  f277 := Tryd.func91.trans (congrArg some (by kernel_rfl))
  t0 := Tryd.underlying0
  a0 := Tryd.isAgg0
  z0 := Tryd.sizeOf0
  v0 := Tryd.zeroValue0
  t3 := Tryd.underlying3
  a3 := Tryd.isAgg3
  z3 := Tryd.sizeOf3
  v3 := Tryd.zeroValue3
  t4 := Tryd.underlying4
  a4 := Tryd.isAgg4
  z4 := Tryd.sizeOf4
  v4 := Tryd.zeroValue4
  t9 := Tryd.underlying9
  a9 := Tryd.isAgg9
  z9 := Tryd.sizeOf9
  v9 := Tryd.zeroValue9
  t20 := Tryd.underlying20
  a20 := Tryd.isAgg20
  z20 := Tryd.sizeOf20
  v20 := Tryd.zeroValue20
  t31 := Tryd.underlying109
  a31 := Tryd.isAgg109
  z31 := Tryd.sizeOf109
  v31 := Tryd.zeroValue109
  t37 := Tryd.underlying22
  a37 := Tryd.isAgg22
  z37 := Tryd.sizeOf22
  v37 := Tryd.zeroValue22
  t70 := Tryd.underlying136
  a70 := Tryd.isAgg136
  z70 := Tryd.sizeOf136
  v70 := Tryd.zeroValue136
  t72 := Tryd.underlying138
  a72 := Tryd.isAgg138
  z72 := Tryd.sizeOf138
  v72 := Tryd.zeroValue138
  t75 := Tryd.underlying140
  a75 := Tryd.isAgg140
  z75 := Tryd.sizeOf140
  v75 := Tryd.zeroValue140
  t76 := Tryd.underlying141
  a76 := Tryd.isAgg141
  z76 := Tryd.sizeOf141
  v76 := Tryd.zeroValue141
  t127 := Tryd.underlying144
  a127 := Tryd.isAgg144
  z127 := Tryd.sizeOf144
  v127 := Tryd.zeroValue144
  t164 := Tryd.underlying145
  a164 := Tryd.isAgg145
  z164 := Tryd.sizeOf145
  v164 := Tryd.zeroValue145 }
theorem Tryd.Builder_Extra_156 : Builder.Extra Tryd.prog Tryd.lays156_ren := {
  sizeBuilder := by kernel_rfl
  liesBuilder := by kernel_rfl
  t5 := Tryd.underlying5
  a5 := Tryd.isAgg5
  z5 := Tryd.sizeOf5
  v5 := Tryd.zeroValue5
  infoByte := by kernel_rfl
  cellsByte := by kernel_rfl
  sizeByte := by kernel_rfl
  neB5 := by decide }
open Go.RowKit in
/-- No element: the empty string; the world is as it was. (Whatever the slice's address and capacity: a nil slice too.) (LAID: no walk: one application.) -/
theorem Tryd.strings_Join_none (a : Option Addr) (c : Nat) (sep : ByteArray) (w : World) :
    Calls Tryd.prog 84 #[.slice a 0 c, .string sep] w fun e w' => e = .returned (.string ⟨#[]⟩) ∧ w' = w := Any.strings_Join_none Tryd.lays156 Tryd.Builder_Extra_156 a c sep w
open Go.RowKit in
/-- strings.Join: "Join concatenates the elements of its first argument to create a single string. The separator string sep is placed between elements in the resulting string.": HOWEVER MANY ELEMENTS. Below the heap's end the world is as it was. (LAID: no walk: one application.) -/
theorem Tryd.strings_Join (bk o c : Nat) (xs : List ByteArray) (sep : ByteArray) (w : World) (hcells : ∀ (j : Nat) x, xs[j]? = some x → w.cell? ⟨bk, o + j, none⟩ = some (.string x)) (hbk : bk < w.heap.size) (hN : xs.length ≤ 140737488355328) (hcap : xs.length ≤ c) (hlen : (Lib.join (xs.map (·.data.toList)) sep.data.toList).length ≤ 140737488355328) :
    Calls Tryd.prog 84 #[.slice (some ⟨bk, o, none⟩) xs.length c, .string sep] w fun e w' => e = .returned (.string ⟨(Lib.join (xs.map (·.data.toList)) sep.data.toList).toArray⟩) ∧ Below w.heap.size w w' := Any.strings_Join Tryd.lays156 Tryd.Builder_Extra_156 bk o c xs sep w hcells hbk hN hcap hlen

end Go.Proofs
end

section
namespace Go.Proofs.YtkdnanlgkedjgabDoor
open Go.ChangeShapes Go.WideShapes Go.ChangeAt Go.RowKit
attribute [local go_sem] Oper.semAt_some

/-- an operation is written behind the others -/
theorem bd_push {X : World} {B g o : Nat} {r : Nat → Option Value} {ops : List Dop} {kept dr : Nat} {tx : List Int} {ts : List (List Int)} (h : IsBd X B g o r ⟨ops, kept, tx, dr⟩ ts) (hn : ops.length ≤ 1099511627776) (hB : B ≤ X.heap.size) (k n : Int) (s : ByteArray) (x : Dop) (hx : opL x = [.int .i64 k, .int .i64 n, .string s]) {vo vt : Value}
    (h1 : Bd4 X g o r vo (.int .i64 (kept : Int)) vt (.int .i64 (dr : Int))) (h2 : X.ownsRow B 41 3 vo ops.length (opsV ops)) (h3 : X.ownsRow B 9 1 vt ts.length (txsV ts)) :
    ∃ g2 m2 k2 W2, (Builtin.append_ #[24, 24] 24 #[vo, .slice (some ⟨X.heap.size, 0, none⟩) 1 1]).run Tryd.prog (X.alloc (.cells #[.int .i64 k, .int .i64 n, .string s] 41)) = .ok (.slice (some ⟨g2, 0, none⟩) m2 k2) W2 ∧
      Bd4 (X.alloc (.cells #[.int .i64 k, .int .i64 n, .string s] 41)) g o r vo (.int .i64 (kept : Int)) vt (.int .i64 (dr : Int)) ∧ Bd4 W2 g o r vo (.int .i64 (kept : Int)) vt (.int .i64 (dr : Int)) ∧ IsBd (W2.setCell ⟨g, o, none⟩ (.slice (some ⟨g2, 0, none⟩) m2 k2)) B g o r ⟨ops ++ [x], kept, tx, dr⟩ ts ∧ Below B X (W2.setCell ⟨g, o, none⟩ (.slice (some ⟨g2, 0, none⟩) m2 k2)) := by
  obtain ⟨g2, k2, W2, r2, o2, gr2, b2⟩ := push_op X B ops.length vo (opsV ops) k n s 24 h2 hn hB
  rw [← hx] at o2
  obtain ⟨d1, HR'⟩ := IsBd.ops (b := ⟨ops, kept, tx, dr⟩) h1 h2 h3 h.t h.z h.f gr2 o2
  have ba : Below X.heap.size X (X.alloc (.cells #[.int .i64 k, .int .i64 n, .string s] 41)) := (Below.refl _ _).alloc (Nat.le_refl _) _
  exact ⟨g2, _, k2, W2, r2, h1.same (ba.block g h1.lt), d1, HR', b2.setCell (p := ⟨g, o, none⟩) h.z _⟩
theorem rowD_drew {X : World} {B s n : Nat} {t : TypeId} {v : Value} {xs : List Value} (h : X.ownsRow B t s v n xs) : X.drew.ownsRow B t s v n xs := rowD_on h fun _ _ => rfl
theorem bd_drew {X : World} {B g o : Nat} {r : Nat → Option Value} {b : Bld} {ts : List (List Int)} (h : IsBd X B g o r b ts) : IsBd X.drew B g o r b ts := h.on ((Below.refl X.heap.size X).drew) (Nat.le_refl _)
theorem b4_on {X Y : World} {g o : Nat} {r : Nat → Option Value} {vo vk vt vd : Value} (h : Bd4 X g o r vo vk vt vd) (hb : Below X.drew.heap.size X.drew Y) : Bd4 Y g o r vo vk vt vd := (h.same (Y := X.drew) rfl).same (hb.block g h.lt)
theorem b4_read {X : World} {g o : Nat} {r : Nat → Option Value} {vo vk vt vd : Value} (h : Bd4 X g o r vo vk vt vd) : X.cell? ⟨g, o, none⟩ = some vo ∧ X.cell? ⟨g, o + 1, none⟩ = some vk ∧ X.cell? ⟨g, o + 2, none⟩ = some vt ∧ X.cell? ⟨g, o + 3, none⟩ = some vd := ⟨h.cells.1, h.cells.2.1, h.cells.2.2.1, h.cells.2.2.2.1⟩
theorem join_flat (l : List (List UInt8)) : Lib.join l [] = l.flatten := by
  cases l with
  | nil => rfl
  | cons x r => rw [Lib.join_cons]; simp [Lib.joinTail]
theorem str_flat (ts : List (List Int)) : (⟨(Lib.join ((ts.map strOfNums).map (·.data.toList)) (⟨#[]⟩ : ByteArray).data.toList).toArray⟩ : ByteArray) = strOfNums ts.flatten := by
  show (⟨(Lib.join _ []).toArray⟩ : ByteArray) = _
  rw [join_flat]
  unfold strOfNums
  congr 1
  rw [List.map_map, List.map_flatten]
  rfl
/-- what waits, put together -/
theorem join_atD (B : Nat) (v : Value) (ts : List (List Int)) (X : World) (h : X.ownsRow B 9 1 v ts.length (txsV ts)) (hl : ts.flatten.length ≤ 140737488355328) (hn : ts.length ≤ 4398046511104) :
    Calls Tryd.prog 84 #[v, .string ⟨#[]⟩] X fun e X' => e = .returned (.string (strOfNums ts.flatten)) ∧ Below X.heap.size X X' := by
  rcases h.2 with ⟨rfl, h0⟩ | ⟨g, cap, cur, rfl, hB, hg, hc, hm, hs, ht⟩
  · obtain rfl : ts = [] := List.length_eq_zero_iff.1 h0
    exact (Tryd.strings_Join_none none 0 ⟨#[]⟩ X).mono fun e X' ⟨h1, h2⟩ => ⟨h1, by rw [h2]; exact Below.refl _ _⟩
  · have hcells : ∀ (j : Nat) x, (ts.map strOfNums)[j]? = some x → X.cell? ⟨g, 0 + j, none⟩ = some (.string x) := fun j x hx => by
      have := World.ownsRow.cells h rfl j (.string x) (by
        unfold txsV
        rw [List.getElem?_map] at hx ⊢
        cases ht : ts[j]? with
        | none => rw [ht] at hx; cases hx
        | some t => rw [ht] at hx; simp only [Option.map_some, Option.some.injEq] at hx ⊢; rw [hx])
      rwa [Addr.add_lit] at this
    have hfl : (Lib.join ((ts.map strOfNums).map (·.data.toList)) (⟨#[]⟩ : ByteArray).data.toList).length = ts.flatten.length := by
      show (Lib.join _ []).length = _
      rw [join_flat]
      simp [strOfNums, List.length_flatten, List.map_map, Function.comp_def]
    have := Tryd.strings_Join g 0 cap (ts.map strOfNums) ⟨#[]⟩ X hcells (Array.getElem?_eq_some_iff.1 hg).1 (by simp; omega) (by simpa using hc) (by rw [hfl]; exact hl)
    rw [str_flat, List.length_map] at this
    exact this
set_option maxRecDepth 100000 in
set_option maxHeartbeats 4000000 in
theorem close_at (B g o : Nat) (r : Nat → Option Value) (ops : List Dop) (kept dr : Nat) (tx : List Int) (ts : List (List Int)) (X : World) (h : IsBd X B g o r ⟨ops, kept, tx, dr⟩ ts) (hn : ops.length ≤ 1099511627770) (hB : B ≤ X.heap.size) (hk : kept ≤ 4611686018427387904) (hd : dr ≤ 4611686018427387904) (ht : ts.length ≤ 4398046511104) (hl : tx.length ≤ 140737488355328) :
    Calls Tryd.prog 76 #[.pointer (some ⟨g, o, none⟩)] X fun y X' => y = .returned (.tuple #[]) ∧ IsBd X' B g o r ⟨ops ++ kO kept ++ pO tx ++ dO dr, 0, [], 0⟩ [] ∧ Below B X X' := by
  have HI := hide h
  have HB := hide hB
  obtain ⟨vo, vt, h1, h2, h3⟩ := h.c
  have HS : Hid (∀ Y, Bd4 Y g o r vo (.int .i64 (kept : Int)) vt (.int .i64 (dr : Int)) → Y.cell? ⟨g, o, none⟩ = some vo ∧ Y.cell? ⟨g, o + 1, none⟩ = some (.int .i64 (kept : Int))) := hide fun Y hY => ⟨(b4_read hY).1, (b4_read hY).2.1⟩
  have c1 := (b4_read h1).2.1
  clear h hB
  have H1 := hide h1
  have H2 := hide h2
  have H3 := hide h3
  clear h1 h2 h3
  go_enter Tryd.func76, Tryd.ntmps76
  go_upto_if 6 with fail
  clear c1
  go_cut [0] (fun v wz => v = .pointer (some ⟨g, o, none⟩) ∧ Hid (IsBd wz B g o r ⟨ops ++ kO kept, kept, tx, dr⟩ ts) ∧ Hid (Below B X wz))
  case first =>
    by_cases hk0 : kept = 0
    · have t1 : decide ((kept : Int) > 0) = false := decide_eq_false (by omega)
      have t2 : decide (0 < (kept : Int)) = false := decide_eq_false (by omega)
      have t3 : decide (0 < kept) = false := decide_eq_false (by omega)
      have HR : Hid (IsBd X B g o r ⟨ops ++ kO kept, kept, tx, dr⟩ ts) := hide (by rw [hk0] at HI ⊢; simpa [kO] using unhide HI)
      clear hk0 HI HS H1 H2 H3
      simp only [t3]
      go_wp2_with fail
      go_meet
      case rel => exact ⟨rfl, HR, hide (Below.refl _ _)⟩
    · have t1 : decide ((kept : Int) > 0) = true := decide_eq_true (by omega)
      have t2 : decide (0 < (kept : Int)) = true := decide_eq_true (by omega)
      have t3 : decide (0 < kept) = true := decide_eq_true (by omega)
      have hkO : kO kept = [⟨1, (kept : Int), []⟩] := by unfold kO; rw [if_neg hk0]
      obtain ⟨g2, m2, k2, W2, r2, dA, dB, hI2, b2⟩ := bd_push (bd_drew (unhide HI)) (by omega) (unhide HB) 1 (kept : Int) ⟨#[]⟩ ⟨1, (kept : Int), []⟩ rfl ((unhide H1).same rfl) (rowD_drew (unhide H2)) (rowD_drew (unhide H3))
      have R2 := hide r2
      have HR := hide hI2
      have HBB := hide (((Below.refl B X).drew).trans b2)
      rw [← hkO] at HR
      have HS0 := hide (unhide HS _ ((unhide H1).same (Y := X.drew) rfl))
      have HSA := hide (unhide HS _ dA)
      have HS2 := hide (unhide HS _ dB)
      have e0 := (b4_read dB).1
      have f0 := dB.cells.2.2.2.2 o
      clear hk0 HI HS H1 H2 H3 r2 dA dB hI2 b2 hkO
      simp only [t3]
      go_upto_region 1 with fail
      refine regionL (S := fun w' => w'.cell? ⟨g, o, none⟩ = some vo ∧ w'.cell? ⟨g, o + 1, none⟩ = some (.int .i64 (kept : Int))) (fun i => i == 14) (by kernel_rfl) ?_
      refine anyL_take (i := 0) (v := ?vca0) rfl (by kernel_rfl) (by kernel_rfl) (by kernel_rfl) (by kernel_rfl) (fun _ _ _ h => h) (Or.inl ⟨by rfl, ?hca0⟩) (unhide HS0) ?_
      case hca0 => (intro w hSw; (try dsimp only at hSw); go_simp) <;> with_reducible rfl
      simp only [Act.put, List.getElem_toArray, List.getElem_cons_zero, List.setIfInBounds_toArray, List.set_cons_zero, List.set_cons_succ]
      refine anyL_take (i := 1) (v := ?vca1) rfl (by kernel_rfl) (by kernel_rfl) (by kernel_rfl) (by kernel_rfl) (fun _ _ _ h => h) (Or.inl ⟨by rfl, ?hca1⟩) (unhide HS0) ?_
      case hca1 => (intro w hSw; (try dsimp only at hSw); go_simp) <;> with_reducible rfl
      simp only [Act.put, List.getElem_toArray, List.getElem_cons_zero, List.getElem_cons_succ, List.setIfInBounds_toArray, List.set_cons_zero, List.set_cons_succ]
      refine anyL_take (i := 2) (v := ?vca2) rfl (by kernel_rfl) (by kernel_rfl) (by kernel_rfl) (by kernel_rfl) (fun _ _ _ h => h) (Or.inl ⟨by rfl, ?hca2⟩) (unhide HS0) ?_
      case hca2 => (intro w hSw; (try dsimp only at hSw); go_simp) <;> with_reducible rfl
      simp only [Act.put, List.getElem_toArray, List.getElem_cons_zero, List.getElem_cons_succ, List.setIfInBounds_toArray, List.set_cons_zero, List.set_cons_succ]
      refine anyL_take (i := 3) (v := ?vca3) rfl (by kernel_rfl) (by kernel_rfl) (by kernel_rfl) (by kernel_rfl) (fun _ _ _ h => h) (Or.inl ⟨by rfl, ?hca3⟩) (unhide HS0) ?_
      case hca3 => (intro w hSw; (try dsimp only at hSw); go_simp) <;> with_reducible rfl
      simp only [Act.put, List.getElem_toArray, List.getElem_cons_zero, List.getElem_cons_succ, List.setIfInBounds_toArray, List.set_cons_zero, List.set_cons_succ]
      refine anyL_take (i := 4) (v := ?vca4) rfl (by kernel_rfl) (by kernel_rfl) (by kernel_rfl) (by kernel_rfl) (fun _ _ _ h => h) (Or.inl ⟨by rfl, ?hca4⟩) (unhide HS0) ?_
      case hca4 => (intro w hSw; (try dsimp only at hSw); go_simp) <;> with_reducible rfl
      simp only [Act.put, List.getElem_toArray, List.getElem_cons_zero, List.getElem_cons_succ, List.setIfInBounds_toArray, List.set_cons_zero, List.set_cons_succ]
      refine anyL_take (i := 5) (v := ?vca5) rfl (by kernel_rfl) (by kernel_rfl) (by kernel_rfl) (by kernel_rfl) (fun _ _ _ h => h) (Or.inl ⟨by rfl, ?hca5⟩) (unhide HS0) ?_
      case hca5 => (intro w hSw; (try dsimp only at hSw); go_simp) <;> with_reducible rfl
      simp only [Act.put, List.getElem_toArray, List.getElem_cons_zero, List.getElem_cons_succ, List.setIfInBounds_toArray, List.set_cons_zero, List.set_cons_succ]
      refine anyL_take (i := 6) (v := ?vca6) rfl (by kernel_rfl) (by kernel_rfl) (by kernel_rfl) (by kernel_rfl) (fun _ _ _ h => h) (Or.inl ⟨by rfl, ?hca6⟩) (unhide HS0) ?_
      case hca6 => (intro w hSw; (try dsimp only at hSw); go_simp) <;> with_reducible rfl
      simp only [Act.put, List.getElem_toArray, List.getElem_cons_zero, List.getElem_cons_succ, List.setIfInBounds_toArray, List.set_cons_zero, List.set_cons_succ]
      refine anyL_take (i := 7) (v := ?vca7) rfl (by kernel_rfl) (by kernel_rfl) (by kernel_rfl) (by kernel_rfl) (fun _ _ _ h => h) (Or.inl ⟨by rfl, ?hca7⟩) (unhide HS0) ?_
      case hca7 => (intro w hSw; (try dsimp only at hSw); go_simp) <;> with_reducible rfl
      simp only [Act.put, List.getElem_toArray, List.getElem_cons_zero, List.getElem_cons_succ, List.setIfInBounds_toArray, List.set_cons_zero, List.set_cons_succ]
      refine anyL_take (i := 8) (v := ?vca8) rfl (by kernel_rfl) (by kernel_rfl) (by kernel_rfl) (by kernel_rfl) (fun _ _ _ h => h) (Or.inl ⟨by rfl, ?hca8⟩) (unhide HS0) ?_
      case hca8 => (intro w hSw; (try dsimp only at hSw); go_simp) <;> with_reducible rfl
      simp only [Act.put, List.getElem_toArray, List.getElem_cons_zero, List.getElem_cons_succ, List.setIfInBounds_toArray, List.set_cons_zero, List.set_cons_succ]
      refine anyL_take (i := 9) (v := ?vca9) rfl (by kernel_rfl) (by kernel_rfl) (by kernel_rfl) (by kernel_rfl) (fun _ _ _ h => h) (Or.inl ⟨by rfl, ?hca9⟩) (unhide HS0) ?_
      case hca9 => (intro w hSw; (try dsimp only at hSw); go_simp) <;> with_reducible rfl
      simp only [Act.put, List.getElem_toArray, List.getElem_cons_zero, List.getElem_cons_succ, List.setIfInBounds_toArray, List.set_cons_zero, List.set_cons_succ]
      refine anyL_ready (rs := [10]) (by kernel_rfl) (by simp) ?_
      refine AllL.cons rfl (fun K hK => ?_) AllL.nil
      go_simp
      refine unhide hK _ _ (fun _ => unhide HSA) ?_
      clear hK K
      refine anyL_ready (rs := [11]) (by kernel_rfl) (by simp) ?_
      refine AllL.cons rfl (fun K hK => ?_) AllL.nil
      refine step_append_in rfl _ _ 24 24 rfl _ _ rfl rfl _ _ (unhide R2) ?_
      go_simp
      clear R2
      refine unhide hK _ _ (fun _ => unhide HS2) ?_
      clear hK K
      refine anyL_take (i := 12) (v := ?vca10) rfl (by kernel_rfl) (by kernel_rfl) (by kernel_rfl) (by kernel_rfl) (fun _ _ _ h => h) (Or.inl ⟨by rfl, ?hca10⟩) (unhide HS2) ?_
      case hca10 => (intro w hSw; (try dsimp only at hSw); go_simp) <;> with_reducible rfl
      simp only [Act.put, List.getElem_toArray, List.getElem_cons_zero, List.getElem_cons_succ, List.setIfInBounds_toArray, List.set_cons_zero, List.set_cons_succ]
      refine anyL_take (i := 13) (v := ?vca11) rfl (by kernel_rfl) (by kernel_rfl) (by kernel_rfl) (by kernel_rfl) (fun _ _ _ h => h) (Or.inl ⟨by rfl, ?hca11⟩) (unhide HS2) ?_
      case hca11 => (intro w hSw; (try dsimp only at hSw); go_simp) <;> with_reducible rfl
      simp only [Act.put, List.getElem_toArray, List.getElem_cons_zero, List.getElem_cons_succ, List.setIfInBounds_toArray, List.set_cons_zero, List.set_cons_succ]
      refine anyL_ready (rs := [14]) (by kernel_rfl) (by simp) ?_
      refine AllL.cons rfl (fun K hK => ?_) AllL.nil
      go_simp
      refine unhide hK _ _ (fun h => by cases h) ?_
      clear hK K
      refine anyL_done (by kernel_rfl) ?_ _
      go_wp2_with fail
      go_meet
      case rel => exact ⟨rfl, HR, HBB⟩
  case rest =>
    obtain ⟨rfl, HI1, HB1⟩ := hcut
    clear HI HS H1 H2 H3
    obtain ⟨vo, vt, h1, h2, h3⟩ := (unhide HI1).c
    dsimp only at h1 h2
    obtain ⟨at', ct, rfl, hct⟩ := rowD_form h3
    have HS : Hid (∀ Y, Bd4 Y g o r vo (.int .i64 (kept : Int)) (.slice at' ts.length ct) (.int .i64 (dr : Int)) → Y.cell? ⟨g, o, none⟩ = some vo ∧ Y.cell? ⟨g, o + 2, none⟩ = some (.slice at' ts.length ct)) := hide fun Y hY => ⟨(b4_read hY).1, (b4_read hY).2.2.1⟩
    have c2 := (b4_read h1).2.2.1
    have H1 := hide h1
    have H2 := hide h2
    have H3 := hide h3
    have HT := hide (unhide HI1).t
    dsimp only at HT
    clear h1 h2 h3
    go_upto_if 26 with fail
    clear c2
    go_cut [0] (fun v wz => v = .pointer (some ⟨g, o, none⟩) ∧ Hid (IsBd wz B g o r ⟨ops ++ kO kept ++ pO tx, kept, tx, dr⟩ ts) ∧ Hid (Below B X wz))
    case first =>
      by_cases ht0 : ts = []
      · have ht1 : tx = [] := by rw [← (unhide HT).1, ht0]; rfl
        have HR : Hid (IsBd wc B g o r ⟨ops ++ kO kept ++ pO tx, kept, tx, dr⟩ ts) := hide (by
          have hp : pO tx = [] := by rw [ht1]; rfl
          rw [hp, List.append_nil]
          exact unhide HI1)
        have t3 : decide (0 < ts.length) = false := by rw [ht0]; rfl
        clear HI1 HS H1 H2 H3 HT
        simp only [t3]
        clear t3 ht0 ht1
        go_wp2_with fail
        go_meet
        case rel => exact ⟨rfl, HR, HB1⟩
      · have t3 : decide (0 < ts.length) = true := decide_eq_true (by cases ts with | nil => exact absurd rfl ht0 | cons a q => simp)
        have htx : ¬ tx = [] := fun e => by
          obtain ⟨x, hx⟩ : ∃ x, x ∈ ts := by cases ts with | nil => exact absurd rfl ht0 | cons a q => exact ⟨a, by simp⟩
          have h9 := (unhide HT).1
          rw [e] at h9
          exact (unhide HT).2 x hx (List.flatten_eq_nil_iff.1 h9 x hx)
        have HPO : Hid (pO tx = [⟨2, 0, tx⟩]) := hide (by unfold pO; rw [if_neg htx])
        have HJ := hide (join_atD B _ ts wc.drew (rowD_drew (unhide H3)) (by rw [(unhide HT).1]; exact hl) ht)
        rw [(unhide HT).1] at HJ
        have HNL : Hid ((ops ++ kO kept).length ≤ 1099511627776) := hide (by have : (kO kept).length ≤ 1 := by unfold kO; split <;> simp
                                                                             rw [List.length_append]; omega)
        have HBW : Hid (B ≤ wc.heap.size) := hide (Nat.le_trans (unhide HB) (unhide HB1).size)
        have HS0 := hide (unhide HS _ ((unhide H1).same (Y := wc.drew) rfl))
        simp only [t3]
        clear t3 ht0 htx
        go_upto_region 3 with fail
        refine regionL (S := fun w' => w'.cell? ⟨g, o, none⟩ = some vo ∧ w'.cell? ⟨g, o + 2, none⟩ = some (.slice at' ts.length ct)) (fun i => i == 15) (by kernel_rfl) ?_
        refine anyL_take (i := 0) (v := ?vcb12) rfl (by kernel_rfl) (by kernel_rfl) (by kernel_rfl) (by kernel_rfl) (fun _ _ _ h => h) (Or.inl ⟨by rfl, ?hcb12⟩) (unhide HS0) ?_
        case hcb12 => (intro w hSw; (try dsimp only at hSw); go_simp) <;> with_reducible rfl
        simp only [Act.put, List.getElem_toArray, List.getElem_cons_zero, List.setIfInBounds_toArray, List.set_cons_zero, List.set_cons_succ]
        refine anyL_take (i := 1) (v := ?vcb13) rfl (by kernel_rfl) (by kernel_rfl) (by kernel_rfl) (by kernel_rfl) (fun _ _ _ h => h) (Or.inl ⟨by rfl, ?hcb13⟩) (unhide HS0) ?_
        case hcb13 => (intro w hSw; (try dsimp only at hSw); go_simp) <;> with_reducible rfl
        simp only [Act.put, List.getElem_toArray, List.getElem_cons_zero, List.getElem_cons_succ, List.setIfInBounds_toArray, List.set_cons_zero, List.set_cons_succ]
        refine anyL_take (i := 2) (v := ?vcb14) rfl (by kernel_rfl) (by kernel_rfl) (by kernel_rfl) (by kernel_rfl) (fun _ _ _ h => h) (Or.inl ⟨by rfl, ?hcb14⟩) (unhide HS0) ?_
        case hcb14 => (intro w hSw; (try dsimp only at hSw); go_simp) <;> with_reducible rfl
        simp only [Act.put, List.getElem_toArray, List.getElem_cons_zero, List.getElem_cons_succ, List.setIfInBounds_toArray, List.set_cons_zero, List.set_cons_succ]
        refine anyL_take (i := 3) (v := ?vcb15) rfl (by kernel_rfl) (by kernel_rfl) (by kernel_rfl) (by kernel_rfl) (fun _ _ _ h => h) (Or.inl ⟨by rfl, ?hcb15⟩) (unhide HS0) ?_
        case hcb15 => (intro w hSw; (try dsimp only at hSw); go_simp) <;> with_reducible rfl
        simp only [Act.put, List.getElem_toArray, List.getElem_cons_zero, List.getElem_cons_succ, List.setIfInBounds_toArray, List.set_cons_zero, List.set_cons_succ]
        refine anyL_take (i := 4) (v := ?vcb16) rfl (by kernel_rfl) (by kernel_rfl) (by kernel_rfl) (by kernel_rfl) (fun _ _ _ h => h) (Or.inl ⟨by rfl, ?hcb16⟩) (unhide HS0) ?_
        case hcb16 => (intro w hSw; (try dsimp only at hSw); go_simp) <;> with_reducible rfl
        simp only [Act.put, List.getElem_toArray, List.getElem_cons_zero, List.getElem_cons_succ, List.setIfInBounds_toArray, List.set_cons_zero, List.set_cons_succ]
        refine anyL_take (i := 5) (v := ?vcb17) rfl (by kernel_rfl) (by kernel_rfl) (by kernel_rfl) (by kernel_rfl) (fun _ _ _ h => h) (Or.inl ⟨by rfl, ?hcb17⟩) (unhide HS0) ?_
        case hcb17 => (intro w hSw; (try dsimp only at hSw); go_simp) <;> with_reducible rfl
        simp only [Act.put, List.getElem_toArray, List.getElem_cons_zero, List.getElem_cons_succ, List.setIfInBounds_toArray, List.set_cons_zero, List.set_cons_succ]
        refine anyL_take (i := 6) (v := ?vcb18) rfl (by kernel_rfl) (by kernel_rfl) (by kernel_rfl) (by kernel_rfl) (fun _ _ _ h => h) (Or.inl ⟨by rfl, ?hcb18⟩) (unhide HS0) ?_
        case hcb18 => (intro w hSw; (try dsimp only at hSw); go_simp) <;> with_reducible rfl
        simp only [Act.put, List.getElem_toArray, List.getElem_cons_zero, List.getElem_cons_succ, List.setIfInBounds_toArray, List.set_cons_zero, List.set_cons_succ]
        refine anyL_take (i := 7) (v := ?vcb19) rfl (by kernel_rfl) (by kernel_rfl) (by kernel_rfl) (by kernel_rfl) (fun _ _ _ h => h) (Or.inl ⟨by rfl, ?hcb19⟩) (unhide HS0) ?_
        case hcb19 => (intro w hSw; (try dsimp only at hSw); go_simp) <;> with_reducible rfl
        simp only [Act.put, List.getElem_toArray, List.getElem_cons_zero, List.getElem_cons_succ, List.setIfInBounds_toArray, List.set_cons_zero, List.set_cons_succ]
        refine anyL_take (i := 8) (v := ?vcb20) rfl (by kernel_rfl) (by kernel_rfl) (by kernel_rfl) (by kernel_rfl) (fun _ _ _ h => h) (Or.inl ⟨by rfl, ?hcb20⟩) (unhide HS0) ?_
        case hcb20 => (intro w hSw; (try dsimp only at hSw); go_simp) <;> with_reducible rfl
        simp only [Act.put, List.getElem_toArray, List.getElem_cons_zero, List.getElem_cons_succ, List.setIfInBounds_toArray, List.set_cons_zero, List.set_cons_succ]
        refine anyL_ready (rs := [9]) (by kernel_rfl) (by simp) ?_
        refine AllL.cons rfl (fun K hK => ?_) AllL.nil
        go_simp
        refine (unhide HJ).mono ?_
        rintro e Y ⟨rfl, y5⟩
        obtain ⟨g2, m2, k2, W2, r2, dA, dB, hI2, b2⟩ := bd_push ((bd_drew (unhide HI1)).on y5 (Nat.le_refl _)) (unhide HNL) (Nat.le_trans (unhide HBW) y5.size) 2 0 (strOfNums tx) ⟨2, 0, tx⟩ rfl (b4_on (unhide H1) y5) (rowD_below (rowD_drew (unhide H2)) y5 (Nat.le_refl _)) (rowD_below (rowD_drew (unhide H3)) y5 (Nat.le_refl _))
        have R2 := hide r2
        have HR := hide hI2
        have HBB := hide (((unhide HB1).trans (((Below.refl B wc).drew).trans (y5.mono (unhide HBW)))).trans b2)
        rw [← unhide HPO] at HR
        have HSJ := hide (unhide HS _ (b4_on (unhide H1) y5))
        have HSA := hide (unhide HS _ dA)
        have HS2 := hide (unhide HS _ dB)
        have e0 := (b4_read dB).1
        have f0 := dB.cells.2.2.2.2 o
        clear r2 dA dB hI2 b2 y5
        refine unhide hK _ _ (fun _ => unhide HSJ) ?_
        clear hK K
        refine anyL_take (i := 10) (v := ?vcb21) rfl (by kernel_rfl) (by kernel_rfl) (by kernel_rfl) (by kernel_rfl) (fun _ _ _ h => h) (Or.inl ⟨by rfl, ?hcb21⟩) (unhide HSJ) ?_
        case hcb21 => (intro w hSw; (try dsimp only at hSw); go_simp) <;> with_reducible rfl
        simp only [Act.put, List.getElem_toArray, List.getElem_cons_zero, List.getElem_cons_succ, List.setIfInBounds_toArray, List.set_cons_zero, List.set_cons_succ]
        refine anyL_ready (rs := [11]) (by kernel_rfl) (by simp) ?_
        refine AllL.cons rfl (fun K hK => ?_) AllL.nil
        go_simp
        refine unhide hK _ _ (fun _ => unhide HSA) ?_
        clear hK K
        refine anyL_ready (rs := [12]) (by kernel_rfl) (by simp) ?_
        refine AllL.cons rfl (fun K hK => ?_) AllL.nil
        refine step_append_in rfl _ _ 24 24 rfl _ _ rfl rfl _ _ (unhide R2) ?_
        go_simp
        clear R2
        refine unhide hK _ _ (fun _ => unhide HS2) ?_
        clear hK K
        refine anyL_take (i := 13) (v := ?vcb22) rfl (by kernel_rfl) (by kernel_rfl) (by kernel_rfl) (by kernel_rfl) (fun _ _ _ h => h) (Or.inl ⟨by rfl, ?hcb22⟩) (unhide HS2) ?_
        case hcb22 => (intro w hSw; (try dsimp only at hSw); go_simp) <;> with_reducible rfl
        simp only [Act.put, List.getElem_toArray, List.getElem_cons_zero, List.getElem_cons_succ, List.setIfInBounds_toArray, List.set_cons_zero, List.set_cons_succ]
        refine anyL_take (i := 14) (v := ?vcb23) rfl (by kernel_rfl) (by kernel_rfl) (by kernel_rfl) (by kernel_rfl) (fun _ _ _ h => h) (Or.inl ⟨by rfl, ?hcb23⟩) (unhide HS2) ?_
        case hcb23 => (intro w hSw; (try dsimp only at hSw); go_simp) <;> with_reducible rfl
        simp only [Act.put, List.getElem_toArray, List.getElem_cons_zero, List.getElem_cons_succ, List.setIfInBounds_toArray, List.set_cons_zero, List.set_cons_succ]
        refine anyL_ready (rs := [15]) (by kernel_rfl) (by simp) ?_
        refine AllL.cons rfl (fun K hK => ?_) AllL.nil
        go_simp
        refine unhide hK _ _ (fun h => by cases h) ?_
        clear hK K
        refine anyL_done (by kernel_rfl) ?_ _
        go_wp2_with fail
        go_meet
        case rel => exact ⟨rfl, HR, HBB⟩
    case rest =>
      obtain ⟨rfl, HI2, HB2⟩ := hcut
      clear HI1 HS H1 H2 H3 HT HB1
      obtain ⟨vo, vt, h1, h2, h3⟩ := (unhide HI2).c
      dsimp only at h1 h2
      have HS : Hid (∀ Y, Bd4 Y g o r vo (.int .i64 (kept : Int)) vt (.int .i64 (dr : Int)) → Y.cell? ⟨g, o, none⟩ = some vo ∧ Y.cell? ⟨g, o + 3, none⟩ = some (.int .i64 (dr : Int))) := hide fun Y hY => ⟨(b4_read hY).1, (b4_read hY).2.2.2⟩
      have c3 := (b4_read h1).2.2.2
      have H1 := hide h1
      have H2 := hide h2
      have H3 := hide h3
      clear h1 h2 h3
      go_upto_if 46 with fail
      clear c3
      go_cut [0] (fun v wz => v = .pointer (some ⟨g, o, none⟩) ∧ Hid (IsBd wz B g o r ⟨ops ++ kO kept ++ pO tx ++ dO dr, kept, tx, dr⟩ ts) ∧ Hid (Below B X wz))
      case first =>
        by_cases hd0 : dr = 0
        · have t3 : decide (0 < dr) = false := decide_eq_false (by omega)
          have HR : Hid (IsBd wc B g o r ⟨ops ++ kO kept ++ pO tx ++ dO dr, kept, tx, dr⟩ ts) := hide (by
            have hp : dO dr = [] := by rw [hd0]; rfl
            rw [hp, List.append_nil]
            exact unhide HI2)
          clear hd0 HI2 HS H1 H2 H3
          simp only [t3]
          go_wp2_with fail
          go_meet
          case rel => exact ⟨rfl, HR, HB2⟩
        · have t3 : decide (0 < dr) = true := decide_eq_true (by omega)
          have hkO : dO dr = [⟨3, (dr : Int), []⟩] := by unfold dO; rw [if_neg hd0]
          have hnl : (ops ++ kO kept ++ pO tx).length ≤ 1099511627776 := by
            have q1 : (kO kept).length ≤ 1 := by unfold kO; split <;> simp
            have q2 : (pO tx).length ≤ 1 := by unfold pO; split <;> simp
            rw [List.length_append, List.length_append]; omega
          obtain ⟨g2, m2, k2, W2, r2, dA, dB, hI2, b2⟩ := bd_push (bd_drew (unhide HI2)) hnl (Nat.le_trans (unhide HB) (unhide HB2).size) 3 (dr : Int) ⟨#[]⟩ ⟨3, (dr : Int), []⟩ rfl ((unhide H1).same rfl) (rowD_drew (unhide H2)) (rowD_drew (unhide H3))
          have R2 := hide r2
          have HR := hide hI2
          have HBB := hide ((unhide HB2).trans (((Below.refl B wc).drew).trans b2))
          rw [← hkO] at HR
          have HS0 := hide (unhide HS _ ((unhide H1).same (Y := wc.drew) rfl))
          have HSA := hide (unhide HS _ dA)
          have HS2 := hide (unhide HS _ dB)
          have e0 := (b4_read dB).1
          have f0 := dB.cells.2.2.2.2 o
          clear hd0 HI2 HS H1 H2 H3 r2 dA dB hI2 b2 hkO hnl
          simp only [t3]
          go_upto_region 5 with fail
          refine regionL (S := fun w' => w'.cell? ⟨g, o, none⟩ = some vo ∧ w'.cell? ⟨g, o + 3, none⟩ = some (.int .i64 (dr : Int))) (fun i => i == 14) (by kernel_rfl) ?_
          refine anyL_take (i := 0) (v := ?vcc24) rfl (by kernel_rfl) (by kernel_rfl) (by kernel_rfl) (by kernel_rfl) (fun _ _ _ h => h) (Or.inl ⟨by rfl, ?hcc24⟩) (unhide HS0) ?_
          case hcc24 => (intro w hSw; (try dsimp only at hSw); go_simp) <;> with_reducible rfl
          simp only [Act.put, List.getElem_toArray, List.getElem_cons_zero, List.setIfInBounds_toArray, List.set_cons_zero, List.set_cons_succ]
          refine anyL_take (i := 1) (v := ?vcc25) rfl (by kernel_rfl) (by kernel_rfl) (by kernel_rfl) (by kernel_rfl) (fun _ _ _ h => h) (Or.inl ⟨by rfl, ?hcc25⟩) (unhide HS0) ?_
          case hcc25 => (intro w hSw; (try dsimp only at hSw); go_simp) <;> with_reducible rfl
          simp only [Act.put, List.getElem_toArray, List.getElem_cons_zero, List.getElem_cons_succ, List.setIfInBounds_toArray, List.set_cons_zero, List.set_cons_succ]
          refine anyL_take (i := 2) (v := ?vcc26) rfl (by kernel_rfl) (by kernel_rfl) (by kernel_rfl) (by kernel_rfl) (fun _ _ _ h => h) (Or.inl ⟨by rfl, ?hcc26⟩) (unhide HS0) ?_
          case hcc26 => (intro w hSw; (try dsimp only at hSw); go_simp) <;> with_reducible rfl
          simp only [Act.put, List.getElem_toArray, List.getElem_cons_zero, List.getElem_cons_succ, List.setIfInBounds_toArray, List.set_cons_zero, List.set_cons_succ]
          refine anyL_take (i := 3) (v := ?vcc27) rfl (by kernel_rfl) (by kernel_rfl) (by kernel_rfl) (by kernel_rfl) (fun _ _ _ h => h) (Or.inl ⟨by rfl, ?hcc27⟩) (unhide HS0) ?_
          case hcc27 => (intro w hSw; (try dsimp only at hSw); go_simp) <;> with_reducible rfl
          simp only [Act.put, List.getElem_toArray, List.getElem_cons_zero, List.getElem_cons_succ, List.setIfInBounds_toArray, List.set_cons_zero, List.set_cons_succ]
          refine anyL_take (i := 4) (v := ?vcc28) rfl (by kernel_rfl) (by kernel_rfl) (by kernel_rfl) (by kernel_rfl) (fun _ _ _ h => h) (Or.inl ⟨by rfl, ?hcc28⟩) (unhide HS0) ?_
          case hcc28 => (intro w hSw; (try dsimp only at hSw); go_simp) <;> with_reducible rfl
          simp only [Act.put, List.getElem_toArray, List.getElem_cons_zero, List.getElem_cons_succ, List.setIfInBounds_toArray, List.set_cons_zero, List.set_cons_succ]
          refine anyL_take (i := 5) (v := ?vcc29) rfl (by kernel_rfl) (by kernel_rfl) (by kernel_rfl) (by kernel_rfl) (fun _ _ _ h => h) (Or.inl ⟨by rfl, ?hcc29⟩) (unhide HS0) ?_
          case hcc29 => (intro w hSw; (try dsimp only at hSw); go_simp) <;> with_reducible rfl
          simp only [Act.put, List.getElem_toArray, List.getElem_cons_zero, List.getElem_cons_succ, List.setIfInBounds_toArray, List.set_cons_zero, List.set_cons_succ]
          refine anyL_take (i := 6) (v := ?vcc30) rfl (by kernel_rfl) (by kernel_rfl) (by kernel_rfl) (by kernel_rfl) (fun _ _ _ h => h) (Or.inl ⟨by rfl, ?hcc30⟩) (unhide HS0) ?_
          case hcc30 => (intro w hSw; (try dsimp only at hSw); go_simp) <;> with_reducible rfl
          simp only [Act.put, List.getElem_toArray, List.getElem_cons_zero, List.getElem_cons_succ, List.setIfInBounds_toArray, List.set_cons_zero, List.set_cons_succ]
          refine anyL_take (i := 7) (v := ?vcc31) rfl (by kernel_rfl) (by kernel_rfl) (by kernel_rfl) (by kernel_rfl) (fun _ _ _ h => h) (Or.inl ⟨by rfl, ?hcc31⟩) (unhide HS0) ?_
          case hcc31 => (intro w hSw; (try dsimp only at hSw); go_simp) <;> with_reducible rfl
          simp only [Act.put, List.getElem_toArray, List.getElem_cons_zero, List.getElem_cons_succ, List.setIfInBounds_toArray, List.set_cons_zero, List.set_cons_succ]
          refine anyL_take (i := 8) (v := ?vcc32) rfl (by kernel_rfl) (by kernel_rfl) (by kernel_rfl) (by kernel_rfl) (fun _ _ _ h => h) (Or.inl ⟨by rfl, ?hcc32⟩) (unhide HS0) ?_
          case hcc32 => (intro w hSw; (try dsimp only at hSw); go_simp) <;> with_reducible rfl
          simp only [Act.put, List.getElem_toArray, List.getElem_cons_zero, List.getElem_cons_succ, List.setIfInBounds_toArray, List.set_cons_zero, List.set_cons_succ]
          refine anyL_take (i := 9) (v := ?vcc33) rfl (by kernel_rfl) (by kernel_rfl) (by kernel_rfl) (by kernel_rfl) (fun _ _ _ h => h) (Or.inl ⟨by rfl, ?hcc33⟩) (unhide HS0) ?_
          case hcc33 => (intro w hSw; (try dsimp only at hSw); go_simp) <;> with_reducible rfl
          simp only [Act.put, List.getElem_toArray, List.getElem_cons_zero, List.getElem_cons_succ, List.setIfInBounds_toArray, List.set_cons_zero, List.set_cons_succ]
          refine anyL_ready (rs := [10]) (by kernel_rfl) (by simp) ?_
          refine AllL.cons rfl (fun K hK => ?_) AllL.nil
          go_simp
          refine unhide hK _ _ (fun _ => unhide HSA) ?_
          clear hK K
          refine anyL_ready (rs := [11]) (by kernel_rfl) (by simp) ?_
          refine AllL.cons rfl (fun K hK => ?_) AllL.nil
          refine step_append_in rfl _ _ 24 24 rfl _ _ rfl rfl _ _ (unhide R2) ?_
          go_simp
          clear R2
          refine unhide hK _ _ (fun _ => unhide HS2) ?_
          clear hK K
          refine anyL_take (i := 12) (v := ?vcc34) rfl (by kernel_rfl) (by kernel_rfl) (by kernel_rfl) (by kernel_rfl) (fun _ _ _ h => h) (Or.inl ⟨by rfl, ?hcc34⟩) (unhide HS2) ?_
          case hcc34 => (intro w hSw; (try dsimp only at hSw); go_simp) <;> with_reducible rfl
          simp only [Act.put, List.getElem_toArray, List.getElem_cons_zero, List.getElem_cons_succ, List.setIfInBounds_toArray, List.set_cons_zero, List.set_cons_succ]
          refine anyL_take (i := 13) (v := ?vcc35) rfl (by kernel_rfl) (by kernel_rfl) (by kernel_rfl) (by kernel_rfl) (fun _ _ _ h => h) (Or.inl ⟨by rfl, ?hcc35⟩) (unhide HS2) ?_
          case hcc35 => (intro w hSw; (try dsimp only at hSw); go_simp) <;> with_reducible rfl
          simp only [Act.put, List.getElem_toArray, List.getElem_cons_zero, List.getElem_cons_succ, List.setIfInBounds_toArray, List.set_cons_zero, List.set_cons_succ]
          refine anyL_ready (rs := [14]) (by kernel_rfl) (by simp) ?_
          refine AllL.cons rfl (fun K hK => ?_) AllL.nil
          go_simp
          refine unhide hK _ _ (fun h => by cases h) ?_
          clear hK K
          refine anyL_done (by kernel_rfl) ?_ _
          go_wp2_with fail
          go_meet
          case rel => exact ⟨rfl, HR, HBB⟩
      case rest =>
        obtain ⟨rfl, HI3, HB3⟩ := hcut
        clear HI2 HS H1 H2 H3 HB2
        obtain ⟨vo, vt, h1, h2, h3⟩ := (unhide HI3).c
        dsimp only at h1 h2
        obtain ⟨at', ct, rfl, hct⟩ := rowD_form h3
        have d1 := (h1.set (.int .i64 0)).2.1
        have d2 := (d1.set (.slice at' 0 ct)).2.2.1
        have d3 := (d2.set (.int .i64 0)).2.2.2
        obtain ⟨e0, e1, e2, e3⟩ := b4_read h1
        have f1 := h1.cells.2.2.2.2 (o + 1)
        have f2 := h1.cells.2.2.2.2 (o + 2)
        have f3 := h1.cells.2.2.2.2 (o + 3)
        have HR : Hid (IsBd (((wc.setCell ⟨g, o + 1, none⟩ (.int .i64 0)).setCell ⟨g, o + 2, none⟩ (.slice at' 0 ct)).setCell ⟨g, o + 3, none⟩ (.int .i64 0)).drew B g o r ⟨ops ++ kO kept ++ pO tx ++ dO dr, 0, [], 0⟩ []) := hide (bd_drew (by
          refine ⟨⟨vo, _, d3, ?_, ?_⟩, ⟨rfl, fun x hx => by simp at hx⟩, (unhide HI3).z, d2.fset (d1.fset (h1.fset (unhide HI3).f _ _) _ _) _ _⟩
          · exact bd_rows d2 (fun _ => bdb_op) (bd_rows d1 (fun _ => bdb_op) (bd_rows h1 (fun _ => bdb_op) h2 _ _) _ _) _ _
          · exact bd_rows d2 (fun _ => bdb_str) (bd_rows d1 (fun _ => bdb_str) (bd_rows h1 (fun _ => bdb_str) (rowD_none h3) _ _) _ _) _ _))
        have HBB := hide (((((unhide HB3).setCell (p := ⟨g, o + 1, none⟩) (unhide HI3).z (.int .i64 0)).setCell (p := ⟨g, o + 2, none⟩) (unhide HI3).z (.slice at' 0 ct)).setCell (p := ⟨g, o + 3, none⟩) (unhide HI3).z (.int .i64 0)).drew)
        clear d1 d2 d3 h1 h2 h3 HI3
        go_upto_region 6 with fail
        go_region
        exact bodyPost_end (v := .tuple #[]) (results_none Tryd.results76 _ _ _) rfl ⟨rfl, unhide HR, unhide HBB⟩

theorem kO_len (n : Nat) : (kO n).length ≤ 1 := by unfold kO; split <;> simp
theorem pO_len (t : List Int) : (pO t).length ≤ 1 := by unfold pO; split <;> simp
theorem dO_len (n : Nat) : (dO n).length ≤ 1 := by unfold dO; split <;> simp
/-- what a builder may hold -/
structure BdOk (b : Bld) (ts : List (List Int)) : Prop where
  o : b.ops.length ≤ 1099511627770
  k : b.kept ≤ 2305843009213693952
  d : b.dr ≤ 2305843009213693952
  t : ts.length ≤ 4398046511104
  l : b.tx.length ≤ 140737488355328
theorem closeB_at (B g o : Nat) (r : Nat → Option Value) (b : Bld) (ts : List (List Int)) (X : World) (h : IsBd X B g o r b ts) (hk : BdOk b ts) (hB : B ≤ X.heap.size) :
    Calls Tryd.prog 76 #[.pointer (some ⟨g, o, none⟩)] X fun y X' => y = .returned (.tuple #[]) ∧ IsBd X' B g o r ⟨b.fin, 0, [], 0⟩ [] ∧ Below B X X' := by
  obtain ⟨ops, kept, tx, dr⟩ := b
  exact close_at B g o r ops kept dr tx ts X h hk.o hB (by have := hk.k; dsimp only at this; omega) (by have := hk.d; dsimp only at this; omega) hk.t hk.l
set_option maxRecDepth 100000 in
set_option maxHeartbeats 1000000 in
theorem bdelta_at (B g o : Nat) (r : Nat → Option Value) (b : Bld) (ts : List (List Int)) (X : World) (h : IsBd X B g o r b ts) (hk : BdOk b ts) (hB : B ≤ X.heap.size) :
    Calls Tryd.prog 67 #[.pointer (some ⟨g, o, none⟩)] X fun y X' => ∃ v, y = .returned v ∧ X'.ownsRow B 41 3 v b.fin.length (opsV b.fin) ∧ Below B X X' := by
  have HC := hide (closeB_at B g o r b ts X h hk hB)
  clear h hk hB
  go_enter Tryd.func67, Tryd.ntmps67
  go_wp2_with fail
  refine (unhide HC).mono ?_
  rintro y X' ⟨rfl, hI, hb⟩
  dsimp only
  obtain ⟨vo, vt, h1, h2, h3⟩ := hI.c
  have c0 := (b4_read h1).1
  have HR := hide h2
  have HB := hide hb
  clear hI hb h1 h2 h3 HC
  go_wp2_with fail
  refine bodyPost_ret (results_tmp rfl _ _ _) rfl ⟨vo, rfl, unhide HR, unhide HB⟩
set_option maxRecDepth 100000 in
set_option maxHeartbeats 1000000 in
theorem bkeep_at (B g o : Nat) (r : Nat → Option Value) (b : Bld) (ts : List (List Int)) (n : Nat) (X : World) (h : IsBd X B g o r b ts) (hk : BdOk b ts) (hn : n ≤ 2305843009213693952) (hB : B ≤ X.heap.size) :
    Calls Tryd.prog 64 #[.pointer (some ⟨g, o, none⟩), .int .i64 (n : Int)] X fun y X' => y = .returned (.tuple #[]) ∧ (∃ ts', IsBd X' B g o r (b.keep n) ts' ∧ ts'.length ≤ ts.length) ∧ Below B X X' := by
  by_cases h0 : n = 0
  · subst h0
    have HR : Hid (∃ ts', IsBd X B g o r (b.keep 0) ts' ∧ ts'.length ≤ ts.length) := hide ⟨ts, by simpa [Bld.keep] using h, Nat.le_refl _⟩
    clear h hk hB hn
    go_enter Tryd.func64, Tryd.ntmps64
    go_wp2_with fail
    refine bodyPost_ret (v := .tuple #[]) (results_none Tryd.results64 _ _ _) rfl ⟨rfl, unhide HR, Below.refl _ _⟩
  have t0 : ((n : Int) == 0) = false := by simp; omega
  have t0' : (n == 0) = false := by simp; omega
  have HE := hide h.t
  have hkd := hk.d
  have hkk := hk.k
  have hkt := hk.t
  by_cases ht : b.tx = [] ∧ b.dr = 0
  · have hts : ts = [] := by
      cases ts with
      | nil => rfl
      | cons a q =>
        have := (unhide HE).1
        rw [ht.1] at this
        exact absurd (List.flatten_eq_nil_iff.1 this a (by simp)) ((unhide HE).2 a (by simp))
    have hke : b.keep n = ⟨b.ops, b.kept + n, b.tx, b.dr⟩ := by unfold Bld.keep; rw [if_neg h0, if_pos ht, ht.1, ht.2]
    have HR : Hid (∃ ts', IsBd (X.setCell ⟨g, o + 1, none⟩ (.int .i64 ((b.kept + n : Nat) : Int))) B g o r (b.keep n) ts' ∧ ts'.length ≤ ts.length) := hide ⟨ts, by rw [hke]; exact h.kept (b.kept + n), Nat.le_refl _⟩
    have HBB := hide ((Below.refl B X).setCell (p := ⟨g, o + 1, none⟩) h.z (.int .i64 ((b.kept + n : Nat) : Int)))
    obtain ⟨vo, vt, h1, h2, h3⟩ := h.c
    obtain ⟨e0, e1, e2, e3⟩ := b4_read h1
    have f1 := h1.cells.2.2.2.2 (o + 1)
    obtain ⟨at', ct, rfl, hct⟩ := rowD_form h3
    rw [ht.2] at e3
    subst hts
    have hw : wrap64 ((b.kept : Int) + (n : Int)) = ((b.kept + n : Nat) : Int) := by rw [wrapD _ (by omega) (by omega)]; omega
    clear h hk hB h1 h2 h3 ht hke HE e0 hkd hkk hkt hn
    go_enter Tryd.func64, Tryd.ntmps64
    go_wp2_with fail
    exact bodyPost_end (v := .tuple #[]) (results_none Tryd.results64 _ _ _) rfl ⟨rfl, unhide HR, unhide HBB⟩
  · have HC := hide (closeB_at B g o r b ts X h hk hB)
    have hke : b.keep n = ⟨b.fin, n, [], 0⟩ := by unfold Bld.keep; rw [if_neg h0, if_neg ht]
    have HK := hide hke
    obtain ⟨vo, vt, h1, h2, h3⟩ := h.c
    obtain ⟨e0, e1, e2, e3⟩ := b4_read h1
    obtain ⟨at', ct, rfl, hct⟩ := rowD_form h3
    have hw : wrap64 ((0 : Int) + (n : Int)) = (n : Int) := by rw [wrapD _ (by omega) (by omega)]; omega
    have HT : Hid (decide (0 < ts.length) = true ∨ (decide (0 < ts.length) = false ∧ decide (0 < b.dr) = true)) := hide (by
      cases ts with
      | cons a q => left; simp
      | nil =>
        right
        refine ⟨rfl, decide_eq_true ?_⟩
        have := (unhide HE).1
        rcases Nat.eq_zero_or_pos b.dr with h9 | h9
        · exact absurd ⟨this.symm, h9⟩ ht
        · exact h9)
    clear h hk hB h1 h2 h3 ht hke HE e0 e1 hkd hkk hkt hct
    rcases unhide HT with t1 | ⟨t1, t2⟩
    all_goals
      clear HT
      go_enter Tryd.func64, Tryd.ntmps64
      go_wp2_with fail
      refine (unhide HC).mono ?_
      rintro y X' ⟨rfl, hI, hb⟩
      dsimp only
      clear HC e2 e3
      have HR := hide (hI.kept n)
      dsimp only at HR
      have HBB := hide (hb.setCell (p := ⟨g, o + 1, none⟩) hI.z (.int .i64 (n : Int)))
      obtain ⟨vo, vt, h1, h2, h3⟩ := hI.c
      obtain ⟨e0, e1, e2, e3⟩ := b4_read h1
      have f1 := h1.cells.2.2.2.2 (o + 1)
      dsimp only at e1
      clear hI hb h1 h2 h3 e0 e2 e3
      go_wp2_with fail
      refine bodyPost_end (v := .tuple #[]) (results_none Tryd.results64 _ _ _) rfl ⟨rfl, ⟨[], by rw [unhide HK]; exact unhide HR, Nat.zero_le _⟩, unhide HBB⟩

end Go.Proofs.YtkdnanlgkedjgabDoor
end

section
namespace Go.Proofs.YtkdnanlgkedjgabDoor
open Go.ChangeShapes Go.WideShapes Go.ChangeAt Go.RowKit
attribute [local go_sem] Oper.semAt_some

def lonB (d : List Dop) : Bool := decide (268435456 < frD d ∨ 268435456 < toD d)
theorem lon_sat (d : List Dop) : decide (268435456 < satD (frD d) ∨ 268435456 < satD (toD d)) = lonB d := by unfold lonB satD; rw [decide_eq_decide]; omega
def valB (d : List Dop) : Bool := d.all plB && (apL 7 d && !lonB d)
theorem plB_nn {d : List Dop} (h : d.all plB = true) : ∀ o ∈ d, NnD o := fun o ho hk => by
  have := List.all_eq_true.1 h o ho
  unfold plB at this
  rw [if_neg (by omega)] at this
  simp at this
  omega
set_option maxRecDepth 100000 in
set_option maxHeartbeats 2000000 in
theorem Valid_atD (a : Option Addr) (c : Nat) (d : List Dop) (w : World) (h : IsO w a d) (hl : d.length ≤ 4611686018427387904) :
    Calls Tryd.prog 35 #[.slice a d.length c] w fun y w' => y = .returned (.bool (valB d)) ∧ Below w.heap.size w w' := by
  have HP := hide (plain_at a c d w h hl)
  have HA := hide fun (X : World) (hx : Below w.heap.size w X) => apart_at a c d X (h.below hx (Nat.le_refl _)) hl
  have HM := hide fun (X : World) (hx : Below w.heap.size w X) (hp : d.all plB = true) => measure_at a c d X (h.below hx (Nat.le_refl _)) hl (plB_nn hp)
  have HL := hide fun (X : World) => long_at (satD (frD d)) (satD (toD d)) X (by have := satD_le (frD d); omega) (by have := satD_le (toD d); omega)
  rw [lon_sat] at HL
  have HV : Hid (valB d = (d.all plB && (apL 7 d && !lonB d))) := hide rfl
  clear h hl
  generalize valB d = V at *
  generalize satD (frD d) = F at *
  generalize satD (toD d) = T at *
  generalize lonB d = L at *
  generalize apL 7 d = A at *
  go_enter Tryd.func35, Tryd.ntmps35
  go_wp2_with fail
  refine (unhide HP).mono ?_
  rintro y w1 ⟨rfl, x1⟩
  dsimp only
  cases hp : d.all plB with
  | false =>
    have HV2 : Hid (V = false) := hide (by rw [unhide HV, hp]; rfl)
    clear HP HA HM HL HV hp
    go_wp2_with fail
    rw [unhide HV2]
    refine bodyPost_ret (results_tmp rfl _ _ _) rfl ⟨rfl, x1⟩
  | true =>
    have HPP := hide hp
    clear HP hp
    go_wp2_with fail
    refine (unhide HA w1 x1).mono ?_
    rintro y w2 ⟨rfl, x2⟩
    dsimp only
    have X2 := x1.trans (x2.mono x1.size)
    clear HA x1 x2
    cases A with
    | false =>
      have HV2 : Hid (V = false) := hide (by rw [unhide HV, unhide HPP]; rfl)
      clear HM HL HV HPP
      go_wp2_with fail
      rw [unhide HV2]
      refine bodyPost_ret (results_tmp rfl _ _ _) rfl ⟨rfl, X2⟩
    | true =>
      have HM2 := hide (unhide HM w2 X2 (unhide HPP))
      have HV2 : Hid (V = !L) := hide (by rw [unhide HV, unhide HPP]; rfl)
      have HX2 := hide X2
      clear HM HV HPP X2
      go_wp2_with fail
      refine (unhide HM2).mono ?_
      rintro y w3 ⟨rfl, x3⟩
      dsimp only
      have HX3 := hide ((unhide HX2).trans (x3.mono (unhide HX2).size))
      clear HM2 HX2 x3
      go_wp2_with fail
      refine (unhide HL w3).mono ?_
      rintro y w4 ⟨rfl, x4⟩
      dsimp only
      have HX4 := hide ((unhide HX3).trans (x4.mono (unhide HX3).size))
      clear HL HX3 x4
      cases L with
      | false =>
        go_wp2_with fail
        rw [unhide HV2]
        refine bodyPost_ret (results_tmp rfl _ _ _) rfl ⟨rfl, unhide HX4⟩
      | true =>
        go_wp2_with fail
        rw [unhide HV2]
        refine bodyPost_ret (results_tmp rfl _ _ _) rfl ⟨rfl, unhide HX4⟩
theorem valB_nn {d : List Dop} (h : valB d = true) : (∀ o ∈ d, NnD o) ∧ frD d ≤ 268435456 ∧ toD d ≤ 268435456 := by
  unfold valB lonB at h
  simp only [Bool.and_eq_true, Bool.not_eq_true', decide_eq_false_iff_not] at h
  exact ⟨plB_nn h.1, by omega, by omega⟩
def lensV (d : List Dop) : Value := if valB d then .tuple #[.int .i64 (frD d : Int), .int .i64 (toD d : Int), .int .i64 0] else .tuple #[.int .i64 0, .int .i64 0, .int .i64 130]
theorem results_tmp3 {P : Program} {fn : Func} {i j k : Nat} (h : fn.results = #[.tmp i, .tmp j, .tmp k]) (tmps : Array Value) (w : World) : (results fn tmps).run P w = .ok (.tuple #[tmps.getD i undef, tmps.getD j undef, tmps.getD k undef]) w := by
  simp [results, h, go_sem]
set_option maxRecDepth 100000 in
set_option maxHeartbeats 2000000 in
theorem Lens_at (a : Option Addr) (c : Nat) (d : List Dop) (w : World) (h : IsO w a d) (hl : d.length ≤ 4611686018427387904) :
    Calls Tryd.prog 22 #[.slice a d.length c] w fun y w' => y = .returned (lensV d) ∧ Below w.heap.size w w' := by
  have HA := hide (Valid_atD a c d w h hl)
  have HM := hide fun (X : World) (hx : Below w.heap.size w X) (hp : valB d = true) => measure_at a c d X (h.below hx (Nat.le_refl _)) hl (valB_nn hp).1
  unfold lensV
  clear h hl
  cases hv : valB d with
  | false =>
    rw [hv] at HA
    clear HM hv
    simp only [Bool.false_eq_true, if_false]
    go_enter Tryd.func22, Tryd.ntmps22
    go_wp2_with fail
    refine (unhide HA).mono ?_
    rintro y w1 ⟨rfl, x1⟩
    dsimp only
    clear HA
    go_wp2_with fail
    refine bodyPost_ret (results_tmp3 rfl _ _) rfl ⟨rfl, x1⟩
  | true =>
    have HS : Hid (satD (frD d) = frD d ∧ satD (toD d) = toD d) := hide (by have := (valB_nn hv).2; unfold satD; omega)
    have HM2 := hide fun (X : World) (hx : Below w.heap.size w X) => unhide HM X hx hv
    rw [(unhide HS).1, (unhide HS).2] at HM2
    rw [hv] at HA
    clear HM hv HS
    simp only [if_true]
    generalize frD d = F at *
    generalize toD d = T at *
    go_enter Tryd.func22, Tryd.ntmps22
    go_wp2_with fail
    refine (unhide HA).mono ?_
    rintro y w1 ⟨rfl, x1⟩
    dsimp only
    have HM3 := hide (unhide HM2 w1 x1)
    have HX1 := hide x1
    clear HA HM2 x1
    go_wp2_with fail
    refine (unhide HM3).mono ?_
    rintro y w2 ⟨rfl, x2⟩
    dsimp only
    have kZ := Cls.new w2 44 #[.int .i64 (F : Int), .int .i64 (T : Int)]
    have b0 := (Below.refl w2.heap.size w2).alloc (Nat.le_refl _) (.cells #[.int .i64 (F : Int), .int .i64 (T : Int)] 44)
    have X2 := (unhide HX1).trans (x2.mono (unhide HX1).size)
    have HX3 := hide (X2.trans (b0.mono X2.size))
    clear HM3 HX1 x2 b0 X2
    go_upto_region 4 with fail
    generalize w2.heap.size = gZ at *
    generalize w2.alloc (.cells #[.int .i64 (F : Int), .int .i64 (T : Int)] 44) = w3 at *
    obtain ⟨c0, c1, _, _⟩ := (show IsZ w3 gZ F T from kZ).cells
    clear kZ
    go_region
    go_wp2_with fail
    refine bodyPost_ret (results_tmp3 rfl _ _) rfl ⟨rfl, (unhide HX3).drew⟩

/-- texts of bytes, of a length that may be -/
def TxD (o : Dop) : Prop := o.t.length ≤ 140737488351232 ∧ ∀ x ∈ o.t, 0 ≤ x ∧ x ≤ 255
theorem kn_nn {d : List Dop} (h : d.all knB = true) : ∀ o ∈ d, NnD o := fun o ho hk => by
  have := List.all_eq_true.1 h o ho
  unfold knB at this
  simp at this
  omega
theorem kn_k {d : List Dop} (h : d.all knB = true) {o : Dop} (ho : o ∈ d) : o.k = 1 ∨ o.k = 2 ∨ o.k = 3 := by
  have := List.all_eq_true.1 h o ho
  unfold knB at this
  simp at this
  omega
theorem feedD_take (d : List Dop) {k : Nat} (hk : k < d.length) (b : Bld) : feedD b (d.take (k + 1)) = (feedD b (d.take k)).op (d.getD k opZ) := by
  unfold feedD
  rw [List.take_add_one, List.getElem?_eq_getElem hk, Option.toList_some, List.foldl_append]
  simp [List.getD_eq_getElem?_getD, List.getElem?_eq_getElem hk]
theorem fin_lenD (b : Bld) : b.fin.length ≤ b.ops.length + 3 := by
  unfold Bld.fin
  have := kO_len b.kept
  have := pO_len b.tx
  have := dO_len b.dr
  simp only [List.length_append]
  omega

end Go.Proofs.YtkdnanlgkedjgabDoor
end

section
namespace Go.Proofs.YtkdnanlgkedjgabDoor
open Go.ChangeShapes Go.WideShapes Go.ChangeAt Go.RowKit
attribute [local go_sem] Oper.semAt_some

theorem ins_len : ∀ a : List Atm, (insD a).length = a.length + 1
  | [] => rfl
  | .k :: _ => rfl
  | .d :: _ => rfl
  | .p x :: a => by simp only [insD, List.length_cons]; rw [ins_len a]
theorem nf_len : ∀ a : List Atm, (nfA a).length = a.length
  | [] => rfl
  | .k :: a => by simp only [nfA, List.length_cons]; rw [nf_len a]
  | .p x :: a => by simp only [nfA, List.length_cons]; rw [nf_len a]
  | .d :: a => by simp only [nfA, List.length_cons]; rw [ins_len, nf_len a]
theorem pln_pos {o : Dop} (h : Pln o) : 1 ≤ (opA o).length := by
  rcases h with ⟨h1 | h1, h2, _⟩ | ⟨h1, _, h3⟩
  · simp [opA, h1]; omega
  · simp [opA, h1]; omega
  · simp [opA, h1]
    cases ht : o.t with
    | nil => exact absurd ht h3
    | cons a r => simp
theorem can_len : ∀ {d : List Dop}, (∀ o ∈ d, Pln o) → d.length ≤ (dA d).length
  | [], _ => Nat.le_refl _
  | o :: r, h => by
    have := can_len (d := r) (fun x hx => h x (List.mem_cons_of_mem _ hx))
    have := pln_pos (h o List.mem_cons_self)
    rw [dA_cons, List.length_append, List.length_cons]
    omega
theorem dA_len : ∀ {d : List Dop}, (∀ o ∈ d, o.k = 1 ∨ o.k = 2 ∨ o.k = 3) → (dA d).length ≤ frD d + toD d
  | [], _ => Nat.le_refl _
  | o :: r, h => by
    have ih := dA_len (d := r) (fun x hx => h x (List.mem_cons_of_mem _ hx))
    have e : (opA o).length ≤ frN o + toN o := by
      unfold opA frN toN
      rcases h o List.mem_cons_self with h1 | h1 | h1 <;> simp [h1]
    have e1 : frD (o :: r) = frN o + frD r := by simp [frD]
    have e2 : toD (o :: r) = toN o + toD r := by simp [toD]
    rw [dA_cons, List.length_append, e1, e2]
    omega
/-- what a builder holds is no more than what was handed on -/
theorem feed_bound (u : List Atm) : (feedA b0 u).ops.length + (feedA b0 u).kept + (feedA b0 u).tx.length + (feedA b0 u).dr ≤ u.length := by
  have hw := wb_feed u wb0
  have h1 := congrArg List.length (feed_atoms u wb0)
  rw [nf_len, nf_len, fin_atoms] at h1
  have h2 := can_len hw.c.p
  simp only [List.length_append, List.length_replicate, List.length_map, show dA b0.fin = [] from rfl, List.length_nil, Nat.zero_add] at h1
  omega
theorem ts_len {ts : List (List Int)} (h : ∀ x ∈ ts, x ≠ []) : ts.length ≤ ts.flatten.length := by
  induction ts with
  | nil => simp
  | cons a r ih =>
    have := ih (fun x hx => h x (List.mem_cons_of_mem _ hx))
    have : 1 ≤ a.length := by cases a with | nil => exact absurd rfl (h [] (by simp)) | cons b q => simp
    simp only [List.length_cons, List.flatten_cons, List.length_append]
    omega
theorem bd_ok {X : World} {B g o : Nat} {r : Nat → Option Value} {u : List Atm} {ts : List (List Int)} (h : IsBd X B g o r (feedA b0 u) ts) (hu : u.length ≤ 1073741824) : BdOk (feedA b0 u) ts := by
  have h1 := feed_bound u
  have h2 := ts_len h.t.2
  rw [h.t.1] at h2
  exact ⟨by omega, by omega, by omega, by omega, by omega⟩
theorem dA_take (d : List Dop) (k : Nat) : (dA (d.take k)).length ≤ (dA d).length := by
  have : dA d = dA (d.take k) ++ dA (d.drop k) := by rw [← dA_app, List.take_append_drop]
  rw [this, List.length_append]
  omega
theorem op_keep {b : Bld} {o : Dop} (h : o.k = 1) : b.op o = b.keep o.n.toNat := by unfold Bld.op; rw [if_pos h]
theorem op_put {b : Bld} {o : Dop} (h : o.k = 2) : b.op o = b.put o.t := by unfold Bld.op; rw [if_neg (by omega), if_pos h]
theorem op_drop {b : Bld} {o : Dop} (h : o.k = 3) : b.op o = b.drop o.n.toNat := by unfold Bld.op; rw [if_neg (by omega), if_neg (by omega)]
/-- each of a builder, from nothing on -/
theorem each_bd (a : Option Addr) (c B g o : Nat) (r : Nat → Option Value) (d : List Dop) (X : World) (hd : ∀ Y, Below B X Y → IsO Y a d) (hX : IsBd X B g o r b0 []) (hB : B ≤ X.heap.size) (hl : d.length ≤ 4611686018427387904) (hk : ∀ q ∈ d, q.k = 1 ∨ q.k = 2 ∨ q.k = 3) (hn : ∀ q ∈ d, NnD q) (hz : frD d + toD d ≤ 1073741824) :
    Calls Tryd.prog 18 #[.slice a d.length c, .func (.func 64) #[.pointer (some ⟨g, o, none⟩)] #[], .func (.func 65) #[.pointer (some ⟨g, o, none⟩)] #[], .func (.func 66) #[.pointer (some ⟨g, o, none⟩)] #[]] X
      fun y X' => y = .returned (.tuple #[]) ∧ (∃ ts, IsBd X' B g o r (feedA b0 (dA d)) ts) ∧ Below B X X' := by
  have hb : ∀ k, (dA (d.take k)).length ≤ 1073741824 := fun k => by have := dA_take d k; have := dA_len hk; omega
  have := each_at a c B d X 64 65 66 (.pointer (some ⟨g, o, none⟩))
    (fun k Y => (∃ ts, IsBd Y B g o r (feedA b0 (dA (d.take k))) ts) ∧ Below B X Y)
    (enters_of Tryd.func64 (by kernel_rfl) rfl) (enters_of Tryd.func65 (by kernel_rfl) rfl) (enters_of Tryd.func66 (by kernel_rfl) rfl)
    hd (fun k Y hY => hY.2) (fun k Y q ⟨⟨ts, h1⟩, h2⟩ => ⟨⟨ts, h1.on ((Below.refl Y.heap.size Y).alloc (Nat.le_refl _) q) (Nat.le_refl _)⟩, h2.alloc (Nat.le_trans hB h2.size) q⟩) ⟨⟨[], hX⟩, Below.refl _ _⟩ hl
    (fun k Y hlt h1 ⟨⟨ts, hY⟩, hb2⟩ => by
      obtain ⟨m, hm⟩ : ∃ m : Nat, (d.getD k opZ).n = (m : Int) := ⟨(d.getD k opZ).n.toNat, by have := hn _ (getD_memD hlt) (.inl h1); omega⟩
      have hfr : m ≤ frD d + toD d := by
        have e1 := frD_take d hlt
        have e2 : frN (d.getD k opZ) = m := by unfold frN; rw [if_pos (.inl h1), hm]; simp
        have e3 : frD (d.take (k + 1)) ≤ frD d := by
          have : frD d = frD (d.take (k + 1)) + frD (d.drop (k + 1)) := by unfold frD; rw [← List.sum_append, ← List.map_append, List.take_append_drop]
          omega
        omega
      have e : feedA b0 (dA (d.take (k + 1))) = (feedA b0 (dA (d.take k))).keep m := by rw [← feedD_A, ← feedD_A, feedD_take d hlt, op_keep h1, hm]; simp
      rw [hm, e]
      exact (bkeep_at B g o r _ ts m Y hY (bd_ok hY (hb k)) (by omega) (Nat.le_trans hB hb2.size)).mono fun y Z ⟨q, ⟨ts', h3, _⟩, h4⟩ => ⟨q, ⟨ts', h3⟩, hb2.trans h4⟩)
    (fun k Y hlt h1 ⟨⟨ts, hY⟩, hb2⟩ => by
      have e : feedA b0 (dA (d.take (k + 1))) = (feedA b0 (dA (d.take k))).put (d.getD k opZ).t := by rw [← feedD_A, ← feedD_A, feedD_take d hlt, op_put h1]
      rw [e]
      exact (bput_at B g o r _ ts _ Y hY (bd_ok hY (hb k)).t (Nat.le_trans hB hb2.size)).mono fun y Z ⟨q, h3, h4⟩ => ⟨q, ⟨_, h3⟩, hb2.trans h4⟩)
    (fun k Y hlt h1 ⟨⟨ts, hY⟩, hb2⟩ => by
      obtain ⟨m, hm⟩ : ∃ m : Nat, (d.getD k opZ).n = (m : Int) := ⟨(d.getD k opZ).n.toNat, by have := hn _ (getD_memD hlt) (.inr h1); omega⟩
      have hfr : m ≤ frD d + toD d := by
        have e1 := frD_take d hlt
        have e2 : frN (d.getD k opZ) = m := by unfold frN; rw [if_pos (.inr h1), hm]; simp
        have e3 : frD (d.take (k + 1)) ≤ frD d := by
          have : frD d = frD (d.take (k + 1)) + frD (d.drop (k + 1)) := by unfold frD; rw [← List.sum_append, ← List.map_append, List.take_append_drop]
          omega
        omega
      have e : feedA b0 (dA (d.take (k + 1))) = (feedA b0 (dA (d.take k))).drop m := by rw [← feedD_A, ← feedD_A, feedD_take d hlt, op_drop h1, hm]; simp
      rw [hm, e]
      exact (bdrop_at B g o r _ ts m Y hY (by have := (bd_ok hY (hb k)).d; omega)).mono fun y Z ⟨q, h3, h4⟩ => ⟨q, ⟨ts, h3⟩, hb2.trans h4⟩)
    (fun k Y hlt h1 h2 h3 _ => by rcases hk _ (getD_memD hlt) with h | h | h <;> contradiction)
  rw [List.take_length] at this
  exact this
theorem own_lower {X : World} {B B' s n : Nat} {t : TypeId} {v : Value} {xs : List Value} (h : X.ownsRow B t s v n xs) (hB : B' ≤ B) : X.ownsRow B' t s v n xs := by
  refine ⟨h.1, ?_⟩
  rcases h.2 with h2 | ⟨g, cap, cur, e, h3, h4⟩
  · exact Or.inl h2
  · exact Or.inr ⟨g, cap, cur, e, Nat.le_trans hB h3, h4⟩
/-- what Canon answers -/
def canD (d : List Dop) : List Dop × Int := if d.all knB then (if lonB d then ([], 5) else (canA (dA d), 0)) else ([], 130)
theorem row_nilD (w : World) (B : Nat) : w.ownsRow B 41 3 (.slice none 0 0) ([] : List Dop).length (opsV []) := World.ownsRow_nil _ _ _ _
theorem bd_new (w : World) : IsBd (w.alloc (.cells #[.slice none 0 0, .int .i64 0, .slice none 0 0, .int .i64 0] 111)) w.heap.size w.heap.size 0 (fun _ => none) b0 [] := by
  refine ⟨⟨.slice none 0 0, .slice none 0 0, ⟨_, _, World.alloc_heap_new w _, .inl rfl, rfl, rfl, rfl, rfl, fun j hj => ?_⟩, World.ownsRow_nil _ _ _ _, World.ownsRow_nil _ _ _ _⟩, ⟨rfl, fun x hx => by simp at hx⟩, Nat.le_refl _, fun cs q e1 _ => by cases e1⟩
  exact Array.getElem?_eq_none (by simp; omega)
end Go.Proofs.YtkdnanlgkedjgabDoor
end
