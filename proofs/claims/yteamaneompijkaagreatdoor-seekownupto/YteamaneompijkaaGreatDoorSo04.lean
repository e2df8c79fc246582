/- The scanner in memory, and its small calls. · One step is appended to a list of the call's own. -/
import Derived.Test.YteamaneompijkaaGreatDoorSo01
import Derived.Test.YteamaneompijkaaGreatDoorSo03
import Derived.Laws.CopyRow
import Derived.Laws.CopyOwn
namespace Go.Proofs.YteamaneompijkaaGreatDoor
open Go.ChangeShapes Go.WideShapes Go.ChangeAt Go.RowKit
set_option maxRecDepth 100000
set_option maxHeartbeats 8000000
section
def Sca (w : World) (g : Nat) (h : List Int) (fed : Int) : Prop :=
  g < w.heap.size ∧ h.length ≤ 3 ∧ Lies w g 0 h ∧ (∀ i, i < 5 → w.frozen? ⟨g, i, none⟩ = false) ∧ (∀ i, i < 3 → (w.cell? ⟨g, i, none⟩).isSome = true) ∧
    w.cell? ⟨g, 3, none⟩ = some (.int .i64 (h.length : Int)) ∧ w.cell? ⟨g, 4, none⟩ = some (.int .i64 fed)
structure Scf (B g : Nat) (w w' : World) : Prop where
  os : w'.os = w.os
  tape : w'.tape = w.tape
  output : w'.output = w.output
  size : w.heap.size ≤ w'.heap.size
  block : ∀ k, k < B → k ≠ g → w'.heap[k]? = w.heap[k]?
theorem Scf.refl (B g : Nat) (w : World) : Scf B g w w := ⟨rfl, rfl, rfl, Nat.le_refl _, fun _ _ _ => rfl⟩
theorem Scf.trans {B g : Nat} {a b c : World} (h : Scf B g a b) (k : Scf B g b c) : Scf B g a c :=
  ⟨k.os.trans h.os, k.tape.trans h.tape, k.output.trans h.output, Nat.le_trans h.size k.size, fun i hi hn => (k.block i hi hn).trans (h.block i hi hn)⟩
theorem Scf.of {B g : Nat} {a b : World} (h : Below B a b) : Scf B g a b := ⟨h.os, h.tape, h.output, h.size, fun i hi _ => h.block i hi⟩
theorem Scf.below {B g : Nat} {a b : World} (h : Scf B g a b) (hg : B ≤ g) : Below B a b := ⟨h.os, h.tape, h.output, h.size, fun i hi => h.block i hi (by omega)⟩
theorem Scf.mono {B C g : Nat} {a b : World} (h : Scf C g a b) (hB : B ≤ C) : Scf B g a b := ⟨h.os, h.tape, h.output, h.size, fun i hi hn => h.block i (by omega) hn⟩
theorem Scf.chain {B g : Nat} {a b c : World} (hB : B ≤ a.heap.size) (h : Scf B g a b) (k : Below b.heap.size b c) : Scf B g a c := h.trans (.of (k.mono (Nat.le_trans hB h.size)))
theorem Scf.chain2 {B g : Nat} {a b c : World} (hB : B ≤ a.heap.size) (h : Scf B g a b) (k : Scf b.heap.size g b c) : Scf B g a c := h.trans (k.mono (Nat.le_trans hB h.size))
theorem Scf.set {B g : Nat} {a b : World} (h : Scf B g a b) (o : Nat) (v : Value) : Scf B g a (b.setCell ⟨g, o, none⟩ v) := by
  refine ⟨h.os, h.tape, h.output, by rw [size_set]; exact h.size, fun k hk hn => ?_⟩
  rw [← h.block k hk hn]
  simp only [World.setCell]
  rw [Array.getElem?_modify, if_neg (by simpa using Ne.symm hn)]
theorem Scf.drew {B g : Nat} {a b : World} (h : Scf B g a b) : Scf B g a b.drew := ⟨h.os, h.tape, h.output, h.size, fun i hi hn => h.block i hi hn⟩
theorem Scf.drewN {B g : Nat} {a b : World} (h : Scf B g a b) (n : Nat) : Scf B g a (b.drewN n) := ⟨h.os, h.tape, h.output, h.size, fun i hi hn => h.block i hi hn⟩
theorem Sca.same {w w' : World} {g : Nat} {h : List Int} {fed : Int} (hS : Sca w g h fed) (hz : w.heap.size ≤ w'.heap.size) (hb : w'.heap[g]? = w.heap[g]?) : Sca w' g h fed := by
  have c : ∀ o, w'.cell? ⟨g, o, none⟩ = w.cell? ⟨g, o, none⟩ := fun o => World.cell?_of_block (a := ⟨g, o, none⟩) hb
  have f : ∀ o, w'.frozen? ⟨g, o, none⟩ = w.frozen? ⟨g, o, none⟩ := fun o => World.frozen?_of_block (a := ⟨g, o, none⟩) hb
  obtain ⟨hg, hle, hL, hz', hs, hc, hf⟩ := hS
  exact ⟨by omega, hle, fun i hi => by rw [c]; exact hL i hi, fun i hi => by rw [f]; exact hz' i hi, fun i hi => by rw [c]; exact hs i hi, by rw [c]; exact hc, by rw [c]; exact hf⟩
theorem Sca.below {w w' : World} {g B : Nat} {h : List Int} {fed : Int} (hS : Sca w g h fed) (hb : Below B w w') (hB : g < B) : Sca w' g h fed := hS.same hb.size (hb.block g hB)
theorem Sca.lt {w : World} {g : Nat} {h : List Int} {fed : Int} (hS : Sca w g h fed) : g < w.heap.size := hS.1
theorem Sca.gone {w : World} {g : Nat} {h : List Int} {fed : Int} (hS : Sca w g h fed) : Sca (w.setCell ⟨g, 3, none⟩ (.int .i64 0)) g [] fed := by
  obtain ⟨hg, hle, hL, hz, hs, hc, hf⟩ := hS
  have c1 := cell_set (w := w) (g := g) (k := 3) (v := .int .i64 0) (by rw [hc]; rfl)
  refine ⟨by rw [size_set]; exact hg, by simp, fun i hi => absurd hi (by simp), fun i hi => by rw [frozen_set]; exact hz i hi, fun i hi => ?_, by rw [c1, if_pos rfl]; rfl, by rw [c1, if_neg (by omega)]; exact hf⟩
  rw [c1, if_neg (by omega)]; exact hs i hi
theorem Sca.feed {w : World} {g : Nat} {h : List Int} {fed : Int} (hS : Sca w g h fed) (f : Int) : Sca (w.setCell ⟨g, 4, none⟩ (.int .i64 f)) g h f := by
  obtain ⟨hg, hle, hL, hz, hs, hc, hf⟩ := hS
  have c1 := cell_set (w := w) (g := g) (k := 4) (v := .int .i64 f) (by rw [hf]; rfl)
  refine ⟨by rw [size_set]; exact hg, hle, fun i hi => ?_, fun i hi => by rw [frozen_set]; exact hz i hi, fun i hi => ?_, ?_, by rw [c1, if_pos rfl]⟩
  · rw [Nat.zero_add, c1, if_neg (by omega)]; have := hL i hi; rwa [Nat.zero_add] at this
  · rw [c1, if_neg (by omega)]; exact hs i hi
  · rw [c1, if_neg (by omega)]; exact hc
theorem Sca.pos {w : World} {g : Nat} {h : List Int} {fed : Int} (hS : Sca w g h fed) (hT : Tab w) : g ≠ 0 := fun e => by
  subst e
  have h1 := hT 3 (by omega) (by omega)
  rw [show (3 : Int).toNat = 3 from rfl, hS.2.2.2.2.2.1] at h1
  cases h1
theorem Tab.same {w w' : World} (hT : Tab w) (hb : w'.heap[0]? = w.heap[0]?) : Tab w' := fun b h0 h1 => (World.cell?_of_block (a := ⟨0, b.toNat, none⟩) hb).trans (hT b h0 h1)
theorem Tab.scf {w w' : World} {B g : Nat} (hT : Tab w) (hb : Scf B g w w') (hB : 0 < B) (hg : g ≠ 0) : Tab w' := hT.same (hb.block 0 hB (Ne.symm hg))
theorem Lies.same {w w' : World} {g off : Nat} {l : List Int} (hL : Lies w g off l) (hb : w'.heap[g]? = w.heap[g]?) : Lies w' g off l := fun i hi => by
  rw [World.cell?_of_block (a := ⟨g, off + i, none⟩) hb]; exact hL i hi
theorem IsB.scf {w w' : World} {B g : Nat} {a0 : Option Addr} {cap : Nat} {l : List Int} (h : IsB w a0 cap l) (hb : Scf B g w w') (hB : ∀ a, a0 = some a → a.block < B ∧ a.block ≠ g) : IsB w' a0 cap l := by
  obtain ⟨h1, h2, h3, h4⟩ := h
  refine ⟨h1, h2, ?_, h4⟩
  rcases h3 with h3 | ⟨b, off, rfl, hL⟩
  · exact Or.inl h3
  · exact Or.inr ⟨b, off, rfl, hL.same (hb.block b (hB _ rfl).1 (hB _ rfl).2)⟩
theorem Held_at (g : Nat) (h : List Int) (fed : Int) (w : World) (hS : Sca w g h fed) :
    Calls Tryz.prog 131 #[.pointer (some ⟨g, 0, none⟩)] w fun e w' => e = .returned (.int .i64 (h.length : Int)) ∧ w' = w := by
  obtain ⟨_, _, _, _, _, hc, _⟩ := hS
  go_enter Tryz.func131, Tryz.ntmps131
  go_wp2
  go_ret
  exact ⟨rfl, rfl⟩
theorem Sca.hold {g : Nat} {h : List Int} {fed : Int} {w : World} (hS : Sca w g h fed) {x : Int} (hl : h.length < 3) (hx : 0 ≤ x ∧ x ≤ 255) {k : Int} (hk : k = ((h ++ [x]).length : Int)) :
    Sca (((w.setCell ⟨g, h.length, none⟩ (.int .u8 x)).drew).setCell ⟨g, 3, none⟩ (.int .i64 k)) g (h ++ [x]) fed := by
  obtain ⟨hg, _, hL, hz, hs, hc, hf⟩ := hS
  have hs0 := hs h.length (by omega)
  have c1 : ∀ j, (w.setCell ⟨g, h.length, none⟩ (.int .u8 x)).drew.cell? ⟨g, j, none⟩ = if j = h.length then some (.int .u8 x) else w.cell? ⟨g, j, none⟩ := fun j => cell_set hs0 j
  have c2 : ∀ j, (((w.setCell ⟨g, h.length, none⟩ (.int .u8 x)).drew).setCell ⟨g, 3, none⟩ (.int .i64 k)).cell? ⟨g, j, none⟩ = if j = 3 then some (.int .i64 k) else if j = h.length then some (.int .u8 x) else w.cell? ⟨g, j, none⟩ := fun j => by
    rw [cell_set (by rw [c1, if_neg (by omega), hc]; rfl), c1]
  refine ⟨by rw [size_set]; exact Nat.lt_of_lt_of_eq hg (size_set _ _ _).symm, by simp; omega, fun i hi => ?_, fun i hi => ?_, fun i hi => ?_, ?_, ?_⟩
  · simp at hi
    rw [Nat.zero_add, c2, if_neg (by omega)]
    by_cases e : i = h.length
    · subst e; simp [hx]
    · rw [if_neg e]
      have := hL i (by omega)
      rw [Nat.zero_add] at this
      simpa [List.getD, List.getElem?_append_left (show i < h.length by omega)] using this
  · rw [frozen_set]; exact (frozen_set i).trans (hz i hi)
  · rw [c2, if_neg (by omega)]; split
    · rfl
    · exact hs i hi
  · rw [c2, if_pos rfl, hk]
  · rw [c2, if_neg (by omega), if_neg (by omega)]; exact hf
theorem hold_at (g : Nat) (h : List Int) (fed x : Int) (w : World) (hS : Sca w g h fed) (hl : h.length < 3) (hx : 0 ≤ x ∧ x ≤ 255) :
    Calls Tryz.prog 143 #[.pointer (some ⟨g, 0, none⟩), .int .u8 x] w fun e w' => e = .returned (.tuple #[]) ∧ Sca w' g (h ++ [x]) fed ∧ Scf w.heap.size g w w' := by
  have HS := hide hS
  obtain ⟨hg, _, hL, hz, hs, hc, hf⟩ := hS
  have hz0 := hz h.length (by omega)
  obtain ⟨v0, hs0⟩ := Option.isSome_iff_exists.1 (hs h.length (by omega))
  have hz3 : (w.setCell ⟨g, h.length, none⟩ (.int .u8 x)).drew.frozen? ⟨g, 3, none⟩ = false := (frozen_set 3).trans (hz 3 (by omega))
  have hc3 : (w.setCell ⟨g, h.length, none⟩ (.int .u8 x)).drew.cell? ⟨g, 3, none⟩ = some (.int .i64 (h.length : Int)) := (cell_set (by rw [hs0]; rfl) 3).trans (by rw [if_neg (by omega), hc])
  go_enter Tryz.func143, Tryz.ntmps143
  go_wp2
  go_region
  go_wp2
  exact bodyPost_end (v := .tuple #[]) (results_none Tryz.results143 _ _ _) rfl
    ⟨rfl, (unhide HS).hold hl hx (by simp), (((Scf.refl _ g w).set _ _).set _ _).drew⟩
theorem lacksOne_at (g : Nat) (a : Int) (r : List Int) (fed : Int) {v : Bool} (w : World) (hS : Sca w g (a :: r) fed) (hT : Tab w) (hv : (need a == (r.length : Int) + 2) = v) :
    Calls Tryz.prog 144 #[.pointer (some ⟨g, 0, none⟩)] w fun e w' => e = .returned (.bool v) ∧ ∃ n, w' = w.drewN n := by
  obtain ⟨hg, hle, hL, _, _, hc, _⟩ := hS
  simp only [List.length_cons] at hc hle
  obtain ⟨h0, ha0, ha1⟩ := hL.head
  have hN := need_hi a
  have hN0 := need_lo a
  have e2 : ((r.length : Int) + 1 + 1) = (r.length : Int) + 2 := by omega
  go_enter Tryz.func144, Tryz.ntmps144
  go_wp2
  go_quiet ((go_at_call 100; exact Calls.quiet_of_same (Need_any _ _ ha0 ha1 (Tab.drewN hT _))))
  go_wp2
  go_ret
  exact ⟨rfl, _, rfl⟩
theorem sbad_any (w : World) :
    Calls Tryz.prog 142 #[] w fun e w' => e = .returned (stepV 65533 1 false) ∧ Below w.heap.size w w' := by
  go_enter Tryz.func142, Tryz.ntmps142
  go_wp2
  exact bodyPost_ret (v := stepV 65533 1 false) (by simp [results, Tryz.results142, go_sem, stepV]) rfl ⟨rfl, (Below.refl _ _).alloc (Nat.le_refl _) _⟩
theorem alloc_get (w : World) (o : Obj) : (w.alloc o).heap[w.heap.size]? = some o := by
  show (w.heap.push o)[w.heap.size]? = some o
  simp
theorem ScNew_at (w : World) :
    Calls Tryz.prog 129 #[] w fun e w' => ∃ g, e = .returned (.pointer (some ⟨g, 0, none⟩)) ∧ w.heap.size ≤ g ∧ Sca w' g [] 0 ∧ Below w.heap.size w w' := by
  go_enter Tryz.func129, Tryz.ntmps129
  go_wp2
  go_ret
  have hh := alloc_get w
  refine ⟨_, rfl, Nat.le_refl _, ⟨by simp, by simp, fun i hi => absurd hi (by simp), fun i hi => ?_, fun i hi => ?_, ?_, ?_⟩, (Below.refl _ _).alloc (Nat.le_refl _) _⟩
  · simp only [World.frozen?, hh]; simp
  · match i, hi with
    | 0, _ => simp only [World.cell?, hh]; rfl
    | 1, _ => simp only [World.cell?, hh]; rfl
    | 2, _ => simp only [World.cell?, hh]; rfl
  · simp only [World.cell?, hh]; rfl
  · simp only [World.cell?, hh]; rfl
theorem slice_3 (g n : Nat) (hn : n ≤ 3) (W : World) : (Instr.sliceAt 207 (.pointer (some ⟨g, 0, none⟩)) none (some (.int .i64 (n : Int))) none).run Tryz.prog W = .ok (.slice (some ⟨g, 0, none⟩) n 3) W := by
  have har : Tryz.prog.arrayLen 207 = 3 := by kernel_rfl
  rw [run_sliceAt_array_h (P := Tryz.prog) (w := W) (t := 207) ⟨g, 0, none⟩ (by kernel_rfl) .i64 n (by omega) (by rw [har]; omega), har]
  have hz : ∀ W, (sizeOf (Tryz.prog.elem 207)).run Tryz.prog W = .ok 1 W := fun W => by kernel_rfl
  rw [hz]
  simp [Result.andThen, slicedAt, Addr.add]
theorem slice_4 (g n : Nat) (hn : n ≤ 4) (W : World) : (Instr.sliceAt 221 (.pointer (some ⟨g, 0, none⟩)) none (some (.int .i64 (n : Int))) none).run Tryz.prog W = .ok (.slice (some ⟨g, 0, none⟩) n 4) W := by
  have har : Tryz.prog.arrayLen 221 = 4 := by kernel_rfl
  rw [run_sliceAt_array_h (P := Tryz.prog) (w := W) (t := 221) ⟨g, 0, none⟩ (by kernel_rfl) .i64 n (by omega) (by rw [har]; omega), har]
  have hz : ∀ W, (sizeOf (Tryz.prog.elem 221)).run Tryz.prog W = .ok 1 W := fun W => by kernel_rfl
  rw [hz]
  simp [Result.andThen, slicedAt, Addr.add]
theorem copy_held (w : World) (g : Nat) (h : List Int) (hle : h.length ≤ 3) (hL : Lies w g 0 h) (N : Nat) (hN : w.heap[N]? = some (.cells #[.int .u8 0, .int .u8 0, .int .u8 0, .int .u8 0] 221 (0, 0))) :
    ∃ W, (∀ ty, (Builtin.copy_ #[30, 30] ty #[.slice (some ⟨N, 0, none⟩) 4 4, .slice (some ⟨g, 0, none⟩) h.length 3]).run Tryz.prog w = .ok (.int .i64 (h.length : Int)) W) ∧
      Lies W N 0 h ∧ (∀ i, i < 4 → (W.cell? ⟨N, i, none⟩).isSome = true ∧ W.frozen? ⟨N, i, none⟩ = false) ∧ Below N w W ∧ (∀ k, k ≠ N → W.heap[k]? = w.heap[k]?) := by
  have hr := fun ty => run_copy_row (P := Tryz.prog) w 30 30 ty 5 N 0 4 4 ⟨g, 0, none⟩ h.length 3 _ _ (h.map (Value.int .u8)) Tryz.underlying30 (by kernel_rfl) hN (by simp [Nat.min_def]; omega)
    (fun j v hj => by
      rw [Addr.add_lit]
      obtain ⟨x, hx, rfl⟩ : ∃ x, h[j]? = some x ∧ Value.int .u8 x = v := by simpa using hj
      have hjl : j < h.length := (List.getElem?_eq_some_iff.1 hx).1
      have := (hL j hjl).1
      simpa [List.getD, hx] using this) (by simp; omega) (fun v hv => by obtain ⟨x, _, rfl⟩ := List.mem_map.1 hv; rfl)
  have hh := setRow_heap w N _ (((#[.int .u8 0, .int .u8 0, .int .u8 0, .int .u8 0] : Array Value).toList.take 0 ++ h.map (Value.int .u8) ++ (#[.int .u8 0, .int .u8 0, .int .u8 0, .int .u8 0] : Array Value).toList.drop (0 + (h.map (Value.int .u8)).length)).toArray) _ _ hN
  have hD : ((#[.int .u8 0, .int .u8 0, .int .u8 0, .int .u8 0] : Array Value).toList.drop h.length).length = 4 - h.length := by simp
  simp only [List.take_zero, List.nil_append, Nat.zero_add, List.length_map] at hr hh
  generalize (#[.int .u8 0, .int .u8 0, .int .u8 0, .int .u8 0] : Array Value).toList.drop h.length = D at hr hh hD
  refine ⟨_, fun ty => (hr ty).trans rfl, fun i hi => ?_, fun i hi => ⟨?_, ?_⟩, ?_, fun k hk => setRow_other _ _ _ _ hk⟩
  · rw [Nat.zero_add]
    refine ⟨?_, (hL i hi).2⟩
    simp only [World.cell?, hh]
    simp [List.getElem?_append_left (show i < (h.map (Value.int .u8)).length by simpa using hi), List.getD, List.getElem?_eq_getElem hi]
  · simp only [World.cell?, hh]
    simp
    omega
  · simp only [World.frozen?, hh]
    simp
  · exact below_setRow (Below.refl _ _) (Nat.le_refl _) _
theorem Value_is (a0 : Option Addr) (cap n : Nat) (l : List Int) (w : World) (hn : n = l.length) (hm : l.length ≤ maxLen) (hcap : l.length ≤ cap) (hB : Bs w a0 l) (hT : Tab w) :
    Calls Tryz.prog 103 #[.slice a0 n cap] w fun e w' => e = .returned (.int .i32 (value l)) ∧ ∃ n, w' = w.drewN n := by
  subst hn
  exact Value_at a0 cap l w hm hcap hB hT
theorem whole_at (g : Nat) (h : List Int) (fed x : Int) (w : World) (hS : Sca w g h fed) (hx : 0 ≤ x ∧ x ≤ 255) (hT : Tab w) (hw : whole (h ++ [x]) = true) :
    Calls Tryz.prog 145 #[.pointer (some ⟨g, 0, none⟩), .int .u8 x] w fun e w' => e = .returned (stepV (value (h ++ [x])) (h.length + 1) true) ∧ Sca w' g [] fed ∧ Scf w.heap.size g w w' := by
  have HS := hide hS
  have hg := hS.1
  have hle := hS.2.1
  clear hS
  have h1 := alloc_get w (.cells #[.int .i32 0, .int .i64 0, .bool false] 82)
  have h2 := alloc_get (w.alloc (.cells #[.int .i32 0, .int .i64 0, .bool false] 82)) (.cells #[.int .u8 0, .int .u8 0, .int .u8 0, .int .u8 0] 221)
  have hb : Below (w.alloc (.cells #[.int .i32 0, .int .i64 0, .bool false] 82)).heap.size (w.alloc (.cells #[.int .i32 0, .int .i64 0, .bool false] 82)) ((w.alloc (.cells #[.int .i32 0, .int .i64 0, .bool false] 82)).alloc (.cells #[.int .u8 0, .int .u8 0, .int .u8 0, .int .u8 0] 221)) := (Below.refl _ _).alloc (Nat.le_refl _) _
  have hb0 : Below w.heap.size w (w.alloc (.cells #[.int .i32 0, .int .i64 0, .bool false] 82)) := (Below.refl _ _).alloc (Nat.le_refl _) _
  have hz : (w.alloc (.cells #[.int .i32 0, .int .i64 0, .bool false] 82)).heap.size = w.heap.size + 1 := by simp
  rw [hz] at h2 hb
  rw [← hb.block _ (Nat.lt_succ_self _)] at h1
  have hb2 := (hb0.trans (hb.mono (Nat.le_succ _)))
  have hz2 := hb.size
  rw [hz] at hz2
  have hS0 := (unhide HS).below hb2 hg
  have hT0 : Tab ((w.alloc (.cells #[.int .i32 0, .int .i64 0, .bool false] 82)).alloc (.cells #[.int .u8 0, .int .u8 0, .int .u8 0, .int .u8 0] 221)) := hT.below hb2 hT.size
  clear hb hb0 HS hT
  go_enter Tryz.func145, Tryz.ntmps145
  go_wp2
  generalize ((w.alloc (.cells #[.int .i32 0, .int .i64 0, .bool false] 82)).alloc (.cells #[.int .u8 0, .int .u8 0, .int .u8 0, .int .u8 0] 221)) = W0 at *
  obtain ⟨W1, hcp, hL1, hs1, hb1, ho1⟩ := copy_held W0.drew g h hle hS0.2.2.1 (w.heap.size + 1) h2
  have hc := hS0.2.2.2.2.2.1
  have HC := hide hcp
  have hcc := hcp 3
  have hs3 := slice_3 g h.length hle W0.drew
  go_region
  clear hcc HC hcp hs3
  have HS1 := hide ((show Sca W0.drew g h fed from hS0).same (w' := W1) hb1.size (ho1 g (by omega)))
  have hT1 : Tab W1 := Tab.below (w := W0.drew) hT0 hb1 (by omega)
  have HL1 := hide hL1
  obtain ⟨v1, hv1⟩ := Option.isSome_iff_exists.1 (hs1 h.length (by omega)).1
  have hz1 := (hs1 h.length (by omega)).2
  have hw2 : ∀ k, k ≠ w.heap.size + 1 → (W1.setCell ⟨w.heap.size + 1, h.length, none⟩ (.int .u8 x)).heap[k]? = W1.heap[k]? := fun k hk => by
    simp only [World.setCell]
    rw [Array.getElem?_modify, if_neg (by simpa using Ne.symm hk)]
  have HS2 := hide ((unhide HS1).same (w' := W1.setCell ⟨w.heap.size + 1, h.length, none⟩ (.int .u8 x)) (by rw [size_set]; exact Nat.le_refl _) (hw2 g (by omega)))
  have hc2 := (unhide HS2).2.2.2.2.2.1
  have hz2 := (unhide HS2).2.2.2.1 3 (by omega)
  have HS3 := hide (unhide HS2).gone
  have hw3 : ∀ k, k ≠ g → ((W1.setCell ⟨w.heap.size + 1, h.length, none⟩ (.int .u8 x)).setCell ⟨g, 3, none⟩ (.int .i64 0)).heap[k]? = (W1.setCell ⟨w.heap.size + 1, h.length, none⟩ (.int .u8 x)).heap[k]? := fun k hk => by
    rw [World.setCell]
    rw [Array.getElem?_modify, if_neg (by simpa using Ne.symm hk)]
  have HL3 : Hid (Lies ((W1.setCell ⟨w.heap.size + 1, h.length, none⟩ (.int .u8 x)).setCell ⟨g, 3, none⟩ (.int .i64 0)) (w.heap.size + 1) 0 (h ++ [x])) := hide (fun i hi => by
    have c3 := World.cell?_of_block (a := ⟨w.heap.size + 1, i, none⟩) (hw3 (w.heap.size + 1) (by omega))
    rw [Nat.zero_add, c3, cell_set (by rw [hv1]; rfl)]
    simp at hi
    by_cases e : i = h.length
    · subst e; simp [hx]
    · rw [if_neg e]
      have := unhide HL1 i (by omega)
      rw [Nat.zero_add] at this
      simpa [List.getD, List.getElem?_append_left (show i < h.length by omega)] using this)
  have HT3 : Hid (Tab ((W1.setCell ⟨w.heap.size + 1, h.length, none⟩ (.int .u8 x)).setCell ⟨g, 3, none⟩ (.int .i64 0))) := by
    have hgp := (unhide HS1).pos hT1
    exact hide (hT1.same ((hw3 0 (Ne.symm hgp)).trans (hw2 0 (by omega))))
  have hN3 : ((W1.setCell ⟨w.heap.size + 1, h.length, none⟩ (.int .u8 x)).setCell ⟨g, 3, none⟩ (.int .i64 0)).heap[w.heap.size]? = some (.cells #[.int .i32 0, .int .i64 0, .bool false] 82 (0, 0)) := by
    rw [hw3 _ (by omega), hw2 _ (by omega), ho1 _ (by omega)]; exact h1
  have hSz : Scf w.heap.size g w ((W1.setCell ⟨w.heap.size + 1, h.length, none⟩ (.int .u8 x)).setCell ⟨g, 3, none⟩ (.int .i64 0)) := by
    refine Scf.set (Scf.of ?_) _ _
    exact ((hb2.trans (Below.drewN (Below.refl _ _) 1)).trans (hb1.mono (by omega))).setCell (p := ⟨w.heap.size + 1, h.length, none⟩) (by show w.heap.size ≤ w.heap.size + 1; omega) _
  have HW := hide hw
  clear hw hw2 hw3
  have hcN : ∀ o v, (#[.int .i32 0, .int .i64 0, .bool false] : Array Value)[o]? = some v → ((W1.setCell ⟨w.heap.size + 1, h.length, none⟩ (.int .u8 x)).setCell ⟨g, 3, none⟩ (.int .i64 0)).cell? ⟨w.heap.size, o, none⟩ = some v := fun o v hv => by
    simp only [World.cell?, hN3]
    simpa using hv
  have hfN : ∀ o, ((W1.setCell ⟨w.heap.size + 1, h.length, none⟩ (.int .u8 x)).setCell ⟨g, 3, none⟩ (.int .i64 0)).frozen? ⟨w.heap.size, o, none⟩ = false := fun o => by
    simp only [World.frozen?, hN3]
    simp
  have hc0 := hcN 0 _ rfl
  have hc1 := hcN 1 _ rfl
  have hc3 := hcN 2 _ rfl
  have hf0 := hfN 0
  have hf1 := hfN 1
  have hf3 := hfN 2
  clear hcN hfN hN3
  have hSc := unhide HS3
  have HT := unhide HT3
  have HL := unhide HL3
  go_wp2
  clear hc2 hz2 HS2 HS3 HT3 HL3 hv1 hz1 HL1 hs1 HS1 hT1 hb1 ho1 hL1
  have hs4 : (Instr.sliceAt 221 (.pointer (some ⟨w.heap.size + 1, 0, none⟩)) none (some (.int .i64 ((h.length : Int) + 1))) none).run Tryz.prog ((W1.setCell ⟨w.heap.size + 1, h.length, none⟩ (.int .u8 x)).setCell ⟨g, 3, none⟩ (.int .i64 0)) = .ok (.slice (some ⟨w.heap.size + 1, 0, none⟩) (h.length + 1) 4) ((W1.setCell ⟨w.heap.size + 1, h.length, none⟩ (.int .u8 x)).setCell ⟨g, 3, none⟩ (.int .i64 0)) := by
    rw [show ((h.length : Int) + 1) = ((h.length + 1 : Nat) : Int) by omega]
    exact slice_4 (w.heap.size + 1) (h.length + 1) (by omega) _
  generalize ((W1.setCell ⟨w.heap.size + 1, h.length, none⟩ (.int .u8 x)).setCell ⟨g, 3, none⟩ (.int .i64 0)) = W3 at *
  rw [hs4]
  clear hs4
  have HC := hide hSc
  have HL' := hide HL
  have HT' := hide HT
  clear hSc HL HT h1 h2 hb2 hS0 hT0 hz
  simp only [Result.andThen]
  go_wp2_with (first
    | (go_at_call 103; refine (Value_is (some ⟨w.heap.size + 1, 0, none⟩) 4 (h.length + 1) (h ++ [x]) _ (by simp) (by simp [maxLen]; omega) (by simp; omega) (Or.inr ⟨_, _, rfl, unhide HL'⟩) (unhide HT')).mono ?_; rintro e w' ⟨rfl, n, rfl⟩))
  have hb3 : Below w.heap.size W3 ((((W3.drewN n).setCell ⟨w.heap.size, 0, none⟩ (.int .i32 (value (h ++ [x])))).setCell ⟨w.heap.size, 1, none⟩ (.int .i64 ((h.length : Int) + 1))).setCell ⟨w.heap.size, 2, none⟩ (.bool true)) :=
    (((Below.drewN (Below.refl w.heap.size W3) n).setCell (p := ⟨w.heap.size, 0, none⟩) (Nat.le_refl _) _).setCell (p := ⟨w.heap.size, 1, none⟩) (Nat.le_refl _) _).setCell (p := ⟨w.heap.size, 2, none⟩) (Nat.le_refl _) _
  exact bodyPost_ret (v := stepV (value (h ++ [x])) (h.length + 1) true) (by simp [results, Tryz.results145, go_sem, stepV, hc0, hc1, hc3]) rfl ⟨rfl, (unhide HC).below hb3 hg, hSz.trans (.of hb3)⟩
end
section
theorem info_st : ∃ i, Tryz.prog.info? 82 = some i ∧ i.zero = some (.agg #[.int .i32 0, .int .i64 0, .bool false]) ∧ i.size = 3 ∧ i.bytes = 24 := by
  refine ⟨_, rfl, ?_, ?_, ?_⟩ <;> rfl
theorem three_nw (w : World) (a b c : Value) {t : TypeId} : (w.alloc (.cells #[a, b, c] t)).cell? ⟨w.heap.size, 0, none⟩ = some a ∧ (w.alloc (.cells #[a, b, c] t)).cell? ⟨w.heap.size, 1, none⟩ = some b ∧ (w.alloc (.cells #[a, b, c] t)).cell? ⟨w.heap.size, 2, none⟩ = some c := by
  refine ⟨?_, ?_, ?_⟩
  · exact (World.cell?_alloc_mark w #[a, b, c] t (0, 0) 0).trans rfl
  · exact (World.cell?_alloc_mark w #[a, b, c] t (0, 0) 1).trans rfl
  · exact (World.cell?_alloc_mark w #[a, b, c] t (0, 0) 2).trans rfl
theorem own_bl {W W' : World} {B e s n : Nat} {v : Value} {xs : List Value} (h : W.ownsRow B e s v n xs) (hb : Below W.heap.size W W') : W'.ownsRow B e s v n xs :=
  h.kept (row := none) ⟨hb.os, hb.tape, hb.output, hb.size, fun j hj _ => hb.block j hj⟩ (by cases hv : v.ownBlock <;> simp)
theorem push_st (W : World) (B n : Nat) (v : Value) (xs : List Value) (a b c : Value) (ty : TypeId) (h : W.ownsRow B 82 3 v n xs) (hn : n ≤ 4194304) (hB : B ≤ W.heap.size) (ha : a.oneCell' = true) (hb : b.oneCell' = true) (hc : c.oneCell' = true) :
    ∃ g k W', (Builtin.append_ #[57, 57] ty #[v, .slice (some ⟨W.heap.size, 0, none⟩) 1 1]).run Tryz.prog (W.alloc (.cells #[a, b, c] 82)) = .ok (.slice (some ⟨g, 0, none⟩) (n + 1) k) W' ∧
      W'.ownsRow B 82 3 (.slice (some ⟨g, 0, none⟩) (n + 1) k) (n + 1) (xs ++ [a, b, c]) ∧ Below B W W' := by
  obtain ⟨i, hi, hz, hs, hby⟩ := info_st
  have hr := World.ownsRow.alloc h (.cells #[a, b, c] 82)
  obtain ⟨c0, c1, c2⟩ := three_nw W a b c (t := 82)
  obtain ⟨g, k, W', hrun, ho, hg, _, _⟩ := run_append_lies (P := Tryz.prog) (W.alloc (.cells #[a, b, c] 82)) 57 ty B 82 i (.agg #[.int .i32 0, .int .i64 0, .bool false]) 3 24 Tryz.underlying57 hi hz hs hby rfl (by decide)
    v n xs hr ⟨W.heap.size, 0, none⟩ 1 1 [a, b, c] rfl
    (fun j u hj => by
      match j with
      | 0 => simp at hj; subst hj; rw [Addr.add_lit]; exact c0
      | 1 => simp at hj; subst hj; rw [Addr.add_lit]; exact c1
      | 2 => simp at hj; subst hj; rw [Addr.add_lit]; exact c2
      | j + 3 => simp at hj)
    (fun u hu => by simp at hu; rcases hu with rfl | rfl | rfl <;> assumption) (by decide) (by unfold maxLen; omega) (by omega) (by simp; omega) _ rfl
  exact ⟨g, k, W', hrun, ho, ((Below.refl B W).alloc hB _).grown hg (by simp; omega) (fun k hk => (hr.lt k hk).1)⟩
end
end Go.Proofs.YteamaneompijkaaGreatDoor
