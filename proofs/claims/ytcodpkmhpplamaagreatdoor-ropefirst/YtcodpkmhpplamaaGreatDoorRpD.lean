/- RopeNil's walk. · Layer 9's scripts: which, the document's Span and Replaced. · Layer 9's scripts: the book of ropes and texts in memory; keep. · Layer 9's scripts: do where it makes a new rope. · Layer 9's scripts: do where it joins or splits (written by wip/tools/rqd.py from rqd.base). · Layer 9's scripts: do where it splits (written by wip/tools/rqd.py from rqe.base). · Layer 9's scripts: Replace of what is too long; do where it replaces (written by wip/tools/rqd.py from rqf.base). · Layer 9's scripts: do, whatever it does; play. · Layer 9's scripts: a book that was answered, in a box of its own. -/
import Derived.Test.YtcodpkmhpplamaaGreatDoorRpC

section
namespace Go.Proofs.YtcodpkmhpplamaaGreatDoor
open Go.ChangeShapes Go.WideShapes Go.ChangeAt Go.RowKit
attribute [local go_sem] Oper.semAt_some

theorem own_lit0 (w : World) : Own (w.alloc (.cells #[] 5)) w.heap.size (.slice (some ⟨w.heap.size, 0, none⟩) 0 0) [] :=
  ⟨rfl, Or.inr ⟨w.heap.size, 0, #[], rfl, Nat.le_refl _, World.alloc_heap_new w _, Nat.le_refl _, Nat.zero_le _, rfl, rfl⟩⟩
/-- a copy, and New of it, however long -/
theorem copyNew (w : World) (a0 : Option Addr) (cap : Nat) (l : List Int) (hB : IsN w a0 cap l) :
    ∃ a' c' w', (Builtin.append_ #[45, 45] 45 #[.slice (some ⟨w.heap.size, 0, none⟩) 0 0, .slice a0 l.length cap]).run Tryz.prog (w.alloc (.cells #[] 5)) = .ok (.slice a' l.length c') w' ∧ Below w.heap.size w w' ∧
      (Wt w' → Calls Tryz.prog 12 #[.slice a' l.length c'] w' fun y X' => ∃ p e, y = .returned (.tuple #[.pointer p, .int .i64 e]) ∧ (p = none ∨ ∃ g, p = some ⟨g, 0, none⟩) ∧ Below w'.heap.size w' X') := by
  have b0 : Below w.heap.size w (w.alloc (.cells #[] 5)) := (Below.refl _ _).alloc (Nat.le_refl _) _
  by_cases hl : l.length ≤ 268435456
  · obtain ⟨v', W', h1, h2, h3⟩ := appL 45 (own_lit0 w) b0.size (hB.1.below b0 (Nat.le_refl _)) (by simpa using hl)
    rw [List.nil_append] at h2
    obtain ⟨a', c', rfl, hN⟩ := own_isN h2 hB.1.2.2.2 (by omega)
    refine ⟨a', c', W', h1, b0.trans h3, fun hW => ?_⟩
    refine (New9_at a' c' l W' hN hl hW).mono ?_
    rintro y X ⟨g, o, rfl, _, _, _, _, x⟩
    exact ⟨_, _, rfl, Or.inr ⟨g, rfl⟩, x⟩
  · obtain ⟨a', c', W', h1, _, _, h4⟩ := run_copy w a0 cap l 45 hB.1
    refine ⟨a', c', W', h1, h4, fun _ => ?_⟩
    refine (NewLong9_at a' l.length c' W' (by omega)).mono ?_
    rintro y X ⟨rfl, rfl⟩
    exact ⟨_, _, rfl, Or.inl rfl, Below.refl _ _⟩
theorem joinNil (p : Option Addr) (hp : p = none ∨ ∃ g, p = some ⟨g, 0, none⟩) (w : World) : Calls Tryz.prog 17 #[.pointer p, .pointer none] w fun y w' => y = .returned (.tuple #[.pointer none, .int .i64 1]) ∧ w' = w := by
  rcases hp with rfl | ⟨g, rfl⟩
  · exact RoJoinNA_at none w
  · exact RoJoinNB_at g w
end Go.Proofs.YtcodpkmhpplamaaGreatDoor
end

section
namespace Go.Proofs.YtcodpkmhpplamaaGreatDoor
open Go.ChangeShapes Go.WideShapes Go.ChangeAt Go.RowKit
attribute [local go_sem] Oper.semAt_some

/-- which of n -/
def whN (k : Int) (n : Nat) : Nat := (Int.tmod k (n : Int)).natAbs
theorem whN_lt (k : Int) {n : Nat} (h : 0 < n) : whN k n < n := by
  unfold whN
  have := Int.natAbs_tmod k (n : Int)
  rw [this]
  exact Nat.mod_lt _ (by simpa using h)
theorem tmod_in (k : Int) {n : Nat} (h : 0 < n) (hn : n ≤ 4611686018427387904) : -4611686018427387904 < Int.tmod k (n : Int) ∧ Int.tmod k (n : Int) < 4611686018427387904 := by
  have h1 := whN_lt k h
  unfold whN at h1
  omega
set_option maxRecDepth 100000 in
set_option maxHeartbeats 2000000 in
theorem which9_at (k : Int) (n : Nat) (w : World) (h : 0 < n) (hn : n ≤ 4611686018427387904) : Calls Tryz.prog 38 #[.int .i64 k, .int .i64 (n : Int)] w fun y w' => y = .returned (.int .i64 (whN k n : Int)) ∧ w' = w := by
  have h0 : ¬ (n : Int) = 0 := by omega
  have h00 : ((n : Int) == 0) = false := by rw [beq_eq_false_iff_ne]; exact h0
  have hb := tmod_in k h hn
  have HV : Hid ((whN k n : Int) = if Int.tmod k (n : Int) < 0 then - Int.tmod k (n : Int) else Int.tmod k (n : Int)) := hide (by unfold whN; split <;> omega)
  have hw1 : IntKind.i64.wrap (Int.tmod k (n : Int)) = Int.tmod k (n : Int) := by rw [IntKind.wrap_i64]; omega
  have hw2 : IntKind.i64.wrap (-Int.tmod k (n : Int)) = -Int.tmod k (n : Int) := by rw [IntKind.wrap_i64]; omega
  have hw3 : wrap64 (Int.tmod k (n : Int)) = Int.tmod k (n : Int) := by unfold wrap64; omega
  have hw4 : wrap64 (-Int.tmod k (n : Int)) = -Int.tmod k (n : Int) := by unfold wrap64; omega
  obtain ⟨m, hm⟩ : ∃ m, Int.tmod k (n : Int) = m := ⟨_, rfl⟩
  rw [hm] at hb HV hw1 hw2 hw3 hw4
  by_cases c : m < 0
  · rw [if_pos c] at HV
    go_enter Tryz.func38, Tryz.ntmps38
    go_wp2_with fail
    go_ret
    exact ⟨by rw [unhide HV]; first | rfl | simp_all, rfl⟩
  · rw [if_neg c] at HV
    go_enter Tryz.func38, Tryz.ntmps38
    go_wp2_with fail
    go_ret
    exact ⟨by rw [unhide HV]; first | rfl | simp_all, rfl⟩
set_option maxRecDepth 100000 in
set_option maxHeartbeats 2000000 in
theorem Span9_at (n lo hi : Int) (bv : Bool) (hv : bv = decide (0 ≤ lo ∧ lo ≤ hi ∧ hi ≤ n)) (w : World) : Calls Tryz.prog 39 #[.int .i64 n, .int .i64 lo, .int .i64 hi] w fun y w' => y = .returned (.bool bv) ∧ w' = w := by
  have hc : (¬ 0 ≤ lo ∧ bv = false) ∨ (0 ≤ lo ∧ ¬ lo ≤ hi ∧ bv = false) ∨ (0 ≤ lo ∧ lo ≤ hi ∧ ¬ hi ≤ n ∧ bv = false) ∨ (0 ≤ lo ∧ lo ≤ hi ∧ hi ≤ n ∧ bv = true) := by
    subst hv
    by_cases c1 : 0 ≤ lo
    · by_cases c2 : lo ≤ hi
      · by_cases c3 : hi ≤ n
        · exact .inr (.inr (.inr ⟨c1, c2, c3, by simp [c1, c2, c3]⟩))
        · exact .inr (.inr (.inl ⟨c1, c2, c3, by simp [c3]⟩))
      · exact .inr (.inl ⟨c1, c2, by simp [c2]⟩)
    · exact .inl ⟨c1, by simp [c1]⟩
  clear hv
  rcases hc with ⟨c1, rfl⟩ | ⟨c1, c2, rfl⟩ | ⟨c1, c2, c3, rfl⟩ | ⟨c1, c2, c3, rfl⟩
  all_goals
    go_enter Tryz.func39, Tryz.ntmps39
    go_wp2_with fail
    go_ret
    exact ⟨rfl, rfl⟩
theorem own_nil9 (w : World) (B : Nat) : Own w B (.slice none 0 0) [] := ⟨rfl, Or.inl ⟨rfl, rfl⟩⟩
set_option maxRecDepth 100000 in
set_option maxHeartbeats 4000000 in
theorem Replaced9_at (a0 a1 : Option Addr) (c0 c1 : Nat) (b l : List Int) (lo hi : Nat) (w : World) (h0 : IsN w a0 c0 b) (h1 : IsN w a1 c1 l) (hlo : lo ≤ hi) (hhi : hi ≤ b.length) (hm : lo + l.length + (b.length - hi) ≤ 268435456) :
    Calls Tryz.prog 40 #[.slice a0 b.length c0, .int .i64 (lo : Int), .int .i64 (hi : Int), .slice a1 l.length c1] w fun y w' => ∃ v, y = .returned v ∧ Own w' w.heap.size v (b.take lo ++ l ++ b.drop hi) ∧ Below w.heap.size w w' := by
  have hcb := h0.1.1
  have hlc : lo ≤ c0 := by omega
  have hlb : lo ≤ b.length := by omega
  have hhc : hi ≤ c0 := by omega
  have ht : (b.take lo).length = lo := by rw [List.length_take]; omega
  obtain ⟨v1, w1, r1, o1, x1, _, _⟩ := appG 45 (own_nil9 w w.heap.size) (Nat.le_refl _) (IsB.takeP (n := lo) h0.1) (by simp; omega)
  rw [ht] at r1
  rw [List.nil_append] at o1
  obtain ⟨va1, n1, vc1, rfl⟩ : ∃ a k c, v1 = .slice a k c := by obtain ⟨a, c, h⟩ := o1.len; exact ⟨a, _, c, h⟩
  obtain ⟨v2, w2, r2, o2, x2, _, _⟩ := appG 45 o1 x1.size (h1.1.below x1 (Nat.le_refl _)) (by rw [ht]; omega)
  obtain ⟨va2, n2, vc2, rfl⟩ : ∃ a k c, v2 = .slice a k c := by obtain ⟨a, c, h⟩ := o2.len; exact ⟨a, _, c, h⟩
  have x12 := x1.trans x2
  have hdr := IsB.loP (n := hi) (h0.1.below x12 (Nat.le_refl _))
  have hdl : (b.drop hi).length = b.length - hi := List.length_drop
  obtain ⟨v3, w3, r3, o3, x3, _, _⟩ := appG 45 o2 x12.size hdr (by rw [List.length_append, ht, hdl]; omega)
  rw [hdl] at r3
  obtain ⟨va3, n3, vc3, rfl⟩ : ∃ a k c, v3 = .slice a k c := by obtain ⟨a, c, h⟩ := o3.len; exact ⟨a, _, c, h⟩
  have R1 := hide r1
  have R2 := hide r2
  have R3 := hide r3
  have HO := hide o3
  have HX := hide (x12.trans x3)
  clear r1 r2 r3 o1 o2 o3 x1 x2 x3 x12 hdr h0 h1
  go_enter Tryz.func40, Tryz.ntmps40
  go_wp2_with (first
    | (at_builtin; refine wpList_append_known rfl _ _ 45 45 rfl _ _ rfl rfl _ _ (unhide R1) ?_; clear R1)
    | (at_builtin; refine wpList_append_known rfl _ _ 45 45 rfl _ _ rfl rfl _ _ (unhide R2) ?_; clear R2)
    | (at_builtin; refine wpList_append_known rfl _ _ 45 45 rfl _ _ rfl rfl _ _ (unhide R3) ?_; clear R3))
  all_goals
    refine bodyPost_ret (results_tmp rfl _ _ _) rfl ⟨_, rfl, ?_, unhide HX⟩
    first
    | exact unhide HO
    | (rw [← List.append_assoc]; exact unhide HO)

end Go.Proofs.YtcodpkmhpplamaaGreatDoor
end

section
namespace Go.Proofs.YtcodpkmhpplamaaGreatDoor
open Go.ChangeShapes Go.WideShapes Go.ChangeAt Go.RowKit
attribute [local go_sem] Oper.semAt_some

/-- the blocks of ropes stay -/
def Nt (X Y : World) : Prop := ∀ (k : Nat) (cs : Array Value) (t : TypeId) (m : Nat × Nat), X.heap[k]? = some (.cells cs t m) → (t = 110 ∨ t = 92 ∨ t = 67 ∨ t = 60) → Y.heap[k]? = X.heap[k]?
theorem Nt.trans {X Y Z : World} (h : Nt X Y) (k : Nt Y Z) : Nt X Z := fun j cs t m hj ht => (k j cs t m ((h j cs t m hj ht).trans hj) ht).trans (h j cs t m hj ht)
theorem Nt.on {X Y : World} (h : Below X.heap.size X Y) : Nt X Y := fun k _ _ _ hk _ => h.block k (Array.getElem?_eq_some_iff.1 hk).1
theorem Nt.grown {X Y : World} {G : Option Nat} (h : X.grownBy Y G) (hG : ∀ g, G = some g → ∃ cs t m, X.heap[g]? = some (.cells cs t m) ∧ ¬ (t = 110 ∨ t = 92 ∨ t = 67 ∨ t = 60)) : Nt X Y := fun k cs t m hk ht => by
  refine h.block k (Array.getElem?_eq_some_iff.1 hk).1 fun e => ?_
  obtain ⟨cs', t', m', h1, h2⟩ := hG k e.symm
  rw [hk] at h1
  cases h1
  exact h2 ht
theorem Nt.set {X : World} {g : Nat} {cs : Array Value} {t : TypeId} {m : Nat × Nat} (h : X.heap[g]? = some (.cells cs t m)) (ht : ¬ (t = 110 ∨ t = 92 ∨ t = 67 ∨ t = 60)) (i : Nat) (v : Value) : Nt X (X.setCell ⟨g, i, none⟩ v) := fun k cs' t' m' hk ht' => by
  refine Below.heap_setCell X ⟨g, i, none⟩ v k fun e => ?_
  have e : k = g := e
  subst e
  rw [hk] at h
  cases h
  exact ht ht'
theorem IsNd.nt {X Y : World} (h : Nt X Y) : ∀ {t : Nd} {v : Value}, IsNd X v t → IsNd Y v t
  | .tip _, _, ⟨g, e, hf, r⟩ => ⟨g, e, (h g _ _ _ hf (.inl rfl)).trans hf, r⟩
  | .fork _ _, _, ⟨g, va, vb, e, hc, h1, h2⟩ => ⟨g, va, vb, e, (h g _ _ _ hc (.inr (.inl rfl))).trans hc, IsNd.nt h h1, IsNd.nt h h2⟩
theorem IsRo.nt {X Y : World} {g : Nat} {o : Option Nd} (h : IsRo X g o) (hn : Nt X Y) : IsRo Y g o := by
  obtain ⟨v, h1, h2⟩ := h
  refine ⟨v, (hn g _ _ _ h1 (.inr (.inr (.inl rfl)))).trans h1, ?_⟩
  cases o with
  | none => exact h2
  | some t => exact IsNd.nt hn h2

def rpV (gs : List Nat) : List Value := gs.map fun g => .pointer (some ⟨g, 0, none⟩)
def stV (os : List (Option Nd)) : List Value := os.map fun o => .string (strOfNums (txtO o))
/-- a book: its ropes and their texts -/
structure Bk (X : World) (B gB : Nat) (gs : List Nat) (os : List (Option Nd)) : Prop where
  c : ∃ vr vt, X.heap[gB]? = some (.cells #[vr, vt] 27 (0, 0)) ∧ X.ownsRow B 30 1 vr gs.length (rpV gs) ∧ X.ownsRow B 9 1 vt os.length (stV os)
  n : os.length = gs.length
  r : ∀ i, i < gs.length → IsRo X (gs.getD i 0) (os.getD i none) ∧ BalO (os.getD i none)
theorem row_onB {X Y : World} {B s n : Nat} {t : TypeId} {v : Value} {xs : List Value} (h : X.ownsRow B t s v n xs) (hb : ∀ G, v.ownBlock = some G → Y.heap[G]? = X.heap[G]?) : Y.ownsRow B t s v n xs := by
  refine ⟨h.1, ?_⟩
  rcases h.2 with h2 | ⟨g, cap, cur, e, h3, h4, h5⟩
  · exact Or.inl h2
  · exact Or.inr ⟨g, cap, cur, e, h3, (hb g (by rw [e]; rfl)).trans h4, h5⟩
theorem row_block {X : World} {B s n : Nat} {t : TypeId} {v : Value} {xs : List Value} (h : X.ownsRow B t s v n xs) {G : Nat} (hG : v.ownBlock = some G) : B ≤ G ∧ ∃ cur, X.heap[G]? = some (.cells cur t (0, 0)) := by
  rcases h.2 with ⟨rfl, _⟩ | ⟨g, cap, cur, rfl, h3, h4, _⟩
  · cases hG
  · cases hG; exact ⟨h3, cur, h4⟩
theorem Bk.on {X Y : World} {B gB : Nat} {gs : List Nat} {os : List (Option Nd)} (h : Bk X B gB gs os) (hb : Below X.heap.size X Y) : Bk Y B gB gs os := by
  obtain ⟨vr, vt, h1, h2, h3⟩ := h.c
  refine ⟨⟨vr, vt, bk9_on h1 hb, row_onB h2 fun G hG => ?_, row_onB h3 fun G hG => ?_⟩, h.n, fun i hi => ⟨(h.r i hi).1.on hb, (h.r i hi).2⟩⟩
  · obtain ⟨_, cur, hc⟩ := row_block h2 hG; exact hb.block G (Array.getElem?_eq_some_iff.1 hc).1
  · obtain ⟨_, cur, hc⟩ := row_block h3 hG; exact hb.block G (Array.getElem?_eq_some_iff.1 hc).1
set_option maxRecDepth 100000 in
theorem info_rp : ∃ i, Tryz.prog.info? 30 = some i ∧ i.zero = some (.pointer none) ∧ i.size = 1 ∧ i.bytes = 8 := by
  refine ⟨_, rfl, ?_, ?_, ?_⟩ <;> rfl
set_option maxRecDepth 100000 in
theorem info_st : ∃ i, Tryz.prog.info? 9 = some i ∧ i.zero = some (.string ⟨#[]⟩) ∧ i.size = 1 ∧ i.bytes = 16 := by
  refine ⟨_, rfl, ?_, ?_, ?_⟩ <;> rfl
set_option maxRecDepth 100000 in
theorem push_rp (W : World) (B n : Nat) (v : Value) (xs : List Value) (x : Nat) (ty : TypeId) (h : W.ownsRow B 30 1 v n xs) (hn : n ≤ 4398046511104) (hB : B ≤ W.heap.size) :
    ∃ g c W', (Builtin.append_ #[24, 24] ty #[v, .slice (some ⟨W.heap.size, 0, none⟩) 1 1]).run Tryz.prog (W.alloc (.cells #[.pointer (some ⟨x, 0, none⟩)] 30)) = .ok (.slice (some ⟨g, 0, none⟩) (n + 1) c) W' ∧
      W'.ownsRow B 30 1 (.slice (some ⟨g, 0, none⟩) (n + 1) c) (n + 1) (xs ++ [.pointer (some ⟨x, 0, none⟩)]) ∧ W.grownBy W' v.ownBlock ∧ Below B W W' := by
  obtain ⟨i, hi, hz, hs, hby⟩ := info_rp
  have hr := World.ownsRow.alloc h (.cells #[.pointer (some ⟨x, 0, none⟩)] 30)
  obtain ⟨g, c, W', hrun, ho, hg, _, _⟩ := run_append_lies (P := Tryz.prog) (W.alloc (.cells #[.pointer (some ⟨x, 0, none⟩)] 30)) 24 ty B 30 i (.pointer none) 1 8 Tryz.underlying24 hi hz hs hby rfl (by decide)
    v n xs hr ⟨W.heap.size, 0, none⟩ 1 1 [.pointer (some ⟨x, 0, none⟩)] rfl
    (fun j u hj => by
      cases j with
      | zero => simp at hj; subst hj; rw [Addr.add_lit]; exact (World.cell?_alloc_mark W _ _ (0, 0) 0).trans rfl
      | succ j => simp at hj)
    (fun u hu => by simp at hu; subst hu; rfl) (by decide) (by unfold maxLen; omega) (by omega) (by simp; omega) _ rfl
  have ha := World.grownBy_alloc W (.cells #[.pointer (some ⟨x, 0, none⟩)] 30) none
  have hb : Below B W W' := ((Below.refl B W).alloc hB _).grown hg (by simp; omega) (fun k hk => (hr.lt k hk).1)
  refine ⟨g, c, W', hrun, ho, ⟨hg.os.trans ha.os, hg.tape.trans ha.tape, hg.output.trans ha.output, Nat.le_trans ha.size hg.size, fun k hk hne => ?_⟩, hb⟩
  exact (hg.block k (Nat.lt_of_lt_of_le hk ha.size) hne).trans (ha.block k hk (by simp))
set_option maxRecDepth 100000 in
theorem push_st (W : World) (B n : Nat) (v : Value) (xs : List Value) (x : ByteArray) (ty : TypeId) (h : W.ownsRow B 9 1 v n xs) (hn : n ≤ 4398046511104) (hB : B ≤ W.heap.size) :
    ∃ g c W', (Builtin.append_ #[25, 25] ty #[v, .slice (some ⟨W.heap.size, 0, none⟩) 1 1]).run Tryz.prog (W.alloc (.cells #[.string x] 9)) = .ok (.slice (some ⟨g, 0, none⟩) (n + 1) c) W' ∧
      W'.ownsRow B 9 1 (.slice (some ⟨g, 0, none⟩) (n + 1) c) (n + 1) (xs ++ [.string x]) ∧ W.grownBy W' v.ownBlock ∧ Below B W W' := by
  obtain ⟨i, hi, hz, hs, hby⟩ := info_st
  have hr := World.ownsRow.alloc h (.cells #[.string x] 9)
  obtain ⟨g, c, W', hrun, ho, hg, _, _⟩ := run_append_lies (P := Tryz.prog) (W.alloc (.cells #[.string x] 9)) 25 ty B 9 i (.string ⟨#[]⟩) 1 16 Tryz.underlying25 hi hz hs hby rfl (by decide)
    v n xs hr ⟨W.heap.size, 0, none⟩ 1 1 [.string x] rfl
    (fun j u hj => by
      cases j with
      | zero => simp at hj; subst hj; rw [Addr.add_lit]; exact (World.cell?_alloc_mark W _ _ (0, 0) 0).trans rfl
      | succ j => simp at hj)
    (fun u hu => by simp at hu; subst hu; rfl) (by decide) (by unfold maxLen; omega) (by omega) (by simp; omega) _ rfl
  have ha := World.grownBy_alloc W (.cells #[.string x] 9) none
  have hb : Below B W W' := ((Below.refl B W).alloc hB _).grown hg (by simp; omega) (fun k hk => (hr.lt k hk).1)
  refine ⟨g, c, W', hrun, ho, ⟨hg.os.trans ha.os, hg.tape.trans ha.tape, hg.output.trans ha.output, Nat.le_trans ha.size hg.size, fun k hk hne => ?_⟩, hb⟩
  exact (hg.block k (Nat.lt_of_lt_of_le hk ha.size) hne).trans (ha.block k hk (by simp))

theorem rt_ne : ¬ (30 = 110 ∨ 30 = 92 ∨ 30 = 67 ∨ 30 = 60) := by decide
theorem st_ne : ¬ (9 = 110 ∨ 9 = 92 ∨ 9 = 67 ∨ 9 = 60) := by decide
theorem bk_ne : ¬ (27 = 110 ∨ 27 = 92 ∨ 27 = 67 ∨ 27 = 60) := by decide
theorem type_ne {X : World} {a b : Nat} {ca cb : Array Value} {ta tb : TypeId} (ha : X.heap[a]? = some (.cells ca ta (0, 0))) (hb : X.heap[b]? = some (.cells cb tb (0, 0))) (h : ta ≠ tb) : a ≠ b := by
  rintro rfl
  rw [ha] at hb
  cases hb
  exact h rfl
theorem cells2 {W : World} {g : Nat} {x y : Value} {t : TypeId} (h : W.heap[g]? = some (.cells #[x, y] t (0, 0))) : W.cell? ⟨g, 0, none⟩ = some x ∧ W.cell? ⟨g, 1, none⟩ = some y ∧ ∀ i, W.frozen? ⟨g, i, none⟩ = false :=
  ⟨by simp only [World.cell?, h]; rfl, by simp only [World.cell?, h]; rfl, fun i => by simp [World.frozen?, h]⟩
theorem set2 {W : World} {g : Nat} {x y : Value} {t : TypeId} (h : W.heap[g]? = some (.cells #[x, y] t (0, 0))) (u : Value) : (W.setCell ⟨g, 0, none⟩ u).heap[g]? = some (.cells #[u, y] t (0, 0)) ∧ (W.setCell ⟨g, 1, none⟩ u).heap[g]? = some (.cells #[x, u] t (0, 0)) := by
  have hl := (Array.getElem?_eq_some_iff.1 h).1
  have h' := h
  rw [Array.getElem?_eq_getElem hl] at h'
  refine ⟨?_, ?_⟩
  · show (W.heap.modify g _)[g]? = _
    rw [Array.getElem?_eq_getElem (by rw [Array.size_modify]; exact hl), Array.getElem_modify_self, Option.some.inj h']
    rfl
  · show (W.heap.modify g _)[g]? = _
    rw [Array.getElem?_eq_getElem (by rw [Array.size_modify]; exact hl), Array.getElem_modify_self, Option.some.inj h']
    rfl
set_option maxRecDepth 100000 in
set_option maxHeartbeats 4000000 in
theorem keep9_at (B gB g : Nat) (gs : List Nat) (os : List (Option Nd)) (o : Option Nd) (X : World) (h : Bk X B gB gs os) (hr : IsRo X g o) (hb : BalO o) (hl : gs.length ≤ 4398046511104) (hB : B ≤ X.heap.size) (hgB : B ≤ gB) :
    Calls Tryz.prog 37 #[.pointer (some ⟨gB, 0, none⟩), .pointer (some ⟨g, 0, none⟩), .string (strOfNums (txtO o))] X fun y X' => y = .returned (.bool true) ∧ Bk X' B gB (gs ++ [g]) (os ++ [o]) ∧ Below B X X' ∧ Nt X X' := by
  obtain ⟨vr, vt, h1, h2, h3⟩ := h.c
  have hn := h.n
  obtain ⟨g2, c2, W2, r2, o2, gr2, b2⟩ := push_rp X B gs.length vr (rpV gs) g 24 h2 hl hB
  have n2 : Nt X W2 := Nt.grown gr2 fun G hG => by obtain ⟨_, cur, hc⟩ := row_block h2 hG; exact ⟨_, _, _, hc, rt_ne⟩
  have k2 : W2.heap[gB]? = some (.cells #[vr, vt] 27 (0, 0)) := (gr2.block gB (Array.getElem?_eq_some_iff.1 h1).1 fun e => by obtain ⟨_, cur, hc⟩ := row_block h2 e.symm; exact type_ne h1 hc (by decide) rfl).trans h1
  have t2 : W2.ownsRow B 9 1 vt os.length (stV os) := row_onB h3 fun G hG => by
    obtain ⟨_, cur, hc⟩ := row_block h3 hG
    exact gr2.block G (Array.getElem?_eq_some_iff.1 hc).1 fun e => by obtain ⟨_, cur', hc'⟩ := row_block h2 e.symm; exact type_ne hc hc' (by decide) rfl
  generalize hV : Value.slice (some ⟨g2, 0, none⟩) (gs.length + 1) c2 = vr' at *
  have k3 := (set2 k2 vr').1
  have n3 := n2.trans (Nt.set k2 bk_ne 0 vr')
  have o3 : (W2.setCell ⟨gB, 0, none⟩ vr').ownsRow B 30 1 vr' (gs.length + 1) (rpV gs ++ [.pointer (some ⟨g, 0, none⟩)]) := row_onB o2 fun G hG => by
    obtain ⟨_, cur, hc⟩ := row_block o2 hG
    exact Below.heap_setCell W2 ⟨gB, 0, none⟩ vr' G (type_ne hc k2 (by decide))
  have t3 : (W2.setCell ⟨gB, 0, none⟩ vr').ownsRow B 9 1 vt os.length (stV os) := row_onB t2 fun G hG => by
    obtain ⟨_, cur, hc⟩ := row_block t2 hG
    exact Below.heap_setCell W2 ⟨gB, 0, none⟩ vr' G (type_ne hc k2 (by decide))
  have b3 : Below B X (W2.setCell ⟨gB, 0, none⟩ vr') := b2.setCell (p := ⟨gB, 0, none⟩) hgB vr'
  obtain ⟨p20, p21, pf2⟩ := cells2 k2
  have f20 := pf2 0
  obtain ⟨p10, p11, _⟩ := cells2 h1
  generalize hW3 : W2.setCell ⟨gB, 0, none⟩ vr' = W3 at *
  obtain ⟨g4, c4, W4, r4, o4, gr4, b4⟩ := push_st W3 B os.length vt (stV os) (strOfNums (txtO o)) 25 t3 (by omega) (by have := b3.size; omega)
  have n4 := n3.trans (Nt.grown gr4 fun G hG => by obtain ⟨_, cur, hc⟩ := row_block t3 hG; exact ⟨_, _, _, hc, st_ne⟩)
  have k4 : W4.heap[gB]? = some (.cells #[vr', vt] 27 (0, 0)) := (gr4.block gB (Array.getElem?_eq_some_iff.1 k3).1 fun e => by obtain ⟨_, cur, hc⟩ := row_block t3 e.symm; exact type_ne k3 hc (by decide) rfl).trans k3
  have o4r : W4.ownsRow B 30 1 vr' (gs.length + 1) (rpV gs ++ [.pointer (some ⟨g, 0, none⟩)]) := row_onB o3 fun G hG => by
    obtain ⟨_, cur, hc⟩ := row_block o3 hG
    exact gr4.block G (Array.getElem?_eq_some_iff.1 hc).1 fun e => by obtain ⟨_, cur', hc'⟩ := row_block t3 e.symm; exact type_ne hc hc' (by decide) rfl
  generalize hV4 : Value.slice (some ⟨g4, 0, none⟩) (os.length + 1) c4 = vt' at *
  have k5 := (set2 k4 vt').2
  have n5 := n4.trans (Nt.set k4 bk_ne 1 vt')
  have o5 : (W4.setCell ⟨gB, 1, none⟩ vt').ownsRow B 30 1 vr' (gs.length + 1) (rpV gs ++ [.pointer (some ⟨g, 0, none⟩)]) := row_onB o4r fun G hG => by
    obtain ⟨_, cur, hc⟩ := row_block o4r hG
    exact Below.heap_setCell W4 ⟨gB, 1, none⟩ vt' G (type_ne hc k4 (by decide))
  have t5 : (W4.setCell ⟨gB, 1, none⟩ vt').ownsRow B 9 1 vt' (os.length + 1) (stV os ++ [.string (strOfNums (txtO o))]) := row_onB o4 fun G hG => by
    obtain ⟨_, cur, hc⟩ := row_block o4 hG
    exact Below.heap_setCell W4 ⟨gB, 1, none⟩ vt' G (type_ne hc k4 (by decide))
  have b5 : Below B X (W4.setCell ⟨gB, 1, none⟩ vt') := (b3.trans b4).setCell (p := ⟨gB, 1, none⟩) hgB vt'
  obtain ⟨p30, p31, _⟩ := cells2 k3
  obtain ⟨p40, p41, pf4⟩ := cells2 k4
  have f41 := pf4 1
  have HR : Hid (Bk (W4.setCell ⟨gB, 1, none⟩ vt') B gB (gs ++ [g]) (os ++ [o])) := hide (by
    refine ⟨⟨vr', vt', k5, ?_, ?_⟩, by simp [hn], fun i hi => ?_⟩
    · simpa [rpV] using o5
    · simpa [stV] using t5
    · by_cases hi2 : i < gs.length
      · have h9 := h.r i hi2
        rw [show (gs ++ [g]).getD i 0 = gs.getD i 0 by simp [List.getD_eq_getElem?_getD, List.getElem?_append_left hi2], show (os ++ [o]).getD i none = os.getD i none by simp [List.getD_eq_getElem?_getD, List.getElem?_append_left (show i < os.length by omega)]]
        exact ⟨h9.1.nt n5, h9.2⟩
      · obtain rfl : i = gs.length := by simp at hi; omega
        rw [show (gs ++ [g]).getD gs.length 0 = g by simp [List.getD_eq_getElem?_getD], show (os ++ [o]).getD gs.length none = o by rw [← hn]; simp [List.getD_eq_getElem?_getD]]
        exact ⟨hr.nt n5, hb⟩)
  have HX := hide (And.intro b5 n5)
  have R2 := hide r2
  have R4 := hide r4
  clear r2 r4 h h2 h3 o2 o3 o4 o4r o5 t2 t3 t5 n2 n3 n4 n5 b2 b3 b4 b5 gr2 gr4 hr hb k5
  generalize strOfNums (txtO o) = S at *
  subst hV hV4 hW3
  generalize gs.length + 1 = m2 at *
  generalize os.length + 1 = m4 at *
  go_enter Tryz.func37, Tryz.ntmps37
  go_upto_region 2 with (at_builtin; refine wpList_append_known rfl _ _ 24 24 rfl _ _ rfl rfl _ _ (unhide R2) ?_; clear R2)
  generalize W2.setCell ⟨gB, 0, none⟩ (.slice (some ⟨g2, 0, none⟩) m2 c2) = W3 at *
  clear p10 p11 p20 p21 f20
  go_wp2_with (at_builtin; refine wpList_append_known rfl _ _ 25 25 rfl _ _ rfl rfl _ _ (unhide R4) ?_; clear R4)
  refine bodyPost_ret (results_tmp rfl _ _ _) rfl ⟨rfl, unhide HR, (unhide HX).1, (unhide HX).2⟩

end Go.Proofs.YtcodpkmhpplamaaGreatDoor
end

section
namespace Go.Proofs.YtcodpkmhpplamaaGreatDoor
open Go.ChangeShapes Go.WideShapes Go.ChangeAt Go.RowKit
attribute [local go_sem] Oper.semAt_some

theorem row_len9 {X : World} {B s n : Nat} {t : TypeId} {v : Value} {xs : List Value} (h : X.ownsRow B t s v n xs) : ∃ a c, v = .slice a n c := by
  rcases h.2 with ⟨rfl, rfl⟩ | ⟨g, cap, cur, rfl, _⟩
  · exact ⟨none, 0, rfl⟩
  · exact ⟨_, _, rfl⟩
/-- a copy, and New of it -/
theorem copyNew2 (w : World) (a0 : Option Addr) (cap : Nat) (l : List Int) (hB : IsN w a0 cap l) :
    ∃ a' c' w', (Builtin.append_ #[45, 45] 45 #[.slice (some ⟨w.heap.size, 0, none⟩) 0 0, .slice a0 l.length cap]).run Tryz.prog (w.alloc (.cells #[] 5)) = .ok (.slice a' l.length c') w' ∧ Below w.heap.size w w' ∧
      (l.length ≤ 268435456 → IsN w' a' c' l) := by
  have b0 : Below w.heap.size w (w.alloc (.cells #[] 5)) := (Below.refl _ _).alloc (Nat.le_refl _) _
  by_cases hl : l.length ≤ 268435456
  · obtain ⟨v', W', h1, h2, h3⟩ := appL 45 (own_lit0 w) b0.size (hB.1.below b0 (Nat.le_refl _)) (by simpa using hl)
    rw [List.nil_append] at h2
    obtain ⟨a', c', rfl, hN⟩ := own_isN h2 hB.1.2.2.2 (by omega)
    exact ⟨a', c', W', h1, b0.trans h3, fun _ => hN⟩
  · obtain ⟨a', c', W', h1, _, _, h4⟩ := run_copy w a0 cap l 45 hB.1
    exact ⟨a', c', W', h1, h4, fun h => absurd h hl⟩
/-- an act's value -/
def actC (k a b lo hi : Int) (a0 : Option Addr) (n c : Nat) : Array Value := #[.int .i64 k, .int .i64 a, .int .i64 b, .int .i64 lo, .int .i64 hi, .slice a0 n c]
/-- what do leaves: the book as it was, with one rope more, or with two that are small -/
def DoP (B gB : Nat) (gs : List Nat) (os : List (Option Nd)) (X X' : World) : Prop :=
  ∃ gs' os', Bk X' B gB gs' os' ∧ Below B X X' ∧ Nt X X' ∧
    ((gs' = gs ∧ os' = os) ∨ (∃ g o, gs' = gs ++ [g] ∧ os' = os ++ [o] ∧ (txtO o).length ≤ 268435456) ∨ (∃ g o g2 o2, gs' = gs ++ [g] ++ [g2] ∧ os' = os ++ [o] ++ [o2] ∧ (txtO o).length ≤ 32768 ∧ (txtO o2).length ≤ 32768))

set_option maxRecDepth 100000 in
set_option maxHeartbeats 8000000 in
theorem doNew_at (B gB : Nat) (gs : List Nat) (os : List (Option Nd)) (k a b lo hi : Int) (a0 : Option Addr) (cap : Nat) (l : List Int) (X : World) (h : Bk X B gB gs os) (hk : gs.length = 0 ∨ k < 1 ∨ 3 < k) (hN : IsN X a0 cap l) (hW : Wt X) (hl : gs.length ≤ 4398046511100) (hB : B ≤ X.heap.size) (hgB : B ≤ gB) :
    Calls Tryz.prog 23 #[.pointer (some ⟨gB, 0, none⟩), .agg (actC k a b lo hi a0 l.length cap)] X fun y X' => y = .returned (.bool true) ∧ DoP B gB gs os X X' := by
  unfold actC
  have x1 := (Below.refl X.heap.size X).alloc (Nat.le_refl _) (.cells #[.int .i64 k, .int .i64 a, .int .i64 b, .int .i64 lo, .int .i64 hi, .slice a0 l.length cap] 60)
  have g1 := push_get X (.cells #[.int .i64 k, .int .i64 a, .int .i64 b, .int .i64 lo, .int .i64 hi, .slice a0 l.length cap] 60)
  have h1 := h.on x1
  have HN := hide fun (Y : World) (hx : Below X.heap.size X Y) => hN.below hx (Nat.le_refl _)
  have HW := hide fun (Y : World) (hx : Below X.heap.size X Y) => hW.below hx
  have HH := hide h
  clear hN hW h
  obtain ⟨vr, vt, c1, c2, c3⟩ := h1.c
  obtain ⟨ra, rc, rfl⟩ := row_len9 c2
  obtain ⟨p0, p1, _⟩ := cells2 c1
  clear c1 c2 c3
  go_enter Tryz.func23, Tryz.ntmps23
  go_upto_region 1 with fail
  generalize X.alloc (.cells #[.int .i64 k, .int .i64 a, .int .i64 b, .int .i64 lo, .int .i64 hi, .slice a0 l.length cap] 60) = X1 at *
  generalize hgA : X.heap.size = gA at *
  obtain ⟨q0, q1, q2, q3, q4, q5, _⟩ := cells6 g1
  have q5a : (X1.alloc (.cells #[] 5)).cell? ⟨gA, 5, none⟩ = some (.slice a0 l.length cap) := by
    obtain ⟨_, _, _, _, _, h, _⟩ := cells6 (bk9_on g1 ((Below.refl X1.heap.size X1).alloc (Nat.le_refl _) (.cells #[] 5)))
    exact h
  obtain ⟨ca, cc, X2, r2, x2, hN2⟩ := copyNew2 X1 a0 cap l (unhide HN X1 x1)
  have R2 := hide r2
  have D2 := x1.trans (x2.mono (by have := x1.size; omega))
  clear r2
  have hcs : ((gs.length : Int) == 0) = true ∨ (((gs.length : Int) == 0) = false ∧ k < 1) ∨ (((gs.length : Int) == 0) = false ∧ ¬ k < 1 ∧ 3 < k) := by
    by_cases h0 : gs.length = 0
    · exact .inl (by rw [beq_iff_eq]; omega)
    · have e0 : ((gs.length : Int) == 0) = false := by rw [beq_eq_false_iff_ne]; omega
      by_cases hk1 : k < 1
      · exact .inr (.inl ⟨e0, hk1⟩)
      · exact .inr (.inr ⟨e0, hk1, by omega⟩)
  clear hk
  have h2 := h1.on x2
  have g2 := bk9_on g1 x2
  clear h1
  by_cases hL : l.length ≤ 268435456
  · have HNew := hide (New9_at ca cc l X2 (hN2 hL) hL (unhide HW X2 D2))
    have t1 : ¬ (268435456 : Int) < (l.length : Int) := by omega
    rcases hcs with s1 | ⟨s1, s2⟩ | ⟨s1, s2, s3⟩
    all_goals
      go_wp2_with (at_builtin; refine wpList_append_known rfl _ _ 45 45 rfl _ _ rfl rfl _ _ (unhide R2) ?_; clear R2)
      refine (unhide HNew).mono ?_
      rintro y X3 ⟨g, o, rfl, ro, tx, bo, _, x3⟩
      dsimp only
      have g3 := bk9_on g2 x3
      have h3 := h2.on x3
      have D3 := D2.trans (x3.mono (by have := D2.size; omega))
      obtain ⟨_, _, _, _, _, q5, _⟩ := cells6 g3
      have hst := str_bs X3 a0 cap l (unhide HN X3 D3).1.2.2.1
      have hb3 : B ≤ X3.heap.size := by have := D3.size; omega
      have hkp := keep9_at B gB g gs os o X3 h3 ro bo (by omega) hb3 hgB
      rw [tx] at hkp
      have HK := hide hkp
      have HTO := hide tx
      have HD3 := hide D3
      clear hkp ro bo tx h3 g3 x3 HNew hN2 p0 p1 q0 q1 q2 q3 q4 D3 D2
      go_wp2_with fail
      refine (unhide HK).mono ?_
      rintro y X4 ⟨rfl, h4, b4, n4⟩
      dsimp only
      have HR : Hid (DoP B gB gs os X X4) := hide ⟨_, _, h4, ((unhide HD3).mono (by omega)).trans b4, (Nt.on (hgA ▸ unhide HD3)).trans n4, .inr (.inl ⟨g, o, rfl, rfl, by rw [unhide HTO]; exact hL⟩)⟩
      clear h4 b4 n4 HK
      go_wp2_with fail
      refine bodyPost_ret (results_tmp rfl _ _ _) rfl ⟨rfl, unhide HR⟩
  · have HNew := hide (NewLong9_at ca l.length cc X2 (by omega))
    have t1 : (268435456 : Int) < (l.length : Int) := by omega
    obtain ⟨_, _, _, _, _, q5b, _⟩ := cells6 g2
    have HR : Hid (DoP B gB gs os X X2) := hide ⟨_, _, h2, D2.mono (by omega), Nt.on (hgA ▸ D2), .inl ⟨rfl, rfl⟩⟩
    rcases hcs with s1 | ⟨s1, s2⟩ | ⟨s1, s2, s3⟩
    all_goals
      go_wp2_with (at_builtin; refine wpList_append_known rfl _ _ 45 45 rfl _ _ rfl rfl _ _ (unhide R2) ?_; clear R2)
      refine (unhide HNew).mono ?_
      rintro y X3 ⟨rfl, rfl⟩
      dsimp only
      clear HNew q5 q5a q0 q1 q2 q3 q4
      go_wp2_with fail
      refine bodyPost_ret (results_tmp rfl _ _ _) rfl ⟨rfl, unhide HR⟩

end Go.Proofs.YtcodpkmhpplamaaGreatDoor
end

section
namespace Go.Proofs.YtcodpkmhpplamaaGreatDoor
open Go.ChangeShapes Go.WideShapes Go.ChangeAt Go.RowKit
attribute [local go_sem] Oper.semAt_some

theorem str_app9 (a b : List Int) : strOfNums a ++ strOfNums b = strOfNums (a ++ b) := by
  apply ByteArray.ext
  simp [strOfNums]
theorem Bk.rows {X : World} {B gB : Nat} {gs : List Nat} {os : List (Option Nd)} (h : Bk X B gB gs os) (hn : 0 < gs.length) :
    ∃ gr rc gt tc, X.cell? ⟨gB, 0, none⟩ = some (.slice (some ⟨gr, 0, none⟩) gs.length rc) ∧ X.cell? ⟨gB, 1, none⟩ = some (.slice (some ⟨gt, 0, none⟩) gs.length tc) ∧ ∀ i, i < gs.length → X.cell? ⟨gr, i, none⟩ = some (.pointer (some ⟨gs.getD i 0, 0, none⟩)) ∧ X.cell? ⟨gt, i, none⟩ = some (.string (strOfNums (txtO (os.getD i none)))) := by
  obtain ⟨vr, vt, h1, h2, h3⟩ := h.c
  have hn2 := h.n
  rcases h2.2 with ⟨_, h0⟩ | ⟨gr, rc, cur, rfl, _⟩
  · omega
  rcases h3.2 with ⟨_, h0⟩ | ⟨gt, tc, cur2, rfl, _⟩
  · omega
  obtain ⟨p0, p1, _⟩ := cells2 h1
  rw [hn2] at p1
  refine ⟨gr, rc, gt, tc, p0, p1, fun i hi => ⟨?_, ?_⟩⟩
  · have := World.ownsRow.cells h2 rfl i (.pointer (some ⟨gs.getD i 0, 0, none⟩)) (by simp [rpV, List.getD_eq_getElem?_getD, List.getElem?_eq_getElem hi])
    rwa [Addr.add_lit, Nat.zero_add] at this
  · have := World.ownsRow.cells h3 rfl i (.string (strOfNums (txtO (os.getD i none)))) (by simp [stV, List.getD_eq_getElem?_getD, List.getElem?_eq_getElem (show i < os.length by omega)])
    rwa [Addr.add_lit, Nat.zero_add] at this

set_option maxRecDepth 100000 in
set_option maxHeartbeats 8000000 in
theorem doJoin_at (B gB : Nat) (gs : List Nat) (os : List (Option Nd)) (a b lo hi : Int) (a0 : Option Addr) (cap : Nat) (l : List Int) (X : World) (h : Bk X B gB gs os) (hs : ∀ i, i < gs.length → (txtO (os.getD i none)).length ≤ 32768) (hk : 0 < gs.length) (hW : Wt X) (hl : gs.length ≤ 4398046511100) (hB : B ≤ X.heap.size) (hgB : B ≤ gB) :
    Calls Tryz.prog 23 #[.pointer (some ⟨gB, 0, none⟩), .agg (actC 1 a b lo hi a0 l.length cap)] X fun y X' => y = .returned (.bool true) ∧ DoP B gB gs os X X' := by
  unfold actC
  obtain ⟨k, hk1⟩ : ∃ k : Int, k = 1 := ⟨_, rfl⟩
  have s1 : (k == 1) = true := by rw [hk1]; rfl
  have s2 : ¬ k < 1 := by omega
  have s3 : ¬ 3 < k := by omega
  rw [← hk1]
  clear hk1
  have x1 := (Below.refl X.heap.size X).alloc (Nat.le_refl _) (.cells #[.int .i64 k, .int .i64 a, .int .i64 b, .int .i64 lo, .int .i64 hi, .slice a0 l.length cap] 60)
  have g1 := push_get X (.cells #[.int .i64 k, .int .i64 a, .int .i64 b, .int .i64 lo, .int .i64 hi, .slice a0 l.length cap] 60)
  have h1 := h.on x1
  have HW := hide (hW.below x1)
  obtain ⟨gr, rc, gt, tc, p0, p1, pc⟩ := h1.rows hk
  obtain ⟨i, hi0⟩ : ∃ i, i = whN a gs.length := ⟨_, rfl⟩
  obtain ⟨j, hj0⟩ : ∃ j, j = whN b gs.length := ⟨_, rfl⟩
  have hil : i < gs.length := by rw [hi0]; exact whN_lt a hk
  have hjl : j < gs.length := by rw [hj0]; exact whN_lt b hk
  have HWi := hide fun (Y : World) => which9_at a gs.length Y hk (by omega)
  have HWj := hide fun (Y : World) => which9_at b gs.length Y hk (by omega)
  rw [← hi0] at HWi
  rw [← hj0] at HWj
  have hri := h1.r i hil
  have hrj := h1.r j hjl
  have hsi := hs i hil
  have hsj := hs j hjl
  obtain ⟨ci, cti⟩ := pc i hil
  obtain ⟨cj, ctj⟩ := pc j hjl
  have n0 : ((gs.length : Int) == 0) = false := by rw [beq_eq_false_iff_ne]; omega
  have hN := h1.n
  have HH := hide h1
  have HNN := hide hl
  generalize hgi : gs.getD i 0 = gi at *
  generalize hgj : gs.getD j 0 = gj at *
  generalize hoi : os.getD i none = oi at *
  generalize hoj : os.getD j none = oj at *
  clear hgi hgj hoi hoj pc h hW hs hi0 hj0 h1 hN
  have zi := strOfNums_size (txtO oi)
  have zj := strOfNums_size (txtO oj)
  generalize hSi : strOfNums (txtO oi) = Si at *
  generalize hSj : strOfNums (txtO oj) = Sj at *
  have HST := hide (And.intro hSi hSj)
  clear hSi hSj
  have hil2 : (i : Int) < (gs.length : Int) := by omega
  have hjl2 : (j : Int) < (gs.length : Int) := by omega
  generalize hnn : gs.length = n at *
  go_enter Tryz.func23, Tryz.ntmps23
  go_upto_region 1 with fail
  generalize X.alloc (.cells #[.int .i64 k, .int .i64 a, .int .i64 b, .int .i64 lo, .int .i64 hi, .slice a0 l.length cap] 60) = X1 at *
  generalize hgA : X.heap.size = gA at *
  obtain ⟨q0, q1, q2, q3, q4, q5, _⟩ := cells6 g1
  have HSW := hide fun (Y : World) (hb : Below X1.heap.size X1 Y) => (show (fun w' : World => w'.cell? ⟨gA, 0, none⟩ = some (.int .i64 k) ∧ w'.cell? ⟨gA, 1, none⟩ = some (.int .i64 a) ∧ w'.cell? ⟨gA, 2, none⟩ = some (.int .i64 b) ∧ w'.cell? ⟨gB, 0, none⟩ = some (.slice (some ⟨gr, 0, none⟩) n rc) ∧ w'.cell? ⟨gB, 1, none⟩ = some (.slice (some ⟨gt, 0, none⟩) n tc) ∧ w'.cell? ⟨gr, i, none⟩ = some (.pointer (some ⟨gi, 0, none⟩)) ∧ w'.cell? ⟨gt, i, none⟩ = some (.string Si)) Y from ⟨(hb.cell (p := ⟨gA, 0, none⟩) (lt_cell q0)).trans q0, (hb.cell (p := ⟨gA, 1, none⟩) (lt_cell q1)).trans q1, (hb.cell (p := ⟨gA, 2, none⟩) (lt_cell q2)).trans q2, (hb.cell (p := ⟨gB, 0, none⟩) (lt_cell p0)).trans p0, (hb.cell (p := ⟨gB, 1, none⟩) (lt_cell p1)).trans p1, (hb.cell (p := ⟨gr, i, none⟩) (lt_cell ci)).trans ci, (hb.cell (p := ⟨gt, i, none⟩) (lt_cell cti)).trans cti⟩)
  have HSJ := hide fun (Y : World) (hb : Below X1.heap.size X1 Y) => And.intro ((hb.cell (p := ⟨gr, j, none⟩) (lt_cell cj)).trans cj) ((hb.cell (p := ⟨gt, j, none⟩) (lt_cell ctj)).trans ctj)
  have D0 : Below X1.heap.size X1 X1.drew := (Below.refl _ _).drew
  have HBK := hide fun (Y : World) (hb : Below X1.heap.size X1 Y) => (unhide HH).on hb
  go_upto_region 6 with fail
  refine regionL (S := fun w' => w'.cell? ⟨gA, 0, none⟩ = some (.int .i64 k) ∧ w'.cell? ⟨gA, 1, none⟩ = some (.int .i64 a) ∧ w'.cell? ⟨gA, 2, none⟩ = some (.int .i64 b) ∧ w'.cell? ⟨gB, 0, none⟩ = some (.slice (some ⟨gr, 0, none⟩) n rc) ∧ w'.cell? ⟨gB, 1, none⟩ = some (.slice (some ⟨gt, 0, none⟩) n tc) ∧ w'.cell? ⟨gr, i, none⟩ = some (.pointer (some ⟨gi, 0, none⟩)) ∧ w'.cell? ⟨gt, i, none⟩ = some (.string Si)) (fun _ => false) (by kernel_rfl) ?_
  generalize X1.drew = y0 at *
  refine anyL_take (i := 0) (v := ?vdj0) rfl (by kernel_rfl) (by kernel_rfl) (by kernel_rfl) (by kernel_rfl) (fun _ _ _ h => h) (Or.inl ⟨by rfl, ?hdj0⟩) (unhide HSW _ D0) ?_
  case hdj0 => (intro w hSw; (try dsimp only at hSw); go_simp) <;> with_reducible rfl
  simp only [Act.put, List.getElem_toArray, List.getElem_cons_zero, List.setIfInBounds_toArray, List.set_cons_zero, List.set_cons_succ]
  refine anyL_take (i := 1) (v := ?vdj1) rfl (by kernel_rfl) (by kernel_rfl) (by kernel_rfl) (by kernel_rfl) (fun _ _ _ h => h) (Or.inl ⟨by rfl, ?hdj1⟩) (unhide HSW _ D0) ?_
  case hdj1 => (intro w hSw; (try dsimp only at hSw); go_simp) <;> with_reducible rfl
  simp only [Act.put, List.getElem_toArray, List.getElem_cons_zero, List.getElem_cons_succ, List.setIfInBounds_toArray, List.set_cons_zero, List.set_cons_succ]
  refine anyL_take (i := 2) (v := ?vdj2) rfl (by kernel_rfl) (by kernel_rfl) (by kernel_rfl) (by kernel_rfl) (fun _ _ _ h => h) (Or.inl ⟨by rfl, ?hdj2⟩) (unhide HSW _ D0) ?_
  case hdj2 => (intro w hSw; (try dsimp only at hSw); go_simp) <;> with_reducible rfl
  simp only [Act.put, List.getElem_toArray, List.getElem_cons_zero, List.getElem_cons_succ, List.setIfInBounds_toArray, List.set_cons_zero, List.set_cons_succ]
  refine anyL_take (i := 3) (v := ?vdj3) rfl (by kernel_rfl) (by kernel_rfl) (by kernel_rfl) (by kernel_rfl) (fun _ _ _ h => h) (Or.inl ⟨by rfl, ?hdj3⟩) (unhide HSW _ D0) ?_
  case hdj3 => (intro w hSw; (try dsimp only at hSw); go_simp) <;> with_reducible rfl
  simp only [Act.put, List.getElem_toArray, List.getElem_cons_zero, List.getElem_cons_succ, List.setIfInBounds_toArray, List.set_cons_zero, List.set_cons_succ]
  refine anyL_take (i := 4) (v := ?vdj4) rfl (by kernel_rfl) (by kernel_rfl) (by kernel_rfl) (by kernel_rfl) (fun _ _ _ h => h) (Or.inl ⟨by rfl, ?hdj4⟩) (unhide HSW _ D0) ?_
  case hdj4 => (intro w hSw; (try dsimp only at hSw); go_simp) <;> with_reducible rfl
  simp only [Act.put, List.getElem_toArray, List.getElem_cons_zero, List.getElem_cons_succ, List.setIfInBounds_toArray, List.set_cons_zero, List.set_cons_succ]
  refine anyL_take (i := 5) (v := ?vdj5) rfl (by kernel_rfl) (by kernel_rfl) (by kernel_rfl) (by kernel_rfl) (fun _ _ _ h => h) (Or.inl ⟨by rfl, ?hdj5⟩) (unhide HSW _ D0) ?_
  case hdj5 => (intro w hSw; (try dsimp only at hSw); go_simp) <;> with_reducible rfl
  simp only [Act.put, List.getElem_toArray, List.getElem_cons_zero, List.getElem_cons_succ, List.setIfInBounds_toArray, List.set_cons_zero, List.set_cons_succ]
  refine anyL_take (i := 6) (v := ?vdj6) rfl (by kernel_rfl) (by kernel_rfl) (by kernel_rfl) (by kernel_rfl) (fun _ _ _ h => h) (Or.inl ⟨by rfl, ?hdj6⟩) (unhide HSW _ D0) ?_
  case hdj6 => (intro w hSw; (try dsimp only at hSw); go_simp) <;> with_reducible rfl
  simp only [Act.put, List.getElem_toArray, List.getElem_cons_zero, List.getElem_cons_succ, List.setIfInBounds_toArray, List.set_cons_zero, List.set_cons_succ]
  refine anyL_take (i := 8) (v := ?vdj7) rfl (by kernel_rfl) (by kernel_rfl) (by kernel_rfl) (by kernel_rfl) (fun _ _ _ h => h) (Or.inl ⟨by rfl, ?hdj7⟩) (unhide HSW _ D0) ?_
  case hdj7 => (intro w hSw; (try dsimp only at hSw); go_simp) <;> with_reducible rfl
  simp only [Act.put, List.getElem_toArray, List.getElem_cons_zero, List.getElem_cons_succ, List.setIfInBounds_toArray, List.set_cons_zero, List.set_cons_succ]
  refine anyL_take (i := 9) (v := ?vdj8) rfl (by kernel_rfl) (by kernel_rfl) (by kernel_rfl) (by kernel_rfl) (fun _ _ _ h => h) (Or.inl ⟨by rfl, ?hdj8⟩) (unhide HSW _ D0) ?_
  case hdj8 => (intro w hSw; (try dsimp only at hSw); go_simp) <;> with_reducible rfl
  simp only [Act.put, List.getElem_toArray, List.getElem_cons_zero, List.getElem_cons_succ, List.setIfInBounds_toArray, List.set_cons_zero, List.set_cons_succ]
  refine anyL_take (i := 10) (v := ?vdj9) rfl (by kernel_rfl) (by kernel_rfl) (by kernel_rfl) (by kernel_rfl) (fun _ _ _ h => h) (Or.inl ⟨by rfl, ?hdj9⟩) (unhide HSW _ D0) ?_
  case hdj9 => (intro w hSw; (try dsimp only at hSw); go_simp) <;> with_reducible rfl
  simp only [Act.put, List.getElem_toArray, List.getElem_cons_zero, List.getElem_cons_succ, List.setIfInBounds_toArray, List.set_cons_zero, List.set_cons_succ]
  refine anyL_take (i := 11) (v := ?vdj10) rfl (by kernel_rfl) (by kernel_rfl) (by kernel_rfl) (by kernel_rfl) (fun _ _ _ h => h) (Or.inl ⟨by rfl, ?hdj10⟩) (unhide HSW _ D0) ?_
  case hdj10 => (intro w hSw; (try dsimp only at hSw); go_simp) <;> with_reducible rfl
  simp only [Act.put, List.getElem_toArray, List.getElem_cons_zero, List.getElem_cons_succ, List.setIfInBounds_toArray, List.set_cons_zero, List.set_cons_succ]
  refine anyL_take (i := 12) (v := ?vdj11) rfl (by kernel_rfl) (by kernel_rfl) (by kernel_rfl) (by kernel_rfl) (fun _ _ _ h => h) (Or.inl ⟨by rfl, ?hdj11⟩) (unhide HSW _ D0) ?_
  case hdj11 => (intro w hSw; (try dsimp only at hSw); go_simp) <;> with_reducible rfl
  simp only [Act.put, List.getElem_toArray, List.getElem_cons_zero, List.getElem_cons_succ, List.setIfInBounds_toArray, List.set_cons_zero, List.set_cons_succ]
  refine anyL_take (i := 13) (v := ?vdj12) rfl (by kernel_rfl) (by kernel_rfl) (by kernel_rfl) (by kernel_rfl) (fun _ _ _ h => h) (Or.inl ⟨by rfl, ?hdj12⟩) (unhide HSW _ D0) ?_
  case hdj12 => (intro w hSw; (try dsimp only at hSw); go_simp) <;> with_reducible rfl
  simp only [Act.put, List.getElem_toArray, List.getElem_cons_zero, List.getElem_cons_succ, List.setIfInBounds_toArray, List.set_cons_zero, List.set_cons_succ]
  refine anyL_take (i := 14) (v := ?vdj13) rfl (by kernel_rfl) (by kernel_rfl) (by kernel_rfl) (by kernel_rfl) (fun _ _ _ h => h) (Or.inl ⟨by rfl, ?hdj13⟩) (unhide HSW _ D0) ?_
  case hdj13 => (intro w hSw; (try dsimp only at hSw); go_simp) <;> with_reducible rfl
  simp only [Act.put, List.getElem_toArray, List.getElem_cons_zero, List.getElem_cons_succ, List.setIfInBounds_toArray, List.set_cons_zero, List.set_cons_succ]
  refine anyL_ready (rs := [7]) (by kernel_rfl) (by simp) ?_
  refine AllL.cons rfl (fun K hK => ?_) AllL.nil
  go_simp
  refine (unhide HWi _).mono ?_
  rintro e y1 ⟨rfl, rfl⟩
  refine unhide hK _ _ (fun _ => unhide HSW _ D0) ?_
  clear hK K
  refine anyL_ready (rs := [15]) (by kernel_rfl) (by simp) ?_
  refine AllL.cons rfl (fun K hK => ?_) AllL.nil
  go_simp
  refine (unhide HWj _).mono ?_
  rintro e y2 ⟨rfl, rfl⟩
  refine unhide hK _ _ (fun _ => unhide HSW _ D0) ?_
  clear hK K
  refine anyL_take (i := 16) (v := ?vdj14) rfl (by kernel_rfl) (by kernel_rfl) (by kernel_rfl) (by kernel_rfl) (fun _ _ _ h => h) (Or.inl ⟨by rfl, ?hdj14⟩) (unhide HSW _ D0) ?_
  case hdj14 => (intro w hSw; (try dsimp only at hSw); go_simp) <;> with_reducible rfl
  simp only [Act.put, List.getElem_toArray, List.getElem_cons_zero, List.getElem_cons_succ, List.setIfInBounds_toArray, List.set_cons_zero, List.set_cons_succ]
  refine anyL_take (i := 17) (v := ?vdj15) rfl (by kernel_rfl) (by kernel_rfl) (by kernel_rfl) (by kernel_rfl) (fun _ _ _ h => h) (Or.inl ⟨by rfl, ?hdj15⟩) (unhide HSW _ D0) ?_
  case hdj15 => (intro w hSw; (try dsimp only at hSw); go_simp) <;> with_reducible rfl
  simp only [Act.put, List.getElem_toArray, List.getElem_cons_zero, List.getElem_cons_succ, List.setIfInBounds_toArray, List.set_cons_zero, List.set_cons_succ]
  refine anyL_done (by kernel_rfl) ?_ _
  go_upto_region 7 with fail
  refine regionL (S := fun w' => w'.cell? ⟨gA, 0, none⟩ = some (.int .i64 k) ∧ w'.cell? ⟨gA, 1, none⟩ = some (.int .i64 a) ∧ w'.cell? ⟨gA, 2, none⟩ = some (.int .i64 b) ∧ w'.cell? ⟨gB, 0, none⟩ = some (.slice (some ⟨gr, 0, none⟩) n rc) ∧ w'.cell? ⟨gB, 1, none⟩ = some (.slice (some ⟨gt, 0, none⟩) n tc) ∧ w'.cell? ⟨gr, i, none⟩ = some (.pointer (some ⟨gi, 0, none⟩)) ∧ w'.cell? ⟨gt, i, none⟩ = some (.string Si)) (fun _ => false) (by kernel_rfl) ?_
  have D1 : Below X1.heap.size X1 y2.drew := D0.drew
  generalize y2.drew = y3 at *
  refine anyL_take (i := 0) (v := ?vej16) rfl (by kernel_rfl) (by kernel_rfl) (by kernel_rfl) (by kernel_rfl) (fun _ _ _ h => h) (Or.inl ⟨by rfl, ?hej16⟩) (unhide HSW _ D1) ?_
  case hej16 => (intro w hSw; (try dsimp only at hSw); go_simp) <;> with_reducible rfl
  simp only [Act.put, List.getElem_toArray, List.getElem_cons_zero, List.setIfInBounds_toArray, List.set_cons_zero, List.set_cons_succ]
  refine anyL_take (i := 1) (v := ?vej17) rfl (by kernel_rfl) (by kernel_rfl) (by kernel_rfl) (by kernel_rfl) (fun _ _ _ h => h) (Or.inl ⟨by rfl, ?hej17⟩) (unhide HSW _ D1) ?_
  case hej17 => (intro w hSw; (try dsimp only at hSw); go_simp) <;> with_reducible rfl
  simp only [Act.put, List.getElem_toArray, List.getElem_cons_zero, List.getElem_cons_succ, List.setIfInBounds_toArray, List.set_cons_zero, List.set_cons_succ]
  refine anyL_take (i := 2) (v := ?vej18) rfl (by kernel_rfl) (by kernel_rfl) (by kernel_rfl) (by kernel_rfl) (fun _ _ _ h => h) (Or.inl ⟨by rfl, ?hej18⟩) (unhide HSW _ D1) ?_
  case hej18 => (intro w hSw; (try dsimp only at hSw); go_simp) <;> with_reducible rfl
  simp only [Act.put, List.getElem_toArray, List.getElem_cons_zero, List.getElem_cons_succ, List.setIfInBounds_toArray, List.set_cons_zero, List.set_cons_succ]
  refine anyL_take (i := 3) (v := ?vej19) rfl (by kernel_rfl) (by kernel_rfl) (by kernel_rfl) (by kernel_rfl) (fun _ _ _ h => h) (Or.inl ⟨by rfl, ?hej19⟩) (unhide HSW _ D1) ?_
  case hej19 => (intro w hSw; (try dsimp only at hSw); go_simp) <;> with_reducible rfl
  simp only [Act.put, List.getElem_toArray, List.getElem_cons_zero, List.getElem_cons_succ, List.setIfInBounds_toArray, List.set_cons_zero, List.set_cons_succ]
  refine anyL_take (i := 4) (v := ?vej20) rfl (by kernel_rfl) (by kernel_rfl) (by kernel_rfl) (by kernel_rfl) (fun _ _ _ h => h) (Or.inl ⟨by rfl, ?hej20⟩) (unhide HSW _ D1) ?_
  case hej20 => (intro w hSw; (try dsimp only at hSw); go_simp) <;> with_reducible rfl
  simp only [Act.put, List.getElem_toArray, List.getElem_cons_zero, List.getElem_cons_succ, List.setIfInBounds_toArray, List.set_cons_zero, List.set_cons_succ]
  refine anyL_take (i := 5) (v := ?vej21) rfl (by kernel_rfl) (by kernel_rfl) (by kernel_rfl) (by kernel_rfl) (fun _ _ _ h => h) (Or.inl ⟨by rfl, ?hej21⟩) (unhide HSW _ D1) ?_
  case hej21 => (intro w hSw; (try dsimp only at hSw); go_simp) <;> with_reducible rfl
  simp only [Act.put, List.getElem_toArray, List.getElem_cons_zero, List.getElem_cons_succ, List.setIfInBounds_toArray, List.set_cons_zero, List.set_cons_succ]
  refine anyL_take (i := 6) (v := ?vej22) rfl (by kernel_rfl) (by kernel_rfl) (by kernel_rfl) (by kernel_rfl) (fun _ _ _ h => h) (Or.inl ⟨by rfl, ?hej22⟩) (unhide HSW _ D1) ?_
  case hej22 => (intro w hSw; (try dsimp only at hSw); go_simp) <;> with_reducible rfl
  simp only [Act.put, List.getElem_toArray, List.getElem_cons_zero, List.getElem_cons_succ, List.setIfInBounds_toArray, List.set_cons_zero, List.set_cons_succ]
  refine anyL_take (i := 7) (v := ?vej23) rfl (by kernel_rfl) (by kernel_rfl) (by kernel_rfl) (by kernel_rfl) (fun _ _ _ h => h) (Or.inl ⟨by rfl, ?hej23⟩) (unhide HSW _ D1) ?_
  case hej23 => (intro w hSw; (try dsimp only at hSw); go_simp) <;> with_reducible rfl
  simp only [Act.put, List.getElem_toArray, List.getElem_cons_zero, List.getElem_cons_succ, List.setIfInBounds_toArray, List.set_cons_zero, List.set_cons_succ]
  refine anyL_take (i := 8) (v := ?vej24) rfl (by kernel_rfl) (by kernel_rfl) (by kernel_rfl) (by kernel_rfl) (fun _ _ _ h => h) (Or.inl ⟨by rfl, ?hej24⟩) (unhide HSW _ D1) ?_
  case hej24 => (intro w hSw; (try dsimp only at hSw); go_simp) <;> with_reducible rfl
  simp only [Act.put, List.getElem_toArray, List.getElem_cons_zero, List.getElem_cons_succ, List.setIfInBounds_toArray, List.set_cons_zero, List.set_cons_succ]
  refine anyL_take (i := 9) (v := ?vej25) rfl (by kernel_rfl) (by kernel_rfl) (by kernel_rfl) (by kernel_rfl) (fun _ _ _ h => h) (Or.inl ⟨by rfl, ?hej25⟩) (unhide HSW _ D1) ?_
  case hej25 => (intro w hSw; (try dsimp only at hSw); go_simp) <;> with_reducible rfl
  simp only [Act.put, List.getElem_toArray, List.getElem_cons_zero, List.getElem_cons_succ, List.setIfInBounds_toArray, List.set_cons_zero, List.set_cons_succ]
  refine anyL_take (i := 10) (v := ?vej26) rfl (by kernel_rfl) (by kernel_rfl) (by kernel_rfl) (by kernel_rfl) (fun _ _ _ h => h) (Or.inl ⟨by rfl, ?hej26⟩) (unhide HSW _ D1) ?_
  case hej26 => (intro w hSw; (try dsimp only at hSw); go_simp) <;> with_reducible rfl
  simp only [Act.put, List.getElem_toArray, List.getElem_cons_zero, List.getElem_cons_succ, List.setIfInBounds_toArray, List.set_cons_zero, List.set_cons_succ]
  refine anyL_take (i := 11) (v := ?vej27) rfl (by kernel_rfl) (by kernel_rfl) (by kernel_rfl) (by kernel_rfl) (fun _ _ _ h => h) (Or.inl ⟨by rfl, ?hej27⟩) (unhide HSW _ D1) ?_
  case hej27 => (intro w hSw; (try dsimp only at hSw); go_simp) <;> with_reducible rfl
  simp only [Act.put, List.getElem_toArray, List.getElem_cons_zero, List.getElem_cons_succ, List.setIfInBounds_toArray, List.set_cons_zero, List.set_cons_succ]
  refine anyL_take (i := 12) (v := ?vej28) rfl (by kernel_rfl) (by kernel_rfl) (by kernel_rfl) (by kernel_rfl) (fun _ _ _ h => h) (Or.inl ⟨by rfl, ?hej28⟩) (unhide HSW _ D1) ?_
  case hej28 => (intro w hSw; (try dsimp only at hSw); go_simp) <;> with_reducible rfl
  simp only [Act.put, List.getElem_toArray, List.getElem_cons_zero, List.getElem_cons_succ, List.setIfInBounds_toArray, List.set_cons_zero, List.set_cons_succ]
  refine anyL_take (i := 13) (v := ?vej29) rfl (by kernel_rfl) (by kernel_rfl) (by kernel_rfl) (by kernel_rfl) (fun _ _ _ h => h) (Or.inl ⟨by rfl, ?hej29⟩) (unhide HSW _ D1) ?_
  case hej29 => (intro w hSw; (try dsimp only at hSw); go_simp) <;> with_reducible rfl
  simp only [Act.put, List.getElem_toArray, List.getElem_cons_zero, List.getElem_cons_succ, List.setIfInBounds_toArray, List.set_cons_zero, List.set_cons_succ]
  refine anyL_take (i := 14) (v := ?vej30) rfl (by kernel_rfl) (by kernel_rfl) (by kernel_rfl) (by kernel_rfl) (fun _ _ _ h => h) (Or.inl ⟨by rfl, ?hej30⟩) (unhide HSW _ D1) ?_
  case hej30 => (intro w hSw; (try dsimp only at hSw); go_simp) <;> with_reducible rfl
  simp only [Act.put, List.getElem_toArray, List.getElem_cons_zero, List.getElem_cons_succ, List.setIfInBounds_toArray, List.set_cons_zero, List.set_cons_succ]
  refine anyL_take (i := 15) (v := ?vej31) rfl (by kernel_rfl) (by kernel_rfl) (by kernel_rfl) (by kernel_rfl) (fun _ _ _ h => h) (Or.inl ⟨by rfl, ?hej31⟩) (unhide HSW _ D1) ?_
  case hej31 => (intro w hSw; (try dsimp only at hSw); go_simp) <;> with_reducible rfl
  simp only [Act.put, List.getElem_toArray, List.getElem_cons_zero, List.getElem_cons_succ, List.setIfInBounds_toArray, List.set_cons_zero, List.set_cons_succ]
  refine anyL_done (by kernel_rfl) ?_ _
  have hS3 := unhide HSW y3 D1
  obtain ⟨e0, e1, e2, e3, e4, e5, e6⟩ := hS3
  obtain ⟨e7, e8⟩ := unhide HSJ y3 D1
  have HJ := hide (RoJoin9_at gi gj oi oj y3 (hri.1.on D1) (hrj.1.on D1) (by omega) ((unhide HW).below D1))
  have HBL := hide (And.intro hri.2 hrj.2)
  clear hri hrj p0 p1 ci cti cj ctj q0 q1 q2 q3 q4 q5 HWi HWj D0 g1
  go_wp2_with fail
  refine (unhide HJ).mono ?_
  rintro y y4 ⟨g, rfl, rj, x4⟩
  dsimp only
  have D4 := D1.trans (x4.mono D1.size)
  clear e0 e1 e2 e3 e4 e5 e6 e7 e8
  obtain ⟨e0, e1, e2, e3, e4, e5, e6⟩ := unhide HSW y4 D4
  obtain ⟨e7, e8⟩ := unhide HSJ y4 D4
  obtain ⟨m, hm⟩ : ∃ m, m = (txtO oi).length + (txtO oj).length := ⟨_, rfl⟩
  have u1 : ((txtO oi).length : Int) + ((txtO oj).length : Int) = (m : Int) := by omega
  have u2 : IntKind.i64.wrap (m : Int) = (m : Int) := by rw [IntKind.wrap_i64]; omega
  have u3 : ¬ (268435456 : Int) < (m : Int) := by omega
  have u4 : ¬ 9223372036854775807 < (txtO oi).length + (txtO oj).length := by omega
  have htj : strOfNums (txtO (joinO oi oj)) = Si ++ Sj := by rw [joinO_txt, ← (unhide HST).1, ← (unhide HST).2, str_app9]
  have hkp := keep9_at B gB g gs os (joinO oi oj) y4 (unhide HBK y4 D4) rj (joinO_bal (unhide HBL).1 (unhide HBL).2) (by rw [hnn]; omega) (by have := D4.size; have := x1.size; omega) hgB
  rw [htj] at hkp
  have HK := hide hkp
  have HD4 := hide D4
  have HM := hide (And.intro hm (And.intro hsi hsj))
  clear hkp htj rj x4 D1 D4 HJ hm hsi hsj
  go_wp2_with fail
  refine (unhide HK).mono ?_
  rintro y y5 ⟨rfl, h5, b5, n5⟩
  dsimp only
  have X4 := x1.trans ((unhide HD4).mono (by have := x1.size; omega))
  have HR : Hid (DoP B gB gs os X y5) := hide ⟨_, _, h5, (X4.mono (by omega)).trans b5, (Nt.on (hgA ▸ X4)).trans n5, .inr (.inl ⟨g, _, rfl, rfl, by rw [joinO_txt, List.length_append]; have := unhide HM; omega⟩)⟩
  clear h5 b5 n5 HK X4
  go_wp2_with fail
  refine bodyPost_ret (results_tmp rfl _ _ _) rfl ⟨rfl, unhide HR⟩

end Go.Proofs.YtcodpkmhpplamaaGreatDoor
end

section
namespace Go.Proofs.YtcodpkmhpplamaaGreatDoor
open Go.ChangeShapes Go.WideShapes Go.ChangeAt Go.RowKit
attribute [local go_sem] Oper.semAt_some

set_option maxRecDepth 100000 in
set_option maxHeartbeats 8000000 in
theorem doSplit_at (B gB : Nat) (gs : List Nat) (os : List (Option Nd)) (a b lo hi : Int) (a0 : Option Addr) (cap : Nat) (l : List Int) (X : World) (h : Bk X B gB gs os) (hs : ∀ i, i < gs.length → (txtO (os.getD i none)).length ≤ 32768) (hk : 0 < gs.length) (hW : Wt X) (hl : gs.length ≤ 4398046511100) (hB : B ≤ X.heap.size) (hgB : B ≤ gB) :
    Calls Tryz.prog 23 #[.pointer (some ⟨gB, 0, none⟩), .agg (actC 2 a b lo hi a0 l.length cap)] X fun y X' => y = .returned (.bool true) ∧ DoP B gB gs os X X' := by
  unfold actC
  obtain ⟨k, hk1⟩ : ∃ k : Int, k = 2 := ⟨_, rfl⟩
  have s0 : (k == 1) = false := by rw [hk1]; rfl
  have s1 : (k == 2) = true := by rw [hk1]; rfl
  have s2 : ¬ k < 1 := by omega
  have s3 : ¬ 3 < k := by omega
  rw [← hk1]
  clear hk1
  have x1 := (Below.refl X.heap.size X).alloc (Nat.le_refl _) (.cells #[.int .i64 k, .int .i64 a, .int .i64 b, .int .i64 lo, .int .i64 hi, .slice a0 l.length cap] 60)
  have g1 := push_get X (.cells #[.int .i64 k, .int .i64 a, .int .i64 b, .int .i64 lo, .int .i64 hi, .slice a0 l.length cap] 60)
  have h1 := h.on x1
  have HW := hide (hW.below x1)
  obtain ⟨gr, rc, gt, tc, p0, p1, pc⟩ := h1.rows hk
  obtain ⟨i, hi0⟩ : ∃ i, i = whN a gs.length := ⟨_, rfl⟩
  obtain ⟨j, hj0⟩ : ∃ j, j = whN b gs.length := ⟨_, rfl⟩
  have hil : i < gs.length := by rw [hi0]; exact whN_lt a hk
  have HWi := hide fun (Y : World) => which9_at a gs.length Y hk (by omega)
  have HWj := hide fun (Y : World) => which9_at b gs.length Y hk (by omega)
  rw [← hi0] at HWi
  rw [← hj0] at HWj
  have hri := h1.r i hil
  have hsi := hs i hil
  obtain ⟨ci, cti⟩ := pc i hil
  have n0 : ((gs.length : Int) == 0) = false := by rw [beq_eq_false_iff_ne]; omega
  have HH := hide h1
  generalize hgi : gs.getD i 0 = gi at *
  generalize hoi : os.getD i none = oi at *
  clear hgi hoi pc h hW hs hi0 hj0 h1
  have zi := strOfNums_size (txtO oi)
  generalize hSi : strOfNums (txtO oi) = Si at *
  have HST := hide hSi
  clear hSi
  have hil2 : (i : Int) < (gs.length : Int) := by omega
  generalize hnn : gs.length = n at *
  go_enter Tryz.func23, Tryz.ntmps23
  go_upto_region 1 with fail
  generalize X.alloc (.cells #[.int .i64 k, .int .i64 a, .int .i64 b, .int .i64 lo, .int .i64 hi, .slice a0 l.length cap] 60) = X1 at *
  generalize hgA : X.heap.size = gA at *
  obtain ⟨q0, q1, q2, q3, q4, q5, _⟩ := cells6 g1
  have HSW := hide fun (Y : World) (hb : Below X1.heap.size X1 Y) => (show (fun w' : World => w'.cell? ⟨gA, 0, none⟩ = some (.int .i64 k) ∧ w'.cell? ⟨gA, 1, none⟩ = some (.int .i64 a) ∧ w'.cell? ⟨gA, 2, none⟩ = some (.int .i64 b) ∧ w'.cell? ⟨gB, 0, none⟩ = some (.slice (some ⟨gr, 0, none⟩) n rc) ∧ w'.cell? ⟨gB, 1, none⟩ = some (.slice (some ⟨gt, 0, none⟩) n tc) ∧ w'.cell? ⟨gr, i, none⟩ = some (.pointer (some ⟨gi, 0, none⟩)) ∧ w'.cell? ⟨gt, i, none⟩ = some (.string Si)) Y from ⟨(hb.cell (p := ⟨gA, 0, none⟩) (lt_cell q0)).trans q0, (hb.cell (p := ⟨gA, 1, none⟩) (lt_cell q1)).trans q1, (hb.cell (p := ⟨gA, 2, none⟩) (lt_cell q2)).trans q2, (hb.cell (p := ⟨gB, 0, none⟩) (lt_cell p0)).trans p0, (hb.cell (p := ⟨gB, 1, none⟩) (lt_cell p1)).trans p1, (hb.cell (p := ⟨gr, i, none⟩) (lt_cell ci)).trans ci, (hb.cell (p := ⟨gt, i, none⟩) (lt_cell cti)).trans cti⟩)
  have D0 : Below X1.heap.size X1 X1.drew := (Below.refl _ _).drew
  have HBK := hide fun (Y : World) (hb : Below X1.heap.size X1 Y) => (unhide HH).on hb
  have HG1 := hide g1
  go_upto_region 6 with fail
  refine regionL (S := fun w' => w'.cell? ⟨gA, 0, none⟩ = some (.int .i64 k) ∧ w'.cell? ⟨gA, 1, none⟩ = some (.int .i64 a) ∧ w'.cell? ⟨gA, 2, none⟩ = some (.int .i64 b) ∧ w'.cell? ⟨gB, 0, none⟩ = some (.slice (some ⟨gr, 0, none⟩) n rc) ∧ w'.cell? ⟨gB, 1, none⟩ = some (.slice (some ⟨gt, 0, none⟩) n tc) ∧ w'.cell? ⟨gr, i, none⟩ = some (.pointer (some ⟨gi, 0, none⟩)) ∧ w'.cell? ⟨gt, i, none⟩ = some (.string Si)) (fun _ => false) (by kernel_rfl) ?_
  generalize X1.drew = y0 at *
  refine anyL_take (i := 0) (v := ?vds32) rfl (by kernel_rfl) (by kernel_rfl) (by kernel_rfl) (by kernel_rfl) (fun _ _ _ h => h) (Or.inl ⟨by rfl, ?hds32⟩) (unhide HSW _ D0) ?_
  case hds32 => (intro w hSw; (try dsimp only at hSw); go_simp) <;> with_reducible rfl
  simp only [Act.put, List.getElem_toArray, List.getElem_cons_zero, List.setIfInBounds_toArray, List.set_cons_zero, List.set_cons_succ]
  refine anyL_take (i := 1) (v := ?vds33) rfl (by kernel_rfl) (by kernel_rfl) (by kernel_rfl) (by kernel_rfl) (fun _ _ _ h => h) (Or.inl ⟨by rfl, ?hds33⟩) (unhide HSW _ D0) ?_
  case hds33 => (intro w hSw; (try dsimp only at hSw); go_simp) <;> with_reducible rfl
  simp only [Act.put, List.getElem_toArray, List.getElem_cons_zero, List.getElem_cons_succ, List.setIfInBounds_toArray, List.set_cons_zero, List.set_cons_succ]
  refine anyL_take (i := 2) (v := ?vds34) rfl (by kernel_rfl) (by kernel_rfl) (by kernel_rfl) (by kernel_rfl) (fun _ _ _ h => h) (Or.inl ⟨by rfl, ?hds34⟩) (unhide HSW _ D0) ?_
  case hds34 => (intro w hSw; (try dsimp only at hSw); go_simp) <;> with_reducible rfl
  simp only [Act.put, List.getElem_toArray, List.getElem_cons_zero, List.getElem_cons_succ, List.setIfInBounds_toArray, List.set_cons_zero, List.set_cons_succ]
  refine anyL_take (i := 3) (v := ?vds35) rfl (by kernel_rfl) (by kernel_rfl) (by kernel_rfl) (by kernel_rfl) (fun _ _ _ h => h) (Or.inl ⟨by rfl, ?hds35⟩) (unhide HSW _ D0) ?_
  case hds35 => (intro w hSw; (try dsimp only at hSw); go_simp) <;> with_reducible rfl
  simp only [Act.put, List.getElem_toArray, List.getElem_cons_zero, List.getElem_cons_succ, List.setIfInBounds_toArray, List.set_cons_zero, List.set_cons_succ]
  refine anyL_take (i := 4) (v := ?vds36) rfl (by kernel_rfl) (by kernel_rfl) (by kernel_rfl) (by kernel_rfl) (fun _ _ _ h => h) (Or.inl ⟨by rfl, ?hds36⟩) (unhide HSW _ D0) ?_
  case hds36 => (intro w hSw; (try dsimp only at hSw); go_simp) <;> with_reducible rfl
  simp only [Act.put, List.getElem_toArray, List.getElem_cons_zero, List.getElem_cons_succ, List.setIfInBounds_toArray, List.set_cons_zero, List.set_cons_succ]
  refine anyL_take (i := 5) (v := ?vds37) rfl (by kernel_rfl) (by kernel_rfl) (by kernel_rfl) (by kernel_rfl) (fun _ _ _ h => h) (Or.inl ⟨by rfl, ?hds37⟩) (unhide HSW _ D0) ?_
  case hds37 => (intro w hSw; (try dsimp only at hSw); go_simp) <;> with_reducible rfl
  simp only [Act.put, List.getElem_toArray, List.getElem_cons_zero, List.getElem_cons_succ, List.setIfInBounds_toArray, List.set_cons_zero, List.set_cons_succ]
  refine anyL_take (i := 6) (v := ?vds38) rfl (by kernel_rfl) (by kernel_rfl) (by kernel_rfl) (by kernel_rfl) (fun _ _ _ h => h) (Or.inl ⟨by rfl, ?hds38⟩) (unhide HSW _ D0) ?_
  case hds38 => (intro w hSw; (try dsimp only at hSw); go_simp) <;> with_reducible rfl
  simp only [Act.put, List.getElem_toArray, List.getElem_cons_zero, List.getElem_cons_succ, List.setIfInBounds_toArray, List.set_cons_zero, List.set_cons_succ]
  refine anyL_take (i := 8) (v := ?vds39) rfl (by kernel_rfl) (by kernel_rfl) (by kernel_rfl) (by kernel_rfl) (fun _ _ _ h => h) (Or.inl ⟨by rfl, ?hds39⟩) (unhide HSW _ D0) ?_
  case hds39 => (intro w hSw; (try dsimp only at hSw); go_simp) <;> with_reducible rfl
  simp only [Act.put, List.getElem_toArray, List.getElem_cons_zero, List.getElem_cons_succ, List.setIfInBounds_toArray, List.set_cons_zero, List.set_cons_succ]
  refine anyL_take (i := 9) (v := ?vds40) rfl (by kernel_rfl) (by kernel_rfl) (by kernel_rfl) (by kernel_rfl) (fun _ _ _ h => h) (Or.inl ⟨by rfl, ?hds40⟩) (unhide HSW _ D0) ?_
  case hds40 => (intro w hSw; (try dsimp only at hSw); go_simp) <;> with_reducible rfl
  simp only [Act.put, List.getElem_toArray, List.getElem_cons_zero, List.getElem_cons_succ, List.setIfInBounds_toArray, List.set_cons_zero, List.set_cons_succ]
  refine anyL_take (i := 10) (v := ?vds41) rfl (by kernel_rfl) (by kernel_rfl) (by kernel_rfl) (by kernel_rfl) (fun _ _ _ h => h) (Or.inl ⟨by rfl, ?hds41⟩) (unhide HSW _ D0) ?_
  case hds41 => (intro w hSw; (try dsimp only at hSw); go_simp) <;> with_reducible rfl
  simp only [Act.put, List.getElem_toArray, List.getElem_cons_zero, List.getElem_cons_succ, List.setIfInBounds_toArray, List.set_cons_zero, List.set_cons_succ]
  refine anyL_take (i := 11) (v := ?vds42) rfl (by kernel_rfl) (by kernel_rfl) (by kernel_rfl) (by kernel_rfl) (fun _ _ _ h => h) (Or.inl ⟨by rfl, ?hds42⟩) (unhide HSW _ D0) ?_
  case hds42 => (intro w hSw; (try dsimp only at hSw); go_simp) <;> with_reducible rfl
  simp only [Act.put, List.getElem_toArray, List.getElem_cons_zero, List.getElem_cons_succ, List.setIfInBounds_toArray, List.set_cons_zero, List.set_cons_succ]
  refine anyL_take (i := 12) (v := ?vds43) rfl (by kernel_rfl) (by kernel_rfl) (by kernel_rfl) (by kernel_rfl) (fun _ _ _ h => h) (Or.inl ⟨by rfl, ?hds43⟩) (unhide HSW _ D0) ?_
  case hds43 => (intro w hSw; (try dsimp only at hSw); go_simp) <;> with_reducible rfl
  simp only [Act.put, List.getElem_toArray, List.getElem_cons_zero, List.getElem_cons_succ, List.setIfInBounds_toArray, List.set_cons_zero, List.set_cons_succ]
  refine anyL_take (i := 13) (v := ?vds44) rfl (by kernel_rfl) (by kernel_rfl) (by kernel_rfl) (by kernel_rfl) (fun _ _ _ h => h) (Or.inl ⟨by rfl, ?hds44⟩) (unhide HSW _ D0) ?_
  case hds44 => (intro w hSw; (try dsimp only at hSw); go_simp) <;> with_reducible rfl
  simp only [Act.put, List.getElem_toArray, List.getElem_cons_zero, List.getElem_cons_succ, List.setIfInBounds_toArray, List.set_cons_zero, List.set_cons_succ]
  refine anyL_take (i := 14) (v := ?vds45) rfl (by kernel_rfl) (by kernel_rfl) (by kernel_rfl) (by kernel_rfl) (fun _ _ _ h => h) (Or.inl ⟨by rfl, ?hds45⟩) (unhide HSW _ D0) ?_
  case hds45 => (intro w hSw; (try dsimp only at hSw); go_simp) <;> with_reducible rfl
  simp only [Act.put, List.getElem_toArray, List.getElem_cons_zero, List.getElem_cons_succ, List.setIfInBounds_toArray, List.set_cons_zero, List.set_cons_succ]
  refine anyL_ready (rs := [7]) (by kernel_rfl) (by simp) ?_
  refine AllL.cons rfl (fun K hK => ?_) AllL.nil
  go_simp
  refine (unhide HWi _).mono ?_
  rintro e y1 ⟨rfl, rfl⟩
  refine unhide hK _ _ (fun _ => unhide HSW _ D0) ?_
  clear hK K
  refine anyL_ready (rs := [15]) (by kernel_rfl) (by simp) ?_
  refine AllL.cons rfl (fun K hK => ?_) AllL.nil
  go_simp
  refine (unhide HWj _).mono ?_
  rintro e y2 ⟨rfl, rfl⟩
  refine unhide hK _ _ (fun _ => unhide HSW _ D0) ?_
  clear hK K
  refine anyL_take (i := 16) (v := ?vds46) rfl (by kernel_rfl) (by kernel_rfl) (by kernel_rfl) (by kernel_rfl) (fun _ _ _ h => h) (Or.inl ⟨by rfl, ?hds46⟩) (unhide HSW _ D0) ?_
  case hds46 => (intro w hSw; (try dsimp only at hSw); go_simp) <;> with_reducible rfl
  simp only [Act.put, List.getElem_toArray, List.getElem_cons_zero, List.getElem_cons_succ, List.setIfInBounds_toArray, List.set_cons_zero, List.set_cons_succ]
  refine anyL_take (i := 17) (v := ?vds47) rfl (by kernel_rfl) (by kernel_rfl) (by kernel_rfl) (by kernel_rfl) (fun _ _ _ h => h) (Or.inl ⟨by rfl, ?hds47⟩) (unhide HSW _ D0) ?_
  case hds47 => (intro w hSw; (try dsimp only at hSw); go_simp) <;> with_reducible rfl
  simp only [Act.put, List.getElem_toArray, List.getElem_cons_zero, List.getElem_cons_succ, List.setIfInBounds_toArray, List.set_cons_zero, List.set_cons_succ]
  refine anyL_done (by kernel_rfl) ?_ _
  go_upto_region 7 with fail
  refine regionL (S := fun w' => w'.cell? ⟨gA, 0, none⟩ = some (.int .i64 k) ∧ w'.cell? ⟨gA, 1, none⟩ = some (.int .i64 a) ∧ w'.cell? ⟨gA, 2, none⟩ = some (.int .i64 b) ∧ w'.cell? ⟨gB, 0, none⟩ = some (.slice (some ⟨gr, 0, none⟩) n rc) ∧ w'.cell? ⟨gB, 1, none⟩ = some (.slice (some ⟨gt, 0, none⟩) n tc) ∧ w'.cell? ⟨gr, i, none⟩ = some (.pointer (some ⟨gi, 0, none⟩)) ∧ w'.cell? ⟨gt, i, none⟩ = some (.string Si)) (fun _ => false) (by kernel_rfl) ?_
  have D1 : Below X1.heap.size X1 y2.drew := D0.drew
  generalize y2.drew = y3 at *
  refine anyL_take (i := 0) (v := ?ves48) rfl (by kernel_rfl) (by kernel_rfl) (by kernel_rfl) (by kernel_rfl) (fun _ _ _ h => h) (Or.inl ⟨by rfl, ?hes48⟩) (unhide HSW _ D1) ?_
  case hes48 => (intro w hSw; (try dsimp only at hSw); go_simp) <;> with_reducible rfl
  simp only [Act.put, List.getElem_toArray, List.getElem_cons_zero, List.setIfInBounds_toArray, List.set_cons_zero, List.set_cons_succ]
  refine anyL_take (i := 1) (v := ?ves49) rfl (by kernel_rfl) (by kernel_rfl) (by kernel_rfl) (by kernel_rfl) (fun _ _ _ h => h) (Or.inl ⟨by rfl, ?hes49⟩) (unhide HSW _ D1) ?_
  case hes49 => (intro w hSw; (try dsimp only at hSw); go_simp) <;> with_reducible rfl
  simp only [Act.put, List.getElem_toArray, List.getElem_cons_zero, List.getElem_cons_succ, List.setIfInBounds_toArray, List.set_cons_zero, List.set_cons_succ]
  refine anyL_take (i := 2) (v := ?ves50) rfl (by kernel_rfl) (by kernel_rfl) (by kernel_rfl) (by kernel_rfl) (fun _ _ _ h => h) (Or.inl ⟨by rfl, ?hes50⟩) (unhide HSW _ D1) ?_
  case hes50 => (intro w hSw; (try dsimp only at hSw); go_simp) <;> with_reducible rfl
  simp only [Act.put, List.getElem_toArray, List.getElem_cons_zero, List.getElem_cons_succ, List.setIfInBounds_toArray, List.set_cons_zero, List.set_cons_succ]
  refine anyL_take (i := 3) (v := ?ves51) rfl (by kernel_rfl) (by kernel_rfl) (by kernel_rfl) (by kernel_rfl) (fun _ _ _ h => h) (Or.inl ⟨by rfl, ?hes51⟩) (unhide HSW _ D1) ?_
  case hes51 => (intro w hSw; (try dsimp only at hSw); go_simp) <;> with_reducible rfl
  simp only [Act.put, List.getElem_toArray, List.getElem_cons_zero, List.getElem_cons_succ, List.setIfInBounds_toArray, List.set_cons_zero, List.set_cons_succ]
  refine anyL_take (i := 4) (v := ?ves52) rfl (by kernel_rfl) (by kernel_rfl) (by kernel_rfl) (by kernel_rfl) (fun _ _ _ h => h) (Or.inl ⟨by rfl, ?hes52⟩) (unhide HSW _ D1) ?_
  case hes52 => (intro w hSw; (try dsimp only at hSw); go_simp) <;> with_reducible rfl
  simp only [Act.put, List.getElem_toArray, List.getElem_cons_zero, List.getElem_cons_succ, List.setIfInBounds_toArray, List.set_cons_zero, List.set_cons_succ]
  refine anyL_take (i := 5) (v := ?ves53) rfl (by kernel_rfl) (by kernel_rfl) (by kernel_rfl) (by kernel_rfl) (fun _ _ _ h => h) (Or.inl ⟨by rfl, ?hes53⟩) (unhide HSW _ D1) ?_
  case hes53 => (intro w hSw; (try dsimp only at hSw); go_simp) <;> with_reducible rfl
  simp only [Act.put, List.getElem_toArray, List.getElem_cons_zero, List.getElem_cons_succ, List.setIfInBounds_toArray, List.set_cons_zero, List.set_cons_succ]
  refine anyL_take (i := 6) (v := ?ves54) rfl (by kernel_rfl) (by kernel_rfl) (by kernel_rfl) (by kernel_rfl) (fun _ _ _ h => h) (Or.inl ⟨by rfl, ?hes54⟩) (unhide HSW _ D1) ?_
  case hes54 => (intro w hSw; (try dsimp only at hSw); go_simp) <;> with_reducible rfl
  simp only [Act.put, List.getElem_toArray, List.getElem_cons_zero, List.getElem_cons_succ, List.setIfInBounds_toArray, List.set_cons_zero, List.set_cons_succ]
  refine anyL_take (i := 7) (v := ?ves55) rfl (by kernel_rfl) (by kernel_rfl) (by kernel_rfl) (by kernel_rfl) (fun _ _ _ h => h) (Or.inl ⟨by rfl, ?hes55⟩) (unhide HSW _ D1) ?_
  case hes55 => (intro w hSw; (try dsimp only at hSw); go_simp) <;> with_reducible rfl
  simp only [Act.put, List.getElem_toArray, List.getElem_cons_zero, List.getElem_cons_succ, List.setIfInBounds_toArray, List.set_cons_zero, List.set_cons_succ]
  refine anyL_take (i := 8) (v := ?ves56) rfl (by kernel_rfl) (by kernel_rfl) (by kernel_rfl) (by kernel_rfl) (fun _ _ _ h => h) (Or.inl ⟨by rfl, ?hes56⟩) (unhide HSW _ D1) ?_
  case hes56 => (intro w hSw; (try dsimp only at hSw); go_simp) <;> with_reducible rfl
  simp only [Act.put, List.getElem_toArray, List.getElem_cons_zero, List.getElem_cons_succ, List.setIfInBounds_toArray, List.set_cons_zero, List.set_cons_succ]
  refine anyL_take (i := 9) (v := ?ves57) rfl (by kernel_rfl) (by kernel_rfl) (by kernel_rfl) (by kernel_rfl) (fun _ _ _ h => h) (Or.inl ⟨by rfl, ?hes57⟩) (unhide HSW _ D1) ?_
  case hes57 => (intro w hSw; (try dsimp only at hSw); go_simp) <;> with_reducible rfl
  simp only [Act.put, List.getElem_toArray, List.getElem_cons_zero, List.getElem_cons_succ, List.setIfInBounds_toArray, List.set_cons_zero, List.set_cons_succ]
  refine anyL_take (i := 10) (v := ?ves58) rfl (by kernel_rfl) (by kernel_rfl) (by kernel_rfl) (by kernel_rfl) (fun _ _ _ h => h) (Or.inl ⟨by rfl, ?hes58⟩) (unhide HSW _ D1) ?_
  case hes58 => (intro w hSw; (try dsimp only at hSw); go_simp) <;> with_reducible rfl
  simp only [Act.put, List.getElem_toArray, List.getElem_cons_zero, List.getElem_cons_succ, List.setIfInBounds_toArray, List.set_cons_zero, List.set_cons_succ]
  refine anyL_take (i := 11) (v := ?ves59) rfl (by kernel_rfl) (by kernel_rfl) (by kernel_rfl) (by kernel_rfl) (fun _ _ _ h => h) (Or.inl ⟨by rfl, ?hes59⟩) (unhide HSW _ D1) ?_
  case hes59 => (intro w hSw; (try dsimp only at hSw); go_simp) <;> with_reducible rfl
  simp only [Act.put, List.getElem_toArray, List.getElem_cons_zero, List.getElem_cons_succ, List.setIfInBounds_toArray, List.set_cons_zero, List.set_cons_succ]
  refine anyL_take (i := 12) (v := ?ves60) rfl (by kernel_rfl) (by kernel_rfl) (by kernel_rfl) (by kernel_rfl) (fun _ _ _ h => h) (Or.inl ⟨by rfl, ?hes60⟩) (unhide HSW _ D1) ?_
  case hes60 => (intro w hSw; (try dsimp only at hSw); go_simp) <;> with_reducible rfl
  simp only [Act.put, List.getElem_toArray, List.getElem_cons_zero, List.getElem_cons_succ, List.setIfInBounds_toArray, List.set_cons_zero, List.set_cons_succ]
  refine anyL_take (i := 13) (v := ?ves61) rfl (by kernel_rfl) (by kernel_rfl) (by kernel_rfl) (by kernel_rfl) (fun _ _ _ h => h) (Or.inl ⟨by rfl, ?hes61⟩) (unhide HSW _ D1) ?_
  case hes61 => (intro w hSw; (try dsimp only at hSw); go_simp) <;> with_reducible rfl
  simp only [Act.put, List.getElem_toArray, List.getElem_cons_zero, List.getElem_cons_succ, List.setIfInBounds_toArray, List.set_cons_zero, List.set_cons_succ]
  refine anyL_take (i := 14) (v := ?ves62) rfl (by kernel_rfl) (by kernel_rfl) (by kernel_rfl) (by kernel_rfl) (fun _ _ _ h => h) (Or.inl ⟨by rfl, ?hes62⟩) (unhide HSW _ D1) ?_
  case hes62 => (intro w hSw; (try dsimp only at hSw); go_simp) <;> with_reducible rfl
  simp only [Act.put, List.getElem_toArray, List.getElem_cons_zero, List.getElem_cons_succ, List.setIfInBounds_toArray, List.set_cons_zero, List.set_cons_succ]
  refine anyL_take (i := 15) (v := ?ves63) rfl (by kernel_rfl) (by kernel_rfl) (by kernel_rfl) (by kernel_rfl) (fun _ _ _ h => h) (Or.inl ⟨by rfl, ?hes63⟩) (unhide HSW _ D1) ?_
  case hes63 => (intro w hSw; (try dsimp only at hSw); go_simp) <;> with_reducible rfl
  simp only [Act.put, List.getElem_toArray, List.getElem_cons_zero, List.getElem_cons_succ, List.setIfInBounds_toArray, List.set_cons_zero, List.set_cons_succ]
  refine anyL_done (by kernel_rfl) ?_ _
  obtain ⟨e0, _⟩ := unhide HSW y3 D1
  have g3 := bk9_on (unhide HG1) D1
  obtain ⟨_, _, _, e3, _⟩ := cells6 g3
  by_cases c : 0 ≤ lo ∧ lo ≤ ((txtO oi).length : Int)
  · obtain ⟨m, rfl⟩ : ∃ m : Nat, lo = (m : Int) := ⟨lo.toNat, by omega⟩
    have hml : m ≤ (txtO oi).length := by omega
    have HSp := hide (SplitR9_at gi oi m y3 (hri.1.on D1) hml (by omega) ((unhide HW).below D1))
    have HBL := hide hri.2
    have v1 : ¬ (m : Int) < 0 := by omega
    have v2 : ¬ ((txtO oi).length : Int) < (m : Int) := by omega
    clear hri p0 p1 ci cti q0 q1 q2 q3 q4 q5 HWi HWj D0 g1 c
    go_wp2_with fail
    refine (unhide HSp).mono ?_
    rintro y y4 ⟨ga, gb, oa, ob, rfl, ra, rb, ta, tb, bb, x4⟩
    dsimp only
    have D4 := D1.trans (x4.mono D1.size)
    have g4 := bk9_on g3 x4
    clear e3 g3 e0
    obtain ⟨_, _, _, e3, _⟩ := cells6 g4
    have eA : Si.extract 0 m = strOfNums (txtO oa) := by rw [← unhide HST, str_extract, ta]; simp
    have eB : Si.extract m (txtO oi).length = strOfNums (txtO ob) := by rw [← unhide HST, str_extract, tb, List.take_of_length_le (by simp)]
    obtain ⟨ba, b2⟩ := bb (unhide HBL)
    have hkp := keep9_at B gB ga gs os oa y4 (unhide HBK y4 D4) ra ba (by rw [hnn]; omega) (by have := D4.size; have := x1.size; omega) hgB
    have HK := hide hkp
    have HD4 := hide D4
    have HRB := hide (And.intro rb b2)
    have HTT := hide (And.intro ta tb)
    clear hkp ra rb ta tb bb ba b2 x4 D1 D4 HSp
    go_wp2_with fail
    refine (unhide HK).mono ?_
    rintro y y5 ⟨rfl, h5, b5, n5⟩
    dsimp only
    have g5 : y5.heap[gA]? = _ := (n5 gA _ _ _ g4 (.inr (.inr (.inr rfl)))).trans g4
    clear e3
    obtain ⟨_, _, _, e3, _⟩ := cells6 g5
    have hkp2 := keep9_at B gB gb (gs ++ [ga]) (os ++ [oa]) ob y5 h5 ((unhide HRB).1.nt n5) (unhide HRB).2 (by rw [List.length_append, hnn]; simp; omega) (by have := b5.size; have := (unhide HD4).size; have := x1.size; omega) hgB
    have HK2 := hide hkp2
    have HN5 := hide (And.intro b5 n5)
    clear hkp2 h5 b5 n5 HK g4 g5
    go_wp2_with fail
    refine (unhide HK2).mono ?_
    rintro y y6 ⟨rfl, h6, b6, n6⟩
    dsimp only
    have X4 := x1.trans ((unhide HD4).mono (by have := x1.size; omega))
    have HR : Hid (DoP B gB gs os X y6) := hide ⟨_, _, h6, ((X4.mono (by omega)).trans (unhide HN5).1).trans b6, ((Nt.on (hgA ▸ X4)).trans (unhide HN5).2).trans n6, .inr (.inr ⟨ga, oa, gb, ob, rfl, rfl, by rw [(unhide HTT).1, List.length_take]; omega, by rw [(unhide HTT).2, List.length_drop]; omega⟩)⟩
    clear h6 b6 n6 HK2 X4
    go_wp2_with fail
    refine bodyPost_ret (results_tmp rfl _ _ _) rfl ⟨rfl, unhide HR⟩
  · have HSp := hide (SplitE9_at gi oi lo y3 (hri.1.on D1) (by omega))
    have hx : lo < 0 ∨ (¬ lo < 0 ∧ ((txtO oi).length : Int) < lo) := by omega
    clear hri p0 p1 ci cti q0 q1 q2 q3 q4 q5 HWi HWj D0 g1 c
    rcases hx with v1 | ⟨v1, v2⟩
    all_goals
      go_wp2_with fail
      refine (unhide HSp).mono ?_
      rintro y y4 ⟨rfl, x4⟩
      dsimp only
      have D4 := D1.trans (x4.mono D1.size)
      have g4 := bk9_on g3 x4
      clear e3 g3 e0
      obtain ⟨_, _, _, e3, _⟩ := cells6 g4
      have X4 := x1.trans (D4.mono (by have := x1.size; omega))
      have HR : Hid (DoP B gB gs os X y4) := hide ⟨_, _, unhide HBK y4 D4, X4.mono (by omega), Nt.on (hgA ▸ X4), .inl ⟨rfl, rfl⟩⟩
      clear X4 D4 x4 HSp D1
      go_wp2_with fail
      refine bodyPost_ret (results_tmp rfl _ _ _) rfl ⟨rfl, unhide HR⟩

end Go.Proofs.YtcodpkmhpplamaaGreatDoor
end

section
namespace Go.Proofs.YtcodpkmhpplamaaGreatDoor
open Go.ChangeShapes Go.WideShapes Go.ChangeAt Go.RowKit
attribute [local go_sem] Oper.semAt_some

set_option maxRecDepth 100000 in
set_option maxHeartbeats 4000000 in
theorem ReplL9_at (g : Nat) (o : Option Nd) (lo hi : Nat) (a0 : Option Addr) (cap n : Nat) (w : World) (h : IsRo w g o) (h1 : lo ≤ hi) (h2 : hi ≤ (txtO o).length) (hm : (txtO o).length ≤ 268435456) (hn : n ≤ 140737488351232) (hl : 268435456 < (txtO o).length - (hi - lo) + n) :
    Calls Tryz.prog 18 #[.pointer (some ⟨g, 0, none⟩), .int .i64 (lo : Int), .int .i64 (hi : Int), .slice a0 n cap] w fun y w' => y = .returned (.tuple #[.pointer none, .int .i64 5]) ∧ Below w.heap.size w w' := by
  have hsp := span9_at g o (lo : Int) (hi : Int) w h
  rw [show spanE (txtO o).length (lo : Int) (hi : Int) = 0 by unfold spanE; rw [if_neg (by omega)]] at hsp
  have HS := hide hsp
  have HL := hide fun (X : World) (hx : Below w.heap.size w X) => Len9_at g o X (h.on hx)
  obtain ⟨d, hd⟩ : ∃ d, d = hi - lo := ⟨_, rfl⟩
  obtain ⟨e1, he1⟩ : ∃ e1, e1 = (txtO o).length - d := ⟨_, rfl⟩
  obtain ⟨e2, he2⟩ : ∃ e2, e2 = e1 + n := ⟨_, rfl⟩
  have i1 : (hi : Int) - (lo : Int) = (d : Int) := by omega
  have j1 : IntKind.i64.wrap (d : Int) = (d : Int) := by rw [IntKind.wrap_i64]; omega
  have i2 : ((txtO o).length : Int) - (d : Int) = (e1 : Int) := by omega
  have j2 : IntKind.i64.wrap (e1 : Int) = (e1 : Int) := by rw [IntKind.wrap_i64]; omega
  have i3 : (e1 : Int) + (n : Int) = (e2 : Int) := by omega
  have j3 : IntKind.i64.wrap (e2 : Int) = (e2 : Int) := by rw [IntKind.wrap_i64]; omega
  have t1 : (268435456 : Int) < (e2 : Int) := by omega
  have t2 : 268435456 < e2 := by omega
  clear hsp h h1 h2 hm hl hd he1 he2 hn
  go_enter Tryz.func18, Tryz.ntmps18
  go_wp2_with fail
  refine (unhide HS).mono ?_
  rintro y w1 ⟨rfl, x1⟩
  dsimp only
  go_wp2_with fail
  refine (unhide HL w1 x1).mono ?_
  rintro y w2 ⟨rfl, x2⟩
  dsimp only
  have D2 := hide (x1.trans (x2.mono x1.size))
  clear x1 x2 HS HL
  go_wp2_with fail
  refine bodyPost_ret (results_tmp2 rfl _ _ _) rfl ⟨rfl, unhide D2⟩

set_option maxRecDepth 100000 in
set_option maxHeartbeats 8000000 in
theorem doRepl_at (B gB : Nat) (gs : List Nat) (os : List (Option Nd)) (a b lo hi : Int) (a0 : Option Addr) (cap : Nat) (l : List Int) (X : World) (h : Bk X B gB gs os) (hs : ∀ i, i < gs.length → (txtO (os.getD i none)).length ≤ 32768) (hk : 0 < gs.length) (hNN : IsN X a0 cap l) (hW : Wt X) (hl : gs.length ≤ 4398046511100) (hB : B ≤ X.heap.size) (hgB : B ≤ gB) :
    Calls Tryz.prog 23 #[.pointer (some ⟨gB, 0, none⟩), .agg (actC 3 a b lo hi a0 l.length cap)] X fun y X' => y = .returned (.bool true) ∧ DoP B gB gs os X X' := by
  unfold actC
  obtain ⟨k, hk1⟩ : ∃ k : Int, k = 3 := ⟨_, rfl⟩
  have s0 : (k == 1) = false := by rw [hk1]; rfl
  have s1 : (k == 2) = false := by rw [hk1]; rfl
  have s2 : ¬ k < 1 := by omega
  have s3 : ¬ 3 < k := by omega
  rw [← hk1]
  clear hk1
  have x1 := (Below.refl X.heap.size X).alloc (Nat.le_refl _) (.cells #[.int .i64 k, .int .i64 a, .int .i64 b, .int .i64 lo, .int .i64 hi, .slice a0 l.length cap] 60)
  have g1 := push_get X (.cells #[.int .i64 k, .int .i64 a, .int .i64 b, .int .i64 lo, .int .i64 hi, .slice a0 l.length cap] 60)
  have h1 := h.on x1
  have HW := hide (hW.below x1)
  have HN := hide (hNN.below x1 (Nat.le_refl _))
  clear hNN
  obtain ⟨gr, rc, gt, tc, p0, p1, pc⟩ := h1.rows hk
  obtain ⟨i, hi0⟩ : ∃ i, i = whN a gs.length := ⟨_, rfl⟩
  obtain ⟨j, hj0⟩ : ∃ j, j = whN b gs.length := ⟨_, rfl⟩
  have hil : i < gs.length := by rw [hi0]; exact whN_lt a hk
  have HWi := hide fun (Y : World) => which9_at a gs.length Y hk (by omega)
  have HWj := hide fun (Y : World) => which9_at b gs.length Y hk (by omega)
  rw [← hi0] at HWi
  rw [← hj0] at HWj
  have hri := h1.r i hil
  have hsi := hs i hil
  obtain ⟨ci, cti⟩ := pc i hil
  have n0 : ((gs.length : Int) == 0) = false := by rw [beq_eq_false_iff_ne]; omega
  have HH := hide h1
  generalize hgi : gs.getD i 0 = gi at *
  generalize hoi : os.getD i none = oi at *
  clear hgi hoi pc h hW hs hi0 hj0 h1
  have zi := strOfNums_size (txtO oi)
  generalize hSi : strOfNums (txtO oi) = Si at *
  have HST := hide hSi
  clear hSi
  have hil2 : (i : Int) < (gs.length : Int) := by omega
  generalize hnn : gs.length = n at *
  go_enter Tryz.func23, Tryz.ntmps23
  go_upto_region 1 with fail
  generalize X.alloc (.cells #[.int .i64 k, .int .i64 a, .int .i64 b, .int .i64 lo, .int .i64 hi, .slice a0 l.length cap] 60) = X1 at *
  generalize hgA : X.heap.size = gA at *
  obtain ⟨q0, q1, q2, q3, q4, q5, _⟩ := cells6 g1
  have HSW := hide fun (Y : World) (hb : Below X1.heap.size X1 Y) => (show (fun w' : World => w'.cell? ⟨gA, 0, none⟩ = some (.int .i64 k) ∧ w'.cell? ⟨gA, 1, none⟩ = some (.int .i64 a) ∧ w'.cell? ⟨gA, 2, none⟩ = some (.int .i64 b) ∧ w'.cell? ⟨gB, 0, none⟩ = some (.slice (some ⟨gr, 0, none⟩) n rc) ∧ w'.cell? ⟨gB, 1, none⟩ = some (.slice (some ⟨gt, 0, none⟩) n tc) ∧ w'.cell? ⟨gr, i, none⟩ = some (.pointer (some ⟨gi, 0, none⟩)) ∧ w'.cell? ⟨gt, i, none⟩ = some (.string Si)) Y from ⟨(hb.cell (p := ⟨gA, 0, none⟩) (lt_cell q0)).trans q0, (hb.cell (p := ⟨gA, 1, none⟩) (lt_cell q1)).trans q1, (hb.cell (p := ⟨gA, 2, none⟩) (lt_cell q2)).trans q2, (hb.cell (p := ⟨gB, 0, none⟩) (lt_cell p0)).trans p0, (hb.cell (p := ⟨gB, 1, none⟩) (lt_cell p1)).trans p1, (hb.cell (p := ⟨gr, i, none⟩) (lt_cell ci)).trans ci, (hb.cell (p := ⟨gt, i, none⟩) (lt_cell cti)).trans cti⟩)
  have D0 : Below X1.heap.size X1 X1.drew := (Below.refl _ _).drew
  have HBK := hide fun (Y : World) (hb : Below X1.heap.size X1 Y) => (unhide HH).on hb
  have HG1 := hide g1
  go_upto_region 6 with fail
  refine regionL (S := fun w' => w'.cell? ⟨gA, 0, none⟩ = some (.int .i64 k) ∧ w'.cell? ⟨gA, 1, none⟩ = some (.int .i64 a) ∧ w'.cell? ⟨gA, 2, none⟩ = some (.int .i64 b) ∧ w'.cell? ⟨gB, 0, none⟩ = some (.slice (some ⟨gr, 0, none⟩) n rc) ∧ w'.cell? ⟨gB, 1, none⟩ = some (.slice (some ⟨gt, 0, none⟩) n tc) ∧ w'.cell? ⟨gr, i, none⟩ = some (.pointer (some ⟨gi, 0, none⟩)) ∧ w'.cell? ⟨gt, i, none⟩ = some (.string Si)) (fun _ => false) (by kernel_rfl) ?_
  generalize X1.drew = y0 at *
  refine anyL_take (i := 0) (v := ?vdr64) rfl (by kernel_rfl) (by kernel_rfl) (by kernel_rfl) (by kernel_rfl) (fun _ _ _ h => h) (Or.inl ⟨by rfl, ?hdr64⟩) (unhide HSW _ D0) ?_
  case hdr64 => (intro w hSw; (try dsimp only at hSw); go_simp) <;> with_reducible rfl
  simp only [Act.put, List.getElem_toArray, List.getElem_cons_zero, List.setIfInBounds_toArray, List.set_cons_zero, List.set_cons_succ]
  refine anyL_take (i := 1) (v := ?vdr65) rfl (by kernel_rfl) (by kernel_rfl) (by kernel_rfl) (by kernel_rfl) (fun _ _ _ h => h) (Or.inl ⟨by rfl, ?hdr65⟩) (unhide HSW _ D0) ?_
  case hdr65 => (intro w hSw; (try dsimp only at hSw); go_simp) <;> with_reducible rfl
  simp only [Act.put, List.getElem_toArray, List.getElem_cons_zero, List.getElem_cons_succ, List.setIfInBounds_toArray, List.set_cons_zero, List.set_cons_succ]
  refine anyL_take (i := 2) (v := ?vdr66) rfl (by kernel_rfl) (by kernel_rfl) (by kernel_rfl) (by kernel_rfl) (fun _ _ _ h => h) (Or.inl ⟨by rfl, ?hdr66⟩) (unhide HSW _ D0) ?_
  case hdr66 => (intro w hSw; (try dsimp only at hSw); go_simp) <;> with_reducible rfl
  simp only [Act.put, List.getElem_toArray, List.getElem_cons_zero, List.getElem_cons_succ, List.setIfInBounds_toArray, List.set_cons_zero, List.set_cons_succ]
  refine anyL_take (i := 3) (v := ?vdr67) rfl (by kernel_rfl) (by kernel_rfl) (by kernel_rfl) (by kernel_rfl) (fun _ _ _ h => h) (Or.inl ⟨by rfl, ?hdr67⟩) (unhide HSW _ D0) ?_
  case hdr67 => (intro w hSw; (try dsimp only at hSw); go_simp) <;> with_reducible rfl
  simp only [Act.put, List.getElem_toArray, List.getElem_cons_zero, List.getElem_cons_succ, List.setIfInBounds_toArray, List.set_cons_zero, List.set_cons_succ]
  refine anyL_take (i := 4) (v := ?vdr68) rfl (by kernel_rfl) (by kernel_rfl) (by kernel_rfl) (by kernel_rfl) (fun _ _ _ h => h) (Or.inl ⟨by rfl, ?hdr68⟩) (unhide HSW _ D0) ?_
  case hdr68 => (intro w hSw; (try dsimp only at hSw); go_simp) <;> with_reducible rfl
  simp only [Act.put, List.getElem_toArray, List.getElem_cons_zero, List.getElem_cons_succ, List.setIfInBounds_toArray, List.set_cons_zero, List.set_cons_succ]
  refine anyL_take (i := 5) (v := ?vdr69) rfl (by kernel_rfl) (by kernel_rfl) (by kernel_rfl) (by kernel_rfl) (fun _ _ _ h => h) (Or.inl ⟨by rfl, ?hdr69⟩) (unhide HSW _ D0) ?_
  case hdr69 => (intro w hSw; (try dsimp only at hSw); go_simp) <;> with_reducible rfl
  simp only [Act.put, List.getElem_toArray, List.getElem_cons_zero, List.getElem_cons_succ, List.setIfInBounds_toArray, List.set_cons_zero, List.set_cons_succ]
  refine anyL_take (i := 6) (v := ?vdr70) rfl (by kernel_rfl) (by kernel_rfl) (by kernel_rfl) (by kernel_rfl) (fun _ _ _ h => h) (Or.inl ⟨by rfl, ?hdr70⟩) (unhide HSW _ D0) ?_
  case hdr70 => (intro w hSw; (try dsimp only at hSw); go_simp) <;> with_reducible rfl
  simp only [Act.put, List.getElem_toArray, List.getElem_cons_zero, List.getElem_cons_succ, List.setIfInBounds_toArray, List.set_cons_zero, List.set_cons_succ]
  refine anyL_take (i := 8) (v := ?vdr71) rfl (by kernel_rfl) (by kernel_rfl) (by kernel_rfl) (by kernel_rfl) (fun _ _ _ h => h) (Or.inl ⟨by rfl, ?hdr71⟩) (unhide HSW _ D0) ?_
  case hdr71 => (intro w hSw; (try dsimp only at hSw); go_simp) <;> with_reducible rfl
  simp only [Act.put, List.getElem_toArray, List.getElem_cons_zero, List.getElem_cons_succ, List.setIfInBounds_toArray, List.set_cons_zero, List.set_cons_succ]
  refine anyL_take (i := 9) (v := ?vdr72) rfl (by kernel_rfl) (by kernel_rfl) (by kernel_rfl) (by kernel_rfl) (fun _ _ _ h => h) (Or.inl ⟨by rfl, ?hdr72⟩) (unhide HSW _ D0) ?_
  case hdr72 => (intro w hSw; (try dsimp only at hSw); go_simp) <;> with_reducible rfl
  simp only [Act.put, List.getElem_toArray, List.getElem_cons_zero, List.getElem_cons_succ, List.setIfInBounds_toArray, List.set_cons_zero, List.set_cons_succ]
  refine anyL_take (i := 10) (v := ?vdr73) rfl (by kernel_rfl) (by kernel_rfl) (by kernel_rfl) (by kernel_rfl) (fun _ _ _ h => h) (Or.inl ⟨by rfl, ?hdr73⟩) (unhide HSW _ D0) ?_
  case hdr73 => (intro w hSw; (try dsimp only at hSw); go_simp) <;> with_reducible rfl
  simp only [Act.put, List.getElem_toArray, List.getElem_cons_zero, List.getElem_cons_succ, List.setIfInBounds_toArray, List.set_cons_zero, List.set_cons_succ]
  refine anyL_take (i := 11) (v := ?vdr74) rfl (by kernel_rfl) (by kernel_rfl) (by kernel_rfl) (by kernel_rfl) (fun _ _ _ h => h) (Or.inl ⟨by rfl, ?hdr74⟩) (unhide HSW _ D0) ?_
  case hdr74 => (intro w hSw; (try dsimp only at hSw); go_simp) <;> with_reducible rfl
  simp only [Act.put, List.getElem_toArray, List.getElem_cons_zero, List.getElem_cons_succ, List.setIfInBounds_toArray, List.set_cons_zero, List.set_cons_succ]
  refine anyL_take (i := 12) (v := ?vdr75) rfl (by kernel_rfl) (by kernel_rfl) (by kernel_rfl) (by kernel_rfl) (fun _ _ _ h => h) (Or.inl ⟨by rfl, ?hdr75⟩) (unhide HSW _ D0) ?_
  case hdr75 => (intro w hSw; (try dsimp only at hSw); go_simp) <;> with_reducible rfl
  simp only [Act.put, List.getElem_toArray, List.getElem_cons_zero, List.getElem_cons_succ, List.setIfInBounds_toArray, List.set_cons_zero, List.set_cons_succ]
  refine anyL_take (i := 13) (v := ?vdr76) rfl (by kernel_rfl) (by kernel_rfl) (by kernel_rfl) (by kernel_rfl) (fun _ _ _ h => h) (Or.inl ⟨by rfl, ?hdr76⟩) (unhide HSW _ D0) ?_
  case hdr76 => (intro w hSw; (try dsimp only at hSw); go_simp) <;> with_reducible rfl
  simp only [Act.put, List.getElem_toArray, List.getElem_cons_zero, List.getElem_cons_succ, List.setIfInBounds_toArray, List.set_cons_zero, List.set_cons_succ]
  refine anyL_take (i := 14) (v := ?vdr77) rfl (by kernel_rfl) (by kernel_rfl) (by kernel_rfl) (by kernel_rfl) (fun _ _ _ h => h) (Or.inl ⟨by rfl, ?hdr77⟩) (unhide HSW _ D0) ?_
  case hdr77 => (intro w hSw; (try dsimp only at hSw); go_simp) <;> with_reducible rfl
  simp only [Act.put, List.getElem_toArray, List.getElem_cons_zero, List.getElem_cons_succ, List.setIfInBounds_toArray, List.set_cons_zero, List.set_cons_succ]
  refine anyL_ready (rs := [7]) (by kernel_rfl) (by simp) ?_
  refine AllL.cons rfl (fun K hK => ?_) AllL.nil
  go_simp
  refine (unhide HWi _).mono ?_
  rintro e y1 ⟨rfl, rfl⟩
  refine unhide hK _ _ (fun _ => unhide HSW _ D0) ?_
  clear hK K
  refine anyL_ready (rs := [15]) (by kernel_rfl) (by simp) ?_
  refine AllL.cons rfl (fun K hK => ?_) AllL.nil
  go_simp
  refine (unhide HWj _).mono ?_
  rintro e y2 ⟨rfl, rfl⟩
  refine unhide hK _ _ (fun _ => unhide HSW _ D0) ?_
  clear hK K
  refine anyL_take (i := 16) (v := ?vdr78) rfl (by kernel_rfl) (by kernel_rfl) (by kernel_rfl) (by kernel_rfl) (fun _ _ _ h => h) (Or.inl ⟨by rfl, ?hdr78⟩) (unhide HSW _ D0) ?_
  case hdr78 => (intro w hSw; (try dsimp only at hSw); go_simp) <;> with_reducible rfl
  simp only [Act.put, List.getElem_toArray, List.getElem_cons_zero, List.getElem_cons_succ, List.setIfInBounds_toArray, List.set_cons_zero, List.set_cons_succ]
  refine anyL_take (i := 17) (v := ?vdr79) rfl (by kernel_rfl) (by kernel_rfl) (by kernel_rfl) (by kernel_rfl) (fun _ _ _ h => h) (Or.inl ⟨by rfl, ?hdr79⟩) (unhide HSW _ D0) ?_
  case hdr79 => (intro w hSw; (try dsimp only at hSw); go_simp) <;> with_reducible rfl
  simp only [Act.put, List.getElem_toArray, List.getElem_cons_zero, List.getElem_cons_succ, List.setIfInBounds_toArray, List.set_cons_zero, List.set_cons_succ]
  refine anyL_done (by kernel_rfl) ?_ _
  go_upto_region 7 with fail
  refine regionL (S := fun w' => w'.cell? ⟨gA, 0, none⟩ = some (.int .i64 k) ∧ w'.cell? ⟨gA, 1, none⟩ = some (.int .i64 a) ∧ w'.cell? ⟨gA, 2, none⟩ = some (.int .i64 b) ∧ w'.cell? ⟨gB, 0, none⟩ = some (.slice (some ⟨gr, 0, none⟩) n rc) ∧ w'.cell? ⟨gB, 1, none⟩ = some (.slice (some ⟨gt, 0, none⟩) n tc) ∧ w'.cell? ⟨gr, i, none⟩ = some (.pointer (some ⟨gi, 0, none⟩)) ∧ w'.cell? ⟨gt, i, none⟩ = some (.string Si)) (fun _ => false) (by kernel_rfl) ?_
  have D1 : Below X1.heap.size X1 y2.drew := D0.drew
  generalize y2.drew = y3 at *
  refine anyL_take (i := 0) (v := ?ver80) rfl (by kernel_rfl) (by kernel_rfl) (by kernel_rfl) (by kernel_rfl) (fun _ _ _ h => h) (Or.inl ⟨by rfl, ?her80⟩) (unhide HSW _ D1) ?_
  case her80 => (intro w hSw; (try dsimp only at hSw); go_simp) <;> with_reducible rfl
  simp only [Act.put, List.getElem_toArray, List.getElem_cons_zero, List.setIfInBounds_toArray, List.set_cons_zero, List.set_cons_succ]
  refine anyL_take (i := 1) (v := ?ver81) rfl (by kernel_rfl) (by kernel_rfl) (by kernel_rfl) (by kernel_rfl) (fun _ _ _ h => h) (Or.inl ⟨by rfl, ?her81⟩) (unhide HSW _ D1) ?_
  case her81 => (intro w hSw; (try dsimp only at hSw); go_simp) <;> with_reducible rfl
  simp only [Act.put, List.getElem_toArray, List.getElem_cons_zero, List.getElem_cons_succ, List.setIfInBounds_toArray, List.set_cons_zero, List.set_cons_succ]
  refine anyL_take (i := 2) (v := ?ver82) rfl (by kernel_rfl) (by kernel_rfl) (by kernel_rfl) (by kernel_rfl) (fun _ _ _ h => h) (Or.inl ⟨by rfl, ?her82⟩) (unhide HSW _ D1) ?_
  case her82 => (intro w hSw; (try dsimp only at hSw); go_simp) <;> with_reducible rfl
  simp only [Act.put, List.getElem_toArray, List.getElem_cons_zero, List.getElem_cons_succ, List.setIfInBounds_toArray, List.set_cons_zero, List.set_cons_succ]
  refine anyL_take (i := 3) (v := ?ver83) rfl (by kernel_rfl) (by kernel_rfl) (by kernel_rfl) (by kernel_rfl) (fun _ _ _ h => h) (Or.inl ⟨by rfl, ?her83⟩) (unhide HSW _ D1) ?_
  case her83 => (intro w hSw; (try dsimp only at hSw); go_simp) <;> with_reducible rfl
  simp only [Act.put, List.getElem_toArray, List.getElem_cons_zero, List.getElem_cons_succ, List.setIfInBounds_toArray, List.set_cons_zero, List.set_cons_succ]
  refine anyL_take (i := 4) (v := ?ver84) rfl (by kernel_rfl) (by kernel_rfl) (by kernel_rfl) (by kernel_rfl) (fun _ _ _ h => h) (Or.inl ⟨by rfl, ?her84⟩) (unhide HSW _ D1) ?_
  case her84 => (intro w hSw; (try dsimp only at hSw); go_simp) <;> with_reducible rfl
  simp only [Act.put, List.getElem_toArray, List.getElem_cons_zero, List.getElem_cons_succ, List.setIfInBounds_toArray, List.set_cons_zero, List.set_cons_succ]
  refine anyL_take (i := 5) (v := ?ver85) rfl (by kernel_rfl) (by kernel_rfl) (by kernel_rfl) (by kernel_rfl) (fun _ _ _ h => h) (Or.inl ⟨by rfl, ?her85⟩) (unhide HSW _ D1) ?_
  case her85 => (intro w hSw; (try dsimp only at hSw); go_simp) <;> with_reducible rfl
  simp only [Act.put, List.getElem_toArray, List.getElem_cons_zero, List.getElem_cons_succ, List.setIfInBounds_toArray, List.set_cons_zero, List.set_cons_succ]
  refine anyL_take (i := 6) (v := ?ver86) rfl (by kernel_rfl) (by kernel_rfl) (by kernel_rfl) (by kernel_rfl) (fun _ _ _ h => h) (Or.inl ⟨by rfl, ?her86⟩) (unhide HSW _ D1) ?_
  case her86 => (intro w hSw; (try dsimp only at hSw); go_simp) <;> with_reducible rfl
  simp only [Act.put, List.getElem_toArray, List.getElem_cons_zero, List.getElem_cons_succ, List.setIfInBounds_toArray, List.set_cons_zero, List.set_cons_succ]
  refine anyL_take (i := 7) (v := ?ver87) rfl (by kernel_rfl) (by kernel_rfl) (by kernel_rfl) (by kernel_rfl) (fun _ _ _ h => h) (Or.inl ⟨by rfl, ?her87⟩) (unhide HSW _ D1) ?_
  case her87 => (intro w hSw; (try dsimp only at hSw); go_simp) <;> with_reducible rfl
  simp only [Act.put, List.getElem_toArray, List.getElem_cons_zero, List.getElem_cons_succ, List.setIfInBounds_toArray, List.set_cons_zero, List.set_cons_succ]
  refine anyL_take (i := 8) (v := ?ver88) rfl (by kernel_rfl) (by kernel_rfl) (by kernel_rfl) (by kernel_rfl) (fun _ _ _ h => h) (Or.inl ⟨by rfl, ?her88⟩) (unhide HSW _ D1) ?_
  case her88 => (intro w hSw; (try dsimp only at hSw); go_simp) <;> with_reducible rfl
  simp only [Act.put, List.getElem_toArray, List.getElem_cons_zero, List.getElem_cons_succ, List.setIfInBounds_toArray, List.set_cons_zero, List.set_cons_succ]
  refine anyL_take (i := 9) (v := ?ver89) rfl (by kernel_rfl) (by kernel_rfl) (by kernel_rfl) (by kernel_rfl) (fun _ _ _ h => h) (Or.inl ⟨by rfl, ?her89⟩) (unhide HSW _ D1) ?_
  case her89 => (intro w hSw; (try dsimp only at hSw); go_simp) <;> with_reducible rfl
  simp only [Act.put, List.getElem_toArray, List.getElem_cons_zero, List.getElem_cons_succ, List.setIfInBounds_toArray, List.set_cons_zero, List.set_cons_succ]
  refine anyL_take (i := 10) (v := ?ver90) rfl (by kernel_rfl) (by kernel_rfl) (by kernel_rfl) (by kernel_rfl) (fun _ _ _ h => h) (Or.inl ⟨by rfl, ?her90⟩) (unhide HSW _ D1) ?_
  case her90 => (intro w hSw; (try dsimp only at hSw); go_simp) <;> with_reducible rfl
  simp only [Act.put, List.getElem_toArray, List.getElem_cons_zero, List.getElem_cons_succ, List.setIfInBounds_toArray, List.set_cons_zero, List.set_cons_succ]
  refine anyL_take (i := 11) (v := ?ver91) rfl (by kernel_rfl) (by kernel_rfl) (by kernel_rfl) (by kernel_rfl) (fun _ _ _ h => h) (Or.inl ⟨by rfl, ?her91⟩) (unhide HSW _ D1) ?_
  case her91 => (intro w hSw; (try dsimp only at hSw); go_simp) <;> with_reducible rfl
  simp only [Act.put, List.getElem_toArray, List.getElem_cons_zero, List.getElem_cons_succ, List.setIfInBounds_toArray, List.set_cons_zero, List.set_cons_succ]
  refine anyL_take (i := 12) (v := ?ver92) rfl (by kernel_rfl) (by kernel_rfl) (by kernel_rfl) (by kernel_rfl) (fun _ _ _ h => h) (Or.inl ⟨by rfl, ?her92⟩) (unhide HSW _ D1) ?_
  case her92 => (intro w hSw; (try dsimp only at hSw); go_simp) <;> with_reducible rfl
  simp only [Act.put, List.getElem_toArray, List.getElem_cons_zero, List.getElem_cons_succ, List.setIfInBounds_toArray, List.set_cons_zero, List.set_cons_succ]
  refine anyL_take (i := 13) (v := ?ver93) rfl (by kernel_rfl) (by kernel_rfl) (by kernel_rfl) (by kernel_rfl) (fun _ _ _ h => h) (Or.inl ⟨by rfl, ?her93⟩) (unhide HSW _ D1) ?_
  case her93 => (intro w hSw; (try dsimp only at hSw); go_simp) <;> with_reducible rfl
  simp only [Act.put, List.getElem_toArray, List.getElem_cons_zero, List.getElem_cons_succ, List.setIfInBounds_toArray, List.set_cons_zero, List.set_cons_succ]
  refine anyL_take (i := 14) (v := ?ver94) rfl (by kernel_rfl) (by kernel_rfl) (by kernel_rfl) (by kernel_rfl) (fun _ _ _ h => h) (Or.inl ⟨by rfl, ?her94⟩) (unhide HSW _ D1) ?_
  case her94 => (intro w hSw; (try dsimp only at hSw); go_simp) <;> with_reducible rfl
  simp only [Act.put, List.getElem_toArray, List.getElem_cons_zero, List.getElem_cons_succ, List.setIfInBounds_toArray, List.set_cons_zero, List.set_cons_succ]
  refine anyL_take (i := 15) (v := ?ver95) rfl (by kernel_rfl) (by kernel_rfl) (by kernel_rfl) (by kernel_rfl) (fun _ _ _ h => h) (Or.inl ⟨by rfl, ?her95⟩) (unhide HSW _ D1) ?_
  case her95 => (intro w hSw; (try dsimp only at hSw); go_simp) <;> with_reducible rfl
  simp only [Act.put, List.getElem_toArray, List.getElem_cons_zero, List.getElem_cons_succ, List.setIfInBounds_toArray, List.set_cons_zero, List.set_cons_succ]
  refine anyL_done (by kernel_rfl) ?_ _
  have D3 : Below X1.heap.size X1 y3.drew := D1.drew
  have HSA := hide fun (Y : World) (hb : Below X1.heap.size X1 Y) => (show (fun w' : World => w'.cell? ⟨gA, 3, none⟩ = some (.int .i64 lo) ∧ w'.cell? ⟨gA, 4, none⟩ = some (.int .i64 hi) ∧ w'.cell? ⟨gA, 5, none⟩ = some (.slice a0 l.length cap)) Y from by
    obtain ⟨_, _, _, h3, h4, h5, _⟩ := cells6 (bk9_on (unhide HG1) hb)
    exact ⟨h3, h4, h5⟩)
  obtain ⟨e0, _⟩ := unhide HSW y3 D1
  obtain ⟨ca, cc, y5, r5, x5, hN5⟩ := copyNew2 y3.drew a0 cap l ((unhide HN).below D3 (Nat.le_refl _))
  have D5 := D3.trans (x5.mono D3.size)
  have hlen := (unhide HN).1.2.1
  obtain ⟨re, Q, HRP, hcase⟩ : ∃ (re : Int) (Q : Option Addr → World → Prop), Hid (Calls Tryz.prog 18 #[.pointer (some ⟨gi, 0, none⟩), .int .i64 lo, .int .i64 hi, .slice ca l.length cc] y5 fun y w' => ∃ p, y = .returned (.tuple #[.pointer p, .int .i64 re]) ∧ Q p w' ∧ Below y5.heap.size y5 w') ∧
      ((re = 0 ∧ (0 ≤ lo ∧ lo ≤ hi ∧ hi ≤ ((txtO oi).length : Int)) ∧ ((txtO oi).length : Int) - (hi - lo) + (l.length : Int) ≤ 268435456 ∧ ∀ p w', Q p w' → ∃ g o, p = some ⟨g, 0, none⟩ ∧ IsRo w' g o ∧ txtO o = (txtO oi).take lo.toNat ++ l ++ (txtO oi).drop hi.toNat ∧ BalO o) ∨
       (re = 5 ∧ (0 ≤ lo ∧ lo ≤ hi ∧ hi ≤ ((txtO oi).length : Int)) ∧ 268435456 < ((txtO oi).length : Int) - (hi - lo) + (l.length : Int) ∧ ∀ p w', Q p w' → p = none) ∨
       (re = 2 ∧ ¬ (0 ≤ lo ∧ lo ≤ hi ∧ hi ≤ ((txtO oi).length : Int)) ∧ ∀ p w', Q p w' → p = none)) := by
    by_cases c : 0 ≤ lo ∧ lo ≤ hi ∧ hi ≤ ((txtO oi).length : Int)
    · obtain ⟨m1, rfl⟩ : ∃ m : Nat, lo = (m : Int) := ⟨lo.toNat, by omega⟩
      obtain ⟨m2, rfl⟩ : ∃ m : Nat, hi = (m : Int) := ⟨hi.toNat, by omega⟩
      by_cases cl : ((txtO oi).length : Int) - ((m2 : Int) - (m1 : Int)) + (l.length : Int) ≤ 268435456
      · refine ⟨0, fun p w' => ∃ g o, p = some ⟨g, 0, none⟩ ∧ IsRo w' g o ∧ txtO o = (txtO oi).take m1 ++ l ++ (txtO oi).drop m2 ∧ BalO o, hide ?_, .inl ⟨rfl, c, cl, fun p w' h => h⟩⟩
        refine (ReplR9_at gi oi m1 m2 ca cc l y5 (hri.1.on D5) (hN5 (by omega)) (by omega) (by omega) (by omega) (by omega) ((unhide HW).below D5)).mono ?_
        rintro y w' ⟨g, o, rfl, h1, h2, h3, h4⟩
        exact ⟨_, rfl, ⟨g, o, rfl, h1, h2, h3 hri.2⟩, h4⟩
      · refine ⟨5, fun p _ => p = none, hide ?_, .inr (.inl ⟨rfl, c, by omega, fun p w' h => h⟩)⟩
        refine (ReplL9_at gi oi m1 m2 ca cc l.length y5 (hri.1.on D5) (by omega) (by omega) (by omega) (by omega) (by omega)).mono ?_
        rintro y w' ⟨rfl, h4⟩
        exact ⟨none, rfl, rfl, h4⟩
    · refine ⟨2, fun p _ => p = none, hide ?_, .inr (.inr ⟨rfl, c, fun p w' h => h⟩)⟩
      have hsp := span9_at gi oi lo hi y5 (hri.1.on D5)
      rw [show spanE (txtO oi).length lo hi = 2 by unfold spanE; rw [if_pos (by omega)]] at hsp
      refine (ReplE9_at _ _ lo hi 2 y5 (by decide) hsp).mono ?_
      rintro y w' ⟨rfl, h4⟩
      exact ⟨none, rfl, rfl, h4⟩
  have R5 := hide r5
  have HTI : Hid (∀ x ∈ txtO oi, 0 ≤ x ∧ x ≤ 255) := hide (by obtain ⟨v, _, hv⟩ := hri.1; exact txt_in hv)
  clear r5 hri p0 p1 ci cti q0 q1 q2 q3 q4 q5 HWi HWj D0 g1
  go_upto_region 19 with fail
  refine regionL (S := fun w' => w'.cell? ⟨gA, 3, none⟩ = some (.int .i64 lo) ∧ w'.cell? ⟨gA, 4, none⟩ = some (.int .i64 hi) ∧ w'.cell? ⟨gA, 5, none⟩ = some (.slice a0 l.length cap)) (fun _ => false) (by kernel_rfl) ?_
  generalize y3.drew = y4 at *
  refine anyL_take (i := 0) (v := ?vrp96) rfl (by kernel_rfl) (by kernel_rfl) (by kernel_rfl) (by kernel_rfl) (fun _ _ _ h => h) (Or.inl ⟨by rfl, ?hrp96⟩) (unhide HSA _ D3) ?_
  case hrp96 => (intro w hSw; (try dsimp only at hSw); go_simp) <;> with_reducible rfl
  simp only [Act.put, List.getElem_toArray, List.getElem_cons_zero, List.setIfInBounds_toArray, List.set_cons_zero, List.set_cons_succ]
  refine anyL_take (i := 1) (v := ?vrp97) rfl (by kernel_rfl) (by kernel_rfl) (by kernel_rfl) (by kernel_rfl) (fun _ _ _ h => h) (Or.inl ⟨by rfl, ?hrp97⟩) (unhide HSA _ D3) ?_
  case hrp97 => (intro w hSw; (try dsimp only at hSw); go_simp) <;> with_reducible rfl
  simp only [Act.put, List.getElem_toArray, List.getElem_cons_zero, List.getElem_cons_succ, List.setIfInBounds_toArray, List.set_cons_zero, List.set_cons_succ]
  refine anyL_take (i := 2) (v := ?vrp98) rfl (by kernel_rfl) (by kernel_rfl) (by kernel_rfl) (by kernel_rfl) (fun _ _ _ h => h) (Or.inl ⟨by rfl, ?hrp98⟩) (unhide HSA _ D3) ?_
  case hrp98 => (intro w hSw; (try dsimp only at hSw); go_simp) <;> with_reducible rfl
  simp only [Act.put, List.getElem_toArray, List.getElem_cons_zero, List.getElem_cons_succ, List.setIfInBounds_toArray, List.set_cons_zero, List.set_cons_succ]
  refine anyL_take (i := 3) (v := ?vrp99) rfl (by kernel_rfl) (by kernel_rfl) (by kernel_rfl) (by kernel_rfl) (fun _ _ _ h => h) (Or.inl ⟨by rfl, ?hrp99⟩) (unhide HSA _ D3) ?_
  case hrp99 => (intro w hSw; (try dsimp only at hSw); go_simp) <;> with_reducible rfl
  simp only [Act.put, List.getElem_toArray, List.getElem_cons_zero, List.getElem_cons_succ, List.setIfInBounds_toArray, List.set_cons_zero, List.set_cons_succ]
  refine anyL_take (i := 4) (v := ?vrp100) rfl (by kernel_rfl) (by kernel_rfl) (by kernel_rfl) (by kernel_rfl) (fun _ _ _ h => h) (Or.inl ⟨by rfl, ?hrp100⟩) (unhide HSA _ D3) ?_
  case hrp100 => (intro w hSw; (try dsimp only at hSw); go_simp) <;> with_reducible rfl
  simp only [Act.put, List.getElem_toArray, List.getElem_cons_zero, List.getElem_cons_succ, List.setIfInBounds_toArray, List.set_cons_zero, List.set_cons_succ]
  refine anyL_take (i := 6) (v := ?vrp101) rfl (by kernel_rfl) (by kernel_rfl) (by kernel_rfl) (by kernel_rfl) (fun _ _ _ h => h) (Or.inl ⟨by rfl, ?hrp101⟩) (unhide HSA _ D3) ?_
  case hrp101 => (intro w hSw; (try dsimp only at hSw); go_simp) <;> with_reducible rfl
  simp only [Act.put, List.getElem_toArray, List.getElem_cons_zero, List.getElem_cons_succ, List.setIfInBounds_toArray, List.set_cons_zero, List.set_cons_succ]
  refine anyL_take (i := 7) (v := ?vrp102) rfl (by kernel_rfl) (by kernel_rfl) (by kernel_rfl) (by kernel_rfl) (fun _ _ _ h => h) (Or.inl ⟨by rfl, ?hrp102⟩) (unhide HSA _ D3) ?_
  case hrp102 => (intro w hSw; (try dsimp only at hSw); go_simp) <;> with_reducible rfl
  simp only [Act.put, List.getElem_toArray, List.getElem_cons_zero, List.getElem_cons_succ, List.setIfInBounds_toArray, List.set_cons_zero, List.set_cons_succ]
  refine anyL_ready (rs := [5]) (by kernel_rfl) (by simp) ?_
  refine AllL.cons rfl (fun K hK => ?_) AllL.nil
  go_simp
  have x4 := (Below.refl y4.heap.size y4).alloc (Nat.le_refl _) (.cells #[] 5)
  have D4 := D3.trans (x4.mono D3.size)
  refine unhide hK _ _ (fun _ => unhide HSA _ D4) ?_
  clear hK K
  refine anyL_ready (rs := [8]) (by kernel_rfl) (by simp) ?_
  refine AllL.cons rfl (fun K hK => ?_) AllL.nil
  refine step_append_in rfl _ _ 45 45 rfl _ _ rfl rfl _ _ (unhide R5) ?_
  simp only [Act.put, List.getElem_toArray, List.getElem_cons_zero, List.getElem_cons_succ, List.setIfInBounds_toArray, List.set_cons_zero, List.set_cons_succ]
  refine unhide hK _ _ (fun _ => unhide HSA _ D5) ?_
  clear hK K R5 D4 x4
  refine anyL_ready (rs := [9]) (by kernel_rfl) (by simp) ?_
  refine AllL.cons rfl (fun K hK => ?_) AllL.nil
  go_simp
  refine (unhide HRP).mono ?_
  rintro e y6 ⟨p, rfl, hq, x6⟩
  have D6 := D5.trans (x6.mono D5.size)
  refine unhide hK _ _ (fun _ => unhide HSA _ D6) ?_
  clear hK K
  refine anyL_take (i := 10) (v := ?vrp103) rfl (by kernel_rfl) (by kernel_rfl) (by kernel_rfl) (by kernel_rfl) (fun _ _ _ h => h) (Or.inl ⟨by rfl, ?hrp103⟩) (unhide HSA _ D6) ?_
  case hrp103 => (intro w hSw; (try dsimp only at hSw); go_simp) <;> with_reducible rfl
  simp only [Act.put, List.getElem_toArray, List.getElem_cons_zero, List.getElem_cons_succ, List.setIfInBounds_toArray, List.set_cons_zero, List.set_cons_succ]
  refine anyL_take (i := 11) (v := ?vrp104) rfl (by kernel_rfl) (by kernel_rfl) (by kernel_rfl) (by kernel_rfl) (fun _ _ _ h => h) (Or.inl ⟨by rfl, ?hrp104⟩) (unhide HSA _ D6) ?_
  case hrp104 => (intro w hSw; (try dsimp only at hSw); go_simp) <;> with_reducible rfl
  simp only [Act.put, List.getElem_toArray, List.getElem_cons_zero, List.getElem_cons_succ, List.setIfInBounds_toArray, List.set_cons_zero, List.set_cons_succ]
  refine anyL_take (i := 12) (v := ?vrp105) rfl (by kernel_rfl) (by kernel_rfl) (by kernel_rfl) (by kernel_rfl) (fun _ _ _ h => h) (Or.inl ⟨by rfl, ?hrp105⟩) (unhide HSA _ D6) ?_
  case hrp105 => (intro w hSw; (try dsimp only at hSw); go_simp) <;> with_reducible rfl
  simp only [Act.put, List.getElem_toArray, List.getElem_cons_zero, List.getElem_cons_succ, List.setIfInBounds_toArray, List.set_cons_zero, List.set_cons_succ]
  refine anyL_take (i := 13) (v := ?vrp106) rfl (by kernel_rfl) (by kernel_rfl) (by kernel_rfl) (by kernel_rfl) (fun _ _ _ h => h) (Or.inl ⟨by rfl, ?hrp106⟩) (unhide HSA _ D6) ?_
  case hrp106 => (intro w hSw; (try dsimp only at hSw); go_simp) <;> with_reducible rfl
  simp only [Act.put, List.getElem_toArray, List.getElem_cons_zero, List.getElem_cons_succ, List.setIfInBounds_toArray, List.set_cons_zero, List.set_cons_succ]
  refine anyL_take (i := 14) (v := ?vrp107) rfl (by kernel_rfl) (by kernel_rfl) (by kernel_rfl) (by kernel_rfl) (fun _ _ _ h => h) (Or.inl ⟨by rfl, ?hrp107⟩) (unhide HSA _ D6) ?_
  case hrp107 => (intro w hSw; (try dsimp only at hSw); go_simp) <;> with_reducible rfl
  simp only [Act.put, List.getElem_toArray, List.getElem_cons_zero, List.getElem_cons_succ, List.setIfInBounds_toArray, List.set_cons_zero, List.set_cons_succ]
  refine anyL_done (by kernel_rfl) ?_ _
  obtain ⟨e3, e4, e5⟩ := unhide HSA y6 D6
  have HD6 := hide D6
  have X6 := x1.trans (D6.mono (by have := x1.size; omega))
  have HX6 := hide X6
  have hxn : gA ≤ y6.heap.size := hgA ▸ X6.size
  clear x5 D5 D3 D1 HRP x6
  rcases hcase with ⟨rfl, c, cl, hQ⟩ | ⟨rfl, c, cl, hQ⟩ | ⟨rfl, c, hQ⟩
  · obtain ⟨g, o, rfl, ro, tx, bo⟩ := hQ p y6 hq
    obtain ⟨m1, rfl⟩ : ∃ m : Nat, lo = (m : Int) := ⟨lo.toNat, by omega⟩
    obtain ⟨m2, rfl⟩ : ∃ m : Nat, hi = (m : Int) := ⟨hi.toNat, by omega⟩
    have tx : txtO o = (txtO oi).take m1 ++ l ++ (txtO oi).drop m2 := tx
    have HSn := hide (Span9_at ((txtO oi).length : Int) (m1 : Int) (m2 : Int) true (decide_eq_true c).symm y6)
    obtain ⟨d, hd⟩ : ∃ d, d = m2 - m1 := ⟨_, rfl⟩
    obtain ⟨f1, hf1⟩ : ∃ f1, f1 = (txtO oi).length - d := ⟨_, rfl⟩
    obtain ⟨f2, hf2⟩ : ∃ f2, f2 = f1 + l.length := ⟨_, rfl⟩
    have i1 : (m2 : Int) - (m1 : Int) = (d : Int) := by omega
    have j1 : IntKind.i64.wrap (d : Int) = (d : Int) := by rw [IntKind.wrap_i64]; omega
    have i2 : ((txtO oi).length : Int) - (d : Int) = (f1 : Int) := by omega
    have j2 : IntKind.i64.wrap (f1 : Int) = (f1 : Int) := by rw [IntKind.wrap_i64]; omega
    have i3 : (f1 : Int) + (l.length : Int) = (f2 : Int) := by omega
    have j3 : IntKind.i64.wrap (f2 : Int) = (f2 : Int) := by rw [IntKind.wrap_i64]; omega
    have t1 : ¬ (268435456 : Int) < (f2 : Int) := by omega
    have hin := unhide HTI
    obtain ⟨c7, y7, r7, k7, x7, _⟩ := toBytes y6 (txtO oi) hin (by omega)
    rw [unhide HST] at r7
    have D7 := (unhide HD6).trans (x7.mono (unhide HD6).size)
    obtain ⟨e3b, e4b, e5b⟩ := unhide HSA y7 D7
    have HRd := hide (Replaced9_at (some ⟨y6.heap.size, 0, none⟩) a0 c7 cap (txtO oi) l m1 m2 y7 k7 ((unhide HN).below D7 (Nat.le_refl _)) (by omega) (by omega) (by omega))
    have HRO := hide (And.intro (ro.on x7) bo)
    have HTX := hide tx
    have HIN := hide (And.intro hin (unhide HN).1.2.2.2)
    have HC := hide c
    have HD := hide (And.intro hd (And.intro hf1 hf2))
    have HX7 := hide (And.intro D7 ((unhide HX6).trans (x7.mono (by omega))))
    clear ro bo tx hq hQ k7 x7 D7 X6 c cl hin hd hf1 hf2 hN5
    go_wp2_with fail
    refine (unhide HSn).mono ?_
    rintro y z6 ⟨rfl, rfl⟩
    dsimp only
    go_wp2_with fail
    refine (unhide HRd).mono ?_
    rintro y y8 ⟨v8, rfl, o8, x8⟩
    dsimp only
    obtain ⟨va, vc, rfl, hb8⟩ := o8.isB (l := (txtO oi).take m1 ++ l ++ (txtO oi).drop m2) (fun x hx => by
      rcases List.mem_append.1 hx with h | h
      · rcases List.mem_append.1 h with h | h
        · exact (unhide HIN).1 x (List.mem_of_mem_take h)
        · exact (unhide HIN).2 x h
      · exact (unhide HIN).1 x (List.mem_of_mem_drop h)) (by rw [List.length_append, List.length_append, List.length_take, List.length_drop]; have := unhide HC; have := unhide HD; omega)
    have hst := str_bs y8 va vc _ hb8.2.2.1
    have D8 := (unhide HX7).1.trans (x8.mono (unhide HX7).1.size)
    have X8 := (unhide HX7).2.trans (x8.mono (by have := (unhide HX7).2.size; omega))
    have hkp := keep9_at B gB g gs os o y8 (unhide HBK y8 D8) ((unhide HRO).1.on x8) (unhide HRO).2 (by rw [hnn]; omega) (by have := X8.size; omega) hgB
    rw [unhide HTX] at hkp
    have HK := hide hkp
    have HX8 := hide X8
    have HLN : Hid (((txtO oi).take m1 ++ l ++ (txtO oi).drop m2).length ≤ 268435456) := hide (by rw [List.length_append, List.length_append, List.length_take, List.length_drop]; have := unhide HC; have := unhide HD; omega)
    have HLO : Hid ((txtO o).length ≤ 268435456) := hide (by rw [unhide HTX]; exact unhide HLN)
    generalize hTT : (txtO oi).take m1 ++ l ++ (txtO oi).drop m2 = TT at *
    clear hTT hkp o8 x8 hb8 D8 X8 HTX HRd
    generalize TT.length = tl at *
    go_wp2_with fail
    refine (unhide HK).mono ?_
    rintro y y9 ⟨rfl, h9, b9, n9⟩
    dsimp only
    have HR : Hid (DoP B gB gs os X y9) := hide ⟨_, _, h9, ((unhide HX8).mono (by omega)).trans b9, (Nt.on (hgA ▸ unhide HX8)).trans n9, .inr (.inl ⟨g, o, rfl, rfl, unhide HLO⟩)⟩
    clear h9 b9 n9 HK
    go_wp2_with fail
    refine bodyPost_ret (results_tmp rfl _ _ _) rfl ⟨rfl, unhide HR⟩
  · obtain rfl := hQ p y6 hq
    have HR : Hid (DoP B gB gs os X y6) := hide ⟨_, _, unhide HBK y6 (unhide HD6), (unhide HX6).mono (by omega), Nt.on (hgA ▸ unhide HX6), .inl ⟨rfl, rfl⟩⟩
    obtain ⟨m1, rfl⟩ : ∃ m : Nat, lo = (m : Int) := ⟨lo.toNat, by omega⟩
    obtain ⟨m2, rfl⟩ : ∃ m : Nat, hi = (m : Int) := ⟨hi.toNat, by omega⟩
    have HSn := hide (Span9_at ((txtO oi).length : Int) (m1 : Int) (m2 : Int) true (decide_eq_true c).symm y6)
    obtain ⟨d, hd⟩ : ∃ d, d = m2 - m1 := ⟨_, rfl⟩
    obtain ⟨f1, hf1⟩ : ∃ f1, f1 = (txtO oi).length - d := ⟨_, rfl⟩
    obtain ⟨f2, hf2⟩ : ∃ f2, f2 = f1 + l.length := ⟨_, rfl⟩
    have i1 : (m2 : Int) - (m1 : Int) = (d : Int) := by omega
    have j1 : IntKind.i64.wrap (d : Int) = (d : Int) := by rw [IntKind.wrap_i64]; omega
    have i2 : ((txtO oi).length : Int) - (d : Int) = (f1 : Int) := by omega
    have j2 : IntKind.i64.wrap (f1 : Int) = (f1 : Int) := by rw [IntKind.wrap_i64]; omega
    have i3 : (f1 : Int) + (l.length : Int) = (f2 : Int) := by omega
    have j3 : IntKind.i64.wrap (f2 : Int) = (f2 : Int) := by rw [IntKind.wrap_i64]; omega
    have t1 : (268435456 : Int) < (f2 : Int) := by omega
    clear hq hQ X6 c cl hd hf1 hf2 hN5
    go_wp2_with fail
    refine (unhide HSn).mono ?_
    rintro y z6 ⟨rfl, rfl⟩
    dsimp only
    go_wp2_with fail
    refine bodyPost_ret (results_tmp rfl _ _ _) rfl ⟨rfl, unhide HR⟩
  · obtain rfl := hQ p y6 hq
    have HR : Hid (DoP B gB gs os X y6) := hide ⟨_, _, unhide HBK y6 (unhide HD6), (unhide HX6).mono (by omega), Nt.on (hgA ▸ unhide HX6), .inl ⟨rfl, rfl⟩⟩
    have HSn := hide (Span9_at ((txtO oi).length : Int) lo hi false (decide_eq_false c).symm y6)
    clear hq hQ X6 c hN5
    go_wp2_with fail
    refine (unhide HSn).mono ?_
    rintro y z6 ⟨rfl, rfl⟩
    dsimp only
    go_wp2_with fail
    refine bodyPost_ret (results_tmp rfl _ _ _) rfl ⟨rfl, unhide HR⟩

end Go.Proofs.YtcodpkmhpplamaaGreatDoor
end

section
namespace Go.Proofs.YtcodpkmhpplamaaGreatDoor
open Go.ChangeShapes Go.WideShapes Go.ChangeAt Go.RowKit
attribute [local go_sem] Oper.semAt_some

theorem do9_at (B gB : Nat) (gs : List Nat) (os : List (Option Nd)) (k a b lo hi : Int) (a0 : Option Addr) (cap : Nat) (l : List Int) (X : World) (h : Bk X B gB gs os) (hs : ∀ i, i < gs.length → (txtO (os.getD i none)).length ≤ 32768) (hN : IsN X a0 cap l) (hW : Wt X) (hl : gs.length ≤ 4398046511100) (hB : B ≤ X.heap.size) (hgB : B ≤ gB) :
    Calls Tryz.prog 23 #[.pointer (some ⟨gB, 0, none⟩), .agg (actC k a b lo hi a0 l.length cap)] X fun y X' => y = .returned (.bool true) ∧ DoP B gB gs os X X' := by
  by_cases h0 : gs.length = 0
  · exact doNew_at B gB gs os k a b lo hi a0 cap l X h (.inl h0) hN hW hl hB hgB
  · by_cases h1 : k = 1
    · subst h1; exact doJoin_at B gB gs os a b lo hi a0 cap l X h hs (by omega) hW hl hB hgB
    · by_cases h2 : k = 2
      · subst h2; exact doSplit_at B gB gs os a b lo hi a0 cap l X h hs (by omega) hW hl hB hgB
      · by_cases h3 : k = 3
        · subst h3; exact doRepl_at B gB gs os a b lo hi a0 cap l X h hs (by omega) hN hW hl hB hgB
        · exact doNew_at B gB gs os k a b lo hi a0 cap l X h (.inr (by omega)) hN hW hl hB hgB
/-- an act -/
structure Ac where
  k : Int
  a : Int
  b : Int
  lo : Int
  hi : Int
  p : Option Addr
  c : Nat
  l : List Int
/-- acts that lie there -/
def IsAc (X : World) (a0 : Option Addr) (cs : List Ac) : Prop := ∀ r x, cs[r]? = some x → ∃ g off, a0 = some ⟨g, off, none⟩ ∧ IsN X x.p x.c x.l ∧
  X.cell? ⟨g, off + r * 6, none⟩ = some (.int .i64 x.k) ∧ X.cell? ⟨g, off + r * 6 + 1, none⟩ = some (.int .i64 x.a) ∧ X.cell? ⟨g, off + r * 6 + 2, none⟩ = some (.int .i64 x.b) ∧ X.cell? ⟨g, off + r * 6 + 3, none⟩ = some (.int .i64 x.lo) ∧ X.cell? ⟨g, off + r * 6 + 4, none⟩ = some (.int .i64 x.hi) ∧ X.cell? ⟨g, off + r * 6 + 5, none⟩ = some (.slice x.p x.l.length x.c)
theorem IsAc.on {X Y : World} {a0 : Option Addr} {cs : List Ac} (h : IsAc X a0 cs) (hb : Below X.heap.size X Y) : IsAc Y a0 cs := fun r x hr => by
  obtain ⟨g, off, e, h1, h2, h3, h4, h5, h6, h7⟩ := h r x hr
  exact ⟨g, off, e, h1.below hb (Nat.le_refl _), (hb.cell (p := ⟨g, _, none⟩) (lt_cell h2)).trans h2, (hb.cell (p := ⟨g, _, none⟩) (lt_cell h3)).trans h3, (hb.cell (p := ⟨g, _, none⟩) (lt_cell h4)).trans h4, (hb.cell (p := ⟨g, _, none⟩) (lt_cell h5)).trans h5, (hb.cell (p := ⟨g, _, none⟩) (lt_cell h6)).trans h6, (hb.cell (p := ⟨g, _, none⟩) (lt_cell h7)).trans h7⟩
theorem Bk.nil (X : World) (B gB : Nat) (h : X.heap[gB]? = some (.cells #[.slice none 0 0, .slice none 0 0] 27 (0, 0))) : Bk X B gB [] [] :=
  ⟨⟨_, _, h, ⟨rfl, Or.inl ⟨rfl, rfl⟩⟩, ⟨rfl, Or.inl ⟨rfl, rfl⟩⟩⟩, rfl, fun _ hi => absurd hi (Nat.not_lt_zero _)⟩
/-- what play's loop keeps -/
structure PlI (w : World) (gB : Nat) (gs : List Nat) (os : List (Option Nd)) (X : World) : Prop where
  k : Bk X gB gB gs os
  s : ∀ i, i < gs.length → (txtO (os.getD i none)).length ≤ 32768
  b : Below gB w X

theorem big_one {N : Nat} {gs : List Nat} {os : List (Option Nd)} {g : Nat} {o : Option Nd} (hn : os.length = gs.length) (h : ∀ j, j < gs.length → (txtO (os.getD j none)).length ≤ N) (ho : (txtO o).length ≤ N) : ∀ j, j < (gs ++ [g]).length → (txtO ((os ++ [o]).getD j none)).length ≤ N := by
  intro j hj
  by_cases hj2 : j < gs.length
  · rw [show (os ++ [o]).getD j none = os.getD j none by simp [List.getD_eq_getElem?_getD, List.getElem?_append_left (show j < os.length by omega)]]
    exact h j hj2
  · obtain rfl : j = os.length := by simp at hj; omega
    rw [show (os ++ [o]).getD os.length none = o by simp [List.getD_eq_getElem?_getD]]
    exact ho

set_option maxRecDepth 100000 in
set_option maxHeartbeats 8000000 in
theorem play9_at (a0 : Option Addr) (cap : Nat) (cs : List Ac) (w : World) (hA : IsAc w a0 cs) (hn : cs.length ≤ 2199023255488) (hW : Wt w) :
    Calls Tryz.prog 6 #[.slice a0 cs.length cap] w fun y w' => ∃ gB gs os vr vt, y = .returned (.tuple #[.agg #[vr, vt], .bool true]) ∧ Bk w' gB gB gs os ∧ w'.heap[gB]? = some (.cells #[vr, vt] 27 (0, 0)) ∧ (∀ i, i < gs.length → (txtO (os.getD i none)).length ≤ 268435456) ∧ gs.length ≤ 2 * cs.length ∧ w.heap.size ≤ gB ∧ Below w.heap.size w w' := by
  have HA := hide fun (X : World) (hx : Below w.heap.size w X) => hA.on hx
  have HW := hide fun (X : World) (hx : Below w.heap.size w X) => hW.below hx
  clear hA hW
  obtain ⟨w1, hw1⟩ : ∃ w1, w1 = w.alloc (.cells #[.slice none 0 0, .slice none 0 0] 27) := ⟨_, rfl⟩
  have x1 : Below w.heap.size w w1 := hw1 ▸ (Below.refl _ w).alloc (Nat.le_refl _) _
  have z1 : w1.heap.size = w.heap.size + 1 := hw1 ▸ World.size_alloc ..
  have k1 : w1.heap[w.heap.size]? = some (.cells #[.slice none 0 0, .slice none 0 0] 27) := hw1 ▸ push_get w _
  have x2 := (Below.refl w1.heap.size w1).alloc (Nat.le_refl _) (.cells #[.slice none 0 0, .slice none 0 0] 27)
  have k2 := push_get w1 (.cells #[.slice none 0 0, .slice none 0 0] 27)
  have i0 : PlI w1 w1.heap.size [] [] (w1.alloc (.cells #[.slice none 0 0, .slice none 0 0] 27)) := ⟨Bk.nil _ _ _ k2, fun _ hi => absurd hi (Nat.not_lt_zero _), x2⟩
  go_enter Tryz.func6, Tryz.ntmps6
  go_wp2_with fail
  rw [← hw1]
  have k2b := bk9_on k1 x2
  generalize hw2 : w1.alloc (.cells #[.slice none 0 0, .slice none 0 0] 27) = w2 at *
  have HK1 := hide k1
  have X1 := hide x1
  clear hw1 hw2 k2 x2 k1 k2b x1
  rw [← z1]
  generalize hgB : w1.heap.size = gB at *
  have HZ := hide z1
  have HGB := hide hgB
  clear z1 hgB
  go_loopw [5] (fun v5 wx => ∃ (i : Nat) (gs : List Nat) (os : List (Option Nd)), v5 = .int .i64 (i : Int) ∧ i ≤ cs.length ∧ gs.length ≤ 2 * i ∧ Hid (PlI w1 gB gs os wx)) (fun v5 _ => cs.length - (intOf v5).toNat)
  case atStart => exact ⟨0, [], [], rfl, Nat.zero_le _, Nat.le_refl _, hide i0⟩
  case round =>
    clear i0
    obtain ⟨i, gs, os, rfl, hi, hgs, HI⟩ := hrel
    have hI := unhide HI
    have B1 : Below w.heap.size w wr := (unhide X1).trans (hI.b.mono (by have := unhide HZ; omega))
    have hlt : gB < wr.heap.size := by obtain ⟨_, _, h, _⟩ := hI.k.c; exact (Array.getElem?_eq_some_iff.1 h).1
    by_cases c : i < cs.length
    · have t1 : (i : Int) < (cs.length : Int) := by omega
      obtain ⟨x, hx⟩ : ∃ x, cs[i]? = some x := ⟨_, List.getElem?_eq_getElem c⟩
      obtain ⟨g, off, rfl, hN, e0, e1, e2, e3, e4, e5⟩ := unhide HA wr B1 i x hx
      have HD := hide (do9_at gB gB gs os x.k x.a x.b x.lo x.hi x.p x.c x.l wr hI.k hI.s hN (unhide HW wr B1) (by omega) (by omega) (Nat.le_refl _))
      unfold actC at HD
      clear hI hN
      go_wp2_with fail
      refine (unhide HD).mono ?_
      rintro y w3 ⟨rfl, gs', os', h3, b3, n3, hc⟩
      dsimp only
      have hn3 := h3.n
      have B3 : Below gB w1 w3 := (unhide HI).b.trans b3
      have hle3 : gs'.length ≤ 2 * (i + 1) := by
        rcases hc with ⟨rfl, _⟩ | ⟨_, _, rfl, _⟩ | ⟨_, _, _, _, rfl, _⟩
        · omega
        · rw [List.length_append]; simp; omega
        · rw [List.length_append, List.length_append]; simp; omega
      have hold := (unhide HI).s
      have hno := (unhide HI).k.n
      have hbig : ∀ j, j < gs'.length → (txtO (os'.getD j none)).length ≤ 268435456 := by
        rcases hc with ⟨rfl, rfl⟩ | ⟨g2, o2, rfl, rfl, h2⟩ | ⟨g2, o2, g4, o4, rfl, rfl, h2, h4⟩
        · exact fun j hj => Nat.le_trans (hold j hj) (by decide)
        · exact fun j hj => big_one hno (fun j hj => Nat.le_trans (hold j hj) (by decide)) h2 j hj
        · exact fun j hj => big_one (by simp [hno]) (fun j hj => big_one hno (fun j hj => Nat.le_trans (hold j hj) (by decide)) (Nat.le_trans h2 (by decide)) j hj) (Nat.le_trans h4 (by decide)) j hj
      have hsm : gs'.length = 0 ∨ (txtO (os'.getD (gs'.length - 1) none)).length ≤ 32768 → ∀ j, j < gs'.length → (txtO (os'.getD j none)).length ≤ 32768 := by
        rcases hc with ⟨rfl, rfl⟩ | ⟨g2, o2, rfl, rfl, h2⟩ | ⟨g2, o2, g4, o4, rfl, rfl, h2, h4⟩
        · exact fun _ j hj => hold j hj
        · intro h j hj
          rcases h with h | h
          · simp at h
          · rw [show (gs ++ [g2]).length - 1 = os.length by simp [hno], show (os ++ [o2]).getD os.length none = o2 by simp [List.getD_eq_getElem?_getD]] at h
            exact big_one hno hold h j hj
        · exact fun _ j hj => big_one (by simp [hno]) (fun j hj => big_one hno hold h2 j hj) h4 j hj
      by_cases h0 : gs'.length = 0
      · obtain ⟨vr, vt, c1, c2, c3⟩ := h3.c
        obtain ⟨ta, tc, rfl⟩ := row_len9 c3
        rw [hn3, h0] at c1
        obtain ⟨p0, p1, _⟩ := cells2 c1
        have HI3 : Hid (PlI w1 gB gs' os' w3) := hide ⟨h3, hsm (.inl h0), B3⟩
        clear c1 c2 c3 h3 hsm hbig b3 n3 hc HD
        go_wp2_with fail
        go_roundw
        case rel => exact ⟨i + 1, gs', os', by go_num, by omega, hle3, HI3⟩
        case measure =>
          show cs.length - ((i : Int) + 1).toNat < cs.length - (i : Int).toNat
          omega
      · obtain ⟨gr, rc3, gt, tc3, p0, p1, pc⟩ := h3.rows (by omega)
        obtain ⟨q, hq⟩ : ∃ q, q = gs'.length - 1 := ⟨_, rfl⟩
        obtain ⟨_, cq⟩ := pc q (by omega)
        have hm1 : (gs'.length : Int) - 1 = (q : Int) := by omega
        have hm2 : IntKind.i64.wrap (q : Int) = (q : Int) := by rw [IntKind.wrap_i64]; omega
        have hm3 : (q : Int) < (gs'.length : Int) := by omega
        have hm4 : (0 : Int) < (gs'.length : Int) := by omega
        have hm5 : q < gs'.length := by omega
        have zq := strOfNums_size (txtO (os'.getD q none))
        rw [← hq] at hsm
        have hoq : (txtO (os'.getD q none)).length ≤ 32768 ∨ 32768 < (txtO (os'.getD q none)).length := by omega
        generalize strOfNums (txtO (os'.getD q none)) = Sq at *
        generalize (txtO (os'.getD q none)).length = lq at *
        have HQ := hide hq
        clear hq pc HD
        rcases hoq with v1 | v1
        · have HI3 : Hid (PlI w1 gB gs' os' w3) := hide ⟨h3, hsm (.inr v1), B3⟩
          have v2 : ¬ (32768 : Int) < (lq : Int) := by omega
          clear h3 hsm hbig b3 n3 hc
          generalize hgl : gs'.length = m at *
          go_wp2_with fail
          go_roundw
          case rel => exact ⟨i + 1, gs', os', by go_num, by omega, by omega, HI3⟩
          case measure =>
            show cs.length - ((i : Int) + 1).toNat < cs.length - (i : Int).toNat
            omega
        · have v2 : (32768 : Int) < (lq : Int) := by omega
          clear hsm b3 n3 hc
          obtain ⟨vr, vt, c1, c2, c3⟩ := h3.c
          have kR : w3.heap[w.heap.size]? = some (.cells #[.slice none 0 0, .slice none 0 0] 27 (0, 0)) := (B3.block w.heap.size (by have := unhide HZ; omega)).trans (unhide HK1)
          have hne : w.heap.size ≠ gB := by have := unhide HZ; omega
          obtain ⟨p0', p1', _⟩ := cells2 c1
          obtain rfl : vr = .slice (some ⟨gr, 0, none⟩) gs'.length rc3 := Option.some.inj (p0'.symm.trans p0)
          obtain rfl : vt = .slice (some ⟨gt, 0, none⟩) gs'.length tc3 := Option.some.inj (p1'.symm.trans p1)
          clear p0' p1'
          obtain ⟨q0, q1, qf⟩ := cells2 kR
          have f0 := qf 0
          have kS := (set2 kR (.slice (some ⟨gr, 0, none⟩) gs'.length rc3)).1
          obtain ⟨q0b, q1b, qfb⟩ := cells2 kS
          have f1 := qfb 1
          have kT := (set2 kS (.slice (some ⟨gt, 0, none⟩) gs'.length tc3)).2
          obtain ⟨u0, u1, _⟩ := cells2 kT
          have HE : Hid (Bk ((w3.setCell ⟨w.heap.size, 0, none⟩ (.slice (some ⟨gr, 0, none⟩) gs'.length rc3)).setCell ⟨w.heap.size, 1, none⟩ (.slice (some ⟨gt, 0, none⟩) gs'.length tc3)) gB gB gs' os' ∧ ((w3.setCell ⟨w.heap.size, 0, none⟩ (.slice (some ⟨gr, 0, none⟩) gs'.length rc3)).setCell ⟨w.heap.size, 1, none⟩ (.slice (some ⟨gt, 0, none⟩) gs'.length tc3)).heap[gB]? = some (.cells #[.slice (some ⟨gr, 0, none⟩) gs'.length rc3, .slice (some ⟨gt, 0, none⟩) gs'.length tc3] 27 (0, 0))) := hide (by
            have hoth : ∀ j, j ≠ w.heap.size → ((w3.setCell ⟨w.heap.size, 0, none⟩ (.slice (some ⟨gr, 0, none⟩) gs'.length rc3)).setCell ⟨w.heap.size, 1, none⟩ (.slice (some ⟨gt, 0, none⟩) gs'.length tc3)).heap[j]? = w3.heap[j]? := fun j hj => by
              rw [Below.heap_setCell _ ⟨w.heap.size, 1, none⟩ _ j hj, Below.heap_setCell _ ⟨w.heap.size, 0, none⟩ _ j hj]
            have hnt := (Nt.set kR bk_ne 0 (.slice (some ⟨gr, 0, none⟩) gs'.length rc3)).trans (Nt.set kS bk_ne 1 (.slice (some ⟨gt, 0, none⟩) gs'.length tc3))
            refine ⟨⟨⟨_, _, (hoth gB (Ne.symm hne)).trans c1, row_onB c2 fun G hG => hoth G ?_, row_onB c3 fun G hG => hoth G ?_⟩, h3.n, fun j hj => ⟨(h3.r j hj).1.nt hnt, (h3.r j hj).2⟩⟩, (hoth gB (Ne.symm hne)).trans c1⟩
            · have := (row_block c2 hG).1; have := unhide HZ; omega
            · have := (row_block c3 hG).1; have := unhide HZ; omega)
          have HBE : Hid (Below w.heap.size w ((w3.setCell ⟨w.heap.size, 0, none⟩ (.slice (some ⟨gr, 0, none⟩) gs'.length rc3)).setCell ⟨w.heap.size, 1, none⟩ (.slice (some ⟨gt, 0, none⟩) gs'.length tc3))) := hide ((((unhide X1).trans (B3.mono (by have := unhide HZ; omega))).setCell (p := ⟨w.heap.size, 0, none⟩) (Nat.le_refl _) _).setCell (p := ⟨w.heap.size, 1, none⟩) (Nat.le_refl _) _)
          have HBG := hide hbig
          go_wp2_with fail
          refine bodyPost_ret (v := .tuple #[.agg #[.slice (some ⟨gr, 0, none⟩) gs'.length rc3, .slice (some ⟨gt, 0, none⟩) gs'.length tc3], .bool true]) (by simp [results, Tryz.results6, go_sem, u0, u1]) rfl ⟨gB, gs', os', _, _, rfl, (unhide HE).1, (unhide HE).2, unhide HBG, by omega, by have := unhide HZ; omega, unhide HBE⟩
    · have t1 : ¬ (i : Int) < (cs.length : Int) := by omega
      obtain ⟨vr, vt, c1, c2, c3⟩ := (unhide HI).k.c
      have kR : wr.heap[w.heap.size]? = some (.cells #[.slice none 0 0, .slice none 0 0] 27 (0, 0)) := ((unhide HI).b.block w.heap.size (by have := unhide HZ; omega)).trans (unhide HK1)
      have hne : w.heap.size ≠ gB := by have := unhide HZ; omega
      obtain ⟨ra, rl, rc, rfl⟩ : ∃ a k c, vr = .slice a k c := by obtain ⟨a, c, h⟩ := row_len9 c2; exact ⟨a, _, c, h⟩
      obtain ⟨ta, tl, tc, rfl⟩ : ∃ a k c, vt = .slice a k c := by obtain ⟨a, c, h⟩ := row_len9 c3; exact ⟨a, _, c, h⟩
      obtain ⟨p0, p1, _⟩ := cells2 c1
      obtain ⟨q0, q1, qf⟩ := cells2 kR
      have f0 := qf 0
      have kS := (set2 kR (.slice ra rl rc)).1
      obtain ⟨q0b, q1b, qfb⟩ := cells2 kS
      have f1 := qfb 1
      have kT := (set2 kS (.slice ta tl tc)).2
      obtain ⟨u0, u1, _⟩ := cells2 kT
      have HE : Hid (Bk ((wr.setCell ⟨w.heap.size, 0, none⟩ (.slice ra rl rc)).setCell ⟨w.heap.size, 1, none⟩ (.slice ta tl tc)) gB gB gs os ∧ ((wr.setCell ⟨w.heap.size, 0, none⟩ (.slice ra rl rc)).setCell ⟨w.heap.size, 1, none⟩ (.slice ta tl tc)).heap[gB]? = some (.cells #[.slice ra rl rc, .slice ta tl tc] 27 (0, 0))) := hide (by
        have hoth : ∀ j, j ≠ w.heap.size → ((wr.setCell ⟨w.heap.size, 0, none⟩ (.slice ra rl rc)).setCell ⟨w.heap.size, 1, none⟩ (.slice ta tl tc)).heap[j]? = wr.heap[j]? := fun j hj => by
          rw [Below.heap_setCell _ ⟨w.heap.size, 1, none⟩ _ j hj, Below.heap_setCell _ ⟨w.heap.size, 0, none⟩ _ j hj]
        have hnt := (Nt.set kR bk_ne 0 (.slice ra rl rc)).trans (Nt.set kS bk_ne 1 (.slice ta tl tc))
        refine ⟨⟨⟨_, _, (hoth gB (Ne.symm hne)).trans c1, row_onB c2 fun G hG => hoth G ?_, row_onB c3 fun G hG => hoth G ?_⟩, (unhide HI).k.n, fun j hj => ⟨((unhide HI).k.r j hj).1.nt hnt, ((unhide HI).k.r j hj).2⟩⟩, (hoth gB (Ne.symm hne)).trans c1⟩
        · have := (row_block c2 hG).1; have := unhide HZ; omega
        · have := (row_block c3 hG).1; have := unhide HZ; omega)
      have HBE : Hid (Below w.heap.size w ((wr.setCell ⟨w.heap.size, 0, none⟩ (.slice ra rl rc)).setCell ⟨w.heap.size, 1, none⟩ (.slice ta tl tc))) := hide ((((unhide X1).trans ((unhide HI).b.mono (by have := unhide HZ; omega))).setCell (p := ⟨w.heap.size, 0, none⟩) (Nat.le_refl _) _).setCell (p := ⟨w.heap.size, 1, none⟩) (Nat.le_refl _) _)
      have HBG := hide (fun (j : Nat) (hj : j < gs.length) => Nat.le_trans ((unhide HI).s j hj) (by decide : 32768 ≤ 268435456))
      go_wp2_with fail
      refine bodyPost_ret (v := .tuple #[.agg #[.slice ra rl rc, .slice ta tl tc], .bool true]) (by simp [results, Tryz.results6, go_sem, u0, u1]) rfl ⟨gB, gs, os, _, _, rfl, (unhide HE).1, (unhide HE).2, unhide HBG, by omega, by have := unhide HZ; omega, unhide HBE⟩

end Go.Proofs.YtcodpkmhpplamaaGreatDoor
end

section
namespace Go.Proofs.YtcodpkmhpplamaaGreatDoor
open Go.ChangeShapes Go.WideShapes Go.ChangeAt Go.RowKit

theorem Bk.copy {X : World} {B gB : Nat} {gs : List Nat} {os : List (Option Nd)} {vr vt : Value} (h : Bk X B gB gs os) (hc : X.heap[gB]? = some (.cells #[vr, vt] 27 (0, 0))) : Bk (X.alloc (.cells #[vr, vt] 27)) B X.heap.size gs os := by
  have hb := (Below.refl X.heap.size X).alloc (Nat.le_refl _) (.cells #[vr, vt] 27)
  have h1 := h.on hb
  obtain ⟨vr', vt', c1, c2, c3⟩ := h1.c
  have e := (bk9_on hc hb).symm.trans c1
  cases e
  exact ⟨⟨vr, vt, push_get X _, c2, c3⟩, h1.n, h1.r⟩

end Go.Proofs.YtcodpkmhpplamaaGreatDoor
end
