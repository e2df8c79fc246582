/- Layer 3, runes and halves: the plain functions, and contracts of units' Len, Split, Join, isHigh, isLow, isByteUnit, byteOf and of the document's Len, High, Low, Split, Join, Byte: each leaves the world as it was. · append([]byte{}, b...) of a []byte that came in: a []byte of the same bytes, in memory that was not there before. · Contracts of step.isPlace, At, Before, Edge, Floor, Ceil: each of any bytes at any place. -/
import Derived.Test.YtkdnanlgkedjgabDoorDn07
import Derived.Test.YtkdnanlgkedjgabDoorDn03
import Derived.Deep.AppendSrc

section
namespace Go.Proofs.YtkdnanlgkedjgabDoor
open Go.ChangeShapes Go.WideShapes Go.ChangeAt Go.RowKit

def ulen (r : Int) : Int := if isRune r then (if r < 65536 then 1 else 2) else 0
def isHi (x : Int) : Bool := decide (55296 ≤ x ∧ x < 56320)
def isLo (x : Int) : Bool := decide (56320 ≤ x ∧ x ≤ 57343)
def isBu (x : Int) : Bool := decide (56448 ≤ x ∧ x ≤ 56575)
def two (r : Int) : Bool := decide (65536 ≤ r ∧ r ≤ 1114111)
def hiU (r : Int) : Int := 55296 + (r - 65536) / 1024
def loU (r : Int) : Int := 56320 + (r - 65536) % 1024
def joinR (a b : Int) : Int := 65536 + (a - 55296) * 1024 + (b - 56320)
def splitV (r : Int) : Value := if two r then .tuple #[.int .u16 (hiU r), .int .u16 (loU r), .bool true] else .tuple #[.int .u16 0, .int .u16 0, .bool false]
def joinV (a b : Int) : Value := if isHi a && isLo b then .tuple #[.int .i32 (joinR a b), .bool true] else .tuple #[.int .i32 0, .bool false]
theorem i32_and1023 {x : Int} (h₀ : 0 ≤ x) (h₁ : x < 2147483648) : bits .and .i32 x 1023 = x % 1024 := bits_mask .i32 31 (by decide) wraps_i32 10 (by decide) x h₀ h₁
theorem ret_tuple {a b : Array Value} (h : a = b) : Ending.returned (.tuple a) = .returned (.tuple b) := by rw [h]
theorem ulen_two (r : Int) : (ulen r = 2) = (two r = true) := by
  apply propext
  constructor
  · intro h
    unfold ulen at h
    split at h
    · rename_i h1
      have h2 := of_decide_eq_true h1
      refine decide_eq_true ?_
      split at h <;> omega
    · omega
  · intro h
    have h2 := of_decide_eq_true h
    rw [ulen, if_pos (isRune_true (by omega)), if_neg (by omega)]

end Go.Proofs.YtkdnanlgkedjgabDoor
end

section
namespace Go.Proofs.YtkdnanlgkedjgabDoor
open Go.ChangeShapes Go.WideShapes Go.ChangeAt Go.RowKit

theorem IsB.below {w w' : World} {B : Nat} {a0 : Option Addr} {cap : Nat} {l : List Int} (h : IsB w a0 cap l) (hb : Below B w w') (hB : w.heap.size ≤ B) : IsB w' a0 cap l := by
  obtain ⟨h1, h2, h3, h4⟩ := h
  refine ⟨h1, h2, ?_, h4⟩
  rcases h3 with h3 | ⟨g, off, rfl, hL⟩
  · exact Or.inl h3
  · cases l with
    | nil => exact Or.inl rfl
    | cons a r =>
      have hlt : g < w.heap.size := by
        have := hL.head.1
        rcases Nat.lt_or_ge g w.heap.size with h | h
        · exact h
        · simp [World.cell?, Array.getElem?_eq_none h] at this
      exact Or.inr ⟨g, off, rfl, hL.below hb (by omega)⟩

set_option maxRecDepth 100000 in
theorem info_u8 : ∃ i, Tryd.prog.info? 5 = some i ∧ i.zero = some (.int .u8 0) ∧ i.size = 1 ∧ i.bytes = 1 := by
  refine ⟨_, rfl, ?_, ?_, ?_⟩ <;> rfl

theorem src_none (W : World) (a0 : Option Addr) (cap : Nat) : Src Tryd.prog 1 22 (.slice a0 0 cap) 0 [] W := by
  cases a0 with
  | none => exact Src.ofNil W Tryd.underlying22 cap
  | some a => exact Src.ofSlice W Tryd.underlying22 a 0 cap [] rfl (fun j u h => by simp at h) (fun u h => by cases h)
theorem src_some (W : World) (g off cap : Nat) (l : List Int) (hL : Lies W g off l) : Src Tryd.prog 1 22 (.slice (some ⟨g, off, none⟩) l.length cap) l.length (l.map (Value.int .u8)) W := by
  refine Src.ofSlice W Tryd.underlying22 ⟨g, off, none⟩ l.length cap (l.map (Value.int .u8)) (by simp) (fun j u h => ?_) (fun u h => ?_)
  · have hj : j < l.length := by
      rcases Nat.lt_or_ge j l.length with h' | h'
      · exact h'
      · rw [List.getElem?_eq_none (by simpa using h')] at h; cases h
    rw [Addr.add_lit, (hL j hj).1]
    simp [List.getElem?_eq_getElem hj] at h
    simp [List.getD, List.getElem?_eq_getElem hj, h]
  · obtain ⟨x, _, rfl⟩ := List.mem_map.1 h
    rfl

theorem run_copy (w : World) (a0 : Option Addr) (cap : Nat) (l : List Int) (ty : TypeId) (hB : IsB w a0 cap l) :
    ∃ a' cap' w', (Builtin.append_ #[22, 22] ty #[.slice (some ⟨w.heap.size, 0, none⟩) 0 0, .slice a0 l.length cap]).run Tryd.prog (w.alloc (.cells #[] 5)) = .ok (.slice a' l.length cap') w' ∧
      l.length ≤ cap' ∧ Bs w' a' l ∧ Below w.heap.size w w' := by
  obtain ⟨i, hi, hz, hs, hby⟩ := info_u8
  have hb0 : Below w.heap.size w (w.alloc (.cells #[] 5)) := (Below.refl _ _).alloc (Nat.le_refl _) _
  obtain ⟨h1, h2, h3, h4⟩ := hB.below hb0 (Nat.le_refl _)
  rcases Nat.eq_zero_or_pos l.length with h0 | h0
  · obtain rfl : l = [] := List.length_eq_zero_iff.1 h0
    refine ⟨some ⟨w.heap.size, 0, none⟩, 0, _, ?_, Nat.le_refl _, Or.inl rfl, hb0⟩
    have := run_append_room_src (P := Tryd.prog) (w.alloc (.cells #[] 5)) 22 22 ty 5 i Tryd.underlying22 hi w.heap.size 0 0 0 (.slice a0 0 cap) 0 [] (by rw [hs]; exact src_none _ a0 cap) (Nat.le_refl _) (fun j hj => absurd hj (Nat.not_lt_zero _)) (fun j hj => absurd hj (Nat.not_lt_zero _))
    exact this
  · rcases h3 with h3 | ⟨g, off, rfl, hL⟩
    · rw [h3] at h0; cases h0
    have hcap : Builtin.nextslicecap (0 + l.length) 0 = l.length := by unfold Builtin.nextslicecap; rw [if_pos (by omega)]; omega
    have := run_append_grow_src (P := Tryd.prog) (w.alloc (.cells #[] 5)) 22 22 ty 5 i (.int .u8 0) Tryd.underlying22 hi hz (some ⟨w.heap.size, 0, none⟩) 0 0 []
      (by rw [hs]; exact run_firstCells_some _ 1 0 _ 0 0 [] rfl (fun j v h => by simp at h)) (.slice (some ⟨g, off, none⟩) l.length cap) l.length (l.map (Value.int .u8)) (by rw [hs]; exact src_some _ g off cap l hL) (by omega) (by omega)
      (by rw [hcap, hby]; omega)
    rw [Nat.zero_add, List.nil_append] at this
    refine ⟨_, _, _, this, ?_, Or.inr ⟨_, 0, rfl, ?_⟩, ?_⟩
    · exact grownCap_ge _ _ _ _
    · intro j hj
      refine ⟨?_, (hL j hj).2⟩
      rw [Nat.zero_add]
      refine (World.cell?_alloc_mark (w.alloc (.cells #[] 5)).drew _ 5 (0, 0) j).trans ?_
      rw [Array.getElem?_append_left (by simpa using hj)]
      simp [List.getElem?_eq_getElem hj, List.getD]
    · exact (hb0.drew).alloc (by simp) _

/-- an append whose run is known, guarded or not -/
theorem wpList_append_known {P : Program} {ops : Array Oper} {rest : List Oper} {o : Oper} {a : Act} {Q : Exit → Act → World → Prop} {w : World} (hw : Region.wanted o (yielded ops a.tmps) = true) (s x : Operand) (t tx : TypeId)
    (ho : o.op = .call { callee := .builtin .append, args := #[s, x], argTypes := #[t, tx] }) (v u : Value) (hs : a.eval s = v) (hx : a.eval x = u) (v' : Value) (w' : World)
    (hr : (Builtin.append_ #[t, tx] o.type #[v, u]).run P w = .ok v' w') (h : wpList P ops Q rest (a.put o.dst v') w') : wpList P ops Q (o :: rest) a w := by
  unfold wpList
  rw [if_pos hw]
  left
  unfold Oper.wp execOp
  simp only [ho, resolve, invoke, builtin, Sem.run_bind, Sem.run_pure, Result.andThen_ok, List.map_toArray, List.map_cons, List.map_nil, hs, hx, hr]
  exact h

end Go.Proofs.YtkdnanlgkedjgabDoor
end

section
namespace Go.Proofs.YtkdnanlgkedjgabDoor
open Go.ChangeShapes Go.WideShapes Go.ChangeAt Go.RowKit

theorem flr_inside (l : List Int) (p : Nat) : (flr l p = p) = (inside l p = false) := by
  unfold flr inside
  by_cases h1 : 1 ≤ p ∧ 1 < lng (l.drop (p - 1))
  · rw [if_pos h1]
    simp only [decide_eq_true h1.1, decide_eq_true h1.2, Bool.and_self, Bool.true_or]
    simp; omega
  · rw [if_neg h1]
    by_cases h2 : 2 ≤ p ∧ 2 < lng (l.drop (p - 2))
    · rw [if_pos h2]
      simp only [decide_eq_true h2.1, decide_eq_true h2.2, Bool.and_self, Bool.true_or, Bool.or_true]
      simp; omega
    · rw [if_neg h2]
      by_cases h3 : 3 ≤ p ∧ 3 < lng (l.drop (p - 3))
      · rw [if_pos h3]
        simp only [decide_eq_true h3.1, decide_eq_true h3.2, Bool.and_self, Bool.or_true]
        simp; omega
      · rw [if_neg h3]
        refine propext ⟨fun _ => ?_, fun _ => rfl⟩
        simp only [Bool.or_eq_false_iff, ← Bool.decide_and, decide_eq_false_iff_not]
        exact ⟨h1, h2, h3⟩
theorem flr_le (l : List Int) (p : Nat) : flr l p ≤ p := by
  unfold flr
  repeat' split
  all_goals omega
theorem flr_ne {l : List Int} {p : Nat} (h : inside l p = true) : ¬ flr l p = p := by rw [flr_inside, h]; simp
theorem flr_eq {l : List Int} {p : Nat} (h : inside l p = false) : flr l p = p := by rw [flr_inside]; exact h
/-- the floor of a place that is inside: an encoding begins there and goes over the place -/
theorem flr_over {l : List Int} {p : Nat} (h : inside l p = true) : flr l p < p ∧ p < flr l p + lng (l.drop (flr l p)) := by
  have hne := flr_ne h
  unfold flr at hne ⊢
  by_cases h1 : 1 ≤ p ∧ 1 < lng (l.drop (p - 1))
  · rw [if_pos h1]; omega
  · rw [if_neg h1] at hne ⊢
    by_cases h2 : 2 ≤ p ∧ 2 < lng (l.drop (p - 2))
    · rw [if_pos h2]; omega
    · rw [if_neg h2] at hne ⊢
      by_cases h3 : 3 ≤ p ∧ 3 < lng (l.drop (p - 3))
      · rw [if_pos h3]; omega
      · rw [if_neg h3] at hne; exact absurd rfl hne
theorem flr_wid {l : List Int} {p : Nat} (h : inside l p = true) : flr l p < p ∧ p < flr l p + wid (l.drop (flr l p)) := by
  obtain ⟨h1, h2⟩ := flr_over h
  refine ⟨h1, ?_⟩
  have := wid_gt (l := l.drop (flr l p)) (k := p - flr l p) (by omega)
  have h3 : p - flr l p < wid (l.drop (flr l p)) := by rw [this]; omega
  omega
/-- the floor is an edge -/
theorem flr_edge (l : List Int) (p : Nat) : inside l (flr l p) = false := by
  cases h : inside l p with
  | false => rw [flr_eq h]; exact h
  | true =>
    obtain ⟨h1, h2⟩ := flr_over h
    rw [← Bool.not_eq_true, inside_iff]
    rintro ⟨q, hq, hq2⟩
    have := lng_cross (l := l) hq hq2
    omega

def zeroV : Value := stepV 0 0 false
def atV (l : List Int) (p : Int) : Value :=
  if p < 0 ∨ (l.length : Int) ≤ p then .tuple #[zeroV, .int .i64 2] else if inside l p.toNat then .tuple #[zeroV, .int .i64 4] else .tuple #[stp (l.drop p.toNat), .int .i64 0]
def beforeV (l : List Int) (p : Int) : Value :=
  if p < 1 ∨ (l.length : Int) < p then .tuple #[zeroV, .int .i64 2] else if inside l p.toNat then .tuple #[zeroV, .int .i64 4] else .tuple #[stp (l.drop (flr l (p.toNat - 1))), .int .i64 0]
def edgeB (l : List Int) (p : Int) : Bool := decide (0 ≤ p ∧ p ≤ (l.length : Int)) && !inside l p.toNat
def floorV (l : List Int) (p : Int) : Value := if p < 0 ∨ (l.length : Int) < p then .tuple #[.int .i64 0, .int .i64 2] else .tuple #[.int .i64 (flr l p.toNat), .int .i64 0]
def ceil (l : List Int) (p : Nat) : Nat := if inside l p then flr l p + wid (l.drop (flr l p)) else p
def ceilV (l : List Int) (p : Int) : Value := if p < 0 ∨ (l.length : Int) < p then .tuple #[.int .i64 0, .int .i64 2] else .tuple #[.int .i64 (ceil l p.toNat), .int .i64 0]

theorem isPlace_any (a0 : Option Addr) (cap n : Nat) (p : Int) (w : World) :
    Calls Tryd.prog 39 #[.slice a0 n cap, .int .i64 p] w fun e w' => e = .returned (.bool (decide (0 ≤ p ∧ p ≤ (n : Int)))) ∧ w' = w := by
  by_cases h0 : 0 ≤ p
  · have e : decide (0 ≤ p ∧ p ≤ (n : Int)) = decide (p ≤ (n : Int)) := by simp [h0]
    rw [e]
    have d0 : decide (0 ≤ p) = true := decide_eq_true h0
    go_enter Tryd.func39, Tryd.ntmps39
    go_wp2
    all_goals go_ret
    all_goals exact ⟨rfl, rfl⟩
  · have e : decide (0 ≤ p ∧ p ≤ (n : Int)) = false := by simp; omega
    rw [e]
    have d0 : decide (0 ≤ p) = false := decide_eq_false h0
    go_enter Tryd.func39, Tryd.ntmps39
    go_wp2
    all_goals go_ret
    all_goals exact ⟨rfl, rfl⟩

theorem isPlace_at (a0 : Option Addr) (cap n : Nat) (p : Int) {v : Bool} (w : World) (h : decide (0 ≤ p ∧ p ≤ (n : Int)) = v) :
    Calls Tryd.prog 39 #[.slice a0 n cap, .int .i64 p] w fun e w' => e = .returned (.bool v) ∧ w' = w := by
  subst h
  exact isPlace_any a0 cap n p w

set_option maxHeartbeats 400000 in
theorem Edge_at (a0 : Option Addr) (cap : Nat) (p : Int) (l : List Int) (w : World) (hB : IsB w a0 cap l) (hT : Tab w) :
    Calls Tryd.prog 24 #[.slice a0 l.length cap, .int .i64 p] w fun e w' => e = .returned (.bool (edgeB l p)) ∧ Below w.heap.size w w' := by
  cases hp : decide (0 ≤ p ∧ p ≤ (l.length : Int)) with
  | false =>
    have e : edgeB l p = false := by rw [edgeB, hp]; rfl
    rw [e]
    have HP := hide hp
    clear hp
    go_enter Tryd.func24, Tryd.ntmps24
    go_wp2_with (go_at_call 39; refine (isPlace_at a0 cap l.length p w (unhide HP)).mono ?_; rintro e w' ⟨rfl, rfl⟩)
    go_ret
    exact ⟨rfl, Below.refl _ _⟩
  | true =>
    have e : edgeB l p = !inside l p.toNat := by rw [edgeB, hp]; rfl
    rw [e]
    have hp' := of_decide_eq_true hp
    obtain ⟨n, rfl⟩ : ∃ n : Nat, p = n := ⟨p.toNat, by omega⟩
    have HP := hide hp
    clear hp
    have hn : n ≤ l.length := by omega
    rw [Int.toNat_natCast]
    have HE : Hid (((flr l n : Int) == (n : Int)) = !inside l n) := hide (by
      cases hi : inside l n with
      | true => have := flr_ne hi; simp; omega
      | false => have := flr_eq hi; simp [this])
    clear hp'
    go_enter Tryd.func24, Tryd.ntmps24
    go_wp2_with (first
      | (go_at_call 39; refine (isPlace_at a0 cap l.length _ w (unhide HP)).mono ?_; rintro e w' ⟨rfl, rfl⟩)
      | (go_at_call 40; refine (floor_at a0 cap n l _ hn hB hT).mono ?_; rintro e w' ⟨rfl, hb⟩))
    all_goals go_ret
    all_goals exact ⟨ret_bool (unhide HE), hb⟩

end Go.Proofs.YtkdnanlgkedjgabDoor
end
