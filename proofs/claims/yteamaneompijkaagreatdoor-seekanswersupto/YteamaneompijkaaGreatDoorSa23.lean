/- DERIVED: THE SHELF's CONTRACTS AT THIS DUMP, IN PLAIN WORDS (tools/lay-plain.mjs out of 'YteamaneompijkaaGreatDoorShelf0.lean', which tools/lay-shelf.mjs wrote): THE SAME DECLARATIONS UNDER THE SAME NAMES: 'import', 'namespace', 'open', 'def', 'theorem' AND NOTHING ELSE: no command of the shelf's: FOR A HAND-IN. Each laying: the table of numbers ('.._ren') and one theorem, a field a fact of the dump's own or the kernel's comparison; each contract: ONE APPLICATION. · Layer 5: the library's bytes.Count, bytes.HasPrefix, bytes.HasSuffix and utf8.DecodeRune over lists of bytes; line ends counted. -/
import Derived.Ground.SlbNamesProg
import Derived.Shelf.Bytes.SlCountOne
import Derived.Shelf.Bytes.SlCountWhole
import Derived.Shelf.Bytes.SlSmallAll
import Derived.Shelf.Spec.DecodeRune
import Derived.Test.YteamaneompijkaaGreatDoorProg
import Derived.Test.YteamaneompijkaaGreatDoorSa22
import Derived.Lib.SlBytesConst

section
namespace Go.Proofs
open Go.Shelf
def Tryz.laysSlC13_ren : Go.Shelf.Ren := ⟨fun | 13 => 157 | 24 => 160 | 25 => 161 | 12 => 162 | 31 => 163 | 19 => 164 | 20 => 159 | 21 => 165 | 22 => 166 | 23 => 167 | 29 => 168 | 30 => 169 | n => n, fun | 22 => 30 | 3 => 3 | 4 => 4 | 0 => 0 | 5 => 5 | 9 => 9 | 33 => 197 | 40 => 233 | 39 => 232 | n => n, fun | 0 => 3 | n => n⟩
theorem Tryz.laysSlC13 : Go.Proofs.SlLaysC.n13 Tryz.prog Tryz.laysSlC13_ren := {
  mixed := by kernel_rfl
  f12 := Tryz.func162.trans (congrArg some (by kernel_rfl))
  f13 := Tryz.func157.trans (congrArg some (by kernel_rfl))
  f19 := Tryz.func164.trans (congrArg some (by kernel_rfl))
  f20 := Tryz.func159.trans (congrArg some (by kernel_rfl))
  f21 := Tryz.func165.trans (congrArg some (by kernel_rfl))
  f22 := Tryz.func166.trans (congrArg some (by kernel_rfl))
  f23 := Tryz.func167.trans (congrArg some (by kernel_rfl))
  f25 := Tryz.func161.trans (congrArg some (by kernel_rfl))
  f29 := Tryz.func168.trans (congrArg some (by kernel_rfl))
  f30 := Tryz.func169.trans (congrArg some (by kernel_rfl))
  t0 := Tryz.underlying0
  a0 := Tryz.isAgg0
  z0 := Tryz.sizeOf0
  v0 := Tryz.zeroValue0
  t3 := Tryz.underlying3
  a3 := Tryz.isAgg3
  z3 := Tryz.sizeOf3
  v3 := Tryz.zeroValue3
  t4 := Tryz.underlying4
  a4 := Tryz.isAgg4
  z4 := Tryz.sizeOf4
  v4 := Tryz.zeroValue4
  t5 := Tryz.underlying5
  a5 := Tryz.isAgg5
  z5 := Tryz.sizeOf5
  v5 := Tryz.zeroValue5
  t9 := Tryz.underlying9
  a9 := Tryz.isAgg9
  z9 := Tryz.sizeOf9
  v9 := Tryz.zeroValue9
  t22 := Tryz.underlying30
  a22 := Tryz.isAgg30
  z22 := Tryz.sizeOf30
  v22 := Tryz.zeroValue30
  t33 := Tryz.underlying197
  a33 := Tryz.isAgg197
  z33 := Tryz.sizeOf197
  v33 := Tryz.zeroValue197
  t39 := Tryz.underlying232
  a39 := Tryz.isAgg232
  z39 := Tryz.sizeOf232
  v39 := Tryz.zeroValue232
  t40 := Tryz.underlying233
  a40 := Tryz.isAgg233
  z40 := Tryz.sizeOf233
  v40 := Tryz.zeroValue233
  g0 := by kernel_rfl }
def Tryz.laysnb116_ren : Go.Shelf.Ren := ⟨fun | 116 => 156 | 115 => 159 | n => n, fun | 37 => 30 | 4 => 4 | 3 => 3 | 9 => 9 | 5 => 5 | n => n, fun | n => n⟩
theorem Tryz.laysnb116 : Go.Proofs.Lays.nb116 Tryz.prog Tryz.laysnb116_ren := {
  mixed := by kernel_rfl
  f115 := Tryz.func159.trans (congrArg some (by kernel_rfl))
  f116 := Tryz.func156.trans (congrArg some (by kernel_rfl))
  t3 := Tryz.underlying3
  a3 := Tryz.isAgg3
  z3 := Tryz.sizeOf3
  v3 := Tryz.zeroValue3
  t4 := Tryz.underlying4
  a4 := Tryz.isAgg4
  z4 := Tryz.sizeOf4
  v4 := Tryz.zeroValue4
  t9 := Tryz.underlying9
  a9 := Tryz.isAgg9
  z9 := Tryz.sizeOf9
  v9 := Tryz.zeroValue9
  t37 := Tryz.underlying30
  a37 := Tryz.isAgg30
  z37 := Tryz.sizeOf30
  v37 := Tryz.zeroValue30
  t5 := Tryz.underlying5
  a5 := Tryz.isAgg5
  z5 := Tryz.sizeOf5
  v5 := Tryz.zeroValue5 }
def Tryz.laysnb117_ren : Go.Shelf.Ren := ⟨fun | 117 => 155 | 115 => 159 | n => n, fun | 37 => 30 | 4 => 4 | 3 => 3 | 9 => 9 | 5 => 5 | n => n, fun | n => n⟩
theorem Tryz.laysnb117 : Go.Proofs.Lays.nb117 Tryz.prog Tryz.laysnb117_ren := {
  mixed := by kernel_rfl
  f115 := Tryz.func159.trans (congrArg some (by kernel_rfl))
  f117 := Tryz.func155.trans (congrArg some (by kernel_rfl))
  t3 := Tryz.underlying3
  a3 := Tryz.isAgg3
  z3 := Tryz.sizeOf3
  v3 := Tryz.zeroValue3
  t4 := Tryz.underlying4
  a4 := Tryz.isAgg4
  z4 := Tryz.sizeOf4
  v4 := Tryz.zeroValue4
  t9 := Tryz.underlying9
  a9 := Tryz.isAgg9
  z9 := Tryz.sizeOf9
  v9 := Tryz.zeroValue9
  t37 := Tryz.underlying30
  a37 := Tryz.isAgg30
  z37 := Tryz.sizeOf30
  v37 := Tryz.zeroValue30
  t5 := Tryz.underlying5
  a5 := Tryz.isAgg5
  z5 := Tryz.sizeOf5
  v5 := Tryz.zeroValue5 }
def Tryz.lays732_ren : Go.Shelf.Ren := ⟨fun | 32 => 151 | 49 => 158 | n => n, fun | 30 => 30 | 21 => 21 | 3 => 3 | 0 => 0 | 5 => 5 | 4 => 4 | 33 => 219 | 66 => 227 | 25 => 197 | 69 => 230 | 68 => 229 | n => n, fun | 2 => 1 | 3 => 2 | n => n⟩
theorem Tryz.lays732 : Go.Proofs.Lays7.n32 Tryz.prog Tryz.lays732_ren := {
  mixed := by kernel_rfl
  f32 := Tryz.func151.trans (congrArg some (by kernel_rfl))
  f49 := Tryz.func158.trans (congrArg some (by kernel_rfl))
  t0 := Tryz.underlying0
  a0 := Tryz.isAgg0
  z0 := Tryz.sizeOf0
  v0 := Tryz.zeroValue0
  i0 := by kernel_rfl
  t3 := Tryz.underlying3
  a3 := Tryz.isAgg3
  z3 := Tryz.sizeOf3
  v3 := Tryz.zeroValue3
  i3 := by kernel_rfl
  t4 := Tryz.underlying4
  a4 := Tryz.isAgg4
  z4 := Tryz.sizeOf4
  v4 := Tryz.zeroValue4
  i4 := by kernel_rfl
  t5 := Tryz.underlying5
  a5 := Tryz.isAgg5
  z5 := Tryz.sizeOf5
  v5 := Tryz.zeroValue5
  i5 := by kernel_rfl
  t21 := Tryz.underlying21
  a21 := Tryz.isAgg21
  z21 := Tryz.sizeOf21
  v21 := Tryz.zeroValue21
  i21 := by kernel_rfl
  t25 := Tryz.underlying197
  a25 := Tryz.isAgg197
  z25 := Tryz.sizeOf197
  v25 := Tryz.zeroValue197
  i25 := by kernel_rfl
  t30 := Tryz.underlying30
  a30 := Tryz.isAgg30
  z30 := Tryz.sizeOf30
  v30 := Tryz.zeroValue30
  i30 := by kernel_rfl
  t33 := Tryz.underlying219
  a33 := Tryz.isAgg219
  z33 := Tryz.sizeOf219
  v33 := Tryz.zeroValue219
  i33 := by kernel_rfl
  t66 := Tryz.underlying227
  a66 := Tryz.isAgg227
  z66 := Tryz.sizeOf227
  t68 := Tryz.underlying229
  a68 := Tryz.isAgg229
  z68 := Tryz.sizeOf229
  v68 := Tryz.zeroValue229
  i68 := by kernel_rfl
  t69 := Tryz.underlying230
  a69 := Tryz.isAgg230
  z69 := Tryz.sizeOf230
  v69 := Tryz.zeroValue230
  i69 := by kernel_rfl
  g2 := by kernel_rfl
  g3 := by kernel_rfl }
end Go.Proofs
end

section
namespace Go.Proofs.YteamaneompijkaaGreatDoor
open Go.ChangeShapes Go.WideShapes Go.ChangeAt Go.RowKit

/-- the tables, and some number in bytealg's limit -/
def Wt (w : World) : Prop := Tab w ∧ Lib.Utf8Tabs 1 2 w ∧ (∃ m, w.cell? ⟨3, 0, none⟩ = some (.int .i64 m)) ∧ 4 ≤ w.heap.size
theorem Wt.below {w w' : World} (h : Wt w) (hb : Below w.heap.size w w') : Wt w' := by
  obtain ⟨h1, h2, ⟨m, h3⟩, h4⟩ := h
  exact ⟨h1.below hb h1.size, Utf8Tabs_below h2 hb, ⟨m, (hb.cell (p := ⟨3, 0, none⟩) (show 3 < w.heap.size by omega)).trans h3⟩, Nat.le_trans h4 hb.size⟩
/-- bytes in memory; nil has no room -/
def IsN (w : World) (a0 : Option Addr) (cap : Nat) (l : List Int) : Prop := IsB w a0 cap l ∧ (a0 = none → cap = 0)
theorem IsN.below {w w' : World} {a0 : Option Addr} {cap : Nat} {l : List Int} {B : Nat} (h : IsN w a0 cap l) (hb : Below B w w') (hB : w.heap.size ≤ B) : IsN w' a0 cap l := ⟨h.1.below hb hB, h.2⟩
theorem IsN.cells {w : World} {a : Addr} {cap : Nat} {l : List Int} (h : IsB w (some a) cap l) : ∀ i, i < l.length → w.cell? (a.add i) = some (.int .u8 (l.getD i 0)) := by
  rcases h.2.2.1 with h0 | ⟨g, off, e, hL⟩
  · intro i hi; rw [h0] at hi; simp at hi
  · cases e
    intro i hi
    rw [Addr.add_lit]
    exact (hL i hi).1

theorem u8_eq {x : Int} (h : 0 ≤ x ∧ x ≤ 255) (c : Nat) (hc : c < 256) : (UInt8.ofNat x.toNat = UInt8.ofNat c) = (x = (c : Int)) := by
  refine propext ⟨fun e => ?_, fun e => ?_⟩
  · have := congrArg UInt8.toNat e
    simp at this
    omega
  · subst e; simp
theorem count_u8 : ∀ (l : List Int), (∀ x ∈ l, 0 ≤ x ∧ x ≤ 255) → ∀ (c : Nat), c < 256 → Lib.countByte (Lib.bytesOf l) (UInt8.ofNat c) = l.count (c : Int)
  | [], _, _, _ => rfl
  | x :: l, h, c, hc => by
    have ih := count_u8 l (fun y hy => h y (List.mem_cons_of_mem _ hy)) c hc
    have hx := u8_eq (h x (List.mem_cons_self ..)) c hc
    unfold Lib.countByte Lib.bytesOf at ih ⊢
    rw [List.map_cons, List.count_cons, List.count_cons, ih]
    by_cases e : x = (c : Int)
    · rw [if_pos (by rw [beq_iff_eq, hx]; exact e), if_pos (by rw [beq_iff_eq]; exact e)]
    · rw [if_neg (by rw [beq_iff_eq, hx]; exact e), if_neg (by rw [beq_iff_eq]; exact e)]
/-- how often a CR stands directly ahead of a LF -/
def crlf : List Int → Nat
  | [] => 0
  | x :: r => (if x = 13 ∧ r.head? = some 10 then 1 else 0) + crlf r
def endsN (l : List Int) : Int := (l.count 13 : Int) + (l.count 10 : Int) - (crlf l : Int)

theorem pre2 {x : Int} {r : List Int} (h : ∀ y ∈ x :: r, 0 ≤ y ∧ y ≤ 255) : ((Lib.bytesOf [13, 10]).isPrefixOf (Lib.bytesOf (x :: r)) = true) = (x = 13 ∧ r.head? = some 10) := by
  have hx := u8_eq (h x (List.mem_cons_self ..)) 13 (by decide)
  cases r with
  | nil => simp [Lib.bytesOf, List.isPrefixOf]
  | cons y r =>
    have hy := u8_eq (h y (List.mem_cons_of_mem _ (List.mem_cons_self ..))) 10 (by decide)
    have e : (Lib.bytesOf [13, 10]).isPrefixOf (Lib.bytesOf (x :: y :: r)) = ((UInt8.ofNat 13 == UInt8.ofNat x.toNat) && ((UInt8.ofNat 10 == UInt8.ofNat y.toNat) && true)) := rfl
    rw [e, Bool.and_true]
    simp only [Bool.and_eq_true, beq_iff_eq, List.head?_cons, Option.some.injEq]
    rw [eq_comm (a := UInt8.ofNat 13), hx, eq_comm (a := UInt8.ofNat 10), hy]
    rfl
theorem idx_crlf : ∀ (l : List Int), (∀ x ∈ l, 0 ≤ x ∧ x ≤ 255) → (Lib.index (Lib.bytesOf l) (Lib.bytesOf [13, 10]) = -1 ∧ crlf l = 0) ∨ ∃ i : Nat, Lib.index (Lib.bytesOf l) (Lib.bytesOf [13, 10]) = (i : Int) ∧ i + 2 ≤ l.length ∧ crlf l = 1 + crlf (l.drop (i + 2))
  | [], _ => Or.inl ⟨rfl, rfl⟩
  | x :: r, h => by
    have hp := pre2 h
    have ih := idx_crlf r (fun y hy => h y (List.mem_cons_of_mem _ hy))
    have e : Lib.index (Lib.bytesOf (x :: r)) (Lib.bytesOf [13, 10]) = if (Lib.bytesOf [13, 10]).isPrefixOf (Lib.bytesOf (x :: r)) then 0 else if Lib.index (Lib.bytesOf r) (Lib.bytesOf [13, 10]) == -1 then -1 else Lib.index (Lib.bytesOf r) (Lib.bytesOf [13, 10]) + 1 := rfl
    by_cases hq : x = 13 ∧ r.head? = some 10
    · refine Or.inr ⟨0, by rw [e, if_pos (by rw [hp]; exact hq)]; rfl, ?_, ?_⟩
      · cases r with
        | nil => simp at hq
        | cons y r => simp
      · cases r with
        | nil => simp at hq
        | cons y r =>
          have hy : y = 10 := by simpa using hq.2
          subst hy
          show (if x = 13 ∧ ((10 : Int) :: r).head? = some 10 then 1 else 0) + crlf (10 :: r) = 1 + crlf r
          rw [if_pos hq]
          simp [crlf]
    · have e2 : Lib.index (Lib.bytesOf (x :: r)) (Lib.bytesOf [13, 10]) = if Lib.index (Lib.bytesOf r) (Lib.bytesOf [13, 10]) == -1 then -1 else Lib.index (Lib.bytesOf r) (Lib.bytesOf [13, 10]) + 1 := by
        rw [e, if_neg (by rw [hp]; exact hq)]
      have ec : crlf (x :: r) = crlf r := by
        show (if x = 13 ∧ r.head? = some 10 then 1 else 0) + crlf r = _
        rw [if_neg hq, Nat.zero_add]
      rcases ih with ⟨i1, i2⟩ | ⟨i, i1, i2, i3⟩
      · exact Or.inl ⟨by rw [e2, i1]; rfl, by rw [ec, i2]⟩
      · refine Or.inr ⟨i + 1, ?_, by simp; omega, ?_⟩
        · rw [e2, i1, if_neg (by rw [beq_iff_eq]; omega)]; rfl
        · rw [ec, i3]
          congr 2
theorem count_crlf : ∀ (n : Nat) (l : List Int), l.length ≤ n → (∀ x ∈ l, 0 ≤ x ∧ x ≤ 255) → Lib.count (Lib.bytesOf l) (Lib.bytesOf [13, 10]) = crlf l
  | 0, l, hn, h => by
    obtain rfl := List.length_eq_zero_iff.1 (Nat.le_zero.1 hn)
    rfl
  | n + 1, l, hn, h => by
    rcases idx_crlf l h with ⟨i1, i2⟩ | ⟨i, i1, i2, i3⟩
    · rw [Lib.count_miss i1, i2]
    · rw [Lib.count_hit (by decide) i1, i3]
      have ih := count_crlf n (l.drop (i + 2)) (by simp; omega) (fun x hx => h x (List.mem_of_mem_drop hx))
      rw [← ih, show (Lib.bytesOf [13, 10]).length = 2 from rfl, ← Lib.bytesOf_drop]

theorem conv_litW (w : World) (C : Array Value) (n : Nat) : (convert 30 30 (.slice (some ⟨w.heap.size, 0, none⟩) n n)).run Tryz.prog (w.alloc (.cells C 5)) = .ok (.slice (some ⟨w.heap.size, 0, none⟩) n n) (w.alloc (.cells C 5 (C.size, C.size + 1))) :=
  Lib.run_convert_bytes_const w 30 5 C n n Tryz.underlying30 Tryz.underlying5
theorem lit_isW (w : World) (l : List Int) (m : Nat × Nat) (hl : ∀ x ∈ l, 0 ≤ x ∧ x ≤ 255) (h : l.length ≤ 1000) : IsB (w.alloc (.cells (l.map (Value.int .u8)).toArray 5 m)) (some ⟨w.heap.size, 0, none⟩) l.length l :=
  IsB.of (lies_new w l m hl) (Nat.le_refl _) (by omega)

/-- bytes.Count at one byte -/
theorem Count1_at (a0 : Option Addr) (cap : Nat) (l : List Int) (g : Nat) (c : Nat) (w : World) (hB : IsN w a0 cap l) (hc : c < 256) (hg : w.cell? ⟨g, 0, none⟩ = some (.int .u8 (c : Int))) :
    Calls Tryz.prog 157 #[.slice a0 l.length cap, .slice (some ⟨g, 0, none⟩) 1 1] w fun e w' => e = .returned (.int .i64 (l.count (c : Int) : Nat)) ∧ w' = w := by
  have hu := count_u8 l hB.1.2.2.2 c hc
  have hcc : ((c : Int).toNat.toUInt8) = UInt8.ofNat c := rfl
  cases a0 with
  | none =>
    have h0 : l = [] := by
      rcases hB.1.2.2.1 with h | ⟨g, off, e, _⟩
      · exact h
      · cases e
    subst h0
    rw [hB.2 rfl]
    exact Any.bytes_Count_one_nil Tryz.laysSlC13.small g 0 1 (c : Int) w hg
  | some a =>
    have := Any.bytes_Count_one_at Tryz.laysSlC13.small a l.length cap g 0 1 l (c : Int) w rfl (IsN.cells hB.1) hg
    rw [hcc, hu] at this
    exact this
/-- bytes.Count at CR, LF -/
theorem Count2_at (a0 : Option Addr) (cap : Nat) (l : List Int) (g : Nat) (w : World) (hB : IsN w a0 cap l) (hl : l.length < 4294967281) (hW : Wt w) (hg : IsB w (some ⟨g, 0, none⟩) 2 [13, 10]) :
    Calls Tryz.prog 157 #[.slice a0 l.length cap, .slice (some ⟨g, 0, none⟩) 2 2] w fun e w' => e = .returned (.int .i64 (crlf l : Nat)) ∧ ∃ q, w' = w.drewN q := by
  obtain ⟨_, _, ⟨m, hm⟩, _⟩ := hW
  cases a0 with
  | none =>
    have h0 : l = [] := by
      rcases hB.1.2.2.1 with h | ⟨g, off, e, _⟩
      · exact h
      · cases e
    subst h0
    rw [hB.2 rfl]
    exact (Any.bytes_Count_nil Tryz.laysSlC13 (some ⟨g, 0, none⟩) 2 2 w (by decide) (by decide)).mono fun e w' ⟨h1, h2⟩ => ⟨h1, 0, h2⟩
  | some a =>
    have := Any.bytes_Count_at Tryz.laysSlC13 a ⟨g, 0, none⟩ l.length cap 2 2 l [13, 10] m w rfl rfl (fun x hx => by have := hB.1.2.2.2 x hx; omega) (by decide) (IsN.cells hB.1) (IsN.cells hg) hB.1.1 hl (by decide) (by decide) hm
    rw [count_crlf _ l (Nat.le_refl _) hB.1.2.2.2] at this
    exact this
end Go.Proofs.YteamaneompijkaaGreatDoor
end
