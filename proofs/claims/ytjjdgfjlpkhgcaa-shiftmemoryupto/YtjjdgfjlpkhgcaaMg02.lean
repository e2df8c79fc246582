/- append([]byte{}, b...) of a []byte that came in: a []byte of the same bytes, in memory that was not there before. · Plain facts about encodings: what an encoding is whole for, its value, its length, that no encoding stands within another, and that strings of bytes are alike just if the bytes are. · Bytes answers in new memory, told without naming the world; and the string of bytes that lie in memory. · Rows of bytes that the call itself made: how they stay, are written, and grow by one byte. -/
import Derived.Test.YtjjdgfjlpkhgcaaMg01
import Derived.Deep.AppendSrc
import Derived.Laws.BytesArg
import Derived.Lib.Bytes
import Derived.Laws.AppendOwn
import Derived.Deep.AppendLies

section
namespace Go.Proofs.Ytjjdgfjlpkhgcaa
open Go.ChangeShapes Go.WideShapes Go.ChangeAt Go.RowKit

theorem IsB.below {w w' : World} {B : Nat} {a0 : Option Addr} {cap : Nat} {l : List Int} (h : IsB w a0 cap l) (hb : Below B w w') (hB : w.heap.size ≤ B) : IsB w' a0 cap l := by
  obtain ⟨h1, h2, h3, h4⟩ := h
  refine ⟨h1, h2, ?_, h4⟩
  rcases h3 with h3 | ⟨g, off, rfl, hL⟩
  · exact Or.inl h3
  · cases l with
    | nil => exact Or.inl rfl
    | cons a r =>
      have hlt : g < w.heap.size := by
        have := hL.head.1
        rcases Nat.lt_or_ge g w.heap.size with h | h
        · exact h
        · simp [World.cell?, Array.getElem?_eq_none h] at this
      exact Or.inr ⟨g, off, rfl, hL.below hb (by omega)⟩

set_option maxRecDepth 100000 in
theorem info_u8 : ∃ i, Try.prog.info? 5 = some i ∧ i.zero = some (.int .u8 0) ∧ i.size = 1 ∧ i.bytes = 1 := by
  refine ⟨_, rfl, ?_, ?_, ?_⟩ <;> rfl

theorem src_none (W : World) (a0 : Option Addr) (cap : Nat) : Src Try.prog 1 22 (.slice a0 0 cap) 0 [] W := by
  cases a0 with
  | none => exact Src.ofNil W Try.underlying22 cap
  | some a => exact Src.ofSlice W Try.underlying22 a 0 cap [] rfl (fun j u h => by simp at h) (fun u h => by cases h)
theorem src_some (W : World) (g off cap : Nat) (l : List Int) (hL : Lies W g off l) : Src Try.prog 1 22 (.slice (some ⟨g, off, none⟩) l.length cap) l.length (l.map (Value.int .u8)) W := by
  refine Src.ofSlice W Try.underlying22 ⟨g, off, none⟩ l.length cap (l.map (Value.int .u8)) (by simp) (fun j u h => ?_) (fun u h => ?_)
  · have hj : j < l.length := by
      rcases Nat.lt_or_ge j l.length with h' | h'
      · exact h'
      · rw [List.getElem?_eq_none (by simpa using h')] at h; cases h
    rw [Addr.add_lit, (hL j hj).1]
    simp [List.getElem?_eq_getElem hj] at h
    simp [List.getD, List.getElem?_eq_getElem hj, h]
  · obtain ⟨x, _, rfl⟩ := List.mem_map.1 h
    rfl

theorem run_copy (w : World) (a0 : Option Addr) (cap : Nat) (l : List Int) (ty : TypeId) (hB : IsB w a0 cap l) :
    ∃ a' cap' w', (Builtin.append_ #[22, 22] ty #[.slice (some ⟨w.heap.size, 0, none⟩) 0 0, .slice a0 l.length cap]).run Try.prog (w.alloc (.cells #[] 5)) = .ok (.slice a' l.length cap') w' ∧
      l.length ≤ cap' ∧ Bs w' a' l ∧ Below w.heap.size w w' := by
  obtain ⟨i, hi, hz, hs, hby⟩ := info_u8
  have hb0 : Below w.heap.size w (w.alloc (.cells #[] 5)) := (Below.refl _ _).alloc (Nat.le_refl _) _
  obtain ⟨h1, h2, h3, h4⟩ := hB.below hb0 (Nat.le_refl _)
  rcases Nat.eq_zero_or_pos l.length with h0 | h0
  · obtain rfl : l = [] := List.length_eq_zero_iff.1 h0
    refine ⟨some ⟨w.heap.size, 0, none⟩, 0, _, ?_, Nat.le_refl _, Or.inl rfl, hb0⟩
    have := run_append_room_src (P := Try.prog) (w.alloc (.cells #[] 5)) 22 22 ty 5 i Try.underlying22 hi w.heap.size 0 0 0 (.slice a0 0 cap) 0 [] (by rw [hs]; exact src_none _ a0 cap) (Nat.le_refl _) (fun j hj => absurd hj (Nat.not_lt_zero _)) (fun j hj => absurd hj (Nat.not_lt_zero _))
    exact this
  · rcases h3 with h3 | ⟨g, off, rfl, hL⟩
    · rw [h3] at h0; cases h0
    have hcap : Builtin.nextslicecap (0 + l.length) 0 = l.length := by unfold Builtin.nextslicecap; rw [if_pos (by omega)]; omega
    have := run_append_grow_src (P := Try.prog) (w.alloc (.cells #[] 5)) 22 22 ty 5 i (.int .u8 0) Try.underlying22 hi hz (some ⟨w.heap.size, 0, none⟩) 0 0 []
      (by rw [hs]; exact run_firstCells_some _ 1 0 _ 0 0 [] rfl (fun j v h => by simp at h)) (.slice (some ⟨g, off, none⟩) l.length cap) l.length (l.map (Value.int .u8)) (by rw [hs]; exact src_some _ g off cap l hL) (by omega) (by omega)
      (by rw [hcap, hby]; omega)
    rw [Nat.zero_add, List.nil_append] at this
    refine ⟨_, _, _, this, ?_, Or.inr ⟨_, 0, rfl, ?_⟩, ?_⟩
    · exact grownCap_ge _ _ _ _
    · intro j hj
      refine ⟨?_, (hL j hj).2⟩
      rw [Nat.zero_add]
      refine (World.cell?_alloc_mark (w.alloc (.cells #[] 5)).drew _ 5 (0, 0) j).trans ?_
      rw [Array.getElem?_append_left (by simpa using hj)]
      simp [List.getElem?_eq_getElem hj, List.getD]
    · exact (hb0.drew).alloc (by simp) _

/-- an append whose run is known, guarded or not -/
theorem wpList_append_known {P : Program} {ops : Array Oper} {rest : List Oper} {o : Oper} {a : Act} {Q : Exit → Act → World → Prop} {w : World} (hw : Region.wanted o (yielded ops a.tmps) = true) (s x : Operand) (t tx : TypeId)
    (ho : o.op = .call { callee := .builtin .append, args := #[s, x], argTypes := #[t, tx] }) (v u : Value) (hs : a.eval s = v) (hx : a.eval x = u) (v' : Value) (w' : World)
    (hr : (Builtin.append_ #[t, tx] o.type #[v, u]).run P w = .ok v' w') (h : wpList P ops Q rest (a.put o.dst v') w') : wpList P ops Q (o :: rest) a w := by
  unfold wpList
  rw [if_pos hw]
  left
  unfold Oper.wp execOp
  simp only [ho, resolve, invoke, builtin, Sem.run_bind, Sem.run_pure, Result.andThen_ok, List.map_toArray, List.map_cons, List.map_nil, hs, hx, hr]
  exact h

end Go.Proofs.Ytjjdgfjlpkhgcaa
end

section
namespace Go.Proofs.Ytjjdgfjlpkhgcaa

theorem enc_cases (r : Int) {p : List Int → Prop} (h1 : 0 ≤ r → r < 128 → p [r]) (h2 : 128 ≤ r → r < 2048 → p [192 + r / 64, 128 + r % 64])
    (h3 : 2048 ≤ r → r < 65536 → (r < 55296 ∨ 57343 < r) → p [224 + r / 4096, 128 + r / 64 % 64, 128 + r % 64])
    (h4 : 65536 ≤ r → r ≤ 1114111 → p [240 + r / 262144, 128 + r / 4096 % 64, 128 + r / 64 % 64, 128 + r % 64])
    (h5 : ¬ (0 ≤ r ∧ r < 55296 ∨ 57343 < r ∧ r ≤ 1114111) → p [239, 191, 189]) : p (enc r) := by
  by_cases hr : 0 ≤ r ∧ r < 55296 ∨ 57343 < r ∧ r ≤ 1114111
  · by_cases a1 : r < 128
    · rw [enc_1 (by omega) a1]; exact h1 (by omega) a1
    · by_cases a2 : r < 2048
      · rw [enc_2 (by omega) a2]; exact h2 (by omega) a2
      · by_cases a3 : r < 65536
        · rw [enc_3 (by omega) a3 (by omega)]; exact h3 (by omega) a3 (by omega)
        · rw [enc_4 (by omega) (by omega)]; exact h4 (by omega) (by omega)
  · rw [enc_bad hr]; exact h5 hr

theorem enc_bytes (r : Int) : ∀ x ∈ enc r, 0 ≤ x ∧ x ≤ 255 := by
  apply enc_cases r (p := fun l => ∀ x ∈ l, 0 ≤ x ∧ x ≤ 255)
  · intro a b; simp; omega
  · intro a b; simp; omega
  · intro a b c; simp; omega
  · intro a b; simp; omega
  · intro a; simp

theorem need_1' {a : Int} (h1 : a < 128) : need a = 1 := by unfold need; rw [if_pos h1]
theorem need_2' {a : Int} (h0 : 194 ≤ a) (h1 : a < 224) : need a = 2 := by unfold need; rw [if_neg (by omega), if_neg (by omega), if_pos h1]
theorem need_3' {a : Int} (h0 : 224 ≤ a) (h1 : a < 240) : need a = 3 := by unfold need; rw [if_neg (by omega), if_neg (by omega), if_neg (by omega), if_pos h1]
theorem need_4' {a : Int} (h0 : 240 ≤ a) (h1 : a < 245) : need a = 4 := by unfold need; rw [if_neg (by omega), if_neg (by omega), if_neg (by omega), if_neg (by omega), if_pos h1]
theorem sec_true {l b : Int} (h : 194 ≤ l ∧ l < 245 ∧ 128 ≤ b ∧ b < 192 ∧ (l = 224 → 160 ≤ b) ∧ (l = 237 → b ≤ 159) ∧ (l = 240 → 144 ≤ b) ∧ (l = 244 → b ≤ 143)) : sec l b = true := decide_eq_true h
theorem isTail_true {b : Int} (h : 128 ≤ b ∧ b < 192) : isTail b = true := decide_eq_true h
theorem isTail_false {b : Int} (h : ¬ (128 ≤ b ∧ b < 192)) : isTail b = false := decide_eq_false h

theorem whole_enc (r : Int) : whole (enc r) = true := by
  apply enc_cases r (p := fun l => whole l = true)
  · intro a b; exact whole_one (need_1' b)
  · intro a b
    rw [whole_more (by rw [need_2' (by omega) (by omega)]; rfl), sec_true (by omega)]; rfl
  · intro a b c
    rw [whole_more (by rw [need_3' (by omega) (by omega)]; rfl), sec_true (by omega)]
    simp only [List.all_cons, List.all_nil, isTail_true (b := 128 + r % 64) (by omega)]; rfl
  · intro a b
    rw [whole_more (by rw [need_4' (by omega) (by omega)]; rfl), sec_true (by omega)]
    simp only [List.all_cons, List.all_nil, isTail_true (b := 128 + r % 64) (by omega), isTail_true (b := 128 + r / 64 % 64) (by omega)]; rfl
  · intro a; rfl

theorem value_enc (r : Int) : value (enc r) = if isRune r then r else 65533 := by
  have hw := whole_enc r
  revert hw
  apply enc_cases r (p := fun l => whole l = true → value l = if isRune r then r else 65533)
  · intro a b hw
    rw [isRune_true (by omega), if_pos rfl]
    simp only [value, hw, if_true, fold]
    exact lead_1 (by rw [need_1' b]; omega) (by rw [need_1' b]; omega) (by rw [need_1' b]; omega)
  · intro a b hw
    rw [isRune_true (by omega), if_pos rfl]
    simp only [value, hw, if_true, fold]
    rw [lead_2 (need_2' (by omega) (by omega))]; omega
  · intro a b c hw
    rw [isRune_true (by omega), if_pos rfl]
    simp only [value, hw, if_true, fold]
    rw [lead_3 (need_3' (by omega) (by omega))]; omega
  · intro a b hw
    rw [isRune_true (by omega), if_pos rfl]
    simp only [value, hw, if_true, fold]
    rw [lead_4 (need_4' (by omega) (by omega))]; omega
  · intro a hw
    rw [isRune_false a, if_neg (by simp)]
    rfl

theorem enc_inj {r s : Int} (hr : isRune r = true) (hs : isRune s = true) (h : enc r = enc s) : r = s := by
  have h1 := value_enc r
  have h2 := value_enc s
  rw [hr, if_pos rfl] at h1
  rw [hs, if_pos rfl] at h2
  rw [← h1, ← h2, h]

theorem bytes_inj {l m : List Int} (hl : ∀ x ∈ l, 0 ≤ x ∧ x ≤ 255) (hm : ∀ x ∈ m, 0 ≤ x ∧ x ≤ 255) (h1 : Lib.bytesOf l = Lib.bytesOf m) : l = m := by
  unfold Lib.bytesOf at h1
  induction l generalizing m with
  | nil => cases m with
    | nil => rfl
    | cons y m => simp at h1
  | cons x l ih => cases m with
    | nil => simp at h1
    | cons y m =>
      simp only [List.map_cons, List.cons.injEq] at h1
      have hx := hl x (by simp)
      have hy := hm y (by simp)
      have e : x = y := by
        have := congrArg UInt8.toNat h1.1
        simp at this
        omega
      rw [e, ih (fun z hz => hl z (by simp [hz])) (fun z hz => hm z (by simp [hz])) h1.2]
theorem str_beq {l m : List Int} (hl : ∀ x ∈ l, 0 ≤ x ∧ x ≤ 255) (hm : ∀ x ∈ m, 0 ≤ x ∧ x ≤ 255) : ((strOfNums l).toList == (strOfNums m).toList) = decide (l = m) := by
  rw [Lib.strOfNums_toList, Lib.strOfNums_toList]
  by_cases h : l = m
  · subst h; simp
  · rw [decide_eq_false h, beq_eq_false_iff_ne]
    exact fun e => h (bytes_inj hl hm e)

theorem utf8_enc (r : Int) : Utf8.encode r = strOfNums (enc r) := by
  have hv : Utf8.valid r = isRune r := by
    unfold Utf8.valid isRune; rw [Bool.eq_iff_iff]; simp; omega
  unfold Utf8.encode
  rw [hv]
  by_cases hr : 0 ≤ r ∧ r < 55296 ∨ 57343 < r ∧ r ≤ 1114111
  · rw [isRune_true hr]
    obtain ⟨n, rfl⟩ := Int.eq_ofNat_of_zero_le (show 0 ≤ r by omega)
    simp only [if_true, Int.toNat_natCast]
    by_cases a1 : n < 128
    · rw [if_pos a1, enc_1 (by omega) (by omega)]; simp [strOfNums]
    · rw [if_neg a1]
      by_cases a2 : n < 2048
      · rw [if_pos a2, enc_2 (by omega) (by omega)]
        simp only [strOfNums, List.map_cons, List.map_nil]
        rw [show (192 + (n : Int) / 64).toNat = 192 + n / 64 by omega, show (128 + (n : Int) % 64).toNat = 128 + n % 64 by omega]
      · rw [if_neg a2]
        by_cases a3 : n < 65536
        · rw [if_pos a3, enc_3 (by omega) (by omega) (by omega)]
          simp only [strOfNums, List.map_cons, List.map_nil]
          rw [show (224 + (n : Int) / 4096).toNat = 224 + n / 4096 by omega, show (128 + (n : Int) / 64 % 64).toNat = 128 + n / 64 % 64 by omega, show (128 + (n : Int) % 64).toNat = 128 + n % 64 by omega]
        · rw [if_neg a3, enc_4 (by omega) (by omega)]
          simp only [strOfNums, List.map_cons, List.map_nil]
          rw [show (240 + (n : Int) / 262144).toNat = 240 + n / 262144 by omega, show (128 + (n : Int) / 4096 % 64).toNat = 128 + n / 4096 % 64 by omega, show (128 + (n : Int) / 64 % 64).toNat = 128 + n / 64 % 64 by omega, show (128 + (n : Int) % 64).toNat = 128 + n % 64 by omega]
  · rw [isRune_false hr, enc_bad hr]
    simp only [Bool.false_eq_true, if_false]
    decide

/-- a first byte is no Tail; the others are -/
theorem whole_tails {a : Int} {r : List Int} (h : whole (a :: r) = true) : ∀ x ∈ r, isTail x = true := by
  cases r with
  | nil => simp
  | cons b t =>
    simp only [whole, Bool.and_eq_true, decide_eq_true_eq] at h
    obtain ⟨_, hs, ht⟩ := h
    intro x hx
    rcases List.mem_cons.1 hx with rfl | hx
    · have := of_decide_eq_true hs
      exact isTail_true ⟨this.2.2.1, this.2.2.2.1⟩
    · exact List.all_eq_true.1 ht x hx
theorem whole_first {a : Int} {r : List Int} (h : whole (a :: r) = true) : isTail a = false ∧ (r.length : Int) + 1 = need a := by
  simp only [whole, Bool.and_eq_true, decide_eq_true_eq] at h
  obtain ⟨h1, _⟩ := h
  refine ⟨isTail_false fun hh => ?_, h1⟩
  have : need a = 0 := by unfold need; rw [if_neg (by omega), if_pos (by omega)]
  omega

/-- no encoding stands within another one -/
theorem whole_within {l m : List Int} (hl : whole l = true) (hm : whole m = true) (i : Nat) (h : (m.drop i).take l.length = l) : l = m := by
  cases l with
  | nil => cases hl
  | cons a r => cases m with
    | nil => cases hm
    | cons b t =>
      obtain ⟨ha, hn⟩ := whole_first hl
      obtain ⟨hb, hk⟩ := whole_first hm
      cases i with
      | zero =>
        simp only [List.drop_zero, List.length_cons, List.take_succ_cons, List.cons.injEq] at h
        obtain ⟨rfl, h⟩ := h
        have : t.length = r.length := by omega
        rw [← this, List.take_length] at h
        rw [h]
      | succ j =>
        exfalso
        simp only [List.drop_succ_cons] at h
        have : a ∈ (t.drop j).take (a :: r).length := by rw [h]; simp
        have := whole_tails hm a (List.mem_of_mem_drop (List.mem_of_mem_take this))
        rw [ha] at this
        cases this

end Go.Proofs.Ytjjdgfjlpkhgcaa
end

section
namespace Go.Proofs.Ytjjdgfjlpkhgcaa
open Go.ChangeShapes Go.WideShapes Go.ChangeAt Go.RowKit

theorem made_size (w : World) (l : List Int) : (madeW w l).heap.size = w.heap.size + 1 := by simp [madeW]
theorem str_lies (w : World) (g off cap : Nat) (l : List Int) (h : Lies w g off l) :
    (convert 22 9 (.slice (some ⟨g, off, none⟩) l.length cap)).run Try.prog w = .ok (.string (strOfNums l)) w :=
  run_convert_bytes_arg w 22 5 Try.underlying22 Try.underlying5 g off l.length cap l rfl (fun i hi => (h i hi).1) 9 Try.underlying9
theorem str_bs (w : World) (a0 : Option Addr) (cap : Nat) (l : List Int) (h : Bs w a0 l) :
    (convert 22 9 (.slice a0 l.length cap)).run Try.prog w = .ok (.string (strOfNums l)) w := by
  rcases h with rfl | ⟨g, off, rfl, hL⟩
  · cases a0 with
    | none => exact run_convert_bytes_nil w 22 5 Try.underlying22 Try.underlying5 0 cap 9 Try.underlying9
    | some a =>
      obtain ⟨g, off, spot⟩ := a
      have hl : (loadCells ⟨g, off, spot⟩ 0).run Try.prog w = .ok (([] : List Int).map (Value.int .u8)).toArray w := by
        have := run_loadCells_list (P := Try.prog) w ⟨g, off, spot⟩ [] (fun j v hj => by simp at hj)
        simpa using this
      show (convert 22 9 (.slice (some ⟨g, off, spot⟩) 0 cap)).run Try.prog w = _
      rw [run_convert_bytes_string w 22 9 5 _ 0 cap Try.underlying22 Try.underlying5 Try.underlying9, run_bytesToString w _ 0 cap [] hl]
      rfl
  · exact str_lies w g off cap l hL

end Go.Proofs.Ytjjdgfjlpkhgcaa
end

section
namespace Go.Proofs.Ytjjdgfjlpkhgcaa
open Go.ChangeShapes Go.WideShapes Go.ChangeAt Go.RowKit

/-- v is a []byte of the call's own, from block B on, that holds the bytes l -/
def Own (w : World) (B : Nat) (v : Value) (l : List Int) : Prop := w.ownsRow B 5 1 v l.length (l.map (Value.int .u8))

theorem grown_trans {w w1 w2 : World} {g : Nat} {row : Option Nat} (h : w.grownBy w1 (some g)) (h2 : w1.grownBy w2 row) (hr : ∀ k, row = some k → k = g ∨ w.heap.size ≤ k) : w.grownBy w2 (some g) := by
  refine ⟨h2.os.trans h.os, h2.tape.trans h.tape, h2.output.trans h.output, Nat.le_trans h.size h2.size, fun k hk hne => ?_⟩
  refine (h2.block k (Nat.lt_of_lt_of_le hk h.size) (fun e => ?_)).trans (h.block k hk hne)
  rcases hr k e.symm with rfl | h'
  · exact hne rfl
  · omega
theorem grown_refl (w : World) (row : Option Nat) : w.grownBy w row := ⟨rfl, rfl, rfl, Nat.le_refl _, fun _ _ _ => rfl⟩
theorem grown_set (w : World) (g k : Nat) (u : Value) : w.grownBy (w.setCell ⟨g, k, none⟩ u) (some g) :=
  ⟨rfl, rfl, rfl, by simp [World.setCell], fun j _ hne => Below.heap_setCell _ _ _ _ (fun e => hne (by rw [e]))⟩
theorem grown_drew {w w1 : World} {row : Option Nat} (h : w.grownBy w1 row) : w.grownBy w1.drew row := ⟨h.os, h.tape, h.output, h.size, h.block⟩
theorem Lies.lt {w : World} {g off : Nat} {l : List Int} (h : Lies w g off l) (hl : 0 < l.length) : g < w.heap.size := by
  have := (h 0 hl).1
  rcases Nat.lt_or_ge g w.heap.size with h' | h'
  · exact h'
  · simp [World.cell?, Array.getElem?_eq_none h'] at this
theorem Lies.grown {w w' : World} {row : Option Nat} {g off : Nat} {l : List Int} (h : Lies w g off l) (hg : w.grownBy w' row) (hne : some g ≠ row) : Lies w' g off l :=
  fun i hi => ⟨hg.cell (a := ⟨g, off + i, none⟩) (h i hi).1 hne, (h i hi).2⟩
theorem Lies.pre {w : World} {g off : Nat} {l m : List Int} (h : Lies w g off (l ++ m)) : Lies w g off l := by
  intro i hi
  have := h i (by simp; omega)
  rwa [show (l ++ m).getD i 0 = l.getD i 0 by simp [List.getD, List.getElem?_append_left hi]] at this

theorem Own.lies {w : World} {B g cap n : Nat} {l : List Int} (h : Own w B (.slice (some ⟨g, 0, none⟩) n cap) l) (hl : ∀ x ∈ l, 0 ≤ x ∧ x ≤ 255) : Lies w g 0 l := by
  intro i hi
  refine ⟨?_, ?_⟩
  · have := World.ownsRow.cells h rfl i (.int .u8 (l.getD i 0)) (by simp [List.getElem?_eq_getElem hi, List.getD])
    rwa [Addr.add_lit] at this
  · have := hl _ (List.getElem_mem hi)
    simpa [List.getD, List.getElem?_eq_getElem hi] using this
theorem Own.form {w : World} {B : Nat} {v : Value} {l : List Int} (h : Own w B v l) (hn : 0 < l.length) : ∃ g cap, v = .slice (some ⟨g, 0, none⟩) l.length cap ∧ B ≤ g ∧ g < w.heap.size ∧ l.length ≤ cap := by
  rcases h.2 with ⟨_, h0⟩ | ⟨g, cap, cur, hv, hb, hg, hc, _⟩
  · omega
  · refine ⟨g, cap, hv, hb, ?_, hc⟩
    rcases Nat.lt_or_ge g w.heap.size with hlt | hge
    · exact hlt
    · rw [Array.getElem?_eq_none hge] at hg; cases hg
theorem Own.kept {w w' : World} {B : Nat} {v : Value} {l : List Int} {row : Option Nat} (h : Own w B v l) (hg : w.grownBy w' row) (hne : v.ownBlock = none ∨ v.ownBlock ≠ row) : Own w' B v l := World.ownsRow.kept h hg hne

/-- one cell of the own row is written -/
theorem Own.cell {w : World} {B g cap n : Nat} {l : List Int} (h : Own w B (.slice (some ⟨g, 0, none⟩) n cap) l) (k : Nat) (hk : k < l.length) : (w.cell? ⟨g, k, none⟩).isSome = true ∧ w.frozen? ⟨g, k, none⟩ = false := by
  rcases h.2 with ⟨h0, _⟩ | ⟨g', cap', cur, hv, _, hg, hc, _, hs, _⟩
  · cases h0
  · cases hv
    refine ⟨?_, ?_⟩
    · simp only [World.cell?, hg]
      simp; omega
    · simp [World.frozen?, hg]
theorem Own.set {w : World} {B g cap n : Nat} {l : List Int} (h : Own w B (.slice (some ⟨g, 0, none⟩) n cap) l) (k : Nat) (x : Int) : Own (w.setCell ⟨g, k, none⟩ (.int .u8 x)) B (.slice (some ⟨g, 0, none⟩) n cap) (l.set k x) := by
  have hh := h
  rcases h.2 with ⟨h0, _⟩ | ⟨g', cap', cur, hv, hb, hg, hc, hm, hs, ht⟩
  · cases h0
  · cases hv
    refine ⟨by simp, Or.inr ⟨g, cap, cur.setIfInBounds k (.int .u8 x), ?_, hb, ?_, ?_, hm, by simpa using hs, ?_⟩⟩
    · simp
    · have hlt : g < w.heap.size := by
        rcases Nat.lt_or_ge g w.heap.size with h' | h'
        · exact h'
        · rw [Array.getElem?_eq_none h'] at hg; cases hg
      simp only [World.setCell, Array.getElem?_modify, if_true, hg, Option.map_some]
      simp
    · simpa using hc
    · simp only [Nat.mul_one, List.length_set] at ht ⊢
      rw [Array.toList_setIfInBounds, List.take_set, ht, List.map_set]

/-- append(v, b) where v is the call's own -/
theorem run_push (w : World) (B : Nat) (v : Value) (l : List Int) (b : Int) (ty : TypeId) (h : Own w B v l) (hn : l.length + 1 ≤ 140737488355328) (hB : B ≤ w.heap.size) :
    ∃ g cap w', (Builtin.append_ #[22, 22] ty #[v, .slice (some ⟨w.heap.size, 0, none⟩) 1 1]).run Try.prog (w.alloc (.cells #[.int .u8 b] 5)) = .ok (.slice (some ⟨g, 0, none⟩) (l.length + 1) cap) w' ∧
      Own w' B (.slice (some ⟨g, 0, none⟩) (l.length + 1) cap) (l ++ [b]) ∧ (w.alloc (.cells #[.int .u8 b] 5)).grownBy w' v.ownBlock ∧ (v.ownBlock = some g ∨ g = w.heap.size + 1) ∧ g < w'.heap.size ∧ l.length + 1 ≤ cap := by
  obtain ⟨i, hi, hz, hs, hby⟩ := info_u8
  obtain ⟨g, cap, w', hr, ho, hg, hat, hlt⟩ := run_append_lies (P := Try.prog) (w.alloc (.cells #[.int .u8 b] 5)) 22 ty B 5 i (.int .u8 0) 1 1 Try.underlying22 hi hz hs hby rfl (by decide)
    v l.length (l.map (Value.int .u8)) (World.ownsRow.alloc h _) ⟨w.heap.size, 0, none⟩ 1 1 [.int .u8 b] rfl
    (fun j u hj => by
      cases j with
      | zero =>
        simp at hj
        subst hj
        rw [Addr.add_lit]
        exact (World.cell?_alloc_mark w _ _ (0, 0) 0).trans rfl
      | succ j => simp at hj)
    (fun u hu => by simp at hu; subst hu; rfl) (by decide) (by unfold maxLen; omega) (by omega) (by simp; omega) (w.heap.size + 1) (by simp)
  have hown : Own w' B (.slice (some ⟨g, 0, none⟩) (l.length + 1) cap) (l ++ [b]) := by
    unfold Own
    simpa using ho
  obtain ⟨g', cap', e, _, _, hc⟩ := hown.form (by simp)
  refine ⟨g, cap, w', hr, hown, hg, hat, hlt, ?_⟩
  simp only [Value.slice.injEq] at e
  simp at hc
  omega

/-- append([]byte{}, b...), told as a row of the call's own -/
theorem run_copy_own (w : World) (a0 : Option Addr) (cap : Nat) (l : List Int) (ty : TypeId) (hB : IsB w a0 cap l) :
    ∃ v' w', (Builtin.append_ #[22, 22] ty #[.slice (some ⟨w.heap.size, 0, none⟩) 0 0, .slice a0 l.length cap]).run Try.prog (w.alloc (.cells #[] 5)) = .ok v' w' ∧
      Own w' w.heap.size v' l ∧ Below w.heap.size w w' := by
  obtain ⟨i, hi, hz, hs, hby⟩ := info_u8
  have hb0 : Below w.heap.size w (w.alloc (.cells #[] 5)) := (Below.refl _ _).alloc (Nat.le_refl _) _
  have hown : (w.alloc (.cells #[] 5)).ownsRow w.heap.size 5 1 (.slice (some ⟨w.heap.size, 0, none⟩) 0 0) 0 [] := World.ownsRow_made w #[] 0 (Nat.le_refl _) (Nat.zero_le _) rfl
  obtain ⟨h1, h2, h3, h4⟩ := hB.below hb0 (Nat.le_refl _)
  rcases Nat.eq_zero_or_pos l.length with h0 | h0
  · obtain rfl : l = [] := List.length_eq_zero_iff.1 h0
    refine ⟨.slice (some ⟨w.heap.size, 0, none⟩) 0 0, _, ?_, hown, hb0⟩
    exact run_append_room_src (P := Try.prog) (w.alloc (.cells #[] 5)) 22 22 ty 5 i Try.underlying22 hi w.heap.size 0 0 0 (.slice a0 0 cap) 0 [] (by rw [hs]; exact src_none _ a0 cap) (Nat.le_refl _) (fun j hj => absurd hj (Nat.not_lt_zero _)) (fun j hj => absurd hj (Nat.not_lt_zero _))
  · rcases h3 with h3 | ⟨g, off, rfl, hL⟩
    · rw [h3] at h0; cases h0
    have src := src_some _ g off cap l hL
    obtain ⟨v', w', hr, ho, hg, _⟩ := run_append_own (P := Try.prog) (w.alloc (.cells #[] 5)) w.heap.size 22 ty 5 i (.int .u8 0) 1 1 Try.underlying22 hi hz hs hby rfl (by decide)
      _ 0 [] hown ⟨g, off, none⟩ l.length cap (l.map (Value.int .u8)) (by simp)
      (fun j u h => by
        have hj : j < l.length := by
          rcases Nat.lt_or_ge j l.length with h' | h'
          · exact h'
          · rw [List.getElem?_eq_none (by simpa using h')] at h; cases h
        rw [Addr.add_lit, (hL j hj).1]
        simp [List.getElem?_eq_getElem hj] at h
        simp [List.getD, List.getElem?_eq_getElem hj, h])
      src.one (by unfold maxLen; omega) (by omega) (by simp)
    refine ⟨v', w', hr, ?_, hb0.grown hg (by simp) (fun k e => by cases e; exact Nat.le_refl _)⟩
    unfold Own
    simpa using ho

theorem src_cells {w : World} {g off : Nat} {m : List Int} (hL : Lies w g off m) : ∀ j u, (m.map (Value.int .u8))[j]? = some u → w.cell? ((⟨g, off, none⟩ : Addr).add j) = some u := by
  intro j u h
  have hj : j < m.length := by
    rcases Nat.lt_or_ge j m.length with h' | h'
    · exact h'
    · rw [List.getElem?_eq_none (by simpa using h')] at h; cases h
  rw [Addr.add_lit, (hL j hj).1]
  simp [List.getElem?_eq_getElem hj] at h
  simp [List.getD, List.getElem?_eq_getElem hj, h]

/-- append(v, m...) where v is the call's own -/
theorem run_more (w : World) (B g c : Nat) (l m : List Int) (a0 : Option Addr) (cap : Nat) (ty : TypeId) (h : Own w B (.slice (some ⟨g, 0, none⟩) l.length c) l) (hm : IsB w a0 cap m) (hB : B ≤ w.heap.size) (hn : l.length + m.length ≤ 140737488355328) :
    ∃ g' c' w', (Builtin.append_ #[22, 22] ty #[.slice (some ⟨g, 0, none⟩) l.length c, .slice a0 m.length cap]).run Try.prog w = .ok (.slice (some ⟨g', 0, none⟩) (l.length + m.length) c') w' ∧
      Own w' B (.slice (some ⟨g', 0, none⟩) (l.length + m.length) c') (l ++ m) ∧ Below B w w' ∧ B ≤ g' ∧ g' < w'.heap.size := by
  obtain ⟨i, hi, hz, hs, hby⟩ := info_u8
  have hgB : B ≤ g ∧ g < w.heap.size := World.ownsRow.lt h g rfl
  rcases Nat.eq_zero_or_pos m.length with h0 | h0
  · obtain rfl : m = [] := List.length_eq_zero_iff.1 h0
    have hlc : l.length ≤ c := by
      rcases h.2 with ⟨hv, _⟩ | ⟨g1, cap1, cur, hv, _, _, hc, _⟩
      · cases hv
      · cases hv; exact hc
    refine ⟨g, c, w, ?_, by simpa using h, Below.refl _ _, hgB.1, hgB.2⟩
    exact run_append_room_src (P := Try.prog) w 22 22 ty 5 i Try.underlying22 hi g 0 l.length c (.slice a0 0 cap) 0 [] (by rw [hs]; exact src_none _ a0 cap) (by omega) (fun j hj => absurd hj (Nat.not_lt_zero _)) (fun j hj => absurd hj (Nat.not_lt_zero _))
  · rcases hm.2.2.1 with h3 | ⟨g0, off, rfl, hL⟩
    · rw [h3] at h0; cases h0
    obtain ⟨g', c', w', hr, ho, hg, hat, hlt⟩ := run_append_lies (P := Try.prog) w 22 ty B 5 i (.int .u8 0) 1 1 Try.underlying22 hi hz hs hby rfl (by decide)
      _ l.length (l.map (Value.int .u8)) h ⟨g0, off, none⟩ m.length cap (m.map (Value.int .u8)) (by simp) (src_cells hL) (src_some _ g0 off cap m hL).one h0 (by unfold maxLen; omega) (by omega) hB (w.heap.size) (by omega)
    have hown : Own w' B (.slice (some ⟨g', 0, none⟩) (l.length + m.length) c') (l ++ m) := by
      unfold Own
      simpa using ho
    exact ⟨g', c', w', hr, hown, (Below.refl B w).grown hg hB (fun k e => by cases e; exact hgB.1), (World.ownsRow.lt hown g' rfl).1, (World.ownsRow.lt hown g' rfl).2⟩

end Go.Proofs.Ytjjdgfjlpkhgcaa
end
