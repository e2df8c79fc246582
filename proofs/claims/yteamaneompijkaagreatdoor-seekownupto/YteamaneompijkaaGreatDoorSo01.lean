/- Contracts of leadBits and Value of the program over a []byte that lies in memory: each answers by the plain functions; Value only draws. · awake answers true wherever the table holds the classes, and changes nothing that was there. · append([]byte{}, b...) of a []byte that came in: a []byte of the same bytes, in memory that was not there before. · Plain facts about encodings: what an encoding is whole for, its value, its length, that no encoding stands within another, and that strings of bytes are alike just if the bytes are. · Bytes answers in new memory, told without naming the world; and the string of bytes that lie in memory. · Rows of bytes that the call itself made: how they stay, are written, and grow by one byte. · Rows that may be written and grown whatever they hold; bytes are appended to one's own. -/
import Derived.Test.YteamaneompijkaaGreatDoorSo00
import Derived.Lib.SlBytesConst
import Derived.Laws.BytesArg
import Derived.Deep.AppendSrc
import Derived.Lib.Bytes
import Derived.Laws.AppendOwn
import Derived.Deep.AppendLies
namespace Go.Proofs.YteamaneompijkaaGreatDoor
set_option maxRecDepth 100000
set_option maxHeartbeats 8000000
section
open Go.ChangeShapes Go.WideShapes Go.ChangeAt Go.RowKit
theorem lead_ways {a v : Int} (h : (need a == 2) = true ∧ v = a % 32 ∨ (need a == 2) = false ∧ ((need a == 3) = true ∧ v = a % 16 ∨ (need a == 3) = false ∧ ((need a == 4) = true ∧ v = a % 8 ∨ (need a == 4) = false ∧ v = a))) : v = lead a := by
  simp only [beq_iff_eq, beq_eq_false_iff_ne] at h
  rcases h with ⟨h, rfl⟩ | ⟨h2, ⟨h, rfl⟩ | ⟨h3, ⟨h, rfl⟩ | ⟨h4, rfl⟩⟩⟩
  · exact (lead_2 h).symm
  · exact (lead_3 h).symm
  · exact (lead_4 h).symm
  · exact (lead_1 h2 h3 h4).symm
theorem leadBits_any (a : Int) (w : World) (h0 : 0 ≤ a) (h1 : a ≤ 255) (hT : Tab w) :
    Calls Tryz.prog 125 #[.int .u8 a] w fun e w' => e = .returned (.int .i32 (lead a)) ∧ w' = w := by
  go_enter Tryz.func125, Tryz.ntmps125
  go_wp2_with (go_at_call 100; refine (Need_any _ _ h0 h1 hT).mono ?_; rintro e w' ⟨rfl, rfl⟩)
  all_goals go_ret
  all_goals refine ⟨ret_int (lead_ways ?_), rfl⟩
  all_goals simp [*]
theorem whole_need {a : Int} {r : List Int} (h : whole (a :: r) = true) : (r.length : Int) + 1 = need a := by
  by_cases hn : (r.length : Int) + 1 = need a
  · exact hn
  · rw [whole_len hn] at h; cases h
theorem Value_no (a0 : Option Addr) (cap : Nat) (l : List Int) (w : World) (hm : l.length ≤ maxLen) (hcap : l.length ≤ cap) (hB : Bs w a0 l) (hT : Tab w) (h : whole l = false) :
    Calls Tryz.prog 103 #[.slice a0 l.length cap] w fun e w' => e = .returned (.int .i32 (-1)) ∧ ∃ n, w' = w.drewN n := by
  have hw := Whole_at a0 cap l w hm hcap hB hT
  rw [h] at hw
  have HW := hide hw
  clear hw h hB
  unfold maxLen at hm
  generalize l.length = n at *
  go_enter Tryz.func103, Tryz.ntmps103
  go_wp2_with (go_at_call 101; refine (unhide HW).mono ?_; rintro e w' ⟨rfl, n, rfl⟩)
  go_ret
  exact ⟨rfl, _, rfl⟩
theorem Value_one (g off cap : Nat) (a : Int) (w : World) (hcap : 1 ≤ cap) (hL : Lies w g off [a]) (hT : Tab w) (h : whole [a] = true) :
    Calls Tryz.prog 103 #[.slice (some ⟨g, off, none⟩) 1 cap] w fun e w' => e = .returned (.int .i32 (lead a)) ∧ ∃ n, w' = w.drewN n := by
  have hw := Whole_at (some ⟨g, off, none⟩) cap [a] w (by simp [maxLen]) hcap (Or.inr ⟨g, off, rfl, hL⟩) hT
  rw [h] at hw
  have HW := hide hw
  clear hw h
  obtain ⟨hc, x0, x1⟩ := hL.head
  go_enter Tryz.func103, Tryz.ntmps103
  go_wp2_with (first
    | (go_at_call 101; refine (unhide HW).mono ?_; rintro e w' ⟨rfl, n, rfl⟩)
    | (go_at_call 125; refine (leadBits_any _ _ x0 x1 (Tab.drewN hT _)).mono ?_; rintro e w' ⟨rfl, rfl⟩))
  all_goals
    go_loop [3, 16] (fun v i => v = .int .i32 (lead a) ∧ i = .int .i64 0) (fun _ _ => 0)
    case atStart => exact ⟨rfl, rfl⟩
    case round =>
      obtain ⟨rfl, rfl⟩ := hrel
      go_wp2
      go_ret
      exact ⟨rfl, _, rfl⟩
theorem Value_more (g off cap : Nat) (a : Int) (r : List Int) (w : World) (hm : r.length + 1 ≤ maxLen) (hcap : r.length + 1 ≤ cap) (hr : 0 < r.length) (hL : Lies w g off (a :: r)) (hT : Tab w) (h : whole (a :: r) = true) :
    Calls Tryz.prog 103 #[.slice (some ⟨g, off, none⟩) (r.length + 1) cap] w fun e w' => e = .returned (.int .i32 (fold (lead a) r)) ∧ ∃ n, w' = w.drewN n := by
  have hw := Whole_at (some ⟨g, off, none⟩) cap (a :: r) w hm hcap (Or.inr ⟨g, off, rfl, hL⟩) hT
  rw [h] at hw
  have HW := hide hw
  have hn := whole_need h
  have HN := hide hn
  clear hw h hn
  obtain ⟨hc, x0, x1⟩ := hL.head
  have hL1 := hL.tail
  have hc1 : ¬ cap = 1 := by omega
  unfold maxLen at hm
  simp only [List.length_cons] at HW
  generalize hlen : r.length = m at *
  have Hlen := hide hlen
  clear hlen
  go_enter Tryz.func103, Tryz.ntmps103
  go_wp2_with (first
    | (go_at_call 101; refine (unhide HW).mono ?_; rintro e w' ⟨rfl, n, rfl⟩)
    | (go_at_call 125; refine (leadBits_any _ _ x0 x1 (Tab.drewN hT _)).mono ?_; rintro e w' ⟨rfl, rfl⟩))
  go_loop [3, 16] (fun v i => ∃ k : Nat, k ≤ m ∧ i = .int .i64 k ∧ v = .int .i32 (fold (lead a) (r.take k))) (fun _ i => m - (intOf i).toNat)
  case atStart => exact ⟨0, Nat.zero_le _, rfl, rfl⟩
  case round =>
    obtain ⟨k, hk, rfl, rfl⟩ := hrel
    by_cases hlt : k < m
    · obtain ⟨hc, y0, y1⟩ := hL1 k (by rw [unhide Hlen]; exact hlt)
      have hft := fold_take (lead a) r k (by rw [unhide Hlen]; exact hlt)
      obtain ⟨b0, b1⟩ := fold_small (a := a) (r := r) (by rw [unhide Hlen]; exact unhide HN) k (by rw [unhide Hlen]; exact hlt)
      have HFT := hide hft
      clear hft
      generalize hv : fold (lead a) (r.take k) = v at b0 b1 ⊢
      have HV := hide hv
      clear hv
      generalize hy : r.getD k 0 = y at hc y0 y1
      have HY := hide hy
      clear hy
      go_wp2
      exact ⟨⟨k + 1, by omega, by go_num, by rw [unhide HFT, unhide HV, unhide HY]⟩, by simp [intOf]; omega⟩
    · go_wp2
      go_ret
      exact ⟨ret_int (by rw [List.take_of_length_le (by rw [unhide Hlen]; omega)]), _, rfl⟩
theorem value_no {l : List Int} (h : whole l = false) : value l = -1 := by
  cases l with
  | nil => rfl
  | cons a r => simp [value, h]
theorem value_yes {a : Int} {r : List Int} (h : whole (a :: r) = true) : value (a :: r) = fold (lead a) r := by simp [value, h]
theorem Value_at (a0 : Option Addr) (cap : Nat) (l : List Int) (w : World) (hm : l.length ≤ maxLen) (hcap : l.length ≤ cap) (hB : Bs w a0 l) (hT : Tab w) :
    Calls Tryz.prog 103 #[.slice a0 l.length cap] w fun e w' => e = .returned (.int .i32 (value l)) ∧ ∃ n, w' = w.drewN n := by
  cases h : whole l with
  | false => rw [value_no h]; exact Value_no a0 cap l w hm hcap hB hT h
  | true =>
    match l with
    | [] => cases h
    | [a] =>
      rcases hB with hn | ⟨g, off, rfl, hL⟩
      · cases hn
      rw [value_yes h]
      exact Value_one g off cap a w hcap hL hT h
    | a :: b :: t =>
      rcases hB with hn | ⟨g, off, rfl, hL⟩
      · cases hn
      rw [value_yes h]
      exact Value_more g off cap a (b :: t) w hm hcap (by simp) hL hT h
end
section
open Go.ChangeShapes Go.WideShapes Go.ChangeAt Go.RowKit
theorem Tab.size {w : World} (h : Tab w) : 0 < w.heap.size := by
  have := h 0 (by omega) (by omega)
  rcases Nat.lt_or_ge 0 w.heap.size with e | e
  · exact e
  · simp [World.cell?, Array.getElem?_eq_none e] at this
theorem Tab.below {w w' : World} {B : Nat} (h : Tab w) (hb : Below B w w') (hB : 0 < B) : Tab w' := fun b h0 h1 => (hb.cell (p := ⟨0, b.toNat, none⟩) hB).trans (h b h0 h1)
theorem Tab.alloc {w : World} (h : Tab w) (o : Obj) : Tab (w.alloc o) := h.below ((Below.refl w.heap.size w).alloc (Nat.le_refl _) o) h.size
theorem Lies.below {w w' : World} {B g off : Nat} {l : List Int} (h : Lies w g off l) (hb : Below B w w') (hB : g < B) : Lies w' g off l :=
  fun i hi => ⟨(hb.cell (p := ⟨g, off + i, none⟩) hB).trans (h i hi).1, (h i hi).2⟩
theorem Below.drewN {B : Nat} {a w : World} (h : Below B a w) (n : Nat) : Below B a (w.drewN n) := ⟨h.os, h.tape, h.output, h.size, h.block⟩
theorem lies_new (w : World) (l : List Int) (m : Nat × Nat) (hl : ∀ x ∈ l, 0 ≤ x ∧ x ≤ 255) : Lies (w.alloc (.cells (l.map (Value.int .u8)).toArray 5 m)) w.heap.size 0 l := by
  intro i hi
  refine ⟨?_, ?_⟩
  · rw [Nat.zero_add, World.cell?_alloc_mark]
    simp [List.getElem?_eq_getElem hi, List.getD]
  · have := hl _ (List.getElem_mem hi)
    simpa [List.getD, List.getElem?_eq_getElem hi] using this
theorem quiet_below {w w' : World} (h : ∃ n, w' = w.drewN n) (B : Nat) : Below B w w' := by
  obtain ⟨n, rfl⟩ := h
  exact Below.drewN (Below.refl B w) n
end
section
open Go.ChangeShapes Go.WideShapes Go.ChangeAt Go.RowKit
theorem IsB.below {w w' : World} {B : Nat} {a0 : Option Addr} {cap : Nat} {l : List Int} (h : IsB w a0 cap l) (hb : Below B w w') (hB : w.heap.size ≤ B) : IsB w' a0 cap l := by
  obtain ⟨h1, h2, h3, h4⟩ := h
  refine ⟨h1, h2, ?_, h4⟩
  rcases h3 with h3 | ⟨g, off, rfl, hL⟩
  · exact Or.inl h3
  · cases l with
    | nil => exact Or.inl rfl
    | cons a r =>
      have hlt : g < w.heap.size := by
        have := hL.head.1
        rcases Nat.lt_or_ge g w.heap.size with h | h
        · exact h
        · simp [World.cell?, Array.getElem?_eq_none h] at this
      exact Or.inr ⟨g, off, rfl, hL.below hb (by omega)⟩
theorem info_u8 : ∃ i, Tryz.prog.info? 5 = some i ∧ i.zero = some (.int .u8 0) ∧ i.size = 1 ∧ i.bytes = 1 := by
  refine ⟨_, rfl, ?_, ?_, ?_⟩ <;> rfl
theorem wpList_append_known {P : Program} {ops : Array Oper} {rest : List Oper} {o : Oper} {a : Act} {Q : Exit → Act → World → Prop} {w : World} (hw : Region.wanted o (yielded ops a.tmps) = true) (s x : Operand) (t tx : TypeId)
    (ho : o.op = .call { callee := .builtin .append, args := #[s, x], argTypes := #[t, tx] }) (v u : Value) (hs : a.eval s = v) (hx : a.eval x = u) (v' : Value) (w' : World)
    (hr : (Builtin.append_ #[t, tx] o.type #[v, u]).run P w = .ok v' w') (h : wpList P ops Q rest (a.put o.dst v') w') : wpList P ops Q (o :: rest) a w := by
  unfold wpList
  rw [if_pos hw]
  left
  unfold Oper.wp execOp
  simp only [ho, resolve, invoke, builtin, Sem.run_bind, Sem.run_pure, Result.andThen_ok, List.map_toArray, List.map_cons, List.map_nil, hs, hx, hr]
  exact h
end
section
theorem enc_cases (r : Int) {p : List Int → Prop} (h1 : 0 ≤ r → r < 128 → p [r]) (h2 : 128 ≤ r → r < 2048 → p [192 + r / 64, 128 + r % 64])
    (h3 : 2048 ≤ r → r < 65536 → (r < 55296 ∨ 57343 < r) → p [224 + r / 4096, 128 + r / 64 % 64, 128 + r % 64])
    (h4 : 65536 ≤ r → r ≤ 1114111 → p [240 + r / 262144, 128 + r / 4096 % 64, 128 + r / 64 % 64, 128 + r % 64])
    (h5 : ¬ (0 ≤ r ∧ r < 55296 ∨ 57343 < r ∧ r ≤ 1114111) → p [239, 191, 189]) : p (enc r) := by
  by_cases hr : 0 ≤ r ∧ r < 55296 ∨ 57343 < r ∧ r ≤ 1114111
  · by_cases a1 : r < 128
    · rw [enc_1 (by omega) a1]; exact h1 (by omega) a1
    · by_cases a2 : r < 2048
      · rw [enc_2 (by omega) a2]; exact h2 (by omega) a2
      · by_cases a3 : r < 65536
        · rw [enc_3 (by omega) a3 (by omega)]; exact h3 (by omega) a3 (by omega)
        · rw [enc_4 (by omega) (by omega)]; exact h4 (by omega) (by omega)
  · rw [enc_bad hr]; exact h5 hr
theorem need_1' {a : Int} (h1 : a < 128) : need a = 1 := by unfold need; rw [if_pos h1]
theorem need_2' {a : Int} (h0 : 194 ≤ a) (h1 : a < 224) : need a = 2 := by unfold need; rw [if_neg (by omega), if_neg (by omega), if_pos h1]
theorem need_3' {a : Int} (h0 : 224 ≤ a) (h1 : a < 240) : need a = 3 := by unfold need; rw [if_neg (by omega), if_neg (by omega), if_neg (by omega), if_pos h1]
theorem need_4' {a : Int} (h0 : 240 ≤ a) (h1 : a < 245) : need a = 4 := by unfold need; rw [if_neg (by omega), if_neg (by omega), if_neg (by omega), if_neg (by omega), if_pos h1]
theorem sec_true {l b : Int} (h : 194 ≤ l ∧ l < 245 ∧ 128 ≤ b ∧ b < 192 ∧ (l = 224 → 160 ≤ b) ∧ (l = 237 → b ≤ 159) ∧ (l = 240 → 144 ≤ b) ∧ (l = 244 → b ≤ 143)) : sec l b = true := decide_eq_true h
theorem isTail_true {b : Int} (h : 128 ≤ b ∧ b < 192) : isTail b = true := decide_eq_true h
theorem isTail_false {b : Int} (h : ¬ (128 ≤ b ∧ b < 192)) : isTail b = false := decide_eq_false h
theorem whole_enc (r : Int) : whole (enc r) = true := by
  apply enc_cases r (p := fun l => whole l = true)
  · intro a b; exact whole_one (need_1' b)
  · intro a b
    rw [whole_more (by rw [need_2' (by omega) (by omega)]; rfl), sec_true (by omega)]; rfl
  · intro a b c
    rw [whole_more (by rw [need_3' (by omega) (by omega)]; rfl), sec_true (by omega)]
    simp only [List.all_cons, List.all_nil, isTail_true (b := 128 + r % 64) (by omega)]; rfl
  · intro a b
    rw [whole_more (by rw [need_4' (by omega) (by omega)]; rfl), sec_true (by omega)]
    simp only [List.all_cons, List.all_nil, isTail_true (b := 128 + r % 64) (by omega), isTail_true (b := 128 + r / 64 % 64) (by omega)]; rfl
  · intro a; rfl
theorem value_enc (r : Int) : value (enc r) = if isRune r then r else 65533 := by
  have hw := whole_enc r
  revert hw
  apply enc_cases r (p := fun l => whole l = true → value l = if isRune r then r else 65533)
  · intro a b hw
    rw [isRune_true (by omega), if_pos rfl]
    simp only [value, hw, if_true, fold]
    exact lead_1 (by rw [need_1' b]; omega) (by rw [need_1' b]; omega) (by rw [need_1' b]; omega)
  · intro a b hw
    rw [isRune_true (by omega), if_pos rfl]
    simp only [value, hw, if_true, fold]
    rw [lead_2 (need_2' (by omega) (by omega))]; omega
  · intro a b c hw
    rw [isRune_true (by omega), if_pos rfl]
    simp only [value, hw, if_true, fold]
    rw [lead_3 (need_3' (by omega) (by omega))]; omega
  · intro a b hw
    rw [isRune_true (by omega), if_pos rfl]
    simp only [value, hw, if_true, fold]
    rw [lead_4 (need_4' (by omega) (by omega))]; omega
  · intro a hw
    rw [isRune_false a, if_neg (by simp)]
    rfl
theorem bytes_inj {l m : List Int} (hl : ∀ x ∈ l, 0 ≤ x ∧ x ≤ 255) (hm : ∀ x ∈ m, 0 ≤ x ∧ x ≤ 255) (h1 : Lib.bytesOf l = Lib.bytesOf m) : l = m := by
  unfold Lib.bytesOf at h1
  induction l generalizing m with
  | nil => cases m with
    | nil => rfl
    | cons y m => simp at h1
  | cons x l ih => cases m with
    | nil => simp at h1
    | cons y m =>
      simp only [List.map_cons, List.cons.injEq] at h1
      have hx := hl x (by simp)
      have hy := hm y (by simp)
      have e : x = y := by
        have := congrArg UInt8.toNat h1.1
        simp at this
        omega
      rw [e, ih (fun z hz => hl z (by simp [hz])) (fun z hz => hm z (by simp [hz])) h1.2]
theorem str_beq {l m : List Int} (hl : ∀ x ∈ l, 0 ≤ x ∧ x ≤ 255) (hm : ∀ x ∈ m, 0 ≤ x ∧ x ≤ 255) : ((strOfNums l).toList == (strOfNums m).toList) = decide (l = m) := by
  rw [Lib.strOfNums_toList, Lib.strOfNums_toList]
  by_cases h : l = m
  · subst h; simp
  · rw [decide_eq_false h, beq_eq_false_iff_ne]
    exact fun e => h (bytes_inj hl hm e)
theorem whole_tails {a : Int} {r : List Int} (h : whole (a :: r) = true) : ∀ x ∈ r, isTail x = true := by
  cases r with
  | nil => simp
  | cons b t =>
    simp only [whole, Bool.and_eq_true, decide_eq_true_eq] at h
    obtain ⟨_, hs, ht⟩ := h
    intro x hx
    rcases List.mem_cons.1 hx with rfl | hx
    · have := of_decide_eq_true hs
      exact isTail_true ⟨this.2.2.1, this.2.2.2.1⟩
    · exact List.all_eq_true.1 ht x hx
theorem whole_first {a : Int} {r : List Int} (h : whole (a :: r) = true) : isTail a = false ∧ (r.length : Int) + 1 = need a := by
  simp only [whole, Bool.and_eq_true, decide_eq_true_eq] at h
  obtain ⟨h1, _⟩ := h
  refine ⟨isTail_false fun hh => ?_, h1⟩
  have : need a = 0 := by unfold need; rw [if_neg (by omega), if_pos (by omega)]
  omega
end
section
open Go.ChangeShapes Go.WideShapes Go.ChangeAt Go.RowKit
theorem str_lies (w : World) (g off cap : Nat) (l : List Int) (h : Lies w g off l) :
    (convert 30 9 (.slice (some ⟨g, off, none⟩) l.length cap)).run Tryz.prog w = .ok (.string (strOfNums l)) w :=
  run_convert_bytes_arg w 30 5 Tryz.underlying30 Tryz.underlying5 g off l.length cap l rfl (fun i hi => (h i hi).1) 9 Tryz.underlying9
theorem str_bs (w : World) (a0 : Option Addr) (cap : Nat) (l : List Int) (h : Bs w a0 l) :
    (convert 30 9 (.slice a0 l.length cap)).run Tryz.prog w = .ok (.string (strOfNums l)) w := by
  rcases h with rfl | ⟨g, off, rfl, hL⟩
  · cases a0 with
    | none => exact run_convert_bytes_nil w 30 5 Tryz.underlying30 Tryz.underlying5 0 cap 9 Tryz.underlying9
    | some a =>
      obtain ⟨g, off, spot⟩ := a
      have hl : (loadCells ⟨g, off, spot⟩ 0).run Tryz.prog w = .ok (([] : List Int).map (Value.int .u8)).toArray w := by
        have := run_loadCells_list (P := Tryz.prog) w ⟨g, off, spot⟩ [] (fun j v hj => by simp at hj)
        simpa using this
      show (convert 30 9 (.slice (some ⟨g, off, spot⟩) 0 cap)).run Tryz.prog w = _
      rw [run_convert_bytes_string w 30 9 5 _ 0 cap Tryz.underlying30 Tryz.underlying5 Tryz.underlying9, run_bytesToString w _ 0 cap [] hl]
      rfl
  · exact str_lies w g off cap l hL
end
section
open Go.ChangeShapes Go.WideShapes Go.ChangeAt Go.RowKit
def Own (w : World) (B : Nat) (v : Value) (l : List Int) : Prop := w.ownsRow B 5 1 v l.length (l.map (Value.int .u8))
theorem Lies.lt {w : World} {g off : Nat} {l : List Int} (h : Lies w g off l) (hl : 0 < l.length) : g < w.heap.size := by
  have := (h 0 hl).1
  rcases Nat.lt_or_ge g w.heap.size with h' | h'
  · exact h'
  · simp [World.cell?, Array.getElem?_eq_none h'] at this
theorem Own.lies {w : World} {B g cap n : Nat} {l : List Int} (h : Own w B (.slice (some ⟨g, 0, none⟩) n cap) l) (hl : ∀ x ∈ l, 0 ≤ x ∧ x ≤ 255) : Lies w g 0 l := by
  intro i hi
  refine ⟨?_, ?_⟩
  · have := World.ownsRow.cells h rfl i (.int .u8 (l.getD i 0)) (by simp [List.getElem?_eq_getElem hi, List.getD])
    rwa [Addr.add_lit] at this
  · have := hl _ (List.getElem_mem hi)
    simpa [List.getD, List.getElem?_eq_getElem hi] using this
theorem Own.kept {w w' : World} {B : Nat} {v : Value} {l : List Int} {row : Option Nat} (h : Own w B v l) (hg : w.grownBy w' row) (hne : v.ownBlock = none ∨ v.ownBlock ≠ row) : Own w' B v l := World.ownsRow.kept h hg hne
end
section
open Go.ChangeShapes Go.WideShapes Go.ChangeAt Go.RowKit
theorem setCells_one (w : World) (b o : Nat) (v : Value) : w.setCells b o [v] = w.setCell ⟨b, o, none⟩ v := rfl
theorem cell_set {w : World} {g k : Nat} {v : Value} (h : (w.cell? ⟨g, k, none⟩).isSome = true) (j : Nat) : (w.setCell ⟨g, k, none⟩ v).cell? ⟨g, j, none⟩ = if j = k then some v else w.cell? ⟨g, j, none⟩ := by
  rw [← setCells_one]
  by_cases hjk : j = k
  · subst hjk
    rw [if_pos rfl]
    have := World.cell?_setCells_in g [v] j w (fun i hi => by obtain rfl : i = 0 := by simpa using hi
                                                              exact h) 0 (by simp)
    simpa using this
  · rw [if_neg hjk]
    exact World.cell?_setCells_out g [v] k w ⟨g, j, none⟩ (fun _ _ => by simp; omega)
theorem frozen_set {w : World} {g k : Nat} {v : Value} (j : Nat) : (w.setCell ⟨g, k, none⟩ v).frozen? ⟨g, j, none⟩ = w.frozen? ⟨g, j, none⟩ := by
  rw [← setCells_one]
  exact World.frozen?_setCells g [v] k w ⟨g, j, none⟩
theorem size_set (w : World) (a : Addr) (v : Value) : (w.setCell a v).heap.size = w.heap.size := by simp [World.setCell]
theorem Own.below {w w' : World} {B : Nat} {v : Value} {l : List Int} (h : Own w B v l) (hb : Below w.heap.size w w') : Own w' B v l := h.kept (row := none) ⟨hb.os, hb.tape, hb.output, hb.size, fun k hk _ => hb.block k hk⟩ (Classical.em _)
end
end Go.Proofs.YteamaneompijkaaGreatDoor
