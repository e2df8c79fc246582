/- Layer 14, plain: the document's book: place by place what a delta puts, and whether it drops the byte behind it. · Layer 14, the document's Build (written by wip/tools/sgq.py). -/
import Derived.Test.YtjjdgfjlpkhgcaaMg30
import Derived.Test.YtjjdgfjlpkhgcaaMg11
import Derived.Test.YtjjdgfjlpkhgcaaMg27

section
namespace Go.Proofs.Ytjjdgfjlpkhgcaa

def bkH : List Atm → List Int
  | .p x :: a => x :: bkH a
  | _ => []
def bkT : List Atm → List (List Int)
  | [] => []
  | .p _ :: a => bkT a
  | .k :: a => bkH a :: bkT a
  | .d :: a => bkH a :: bkT a
def bkP (a : List Atm) : List (List Int) := bkH a :: bkT a
def bkD : List Atm → List Bool
  | [] => []
  | .p _ :: a => bkD a
  | .k :: a => false :: bkD a
  | .d :: a => true :: bkD a
theorem bkT_len : ∀ a, (bkT a).length = frA a
  | [] => rfl
  | .p _ :: a => by simp only [bkT, frA]; exact bkT_len a
  | .k :: a => by simp only [bkT, frA, List.length_cons]; rw [bkT_len a]; try omega
  | .d :: a => by simp only [bkT, frA, List.length_cons]; rw [bkT_len a]; try omega
theorem bkP_len (a : List Atm) : (bkP a).length = frA a + 1 := by simp [bkP, bkT_len]
theorem bkD_len : ∀ a, (bkD a).length = frA a
  | [] => rfl
  | .p _ :: a => by simp only [bkD, frA]; exact bkD_len a
  | .k :: a => by simp only [bkD, frA, List.length_cons]; rw [bkD_len a]; try omega
  | .d :: a => by simp only [bkD, frA, List.length_cons]; rw [bkD_len a]; try omega
def slotA (f : Bool) (x y : List Int) : List Atm := if f then y.map .p ++ List.replicate x.length .k else List.replicate x.length .k ++ y.map .p
def midA (a b : List Bool) (i : Nat) : List Atm := if i < a.length then (if a.getD i false then [] else if b.getD i false then [.d] else [.k]) else []
def plcA (f : Bool) (a b : List Atm) (i : Nat) : List Atm := slotA f ((bkP a).getD i []) ((bkP b).getD i []) ++ midA (bkD a) (bkD b) i
theorem fm_zero {α : Type} (g : Nat → List α) (m : Nat) : (List.range (m + 1)).flatMap g = g 0 ++ (List.range m).flatMap fun i => g (i + 1) := by
  rw [List.range_succ_eq_map, List.flatMap_cons, List.flatMap_map]
theorem fm_last {α : Type} (g : Nat → List α) (m : Nat) : (List.range (m + 1)).flatMap g = (List.range m).flatMap g ++ g m := by
  rw [List.range_succ, List.flatMap_append]; simp
theorem puts_bk : ∀ b : List Atm, frA b = 0 → putsA b = (bkH b).map .p
  | [], _ => rfl
  | .p y :: b, h => by
    have := puts_bk b (by simpa [frA] using h)
    simp only [putsA, bkH, List.map_cons]
    rw [this]
  | .k :: b, h => by simp [frA] at h
  | .d :: b, h => by simp [frA] at h
theorem slot_p (f : Bool) (y : Int) (x t : List Int) (h : f = true ∨ x = []) : slotA f x (y :: t) = .p y :: slotA f x t := by
  unfold slotA
  cases f with
  | true => simp
  | false =>
    rcases h with h | h
    · cases h
    · rw [h]; simp
theorem slot_k (f : Bool) (x : Int) (s t : List Int) (h : f = false ∨ t = []) : slotA f (x :: s) t = .k :: slotA f s t := by
  unfold slotA
  cases f with
  | false => simp [List.replicate_succ]
  | true =>
    rcases h with h | h
    · cases h
    · rw [h]; simp [List.replicate_succ]
theorem slot_0 (f : Bool) : slotA f [] [] = [] := by cases f <;> rfl
theorem bkH_no {b : List Atm} (h : ∀ y r, b ≠ .p y :: r) : bkH b = [] := by
  cases b with
  | nil => rfl
  | cons z b => cases z with
    | p y => exact absurd rfl (h y b)
    | k => rfl
    | d => rfl
theorem plc_pa (f : Bool) (x : Int) (a b : List Atm) (i : Nat) : plcA f (.p x :: a) b (i + 1) = plcA f a b (i + 1) := rfl
theorem plc_pb (f : Bool) (y : Int) (a b : List Atm) (i : Nat) : plcA f a (.p y :: b) (i + 1) = plcA f a b (i + 1) := rfl
theorem ov_cons_k (f : Bool) (x : Int) (a b : List Atm) (h : f = false ∨ ∀ y r, b ≠ .p y :: r) (ih : ovA f a b = (List.range (frA a + 1)).flatMap (plcA f a b)) : ovA f (.p x :: a) b = (List.range (frA (.p x :: a) + 1)).flatMap (plcA f (.p x :: a) b) := by
  rw [ov_keep f x a b h, ih, show frA (.p x :: a) = frA a from rfl, fm_zero, fm_zero]
  have h0 : plcA f (.p x :: a) b 0 = .k :: plcA f a b 0 := by
    show slotA f (x :: bkH a) (bkH b) ++ _ = .k :: (slotA f (bkH a) (bkH b) ++ _)
    rw [slot_k f x _ _ (h.imp id bkH_no)]
    rfl
  rw [h0]
  rfl
theorem ov_cons_p (f : Bool) (y : Int) (a b : List Atm) (h : f = true ∨ ∀ x r, a ≠ .p x :: r) (ih : ovA f a b = (List.range (frA a + 1)).flatMap (plcA f a b)) : ovA f a (.p y :: b) = (List.range (frA a + 1)).flatMap (plcA f a (.p y :: b)) := by
  rw [ov_put f a y b h, ih, fm_zero, fm_zero]
  have h0 : plcA f a (.p y :: b) 0 = .p y :: plcA f a b 0 := by
    show slotA f (bkH a) (y :: bkH b) ++ _ = .p y :: (slotA f (bkH a) (bkH b) ++ _)
    rw [slot_p f y _ _ (h.imp id bkH_no)]
    rfl
  rw [h0]
  rfl
theorem plc_s (f : Bool) {z z' : Atm} (a b : List Atm) (hz : z = .k ∨ z = .d) (hz' : z' = .k ∨ z' = .d) (i : Nat) : plcA f (z :: a) (z' :: b) (i + 1) = plcA f a b i := by
  have e1 : bkP (z :: a) = [] :: bkP a := by rcases hz with rfl | rfl <;> rfl
  have e2 : bkP (z' :: b) = [] :: bkP b := by rcases hz' with rfl | rfl <;> rfl
  obtain ⟨u, e3⟩ : ∃ u, bkD (z :: a) = u :: bkD a := by rcases hz with rfl | rfl <;> exact ⟨_, rfl⟩
  obtain ⟨v, e4⟩ : ∃ v, bkD (z' :: b) = v :: bkD b := by rcases hz' with rfl | rfl <;> exact ⟨_, rfl⟩
  unfold plcA midA
  rw [e1, e2, e3, e4]
  simp
/-- one over the other, place by place -/
theorem ov_book (f : Bool) : ∀ (n : Nat) (a b : List Atm), a.length + b.length ≤ n → frA a = frA b → ovA f a b = (List.range (frA a + 1)).flatMap (plcA f a b)
  | _, [], b, _, hf => by
    show putsA b = _
    rw [puts_bk b hf.symm]
    show _ = (List.range 1).flatMap _
    rw [fm_zero]
    show _ = slotA f [] (bkH b) ++ midA [] (bkD b) 0 ++ _
    cases f <;> simp [slotA, midA]
  | 0, _ :: _, _, h, _ => by simp at h
  | n + 1, .p x :: a, b, h, hf => by
    by_cases hb : f = false ∨ ∀ y r, b ≠ .p y :: r
    · exact ov_cons_k f x a b hb (ov_book f n a b (by simp at h ⊢; omega) (by simpa [frA] using hf))
    · cases b with
      | nil => exact absurd (.inr fun y r e => by cases e) hb
      | cons z b => cases z with
        | k => exact absurd (.inr fun y r e => by cases e) hb
        | d => exact absurd (.inr fun y r e => by cases e) hb
        | p y =>
          have hft : f = true := by cases f with | true => rfl | false => exact absurd (.inl rfl) hb
          exact ov_cons_p f y _ b (.inl hft) (ov_book f n (.p x :: a) b (by simp at h ⊢; omega) (by simpa [frA] using hf))
  | n + 1, .k :: a, [], h, hf => by simp [frA] at hf
  | n + 1, .k :: a, .p y :: b, h, hf => ov_cons_p f y _ b (.inr fun _ _ e => by cases e) (ov_book f n (.k :: a) b (by simp at h ⊢; omega) (by simpa [frA] using hf))
  | n + 1, .k :: a, .k :: b, h, hf => by
    have ih := ov_book f n a b (by simp at h ⊢; omega) (by simpa [frA] using hf)
    show Atm.k :: ovA f a b = _
    rw [show frA (.k :: a) = frA a + 1 by simp [frA]; try omega, fm_zero, ih]
    simp only [plc_s f a b (.inl rfl) (.inl rfl)]
    show _ = slotA f [] [] ++ midA (false :: bkD a) (false :: bkD b) 0 ++ _
    rw [slot_0]; simp [midA]
  | n + 1, .k :: a, .d :: b, h, hf => by
    have ih := ov_book f n a b (by simp at h ⊢; omega) (by simpa [frA] using hf)
    show Atm.d :: ovA f a b = _
    rw [show frA (.k :: a) = frA a + 1 by simp [frA]; try omega, fm_zero, ih]
    simp only [plc_s f a b (.inl rfl) (.inr rfl)]
    show _ = slotA f [] [] ++ midA (false :: bkD a) (true :: bkD b) 0 ++ _
    rw [slot_0]; simp [midA]
  | n + 1, .d :: a, [], h, hf => by simp [frA] at hf
  | n + 1, .d :: a, .p y :: b, h, hf => ov_cons_p f y _ b (.inr fun _ _ e => by cases e) (ov_book f n (.d :: a) b (by simp at h ⊢; omega) (by simpa [frA] using hf))
  | n + 1, .d :: a, .k :: b, h, hf => by
    have ih := ov_book f n a b (by simp at h ⊢; omega) (by simpa [frA] using hf)
    show ovA f a b = _
    rw [show frA (.d :: a) = frA a + 1 by simp [frA]; try omega, fm_zero, ih]
    simp only [plc_s f a b (.inr rfl) (.inl rfl)]
    show _ = slotA f [] [] ++ midA (true :: bkD a) (false :: bkD b) 0 ++ _
    rw [slot_0]; simp [midA]
  | n + 1, .d :: a, .d :: b, h, hf => by
    have ih := ov_book f n a b (by simp at h ⊢; omega) (by simpa [frA] using hf)
    show ovA f a b = _
    rw [show frA (.d :: a) = frA a + 1 by simp [frA]; try omega, fm_zero, ih]
    simp only [plc_s f a b (.inr rfl) (.inr rfl)]
    show _ = slotA f [] [] ++ midA (true :: bkD a) (true :: bkD b) 0 ++ _
    rw [slot_0]; simp [midA]
/- reading: what an operation adds to the book -/
theorem bkH_app : ∀ (u v : List Atm), frA u ≠ 0 → bkH (u ++ v) = bkH u
  | [], _, h => absurd rfl h
  | .k :: _, _, _ => rfl
  | .d :: _, _, _ => rfl
  | .p x :: u, v, h => by
    show x :: bkH (u ++ v) = x :: bkH u
    rw [bkH_app u v (by simpa [frA] using h)]
theorem bkD_app : ∀ (u v : List Atm), bkD (u ++ v) = bkD u ++ bkD v
  | [], _ => rfl
  | .k :: u, v => by show false :: bkD (u ++ v) = _; rw [bkD_app u v]; rfl
  | .d :: u, v => by show true :: bkD (u ++ v) = _; rw [bkD_app u v]; rfl
  | .p _ :: u, v => bkD_app u v
theorem bkD_k : ∀ n, bkD (List.replicate n .k) = List.replicate n false
  | 0 => rfl
  | n + 1 => by rw [List.replicate_succ, List.replicate_succ]; show false :: bkD _ = _; rw [bkD_k n]
theorem bkD_d : ∀ n, bkD (List.replicate n .d) = List.replicate n true
  | 0 => rfl
  | n + 1 => by rw [List.replicate_succ, List.replicate_succ]; show true :: bkD _ = _; rw [bkD_d n]
theorem bkD_p : ∀ t : List Int, bkD (t.map .p) = []
  | [] => rfl
  | _ :: t => bkD_p t
theorem bkT_one : ∀ (u : List Atm) (z : Atm), (z = .k ∨ z = .d) → bkH (u ++ [z]) = bkH u ∧ bkT (u ++ [z]) = bkT u ++ [[]]
  | [], z, h => by rcases h with rfl | rfl <;> exact ⟨rfl, rfl⟩
  | .k :: u, z, h => by
    obtain ⟨h1, h2⟩ := bkT_one u z h
    exact ⟨rfl, by show bkH (u ++ [z]) :: bkT (u ++ [z]) = _; rw [h1, h2]; rfl⟩
  | .d :: u, z, h => by
    obtain ⟨h1, h2⟩ := bkT_one u z h
    exact ⟨rfl, by show bkH (u ++ [z]) :: bkT (u ++ [z]) = _; rw [h1, h2]; rfl⟩
  | .p x :: u, z, h => by
    obtain ⟨h1, h2⟩ := bkT_one u z h
    exact ⟨by show x :: bkH (u ++ [z]) = _; rw [h1]; rfl, h2⟩
theorem bkP_rep (z : Atm) (h : z = .k ∨ z = .d) : ∀ (n : Nat) (u : List Atm), bkP (u ++ List.replicate n z) = bkP u ++ List.replicate n []
  | 0, u => by simp
  | n + 1, u => by
    rw [List.replicate_succ', ← List.append_assoc]
    have ih := bkP_rep z h n u
    obtain ⟨h1, h2⟩ := bkT_one (u ++ List.replicate n z) z h
    unfold bkP at ih ⊢
    rw [h1, h2, ← List.cons_append, ih, List.replicate_succ', List.append_assoc]
theorem bkHT_p : ∀ t : List Int, bkH (t.map .p) = t ∧ bkT (t.map .p) = []
  | [] => ⟨rfl, rfl⟩
  | x :: t => by
    obtain ⟨h1, h2⟩ := bkHT_p t
    exact ⟨by show x :: bkH (t.map .p) = _; rw [h1], h2⟩
theorem bk_put : ∀ (u : List Atm) (t : List Int), (bkP u).getD (frA u) [] = [] → bkP (u ++ t.map .p) = (bkP u).set (frA u) t
  | [], t, _ => by
    obtain ⟨h1, h2⟩ := bkHT_p t
    show bkH (t.map .p) :: bkT (t.map .p) = [t]
    rw [h1, h2]
  | .k :: u, t, h => by
    have ih := bk_put u t (by rw [show frA (.k :: u) = frA u + 1 by simp [frA]; try omega] at h; exact h)
    rw [show frA (.k :: u) = frA u + 1 by simp [frA]; try omega]
    show [] :: bkP (u ++ t.map .p) = ([] :: bkP u).set (frA u + 1) t
    rw [ih]; rfl
  | .d :: u, t, h => by
    have ih := bk_put u t (by rw [show frA (.d :: u) = frA u + 1 by simp [frA]; try omega] at h; exact h)
    rw [show frA (.d :: u) = frA u + 1 by simp [frA]; try omega]
    show [] :: bkP (u ++ t.map .p) = ([] :: bkP u).set (frA u + 1) t
    rw [ih]; rfl
  | .p x :: u, t, h => by
    rw [show frA (.p x :: u) = frA u from rfl] at h ⊢
    cases hm : frA u with
    | zero => rw [hm] at h; simp [bkP, bkH] at h
    | succ m =>
      have ih := bk_put u t (by rw [hm] at h ⊢; exact h)
      rw [hm] at ih
      have e : bkP (u ++ t.map .p) = bkH u :: (bkT u).set m t := by rw [ih]; rfl
      unfold bkP at e
      simp only [List.cons.injEq] at e
      show (x :: bkH (u ++ t.map .p)) :: bkT (u ++ t.map .p) = _
      rw [e.1, e.2]; rfl
theorem fr_last : ∀ (u : List Atm), u.getLast? = some .k → frA u ≠ 0
  | [], h => by simp at h
  | .k :: u, _ => by simp [frA]
  | .d :: u, _ => by simp [frA]
  | .p x :: u, h => by
    cases u with
    | nil => simp at h
    | cons a u => rw [List.getLast?_cons_cons] at h; exact fr_last (a :: u) h
theorem bk_last : ∀ (u : List Atm), (u = [] ∨ u.getLast? = some .k) → (bkP u).getD (frA u) [] = []
  | [], _ => rfl
  | .k :: u, h => by
    rw [show frA (.k :: u) = frA u + 1 by simp [frA]; try omega]
    refine bk_last u ?_
    cases u with
    | nil => exact .inl rfl
    | cons a u => rcases h with h | h; cases h; rw [List.getLast?_cons_cons] at h; exact .inr h
  | .d :: u, h => by
    rw [show frA (.d :: u) = frA u + 1 by simp [frA]; try omega]
    refine bk_last u ?_
    cases u with
    | nil => exact .inl rfl
    | cons a u => rcases h with h | h; cases h; rw [List.getLast?_cons_cons] at h; exact .inr h
  | .p x :: u, h => by
    cases u with
    | nil => rcases h with h | h; cases h; simp at h
    | cons a u =>
      rcases h with h | h
      · cases h
      · rw [List.getLast?_cons_cons] at h
        have ih := bk_last (a :: u) (.inr h)
        have hn := fr_last (a :: u) h
        rw [show frA (.p x :: a :: u) = frA (a :: u) from rfl]
        obtain ⟨m, hm⟩ : ∃ m, frA (a :: u) = m + 1 := ⟨frA (a :: u) - 1, by omega⟩
        rw [hm] at ih ⊢
        exact ih

end Go.Proofs.Ytjjdgfjlpkhgcaa
end

section
namespace Go.Proofs.Ytjjdgfjlpkhgcaa
open Go.ChangeShapes Go.WideShapes Go.ChangeAt Go.RowKit
attribute [local go_sem] Oper.semAt_some

/-- one more operation, of a []Op -/
theorem push_opB (W : World) (B n : Nat) (v : Value) (xs : List Value) (a b : Int) (s : ByteArray) (ty : TypeId) (h : W.ownsRow B 34 3 v n xs) (hn : n ≤ 1099511627776) (hB : B ≤ W.heap.size) :
    ∃ g k W', (Builtin.append_ #[23, 23] ty #[v, .slice (some ⟨W.heap.size, 0, none⟩) 1 1]).run Try.prog (W.alloc (.cells #[.int .i64 a, .int .i64 b, .string s] 34)) = .ok (.slice (some ⟨g, 0, none⟩) (n + 1) k) W' ∧
      W'.ownsRow B 34 3 (.slice (some ⟨g, 0, none⟩) (n + 1) k) (n + 1) (xs ++ [.int .i64 a, .int .i64 b, .string s]) ∧ W.grownBy W' v.ownBlock ∧ Below B W W' := by
  obtain ⟨i, hi, hz, hs, hby⟩ := info_op
  have hr := World.ownsRow.alloc h (.cells #[.int .i64 a, .int .i64 b, .string s] 34)
  obtain ⟨c0, c1, c2⟩ := three_nwD W (.int .i64 a) (.int .i64 b) (.string s) (t := 34)
  obtain ⟨g, k, W', hrun, ho, hg, _, _⟩ := run_append_lies (P := Try.prog) (W.alloc (.cells #[.int .i64 a, .int .i64 b, .string s] 34)) 23 ty B 34 i (.agg #[.int .i64 0, .int .i64 0, .string ⟨#[]⟩]) 3 32 Try.underlying23 hi hz hs hby rfl (by decide)
    v n xs hr ⟨W.heap.size, 0, none⟩ 1 1 [.int .i64 a, .int .i64 b, .string s] rfl
    (fun j u hj => by
      match j with
      | 0 => simp at hj; subst hj; rw [Addr.add_lit]; exact c0
      | 1 => simp at hj; subst hj; rw [Addr.add_lit]; exact c1
      | 2 => simp at hj; subst hj; rw [Addr.add_lit]; exact c2
      | j + 3 => simp at hj)
    (fun u hu => by simp at hu; rcases hu with rfl | rfl | rfl <;> rfl) (by decide) (by unfold maxLen; omega) (by omega) (by simp; omega) _ rfl
  have ha := World.grownBy_alloc W (.cells #[.int .i64 a, .int .i64 b, .string s] 34) none
  refine ⟨g, k, W', hrun, ho, ⟨hg.os.trans ha.os, hg.tape.trans ha.tape, hg.output.trans ha.output, Nat.le_trans ha.size hg.size, fun k hk hne => ?_⟩, ((Below.refl B W).alloc hB _).grown hg (by simp; omega) (fun k hk => (hr.lt k hk).1)⟩
  exact (hg.block k (Nat.lt_of_lt_of_le hk ha.size) hne).trans (ha.block k hk (by simp))

/-- a Build: the list that is written, the text and the bytes that wait -/
structure IsBr (X : World) (B g : Nat) (L : List Dop) (tx : List Int) (dr : Nat) : Prop where
  c : ∃ vo, Cls X g 124 #[vo, .string (strOfNums tx), .int .i64 (dr : Int)] ∧ X.ownsRow B 34 3 vo L.length (opsV L)
  z : B ≤ g
theorem IsBr.on {X Y : World} {B N g : Nat} {L : List Dop} {tx : List Int} {dr : Nat} (h : IsBr X B g L tx dr) (hb : Below N X Y) (hN : X.heap.size ≤ N) : IsBr Y B g L tx dr := by
  obtain ⟨vo, h1, h2⟩ := h.c
  exact ⟨⟨vo, h1.below hb (Nat.lt_of_lt_of_le h1.lt hN), rowD_below h2 hb hN⟩, h.z⟩
theorem IsBr.drew {X : World} {B g : Nat} {L : List Dop} {tx : List Int} {dr : Nat} (h : IsBr X B g L tx dr) : IsBr X.drew B g L tx dr := h.on ((Below.refl X.heap.size X).drew) (Nat.le_refl _)
theorem br_row {X : World} {B g s n : Nat} {cs : Array Value} {v : Value} {xs : List Value} (h : Cls X g 124 cs) (hr : X.ownsRow B 34 s v n xs) (i : Nat) (u : Value) : (X.setCell ⟨g, i, none⟩ u).ownsRow B 34 s v n xs := rowD_on hr fun G hG => by
  obtain ⟨_, cur, hc⟩ := rowD_block hr hG
  exact Below.heap_setCell X ⟨g, i, none⟩ u G (typeD_ne hc h (by decide))
theorem IsBr.text {X : World} {B g : Nat} {L : List Dop} {tx : List Int} {dr : Nat} (h : IsBr X B g L tx dr) (t : List Int) : IsBr (X.setCell ⟨g, 1, none⟩ (.string (strOfNums t))) B g L t dr := by
  obtain ⟨vo, h1, h2⟩ := h.c
  exact ⟨⟨vo, h1.set 1 _, br_row h1 h2 _ _⟩, h.z⟩
theorem IsBr.gone {X : World} {B g : Nat} {L : List Dop} {tx : List Int} {dr : Nat} (h : IsBr X B g L tx dr) (n : Nat) : IsBr (X.setCell ⟨g, 2, none⟩ (.int .i64 (n : Int))) B g L tx n := by
  obtain ⟨vo, h1, h2⟩ := h.c
  exact ⟨⟨vo, h1.set 2 _, br_row h1 h2 _ _⟩, h.z⟩
/-- an operation is written behind the others -/
theorem br_push {X : World} {B g : Nat} {L : List Dop} {tx : List Int} {dr : Nat} (hz : B ≤ g) {vo : Value} (h1 : Cls X g 124 #[vo, .string (strOfNums tx), .int .i64 (dr : Int)]) (h2 : X.ownsRow B 34 3 vo L.length (opsV L)) (hn : L.length ≤ 1099511627776) (hB : B ≤ X.heap.size) (k n : Int) (s : ByteArray) (x : Dop) (hx : opL x = [.int .i64 k, .int .i64 n, .string s]) :
    ∃ g2 m2 k2 W2, (Builtin.append_ #[23, 23] 23 #[vo, .slice (some ⟨X.heap.size, 0, none⟩) 1 1]).run Try.prog (X.alloc (.cells #[.int .i64 k, .int .i64 n, .string s] 34)) = .ok (.slice (some ⟨g2, 0, none⟩) m2 k2) W2 ∧
      Cls (X.alloc (.cells #[.int .i64 k, .int .i64 n, .string s] 34)) g 124 #[vo, .string (strOfNums tx), .int .i64 (dr : Int)] ∧ Cls W2 g 124 #[vo, .string (strOfNums tx), .int .i64 (dr : Int)] ∧ IsBr (W2.setCell ⟨g, 0, none⟩ (.slice (some ⟨g2, 0, none⟩) m2 k2)) B g (L ++ [x]) tx dr ∧ Below B X (W2.setCell ⟨g, 0, none⟩ (.slice (some ⟨g2, 0, none⟩) m2 k2)) := by
  obtain ⟨g2, k2, W2, r2, o2, gr2, b2⟩ := push_opB X B L.length vo (opsV L) k n s 23 h2 hn hB
  rw [← hx] at o2
  have hs : W2.heap[g]? = X.heap[g]? := gr2.block g h1.lt fun e => by
    obtain ⟨_, cur, hc⟩ := rowD_block h2 e.symm
    exact typeD_ne hc h1 (by decide) rfl
  have h1' := h1.same hs
  refine ⟨g2, _, k2, W2, r2, h1.alloc _, h1', ⟨⟨_, h1'.set 0 _, ?_⟩, hz⟩, b2.setCell (p := ⟨g, 0, none⟩) hz _⟩
  have := br_row h1' o2 0 (.slice (some ⟨g2, 0, none⟩) (L.length + 1) k2)
  simpa [opsV_app, opsV_one] using this
theorem br_cells {X : World} {g : Nat} {a b c : Value} (h : Cls X g 124 #[a, b, c]) : X.cell? ⟨g, 0, none⟩ = some a ∧ X.cell? ⟨g, 1, none⟩ = some b ∧ X.cell? ⟨g, 2, none⟩ = some c := ⟨h.cell 0, h.cell 1, h.cell 2⟩
set_option maxRecDepth 100000 in
set_option maxHeartbeats 1000000 in
theorem buDrop_at (B g : Nat) (L : List Dop) (tx : List Int) (dr n : Nat) (X : World) (h : IsBr X B g L tx dr) (hn : dr + n ≤ 4611686018427387904) :
    Calls Try.prog 87 #[.pointer (some ⟨g, 0, none⟩), .int .i64 (n : Int)] X fun y X' => y = .returned (.tuple #[]) ∧ IsBr X' B g L tx (dr + n) ∧ Below B X X' := by
  obtain ⟨vo, h1, h2⟩ := h.c
  obtain ⟨c0, c1, c2⟩ := br_cells h1
  have f2 := h1.frozen 2
  have hw : wrap64 ((dr : Int) + (n : Int)) = ((dr + n : Nat) : Int) := by rw [wrapD _ (by omega) (by omega)]; omega
  have HR := hide (h.gone (dr + n))
  have HB := hide ((Below.refl B X).setCell (p := ⟨g, 2, none⟩) h.z (.int .i64 ((dr + n : Nat) : Int)))
  clear h h1 h2 c0 c1 hn
  go_enter Try.func87, Try.ntmps87
  go_wp2_with fail
  exact bodyPost_end (v := .tuple #[]) (results_none Try.results87 _ _ _) rfl ⟨rfl, unhide HR, unhide HB⟩
set_option maxRecDepth 100000 in
set_option maxHeartbeats 1000000 in
theorem buPut_at (B g : Nat) (L : List Dop) (tx : List Int) (dr : Nat) (t : List Int) (X : World) (h : IsBr X B g L tx dr) (hn : tx.length + t.length ≤ 4611686018427387904) :
    Calls Try.prog 85 #[.pointer (some ⟨g, 0, none⟩), .string (strOfNums t)] X fun y X' => y = .returned (.tuple #[]) ∧ IsBr X' B g L (tx ++ t) dr ∧ Below B X X' := by
  obtain ⟨vo, h1, h2⟩ := h.c
  obtain ⟨c0, c1, c2⟩ := br_cells h1
  have f1 := h1.frozen 1
  have hsa := str_appD tx t
  have hz : ¬ 9223372036854775807 < (strOfNums tx).size + (strOfNums t).size := by rw [strOfNums_size, strOfNums_size]; omega
  have HR := hide (h.text (tx ++ t))
  have HB := hide ((Below.refl B X).setCell (p := ⟨g, 1, none⟩) h.z (.string (strOfNums (tx ++ t))))
  clear h h1 h2 c0 c2 hn
  generalize strOfNums (tx ++ t) = sq at *
  generalize strOfNums tx = s1 at *
  generalize strOfNums t = s2 at *
  go_enter Try.func85, Try.ntmps85
  go_wp2_with fail
  exact bodyPost_end (v := .tuple #[]) (results_none Try.results85 _ _ _) rfl ⟨rfl, unhide HR, unhide HB⟩
set_option maxRecDepth 100000 in
set_option maxHeartbeats 4000000 in
theorem buFlush_at (B g : Nat) (L : List Dop) (tx : List Int) (dr : Nat) (X : World) (h : IsBr X B g L tx dr) (hn : L.length ≤ 1099511627770) (hB : B ≤ X.heap.size) (hd : dr ≤ 4611686018427387904) :
    Calls Try.prog 92 #[.pointer (some ⟨g, 0, none⟩)] X fun y X' => y = .returned (.tuple #[]) ∧ IsBr X' B g (L ++ pO tx ++ dO dr) [] 0 ∧ Below B X X' := by
  have HI := hide h
  have HB := hide hB
  obtain ⟨vo, h1, h2⟩ := h.c
  obtain ⟨c0, c1, c2⟩ := br_cells h1
  have hem := str_empD tx
  have HZ := hide h.z
  have H1 := hide h1
  have H2 := hide h2
  clear h hB h1 h2 c0 c2
  go_enter Try.func92, Try.ntmps92
  go_upto_if 6 with fail
  go_cut [0] (fun v wz => v = .pointer (some ⟨g, 0, none⟩) ∧ Hid (IsBr wz B g (L ++ pO tx) tx dr) ∧ Hid (Below B X wz))
  case first =>
    by_cases ht0 : tx = []
    · have t3 : tx.isEmpty = true := by rw [ht0]; rfl
      have HR : Hid (IsBr X B g (L ++ pO tx) tx dr) := hide (by
        have hp : pO tx = [] := by rw [ht0]; rfl
        rw [hp, List.append_nil]
        exact unhide HI)
      clear ht0 HI H1 H2 hem
      generalize strOfNums tx = st at *
      simp only [t3, Bool.not_true]
      go_wp2_with fail
      go_meet
      case rel => exact ⟨rfl, HR, hide (Below.refl _ _)⟩
    · have t3 : tx.isEmpty = false := by cases tx with | nil => exact absurd rfl ht0 | cons a r => rfl
      have hpO : pO tx = [⟨2, 0, tx⟩] := by unfold pO; rw [if_neg ht0]
      obtain ⟨g2, m2, k2, W2, r2, dA, dB, hI2, b2⟩ := br_push (X := X.drew) (unhide HZ) ((unhide H1).same rfl) (rowD_drew (unhide H2)) (by omega) (unhide HB) 2 0 (strOfNums tx) ⟨2, 0, tx⟩ rfl
      rw [← hpO] at hI2
      have R2 := hide r2
      have HR := hide hI2
      have HBB := hide (((Below.refl B X).drew).trans b2)
      have HS0 : Hid (X.drew.cell? ⟨g, 0, none⟩ = some vo ∧ X.drew.cell? ⟨g, 1, none⟩ = some (.string (strOfNums tx))) := hide ⟨(br_cells (unhide H1)).1, (br_cells (unhide H1)).2.1⟩
      have HSA := hide (And.intro (br_cells dA).1 (br_cells dA).2.1)
      have HS2 := hide (And.intro (br_cells dB).1 (br_cells dB).2.1)
      have e0 := (br_cells dB).1
      have f0 := dB.frozen 0
      clear ht0 HI H1 H2 r2 dA dB hI2 b2 hpO hem
      generalize strOfNums tx = st at *
      simp only [t3, Bool.not_false]
      go_upto_region 1 with fail
      refine regionL (S := fun w' => w'.cell? ⟨g, 0, none⟩ = some vo ∧ w'.cell? ⟨g, 1, none⟩ = some (.string st)) (fun i => i == 14) (by kernel_rfl) ?_
      refine anyL_take (i := 0) (v := ?vca0) rfl (by kernel_rfl) (by kernel_rfl) (by kernel_rfl) (by kernel_rfl) (fun _ _ _ h => h) (Or.inl ⟨by rfl, ?hca0⟩) (unhide HS0) ?_
      case hca0 => (intro w hSw; (try dsimp only at hSw); go_simp) <;> with_reducible rfl
      simp only [Act.put, List.getElem_toArray, List.getElem_cons_zero, List.setIfInBounds_toArray, List.set_cons_zero, List.set_cons_succ]
      refine anyL_take (i := 1) (v := ?vca1) rfl (by kernel_rfl) (by kernel_rfl) (by kernel_rfl) (by kernel_rfl) (fun _ _ _ h => h) (Or.inl ⟨by rfl, ?hca1⟩) (unhide HS0) ?_
      case hca1 => (intro w hSw; (try dsimp only at hSw); go_simp) <;> with_reducible rfl
      simp only [Act.put, List.getElem_toArray, List.getElem_cons_zero, List.getElem_cons_succ, List.setIfInBounds_toArray, List.set_cons_zero, List.set_cons_succ]
      refine anyL_take (i := 2) (v := ?vca2) rfl (by kernel_rfl) (by kernel_rfl) (by kernel_rfl) (by kernel_rfl) (fun _ _ _ h => h) (Or.inl ⟨by rfl, ?hca2⟩) (unhide HS0) ?_
      case hca2 => (intro w hSw; (try dsimp only at hSw); go_simp) <;> with_reducible rfl
      simp only [Act.put, List.getElem_toArray, List.getElem_cons_zero, List.getElem_cons_succ, List.setIfInBounds_toArray, List.set_cons_zero, List.set_cons_succ]
      refine anyL_take (i := 3) (v := ?vca3) rfl (by kernel_rfl) (by kernel_rfl) (by kernel_rfl) (by kernel_rfl) (fun _ _ _ h => h) (Or.inl ⟨by rfl, ?hca3⟩) (unhide HS0) ?_
      case hca3 => (intro w hSw; (try dsimp only at hSw); go_simp) <;> with_reducible rfl
      simp only [Act.put, List.getElem_toArray, List.getElem_cons_zero, List.getElem_cons_succ, List.setIfInBounds_toArray, List.set_cons_zero, List.set_cons_succ]
      refine anyL_take (i := 4) (v := ?vca4) rfl (by kernel_rfl) (by kernel_rfl) (by kernel_rfl) (by kernel_rfl) (fun _ _ _ h => h) (Or.inl ⟨by rfl, ?hca4⟩) (unhide HS0) ?_
      case hca4 => (intro w hSw; (try dsimp only at hSw); go_simp) <;> with_reducible rfl
      simp only [Act.put, List.getElem_toArray, List.getElem_cons_zero, List.getElem_cons_succ, List.setIfInBounds_toArray, List.set_cons_zero, List.set_cons_succ]
      refine anyL_take (i := 5) (v := ?vca5) rfl (by kernel_rfl) (by kernel_rfl) (by kernel_rfl) (by kernel_rfl) (fun _ _ _ h => h) (Or.inl ⟨by rfl, ?hca5⟩) (unhide HS0) ?_
      case hca5 => (intro w hSw; (try dsimp only at hSw); go_simp) <;> with_reducible rfl
      simp only [Act.put, List.getElem_toArray, List.getElem_cons_zero, List.getElem_cons_succ, List.setIfInBounds_toArray, List.set_cons_zero, List.set_cons_succ]
      refine anyL_take (i := 6) (v := ?vca6) rfl (by kernel_rfl) (by kernel_rfl) (by kernel_rfl) (by kernel_rfl) (fun _ _ _ h => h) (Or.inl ⟨by rfl, ?hca6⟩) (unhide HS0) ?_
      case hca6 => (intro w hSw; (try dsimp only at hSw); go_simp) <;> with_reducible rfl
      simp only [Act.put, List.getElem_toArray, List.getElem_cons_zero, List.getElem_cons_succ, List.setIfInBounds_toArray, List.set_cons_zero, List.set_cons_succ]
      refine anyL_take (i := 7) (v := ?vca7) rfl (by kernel_rfl) (by kernel_rfl) (by kernel_rfl) (by kernel_rfl) (fun _ _ _ h => h) (Or.inl ⟨by rfl, ?hca7⟩) (unhide HS0) ?_
      case hca7 => (intro w hSw; (try dsimp only at hSw); go_simp) <;> with_reducible rfl
      simp only [Act.put, List.getElem_toArray, List.getElem_cons_zero, List.getElem_cons_succ, List.setIfInBounds_toArray, List.set_cons_zero, List.set_cons_succ]
      refine anyL_take (i := 8) (v := ?vca8) rfl (by kernel_rfl) (by kernel_rfl) (by kernel_rfl) (by kernel_rfl) (fun _ _ _ h => h) (Or.inl ⟨by rfl, ?hca8⟩) (unhide HS0) ?_
      case hca8 => (intro w hSw; (try dsimp only at hSw); go_simp) <;> with_reducible rfl
      simp only [Act.put, List.getElem_toArray, List.getElem_cons_zero, List.getElem_cons_succ, List.setIfInBounds_toArray, List.set_cons_zero, List.set_cons_succ]
      refine anyL_take (i := 9) (v := ?vca9) rfl (by kernel_rfl) (by kernel_rfl) (by kernel_rfl) (by kernel_rfl) (fun _ _ _ h => h) (Or.inl ⟨by rfl, ?hca9⟩) (unhide HS0) ?_
      case hca9 => (intro w hSw; (try dsimp only at hSw); go_simp) <;> with_reducible rfl
      simp only [Act.put, List.getElem_toArray, List.getElem_cons_zero, List.getElem_cons_succ, List.setIfInBounds_toArray, List.set_cons_zero, List.set_cons_succ]
      refine anyL_ready (rs := [10]) (by kernel_rfl) (by simp) ?_
      refine AllL.cons rfl (fun K hK => ?_) AllL.nil
      go_simp
      refine unhide hK _ _ (fun _ => unhide HSA) ?_
      clear hK K
      refine anyL_ready (rs := [11]) (by kernel_rfl) (by simp) ?_
      refine AllL.cons rfl (fun K hK => ?_) AllL.nil
      refine step_append_in rfl _ _ 23 23 rfl _ _ rfl rfl _ _ (unhide R2) ?_
      go_simp
      clear R2
      refine unhide hK _ _ (fun _ => unhide HS2) ?_
      clear hK K
      refine anyL_take (i := 12) (v := ?vca10) rfl (by kernel_rfl) (by kernel_rfl) (by kernel_rfl) (by kernel_rfl) (fun _ _ _ h => h) (Or.inl ⟨by rfl, ?hca10⟩) (unhide HS2) ?_
      case hca10 => (intro w hSw; (try dsimp only at hSw); go_simp) <;> with_reducible rfl
      simp only [Act.put, List.getElem_toArray, List.getElem_cons_zero, List.getElem_cons_succ, List.setIfInBounds_toArray, List.set_cons_zero, List.set_cons_succ]
      refine anyL_take (i := 13) (v := ?vca11) rfl (by kernel_rfl) (by kernel_rfl) (by kernel_rfl) (by kernel_rfl) (fun _ _ _ h => h) (Or.inl ⟨by rfl, ?hca11⟩) (unhide HS2) ?_
      case hca11 => (intro w hSw; (try dsimp only at hSw); go_simp) <;> with_reducible rfl
      simp only [Act.put, List.getElem_toArray, List.getElem_cons_zero, List.getElem_cons_succ, List.setIfInBounds_toArray, List.set_cons_zero, List.set_cons_succ]
      refine anyL_ready (rs := [14]) (by kernel_rfl) (by simp) ?_
      refine AllL.cons rfl (fun K hK => ?_) AllL.nil
      go_simp
      refine unhide hK _ _ (fun h => by cases h) ?_
      clear hK K
      refine anyL_done (by kernel_rfl) ?_ _
      go_wp2_with fail
      go_meet
      case rel => exact ⟨rfl, HR, HBB⟩
  case rest =>
    obtain ⟨rfl, HI1, HB1⟩ := hcut
    clear HI H1 H2 hem c1
    obtain ⟨vo, h1, h2⟩ := (unhide HI1).c
    obtain ⟨c0, c1, c2⟩ := br_cells h1
    have H1 := hide h1
    have H2 := hide h2
    clear h1 h2 c0 c1
    go_upto_if 25 with fail
    go_cut [0] (fun v wz => v = .pointer (some ⟨g, 0, none⟩) ∧ Hid (IsBr wz B g (L ++ pO tx ++ dO dr) tx dr) ∧ Hid (Below B X wz))
    case first =>
      by_cases hd0 : dr = 0
      · have HR : Hid (IsBr wc B g (L ++ pO tx ++ dO dr) tx dr) := hide (by
          have hp : dO dr = [] := by rw [hd0]; rfl
          rw [hp, List.append_nil]
          exact unhide HI1)
        have t1 : decide ((dr : Int) > 0) = false := decide_eq_false (by omega)
        have t2 : decide (0 < (dr : Int)) = false := decide_eq_false (by omega)
        have t3 : decide (0 < dr) = false := decide_eq_false (by omega)
        clear hd0 HI1 H1 H2 c2
        simp only [t3]
        go_wp2_with fail
        go_meet
        case rel => exact ⟨rfl, HR, HB1⟩
      · have hdO : dO dr = [⟨3, (dr : Int), []⟩] := by unfold dO; rw [if_neg hd0]
        have hpl : (pO tx).length ≤ 1 := by unfold pO; split <;> simp
        obtain ⟨g2, m2, k2, W2, r2, dA, dB, hI2, b2⟩ := br_push (X := wc.drew) (unhide HZ) ((unhide H1).same rfl) (rowD_drew (unhide H2)) (by rw [List.length_append]; omega) (Nat.le_trans (unhide HB) (unhide HB1).size) 3 (dr : Int) ⟨#[]⟩ ⟨3, (dr : Int), []⟩ rfl
        rw [← hdO] at hI2
        have R2 := hide r2
        have HR := hide hI2
        have HBB := hide ((unhide HB1).trans (((Below.refl B wc).drew).trans b2))
        have HS0 : Hid (wc.drew.cell? ⟨g, 0, none⟩ = some vo ∧ wc.drew.cell? ⟨g, 2, none⟩ = some (.int .i64 (dr : Int))) := hide ⟨(br_cells (unhide H1)).1, (br_cells (unhide H1)).2.2⟩
        have HSA := hide (And.intro (br_cells dA).1 (br_cells dA).2.2)
        have HS2 := hide (And.intro (br_cells dB).1 (br_cells dB).2.2)
        have e0 := (br_cells dB).1
        have f0 := dB.frozen 0
        have t1 : decide ((dr : Int) > 0) = true := decide_eq_true (by omega)
        have t2 : decide (0 < (dr : Int)) = true := decide_eq_true (by omega)
        have t3 : decide (0 < dr) = true := decide_eq_true (by omega)
        clear hd0 HI1 H1 H2 r2 dA dB hI2 b2 hdO c2 hpl
        simp only [t3]
        go_upto_region 3 with fail
        refine regionL (S := fun w' => w'.cell? ⟨g, 0, none⟩ = some vo ∧ w'.cell? ⟨g, 2, none⟩ = some (.int .i64 (dr : Int))) (fun i => i == 14) (by kernel_rfl) ?_
        refine anyL_take (i := 0) (v := ?vcc12) rfl (by kernel_rfl) (by kernel_rfl) (by kernel_rfl) (by kernel_rfl) (fun _ _ _ h => h) (Or.inl ⟨by rfl, ?hcc12⟩) (unhide HS0) ?_
        case hcc12 => (intro w hSw; (try dsimp only at hSw); go_simp) <;> with_reducible rfl
        simp only [Act.put, List.getElem_toArray, List.getElem_cons_zero, List.setIfInBounds_toArray, List.set_cons_zero, List.set_cons_succ]
        refine anyL_take (i := 1) (v := ?vcc13) rfl (by kernel_rfl) (by kernel_rfl) (by kernel_rfl) (by kernel_rfl) (fun _ _ _ h => h) (Or.inl ⟨by rfl, ?hcc13⟩) (unhide HS0) ?_
        case hcc13 => (intro w hSw; (try dsimp only at hSw); go_simp) <;> with_reducible rfl
        simp only [Act.put, List.getElem_toArray, List.getElem_cons_zero, List.getElem_cons_succ, List.setIfInBounds_toArray, List.set_cons_zero, List.set_cons_succ]
        refine anyL_take (i := 2) (v := ?vcc14) rfl (by kernel_rfl) (by kernel_rfl) (by kernel_rfl) (by kernel_rfl) (fun _ _ _ h => h) (Or.inl ⟨by rfl, ?hcc14⟩) (unhide HS0) ?_
        case hcc14 => (intro w hSw; (try dsimp only at hSw); go_simp) <;> with_reducible rfl
        simp only [Act.put, List.getElem_toArray, List.getElem_cons_zero, List.getElem_cons_succ, List.setIfInBounds_toArray, List.set_cons_zero, List.set_cons_succ]
        refine anyL_take (i := 3) (v := ?vcc15) rfl (by kernel_rfl) (by kernel_rfl) (by kernel_rfl) (by kernel_rfl) (fun _ _ _ h => h) (Or.inl ⟨by rfl, ?hcc15⟩) (unhide HS0) ?_
        case hcc15 => (intro w hSw; (try dsimp only at hSw); go_simp) <;> with_reducible rfl
        simp only [Act.put, List.getElem_toArray, List.getElem_cons_zero, List.getElem_cons_succ, List.setIfInBounds_toArray, List.set_cons_zero, List.set_cons_succ]
        refine anyL_take (i := 4) (v := ?vcc16) rfl (by kernel_rfl) (by kernel_rfl) (by kernel_rfl) (by kernel_rfl) (fun _ _ _ h => h) (Or.inl ⟨by rfl, ?hcc16⟩) (unhide HS0) ?_
        case hcc16 => (intro w hSw; (try dsimp only at hSw); go_simp) <;> with_reducible rfl
        simp only [Act.put, List.getElem_toArray, List.getElem_cons_zero, List.getElem_cons_succ, List.setIfInBounds_toArray, List.set_cons_zero, List.set_cons_succ]
        refine anyL_take (i := 5) (v := ?vcc17) rfl (by kernel_rfl) (by kernel_rfl) (by kernel_rfl) (by kernel_rfl) (fun _ _ _ h => h) (Or.inl ⟨by rfl, ?hcc17⟩) (unhide HS0) ?_
        case hcc17 => (intro w hSw; (try dsimp only at hSw); go_simp) <;> with_reducible rfl
        simp only [Act.put, List.getElem_toArray, List.getElem_cons_zero, List.getElem_cons_succ, List.setIfInBounds_toArray, List.set_cons_zero, List.set_cons_succ]
        refine anyL_take (i := 6) (v := ?vcc18) rfl (by kernel_rfl) (by kernel_rfl) (by kernel_rfl) (by kernel_rfl) (fun _ _ _ h => h) (Or.inl ⟨by rfl, ?hcc18⟩) (unhide HS0) ?_
        case hcc18 => (intro w hSw; (try dsimp only at hSw); go_simp) <;> with_reducible rfl
        simp only [Act.put, List.getElem_toArray, List.getElem_cons_zero, List.getElem_cons_succ, List.setIfInBounds_toArray, List.set_cons_zero, List.set_cons_succ]
        refine anyL_take (i := 7) (v := ?vcc19) rfl (by kernel_rfl) (by kernel_rfl) (by kernel_rfl) (by kernel_rfl) (fun _ _ _ h => h) (Or.inl ⟨by rfl, ?hcc19⟩) (unhide HS0) ?_
        case hcc19 => (intro w hSw; (try dsimp only at hSw); go_simp) <;> with_reducible rfl
        simp only [Act.put, List.getElem_toArray, List.getElem_cons_zero, List.getElem_cons_succ, List.setIfInBounds_toArray, List.set_cons_zero, List.set_cons_succ]
        refine anyL_take (i := 8) (v := ?vcc20) rfl (by kernel_rfl) (by kernel_rfl) (by kernel_rfl) (by kernel_rfl) (fun _ _ _ h => h) (Or.inl ⟨by rfl, ?hcc20⟩) (unhide HS0) ?_
        case hcc20 => (intro w hSw; (try dsimp only at hSw); go_simp) <;> with_reducible rfl
        simp only [Act.put, List.getElem_toArray, List.getElem_cons_zero, List.getElem_cons_succ, List.setIfInBounds_toArray, List.set_cons_zero, List.set_cons_succ]
        refine anyL_take (i := 9) (v := ?vcc21) rfl (by kernel_rfl) (by kernel_rfl) (by kernel_rfl) (by kernel_rfl) (fun _ _ _ h => h) (Or.inl ⟨by rfl, ?hcc21⟩) (unhide HS0) ?_
        case hcc21 => (intro w hSw; (try dsimp only at hSw); go_simp) <;> with_reducible rfl
        simp only [Act.put, List.getElem_toArray, List.getElem_cons_zero, List.getElem_cons_succ, List.setIfInBounds_toArray, List.set_cons_zero, List.set_cons_succ]
        refine anyL_ready (rs := [10]) (by kernel_rfl) (by simp) ?_
        refine AllL.cons rfl (fun K hK => ?_) AllL.nil
        go_simp
        refine unhide hK _ _ (fun _ => unhide HSA) ?_
        clear hK K
        refine anyL_ready (rs := [11]) (by kernel_rfl) (by simp) ?_
        refine AllL.cons rfl (fun K hK => ?_) AllL.nil
        refine step_append_in rfl _ _ 23 23 rfl _ _ rfl rfl _ _ (unhide R2) ?_
        go_simp
        clear R2
        refine unhide hK _ _ (fun _ => unhide HS2) ?_
        clear hK K
        refine anyL_take (i := 12) (v := ?vcc22) rfl (by kernel_rfl) (by kernel_rfl) (by kernel_rfl) (by kernel_rfl) (fun _ _ _ h => h) (Or.inl ⟨by rfl, ?hcc22⟩) (unhide HS2) ?_
        case hcc22 => (intro w hSw; (try dsimp only at hSw); go_simp) <;> with_reducible rfl
        simp only [Act.put, List.getElem_toArray, List.getElem_cons_zero, List.getElem_cons_succ, List.setIfInBounds_toArray, List.set_cons_zero, List.set_cons_succ]
        refine anyL_take (i := 13) (v := ?vcc23) rfl (by kernel_rfl) (by kernel_rfl) (by kernel_rfl) (by kernel_rfl) (fun _ _ _ h => h) (Or.inl ⟨by rfl, ?hcc23⟩) (unhide HS2) ?_
        case hcc23 => (intro w hSw; (try dsimp only at hSw); go_simp) <;> with_reducible rfl
        simp only [Act.put, List.getElem_toArray, List.getElem_cons_zero, List.getElem_cons_succ, List.setIfInBounds_toArray, List.set_cons_zero, List.set_cons_succ]
        refine anyL_ready (rs := [14]) (by kernel_rfl) (by simp) ?_
        refine AllL.cons rfl (fun K hK => ?_) AllL.nil
        go_simp
        refine unhide hK _ _ (fun h => by cases h) ?_
        clear hK K
        refine anyL_done (by kernel_rfl) ?_ _
        go_wp2_with fail
        go_meet
        case rel => exact ⟨rfl, HR, HBB⟩
    case rest =>
      obtain ⟨rfl, HI2, HB2⟩ := hcut
      clear HI1 HB1 H1 H2 c2
      have HI3 := (unhide HI2).text []
      have HI4 := hide (HI3.gone 0)
      obtain ⟨vo2, k1, k2⟩ := (unhide HI2).c
      obtain ⟨vo3, k3, k4⟩ := HI3.c
      obtain ⟨c0, c1, c2⟩ := br_cells k1
      obtain ⟨d0, d1, d2⟩ := br_cells k3
      have f1 := k1.frozen 1
      have f2 := k3.frozen 2
      have HB4 := hide (((unhide HB2).setCell (p := ⟨g, 1, none⟩) (unhide HZ) (.string (strOfNums []))).setCell (p := ⟨g, 2, none⟩) (unhide HZ) (.int .i64 ((0 : Nat) : Int)))
      have e0 : strOfNums [] = (⟨#[]⟩ : ByteArray) := rfl
      rw [e0] at HI4 HB4 d0 d1 d2 f2
      simp only [Int.natCast_zero] at HI4 HB4
      clear HI2 HI3 HB2 k1 k2 k3 k4 e0 c0 d0 d1
      go_wp2_with fail
      exact bodyPost_end (v := .tuple #[]) (results_none Try.results92 _ _ _) rfl ⟨rfl, unhide HI4, unhide HB4⟩

end Go.Proofs.Ytjjdgfjlpkhgcaa
end
