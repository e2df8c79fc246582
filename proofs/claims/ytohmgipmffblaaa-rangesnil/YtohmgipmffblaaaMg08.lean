/- Layer 13, plain: operations, canonical lists of them, what makes them: the program's builder and the document's add. · Rows of bytes that the call itself made: how they stay, are written, and grow by one byte. -/
import Derived.Test.YtohmgipmffblaaaMg07
import Derived.Test.YtohmgipmffblaaaMg01
import Derived.Laws.AppendOwn
import Derived.Deep.AppendLies

section
namespace Go.Proofs.Ytohmgipmffblaaa

structure Dop where
  k : Int
  n : Int
  t : List Int
def opA (o : Dop) : List Atm := if o.k = 1 then List.replicate o.n.toNat .k else if o.k = 2 then o.t.map .p else List.replicate o.n.toNat .d
def dA (d : List Dop) : List Atm := d.flatMap opA
theorem dA_app (a b : List Dop) : dA (a ++ b) = dA a ++ dA b := by simp [dA]
theorem dA_cons (o : Dop) (b : List Dop) : dA (o :: b) = opA o ++ dA b := by simp [dA]
/-- canonical, but for the sizes -/
def Pln (o : Dop) : Prop := ((o.k = 1 ∨ o.k = 3) ∧ 1 ≤ o.n ∧ o.t = []) ∨ (o.k = 2 ∧ o.n = 0 ∧ o.t ≠ [])
def okN (a b : Int) : Prop := a ≠ b ∧ ¬ (a = 3 ∧ b = 2)
def Chn : List Dop → Prop
  | [] => True
  | [_] => True
  | a :: b :: r => okN a.k b.k ∧ Chn (b :: r)
structure Can (d : List Dop) : Prop where
  p : ∀ o ∈ d, Pln o
  c : Chn d
theorem chn_tail {o : Dop} {r : List Dop} (h : Chn (o :: r)) : Chn r := by
  cases r with
  | nil => trivial
  | cons a r => exact h.2
theorem chn_snoc : ∀ {d : List Dop} {o : Dop}, Chn d → (∀ x, d.getLast? = some x → okN x.k o.k) → Chn (d ++ [o])
  | [], _, _, _ => trivial
  | [a], o, _, h => ⟨h a rfl, trivial⟩
  | a :: b :: r, o, h, hl => ⟨h.1, chn_snoc (d := b :: r) h.2 (fun x hx => hl x (by rw [List.getLast?_cons_cons]; exact hx))⟩
theorem chn_app : ∀ {d e : List Dop}, Chn (d ++ e) → Chn d ∧ Chn e
  | [], _, h => ⟨trivial, h⟩
  | [_], _, h => ⟨trivial, chn_tail h⟩
  | _ :: b :: r, _, h => ⟨⟨h.1, (chn_app (d := b :: r) h.2).1⟩, (chn_app (d := b :: r) h.2).2⟩
theorem chn_mid : ∀ {d : List Dop} {x o : Dop} {r : List Dop}, Chn (d ++ o :: r) → d.getLast? = some x → okN x.k o.k
  | [], _, _, _, _, h => by simp at h
  | [a], x, o, r, h, hl => by (obtain rfl : a = x := by simpa using hl); exact h.1
  | a :: b :: d, x, o, r, h, hl => chn_mid (d := b :: d) h.2 (by rw [List.getLast?_cons_cons] at hl; exact hl)
theorem nf_keeps : ∀ (n : Nat) (a : List Atm), nfA (List.replicate n .k ++ a) = List.replicate n .k ++ nfA a
  | 0, _ => by simp
  | n + 1, a => by rw [List.replicate_succ, List.cons_append]; simp only [nfA, List.cons_append]; rw [nf_keeps n a]
theorem nf_puts : ∀ (t : List Int) (a : List Atm), nfA (t.map .p ++ a) = t.map .p ++ nfA a
  | [], _ => rfl
  | x :: t, a => by simp only [List.map_cons, List.cons_append, nfA]; rw [nf_puts t a]
theorem nf_drops : ∀ (n : Nat) (a : List Atm), (∀ x r, nfA a = .p x :: r → False) → nfA (List.replicate n .d ++ a) = List.replicate n .d ++ nfA a
  | 0, _, _ => by simp
  | n + 1, a, h => by
    rw [List.replicate_succ, List.cons_append]
    simp only [nfA, List.cons_append]
    rw [nf_drops n a h]
    cases n with
    | zero =>
      simp only [List.replicate_zero, List.nil_append]
      cases hh : nfA a with
      | nil => rfl
      | cons c r =>
        cases c with
        | k => rfl
        | d => rfl
        | p x => exact absurd (h x r hh) id
    | succ n => rfl
theorem opA_put {o : Dop} (h : Pln o) (a : List Atm) {x : Int} {r : List Atm} (e : opA o ++ a = .p x :: r) : o.k = 2 := by
  rcases h with ⟨h1 | h1, h2, _⟩ | ⟨h1, _, _⟩
  · obtain ⟨n, hn⟩ : ∃ n, o.n.toNat = n + 1 := ⟨o.n.toNat - 1, by omega⟩
    simp [opA, h1, hn, List.replicate_succ] at e
  · obtain ⟨n, hn⟩ : ∃ n, o.n.toNat = n + 1 := ⟨o.n.toNat - 1, by omega⟩
    simp [opA, h1, hn, List.replicate_succ] at e
  · exact h1
theorem can_nf : ∀ {d : List Dop}, Can d → nfA (dA d) = dA d
  | [], _ => rfl
  | o :: r, h => by
    have ih := can_nf (d := r) ⟨fun x hx => h.p x (List.mem_cons_of_mem _ hx), chn_tail h.c⟩
    rw [dA_cons]
    rcases h.p o List.mem_cons_self with ⟨h1 | h1, h2, _⟩ | ⟨h1, _, _⟩
    · simp only [opA, h1, if_true]; rw [nf_keeps, ih]
    · simp only [opA, h1, show ¬ ((3 : Int) = 1) by decide, show ¬ ((3 : Int) = 2) by decide, if_false]
      rw [nf_drops _ _ ?_, ih]
      intro x q e
      rw [ih] at e
      cases r with
      | nil => simp [dA] at e
      | cons b r =>
        rw [dA_cons] at e
        have := opA_put (h.p b (by simp)) _ e
        exact h.c.1.2 ⟨h1, this⟩
    · simp only [opA, h1, show ¬ ((2 : Int) = 1) by decide, if_false, if_true]; rw [nf_puts, ih]

/-- what is kept, put and dropped behind the operations that are written -/
structure Bld where
  ops : List Dop
  kept : Nat
  tx : List Int
  dr : Nat
def b0 : Bld := ⟨[], 0, [], 0⟩
def kO (n : Nat) : List Dop := if n = 0 then [] else [⟨1, (n : Int), []⟩]
def pO (t : List Int) : List Dop := if t = [] then [] else [⟨2, 0, t⟩]
def dO (n : Nat) : List Dop := if n = 0 then [] else [⟨3, (n : Int), []⟩]
def Bld.fin (b : Bld) : List Dop := b.ops ++ kO b.kept ++ pO b.tx ++ dO b.dr
def Bld.keep (b : Bld) (n : Nat) : Bld := if n = 0 then b else if b.tx = [] ∧ b.dr = 0 then ⟨b.ops, b.kept + n, [], 0⟩ else ⟨b.fin, n, [], 0⟩
def Bld.put (b : Bld) (t : List Int) : Bld := ⟨b.ops, b.kept, b.tx ++ t, b.dr⟩
def Bld.drop (b : Bld) (n : Nat) : Bld := ⟨b.ops, b.kept, b.tx, b.dr + n⟩
structure Wb (b : Bld) : Prop where
  c : Can b.ops
  l : ∀ x, b.ops.getLast? = some x → x.k ≠ 1
  z : b.ops = [] ∨ 0 < b.kept
theorem wb0 : Wb b0 := ⟨⟨fun o h => by simp [b0] at h, trivial⟩, fun x h => by simp [b0] at h, .inl rfl⟩
theorem pln_k {n : Nat} (h : ¬ n = 0) : Pln ⟨1, (n : Int), []⟩ := .inl ⟨.inl rfl, by show (1 : Int) ≤ (n : Int); omega, rfl⟩
theorem pln_p {t : List Int} (h : ¬ t = []) : Pln ⟨2, 0, t⟩ := .inr ⟨rfl, rfl, h⟩
theorem pln_d {n : Nat} (h : ¬ n = 0) : Pln ⟨3, (n : Int), []⟩ := .inl ⟨.inr rfl, by show (1 : Int) ≤ (n : Int); omega, rfl⟩
theorem can_snoc {d : List Dop} {o : Dop} (h : Can d) (hp : Pln o) (hl : ∀ x, d.getLast? = some x → okN x.k o.k) : Can (d ++ [o]) :=
  ⟨fun x hx => by rcases List.mem_append.1 hx with hx | hx; exact h.p x hx; obtain rfl := List.mem_singleton.1 hx; exact hp, chn_snoc h.c hl⟩
theorem can_kO {b : Bld} (h : Wb b) : Can (b.ops ++ kO b.kept) ∧ ∀ x, (b.ops ++ kO b.kept).getLast? = some x → x.k = 1 := by
  unfold kO
  split
  · rename_i hk
    rw [List.append_nil]
    rcases h.z with hz | hz
    · rw [hz]; exact ⟨⟨fun o h => by simp at h, trivial⟩, fun x h => by simp at h⟩
    · omega
  · rename_i hk
    exact ⟨can_snoc h.c (pln_k hk) (fun x hx => ⟨h.l x hx, fun hh => by have := hh.2; simp at this⟩), fun x hx => by simp at hx; rw [← hx]⟩
theorem can_pO {b : Bld} (h : Wb b) : Can (b.ops ++ kO b.kept ++ pO b.tx) ∧ ∀ x, (b.ops ++ kO b.kept ++ pO b.tx).getLast? = some x → x.k ≠ 3 := by
  obtain ⟨h1, h2⟩ := can_kO h
  unfold pO
  split
  · rw [List.append_nil]; exact ⟨h1, fun x hx => by rw [h2 x hx]; decide⟩
  · rename_i ht
    exact ⟨can_snoc h1 (pln_p ht) (fun x hx => by rw [h2 x hx]; exact ⟨by simp, by simp⟩), fun x hx => by simp at hx; rw [← hx]; simp⟩
theorem can_fin {b : Bld} (h : Wb b) : Can b.fin := by
  obtain ⟨h1, h2⟩ := can_pO h
  unfold Bld.fin dO
  split
  · rw [List.append_nil]; exact h1
  · rename_i hd
    exact can_snoc h1 (pln_d hd) (fun x hx => ⟨h2 x hx, by simp⟩)
theorem fin_last {b : Bld} (hn : ¬ (b.tx = [] ∧ b.dr = 0)) : ∀ x, b.fin.getLast? = some x → x.k ≠ 1 := by
  intro x hx
  unfold Bld.fin dO pO at hx
  by_cases hd : b.dr = 0
  · rw [if_pos hd, List.append_nil, if_neg (fun h => hn ⟨h, hd⟩)] at hx
    simp at hx; rw [← hx]; simp
  · rw [if_neg hd] at hx
    simp at hx; rw [← hx]; simp
theorem wb_keep {b : Bld} (h : Wb b) (n : Nat) : Wb (b.keep n) := by
  unfold Bld.keep
  split
  · exact h
  · rename_i hn
    split
    · exact ⟨h.c, h.l, by rcases h.z with hz | hz; exact .inl hz; exact .inr (by show 0 < b.kept + n; omega)⟩
    · rename_i ht
      exact ⟨can_fin h, fin_last ht, .inr (by show 0 < n; omega)⟩
theorem wb_put {b : Bld} (h : Wb b) (t : List Int) : Wb (b.put t) := ⟨h.c, h.l, h.z⟩
theorem wb_drop {b : Bld} (h : Wb b) (n : Nat) : Wb (b.drop n) := ⟨h.c, h.l, h.z⟩
/-- atom by atom -/
def Bld.one (b : Bld) : Atm → Bld
  | .k => b.keep 1
  | .d => b.drop 1
  | .p x => b.put [x]
def feedA (b : Bld) (u : List Atm) : Bld := u.foldl Bld.one b
theorem feedA_app (b : Bld) (u v : List Atm) : feedA b (u ++ v) = feedA (feedA b u) v := List.foldl_append
theorem wb_one {b : Bld} (h : Wb b) (x : Atm) : Wb (b.one x) := by cases x; exact wb_keep h 1; exact wb_drop h 1; exact wb_put h _
theorem wb_feed : ∀ (u : List Atm) {b : Bld}, Wb b → Wb (feedA b u)
  | [], _, h => h
  | x :: u, _, h => wb_feed u (wb_one h x)
theorem keep_add (b : Bld) (m n : Nat) : (b.keep m).keep n = b.keep (m + n) := by
  unfold Bld.keep
  by_cases hm : m = 0
  · simp [hm]
  · by_cases hn : n = 0
    · simp [hn, hm]
    · rw [if_neg hn, if_neg hm, if_neg (by omega : ¬ m + n = 0)]
      by_cases h : b.tx = [] ∧ b.dr = 0
      · rw [if_pos h, if_pos h]; simp only [and_self, if_true]; rw [Nat.add_assoc]
      · rw [if_neg h, if_neg h]; simp only [and_self, if_true]
theorem feed_keeps (b : Bld) : ∀ n, feedA b (List.replicate n .k) = b.keep n
  | 0 => by simp [feedA, Bld.keep]
  | n + 1 => by rw [List.replicate_succ', feedA_app, feed_keeps b n]; show (b.keep n).keep 1 = _; rw [keep_add]
theorem feed_drops (b : Bld) : ∀ n, feedA b (List.replicate n .d) = b.drop n
  | 0 => by simp [feedA, Bld.drop]
  | n + 1 => by rw [List.replicate_succ', feedA_app, feed_drops b n]; show (b.drop n).drop 1 = _; simp [Bld.drop, Nat.add_assoc]
theorem feed_puts : ∀ (t : List Int) (b : Bld), feedA b (t.map .p) = b.put t
  | [], b => by simp [feedA, Bld.put]
  | x :: t, b => by
    show feedA (b.put [x]) (t.map .p) = _
    rw [feed_puts t]; simp [Bld.put]
theorem feed_swap (b : Bld) (x : Int) (a : List Atm) : feedA b (.d :: .p x :: a) = feedA b (.p x :: .d :: a) := rfl
theorem feed_ins : ∀ (s : List Atm) (b : Bld), feedA b (insD s) = feedA b (.d :: s)
  | [], _ => rfl
  | .k :: _, _ => rfl
  | .d :: _, _ => rfl
  | .p x :: s, b => by rw [feed_swap]; exact feed_ins s (b.put [x])
theorem feed_nf : ∀ (a : List Atm) (b : Bld), feedA b (nfA a) = feedA b a
  | [], _ => rfl
  | .k :: a, b => feed_nf a (b.keep 1)
  | .p x :: a, b => feed_nf a (b.put [x])
  | .d :: a, b => by simp only [nfA]; rw [feed_ins]; exact feed_nf a (b.drop 1)
theorem kO_atoms (n : Nat) : dA (kO n) = List.replicate n .k := by
  unfold kO; split
  · rename_i h; rw [h]; rfl
  · simp [dA, opA]
theorem pO_atoms (t : List Int) : dA (pO t) = t.map .p := by
  unfold pO; split
  · rename_i h; rw [h]; rfl
  · simp [dA, opA]
theorem dO_atoms (n : Nat) : dA (dO n) = List.replicate n .d := by
  unfold dO; split
  · rename_i h; rw [h]; rfl
  · simp [dA, opA]
theorem fin_atoms (b : Bld) : dA b.fin = dA b.ops ++ List.replicate b.kept .k ++ b.tx.map .p ++ List.replicate b.dr .d := by
  unfold Bld.fin; rw [dA_app, dA_app, dA_app, kO_atoms, pO_atoms, dO_atoms]
theorem nf_dp : ∀ (n : Nat) (x : Int), nfA (List.replicate n .d ++ [.p x]) = nfA (.p x :: List.replicate n .d)
  | 0, _ => rfl
  | n + 1, x => by
    rw [List.replicate_succ, List.cons_append]
    simp only [nfA]
    rw [nf_dp n x]
    rfl
theorem one_atoms {b : Bld} (x : Atm) : nfA (dA (b.one x).fin) = nfA (dA b.fin ++ [x]) := by
  cases x with
  | k =>
    show nfA (dA (b.keep 1).fin) = _
    unfold Bld.keep
    rw [if_neg (by decide)]
    split
    · rename_i ht
      rw [fin_atoms, fin_atoms, ht.1, ht.2]
      simp [List.replicate_succ']
    · rw [fin_atoms]
      simp
  | d =>
    show nfA (dA (b.drop 1).fin) = _
    rw [fin_atoms, fin_atoms]
    simp [Bld.drop, List.replicate_succ']
  | p x =>
    show nfA (dA (b.put [x]).fin) = _
    rw [fin_atoms, fin_atoms]
    simp only [Bld.put, List.map_append, List.map_cons, List.map_nil, List.append_assoc]
    refine nf_app_left _ (nf_app_left _ (nf_app_left _ ?_))
    exact (nf_dp _ x).symm
theorem feed_atoms : ∀ (u : List Atm) {b : Bld}, Wb b → nfA (dA (feedA b u).fin) = nfA (dA b.fin ++ u)
  | [], b, _ => by simp [feedA]
  | x :: u, b, h => by
    show nfA (dA (feedA (b.one x) u).fin) = _
    rw [feed_atoms u (wb_one h x), nf_app_right (one_atoms x) u]
    simp
/-- the canonical list of atoms -/
def canA (u : List Atm) : List Dop := (feedA b0 u).fin
theorem canA_can (u : List Atm) : Can (canA u) := can_fin (wb_feed u wb0)
theorem canA_atoms (u : List Atm) : dA (canA u) = nfA u := by
  rw [← can_nf (canA_can u)]
  exact (feed_atoms u wb0).trans rfl
theorem canA_congr {u v : List Atm} (h : nfA u = nfA v) : canA u = canA v := by unfold canA; rw [← feed_nf u, h, feed_nf]
/-- operation by operation -/
def Bld.op (b : Bld) (o : Dop) : Bld := if o.k = 1 then b.keep o.n.toNat else if o.k = 2 then b.put o.t else b.drop o.n.toNat
def feedD (b : Bld) (d : List Dop) : Bld := d.foldl Bld.op b
theorem op_atoms (b : Bld) (o : Dop) : b.op o = feedA b (opA o) := by
  unfold Bld.op opA
  split
  · rw [feed_keeps]
  · split
    · rw [feed_puts]
    · rw [feed_drops]
theorem feedD_A : ∀ (d : List Dop) (b : Bld), feedD b d = feedA b (dA d)
  | [], _ => rfl
  | o :: d, b => by
    show feedD (b.op o) d = _
    rw [feedD_A d, op_atoms, dA_cons, feedA_app]
theorem fin_feed : ∀ (r : List Dop) {b : Bld}, Wb b → (∀ o ∈ r, Pln o) → Chn (b.fin ++ r) → (feedD b r).fin = b.fin ++ r
  | [], b, _, _, _ => by simp [feedD]
  | o :: r, b, h, hp, hc => by
    have hx : Wb (b.op o) := by rw [op_atoms]; exact wb_feed _ h
    have e : (b.op o).fin = b.fin ++ [o] := by
      have hm := fun x => chn_mid (x := x) hc
      obtain ⟨k, n, t⟩ := o
      rcases hp ⟨k, n, t⟩ List.mem_cons_self with ⟨h1 | h1, h2, h3⟩ | ⟨h1, h2, h3⟩
      · dsimp only at h1 h2 h3
        subst h1; subst h3
        obtain ⟨m, rfl⟩ : ∃ m : Nat, n = (m : Int) := ⟨n.toNat, by omega⟩
        have hm0 : ¬ m = 0 := by omega
        simp only [Bld.op, if_true, Int.toNat_natCast]
        unfold Bld.keep
        rw [if_neg hm0]
        by_cases ht : b.tx = [] ∧ b.dr = 0
        · rw [if_pos ht]
          have hk : b.kept = 0 := by
            rcases Nat.eq_zero_or_pos b.kept with hk | hk
            · exact hk
            · have : b.fin.getLast? = some ⟨1, (b.kept : Int), []⟩ := by simp [Bld.fin, ht.1, ht.2, pO, dO, kO, show ¬ b.kept = 0 by omega]
              exact absurd rfl (hm _ this).1
          have ho : b.ops = [] := by rcases h.z with hz | hz; exact hz; omega
          simp [Bld.fin, ho, hk, ht.1, ht.2, pO, dO, kO, hm0]
        · rw [if_neg ht]
          show b.fin ++ kO m ++ pO [] ++ dO 0 = _
          simp [pO, dO, kO, hm0]
      · dsimp only at h1 h2 h3
        subst h1; subst h3
        obtain ⟨m, rfl⟩ : ∃ m : Nat, n = (m : Int) := ⟨n.toNat, by omega⟩
        have hm0 : ¬ m = 0 := by omega
        simp only [Bld.op, show ¬ ((3 : Int) = 1) by decide, show ¬ ((3 : Int) = 2) by decide, if_false, Int.toNat_natCast]
        have hd : b.dr = 0 := by
          rcases Nat.eq_zero_or_pos b.dr with hk | hk
          · exact hk
          · have : b.fin.getLast? = some ⟨3, (b.dr : Int), []⟩ := by simp [Bld.fin, dO, show ¬ b.dr = 0 by omega]
            exact absurd rfl (hm _ this).1
        simp [Bld.fin, Bld.drop, hd, dO, hm0]
      · dsimp only at h1 h2 h3
        subst h1; subst h2
        simp only [Bld.op, show ¬ ((2 : Int) = 1) by decide, if_false, if_true]
        have hd : b.dr = 0 := by
          rcases Nat.eq_zero_or_pos b.dr with hk | hk
          · exact hk
          · have : b.fin.getLast? = some ⟨3, (b.dr : Int), []⟩ := by simp [Bld.fin, dO, show ¬ b.dr = 0 by omega]
            exact absurd ⟨rfl, rfl⟩ (hm _ this).2
        have ht : b.tx = [] := by
          by_cases ht : b.tx = []
          · exact ht
          · have : b.fin.getLast? = some ⟨2, 0, b.tx⟩ := by simp [Bld.fin, hd, dO, pO, ht]
            exact absurd rfl (hm _ this).1
        simp [Bld.fin, Bld.put, hd, ht, dO, pO, h3]
    show (feedD (b.op o) r).fin = _
    rw [fin_feed r hx (fun x hx => hp x (List.mem_cons_of_mem _ hx)) (by rw [e]; simpa using hc), e]
    simp
/-- Canon of a canonical delta is it -/
theorem canA_id {d : List Dop} (h : Can d) : canA (dA d) = d := by
  have := fin_feed d wb0 h.p (by simpa [b0, Bld.fin, kO, pO, dO] using h.c)
  rw [feedD_A] at this
  exact this.trans (by simp [b0, Bld.fin, kO, pO, dO])
theorem can_inj {d e : List Dop} (h : Can d) (h' : Can e) (he : dA d = dA e) : d = e := by rw [← canA_id h, he, canA_id h']

/-- the document's add -/
def add1 (d : List Dop) (k n : Int) (t : List Int) : List Dop :=
  match d.getLast? with
  | none => [if k = 2 then ⟨2, 0, t⟩ else ⟨k, n, []⟩]
  | some x => if x.k = k then d.dropLast ++ [⟨x.k, x.n + n, x.t ++ t⟩] else d ++ [if k = 2 then ⟨2, 0, t⟩ else ⟨k, n, []⟩]
def addD (d : List Dop) (k n : Int) (t : List Int) : List Dop :=
  if (k = 2 ∧ t = []) ∨ (¬ k = 2 ∧ n = 0) then d else
  match d.getLast? with
  | none => add1 d k n t
  | some x => if k = 2 ∧ x.k = 3 then add1 d.dropLast 2 0 t ++ [⟨3, x.n, []⟩] else add1 d k n t
theorem fin_nil {b : Bld} (h : Wb b) (hk : b.kept = 0) : b.ops = [] := by rcases h.z with hz | hz; exact hz; omega
theorem add_keep {b : Bld} (h : Wb b) (n : Nat) : addD b.fin 1 (n : Int) [] = (b.keep n).fin := by
  unfold addD Bld.keep
  by_cases hn : n = 0
  · subst hn; simp
  · rw [if_neg (by simp; omega), if_neg hn]
    by_cases ht : b.tx = [] ∧ b.dr = 0
    · rw [if_pos ht]
      have hf : b.fin = b.ops ++ kO b.kept := by simp [Bld.fin, ht.1, ht.2, pO, dO]
      rw [hf]
      by_cases hk : b.kept = 0
      · simp [fin_nil h hk, hk, kO, add1, Bld.fin, pO, dO, hn]
      · simp [hk, kO, add1, Bld.fin, pO, dO, hn]
    · rw [if_neg ht]
      obtain ⟨x, hx⟩ : ∃ x, b.fin.getLast? = some x := by
        cases hh : b.fin.getLast? with
        | some x => exact ⟨x, rfl⟩
        | none =>
          have := List.getLast?_eq_none_iff.1 hh
          simp only [Bld.fin, List.append_eq_nil_iff, pO, dO] at this
          exact absurd ⟨by by_cases h : b.tx = []; exact h; simp [h] at this, by by_cases h : b.dr = 0; exact h; simp [h] at this⟩ ht
      have hx1 := fin_last ht x hx
      simp only [hx, show ¬ ((1 : Int) = 2) by decide, false_and, if_false, add1]
      rw [if_neg hx1]
      show _ = b.fin ++ kO n ++ pO [] ++ dO 0
      simp [kO, pO, dO, hn]
theorem add_drop {b : Bld} (h : Wb b) (n : Nat) : addD b.fin 3 (n : Int) [] = (b.drop n).fin := by
  unfold addD
  by_cases hn : n = 0
  · subst hn; simp [Bld.drop]
  · rw [if_neg (by simp; omega)]
    by_cases hd : b.dr = 0
    · have hl := (can_pO h).2
      have hf : b.fin = b.ops ++ kO b.kept ++ pO b.tx := by simp [Bld.fin, hd, dO]
      rw [← hf] at hl
      have hg : (b.drop n).fin = b.fin ++ [⟨3, (n : Int), []⟩] := by rw [hf]; simp [Bld.fin, Bld.drop, hd, dO, hn]
      rw [hg]
      unfold add1
      cases hh : b.fin.getLast? with
      | none => simp [List.getLast?_eq_none_iff.1 hh]
      | some x => simp [hl x hh]
    · have hf : b.fin = b.ops ++ kO b.kept ++ pO b.tx ++ [⟨3, (b.dr : Int), []⟩] := by simp [Bld.fin, hd, dO]
      have hg : (b.drop n).fin = b.ops ++ kO b.kept ++ pO b.tx ++ [⟨3, (b.dr : Int) + (n : Int), []⟩] := by
        show b.ops ++ kO b.kept ++ pO b.tx ++ dO (b.dr + n) = _
        unfold dO
        rw [if_neg (by omega)]
        rfl
      rw [hg]
      have hgl : b.fin.getLast? = some ⟨3, (b.dr : Int), []⟩ := by rw [hf]; simp
      have hdl : b.fin.dropLast = b.ops ++ kO b.kept ++ pO b.tx := by rw [hf]; exact List.dropLast_concat
      unfold add1
      rw [hgl]
      dsimp only
      rw [if_neg (by decide), if_pos rfl, hdl]
      rfl
theorem add1_put {b : Bld} (h : Wb b) (t : List Int) (ht : ¬ t = []) : add1 (b.ops ++ kO b.kept ++ pO b.tx) 2 0 t = b.ops ++ kO b.kept ++ pO (b.tx ++ t) := by
  by_cases hx : b.tx = []
  · rw [hx]
    obtain ⟨_, h2⟩ := can_kO h
    unfold add1
    simp only [pO, if_true, List.append_nil, List.nil_append]
    cases hh : (b.ops ++ kO b.kept).getLast? with
    | none => simp [List.getLast?_eq_none_iff.1 hh, ht]
    | some x => simp [h2 x hh, ht]
  · unfold add1
    have hg : (b.ops ++ kO b.kept ++ pO b.tx).getLast? = some ⟨2, 0, b.tx⟩ := by simp [pO, hx]
    have hl : (b.ops ++ kO b.kept ++ pO b.tx).dropLast = b.ops ++ kO b.kept := by simp only [pO, hx, if_false]; exact List.dropLast_concat
    rw [hg]
    dsimp only
    rw [if_pos rfl, hl]
    simp [pO, hx]
theorem add_put {b : Bld} (h : Wb b) (t : List Int) : addD b.fin 2 0 t = (b.put t).fin := by
  unfold addD
  by_cases ht : t = []
  · subst ht; simp [Bld.put]
  · rw [if_neg (by simp [ht])]
    by_cases hd : b.dr = 0
    · have hl := (can_pO h).2
      have hf : b.fin = b.ops ++ kO b.kept ++ pO b.tx := by simp [Bld.fin, hd, dO]
      have hg : (b.put t).fin = b.ops ++ kO b.kept ++ pO (b.tx ++ t) := by simp [Bld.fin, Bld.put, hd, dO]
      rw [hf, hg, add1_put h t ht]
      cases hh : (b.ops ++ kO b.kept ++ pO b.tx).getLast? with
      | none => rfl
      | some x => simp [hl x hh]
    · have hf : b.fin = b.ops ++ kO b.kept ++ pO b.tx ++ [⟨3, (b.dr : Int), []⟩] := by simp [Bld.fin, hd, dO]
      have hg : (b.put t).fin = b.ops ++ kO b.kept ++ pO (b.tx ++ t) ++ [⟨3, (b.dr : Int), []⟩] := by simp [Bld.fin, Bld.put, hd, dO]
      have hgl : b.fin.getLast? = some ⟨3, (b.dr : Int), []⟩ := by rw [hf]; simp
      have hdl : b.fin.dropLast = b.ops ++ kO b.kept ++ pO b.tx := by rw [hf]; exact List.dropLast_concat
      rw [hg, hgl]
      dsimp only
      rw [if_pos ⟨rfl, rfl⟩, hdl, add1_put h t ht]

end Go.Proofs.Ytohmgipmffblaaa
end

section
namespace Go.Proofs.Ytohmgipmffblaaa
open Go.ChangeShapes Go.WideShapes Go.ChangeAt Go.RowKit

/-- v is a []byte of the call's own, from block B on, that holds the bytes l -/
def Own (w : World) (B : Nat) (v : Value) (l : List Int) : Prop := w.ownsRow B 5 1 v l.length (l.map (Value.int .u8))

theorem grown_trans {w w1 w2 : World} {g : Nat} {row : Option Nat} (h : w.grownBy w1 (some g)) (h2 : w1.grownBy w2 row) (hr : ∀ k, row = some k → k = g ∨ w.heap.size ≤ k) : w.grownBy w2 (some g) := by
  refine ⟨h2.os.trans h.os, h2.tape.trans h.tape, h2.output.trans h.output, Nat.le_trans h.size h2.size, fun k hk hne => ?_⟩
  refine (h2.block k (Nat.lt_of_lt_of_le hk h.size) (fun e => ?_)).trans (h.block k hk hne)
  rcases hr k e.symm with rfl | h'
  · exact hne rfl
  · omega
theorem grown_refl (w : World) (row : Option Nat) : w.grownBy w row := ⟨rfl, rfl, rfl, Nat.le_refl _, fun _ _ _ => rfl⟩
theorem grown_set (w : World) (g k : Nat) (u : Value) : w.grownBy (w.setCell ⟨g, k, none⟩ u) (some g) :=
  ⟨rfl, rfl, rfl, by simp [World.setCell], fun j _ hne => Below.heap_setCell _ _ _ _ (fun e => hne (by rw [e]))⟩
theorem grown_drew {w w1 : World} {row : Option Nat} (h : w.grownBy w1 row) : w.grownBy w1.drew row := ⟨h.os, h.tape, h.output, h.size, h.block⟩
theorem Lies.lt {w : World} {g off : Nat} {l : List Int} (h : Lies w g off l) (hl : 0 < l.length) : g < w.heap.size := by
  have := (h 0 hl).1
  rcases Nat.lt_or_ge g w.heap.size with h' | h'
  · exact h'
  · simp [World.cell?, Array.getElem?_eq_none h'] at this
theorem Lies.grown {w w' : World} {row : Option Nat} {g off : Nat} {l : List Int} (h : Lies w g off l) (hg : w.grownBy w' row) (hne : some g ≠ row) : Lies w' g off l :=
  fun i hi => ⟨hg.cell (a := ⟨g, off + i, none⟩) (h i hi).1 hne, (h i hi).2⟩
theorem Lies.pre {w : World} {g off : Nat} {l m : List Int} (h : Lies w g off (l ++ m)) : Lies w g off l := by
  intro i hi
  have := h i (by simp; omega)
  rwa [show (l ++ m).getD i 0 = l.getD i 0 by simp [List.getD, List.getElem?_append_left hi]] at this

theorem Own.lies {w : World} {B g cap n : Nat} {l : List Int} (h : Own w B (.slice (some ⟨g, 0, none⟩) n cap) l) (hl : ∀ x ∈ l, 0 ≤ x ∧ x ≤ 255) : Lies w g 0 l := by
  intro i hi
  refine ⟨?_, ?_⟩
  · have := World.ownsRow.cells h rfl i (.int .u8 (l.getD i 0)) (by simp [List.getElem?_eq_getElem hi, List.getD])
    rwa [Addr.add_lit] at this
  · have := hl _ (List.getElem_mem hi)
    simpa [List.getD, List.getElem?_eq_getElem hi] using this
theorem Own.form {w : World} {B : Nat} {v : Value} {l : List Int} (h : Own w B v l) (hn : 0 < l.length) : ∃ g cap, v = .slice (some ⟨g, 0, none⟩) l.length cap ∧ B ≤ g ∧ g < w.heap.size ∧ l.length ≤ cap := by
  rcases h.2 with ⟨_, h0⟩ | ⟨g, cap, cur, hv, hb, hg, hc, _⟩
  · omega
  · refine ⟨g, cap, hv, hb, ?_, hc⟩
    rcases Nat.lt_or_ge g w.heap.size with hlt | hge
    · exact hlt
    · rw [Array.getElem?_eq_none hge] at hg; cases hg
theorem Own.kept {w w' : World} {B : Nat} {v : Value} {l : List Int} {row : Option Nat} (h : Own w B v l) (hg : w.grownBy w' row) (hne : v.ownBlock = none ∨ v.ownBlock ≠ row) : Own w' B v l := World.ownsRow.kept h hg hne

/-- one cell of the own row is written -/
theorem Own.cell {w : World} {B g cap n : Nat} {l : List Int} (h : Own w B (.slice (some ⟨g, 0, none⟩) n cap) l) (k : Nat) (hk : k < l.length) : (w.cell? ⟨g, k, none⟩).isSome = true ∧ w.frozen? ⟨g, k, none⟩ = false := by
  rcases h.2 with ⟨h0, _⟩ | ⟨g', cap', cur, hv, _, hg, hc, _, hs, _⟩
  · cases h0
  · cases hv
    refine ⟨?_, ?_⟩
    · simp only [World.cell?, hg]
      simp; omega
    · simp [World.frozen?, hg]
theorem Own.set {w : World} {B g cap n : Nat} {l : List Int} (h : Own w B (.slice (some ⟨g, 0, none⟩) n cap) l) (k : Nat) (x : Int) : Own (w.setCell ⟨g, k, none⟩ (.int .u8 x)) B (.slice (some ⟨g, 0, none⟩) n cap) (l.set k x) := by
  have hh := h
  rcases h.2 with ⟨h0, _⟩ | ⟨g', cap', cur, hv, hb, hg, hc, hm, hs, ht⟩
  · cases h0
  · cases hv
    refine ⟨by simp, Or.inr ⟨g, cap, cur.setIfInBounds k (.int .u8 x), ?_, hb, ?_, ?_, hm, by simpa using hs, ?_⟩⟩
    · simp
    · have hlt : g < w.heap.size := by
        rcases Nat.lt_or_ge g w.heap.size with h' | h'
        · exact h'
        · rw [Array.getElem?_eq_none h'] at hg; cases hg
      simp only [World.setCell, Array.getElem?_modify, if_true, hg, Option.map_some]
      simp
    · simpa using hc
    · simp only [Nat.mul_one, List.length_set] at ht ⊢
      rw [Array.toList_setIfInBounds, List.take_set, ht, List.map_set]

/-- append(v, b) where v is the call's own -/
theorem run_push (w : World) (B : Nat) (v : Value) (l : List Int) (b : Int) (ty : TypeId) (h : Own w B v l) (hn : l.length + 1 ≤ 140737488355328) (hB : B ≤ w.heap.size) :
    ∃ g cap w', (Builtin.append_ #[43, 43] ty #[v, .slice (some ⟨w.heap.size, 0, none⟩) 1 1]).run Try.prog (w.alloc (.cells #[.int .u8 b] 5)) = .ok (.slice (some ⟨g, 0, none⟩) (l.length + 1) cap) w' ∧
      Own w' B (.slice (some ⟨g, 0, none⟩) (l.length + 1) cap) (l ++ [b]) ∧ (w.alloc (.cells #[.int .u8 b] 5)).grownBy w' v.ownBlock ∧ (v.ownBlock = some g ∨ g = w.heap.size + 1) ∧ g < w'.heap.size ∧ l.length + 1 ≤ cap := by
  obtain ⟨i, hi, hz, hs, hby⟩ := info_u8
  obtain ⟨g, cap, w', hr, ho, hg, hat, hlt⟩ := run_append_lies (P := Try.prog) (w.alloc (.cells #[.int .u8 b] 5)) 43 ty B 5 i (.int .u8 0) 1 1 Try.underlying43 hi hz hs hby rfl (by decide)
    v l.length (l.map (Value.int .u8)) (World.ownsRow.alloc h _) ⟨w.heap.size, 0, none⟩ 1 1 [.int .u8 b] rfl
    (fun j u hj => by
      cases j with
      | zero =>
        simp at hj
        subst hj
        rw [Addr.add_lit]
        exact (World.cell?_alloc_mark w _ _ (0, 0) 0).trans rfl
      | succ j => simp at hj)
    (fun u hu => by simp at hu; subst hu; rfl) (by decide) (by unfold maxLen; omega) (by omega) (by simp; omega) (w.heap.size + 1) (by simp)
  have hown : Own w' B (.slice (some ⟨g, 0, none⟩) (l.length + 1) cap) (l ++ [b]) := by
    unfold Own
    simpa using ho
  obtain ⟨g', cap', e, _, _, hc⟩ := hown.form (by simp)
  refine ⟨g, cap, w', hr, hown, hg, hat, hlt, ?_⟩
  simp only [Value.slice.injEq] at e
  simp at hc
  omega

/-- append([]byte{}, b...), told as a row of the call's own -/
theorem run_copy_own (w : World) (a0 : Option Addr) (cap : Nat) (l : List Int) (ty : TypeId) (hB : IsB w a0 cap l) :
    ∃ v' w', (Builtin.append_ #[43, 43] ty #[.slice (some ⟨w.heap.size, 0, none⟩) 0 0, .slice a0 l.length cap]).run Try.prog (w.alloc (.cells #[] 5)) = .ok v' w' ∧
      Own w' w.heap.size v' l ∧ Below w.heap.size w w' := by
  obtain ⟨i, hi, hz, hs, hby⟩ := info_u8
  have hb0 : Below w.heap.size w (w.alloc (.cells #[] 5)) := (Below.refl _ _).alloc (Nat.le_refl _) _
  have hown : (w.alloc (.cells #[] 5)).ownsRow w.heap.size 5 1 (.slice (some ⟨w.heap.size, 0, none⟩) 0 0) 0 [] := World.ownsRow_made w #[] 0 (Nat.le_refl _) (Nat.zero_le _) rfl
  obtain ⟨h1, h2, h3, h4⟩ := hB.below hb0 (Nat.le_refl _)
  rcases Nat.eq_zero_or_pos l.length with h0 | h0
  · obtain rfl : l = [] := List.length_eq_zero_iff.1 h0
    refine ⟨.slice (some ⟨w.heap.size, 0, none⟩) 0 0, _, ?_, hown, hb0⟩
    exact run_append_room_src (P := Try.prog) (w.alloc (.cells #[] 5)) 43 43 ty 5 i Try.underlying43 hi w.heap.size 0 0 0 (.slice a0 0 cap) 0 [] (by rw [hs]; exact src_none _ a0 cap) (Nat.le_refl _) (fun j hj => absurd hj (Nat.not_lt_zero _)) (fun j hj => absurd hj (Nat.not_lt_zero _))
  · rcases h3 with h3 | ⟨g, off, rfl, hL⟩
    · rw [h3] at h0; cases h0
    have src := src_some _ g off cap l hL
    obtain ⟨v', w', hr, ho, hg, _⟩ := run_append_own (P := Try.prog) (w.alloc (.cells #[] 5)) w.heap.size 43 ty 5 i (.int .u8 0) 1 1 Try.underlying43 hi hz hs hby rfl (by decide)
      _ 0 [] hown ⟨g, off, none⟩ l.length cap (l.map (Value.int .u8)) (by simp)
      (fun j u h => by
        have hj : j < l.length := by
          rcases Nat.lt_or_ge j l.length with h' | h'
          · exact h'
          · rw [List.getElem?_eq_none (by simpa using h')] at h; cases h
        rw [Addr.add_lit, (hL j hj).1]
        simp [List.getElem?_eq_getElem hj] at h
        simp [List.getD, List.getElem?_eq_getElem hj, h])
      src.one (by unfold maxLen; omega) (by omega) (by simp)
    refine ⟨v', w', hr, ?_, hb0.grown hg (by simp) (fun k e => by cases e; exact Nat.le_refl _)⟩
    unfold Own
    simpa using ho

theorem src_cells {w : World} {g off : Nat} {m : List Int} (hL : Lies w g off m) : ∀ j u, (m.map (Value.int .u8))[j]? = some u → w.cell? ((⟨g, off, none⟩ : Addr).add j) = some u := by
  intro j u h
  have hj : j < m.length := by
    rcases Nat.lt_or_ge j m.length with h' | h'
    · exact h'
    · rw [List.getElem?_eq_none (by simpa using h')] at h; cases h
  rw [Addr.add_lit, (hL j hj).1]
  simp [List.getElem?_eq_getElem hj] at h
  simp [List.getD, List.getElem?_eq_getElem hj, h]

/-- append(v, m...) where v is the call's own -/
theorem run_more (w : World) (B g c : Nat) (l m : List Int) (a0 : Option Addr) (cap : Nat) (ty : TypeId) (h : Own w B (.slice (some ⟨g, 0, none⟩) l.length c) l) (hm : IsB w a0 cap m) (hB : B ≤ w.heap.size) (hn : l.length + m.length ≤ 140737488355328) :
    ∃ g' c' w', (Builtin.append_ #[43, 43] ty #[.slice (some ⟨g, 0, none⟩) l.length c, .slice a0 m.length cap]).run Try.prog w = .ok (.slice (some ⟨g', 0, none⟩) (l.length + m.length) c') w' ∧
      Own w' B (.slice (some ⟨g', 0, none⟩) (l.length + m.length) c') (l ++ m) ∧ Below B w w' ∧ B ≤ g' ∧ g' < w'.heap.size := by
  obtain ⟨i, hi, hz, hs, hby⟩ := info_u8
  have hgB : B ≤ g ∧ g < w.heap.size := World.ownsRow.lt h g rfl
  rcases Nat.eq_zero_or_pos m.length with h0 | h0
  · obtain rfl : m = [] := List.length_eq_zero_iff.1 h0
    have hlc : l.length ≤ c := by
      rcases h.2 with ⟨hv, _⟩ | ⟨g1, cap1, cur, hv, _, _, hc, _⟩
      · cases hv
      · cases hv; exact hc
    refine ⟨g, c, w, ?_, by simpa using h, Below.refl _ _, hgB.1, hgB.2⟩
    exact run_append_room_src (P := Try.prog) w 43 43 ty 5 i Try.underlying43 hi g 0 l.length c (.slice a0 0 cap) 0 [] (by rw [hs]; exact src_none _ a0 cap) (by omega) (fun j hj => absurd hj (Nat.not_lt_zero _)) (fun j hj => absurd hj (Nat.not_lt_zero _))
  · rcases hm.2.2.1 with h3 | ⟨g0, off, rfl, hL⟩
    · rw [h3] at h0; cases h0
    obtain ⟨g', c', w', hr, ho, hg, hat, hlt⟩ := run_append_lies (P := Try.prog) w 43 ty B 5 i (.int .u8 0) 1 1 Try.underlying43 hi hz hs hby rfl (by decide)
      _ l.length (l.map (Value.int .u8)) h ⟨g0, off, none⟩ m.length cap (m.map (Value.int .u8)) (by simp) (src_cells hL) (src_some _ g0 off cap m hL).one h0 (by unfold maxLen; omega) (by omega) hB (w.heap.size) (by omega)
    have hown : Own w' B (.slice (some ⟨g', 0, none⟩) (l.length + m.length) c') (l ++ m) := by
      unfold Own
      simpa using ho
    exact ⟨g', c', w', hr, hown, (Below.refl B w).grown hg hB (fun k e => by cases e; exact hgB.1), (World.ownsRow.lt hown g' rfl).1, (World.ownsRow.lt hown g' rfl).2⟩

end Go.Proofs.Ytohmgipmffblaaa
end
