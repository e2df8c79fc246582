/- Layer 13, plain: operations, canonical lists of them, what makes them: the program's builder and the document's add. -/
import Derived.Test.YtkdnanlgkedjgabDoorDn30

namespace Go.Proofs.YtkdnanlgkedjgabDoor

structure Dop where
  k : Int
  n : Int
  t : List Int
def opA (o : Dop) : List Atm := if o.k = 1 then List.replicate o.n.toNat .k else if o.k = 2 then o.t.map .p else List.replicate o.n.toNat .d
def dA (d : List Dop) : List Atm := d.flatMap opA
theorem dA_app (a b : List Dop) : dA (a ++ b) = dA a ++ dA b := by simp [dA]
theorem dA_cons (o : Dop) (b : List Dop) : dA (o :: b) = opA o ++ dA b := by simp [dA]
/-- canonical, but for the sizes -/
def Pln (o : Dop) : Prop := ((o.k = 1 ∨ o.k = 3) ∧ 1 ≤ o.n ∧ o.t = []) ∨ (o.k = 2 ∧ o.n = 0 ∧ o.t ≠ [])
def okN (a b : Int) : Prop := a ≠ b ∧ ¬ (a = 3 ∧ b = 2)
def Chn : List Dop → Prop
  | [] => True
  | [_] => True
  | a :: b :: r => okN a.k b.k ∧ Chn (b :: r)
structure Can (d : List Dop) : Prop where
  p : ∀ o ∈ d, Pln o
  c : Chn d
theorem chn_tail {o : Dop} {r : List Dop} (h : Chn (o :: r)) : Chn r := by
  cases r with
  | nil => trivial
  | cons a r => exact h.2
theorem chn_snoc : ∀ {d : List Dop} {o : Dop}, Chn d → (∀ x, d.getLast? = some x → okN x.k o.k) → Chn (d ++ [o])
  | [], _, _, _ => trivial
  | [a], o, _, h => ⟨h a rfl, trivial⟩
  | a :: b :: r, o, h, hl => ⟨h.1, chn_snoc (d := b :: r) h.2 (fun x hx => hl x (by rw [List.getLast?_cons_cons]; exact hx))⟩
theorem chn_app : ∀ {d e : List Dop}, Chn (d ++ e) → Chn d ∧ Chn e
  | [], _, h => ⟨trivial, h⟩
  | [_], _, h => ⟨trivial, chn_tail h⟩
  | _ :: b :: r, _, h => ⟨⟨h.1, (chn_app (d := b :: r) h.2).1⟩, (chn_app (d := b :: r) h.2).2⟩
theorem chn_mid : ∀ {d : List Dop} {x o : Dop} {r : List Dop}, Chn (d ++ o :: r) → d.getLast? = some x → okN x.k o.k
  | [], _, _, _, _, h => by simp at h
  | [a], x, o, r, h, hl => by (obtain rfl : a = x := by simpa using hl); exact h.1
  | a :: b :: d, x, o, r, h, hl => chn_mid (d := b :: d) h.2 (by rw [List.getLast?_cons_cons] at hl; exact hl)
theorem nf_keeps : ∀ (n : Nat) (a : List Atm), nfA (List.replicate n .k ++ a) = List.replicate n .k ++ nfA a
  | 0, _ => by simp
  | n + 1, a => by rw [List.replicate_succ, List.cons_append]; simp only [nfA, List.cons_append]; rw [nf_keeps n a]
theorem nf_puts : ∀ (t : List Int) (a : List Atm), nfA (t.map .p ++ a) = t.map .p ++ nfA a
  | [], _ => rfl
  | x :: t, a => by simp only [List.map_cons, List.cons_append, nfA]; rw [nf_puts t a]
theorem nf_drops : ∀ (n : Nat) (a : List Atm), (∀ x r, nfA a = .p x :: r → False) → nfA (List.replicate n .d ++ a) = List.replicate n .d ++ nfA a
  | 0, _, _ => by simp
  | n + 1, a, h => by
    rw [List.replicate_succ, List.cons_append]
    simp only [nfA, List.cons_append]
    rw [nf_drops n a h]
    cases n with
    | zero =>
      simp only [List.replicate_zero, List.nil_append]
      cases hh : nfA a with
      | nil => rfl
      | cons c r =>
        cases c with
        | k => rfl
        | d => rfl
        | p x => exact absurd (h x r hh) id
    | succ n => rfl
theorem opA_put {o : Dop} (h : Pln o) (a : List Atm) {x : Int} {r : List Atm} (e : opA o ++ a = .p x :: r) : o.k = 2 := by
  rcases h with ⟨h1 | h1, h2, _⟩ | ⟨h1, _, _⟩
  · obtain ⟨n, hn⟩ : ∃ n, o.n.toNat = n + 1 := ⟨o.n.toNat - 1, by omega⟩
    simp [opA, h1, hn, List.replicate_succ] at e
  · obtain ⟨n, hn⟩ : ∃ n, o.n.toNat = n + 1 := ⟨o.n.toNat - 1, by omega⟩
    simp [opA, h1, hn, List.replicate_succ] at e
  · exact h1
theorem can_nf : ∀ {d : List Dop}, Can d → nfA (dA d) = dA d
  | [], _ => rfl
  | o :: r, h => by
    have ih := can_nf (d := r) ⟨fun x hx => h.p x (List.mem_cons_of_mem _ hx), chn_tail h.c⟩
    rw [dA_cons]
    rcases h.p o List.mem_cons_self with ⟨h1 | h1, h2, _⟩ | ⟨h1, _, _⟩
    · simp only [opA, h1, if_true]; rw [nf_keeps, ih]
    · simp only [opA, h1, show ¬ ((3 : Int) = 1) by decide, show ¬ ((3 : Int) = 2) by decide, if_false]
      rw [nf_drops _ _ ?_, ih]
      intro x q e
      rw [ih] at e
      cases r with
      | nil => simp [dA] at e
      | cons b r =>
        rw [dA_cons] at e
        have := opA_put (h.p b (by simp)) _ e
        exact h.c.1.2 ⟨h1, this⟩
    · simp only [opA, h1, show ¬ ((2 : Int) = 1) by decide, if_false, if_true]; rw [nf_puts, ih]

/-- what is kept, put and dropped behind the operations that are written -/
structure Bld where
  ops : List Dop
  kept : Nat
  tx : List Int
  dr : Nat
def b0 : Bld := ⟨[], 0, [], 0⟩
def kO (n : Nat) : List Dop := if n = 0 then [] else [⟨1, (n : Int), []⟩]
def pO (t : List Int) : List Dop := if t = [] then [] else [⟨2, 0, t⟩]
def dO (n : Nat) : List Dop := if n = 0 then [] else [⟨3, (n : Int), []⟩]
def Bld.fin (b : Bld) : List Dop := b.ops ++ kO b.kept ++ pO b.tx ++ dO b.dr
def Bld.keep (b : Bld) (n : Nat) : Bld := if n = 0 then b else if b.tx = [] ∧ b.dr = 0 then ⟨b.ops, b.kept + n, [], 0⟩ else ⟨b.fin, n, [], 0⟩
def Bld.put (b : Bld) (t : List Int) : Bld := ⟨b.ops, b.kept, b.tx ++ t, b.dr⟩
def Bld.drop (b : Bld) (n : Nat) : Bld := ⟨b.ops, b.kept, b.tx, b.dr + n⟩
structure Wb (b : Bld) : Prop where
  c : Can b.ops
  l : ∀ x, b.ops.getLast? = some x → x.k ≠ 1
  z : b.ops = [] ∨ 0 < b.kept
theorem wb0 : Wb b0 := ⟨⟨fun o h => by simp [b0] at h, trivial⟩, fun x h => by simp [b0] at h, .inl rfl⟩
theorem pln_k {n : Nat} (h : ¬ n = 0) : Pln ⟨1, (n : Int), []⟩ := .inl ⟨.inl rfl, by show (1 : Int) ≤ (n : Int); omega, rfl⟩
theorem pln_p {t : List Int} (h : ¬ t = []) : Pln ⟨2, 0, t⟩ := .inr ⟨rfl, rfl, h⟩
theorem pln_d {n : Nat} (h : ¬ n = 0) : Pln ⟨3, (n : Int), []⟩ := .inl ⟨.inr rfl, by show (1 : Int) ≤ (n : Int); omega, rfl⟩
theorem can_snoc {d : List Dop} {o : Dop} (h : Can d) (hp : Pln o) (hl : ∀ x, d.getLast? = some x → okN x.k o.k) : Can (d ++ [o]) :=
  ⟨fun x hx => by rcases List.mem_append.1 hx with hx | hx; exact h.p x hx; obtain rfl := List.mem_singleton.1 hx; exact hp, chn_snoc h.c hl⟩
theorem can_kO {b : Bld} (h : Wb b) : Can (b.ops ++ kO b.kept) ∧ ∀ x, (b.ops ++ kO b.kept).getLast? = some x → x.k = 1 := by
  unfold kO
  split
  · rename_i hk
    rw [List.append_nil]
    rcases h.z with hz | hz
    · rw [hz]; exact ⟨⟨fun o h => by simp at h, trivial⟩, fun x h => by simp at h⟩
    · omega
  · rename_i hk
    exact ⟨can_snoc h.c (pln_k hk) (fun x hx => ⟨h.l x hx, fun hh => by have := hh.2; simp at this⟩), fun x hx => by simp at hx; rw [← hx]⟩
theorem can_pO {b : Bld} (h : Wb b) : Can (b.ops ++ kO b.kept ++ pO b.tx) ∧ ∀ x, (b.ops ++ kO b.kept ++ pO b.tx).getLast? = some x → x.k ≠ 3 := by
  obtain ⟨h1, h2⟩ := can_kO h
  unfold pO
  split
  · rw [List.append_nil]; exact ⟨h1, fun x hx => by rw [h2 x hx]; decide⟩
  · rename_i ht
    exact ⟨can_snoc h1 (pln_p ht) (fun x hx => by rw [h2 x hx]; exact ⟨by simp, by simp⟩), fun x hx => by simp at hx; rw [← hx]; simp⟩
theorem can_fin {b : Bld} (h : Wb b) : Can b.fin := by
  obtain ⟨h1, h2⟩ := can_pO h
  unfold Bld.fin dO
  split
  · rw [List.append_nil]; exact h1
  · rename_i hd
    exact can_snoc h1 (pln_d hd) (fun x hx => ⟨h2 x hx, by simp⟩)
theorem fin_last {b : Bld} (hn : ¬ (b.tx = [] ∧ b.dr = 0)) : ∀ x, b.fin.getLast? = some x → x.k ≠ 1 := by
  intro x hx
  unfold Bld.fin dO pO at hx
  by_cases hd : b.dr = 0
  · rw [if_pos hd, List.append_nil, if_neg (fun h => hn ⟨h, hd⟩)] at hx
    simp at hx; rw [← hx]; simp
  · rw [if_neg hd] at hx
    simp at hx; rw [← hx]; simp
theorem wb_keep {b : Bld} (h : Wb b) (n : Nat) : Wb (b.keep n) := by
  unfold Bld.keep
  split
  · exact h
  · rename_i hn
    split
    · exact ⟨h.c, h.l, by rcases h.z with hz | hz; exact .inl hz; exact .inr (by show 0 < b.kept + n; omega)⟩
    · rename_i ht
      exact ⟨can_fin h, fin_last ht, .inr (by show 0 < n; omega)⟩
theorem wb_put {b : Bld} (h : Wb b) (t : List Int) : Wb (b.put t) := ⟨h.c, h.l, h.z⟩
theorem wb_drop {b : Bld} (h : Wb b) (n : Nat) : Wb (b.drop n) := ⟨h.c, h.l, h.z⟩
/-- atom by atom -/
def Bld.one (b : Bld) : Atm → Bld
  | .k => b.keep 1
  | .d => b.drop 1
  | .p x => b.put [x]
def feedA (b : Bld) (u : List Atm) : Bld := u.foldl Bld.one b
theorem feedA_app (b : Bld) (u v : List Atm) : feedA b (u ++ v) = feedA (feedA b u) v := List.foldl_append
theorem wb_one {b : Bld} (h : Wb b) (x : Atm) : Wb (b.one x) := by cases x; exact wb_keep h 1; exact wb_drop h 1; exact wb_put h _
theorem wb_feed : ∀ (u : List Atm) {b : Bld}, Wb b → Wb (feedA b u)
  | [], _, h => h
  | x :: u, _, h => wb_feed u (wb_one h x)
theorem keep_add (b : Bld) (m n : Nat) : (b.keep m).keep n = b.keep (m + n) := by
  unfold Bld.keep
  by_cases hm : m = 0
  · simp [hm]
  · by_cases hn : n = 0
    · simp [hn, hm]
    · rw [if_neg hn, if_neg hm, if_neg (by omega : ¬ m + n = 0)]
      by_cases h : b.tx = [] ∧ b.dr = 0
      · rw [if_pos h, if_pos h]; simp only [and_self, if_true]; rw [Nat.add_assoc]
      · rw [if_neg h, if_neg h]; simp only [and_self, if_true]
theorem feed_keeps (b : Bld) : ∀ n, feedA b (List.replicate n .k) = b.keep n
  | 0 => by simp [feedA, Bld.keep]
  | n + 1 => by rw [List.replicate_succ', feedA_app, feed_keeps b n]; show (b.keep n).keep 1 = _; rw [keep_add]
theorem feed_drops (b : Bld) : ∀ n, feedA b (List.replicate n .d) = b.drop n
  | 0 => by simp [feedA, Bld.drop]
  | n + 1 => by rw [List.replicate_succ', feedA_app, feed_drops b n]; show (b.drop n).drop 1 = _; simp [Bld.drop, Nat.add_assoc]
theorem feed_puts : ∀ (t : List Int) (b : Bld), feedA b (t.map .p) = b.put t
  | [], b => by simp [feedA, Bld.put]
  | x :: t, b => by
    show feedA (b.put [x]) (t.map .p) = _
    rw [feed_puts t]; simp [Bld.put]
theorem feed_swap (b : Bld) (x : Int) (a : List Atm) : feedA b (.d :: .p x :: a) = feedA b (.p x :: .d :: a) := rfl
theorem feed_ins : ∀ (s : List Atm) (b : Bld), feedA b (insD s) = feedA b (.d :: s)
  | [], _ => rfl
  | .k :: _, _ => rfl
  | .d :: _, _ => rfl
  | .p x :: s, b => by rw [feed_swap]; exact feed_ins s (b.put [x])
theorem feed_nf : ∀ (a : List Atm) (b : Bld), feedA b (nfA a) = feedA b a
  | [], _ => rfl
  | .k :: a, b => feed_nf a (b.keep 1)
  | .p x :: a, b => feed_nf a (b.put [x])
  | .d :: a, b => by simp only [nfA]; rw [feed_ins]; exact feed_nf a (b.drop 1)
theorem kO_atoms (n : Nat) : dA (kO n) = List.replicate n .k := by
  unfold kO; split
  · rename_i h; rw [h]; rfl
  · simp [dA, opA]
theorem pO_atoms (t : List Int) : dA (pO t) = t.map .p := by
  unfold pO; split
  · rename_i h; rw [h]; rfl
  · simp [dA, opA]
theorem dO_atoms (n : Nat) : dA (dO n) = List.replicate n .d := by
  unfold dO; split
  · rename_i h; rw [h]; rfl
  · simp [dA, opA]
theorem fin_atoms (b : Bld) : dA b.fin = dA b.ops ++ List.replicate b.kept .k ++ b.tx.map .p ++ List.replicate b.dr .d := by
  unfold Bld.fin; rw [dA_app, dA_app, dA_app, kO_atoms, pO_atoms, dO_atoms]
theorem nf_dp : ∀ (n : Nat) (x : Int), nfA (List.replicate n .d ++ [.p x]) = nfA (.p x :: List.replicate n .d)
  | 0, _ => rfl
  | n + 1, x => by
    rw [List.replicate_succ, List.cons_append]
    simp only [nfA]
    rw [nf_dp n x]
    rfl
theorem one_atoms {b : Bld} (x : Atm) : nfA (dA (b.one x).fin) = nfA (dA b.fin ++ [x]) := by
  cases x with
  | k =>
    show nfA (dA (b.keep 1).fin) = _
    unfold Bld.keep
    rw [if_neg (by decide)]
    split
    · rename_i ht
      rw [fin_atoms, fin_atoms, ht.1, ht.2]
      simp [List.replicate_succ']
    · rw [fin_atoms]
      simp
  | d =>
    show nfA (dA (b.drop 1).fin) = _
    rw [fin_atoms, fin_atoms]
    simp [Bld.drop, List.replicate_succ']
  | p x =>
    show nfA (dA (b.put [x]).fin) = _
    rw [fin_atoms, fin_atoms]
    simp only [Bld.put, List.map_append, List.map_cons, List.map_nil, List.append_assoc]
    refine nf_app_left _ (nf_app_left _ (nf_app_left _ ?_))
    exact (nf_dp _ x).symm
theorem feed_atoms : ∀ (u : List Atm) {b : Bld}, Wb b → nfA (dA (feedA b u).fin) = nfA (dA b.fin ++ u)
  | [], b, _ => by simp [feedA]
  | x :: u, b, h => by
    show nfA (dA (feedA (b.one x) u).fin) = _
    rw [feed_atoms u (wb_one h x), nf_app_right (one_atoms x) u]
    simp
/-- the canonical list of atoms -/
def canA (u : List Atm) : List Dop := (feedA b0 u).fin
theorem canA_can (u : List Atm) : Can (canA u) := can_fin (wb_feed u wb0)
theorem canA_atoms (u : List Atm) : dA (canA u) = nfA u := by
  rw [← can_nf (canA_can u)]
  exact (feed_atoms u wb0).trans rfl
theorem canA_congr {u v : List Atm} (h : nfA u = nfA v) : canA u = canA v := by unfold canA; rw [← feed_nf u, h, feed_nf]
/-- operation by operation -/
def Bld.op (b : Bld) (o : Dop) : Bld := if o.k = 1 then b.keep o.n.toNat else if o.k = 2 then b.put o.t else b.drop o.n.toNat
def feedD (b : Bld) (d : List Dop) : Bld := d.foldl Bld.op b
theorem op_atoms (b : Bld) (o : Dop) : b.op o = feedA b (opA o) := by
  unfold Bld.op opA
  split
  · rw [feed_keeps]
  · split
    · rw [feed_puts]
    · rw [feed_drops]
theorem feedD_A : ∀ (d : List Dop) (b : Bld), feedD b d = feedA b (dA d)
  | [], _ => rfl
  | o :: d, b => by
    show feedD (b.op o) d = _
    rw [feedD_A d, op_atoms, dA_cons, feedA_app]
theorem fin_feed : ∀ (r : List Dop) {b : Bld}, Wb b → (∀ o ∈ r, Pln o) → Chn (b.fin ++ r) → (feedD b r).fin = b.fin ++ r
  | [], b, _, _, _ => by simp [feedD]
  | o :: r, b, h, hp, hc => by
    have hx : Wb (b.op o) := by rw [op_atoms]; exact wb_feed _ h
    have e : (b.op o).fin = b.fin ++ [o] := by
      have hm := fun x => chn_mid (x := x) hc
      obtain ⟨k, n, t⟩ := o
      rcases hp ⟨k, n, t⟩ List.mem_cons_self with ⟨h1 | h1, h2, h3⟩ | ⟨h1, h2, h3⟩
      · dsimp only at h1 h2 h3
        subst h1; subst h3
        obtain ⟨m, rfl⟩ : ∃ m : Nat, n = (m : Int) := ⟨n.toNat, by omega⟩
        have hm0 : ¬ m = 0 := by omega
        simp only [Bld.op, if_true, Int.toNat_natCast]
        unfold Bld.keep
        rw [if_neg hm0]
        by_cases ht : b.tx = [] ∧ b.dr = 0
        · rw [if_pos ht]
          have hk : b.kept = 0 := by
            rcases Nat.eq_zero_or_pos b.kept with hk | hk
            · exact hk
            · have : b.fin.getLast? = some ⟨1, (b.kept : Int), []⟩ := by simp [Bld.fin, ht.1, ht.2, pO, dO, kO, show ¬ b.kept = 0 by omega]
              exact absurd rfl (hm _ this).1
          have ho : b.ops = [] := by rcases h.z with hz | hz; exact hz; omega
          simp [Bld.fin, ho, hk, ht.1, ht.2, pO, dO, kO, hm0]
        · rw [if_neg ht]
          show b.fin ++ kO m ++ pO [] ++ dO 0 = _
          simp [pO, dO, kO, hm0]
      · dsimp only at h1 h2 h3
        subst h1; subst h3
        obtain ⟨m, rfl⟩ : ∃ m : Nat, n = (m : Int) := ⟨n.toNat, by omega⟩
        have hm0 : ¬ m = 0 := by omega
        simp only [Bld.op, show ¬ ((3 : Int) = 1) by decide, show ¬ ((3 : Int) = 2) by decide, if_false, Int.toNat_natCast]
        have hd : b.dr = 0 := by
          rcases Nat.eq_zero_or_pos b.dr with hk | hk
          · exact hk
          · have : b.fin.getLast? = some ⟨3, (b.dr : Int), []⟩ := by simp [Bld.fin, dO, show ¬ b.dr = 0 by omega]
            exact absurd rfl (hm _ this).1
        simp [Bld.fin, Bld.drop, hd, dO, hm0]
      · dsimp only at h1 h2 h3
        subst h1; subst h2
        simp only [Bld.op, show ¬ ((2 : Int) = 1) by decide, if_false, if_true]
        have hd : b.dr = 0 := by
          rcases Nat.eq_zero_or_pos b.dr with hk | hk
          · exact hk
          · have : b.fin.getLast? = some ⟨3, (b.dr : Int), []⟩ := by simp [Bld.fin, dO, show ¬ b.dr = 0 by omega]
            exact absurd ⟨rfl, rfl⟩ (hm _ this).2
        have ht : b.tx = [] := by
          by_cases ht : b.tx = []
          · exact ht
          · have : b.fin.getLast? = some ⟨2, 0, b.tx⟩ := by simp [Bld.fin, hd, dO, pO, ht]
            exact absurd rfl (hm _ this).1
        simp [Bld.fin, Bld.put, hd, ht, dO, pO, h3]
    show (feedD (b.op o) r).fin = _
    rw [fin_feed r hx (fun x hx => hp x (List.mem_cons_of_mem _ hx)) (by rw [e]; simpa using hc), e]
    simp
/-- Canon of a canonical delta is it -/
theorem canA_id {d : List Dop} (h : Can d) : canA (dA d) = d := by
  have := fin_feed d wb0 h.p (by simpa [b0, Bld.fin, kO, pO, dO] using h.c)
  rw [feedD_A] at this
  exact this.trans (by simp [b0, Bld.fin, kO, pO, dO])
theorem can_inj {d e : List Dop} (h : Can d) (h' : Can e) (he : dA d = dA e) : d = e := by rw [← canA_id h, he, canA_id h']

/-- the document's add -/
def add1 (d : List Dop) (k n : Int) (t : List Int) : List Dop :=
  match d.getLast? with
  | none => [if k = 2 then ⟨2, 0, t⟩ else ⟨k, n, []⟩]
  | some x => if x.k = k then d.dropLast ++ [⟨x.k, x.n + n, x.t ++ t⟩] else d ++ [if k = 2 then ⟨2, 0, t⟩ else ⟨k, n, []⟩]
def addD (d : List Dop) (k n : Int) (t : List Int) : List Dop :=
  if (k = 2 ∧ t = []) ∨ (¬ k = 2 ∧ n = 0) then d else
  match d.getLast? with
  | none => add1 d k n t
  | some x => if k = 2 ∧ x.k = 3 then add1 d.dropLast 2 0 t ++ [⟨3, x.n, []⟩] else add1 d k n t
theorem fin_nil {b : Bld} (h : Wb b) (hk : b.kept = 0) : b.ops = [] := by rcases h.z with hz | hz; exact hz; omega
theorem add_keep {b : Bld} (h : Wb b) (n : Nat) : addD b.fin 1 (n : Int) [] = (b.keep n).fin := by
  unfold addD Bld.keep
  by_cases hn : n = 0
  · subst hn; simp
  · rw [if_neg (by simp; omega), if_neg hn]
    by_cases ht : b.tx = [] ∧ b.dr = 0
    · rw [if_pos ht]
      have hf : b.fin = b.ops ++ kO b.kept := by simp [Bld.fin, ht.1, ht.2, pO, dO]
      rw [hf]
      by_cases hk : b.kept = 0
      · simp [fin_nil h hk, hk, kO, add1, Bld.fin, pO, dO, hn]
      · simp [hk, kO, add1, Bld.fin, pO, dO, hn]
    · rw [if_neg ht]
      obtain ⟨x, hx⟩ : ∃ x, b.fin.getLast? = some x := by
        cases hh : b.fin.getLast? with
        | some x => exact ⟨x, rfl⟩
        | none =>
          have := List.getLast?_eq_none_iff.1 hh
          simp only [Bld.fin, List.append_eq_nil_iff, pO, dO] at this
          exact absurd ⟨by by_cases h : b.tx = []; exact h; simp [h] at this, by by_cases h : b.dr = 0; exact h; simp [h] at this⟩ ht
      have hx1 := fin_last ht x hx
      simp only [hx, show ¬ ((1 : Int) = 2) by decide, false_and, if_false, add1]
      rw [if_neg hx1]
      show _ = b.fin ++ kO n ++ pO [] ++ dO 0
      simp [kO, pO, dO, hn]
theorem add_drop {b : Bld} (h : Wb b) (n : Nat) : addD b.fin 3 (n : Int) [] = (b.drop n).fin := by
  unfold addD
  by_cases hn : n = 0
  · subst hn; simp [Bld.drop]
  · rw [if_neg (by simp; omega)]
    by_cases hd : b.dr = 0
    · have hl := (can_pO h).2
      have hf : b.fin = b.ops ++ kO b.kept ++ pO b.tx := by simp [Bld.fin, hd, dO]
      rw [← hf] at hl
      have hg : (b.drop n).fin = b.fin ++ [⟨3, (n : Int), []⟩] := by rw [hf]; simp [Bld.fin, Bld.drop, hd, dO, hn]
      rw [hg]
      unfold add1
      cases hh : b.fin.getLast? with
      | none => simp [List.getLast?_eq_none_iff.1 hh]
      | some x => simp [hl x hh]
    · have hf : b.fin = b.ops ++ kO b.kept ++ pO b.tx ++ [⟨3, (b.dr : Int), []⟩] := by simp [Bld.fin, hd, dO]
      have hg : (b.drop n).fin = b.ops ++ kO b.kept ++ pO b.tx ++ [⟨3, (b.dr : Int) + (n : Int), []⟩] := by
        show b.ops ++ kO b.kept ++ pO b.tx ++ dO (b.dr + n) = _
        unfold dO
        rw [if_neg (by omega)]
        rfl
      rw [hg]
      have hgl : b.fin.getLast? = some ⟨3, (b.dr : Int), []⟩ := by rw [hf]; simp
      have hdl : b.fin.dropLast = b.ops ++ kO b.kept ++ pO b.tx := by rw [hf]; exact List.dropLast_concat
      unfold add1
      rw [hgl]
      dsimp only
      rw [if_neg (by decide), if_pos rfl, hdl]
      rfl
theorem add1_put {b : Bld} (h : Wb b) (t : List Int) (ht : ¬ t = []) : add1 (b.ops ++ kO b.kept ++ pO b.tx) 2 0 t = b.ops ++ kO b.kept ++ pO (b.tx ++ t) := by
  by_cases hx : b.tx = []
  · rw [hx]
    obtain ⟨_, h2⟩ := can_kO h
    unfold add1
    simp only [pO, if_true, List.append_nil, List.nil_append]
    cases hh : (b.ops ++ kO b.kept).getLast? with
    | none => simp [List.getLast?_eq_none_iff.1 hh, ht]
    | some x => simp [h2 x hh, ht]
  · unfold add1
    have hg : (b.ops ++ kO b.kept ++ pO b.tx).getLast? = some ⟨2, 0, b.tx⟩ := by simp [pO, hx]
    have hl : (b.ops ++ kO b.kept ++ pO b.tx).dropLast = b.ops ++ kO b.kept := by simp only [pO, hx, if_false]; exact List.dropLast_concat
    rw [hg]
    dsimp only
    rw [if_pos rfl, hl]
    simp [pO, hx]
theorem add_put {b : Bld} (h : Wb b) (t : List Int) : addD b.fin 2 0 t = (b.put t).fin := by
  unfold addD
  by_cases ht : t = []
  · subst ht; simp [Bld.put]
  · rw [if_neg (by simp [ht])]
    by_cases hd : b.dr = 0
    · have hl := (can_pO h).2
      have hf : b.fin = b.ops ++ kO b.kept ++ pO b.tx := by simp [Bld.fin, hd, dO]
      have hg : (b.put t).fin = b.ops ++ kO b.kept ++ pO (b.tx ++ t) := by simp [Bld.fin, Bld.put, hd, dO]
      rw [hf, hg, add1_put h t ht]
      cases hh : (b.ops ++ kO b.kept ++ pO b.tx).getLast? with
      | none => rfl
      | some x => simp [hl x hh]
    · have hf : b.fin = b.ops ++ kO b.kept ++ pO b.tx ++ [⟨3, (b.dr : Int), []⟩] := by simp [Bld.fin, hd, dO]
      have hg : (b.put t).fin = b.ops ++ kO b.kept ++ pO (b.tx ++ t) ++ [⟨3, (b.dr : Int), []⟩] := by simp [Bld.fin, Bld.put, hd, dO]
      have hgl : b.fin.getLast? = some ⟨3, (b.dr : Int), []⟩ := by rw [hf]; simp
      have hdl : b.fin.dropLast = b.ops ++ kO b.kept ++ pO b.tx := by rw [hf]; exact List.dropLast_concat
      rw [hg, hgl]
      dsimp only
      rw [if_pos ⟨rfl, rfl⟩, hdl, add1_put h t ht]

end Go.Proofs.YtkdnanlgkedjgabDoor
