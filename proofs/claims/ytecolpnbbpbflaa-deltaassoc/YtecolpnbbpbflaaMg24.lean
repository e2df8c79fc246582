/- Layer 13, plain: canonical deltas are valid; what Apply does is what the atoms do; fit. · Layer 13: the law's fit. · Layer 13: the law's short. -/
import Derived.Test.YtecolpnbbpbflaaMg17
import Derived.Test.YtecolpnbbpbflaaMg23

section
namespace Go.Proofs.Ytecolpnbbpbflaa

theorem ap_can : ∀ {d : List Dop} (m : Int), (∀ o ∈ d, Pln o) → Chn d → (∀ o, d.head? = some o → apB m (thisN o.k) = true) → apL m d = true
  | [], _, _, _, _ => rfl
  | o :: r, m, hp, hc, hh => by
    have h1 := apL_at (d := o :: r) (k := 0) (by simp) m
    simp only [List.drop_zero, List.getD_cons_zero, Nat.zero_add, List.drop_one, List.tail_cons] at h1
    rw [h1, hh o rfl, Bool.true_and]
    refine ap_can _ (fun q hq => hp q (by simp [hq])) (chn_tail hc) fun q hq => ?_
    cases r with
    | nil => simp at hq
    | cons q' r' =>
      simp only [List.head?_cons, Option.some.injEq] at hq
      subst hq
      have hn : okN o.k q'.k := hc.1
      have ho : o.k = 1 ∨ o.k = 2 ∨ o.k = 3 := by rcases hp o (by simp) with ⟨h | h, _⟩ | ⟨h, _⟩ <;> omega
      have hq : q'.k = 1 ∨ q'.k = 2 ∨ q'.k = 3 := by rcases hp q' (by simp) with ⟨h | h, _⟩ | ⟨h, _⟩ <;> omega
      unfold okN at hn
      rcases ho with h | h | h <;> rcases hq with h' | h' | h' <;> rw [h, h'] at hn ⊢ <;> first | rfl | decide | (exfalso; revert hn; decide)
theorem pl_all {d : List Dop} (h : ∀ o ∈ d, Pln o) : d.all plB = true := by
  rw [List.all_eq_true]
  intro o ho
  unfold plB
  rcases h o ho with ⟨h1, h2, h3⟩ | ⟨h1, h2, h3⟩
  · rw [if_neg (by omega), h3]; simp; omega
  · rw [if_pos h1, h2]
    cases ht : o.t with
    | nil => exact absurd ht h3
    | cons a r => rfl
theorem can_val {d : List Dop} (h : Can d) (hf : frD d ≤ 268435456) (ht : toD d ≤ 268435456) : valB d = true := by
  unfold valB
  have h2 : lonB d = false := decide_eq_false (by omega)
  rw [pl_all h.p, ap_can 7 h.p h.c (fun o ho => ?_), h2]
  · rfl
  · have hm := List.mem_of_mem_head? (l := d) (a := o) (by rw [ho]; rfl)
    rcases h.p o hm with ⟨h | h, _⟩ | ⟨h, _⟩ <;> rw [h] <;> decide
theorem can_kinds {d : List Dop} (h : Can d) : ∀ o ∈ d, o.k = 1 ∨ o.k = 2 ∨ o.k = 3 := fun o ho => by
  rcases h.p o ho with ⟨h | h, _⟩ | ⟨h, _⟩ <;> omega
/-- what canA of atoms is: canonical, of their sizes -/
theorem canA_val {u : List Atm} (hf : frA u ≤ 268435456) (ht : toA u ≤ 268435456) : valB (canA u) = true ∧ frD (canA u) = frA u ∧ toD (canA u) = toA u ∧ dA (canA u) = nfA u := by
  have h1 := canA_can u
  have h2 := frA_dA (can_kinds h1)
  rw [canA_atoms, fr_nf, to_nf] at h2
  exact ⟨can_val h1 (by omega) (by omega), h2.1.symm, h2.2.symm, canA_atoms u⟩
theorem appA_k : ∀ (n : Nat) (xs : List Int) (u : List Atm), n ≤ xs.length → appA xs (List.replicate n .k ++ u) = xs.take n ++ appA (xs.drop n) u
  | 0, xs, u, _ => by simp
  | n + 1, [], u, h => by simp at h
  | n + 1, x :: xs, u, h => by
    have := appA_k n xs u (by simpa using h)
    rw [List.replicate_succ, List.cons_append]
    simp [appA, this]
theorem appA_d : ∀ (n : Nat) (xs : List Int) (u : List Atm), n ≤ xs.length → appA xs (List.replicate n .d ++ u) = appA (xs.drop n) u
  | 0, xs, u, _ => by simp
  | n + 1, [], u, h => by simp at h
  | n + 1, x :: xs, u, h => by
    have := appA_d n xs u (by simpa using h)
    rw [List.replicate_succ, List.cons_append]
    simp [appA, this]
theorem appA_p : ∀ (t : List Int) (xs : List Int) (u : List Atm), appA xs (t.map .p ++ u) = t ++ appA xs u
  | [], xs, u => by simp
  | x :: t, xs, u => by
    rw [List.map_cons, List.cons_append]
    simp [appA, appA_p t xs u]
/-- Apply does what the atoms do -/
theorem apD_app : ∀ (d : List Dop) (b out : List Int), (∀ o ∈ d, Pln o) → frD d = b.length → (d.foldl stW (b, out)).2 = out ++ appA b (dA d)
  | [], b, out, _, h => by
    have : b = [] := List.length_eq_zero_iff.1 (by simpa [frD] using h.symm)
    subst this
    simp [dA, appA]
  | o :: r, b, out, hp, h => by
    have e : frD (o :: r) = frN o + frD r := by simp [frD]
    rw [List.foldl_cons, dA_cons]
    rcases hp o (by simp) with ⟨h1 | h1, h2, h3⟩ | ⟨h1, h2, h3⟩
    · have ef : frN o = o.n.toNat := by simp [frN, h1]
      have eo : opA o = List.replicate o.n.toNat .k := by simp [opA, h1]
      rw [eo, appA_k _ _ _ (by omega), show stW (b, out) o = (b.drop o.n.toNat, out ++ b.take o.n.toNat) by simp [stW, h1], apD_app r _ _ (fun q hq => hp q (by simp [hq])) (by simp; omega), List.append_assoc]
    · have ef : frN o = o.n.toNat := by simp [frN, h1]
      have eo : opA o = List.replicate o.n.toNat .d := by simp [opA, h1]
      rw [eo, appA_d _ _ _ (by omega), show stW (b, out) o = (b.drop o.n.toNat, out) by simp [stW, h1], apD_app r _ _ (fun q hq => hp q (by simp [hq])) (by simp; omega)]
    · have ef : frN o = 0 := by simp [frN, h1]
      have eo : opA o = o.t.map .p := by simp [opA, h1]
      rw [eo, appA_p, show stW (b, out) o = (b, out ++ o.t) by simp [stW, h1], apD_app r _ _ (fun q hq => hp q (by simp [hq])) (by omega), List.append_assoc]
theorem apD_is {d : List Dop} {b : List Int} (hv : valB d = true) (hf : frD d = b.length) : apD b d = appA b (dA d) := by
  have hp : ∀ o ∈ d, Pln o := fun o ho => by
    rcases valB_op hv ho with ⟨h1, h2, h3⟩ | ⟨h1, h2, h3⟩
    · exact .inl ⟨h1, h2, h3⟩
    · exact .inr ⟨h1, h2, h3⟩
  have := apD_app d b [] hp hf
  simpa [apD, runW] using this
/-- fit: one more operation -/
def ftS (s : Nat × List Dop) (x : Dop) : Nat × List Dop := if x.k = 2 then (s.1, s.2 ++ [x]) else if (s.1 : Int) < x.n then (if 0 < s.1 then (0, s.2 ++ [⟨x.k, s.1, x.t⟩]) else s) else if 0 < x.n then (s.1 - x.n.toNat, s.2 ++ [x]) else s
def runF (n : Nat) (d : List Dop) : Nat × List Dop := d.foldl ftS (n, [])
theorem runF_take (n : Nat) (d : List Dop) {k : Nat} (hk : k < d.length) : runF n (d.take (k + 1)) = ftS (runF n (d.take k)) (d.getD k opZ) := by
  unfold runF
  rw [List.take_add_one, List.foldl_append]
  simp [List.getElem?_eq_getElem hk, List.getD]
/-- what lies in fit's list so far -/
structure FtK (n : Nat) (T : Nat) (s : Nat × List Dop) : Prop where
  f : frD s.2 + s.1 = n
  t : toD s.2 + s.1 ≤ n + T
  k : ∀ o ∈ s.2, (o.k = 1 ∨ o.k = 2 ∨ o.k = 3) ∧ (o.k ≠ 2 → 0 < o.n) ∧ TbD o ∧ o.t.length ≤ 140737488355328
theorem frD_snoc (d : List Dop) (o : Dop) : frD (d ++ [o]) = frD d + frN o := by simp [frD]
theorem toD_snoc (d : List Dop) (o : Dop) : toD (d ++ [o]) = toD d + toN o := by simp [toD]
theorem FtK.step {n T : Nat} {s : Nat × List Dop} {x : Dop} (h : FtK n T s) (hk : x.k = 1 ∨ x.k = 2 ∨ x.k = 3) (hb : TbD x ∧ x.t.length ≤ 140737488355328) : FtK n (T + x.t.length) (ftS s x) := by
  obtain ⟨h1, h2, h3⟩ := h
  have old : FtK n (T + x.t.length) s := ⟨h1, by omega, h3⟩
  have push : ∀ (y : Dop), y.t = x.t → y.k = x.k → (y.k ≠ 2 → 0 < y.n) → ∀ o ∈ s.2 ++ [y], (o.k = 1 ∨ o.k = 2 ∨ o.k = 3) ∧ (o.k ≠ 2 → 0 < o.n) ∧ TbD o ∧ o.t.length ≤ 140737488355328 := fun y e1 e2 e3 o ho => by
    rcases List.mem_append.1 ho with ho | ho
    · exact h3 o ho
    · simp at ho; subst ho
      exact ⟨by omega, e3, by unfold TbD; rw [e1]; exact hb.1, by rw [e1]; exact hb.2⟩
  unfold ftS
  by_cases c2 : x.k = 2
  · rw [if_pos c2]
    refine ⟨?_, ?_, push x rfl rfl (fun h => absurd c2 h)⟩
    · dsimp only; rw [frD_snoc]; simp [frN, c2]; omega
    · dsimp only; rw [toD_snoc]; simp [toN, c2]; omega
  · rw [if_neg c2]
    by_cases c3 : (s.1 : Int) < x.n
    · rw [if_pos c3]
      by_cases c4 : 0 < s.1
      · rw [if_pos c4]
        refine ⟨?_, ?_, push ⟨x.k, s.1, x.t⟩ rfl rfl (fun _ => by dsimp only; omega)⟩
        · dsimp only; rw [frD_snoc]; simp only [frN]; rw [if_pos (by omega)]; simp; omega
        · dsimp only; rw [toD_snoc]; simp only [toN, c2, if_false]; split <;> simp <;> omega
      · rw [if_neg c4]; exact old
    · rw [if_neg c3]
      by_cases c4 : 0 < x.n
      · rw [if_pos c4]
        refine ⟨?_, ?_, push x rfl rfl (fun _ => c4)⟩
        · dsimp only; rw [frD_snoc]; simp only [frN]; rw [if_pos (by omega)]; omega
        · dsimp only; rw [toD_snoc]; simp only [toN, c2, if_false]; split <;> omega
      · rw [if_neg c4]; exact old
def smT (d : List Dop) : Nat := (d.map fun o => o.t.length).sum
theorem smT_take (d : List Dop) {k : Nat} (hk : k < d.length) : smT (d.take (k + 1)) = smT (d.take k) + (d.getD k opZ).t.length := sumD_take (fun o => o.t.length) d hk
theorem runF_ok {d : List Dop} {n : Nat} (hk : ∀ o ∈ d, (o.k = 1 ∨ o.k = 2 ∨ o.k = 3) ∧ TbD o ∧ o.t.length ≤ 140737488355328) : ∀ k, k ≤ d.length → FtK n (smT (d.take k)) (runF n (d.take k))
  | 0, _ => ⟨by simp [runF, frD], by simp [runF, toD, smT], by simp [runF]⟩
  | k + 1, h => by
    have hm := hk _ (getD_memD (d := d) (k := k) (by omega))
    rw [runF_take n d (by omega), smT_take d (by omega)]
    exact (runF_ok hk k (by omega)).step hm.1 hm.2
/-- the list that fit hands to Canon -/
def fitO (d : List Dop) (n : Nat) : List Dop := (runF n d).2 ++ [⟨1, ((runF n d).1 : Int), []⟩]
theorem fitO_ok {d : List Dop} {n : Nat} (hk : ∀ o ∈ d, (o.k = 1 ∨ o.k = 2 ∨ o.k = 3) ∧ TbD o ∧ o.t.length ≤ 140737488355328) (hs : n + smT d ≤ 268435456) : frD (fitO d n) = n ∧ toD (fitO d n) ≤ n + smT d ∧ canD (fitO d n) = (canA (dA (fitO d n)), 0) ∧ (∀ o ∈ fitO d n, TbD o ∧ o.t.length ≤ 140737488355328) ∧ (∀ o ∈ fitO d n, o.k = 1 ∨ o.k = 2 ∨ o.k = 3) := by
  have h := runF_ok (n := n) hk d.length (Nat.le_refl _)
  rw [List.take_length] at h
  obtain ⟨h1, h2, h3⟩ := h
  have f1 : frD (fitO d n) = n := by unfold fitO; rw [frD_snoc]; simp [frN]; omega
  have f2 : toD (fitO d n) ≤ n + smT d := by unfold fitO; rw [toD_snoc]; simp [toN]; omega
  have f3 : ∀ o ∈ fitO d n, ((o.k = 1 ∨ o.k = 2 ∨ o.k = 3) ∧ (o.k ≠ 2 → 0 ≤ o.n)) ∧ TbD o ∧ o.t.length ≤ 140737488355328 := fun o ho => by
    rcases List.mem_append.1 ho with ho | ho
    · obtain ⟨g1, g2, g3, g4⟩ := h3 o ho
      exact ⟨⟨g1, fun h => by have := g2 h; omega⟩, g3, g4⟩
    · simp at ho; subst ho
      exact ⟨⟨.inl rfl, fun _ => by dsimp only; omega⟩, fun x hx => by simp at hx, by simp⟩
  refine ⟨f1, f2, ?_, fun o ho => (f3 o ho).2, fun o ho => (f3 o ho).1.1⟩
  have hkn : (fitO d n).all knB = true := by
    rw [List.all_eq_true]
    intro o ho
    obtain ⟨⟨g1, g2⟩, _⟩ := f3 o ho
    unfold knB
    rcases g1 with g | g | g
    · have := g2 (by omega); simp [g, this]
    · simp [g]
    · have := g2 (by omega); simp [g, this]
  have hlo : lonB (fitO d n) = false := decide_eq_false (by omega)
  unfold canD
  rw [hkn, hlo]
  rfl
/-- what fit answers: valid, of n bytes -/
def fitD (d : List Dop) (n : Nat) : List Dop := canA (dA (fitO d n))
theorem fitD_ok {d : List Dop} {n : Nat} (hk : ∀ o ∈ d, (o.k = 1 ∨ o.k = 2 ∨ o.k = 3) ∧ TbD o ∧ o.t.length ≤ 140737488355328) (hs : n + smT d ≤ 268435456) : valB (fitD d n) = true ∧ frD (fitD d n) = n ∧ toD (fitD d n) ≤ n + smT d ∧ (∀ o ∈ fitD d n, TbD o) := by
  obtain ⟨h1, h2, _, h4, h5⟩ := fitO_ok hk hs
  have h6 := frA_dA h5
  obtain ⟨v1, v2, v3, _⟩ := canA_val (u := dA (fitO d n)) (by omega) (by omega)
  exact ⟨v1, by unfold fitD; omega, by unfold fitD; omega, can_tb fun o ho => (h4 o ho).1⟩

end Go.Proofs.Ytecolpnbbpbflaa
end

section
namespace Go.Proofs.Ytecolpnbbpbflaa
open Go.ChangeShapes Go.WideShapes Go.ChangeAt Go.RowKit
attribute [local go_sem] Oper.semAt_some

theorem runF_len (n : Nat) (d : List Dop) : ∀ k, k ≤ d.length → (runF n (d.take k)).2.length ≤ k
  | 0, _ => by simp [runF]
  | k + 1, h => by
    have ih := runF_len n d k (by omega)
    rw [runF_take n d (by omega)]
    unfold ftS
    split
    · simp; omega
    · split
      · split
        · simp; omega
        · omega
      · split
        · simp; omega
        · omega
theorem runF_n (n : Nat) (d : List Dop) : ∀ k, k ≤ d.length → (runF n (d.take k)).1 ≤ n
  | 0, _ => by simp [runF]
  | k + 1, h => by
    have ih := runF_n n d k (by omega)
    rw [runF_take n d (by omega)]
    unfold ftS
    split
    · exact ih
    · split
      · split
        · simp
        · exact ih
      · split
        · dsimp only; omega
        · exact ih
structure FtI (d : List Dop) (n k m : Nat) (L : List Dop) (v : Value) (w X : World) : Prop where
  e : runF n (d.take k) = (m, L)
  o : X.ownsRow w.heap.size 64 3 v L.length (opsV L)
  d : Below w.heap.size w X
/-- a list grows by what lies in a block of the call's own -/
theorem ft_push {w X : World} {v : Value} {L : List Dop} (ho : X.ownsRow w.heap.size 64 3 v L.length (opsV L)) (hd : Below w.heap.size w X) (hl : L.length ≤ 1000000) (k n : Int) (s : ByteArray) (y : Dop) (hy : opL y = [.int .i64 k, .int .i64 n, .string s]) :
    ∃ g c W', (Builtin.append_ #[23, 23] 23 #[v, .slice (some ⟨X.heap.size, 0, none⟩) 1 1]).run Try.prog (X.alloc (.cells #[.int .i64 k, .int .i64 n, .string s] 64)) = .ok (.slice (some ⟨g, 0, none⟩) (L.length + 1) c) W' ∧
      W'.ownsRow w.heap.size 64 3 (.slice (some ⟨g, 0, none⟩) (L.length + 1) c) (L ++ [y]).length (opsV (L ++ [y])) ∧ Below w.heap.size w W' := by
  obtain ⟨g, c, W', r, o, _, b⟩ := push_op X w.heap.size L.length v (opsV L) k n s 23 ho (by omega) hd.size
  rw [← hy, ← opsV_one, ← opsV_app] at o
  refine ⟨g, c, W', r, ?_, hd.trans b⟩
  rw [show (L ++ [y]).length = L.length + 1 by simp]
  exact o
set_option maxRecDepth 100000 in
set_option maxHeartbeats 4000000 in
theorem fit_at (a : Option Addr) (c : Nat) (d : List Dop) (n : Nat) (w : World) (h : IsO w a d) (hl : d.length ≤ 1000) (hn : n + smT d ≤ 268435456) (hk : ∀ o ∈ d, (o.k = 1 ∨ o.k = 2 ∨ o.k = 3) ∧ TbD o ∧ o.t.length ≤ 140737488355328) :
    Calls Try.prog 31 #[.slice a d.length c, .int .i64 (n : Int)] w fun y w' => ∃ a' c', y = .returned (.slice a' (fitD d n).length c') ∧ IsO w' a' (fitD d n) ∧ (fitD d n).length ≤ c' ∧ Below w.heap.size w w' := by
  have HO := hide fun (X : World) (hx : Below w.heap.size w X) => h.below hx (Nat.le_refl _)
  obtain ⟨q1, q2, q3, q4, q5⟩ := fitO_ok (n := n) hk hn
  have hlen : (fitO d n).length ≤ 1001 := by
    have := runF_len n d d.length (Nat.le_refl _)
    rw [List.take_length] at this
    unfold fitO; simp; omega
  have HC := hide fun (X : World) (a2 : Option Addr) (c2 : Nat) (h2 : IsO X a2 (fitO d n)) => RCanon_at a2 c2 (fitO d n) X h2 (by omega) (fun o ho => (q4 o ho).2)
  rw [q3] at HC
  dsimp only at HC
  have HFD : Hid (canA (dA (fitO d n)) = fitD d n) := hide rfl
  rw [unhide HFD] at HC
  have HFO : Hid (fitO d n = (runF n d).2 ++ [⟨1, ((runF n d).1 : Int), []⟩]) := hide rfl
  have hnn : n ≤ 268435456 := by omega
  have HKK := hide hk
  clear h hn hk q1 q2 q3 q4 q5 HFD
  generalize fitD d n = FD at *
  generalize fitO d n = FO at *
  go_enter Try.func31, Try.ntmps31
  go_wp2_with fail
  go_loopw [1, 5, 6, 7] (fun v1 v5 v6 v7 wx => (∃ z, v7 = z) ∧ (∃ (k m : Nat) (L : List Dop), v6 = .int .i64 (k : Int) ∧ v1 = .int .i64 (m : Int) ∧ k ≤ d.length ∧ Hid (FtI d n k m L v5 w wx))) (fun _ _ v6 _ _ => d.length - (intOf v6).toNat)
  case atStart => exact ⟨⟨_, rfl⟩, ⟨0, n, [], rfl, rfl, Nat.zero_le _, hide ⟨rfl, World.ownsRow_nil _ _ _ _, Below.refl _ _⟩⟩⟩
  case round =>
    obtain ⟨⟨z1, rfl⟩, ⟨k, m, L, rfl, rfl, hk, HI⟩⟩ := hrel
    by_cases hlt : k < d.length
    · have t1 : decide ((k : Int) < (d.length : Int)) = true := decide_eq_true (by omega)
      obtain ⟨g, off, rfl, hg, c0, c1, c2⟩ := (unhide HO wr (unhide HI).d).three hlt
      have hkx := (unhide HKK _ (getD_memD hlt)).1
      have hLl := runF_len n d k (by omega)
      have hmn := runF_n n d k (by omega)
      rw [(unhide HI).e] at hLl hmn
      dsimp only at hLl hmn
      have HST : Hid (runF n (d.take (k + 1)) = ftS (m, L) (d.getD k opZ)) := hide (by rw [runF_take n d hlt, (unhide HI).e])
      have HA : Hid (∀ q : Array Value, (wr.alloc (.cells q 64)).ownsRow w.heap.size 64 3 u5 L.length (opsV L) ∧ Below w.heap.size w (wr.alloc (.cells q 64))) := hide fun q => ⟨World.ownsRow.alloc (unhide HI).o _, (unhide HI).d.alloc (unhide HI).d.size _⟩
      have HZ := hide (unhide HI).d.size
      generalize d.getD k opZ = x at *
      obtain ⟨xk, xn, xt⟩ := x
      dsimp only at c0 c1 c2 hkx
      have kN := Cls.new wr 64 #[.int .i64 xk, .int .i64 xn, .string (strOfNums xt)]
      obtain ⟨hA1, hA2⟩ := unhide HA #[.int .i64 xk, .int .i64 xn, .string (strOfNums xt)]
      have HN0 : Hid (∀ (m' : Nat) (L' : List Dop) (v' : Value) (X : World), ftS (m, L) ⟨xk, xn, xt⟩ = (m', L') → X.ownsRow w.heap.size 64 3 v' L'.length (opsV L') → Below w.heap.size w X → FtI d n (k + 1) m' L' v' w X) := hide fun m' L' v' X e1 e2 e3 => ⟨(unhide HST).trans e1, e2, e3⟩
      have HRN : Hid (∀ (j : Nat) (u : Value), ((wr.alloc (.cells #[.int .i64 xk, .int .i64 xn, .string (strOfNums xt)] 64)).setCell ⟨wr.heap.size, j, none⟩ u).ownsRow w.heap.size 64 3 u5 L.length (opsV L) ∧ Below w.heap.size w ((wr.alloc (.cells #[.int .i64 xk, .int .i64 xn, .string (strOfNums xt)] 64)).setCell ⟨wr.heap.size, j, none⟩ u)) := hide fun j u => ⟨rowD_on hA1 fun G hG => by
          obtain ⟨_, cur, hc⟩ := rowD_block (unhide HI).o hG
          have := (Array.getElem?_eq_some_iff.1 hc).1
          exact Below.heap_setCell _ ⟨wr.heap.size, j, none⟩ u G (show G ≠ wr.heap.size by omega), hA2.setCell (p := ⟨wr.heap.size, j, none⟩) (unhide HZ) u⟩
      have d0 : (wr.alloc (.cells #[.int .i64 xk, .int .i64 xn, .string (strOfNums xt)] 64)).cell? ⟨wr.heap.size, 0, none⟩ = some (.int .i64 xk) := kN.cell 0
      have d1 : (wr.alloc (.cells #[.int .i64 xk, .int .i64 xn, .string (strOfNums xt)] 64)).cell? ⟨wr.heap.size, 1, none⟩ = some (.int .i64 xn) := kN.cell 1
      have d2 : (wr.alloc (.cells #[.int .i64 xk, .int .i64 xn, .string (strOfNums xt)] 64)).cell? ⟨wr.heap.size, 2, none⟩ = some (.string (strOfNums xt)) := kN.cell 2
      have f1 := kN.frozen 1
      have kS := kN.set 1 (.int .i64 (m : Int))
      have e0 : ((wr.alloc (.cells #[.int .i64 xk, .int .i64 xn, .string (strOfNums xt)] 64)).setCell ⟨wr.heap.size, 1, none⟩ (.int .i64 (m : Int))).cell? ⟨wr.heap.size, 0, none⟩ = some (.int .i64 xk) := kS.cell 0
      have e1 : ((wr.alloc (.cells #[.int .i64 xk, .int .i64 xn, .string (strOfNums xt)] 64)).setCell ⟨wr.heap.size, 1, none⟩ (.int .i64 (m : Int))).cell? ⟨wr.heap.size, 1, none⟩ = some (.int .i64 (m : Int)) := kS.cell 1
      have e2 : ((wr.alloc (.cells #[.int .i64 xk, .int .i64 xn, .string (strOfNums xt)] 64)).setCell ⟨wr.heap.size, 1, none⟩ (.int .i64 (m : Int))).cell? ⟨wr.heap.size, 2, none⟩ = some (.string (strOfNums xt)) := kS.cell 2
      obtain ⟨hB1, hB2⟩ := unhide HRN 1 (.int .i64 (m : Int))
      have HH1 := hide (And.intro hA1 hA2)
      have HH2 := hide (And.intro hB1 hB2)
      have HE := hide (And.intro e0 (And.intro e1 e2))
      have HD := hide (And.intro d0 (And.intro d1 d2))
      clear HI HST HA HRN hA1 hA2 hB1 hB2 e0 e1 e2 kN kS HKK hk hg
      go_upto_region 6 with fail
      clear c0 c1 c2 d0 d1 d2
      generalize wr.alloc (.cells #[.int .i64 xk, .int .i64 xn, .string (strOfNums xt)] 64) = v0 at *
      generalize wr.heap.size = gb at *
      by_cases h2 : xk = 2
      · subst h2
        obtain ⟨g2, c2, W2, r2, o2, b2⟩ := ft_push (unhide HH1).1 (unhide HH1).2 (by omega) 2 xn (strOfNums xt) ⟨2, xn, xt⟩ rfl
        have HN := hide (unhide HN0 m (L ++ [⟨2, xn, xt⟩]) _ W2 (by simp [ftS]) o2 b2)
        have R2 := hide r2
        obtain ⟨d0, d1, d2⟩ := unhide HD
        clear HN0 HH1 HH2 HE HD HZ r2 o2 b2 hkx f1
        generalize strOfNums xt = st at *
        generalize L ++ [(⟨2, xn, xt⟩ : Dop)] = L2 at *
        generalize L.length + 1 = l2 at *
        go_wp2_with (at_builtin; refine wpList_append_known rfl _ _ 23 23 rfl _ _ rfl rfl _ _ (unhide R2) ?_; clear R2)
        go_roundw
        case rel => exact ⟨⟨_, rfl⟩, ⟨k + 1, m, L2, by go_num, rfl, hlt, HN⟩⟩
        case measure => simp [intOf]; omega
      · have s2 : (xk == 2) = false := by simpa using h2
        by_cases h3 : (m : Int) < xn
        · have s3 : decide (xn > (m : Int)) = true := decide_eq_true h3
          have s3' : decide ((m : Int) < xn) = true := decide_eq_true h3
          by_cases h4 : 0 < m
          · have s4 : decide ((m : Int) > 0) = true := decide_eq_true (by omega)
            have s4' : decide ((0 : Int) < (m : Int)) = true := decide_eq_true (by omega)
            have s4'' : decide (0 < m) = true := decide_eq_true h4
            obtain ⟨g2, c2, W2, r2, o2, b2⟩ := ft_push (unhide HH2).1 (unhide HH2).2 (by omega) xk (m : Int) (strOfNums xt) ⟨xk, m, xt⟩ rfl
            have HN := hide (unhide HN0 0 (L ++ [⟨xk, m, xt⟩]) _ W2 (by simp [ftS, h2, h3, h4]) o2 b2)
            have R2 := hide r2
            have w1 : wrap64 ((m : Int) - (m : Int)) = ((0 : Nat) : Int) := by rw [Int.sub_self, wrapD _ (by omega) (by omega)]; rfl
            obtain ⟨d0, d1, d2⟩ := unhide HD
            clear HN0 HH1 HH2 HD HZ r2 o2 b2 hkx h2 h3 h4
            generalize strOfNums xt = st at *
            generalize L ++ [(⟨xk, (m : Int), xt⟩ : Dop)] = L2 at *
            generalize L.length + 1 = l2 at *
            go_upto_region 10 with fail
            clear d0 d1 d2
            obtain ⟨e0, e1, e2⟩ := unhide HE
            clear HE
            generalize v0.setCell ⟨gb, 1, none⟩ (.int .i64 (m : Int)) = v1 at *
            go_wp2_with (at_builtin; refine wpList_append_known rfl _ _ 23 23 rfl _ _ rfl rfl _ _ (unhide R2) ?_; clear R2)
            go_roundw
            case rel => exact ⟨⟨_, rfl⟩, ⟨k + 1, 0, L2, by go_num, by first | rfl | go_num | simp, hlt, HN⟩⟩
            case measure => simp [intOf]; omega
          · have s4 : decide ((m : Int) > 0) = false := decide_eq_false (by omega)
            have s4' : decide ((0 : Int) < (m : Int)) = false := decide_eq_false (by omega)
            have s4'' : decide (0 < m) = false := decide_eq_false h4
            have HN := hide (unhide HN0 m L _ _ (by simp [ftS, h2, h3, h4]) (unhide HH2).1 (unhide HH2).2)
            obtain ⟨d0, d1, d2⟩ := unhide HD
            clear HN0 HH1 HH2 HD HZ hkx h2 h3 h4
            generalize strOfNums xt = st at *
            go_upto_region 10 with fail
            clear d0 d1 d2
            obtain ⟨e0, e1, e2⟩ := unhide HE
            clear HE
            generalize v0.setCell ⟨gb, 1, none⟩ (.int .i64 (m : Int)) = v1 at *
            go_wp2_with fail
            go_roundw
            case rel => exact ⟨⟨_, rfl⟩, ⟨k + 1, m, L, by go_num, rfl, hlt, HN⟩⟩
            case measure => simp [intOf]; omega
        · have s3 : decide (xn > (m : Int)) = false := decide_eq_false h3
          have s3' : decide ((m : Int) < xn) = false := decide_eq_false h3
          by_cases h4 : 0 < xn
          · have s4 : decide (xn > 0) = true := decide_eq_true h4
            have s4' : decide ((0 : Int) < xn) = true := decide_eq_true h4
            obtain ⟨g2, c2, W2, r2, o2, b2⟩ := ft_push (unhide HH1).1 (unhide HH1).2 (by omega) xk xn (strOfNums xt) ⟨xk, xn, xt⟩ rfl
            have HN := hide (unhide HN0 (m - xn.toNat) (L ++ [⟨xk, xn, xt⟩]) _ W2 (by simp [ftS, h2, h3, h4]) o2 b2)
            have R2 := hide r2
            have w1 : wrap64 ((m : Int) - xn) = ((m - xn.toNat : Nat) : Int) := by rw [wrapD _ (by omega) (by omega)]; omega
            obtain ⟨d0, d1, d2⟩ := unhide HD
            clear HN0 HH1 HH2 HD HE HZ r2 o2 b2 hkx h2 h3 h4 f1
            generalize strOfNums xt = st at *
            generalize L ++ [(⟨xk, xn, xt⟩ : Dop)] = L2 at *
            generalize L.length + 1 = l2 at *
            generalize m - xn.toNat = m2 at *
            go_wp2_with (at_builtin; refine wpList_append_known rfl _ _ 23 23 rfl _ _ rfl rfl _ _ (unhide R2) ?_; clear R2)
            go_roundw
            case rel => exact ⟨⟨_, rfl⟩, ⟨k + 1, m2, L2, by go_num, by first | rfl | go_num, hlt, HN⟩⟩
            case measure => simp [intOf]; omega
          · have s4 : decide (xn > 0) = false := decide_eq_false h4
            have s4' : decide ((0 : Int) < xn) = false := decide_eq_false h4
            have HN := hide (unhide HN0 m L _ _ (by simp [ftS, h2, h3, h4]) (unhide HH1).1 (unhide HH1).2)
            obtain ⟨d0, d1, d2⟩ := unhide HD
            clear HN0 HH1 HH2 HD HE HZ hkx h2 h3 h4 f1
            generalize strOfNums xt = st at *
            go_wp2_with fail
            go_roundw
            case rel => exact ⟨⟨_, rfl⟩, ⟨k + 1, m, L, by go_num, rfl, hlt, HN⟩⟩
            case measure => simp [intOf]; omega
    · obtain rfl : k = d.length := by omega
      have t1 : decide (((d.length : Nat) : Int) < (d.length : Int)) = false := by simp
      have hE := (unhide HI).e
      rw [List.take_length] at hE
      have hLl := runF_len n d d.length (Nat.le_refl _)
      rw [List.take_length, hE] at hLl
      dsimp only at hLl
      obtain ⟨g2, c2, W2, r2, o2, b2⟩ := ft_push (unhide HI).o (unhide HI).d (by omega) 1 (m : Int) ⟨#[]⟩ ⟨1, m, []⟩ rfl
      have hFO : L ++ [(⟨1, (m : Int), []⟩ : Dop)] = FO := by rw [unhide HFO, hE]
      rw [hFO] at o2
      have hFl : FO.length = L.length + 1 := by rw [← hFO]; simp
      rw [← hFl] at r2 o2
      obtain ⟨a4, c4, he4, i4, _⟩ := own_isOC o2
      have HC2 := hide (unhide HC W2 (some ⟨g2, 0, none⟩) c2 (by cases he4; exact i4))
      have R2 := hide r2
      have HB := hide b2
      clear HI hE hLl r2 o2 b2 hFO hFl he4 i4 HC HFO HKK hk hlt HO
      generalize FO.length = fl at *
      go_wp2_with (at_builtin; refine wpList_append_known rfl _ _ 23 23 rfl _ _ rfl rfl _ _ (unhide R2) ?_; clear R2)
      refine (unhide HC2).mono ?_
      rintro y w3 ⟨a5, c5, rfl, i5, l5, x5⟩
      dsimp only
      have HI5 := hide i5
      have HX5 := hide ((unhide HB).trans (x5.mono (unhide HB).size))
      clear HC2 i5 x5 HB
      go_wp2_with fail
      refine bodyPost_ret (results_tmp rfl _ _ _) rfl ⟨a5, c5, rfl, unhide HI5, l5, unhide HX5⟩

end Go.Proofs.Ytecolpnbbpbflaa
end

section
namespace Go.Proofs.Ytecolpnbbpbflaa
open Go.ChangeShapes Go.WideShapes Go.ChangeAt Go.RowKit
attribute [local go_sem] Oper.semAt_some

/-- a list that may be worked through -/
def ShD (d : List Dop) : Prop := d.length ≤ 200 ∧ (∀ o ∈ d, o.k = 1 ∨ o.k = 2 ∨ o.k = 3) ∧ smT d ≤ 5000
structure Dl where
  a : Option Addr
  c : Nat
  d : List Dop
def dlZ : Dl := ⟨none, 0, []⟩
/-- lists of operations that lie in a row of slices -/
structure IsDs (w X : World) (G : Nat) (ds : List Dl) : Prop where
  c : ∀ i, i < ds.length → X.cell? ⟨G, i, none⟩ = some (.slice (ds.getD i dlZ).a (ds.getD i dlZ).d.length (ds.getD i dlZ).c)
  o : ∀ i, i < ds.length → IsO w (ds.getD i dlZ).a (ds.getD i dlZ).d ∧ (∀ o ∈ (ds.getD i dlZ).d, o.t.length ≤ 140737488355328)
  g : G < X.heap.size
theorem IsDs.on {w X Y : World} {G : Nat} {ds : List Dl} (h : IsDs w X G ds) (hb : Below X.heap.size X Y) : IsDs w Y G ds :=
  ⟨fun i hi => (hb.cell (p := ⟨G, i, none⟩) h.g).trans (h.c i hi), h.o, Nat.lt_of_lt_of_le h.g hb.size⟩
theorem smT_le {d : List Dop} (ht : ∀ o ∈ d, o.t.length ≤ 140737488355328) : ∀ k, k ≤ d.length → smT (d.take k) ≤ k * 140737488355328
  | 0, _ => by simp [smT]
  | k + 1, h => by
    have ih := smT_le ht k (by omega)
    have := ht _ (getD_memD (d := d) (k := k) (by omega))
    rw [smT_take d (by omega)]
    omega
set_option maxRecDepth 100000 in
set_option maxHeartbeats 4000000 in
theorem short_at (a0 : Option Addr) (bl c0 G cc : Nat) (ds : List Dl) (w X : World) (h : IsDs w X G ds) (hd : Below w.heap.size w X) (hl : ds.length ≤ 1000) :
    Calls Try.prog 30 #[.slice a0 bl c0, .slice (some ⟨G, 0, none⟩) ds.length cc] X fun y X' => ∃ r : Bool, y = .returned (.bool r) ∧ (r = true → bl ≤ 5000 ∧ ∀ i, i < ds.length → ShD (ds.getD i dlZ).d) ∧ Below X.heap.size X X' := by
  have HH := hide fun (Y : World) (hY : Below X.heap.size X Y) => h.on hY
  have HW := hide fun (Y : World) (hY : Below X.heap.size X Y) => hd.trans (hY.mono hd.size)
  clear h hd
  by_cases hb : 5000 < bl
  · have t1 : decide ((bl : Int) > 5000) = true := decide_eq_true (by omega)
    have t2 : decide ((5000 : Int) < (bl : Int)) = true := decide_eq_true (by omega)
    have t3 : decide (5000 < bl) = true := decide_eq_true hb
    clear HH HW
    go_enter Try.func30, Try.ntmps30
    go_wp2_with fail
    refine bodyPost_ret (results_tmp rfl _ _ _) rfl ⟨false, rfl, (fun h => by cases h), Below.refl _ _⟩
  have t1 : decide ((bl : Int) > 5000) = false := decide_eq_false (by omega)
  have t2 : decide ((5000 : Int) < (bl : Int)) = false := decide_eq_false (by omega)
  have t3 : decide (5000 < bl) = false := decide_eq_false hb
  have HBL : Hid (bl ≤ 5000) := hide (by omega)
  clear hb
  go_enter Try.func30, Try.ntmps30
  go_wp2_with fail
  clear t1 t2 t3
  go_loopw [5, 6, 8, 14, 26, 27, 28] (fun v5 v6 v8 v14 v26 v27 v28 wx => ((∃ z, v5 = z) ∧ (∃ z, v6 = z) ∧ (∃ z, v8 = z) ∧ (∃ z, v26 = z) ∧ (∃ z, v27 = z) ∧ (∃ z, v28 = z)) ∧ (∃ k : Nat, v14 = .int .i64 (k : Int) ∧ k ≤ ds.length ∧ Hid ((∀ i, i < k → ShD (ds.getD i dlZ).d) ∧ Below X.heap.size X wx))) (fun _ _ _ v14 _ _ _ _ => ds.length - (intOf v14).toNat)
  case atStart => exact ⟨⟨⟨_, rfl⟩, ⟨_, rfl⟩, ⟨_, rfl⟩, ⟨_, rfl⟩, ⟨_, rfl⟩, ⟨_, rfl⟩⟩, ⟨0, rfl, Nat.zero_le _, hide ⟨fun i hi => absurd hi (Nat.not_lt_zero i), Below.refl _ _⟩⟩⟩
  case round =>
    obtain ⟨⟨⟨z1, rfl⟩, ⟨z2, rfl⟩, ⟨z3, rfl⟩, ⟨z4, rfl⟩, ⟨z5, rfl⟩, ⟨z6, rfl⟩⟩, ⟨k, rfl, hk, HI⟩⟩ := hrel
    by_cases hlt : k < ds.length
    · have s1 : decide ((k : Int) < (ds.length : Int)) = true := decide_eq_true (by omega)
      have s1' : (k : Int) < (ds.length : Int) := by omega
      have hS := unhide HH wr (unhide HI).2
      have q0 := hS.c k hlt
      obtain ⟨hO, hT⟩ := hS.o k hlt
      have HO := hide fun (Y : World) (hY : Below X.heap.size X Y) => hO.below (unhide HW Y hY) (Nat.le_refl _)
      have HT := hide hT
      have HN : Hid (ShD (ds.getD k dlZ).d → ∀ i, i < k + 1 → ShD (ds.getD i dlZ).d) := hide fun h0 i hi => by
        rcases Nat.lt_or_ge i k with h | h
        · exact (unhide HI).1 i h
        · obtain rfl : i = k := by omega
          exact h0
      have HB := hide (unhide HI).2
      clear HI hS hO hT hk
      generalize ds.getD k dlZ = x at *
      obtain ⟨xa, xc, d⟩ := x
      dsimp only at q0 HO HT HN
      by_cases h2 : 200 < d.length
      · have t1 : decide ((d.length : Int) > 200) = true := decide_eq_true (by omega)
        have t2 : decide ((200 : Int) < (d.length : Int)) = true := decide_eq_true (by omega)
        have t3 : decide (200 < d.length) = true := decide_eq_true h2
        clear HO HT HN h2
        go_wp2_with fail
        refine bodyPost_ret (results_tmp rfl _ _ _) rfl ⟨false, rfl, (fun h => by cases h), unhide HB⟩
      · have t1 : decide ((d.length : Int) > 200) = false := decide_eq_false (by omega)
        have t2 : decide ((200 : Int) < (d.length : Int)) = false := decide_eq_false (by omega)
        have t3 : decide (200 < d.length) = false := decide_eq_false h2
        have HDL : Hid (d.length ≤ 200) := hide (by omega)
        go_wp2_with fail
        clear t1 t2 t3 q0 s1 s1'
        go_loopw [6, 8, 28] (fun v6 v8 v28 wx => (∃ z, v8 = z) ∧ (∃ j : Nat, v28 = .int .i64 (j : Int) ∧ v6 = .int .i64 (smT (d.take j) : Int) ∧ j ≤ d.length ∧ Hid ((∀ i, i < j → (d.getD i opZ).k = 1 ∨ (d.getD i opZ).k = 2 ∨ (d.getD i opZ).k = 3) ∧ Below X.heap.size X wx))) (fun _ _ v28 _ => d.length - (intOf v28).toNat)
        case atStart => exact ⟨⟨_, rfl⟩, ⟨0, rfl, by simp [smT], Nat.zero_le _, hide ⟨fun i hi => absurd hi (Nat.not_lt_zero i), unhide HB⟩⟩⟩
        case round =>
          clear HB
          obtain ⟨⟨z1, rfl⟩, ⟨j, rfl, rfl, hj, HI⟩⟩ := hrel
          by_cases hjl : j < d.length
          · have s1 : decide ((j : Int) < (d.length : Int)) = true := decide_eq_true (by omega)
            obtain ⟨g, off, rfl, hg, c0, c1, c2⟩ := (unhide HO wr (unhide HI).2).three hjl
            have hx := unhide HT _ (getD_memD hjl)
            have hle := smT_le (unhide HT) j hj
            have hd2 := unhide HDL
            have HS := hide (smT_take d hjl)
            have HNJ : Hid (((d.getD j opZ).k = 1 ∨ (d.getD j opZ).k = 2 ∨ (d.getD j opZ).k = 3) → ∀ i, i < j + 1 → (d.getD i opZ).k = 1 ∨ (d.getD i opZ).k = 2 ∨ (d.getD i opZ).k = 3) := hide fun h0 i hi => by
              rcases Nat.lt_or_ge i j with h | h
              · exact (unhide HI).1 i h
              · obtain rfl : i = j := by omega
                exact h0
            have w1 : wrap64 ((smT (d.take j) : Int) + ((d.getD j opZ).t.length : Int)) = ((smT (d.take (j + 1)) : Nat) : Int) := by rw [unhide HS, wrapD _ (by omega) (by omega)]; omega
            have hsz := strOfNums_size (d.getD j opZ).t
            generalize d.getD j opZ = x at *
            obtain ⟨xk, xn, xt⟩ := x
            dsimp only at c0 c1 c2 w1 hsz HNJ
            obtain ⟨d0, d1, d2⟩ := three_nwD wr (.int .i64 xk) (.int .i64 xn) (.string (strOfNums xt)) (t := 64)
            have HB := hide ((unhide HI).2.alloc (unhide HI).2.size (.cells #[.int .i64 xk, .int .i64 xn, .string (strOfNums xt)] 64))
            have W1 := hide w1
            clear HI HO HT HN hj hx hle hd2 HS HDL w1 hg
            generalize hSe : smT (d.take (j + 1)) = S' at *
            have HSE := hide hSe
            clear hSe
            generalize smT (d.take j) = S0 at *
            generalize xt.length = lx at *
            generalize strOfNums xt = st at *
            go_upto_region 12 with fail
            clear c0 c1 c2 d1
            generalize wr.alloc (.cells #[.int .i64 xk, .int .i64 xn, .string st] 64) = v0 at *
            generalize wr.heap.size = gb at *
            by_cases k1 : xk < 1
            · have r1 : decide (xk < 1) = true := decide_eq_true k1
              have w1 := unhide W1
              clear HNJ k1
              go_wp2_with fail
              refine bodyPost_ret (results_tmp rfl _ _ _) rfl ⟨false, rfl, (fun h => by cases h), unhide HB⟩
            by_cases k3 : 3 < xk
            · have r1 : decide (xk < 1) = false := decide_eq_false k1
              have r2 : decide (xk > 3) = true := decide_eq_true k3
              have r3 : decide ((3 : Int) < xk) = true := decide_eq_true k3
              have w1 := unhide W1
              clear HNJ k1 k3
              go_wp2_with fail
              refine bodyPost_ret (results_tmp rfl _ _ _) rfl ⟨false, rfl, (fun h => by cases h), unhide HB⟩
            · have HN2 := hide (unhide HNJ (by omega))
              have r1 : decide (xk < 1) = false := decide_eq_false k1
              have r2 : decide (xk > 3) = false := decide_eq_false k3
              have r3 : decide ((3 : Int) < xk) = false := decide_eq_false k3
              have w1 := unhide W1
              clear HNJ k1 k3
              go_wp2_with fail
              go_roundw
              case rel => exact ⟨⟨_, rfl⟩, ⟨j + 1, by go_num, by rw [unhide HSE, w1], hjl, hide ⟨unhide HN2, unhide HB⟩⟩⟩
              case measure => simp [intOf]; omega
          · obtain rfl : j = d.length := by omega
            have s1 : decide (((d.length : Nat) : Int) < (d.length : Int)) = false := by simp
            rw [List.take_length]
            have hK := (unhide HI).1
            have HB := hide (unhide HI).2
            clear HI hj hjl HO HT
            by_cases h5 : 5000 < smT d
            · have t1 : decide ((smT d : Int) > 5000) = true := decide_eq_true (by omega)
              have t2 : decide ((5000 : Int) < (smT d : Int)) = true := decide_eq_true (by omega)
              have t3 : decide (5000 < smT d) = true := decide_eq_true h5
              clear HN h5 hK
              generalize smT d = S0 at *
              go_wp2_with fail
              refine bodyPost_ret (results_tmp rfl _ _ _) rfl ⟨false, rfl, (fun h => by cases h), unhide HB⟩
            · have t1 : decide ((smT d : Int) > 5000) = false := decide_eq_false (by omega)
              have t2 : decide ((5000 : Int) < (smT d : Int)) = false := decide_eq_false (by omega)
              have t3 : decide (5000 < smT d) = false := decide_eq_false h5
              have HN2 := hide (unhide HN ⟨unhide HDL, fun o ho => by
                obtain ⟨i, hi, rfl⟩ := List.getElem_of_mem ho
                have := hK i hi
                simpa [List.getD, List.getElem?_eq_getElem hi] using this, by omega⟩)
              clear HN h5 hK HDL
              generalize smT d = S0 at *
              go_wp2_with fail
              go_roundw
              case rel => exact ⟨⟨⟨_, rfl⟩, ⟨_, rfl⟩, ⟨_, rfl⟩, ⟨_, rfl⟩, ⟨_, rfl⟩, ⟨_, rfl⟩⟩, ⟨k + 1, by go_num, hlt, hide ⟨unhide HN2, unhide HB⟩⟩⟩
              case measure => simp [intOf]; omega
    · obtain rfl : k = ds.length := by omega
      have s1 : decide (((ds.length : Nat) : Int) < (ds.length : Int)) = false := by simp
      have HR := hide (unhide HI).1
      have HB := hide (unhide HI).2
      clear HI hk hlt HH HW
      go_wp2_with fail
      refine bodyPost_ret (results_tmp rfl _ _ _) rfl ⟨true, rfl, fun _ => ⟨unhide HBL, unhide HR⟩, unhide HB⟩

end Go.Proofs.Ytecolpnbbpbflaa
end
