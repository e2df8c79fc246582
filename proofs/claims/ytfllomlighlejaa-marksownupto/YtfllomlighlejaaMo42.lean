/- Layer 14, plain: where a place is, as the document goes by keeps and by what stands between two of them. -/
import Derived.Test.YtfllomlighlejaaMo41

namespace Go.Proofs.Ytfllomlighlejaa

theorem hasK_in : ∀ (u v : List Atm) (x : Nat), frA u < x → hasK (u ++ .k :: v) x = true
  | [], _, x + 1, _ => rfl
  | [], _, 0, h => by simp at h
  | .k :: _, _, x + 1, _ => rfl
  | .k :: _, _, 0, h => by simp at h
  | .d :: u, v, x + 1, h => hasK_in u v x (by simp only [frA] at h; omega)
  | .d :: _, _, 0, h => by simp at h
  | .p _ :: u, v, x, h => hasK_in u v x (by simpa only [frA] using h)
theorem hasK_end : ∀ (u v : List Atm) (x : Nat), frA u ≤ x → u.getLast? = some .k → hasK (u ++ v) x = true
  | [], _, _, _, h => by simp at h
  | .k :: _, _, x + 1, _, _ => rfl
  | .k :: _, _, 0, h, _ => by simp only [frA] at h; omega
  | .d :: u, v, x, h, hl => by
    cases u with
    | nil => simp at hl
    | cons a u =>
      rw [List.getLast?_cons_cons] at hl
      cases x with
      | zero => simp only [frA] at h; omega
      | succ x => exact hasK_end (a :: u) v x (by simp only [frA] at h ⊢; omega) hl
  | .p _ :: u, v, x, h, hl => by
    cases u with
    | nil => simp at hl
    | cons a u =>
      rw [List.getLast?_cons_cons] at hl
      exact hasK_end (a :: u) v x (by simpa only [frA] using h) hl
theorem lft_in : ∀ (u v : List Atm) (x : Nat), frA u < x → lftA (u ++ .k :: v) x = toA u + lftA (.k :: v) (x - frA u)
  | [], _, x, _ => by simp [frA, toA]
  | .k :: u, v, x + 1, h => by
    have ih := lft_in u v x (by simp only [frA] at h; omega)
    show 1 + lftA (u ++ .k :: v) x = _
    rw [ih, show x + 1 - frA (.k :: u) = x - frA u by simp only [frA]; omega]
    simp only [toA]; omega
  | .k :: _, _, 0, h => by simp at h
  | .d :: u, v, x + 1, h => by
    have ih := lft_in u v x (by simp only [frA] at h; omega)
    show lftA (u ++ .k :: v) x = _
    rw [ih, show x + 1 - frA (.d :: u) = x - frA u by simp only [frA]; omega]
    simp only [toA]
  | .d :: _, _, 0, h => by simp at h
  | .p y :: u, v, x, h => by
    have h' : frA u < x := by simpa only [frA] using h
    have ih := lft_in u v x h'
    show (if hasK (u ++ .k :: v) x then 1 + lftA (u ++ .k :: v) x else 0) = _
    rw [hasK_in u v x h', if_pos rfl, ih]
    simp only [toA, frA]; omega
theorem lft_end : ∀ (u v : List Atm) (x : Nat), frA u ≤ x → (u = [] ∨ u.getLast? = some .k) → lftA (u ++ v) x = toA u + lftA v (x - frA u)
  | [], _, x, _, _ => by simp [frA, toA]
  | .k :: u, v, x + 1, h, hl => by
    have hl' : u = [] ∨ u.getLast? = some .k := by
      cases u with
      | nil => exact .inl rfl
      | cons a u => rcases hl with hl | hl; cases hl; rw [List.getLast?_cons_cons] at hl; exact .inr hl
    have ih := lft_end u v x (by simp only [frA] at h; omega) hl'
    show 1 + lftA (u ++ v) x = _
    rw [ih, show x + 1 - frA (.k :: u) = x - frA u by simp only [frA]; omega]
    simp only [toA]; omega
  | .k :: _, _, 0, h, _ => by simp only [frA] at h; omega
  | .d :: u, v, x, h, hl => by
    cases u with
    | nil => simp at hl
    | cons a u =>
      have hl' : (a :: u).getLast? = some .k := by rcases hl with hl | hl; cases hl; rw [List.getLast?_cons_cons] at hl; exact hl
      cases x with
      | zero => simp only [frA] at h; omega
      | succ x =>
        have ih := lft_end (a :: u) v x (by rw [show frA (.d :: a :: u) = frA (a :: u) + 1 from by simp [frA]; try omega] at h; omega) (.inr hl')
        show lftA (a :: u ++ v) x = _
        rw [ih, show frA (.d :: a :: u) = frA (a :: u) + 1 from by simp [frA]; try omega, show x + 1 - (frA (a :: u) + 1) = x - frA (a :: u) by omega]
        rfl
  | .p y :: u, v, x, h, hl => by
    cases u with
    | nil => simp at hl
    | cons a u =>
      have hl' : (a :: u).getLast? = some .k := by rcases hl with hl | hl; cases hl; rw [List.getLast?_cons_cons] at hl; exact hl
      have h' : frA (a :: u) ≤ x := h
      have ih := lft_end (a :: u) v x h' (.inr hl')
      show (if hasK (a :: u ++ v) x then 1 + lftA (a :: u ++ v) x else 0) = _
      rw [hasK_end (a :: u) v x h' hl', if_pos rfl, ih, show toA (.p y :: a :: u) = toA (a :: u) + 1 from by simp [toA]; try omega, show frA (.p y :: a :: u) = frA (a :: u) from rfl]
      omega
theorem rgt_app : ∀ (u v : List Atm) (x : Nat), frA u ≤ x → rgtA (u ++ v) x = toA u + rgtA v (x - frA u)
  | [], _, x, _ => by simp [frA, toA]
  | .k :: u, v, x + 1, h => by
    have ih := rgt_app u v x (by simp only [frA] at h; omega)
    show 1 + rgtA (u ++ v) x = _
    rw [ih, show x + 1 - frA (.k :: u) = x - frA u by simp only [frA]; omega]
    simp only [toA]; omega
  | .k :: _, _, 0, h => by simp only [frA] at h; omega
  | .d :: u, v, x + 1, h => by
    have ih := rgt_app u v x (by simp only [frA] at h; omega)
    show rgtA (u ++ v) x = _
    rw [ih, show x + 1 - frA (.d :: u) = x - frA u by simp only [frA]; omega]
    simp only [toA]
  | .d :: _, _, 0, h => by simp only [frA] at h; omega
  | .p y :: u, v, x, h => by
    have ih := rgt_app u v x (by simpa only [frA] using h)
    show 1 + rgtA (u ++ v) x = _
    rw [ih]
    simp only [toA, frA]; omega
def NoK (m : List Atm) : Prop := ∀ a ∈ m, a ≠ .k
theorem hasK_grp : ∀ (m v : List Atm) (y : Nat), NoK m → y ≤ frA m → hasK (m ++ v) y = false
  | [], v, y, _, h => by (obtain rfl : y = 0 := by simp only [frA] at h; omega); exact hasK0 v
  | .k :: _, _, _, hn, _ => absurd rfl (hn .k (by simp))
  | .d :: _, _, 0, _, _ => rfl
  | .d :: m, v, y + 1, hn, h => hasK_grp m v y (fun a ha => hn a (by simp [ha])) (by simp only [frA] at h; omega)
  | .p _ :: m, v, y, hn, h => hasK_grp m v y (fun a ha => hn a (by simp [ha])) (by simpa only [frA] using h)
theorem lft_grp (m v : List Atm) (y : Nat) (hn : NoK m) (h : y ≤ frA m) : lftA (m ++ v) y = 0 := lft_no _ _ (hasK_grp m v y hn h)
theorem rgt_grp : ∀ (m v : List Atm) (y : Nat), NoK m → y ≤ frA m → rgtA v 0 = 0 → rgtA (m ++ v) y = toA m
  | [], v, y, _, h, h0 => by (obtain rfl : y = 0 := by simp only [frA] at h; omega); exact h0
  | .k :: _, _, _, hn, _, _ => absurd rfl (hn .k (by simp))
  | .d :: m, v, 0, hn, _, h0 => by
    have ih := rgt_grp m v 0 (fun a ha => hn a (by simp [ha])) (Nat.zero_le _) h0
    show rgtA (m ++ v) 0 = _
    rw [ih]; simp only [toA]
  | .d :: m, v, y + 1, hn, h, h0 => by
    have ih := rgt_grp m v y (fun a ha => hn a (by simp [ha])) (by simp only [frA] at h; omega) h0
    show rgtA (m ++ v) y = _
    rw [ih]; simp only [toA]
  | .p _ :: m, v, y, hn, h, h0 => by
    have ih := rgt_grp m v y (fun a ha => hn a (by simp [ha])) (by simpa only [frA] using h) h0
    show 1 + rgtA (m ++ v) y = _
    rw [ih]; simp only [toA]; omega
theorem fr_takeD {d : List Dop} (hv : valB d = true) (i : Nat) : frA (dA (d.take i)) = frD (d.take i) ∧ toA (dA (d.take i)) = toD (d.take i) :=
  frA_dA fun o ho => valB_k hv o (List.mem_of_mem_take ho)
theorem dA_split (d : List Dop) {i : Nat} (hi : i < d.length) : dA d = dA (d.take i) ++ (opA (d.getD i opZ) ++ dA (d.drop (i + 1))) := by
  rw [← dA_cons, ← drop_getD hi, ← dA_app, List.take_append_drop]
theorem opA_keep {o : Dop} (h : o.k = 1) : opA o = List.replicate o.n.toNat .k := by unfold opA; rw [if_pos h]
theorem keep_pos {d : List Dop} (hv : valB d = true) {i : Nat} (hi : i < d.length) (hk : (d.getD i opZ).k = 1) : 1 ≤ (d.getD i opZ).n := by
  rcases valB_op hv (getD_memD hi) with ⟨_, h, _⟩ | ⟨h, _⟩
  · exact h
  · rw [hk] at h; cases h
/-- a place within what is kept -/
theorem pl_keep {d : List Dop} (hv : valB d = true) {i x : Nat} (hi : i < d.length) (hk : (d.getD i opZ).k = 1) (h1 : frD (d.take i) ≤ x) (h2 : (x : Int) < frD (d.take i) + (d.getD i opZ).n) (h3 : i = 0 ∨ frD (d.take i) < x ∨ (d.getD (i - 1) opZ).k = 1) (hx : x ≤ frD d) (hc : i = 0 ∨ (d.getD (i - 1) opZ).k ≠ 1) :
    mvC (x : Int) 1 0 (runL d).2 = (toD (d.take i) : Int) + x - frD (d.take i) ∧ mvC (x : Int) 2 0 (runL d).2 = (toD (d.take i) : Int) + x - frD (d.take i) := by
  obtain ⟨e1, e2⟩ := pl_atoms hv hx
  obtain ⟨f1, f2⟩ := fr_takeD hv i
  have hp := keep_pos hv hi hk
  obtain ⟨n, hn⟩ : ∃ n : Nat, (d.getD i opZ).n.toNat = n + 1 := ⟨(d.getD i opZ).n.toNat - 1, by omega⟩
  have hs := dA_split d hi
  rw [opA_keep hk] at hs
  have hl : lftA (dA d) x = toD (d.take i) + (x - frD (d.take i)) := by
    have key : lftA (List.replicate (d.getD i opZ).n.toNat .k ++ dA (d.drop (i + 1))) (x - frD (d.take i)) = x - frD (d.take i) := by rw [lft_k, if_pos (by omega)]
    rcases Nat.eq_zero_or_pos i with h0 | h0
    · subst h0
      rw [hs]
      simp only [List.take_zero] at key ⊢
      rw [show dA ([] : List Dop) = [] from rfl, List.nil_append]
      simp only [frD, toD, List.map_nil, List.sum_nil, Nat.sub_zero, Nat.zero_add] at key ⊢
      exact key
    · have h3' : frD (d.take i) < x := by
        rcases h3 with h3 | h3 | h3
        · omega
        · exact h3
        · rcases hc with hc | hc
          · omega
          · exact absurd h3 hc
      rw [hs, hn, List.replicate_succ, List.cons_append, lft_in _ _ _ (by rw [f1]; exact h3'), f1, f2]
      rw [hn, List.replicate_succ, List.cons_append] at key
      rw [key]
  have hr : rgtA (dA d) x = toD (d.take i) + (x - frD (d.take i)) := by
    rw [hs, rgt_app _ _ _ (by rw [f1]; exact h1), f1, f2, rgt_k, if_pos (by omega)]
  rw [e1, e2, hl, hr]
  constructor <;> omega
theorem nok_mid {d : List Dop} (hv : valB d = true) : ∀ (m : List Dop), (∀ o ∈ m, o ∈ d ∧ o.k ≠ 1) → NoK (dA m)
  | [], _, a, ha => by simp [dA] at ha
  | o :: r, h, a, ha => by
    rw [dA_cons] at ha
    rcases List.mem_append.1 ha with ha | ha
    · obtain ⟨h1, h2⟩ := h o (by simp)
      unfold opA at ha
      rw [if_neg h2] at ha
      split at ha
      · obtain ⟨y, _, rfl⟩ := List.mem_map.1 ha
        simp
      · rw [List.mem_replicate] at ha
        rw [ha.2]; simp
    · exact nok_mid hv r (fun x hx => h x (by simp [hx])) a ha
theorem last_keep {d : List Dop} (hv : valB d = true) {i : Nat} (hi : i ≤ d.length) (h : i = 0 ∨ (d.getD (i - 1) opZ).k = 1) : dA (d.take i) = [] ∨ (dA (d.take i)).getLast? = some .k := by
  rcases Nat.eq_zero_or_pos i with h0 | h0
  · subst h0; exact .inl rfl
  · rcases h with h | h
    · omega
    · right
      obtain ⟨j, rfl⟩ : ∃ j, i = j + 1 := ⟨i - 1, by omega⟩
      simp only [Nat.add_sub_cancel] at h
      have hp := keep_pos hv (by omega) h
      obtain ⟨n, hn⟩ : ∃ n : Nat, (d.getD j opZ).n.toNat = n + 1 := ⟨(d.getD j opZ).n.toNat - 1, by omega⟩
      have e : d.take (j + 1) = d.take j ++ [d.getD j opZ] := by
        rw [List.take_add_one, List.getElem?_eq_getElem (by omega : j < d.length)]
        simp [List.getD, List.getElem?_eq_getElem (by omega : j < d.length)]
      rw [e, dA_app, show dA [d.getD j opZ] = opA (d.getD j opZ) by simp [dA], opA_keep h, hn, List.replicate_succ', ← List.append_assoc]
      simp
theorem mem_mid {d : List Dop} {i j : Nat} {o : Dop} (hj : j ≤ d.length) (h : o ∈ (d.drop i).take (j - i)) : ∃ m, i ≤ m ∧ m < j ∧ d.getD m opZ = o := by
  obtain ⟨k, hk, rfl⟩ := List.getElem_of_mem h
  simp only [List.length_take, List.length_drop] at hk
  refine ⟨i + k, by omega, by omega, ?_⟩
  rw [List.getElem_take, List.getElem_drop]
  simp [List.getD, List.getElem?_eq_getElem (by omega : i + k < d.length)]
theorem frD_appS (x y : List Dop) : frD (x ++ y) = frD x + frD y := by simp [frD]
/-- a place at what stands between two keeps -/
theorem pl_grp {d : List Dop} (hv : valB d = true) {i j x : Nat} (hij : i ≤ j) (hj : j ≤ d.length) (hn : ∀ m, i ≤ m → m < j → (d.getD m opZ).k ≠ 1) (hb : i = 0 ∨ (d.getD (i - 1) opZ).k = 1) (he : j = d.length ∨ (d.getD j opZ).k = 1)
    (h1 : frD (d.take i) ≤ x) (h2 : x ≤ frD (d.take j)) (hx : x ≤ frD d) : mvC (x : Int) 1 0 (runL d).2 = (toD (d.take i) : Int) ∧ mvC (x : Int) 2 0 (runL d).2 = (toD (d.take j) : Int) := by
  obtain ⟨e1, e2⟩ := pl_atoms hv hx
  obtain ⟨f1, f2⟩ := fr_takeD hv i
  have hmem : ∀ o ∈ (d.drop i).take (j - i), o ∈ d ∧ o.k ≠ 1 := fun o ho => by
    obtain ⟨m, m1, m2, rfl⟩ := mem_mid hj ho
    exact ⟨getD_memD (by omega), hn m m1 m2⟩
  have hm := frA_dA (d := (d.drop i).take (j - i)) fun o ho => valB_k hv o (hmem o ho).1
  have ej : d.take j = d.take i ++ (d.drop i).take (j - i) := by rw [show j = i + (j - i) by omega, List.take_add, show i + (j - i) - i = j - i by omega]
  have hs : dA d = dA (d.take i) ++ (dA ((d.drop i).take (j - i)) ++ dA (d.drop j)) := by
    conv => lhs; rw [← List.take_append_drop j d, ej]
    rw [dA_app, dA_app, List.append_assoc]
  have hfj : frD (d.take j) = frD (d.take i) + frD ((d.drop i).take (j - i)) := by rw [ej, frD_appS]
  have htj : toD (d.take j) = toD (d.take i) + toD ((d.drop i).take (j - i)) := by rw [ej, toD_appS]
  have hno := nok_mid hv _ hmem
  have h0 : rgtA (dA (d.drop j)) 0 = 0 := by
    rcases Nat.lt_or_ge j d.length with hl | hl
    · have hk : (d.getD j opZ).k = 1 := by rcases he with he | he; omega; exact he
      have hp := keep_pos hv hl hk
      obtain ⟨n, hn⟩ : ∃ n : Nat, (d.getD j opZ).n.toNat = n + 1 := ⟨(d.getD j opZ).n.toNat - 1, by omega⟩
      rw [drop_getD hl, dA_cons, opA_keep hk, hn, List.replicate_succ]
      rfl
    · rw [List.drop_eq_nil_of_le hl]; rfl
  rw [e1, e2, hs, lft_end _ _ _ (by rw [f1]; exact h1) (last_keep hv (by omega) hb), rgt_app _ _ _ (by rw [f1]; exact h1), f1, f2, lft_grp _ _ _ hno (by rw [hm.1]; omega), rgt_grp _ _ _ hno (by rw [hm.1]; omega) h0, hm.2, htj]
  constructor <;> omega
/-- a place at the end, behind what is kept -/
theorem pl_last {d : List Dop} (hv : valB d = true) (hb : d.length = 0 ∨ (d.getD (d.length - 1) opZ).k = 1) : mvC (frD d : Int) 1 0 (runL d).2 = (toD d : Int) ∧ mvC (frD d : Int) 2 0 (runL d).2 = (toD d : Int) := by
  have := pl_grp hv (i := d.length) (j := d.length) (x := frD d) (Nat.le_refl _) (Nat.le_refl _) (fun m h1 h2 => by omega) hb (.inl rfl) (by rw [List.take_length]; exact Nat.le_refl _) (by rw [List.take_length]; exact Nat.le_refl _) (Nat.le_refl _)
  rw [List.take_length] at this
  exact this

end Go.Proofs.Ytfllomlighlejaa
