/- Layer 13, plain: a delta's changes as operations; what bytes that are all unlike tell of a delta. · Layer 14, plain: one delta's atoms over another's: both orders meet. -/
import Derived.Test.YtfllomlighlejaaMo32
import Derived.Test.YtfllomlighlejaaMo30

section
namespace Go.Proofs.Ytfllomlighlejaa

theorem lstC_sn : ∀ (p : Int) (cs : List Dop) (c : Dop), lstC p (cs ++ [c]) = c.n
  | _, [], _ => rfl
  | _, x :: r, c => lstC_sn x.n r c
theorem opC_sn : ∀ (p : Int) (cs : List Dop) (c : Dop), opC p (cs ++ [c]) = opC p cs ++ [⟨1, c.k - lstC p cs, []⟩, ⟨2, 0, c.t⟩, ⟨3, c.n - c.k, []⟩]
  | _, [], _ => rfl
  | p, x :: r, c => by simp only [List.cons_append, opC, opC_sn x.n r c, lstC]
/-- changes that rise, a byte between each two -/
def GapC : Int → List Dop → Prop
  | _, [] => True
  | p, c :: r => p < c.k ∧ c.k ≤ c.n ∧ GapC c.n r
theorem gap_sn : ∀ {p : Int} {cs : List Dop} {c : Dop}, GapC p cs → lstC p cs < c.k → c.k ≤ c.n → GapC p (cs ++ [c])
  | _, [], _, _, h1, h2 => ⟨h1, h2, trivial⟩
  | _, _ :: _, _, h, h1, h2 => ⟨h.1, h.2.1, gap_sn h.2.2 h1 h2⟩
theorem gap_init : ∀ {p : Int} {cs : List Dop} {c : Dop}, GapC p (cs ++ [c]) → GapC p cs ∧ lstC p cs < c.k ∧ c.k ≤ c.n
  | _, [], _, h => ⟨trivial, h.1, h.2.1⟩
  | _, x :: r, c, h => by
    obtain ⟨h1, h2, h3⟩ := gap_init (cs := r) h.2.2
    exact ⟨⟨h.1, h.2.1, h1⟩, h2, h3⟩
theorem gap_le : ∀ {p : Int} {cs : List Dop}, GapC p cs → p ≤ lstC p cs ∧ ∀ c ∈ cs, p < c.k ∧ c.k ≤ c.n ∧ c.n ≤ lstC p cs
  | _, [], _ => ⟨Int.le_refl _, by simp⟩
  | p, x :: r, h => by
    obtain ⟨h1, h2⟩ := gap_le (cs := r) h.2.2
    have a1 := h.1
    have a2 := h.2.1
    simp only [lstC]
    refine ⟨by omega, fun c hc => ?_⟩
    rcases List.mem_cons.1 hc with rfl | hc
    · exact ⟨a1, a2, h1⟩
    · obtain ⟨b1, b2, b3⟩ := h2 c hc
      exact ⟨by omega, b2, b3⟩
theorem gap_next : ∀ {p : Int} {cs : List Dop}, GapC p cs → ∀ k, k + 1 < cs.length → (cs.getD k opZ).n < (cs.getD (k + 1) opZ).k
  | _, [], _, k, hk => by simp at hk
  | _, [_], _, k, hk => by simp at hk
  | _, x :: y :: r, h, 0, _ => h.2.2.1
  | _, x :: y :: r, h, k + 1, hk => by
    have := gap_next (cs := y :: r) h.2.2 k (by simpa using hk)
    simpa using this
theorem gap_len : ∀ {p : Int} {cs : List Dop}, GapC p cs → (cs.length : Int) ≤ lstC p cs - p
  | _, [], _ => by simp [lstC]
  | p, x :: r, h => by
    have h1 := gap_len (cs := r) h.2.2
    have a1 := h.1
    have a2 := h.2.1
    simp only [lstC, List.length_cons]
    omega
theorem opC_k : ∀ (p : Int) (cs : List Dop), ∀ o ∈ opC p cs, o.k = 1 ∨ o.k = 2 ∨ o.k = 3
  | _, [], o, ho => by simp [opC] at ho
  | p, c :: r, o, ho => by
    simp only [opC, List.mem_cons] at ho
    rcases ho with rfl | rfl | rfl | ho
    · exact .inl rfl
    · exact .inr (.inl rfl)
    · exact .inr (.inr rfl)
    · exact opC_k c.n r o ho
theorem opsC_k (n : Int) (cs : List Dop) : ∀ o ∈ opsC n cs, o.k = 1 ∨ o.k = 2 ∨ o.k = 3 := fun o ho => by
  unfold opsC at ho
  rcases List.mem_append.1 ho with ho | ho
  · exact opC_k 0 cs o ho
  · obtain rfl : o = ⟨1, n - lstC 0 cs, []⟩ := by simpa using ho
    exact .inl rfl
theorem lstC_two (p q : Int) {cs : List Dop} (h : cs ≠ []) : lstC p cs = lstC q cs := by cases cs with | nil => exact absurd rfl h | cons => rfl
/-- the changes of a beginning of a canonical delta -/
structure ChS (p : List Dop) (m : Nat) (cs : List Dop) : Prop where
  f : m = frD p
  g : GapC (-1) cs
  l : 0 ≤ lstC 0 cs ∧ lstC 0 cs ≤ m
  a : dA (opC 0 cs) ++ List.replicate (m - (lstC 0 cs).toNat) .k = dA p
  o : ∀ x, p.getLast? = some x → (cs.getLast?.map Dop.n = some (m : Int) ↔ x.k ≠ 1)
  z : p = [] → cs = []
  q : ∀ x, p.getLast? = some x → x.k = 2 → ∃ e t, cs = e ++ [⟨m, m, t⟩]
  k : ∀ x ∈ p, x.k = 1 ∨ x.k = 2 ∨ x.k = 3
theorem dA_one (o : Dop) : dA [o] = opA o := by simp [dA]
theorem last_lst {cs : List Dop} {x : Dop} (h : cs.getLast? = some x) (p : Int) : lstC p cs = x.n := by
  obtain ⟨e, rfl⟩ := List.getLast?_eq_some_iff.1 h
  exact lstC_sn p e x
theorem rep_k (a b : Nat) (u : List Atm) : List.replicate a Atm.k ++ (List.replicate b .k ++ u) = List.replicate (a + b) .k ++ u := by rw [← List.append_assoc, List.replicate_append_replicate]
/-- a new change at the end of what was -/
theorem ChS.new {p : List Dop} {m : Nat} {cs : List Dop} (h : ChS p m cs) (hg : cs.getLast?.map Dop.n ≠ some (m : Int)) (n : Nat) (t : List Int) :
    GapC (-1) (cs ++ [⟨m, ((m + n : Nat) : Int), t⟩]) ∧ dA (opC 0 (cs ++ [⟨m, ((m + n : Nat) : Int), t⟩])) = dA p ++ t.map .p ++ List.replicate n .d := by
  have hl := h.l
  have hlt : lstC (-1) cs < m := by
    cases hc : cs.getLast? with
    | none =>
      have : cs = [] := List.getLast?_eq_none_iff.1 hc
      subst this
      simp only [lstC]; omega
    | some x =>
      have h1 := last_lst hc (-1)
      have h2 := last_lst hc 0
      rw [hc] at hg
      simp at hg
      omega
  refine ⟨gap_sn h.g hlt (by dsimp only; omega), ?_⟩
  rw [opC_sn, dA_app, ← h.a]
  simp only [dA, List.flatMap_cons, List.flatMap_nil, List.append_nil]
  have e1 : opA (⟨1, (m : Int) - lstC 0 cs, []⟩ : Dop) = List.replicate (m - (lstC 0 cs).toNat) .k := by
    simp only [opA, if_true]; congr 1; omega
  have e2 : opA (⟨2, 0, t⟩ : Dop) = t.map .p := by simp [opA]
  have e3 : opA (⟨3, ((m + n : Nat) : Int) - (m : Int), []⟩ : Dop) = List.replicate n .d := by
    simp only [opA, show ¬ ((3 : Int) = 1) by decide, show ¬ ((3 : Int) = 2) by decide, if_false]; congr 1; omega
  rw [e1, e2, e3]
  simp [List.append_assoc]
theorem ChS.step {p : List Dop} {m : Nat} {cs : List Dop} {o : Dop} (h : ChS p m cs) (hp : Pln o) (hok : ∀ x, p.getLast? = some x → okN x.k o.k) : ChS (p ++ [o]) (stL (m, cs) o).1 (stL (m, cs) o).2 := by
  have hl := h.l
  have hkk : ∀ x ∈ p ++ [o], x.k = 1 ∨ x.k = 2 ∨ x.k = 3 := fun x hx => by
    rcases List.mem_append.1 hx with hx | hx
    · exact h.k x hx
    · obtain rfl : x = o := by simpa using hx
      rcases hp with ⟨h1 | h1, _⟩ | ⟨h1, _⟩ <;> omega
  have hnot : (∀ x, p.getLast? = some x → x.k = 1) → cs.getLast?.map Dop.n ≠ some (m : Int) := fun hx => by
    cases hc : p.getLast? with
    | none =>
      have := h.z (List.getLast?_eq_none_iff.1 hc)
      subst this; simp
    | some x => exact fun e => (h.o x hc).1 e (hx x hc)
  rcases hp with ⟨hk | hk, hn, ht⟩ | ⟨hk, hn, ht⟩
  · have es : stL (m, cs) o = (m + o.n.toNat, cs) := by simp [stL, hk]
    have eo : opA o = List.replicate o.n.toNat .k := by simp [opA, hk]
    rw [es]
    refine ⟨by rw [frD_snoc, ← h.f]; simp [frN, hk], h.g, ⟨hl.1, by dsimp only; omega⟩, ?_, fun x hx => ?_, fun e => by simp at e, fun x hx h2 => ?_, hkk⟩
    · dsimp only
      rw [dA_app, dA_one, ← h.a, eo, List.append_assoc, List.replicate_append_replicate]
      congr 2; omega
    · obtain rfl : o = x := by simpa using hx
      refine ⟨fun e => ?_, fun e => absurd hk e⟩
      cases hc : cs.getLast? with
      | none => rw [hc] at e; simp at e
      | some y =>
        rw [hc] at e
        have := last_lst hc 0
        simp at e
        omega
    · obtain rfl : o = x := by simpa using hx
      omega
  · have eo : opA o = List.replicate o.n.toNat .d := by simp [opA, hk]
    have hfr : frN o = o.n.toNat := by simp [frN, hk]
    obtain ⟨e, x, hH, hxn, hG, hA⟩ : ∃ e x, herL m cs = e ++ [x] ∧ x.n = (m : Int) ∧ GapC (-1) (e ++ [⟨x.k, x.n + o.n.toNat, x.t⟩]) ∧ dA (opC 0 (e ++ [⟨x.k, x.n + o.n.toNat, x.t⟩])) = dA p ++ List.replicate o.n.toNat .d := by
      by_cases h2 : ∃ y, p.getLast? = some y ∧ y.k = 2
      · obtain ⟨y, hy, hy2⟩ := h2
        obtain ⟨e, t, hcs⟩ := h.q y hy hy2
        have hgi := gap_init (hcs ▸ h.g)
        have ha := h.a
        refine ⟨e, ⟨m, m, t⟩, by unfold herL; rw [hcs]; simp, rfl, gap_sn hgi.1 hgi.2.1 (by dsimp only; omega), ?_⟩
        rw [hcs, lstC_sn, opC_sn] at ha
        dsimp only at ha ⊢
        rw [opC_sn]
        dsimp only
        rw [← ha]
        simp only [dA_app, Int.toNat_natCast, Nat.sub_self, List.replicate_zero, List.append_nil]
        simp only [dA, List.flatMap_cons, List.flatMap_nil, List.append_nil, List.append_assoc]
        congr 3
        rw [show opA (⟨3, (m : Int) - (m : Int), []⟩ : Dop) = [] by simp [opA], List.nil_append]
        simp only [opA, show ¬ ((3 : Int) = 1) by decide, show ¬ ((3 : Int) = 2) by decide, if_false]
        congr 1; omega
      · have hx1 : ∀ x, p.getLast? = some x → x.k = 1 := fun x hx => by
          have h3 := hok x hx
          rw [hk] at h3
          have h4 : x.k ≠ 2 := fun h4 => h2 ⟨x, hx, h4⟩
          have h5 := h3.1
          have h6 := h.k x (List.mem_of_getLast? hx)
          omega
        have hg := hnot hx1
        obtain ⟨n1, n2⟩ := h.new hg o.n.toNat []
        refine ⟨cs, ⟨m, m, []⟩, by unfold herL; rw [if_neg hg], rfl, by dsimp only; rw [← Int.natCast_add]; exact n1, by dsimp only; rw [← Int.natCast_add, n2]; simp⟩
    have es : stL (m, cs) o = (m + o.n.toNat, e ++ [⟨x.k, x.n + o.n.toNat, x.t⟩]) := by
      simp only [stL, hk, show ¬ ((3 : Int) = 1) by decide, show ¬ ((3 : Int) = 2) by decide, if_false]
      rw [hH, upL_snoc]
    rw [es]
    refine ⟨by rw [frD_snoc, ← h.f, hfr], hG, ⟨by rw [lstC_sn]; dsimp only; omega, by rw [lstC_sn]; dsimp only; omega⟩, ?_, fun y hy => ?_, fun e => by simp at e, fun y hy h2 => ?_, hkk⟩
    · rw [lstC_sn, hA, dA_app, dA_one, eo]
      dsimp only
      rw [show m + o.n.toNat - (x.n + (o.n.toNat : Int)).toNat = 0 by omega]
      simp
    · obtain rfl : o = y := by simpa using hy
      simp [hk, hxn]
    · obtain rfl : o = y := by simpa using hy
      omega
  · have hx1 : ∀ x, p.getLast? = some x → x.k = 1 := fun x hx => by
      have h3 := hok x hx
      rw [hk] at h3
      have h5 := h3.1
      have h6 := h.k x (List.mem_of_getLast? hx)
      have h7 : x.k ≠ 3 := fun h7 => h3.2 ⟨h7, rfl⟩
      omega
    have hg := hnot hx1
    obtain ⟨n1, n2⟩ := h.new hg 0 o.t
    rw [Nat.add_zero] at n1 n2
    have es : stL (m, cs) o = (m, cs ++ [⟨m, m, o.t⟩]) := by
      simp only [stL, hk, show ¬ ((2 : Int) = 1) by decide, if_false, if_true]
      unfold herL
      rw [if_neg hg, upL_snoc]
    rw [es]
    refine ⟨by rw [frD_snoc, ← h.f]; simp [frN, hk], n1, ⟨by rw [lstC_sn]; dsimp only; omega, by rw [lstC_sn]; dsimp only; omega⟩, ?_, fun y hy => ?_, fun e => by simp at e, fun y hy h2 => ⟨_, _, rfl⟩, hkk⟩
    · rw [lstC_sn, n2, dA_app, dA_one]
      simp [opA, hk]
    · obtain rfl : o = y := by simpa using hy
      simp [hk]

theorem chs_fold : ∀ (d : List Dop) {p : List Dop} {m : Nat} {cs : List Dop}, ChS p m cs → (∀ o ∈ d, Pln o) → Chn (p ++ d) → ChS (p ++ d) (d.foldl stL (m, cs)).1 (d.foldl stL (m, cs)).2
  | [], p, m, cs, h, _, _ => by simpa using h
  | o :: d, p, m, cs, h, hp, hc => by
    have h1 := h.step (hp o (by simp)) (fun x hx => chn_mid hc hx)
    have h2 := chs_fold d h1 (fun q hq => hp q (by simp [hq])) (by simpa using hc)
    simpa using h2
theorem chs_run {d : List Dop} (h : Can d) : ChS d (runL d).1 (runL d).2 := by
  have h0 : ChS [] 0 [] := ⟨rfl, trivial, by simp [lstC], by simp [opC, lstC, dA], fun x hx => by simp at hx, fun _ => rfl, fun x hx => by simp at hx, fun x hx => by simp at hx⟩
  have := chs_fold d h0 h.p (by simpa using h.c)
  simpa [runL] using this
theorem val_can {d : List Dop} (hc : canA (dA d) = d) : Can d := hc ▸ canA_can _
/-- Of of a delta's changes is the delta -/
theorem of_changes {d : List Dop} {n : Nat} (hv : valB d = true) (h : Can d) (hf : frD d = n) : chD d = ((runL d).2, 0) ∧ ErrC (n : Int) (runL d).2 0 ∧ ofD (n : Int) (runL d).2 0 = (d, 0) ∧ (runL d).2.length ≤ n + 1 := by
  have hs := chs_run h
  have hch : chD d = ((runL d).2, 0) := by unfold chD; rw [hv]; rfl
  have hnn := valB_nn hv
  have hm : (runL d).1 = n := hs.f.trans hf
  generalize (runL d).2 = cs at *
  generalize (runL d).1 = m at *
  subst hm
  have hl := hs.l
  obtain ⟨g1, g2⟩ := gap_le hs.g
  have hlast : cs ≠ [] → lstC (-1) cs = lstC 0 cs := fun h => lstC_two _ _ h
  have hbad : ∀ k, k < cs.length → ¬ badC (m : Int) (cs.getD k opZ) := fun k hk hb => by
    obtain ⟨b1, b2, b3⟩ := g2 _ (getD_memD hk)
    have := hlast (fun e => by rw [e] at hk; simp at hk)
    unfold badC at hb
    omega
  have hE : ErrC (m : Int) cs 0 := by
    obtain ⟨E, hE⟩ := errC_is (m : Int) cs
    have hz := hE.d (by omega) hbad (fun k hk hc => by
      have := gap_next hs.g k hk
      unfold crsC at hc
      omega)
    exact hz ▸ hE
  have ha : dA (opsC (m : Int) cs) = dA d := by
    rw [← hs.a]
    unfold opsC
    rw [dA_app, dA_one]
    congr 1
    simp only [opA, if_true]
    congr 1; omega
  have hk : ∀ o ∈ opsC (m : Int) cs, o.k = 1 ∨ o.k = 2 ∨ o.k = 3 := opsC_k _ _
  have ht : toD (opsC (m : Int) cs) = toD d := by rw [← (frA_dA hk).2, ha, (frA_dA (valB_k hv)).2]
  refine ⟨hch, hE, ?_, ?_⟩
  · unfold ofD
    rw [if_pos rfl, if_neg (by omega), ha, canA_id h]
  · cases cs with
    | nil => simp
    | cons x r =>
      have h1 := gap_len hs.g
      have h2 := hlast (by simp)
      omega

/-- no put stands behind a drop -/
def NoDP : List Atm → Prop
  | [] => True
  | .d :: u => (∀ x r, u ≠ .p x :: r) ∧ NoDP u
  | .k :: u => NoDP u
  | .p _ :: u => NoDP u
theorem nodp_ins : ∀ (u : List Atm), NoDP u → NoDP (insD u)
  | [], _ => ⟨(fun _ _ e => by cases e), trivial⟩
  | .k :: _, h => ⟨(fun _ _ e => by cases e), h⟩
  | .d :: _, h => ⟨(fun _ _ e => by cases e), h⟩
  | .p _ :: u, h => nodp_ins u h
theorem nodp_nf : ∀ u : List Atm, NoDP (nfA u)
  | [] => trivial
  | .k :: u => nodp_nf u
  | .p _ :: u => nodp_nf u
  | .d :: u => nodp_ins _ (nodp_nf u)
/-- bytes that are all unlike -/
def unT : Nat → Nat → List Int
  | _, 0 => []
  | i, m + 1 => (128 + (i : Int)) :: unT (i + 1) m
theorem unT_len : ∀ (m i : Nat), (unT i m).length = m
  | 0, _ => rfl
  | m + 1, i => by simp [unT, unT_len m]
theorem unT_by : ∀ (m i : Nat), i + m ≤ 120 → ∀ x ∈ unT i m, 0 ≤ x ∧ x ≤ 255
  | 0, _, _, x, hx => by simp [unT] at hx
  | m + 1, i, h, x, hx => by
    simp only [unT, List.mem_cons] at hx
    rcases hx with rfl | hx
    · omega
    · exact unT_by m (i + 1) (by omega) x hx
theorem unT_sn : ∀ (m i : Nat), unT i (m + 1) = unT i m ++ [128 + ((i + m : Nat) : Int)]
  | 0, i => by simp [unT]
  | m + 1, i => by
    rw [unT, unT_sn m (i + 1), unT]
    simp only [List.cons_append, List.cons.injEq, true_and]
    congr 4; omega
def decU (n : Nat) : List Int → Nat → List Atm
  | [], i => List.replicate (n - i) .d
  | x :: o, i => if x < 128 then .p x :: decU n o i else List.replicate ((x - 128).toNat - i) .d ++ .k :: decU n o ((x - 128).toNat + 1)
theorem dec_app (n : Nat) : ∀ (u : List Atm) (i m : Nat), i + m = n → frA u = m → NoDP u → (∀ z, Atm.p z ∈ u → z < 128) → decU n (appA (unT i m) u) i = u ∧ ((∀ x r, u ≠ .p x :: r) → ∀ y o, appA (unT i m) u = y :: o → 128 + (i : Int) ≤ y)
  | [], i, m, h, hf, _, _ => by
    have : m = 0 := by simpa [frA] using hf.symm
    subst this
    refine ⟨?_, fun _ y o e => by simp [appA] at e⟩
    simp only [appA, decU]
    rw [show n - i = 0 by omega]; rfl
  | .k :: u, i, m, h, hf, hn, hz => by
    obtain ⟨m', rfl⟩ : ∃ m', m = m' + 1 := ⟨frA u, by simp only [frA] at hf; omega⟩
    obtain ⟨h1, _⟩ := dec_app n u (i + 1) m' (by omega) (by simp only [frA] at hf; omega) hn (fun z hm => hz z (by simp [hm]))
    have e : appA (unT i (m' + 1)) (.k :: u) = (128 + (i : Int)) :: appA (unT (i + 1) m') u := by simp [appA, unT]
    rw [e]
    refine ⟨?_, fun _ y o e => by cases e; exact Int.le_refl _⟩
    simp only [decU]
    rw [if_neg (by omega), show (128 + (i : Int) - 128).toNat = i by omega, Nat.sub_self, h1]
    rfl
  | .p z :: u, i, m, h, hf, hn, hz => by
    obtain ⟨h1, _⟩ := dec_app n u i m h (by simpa [frA] using hf) hn (fun z hm => hz z (by simp [hm]))
    have e : appA (unT i m) (.p z :: u) = z :: appA (unT i m) u := by simp [appA]
    rw [e]
    refine ⟨?_, fun hx => absurd rfl (hx z u)⟩
    simp only [decU]
    rw [if_pos (hz z (by simp)), h1]
  | .d :: u, i, m, h, hf, hn, hz => by
    obtain ⟨m', rfl⟩ : ∃ m', m = m' + 1 := ⟨frA u, by simp only [frA] at hf; omega⟩
    obtain ⟨h1, h2⟩ := dec_app n u (i + 1) m' (by omega) (by simp only [frA] at hf; omega) hn.2 (fun z hm => hz z (by simp [hm]))
    have h3 := h2 hn.1
    have e : appA (unT i (m' + 1)) (.d :: u) = appA (unT (i + 1) m') u := by simp [appA, unT]
    rw [e]
    generalize appA (unT (i + 1) m') u = out at *
    cases out with
    | nil =>
      refine ⟨?_, fun _ y o e => by cases e⟩
      simp only [decU] at h1 ⊢
      rw [show n - i = (n - (i + 1)) + 1 by omega, List.replicate_succ, h1]
    | cons y o =>
      have h4 := h3 y o rfl
      refine ⟨?_, fun _ y' o' e => by cases e; omega⟩
      simp only [decU] at h1 ⊢
      rw [if_neg (by omega)] at h1 ⊢
      rw [show (y - 128).toNat - i = ((y - 128).toNat - (i + 1)) + 1 by omega, List.replicate_succ, List.cons_append, h1]
theorem un_inj {A B : List Dop} {n : Nat} (hA : valB A = true) (cA : Can A) (fA : frD A = n) (hB : valB B = true) (cB : Can B) (fB : frD B = n) (zA : ∀ o ∈ A, ∀ x ∈ o.t, x < 128) (zB : ∀ o ∈ B, ∀ x ∈ o.t, x < 128) : apD (unT 0 n) A = apD (unT 0 n) B ↔ A = B := by
  refine ⟨fun h => ?_, fun h => by rw [h]⟩
  have hz : ∀ {D : List Dop}, (∀ o ∈ D, ∀ x ∈ o.t, x < 128) → ∀ z, Atm.p z ∈ dA D → z < 128 := fun {D} hD z hm => by
    obtain ⟨o, ho, hm⟩ := List.mem_flatMap.1 hm
    unfold opA at hm
    split at hm
    · exact absurd (List.eq_of_mem_replicate hm) (by simp)
    · split at hm
      · obtain ⟨y, hy, e⟩ := List.mem_map.1 hm
        cases e
        exact hD o ho z hy
      · exact absurd (List.eq_of_mem_replicate hm) (by simp)
  rw [apD_is hA (by rw [unT_len]; exact fA), apD_is hB (by rw [unT_len]; exact fB)] at h
  have dA' := (dec_app n (dA A) 0 n (by omega) (by rw [(frA_dA (valB_k hA)).1]; exact fA) (by rw [← can_nf cA]; exact nodp_nf _) (hz zA)).1
  have dB' := (dec_app n (dA B) 0 n (by omega) (by rw [(frA_dA (valB_k hB)).1]; exact fB) (by rw [← can_nf cB]; exact nodp_nf _) (hz zB)).1
  rw [h, dB'] at dA'
  exact (can_inj cB cA dA').symm

end Go.Proofs.Ytfllomlighlejaa
end

section
namespace Go.Proofs.Ytfllomlighlejaa

/-- puts go first -/
def passP (g : List Atm → List Atm) : List Atm → List Atm
  | .p y :: b => .p y :: passP g b
  | b => g b
def byK (g : List Atm → List Atm) : List Atm → List Atm
  | .k :: b => .k :: g b
  | .d :: b => .d :: g b
  | b => g b
def byD (g : List Atm → List Atm) : List Atm → List Atm
  | .k :: b => g b
  | .d :: b => g b
  | b => g b
/-- the second over the first -/
def ovA (f : Bool) : List Atm → List Atm → List Atm
  | [] => putsA
  | .p _ :: a => if f then passP (fun b => .k :: ovA f a b) else fun b => .k :: ovA f a b
  | .k :: a => passP (byK (ovA f a))
  | .d :: a => passP (byD (ovA f a))
theorem ov_put (f : Bool) : ∀ (a : List Atm) (y : Int) (b : List Atm), (f = true ∨ ∀ x r, a ≠ .p x :: r) → ovA f a (.p y :: b) = .p y :: ovA f a b
  | [], _, _, _ => rfl
  | .k :: _, _, _, _ => rfl
  | .d :: _, _, _, _ => rfl
  | .p x :: a, y, b, h => by
    rcases h with rfl | h
    · rfl
    · exact absurd rfl (h x a)
theorem ov_puts (f : Bool) : ∀ (t : List Int) (a b : List Atm), (f = true ∨ ∀ x r, a ≠ .p x :: r) → ovA f a (t.map .p ++ b) = t.map .p ++ ovA f a b
  | [], _, _, _ => rfl
  | y :: t, a, b, h => by
    rw [List.map_cons, List.cons_append, ov_put f a y _ h, ov_puts f t a b h]; rfl
theorem ov_keep (f : Bool) (x : Int) (a b : List Atm) (h : f = false ∨ ∀ y r, b ≠ .p y :: r) : ovA f (.p x :: a) b = .k :: ovA f a b := by
  cases f with
  | false => rfl
  | true =>
    rcases h with h | h
    · cases h
    · cases b with
      | nil => rfl
      | cons z b => cases z with
        | p y => exact absurd rfl (h y b)
        | k => rfl
        | d => rfl
theorem ov_keeps (f : Bool) : ∀ (t : List Int) (a b : List Atm), (f = false ∨ ∀ y r, b ≠ .p y :: r) → ovA f (t.map .p ++ a) b = List.replicate t.length .k ++ ovA f a b
  | [], _, _, _ => rfl
  | x :: t, a, b, h => by
    rw [List.map_cons, List.cons_append, ov_keep f x _ b h, ov_keeps f t a b h, List.length_cons, List.replicate_succ]; rfl
theorem ov_kk (f : Bool) : ∀ (n : Nat) (a b : List Atm), ovA f (List.replicate n .k ++ a) (List.replicate n .k ++ b) = List.replicate n .k ++ ovA f a b
  | 0, _, _ => rfl
  | n + 1, a, b => by rw [List.replicate_succ, List.cons_append, List.cons_append, List.cons_append, ← ov_kk f n a b]; rfl
theorem ov_kd (f : Bool) : ∀ (n : Nat) (a b : List Atm), ovA f (List.replicate n .k ++ a) (List.replicate n .d ++ b) = List.replicate n .d ++ ovA f a b
  | 0, _, _ => rfl
  | n + 1, a, b => by rw [List.replicate_succ, List.replicate_succ, List.cons_append, List.cons_append, List.cons_append, ← ov_kd f n a b]; rfl
theorem ov_dk (f : Bool) : ∀ (n : Nat) (a b : List Atm), ovA f (List.replicate n .d ++ a) (List.replicate n .k ++ b) = ovA f a b
  | 0, _, _ => rfl
  | n + 1, a, b => by rw [List.replicate_succ, List.replicate_succ, List.cons_append, List.cons_append, ← ov_dk f n a b]; rfl
theorem ov_dd (f : Bool) : ∀ (n : Nat) (a b : List Atm), ovA f (List.replicate n .d ++ a) (List.replicate n .d ++ b) = ovA f a b
  | 0, _, _ => rfl
  | n + 1, a, b => by rw [List.replicate_succ, List.cons_append, List.cons_append, ← ov_dd f n a b]; rfl
/-- both orders meet -/
theorem ov_meet : ∀ (n : Nat) (a b : List Atm), a.length + b.length ≤ n → frA a = frA b → nfA (cmpA a (ovA false a b)) = nfA (cmpA b (ovA true b a))
  | _, [], [], _, _ => rfl
  | 0, _ :: _, _, h, _ => by simp at h
  | 0, [], _ :: _, h, _ => by simp at h
  | n + 1, [], .p y :: b, h, hf => by
    have ih := ov_meet n [] b (by simp at h ⊢; omega) (by simpa [frA] using hf)
    show Atm.p y :: nfA (cmpA [] (ovA false [] b)) = .p y :: nfA (cmpA b (ovA true b []))
    rw [ih]
  | n + 1, [], .k :: b, h, hf => by simp [frA] at hf
  | n + 1, [], .d :: b, h, hf => by simp [frA] at hf
  | n + 1, .p x :: a, b, h, hf => by
    have ih := ov_meet n a b (by simp at h ⊢; omega) (by simpa [frA] using hf)
    rw [ov_put true b x a (.inl rfl), cmp_put]
    show Atm.p x :: nfA (cmpA a (ovA false a b)) = _
    rw [ih]
  | n + 1, .k :: a, [], h, hf => by simp [frA] at hf
  | n + 1, .k :: a, .p y :: b, h, hf => by
    have ih := ov_meet n (.k :: a) b (by simp at h ⊢; omega) (by simpa [frA] using hf)
    rw [ov_put false (.k :: a) y b (.inr fun _ _ e => by cases e), cmp_put, ih]
    rfl
  | n + 1, .k :: a, .k :: b, h, hf => by
    have ih := ov_meet n a b (by simp at h ⊢; omega) (by simpa [frA] using hf)
    show Atm.k :: nfA (cmpA a (ovA false a b)) = .k :: nfA (cmpA b (ovA true b a))
    rw [ih]
  | n + 1, .k :: a, .d :: b, h, hf => by
    have ih := ov_meet n a b (by simp at h ⊢; omega) (by simpa [frA] using hf)
    show insD (nfA (cmpA a (ovA false a b))) = insD (nfA (cmpA b (ovA true b a)))
    rw [ih]
  | n + 1, .d :: a, [], h, hf => by simp [frA] at hf
  | n + 1, .d :: a, .p y :: b, h, hf => by
    have ih := ov_meet n (.d :: a) b (by simp at h ⊢; omega) (by simpa [frA] using hf)
    rw [ov_put false (.d :: a) y b (.inr fun _ _ e => by cases e), cmp_put, ih]
    rfl
  | n + 1, .d :: a, .k :: b, h, hf => by
    have ih := ov_meet n a b (by simp at h ⊢; omega) (by simpa [frA] using hf)
    show insD (nfA (cmpA a (ovA false a b))) = insD (nfA (cmpA b (ovA true b a)))
    rw [ih]
  | n + 1, .d :: a, .d :: b, h, hf => by
    have ih := ov_meet n a b (by simp at h ⊢; omega) (by simpa [frA] using hf)
    show insD (nfA (cmpA a (ovA false a b))) = insD (nfA (cmpA b (ovA true b a)))
    rw [ih]
/-- its sizes -/
theorem puts_fr : ∀ b : List Atm, frA b = 0 → frA (putsA b) = 0 ∧ toA (putsA b) = toA b
  | [], _ => ⟨rfl, rfl⟩
  | .p y :: b, h => by
    have := puts_fr b (by simpa [frA] using h)
    simp only [putsA, frA, toA]
    exact ⟨this.1, by rw [this.2]⟩
  | .k :: b, h => by simp [frA] at h
  | .d :: b, h => by simp [frA] at h
theorem ov_fr (f : Bool) : ∀ (n : Nat) (a b : List Atm), a.length + b.length ≤ n → frA a = frA b → frA (ovA f a b) = toA a
  | _, [], b, _, hf => (puts_fr b hf.symm).1
  | 0, _ :: _, _, h, _ => by simp at h
  | n + 1, .p x :: a, b, h, hf => by
    cases f with
    | false =>
      have ih := ov_fr false n a b (by simp at h ⊢; omega) (by simpa [frA] using hf)
      show frA (.k :: ovA false a b) = _
      simp only [frA, toA, ih]
    | true =>
      cases b with
      | nil =>
        have ih := ov_fr true n a [] (by simp at h ⊢; omega) (by simpa [frA] using hf)
        show frA (.k :: ovA true a []) = _
        simp only [frA, toA, ih]
      | cons z b => cases z with
        | p y =>
          have ih := ov_fr true n (.p x :: a) b (by simp at h ⊢; omega) (by simpa [frA] using hf)
          rw [ov_put true _ y b (.inl rfl)]
          exact ih
        | k =>
          have ih := ov_fr true n a (.k :: b) (by simp at h ⊢; omega) (by simpa [frA] using hf)
          show frA (.k :: ovA true a (.k :: b)) = _
          simp only [frA, toA, ih]
        | d =>
          have ih := ov_fr true n a (.d :: b) (by simp at h ⊢; omega) (by simpa [frA] using hf)
          show frA (.k :: ovA true a (.d :: b)) = _
          simp only [frA, toA, ih]
  | n + 1, .k :: a, [], h, hf => by simp [frA] at hf
  | n + 1, .k :: a, .p y :: b, h, hf => by
    have ih := ov_fr f n (.k :: a) b (by simp at h ⊢; omega) (by simpa [frA] using hf)
    rw [ov_put f _ y b (.inr fun _ _ e => by cases e)]
    exact ih
  | n + 1, .k :: a, .k :: b, h, hf => by
    have ih := ov_fr f n a b (by simp at h ⊢; omega) (by simpa [frA] using hf)
    show frA (.k :: ovA f a b) = _
    simp only [frA, toA, ih]
  | n + 1, .k :: a, .d :: b, h, hf => by
    have ih := ov_fr f n a b (by simp at h ⊢; omega) (by simpa [frA] using hf)
    show frA (.d :: ovA f a b) = _
    simp only [frA, toA, ih]
  | n + 1, .d :: a, [], h, hf => by simp [frA] at hf
  | n + 1, .d :: a, .p y :: b, h, hf => by
    have ih := ov_fr f n (.d :: a) b (by simp at h ⊢; omega) (by simpa [frA] using hf)
    rw [ov_put f _ y b (.inr fun _ _ e => by cases e)]
    exact ih
  | n + 1, .d :: a, .k :: b, h, hf => by
    have ih := ov_fr f n a b (by simp at h ⊢; omega) (by simpa [frA] using hf)
    show frA (ovA f a b) = _
    simp only [toA, ih]
  | n + 1, .d :: a, .d :: b, h, hf => by
    have ih := ov_fr f n a b (by simp at h ⊢; omega) (by simpa [frA] using hf)
    show frA (ovA f a b) = _
    simp only [toA, ih]
/-- what keeps all -/
theorem ov_id (f : Bool) : ∀ (b : List Atm), ovA f (List.replicate (frA b) .k) b = b
  | [] => rfl
  | .p y :: b => by
    rw [show frA (.p y :: b) = frA b from rfl, ov_put f _ y b (.inr fun x r e => by cases h : frA b with | zero => rw [h] at e; cases e | succ m => rw [h, List.replicate_succ] at e; cases e), ov_id f b]
  | .k :: b => by
    rw [show frA (.k :: b) = frA b + 1 by simp [frA]; try omega, List.replicate_succ]
    show Atm.k :: ovA f (List.replicate (frA b) .k) b = _
    rw [ov_id f b]
  | .d :: b => by
    rw [show frA (.d :: b) = frA b + 1 by simp [frA]; try omega, List.replicate_succ]
    show Atm.d :: ovA f (List.replicate (frA b) .k) b = _
    rw [ov_id f b]
theorem ov_all (f : Bool) : ∀ (a : List Atm), ovA f a (List.replicate (frA a) .k) = List.replicate (toA a) .k
  | [] => rfl
  | .p x :: a => by
    rw [ov_keep f x a _ (.inr fun y r e => by cases h : frA a with | zero => rw [show frA (.p x :: a) = frA a from rfl, h] at e; cases e | succ m => rw [show frA (.p x :: a) = frA a from rfl, h, List.replicate_succ] at e; cases e)]
    rw [show frA (.p x :: a) = frA a from rfl, ov_all f a, show toA (.p x :: a) = toA a + 1 by simp [toA]; try omega, List.replicate_succ]
  | .k :: a => by
    rw [show frA (.k :: a) = frA a + 1 by simp [frA]; try omega, List.replicate_succ, show toA (.k :: a) = toA a + 1 by simp [toA]; try omega, List.replicate_succ]
    show Atm.k :: ovA f a (List.replicate (frA a) .k) = _
    rw [ov_all f a]
  | .d :: a => by
    rw [show frA (.d :: a) = frA a + 1 by simp [frA]; try omega, List.replicate_succ]
    show ovA f a (List.replicate (frA a) .k) = _
    rw [ov_all f a]; rfl

end Go.Proofs.Ytfllomlighlejaa
end
