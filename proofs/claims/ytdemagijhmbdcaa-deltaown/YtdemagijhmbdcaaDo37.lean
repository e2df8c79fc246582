/- Layer 13, plain: a delta's changes as operations; what bytes that are all unlike tell of a delta. · Layer 13: DeltaBack's walk (written by wip/tools/dsl.py). · Layer 13: DeltaSame's walk (written by wip/tools/dsn.py). · Rows of one's own that are grown: what lay there stays, also under the old value. -/
import Derived.Test.YtdemagijhmbdcaaDo36
import Derived.Test.YtdemagijhmbdcaaDo29
import Derived.Deep.Upon
import Derived.Laws.OwnMore
import Derived.Test.YtdemagijhmbdcaaProg
import Derived.WalkKit
import Derived.Below
import Derived.Maps.AppendAt
import Derived.Carry
import Derived.ChangeAt

section
namespace Go.Proofs.Ytdemagijhmbdcaa

theorem lstC_sn : ∀ (p : Int) (cs : List Dop) (c : Dop), lstC p (cs ++ [c]) = c.n
  | _, [], _ => rfl
  | _, x :: r, c => lstC_sn x.n r c
theorem opC_sn : ∀ (p : Int) (cs : List Dop) (c : Dop), opC p (cs ++ [c]) = opC p cs ++ [⟨1, c.k - lstC p cs, []⟩, ⟨2, 0, c.t⟩, ⟨3, c.n - c.k, []⟩]
  | _, [], _ => rfl
  | p, x :: r, c => by simp only [List.cons_append, opC, opC_sn x.n r c, lstC]
/-- changes that rise, a byte between each two -/
def GapC : Int → List Dop → Prop
  | _, [] => True
  | p, c :: r => p < c.k ∧ c.k ≤ c.n ∧ GapC c.n r
theorem gap_sn : ∀ {p : Int} {cs : List Dop} {c : Dop}, GapC p cs → lstC p cs < c.k → c.k ≤ c.n → GapC p (cs ++ [c])
  | _, [], _, _, h1, h2 => ⟨h1, h2, trivial⟩
  | _, _ :: _, _, h, h1, h2 => ⟨h.1, h.2.1, gap_sn h.2.2 h1 h2⟩
theorem gap_init : ∀ {p : Int} {cs : List Dop} {c : Dop}, GapC p (cs ++ [c]) → GapC p cs ∧ lstC p cs < c.k ∧ c.k ≤ c.n
  | _, [], _, h => ⟨trivial, h.1, h.2.1⟩
  | _, x :: r, c, h => by
    obtain ⟨h1, h2, h3⟩ := gap_init (cs := r) h.2.2
    exact ⟨⟨h.1, h.2.1, h1⟩, h2, h3⟩
theorem gap_le : ∀ {p : Int} {cs : List Dop}, GapC p cs → p ≤ lstC p cs ∧ ∀ c ∈ cs, p < c.k ∧ c.k ≤ c.n ∧ c.n ≤ lstC p cs
  | _, [], _ => ⟨Int.le_refl _, by simp⟩
  | p, x :: r, h => by
    obtain ⟨h1, h2⟩ := gap_le (cs := r) h.2.2
    have a1 := h.1
    have a2 := h.2.1
    simp only [lstC]
    refine ⟨by omega, fun c hc => ?_⟩
    rcases List.mem_cons.1 hc with rfl | hc
    · exact ⟨a1, a2, h1⟩
    · obtain ⟨b1, b2, b3⟩ := h2 c hc
      exact ⟨by omega, b2, b3⟩
theorem gap_next : ∀ {p : Int} {cs : List Dop}, GapC p cs → ∀ k, k + 1 < cs.length → (cs.getD k opZ).n < (cs.getD (k + 1) opZ).k
  | _, [], _, k, hk => by simp at hk
  | _, [_], _, k, hk => by simp at hk
  | _, x :: y :: r, h, 0, _ => h.2.2.1
  | _, x :: y :: r, h, k + 1, hk => by
    have := gap_next (cs := y :: r) h.2.2 k (by simpa using hk)
    simpa using this
theorem gap_len : ∀ {p : Int} {cs : List Dop}, GapC p cs → (cs.length : Int) ≤ lstC p cs - p
  | _, [], _ => by simp [lstC]
  | p, x :: r, h => by
    have h1 := gap_len (cs := r) h.2.2
    have a1 := h.1
    have a2 := h.2.1
    simp only [lstC, List.length_cons]
    omega
theorem opC_k : ∀ (p : Int) (cs : List Dop), ∀ o ∈ opC p cs, o.k = 1 ∨ o.k = 2 ∨ o.k = 3
  | _, [], o, ho => by simp [opC] at ho
  | p, c :: r, o, ho => by
    simp only [opC, List.mem_cons] at ho
    rcases ho with rfl | rfl | rfl | ho
    · exact .inl rfl
    · exact .inr (.inl rfl)
    · exact .inr (.inr rfl)
    · exact opC_k c.n r o ho
theorem opsC_k (n : Int) (cs : List Dop) : ∀ o ∈ opsC n cs, o.k = 1 ∨ o.k = 2 ∨ o.k = 3 := fun o ho => by
  unfold opsC at ho
  rcases List.mem_append.1 ho with ho | ho
  · exact opC_k 0 cs o ho
  · obtain rfl : o = ⟨1, n - lstC 0 cs, []⟩ := by simpa using ho
    exact .inl rfl
theorem lstC_two (p q : Int) {cs : List Dop} (h : cs ≠ []) : lstC p cs = lstC q cs := by cases cs with | nil => exact absurd rfl h | cons => rfl
/-- the changes of a beginning of a canonical delta -/
structure ChS (p : List Dop) (m : Nat) (cs : List Dop) : Prop where
  f : m = frD p
  g : GapC (-1) cs
  l : 0 ≤ lstC 0 cs ∧ lstC 0 cs ≤ m
  a : dA (opC 0 cs) ++ List.replicate (m - (lstC 0 cs).toNat) .k = dA p
  o : ∀ x, p.getLast? = some x → (cs.getLast?.map Dop.n = some (m : Int) ↔ x.k ≠ 1)
  z : p = [] → cs = []
  q : ∀ x, p.getLast? = some x → x.k = 2 → ∃ e t, cs = e ++ [⟨m, m, t⟩]
  k : ∀ x ∈ p, x.k = 1 ∨ x.k = 2 ∨ x.k = 3
theorem dA_one (o : Dop) : dA [o] = opA o := by simp [dA]
theorem last_lst {cs : List Dop} {x : Dop} (h : cs.getLast? = some x) (p : Int) : lstC p cs = x.n := by
  obtain ⟨e, rfl⟩ := List.getLast?_eq_some_iff.1 h
  exact lstC_sn p e x
theorem rep_k (a b : Nat) (u : List Atm) : List.replicate a Atm.k ++ (List.replicate b .k ++ u) = List.replicate (a + b) .k ++ u := by rw [← List.append_assoc, List.replicate_append_replicate]
/-- a new change at the end of what was -/
theorem ChS.new {p : List Dop} {m : Nat} {cs : List Dop} (h : ChS p m cs) (hg : cs.getLast?.map Dop.n ≠ some (m : Int)) (n : Nat) (t : List Int) :
    GapC (-1) (cs ++ [⟨m, ((m + n : Nat) : Int), t⟩]) ∧ dA (opC 0 (cs ++ [⟨m, ((m + n : Nat) : Int), t⟩])) = dA p ++ t.map .p ++ List.replicate n .d := by
  have hl := h.l
  have hlt : lstC (-1) cs < m := by
    cases hc : cs.getLast? with
    | none =>
      have : cs = [] := List.getLast?_eq_none_iff.1 hc
      subst this
      simp only [lstC]; omega
    | some x =>
      have h1 := last_lst hc (-1)
      have h2 := last_lst hc 0
      rw [hc] at hg
      simp at hg
      omega
  refine ⟨gap_sn h.g hlt (by dsimp only; omega), ?_⟩
  rw [opC_sn, dA_app, ← h.a]
  simp only [dA, List.flatMap_cons, List.flatMap_nil, List.append_nil]
  have e1 : opA (⟨1, (m : Int) - lstC 0 cs, []⟩ : Dop) = List.replicate (m - (lstC 0 cs).toNat) .k := by
    simp only [opA, if_true]; congr 1; omega
  have e2 : opA (⟨2, 0, t⟩ : Dop) = t.map .p := by simp [opA]
  have e3 : opA (⟨3, ((m + n : Nat) : Int) - (m : Int), []⟩ : Dop) = List.replicate n .d := by
    simp only [opA, show ¬ ((3 : Int) = 1) by decide, show ¬ ((3 : Int) = 2) by decide, if_false]; congr 1; omega
  rw [e1, e2, e3]
  simp [List.append_assoc]
theorem ChS.step {p : List Dop} {m : Nat} {cs : List Dop} {o : Dop} (h : ChS p m cs) (hp : Pln o) (hok : ∀ x, p.getLast? = some x → okN x.k o.k) : ChS (p ++ [o]) (stL (m, cs) o).1 (stL (m, cs) o).2 := by
  have hl := h.l
  have hkk : ∀ x ∈ p ++ [o], x.k = 1 ∨ x.k = 2 ∨ x.k = 3 := fun x hx => by
    rcases List.mem_append.1 hx with hx | hx
    · exact h.k x hx
    · obtain rfl : x = o := by simpa using hx
      rcases hp with ⟨h1 | h1, _⟩ | ⟨h1, _⟩ <;> omega
  have hnot : (∀ x, p.getLast? = some x → x.k = 1) → cs.getLast?.map Dop.n ≠ some (m : Int) := fun hx => by
    cases hc : p.getLast? with
    | none =>
      have := h.z (List.getLast?_eq_none_iff.1 hc)
      subst this; simp
    | some x => exact fun e => (h.o x hc).1 e (hx x hc)
  rcases hp with ⟨hk | hk, hn, ht⟩ | ⟨hk, hn, ht⟩
  · have es : stL (m, cs) o = (m + o.n.toNat, cs) := by simp [stL, hk]
    have eo : opA o = List.replicate o.n.toNat .k := by simp [opA, hk]
    rw [es]
    refine ⟨by rw [frD_snoc, ← h.f]; simp [frN, hk], h.g, ⟨hl.1, by dsimp only; omega⟩, ?_, fun x hx => ?_, fun e => by simp at e, fun x hx h2 => ?_, hkk⟩
    · dsimp only
      rw [dA_app, dA_one, ← h.a, eo, List.append_assoc, List.replicate_append_replicate]
      congr 2; omega
    · obtain rfl : o = x := by simpa using hx
      refine ⟨fun e => ?_, fun e => absurd hk e⟩
      cases hc : cs.getLast? with
      | none => rw [hc] at e; simp at e
      | some y =>
        rw [hc] at e
        have := last_lst hc 0
        simp at e
        omega
    · obtain rfl : o = x := by simpa using hx
      omega
  · have eo : opA o = List.replicate o.n.toNat .d := by simp [opA, hk]
    have hfr : frN o = o.n.toNat := by simp [frN, hk]
    obtain ⟨e, x, hH, hxn, hG, hA⟩ : ∃ e x, herL m cs = e ++ [x] ∧ x.n = (m : Int) ∧ GapC (-1) (e ++ [⟨x.k, x.n + o.n.toNat, x.t⟩]) ∧ dA (opC 0 (e ++ [⟨x.k, x.n + o.n.toNat, x.t⟩])) = dA p ++ List.replicate o.n.toNat .d := by
      by_cases h2 : ∃ y, p.getLast? = some y ∧ y.k = 2
      · obtain ⟨y, hy, hy2⟩ := h2
        obtain ⟨e, t, hcs⟩ := h.q y hy hy2
        have hgi := gap_init (hcs ▸ h.g)
        have ha := h.a
        refine ⟨e, ⟨m, m, t⟩, by unfold herL; rw [hcs]; simp, rfl, gap_sn hgi.1 hgi.2.1 (by dsimp only; omega), ?_⟩
        rw [hcs, lstC_sn, opC_sn] at ha
        dsimp only at ha ⊢
        rw [opC_sn]
        dsimp only
        rw [← ha]
        simp only [dA_app, Int.toNat_natCast, Nat.sub_self, List.replicate_zero, List.append_nil]
        simp only [dA, List.flatMap_cons, List.flatMap_nil, List.append_nil, List.append_assoc]
        congr 3
        rw [show opA (⟨3, (m : Int) - (m : Int), []⟩ : Dop) = [] by simp [opA], List.nil_append]
        simp only [opA, show ¬ ((3 : Int) = 1) by decide, show ¬ ((3 : Int) = 2) by decide, if_false]
        congr 1; omega
      · have hx1 : ∀ x, p.getLast? = some x → x.k = 1 := fun x hx => by
          have h3 := hok x hx
          rw [hk] at h3
          have h4 : x.k ≠ 2 := fun h4 => h2 ⟨x, hx, h4⟩
          have h5 := h3.1
          have h6 := h.k x (List.mem_of_getLast? hx)
          omega
        have hg := hnot hx1
        obtain ⟨n1, n2⟩ := h.new hg o.n.toNat []
        refine ⟨cs, ⟨m, m, []⟩, by unfold herL; rw [if_neg hg], rfl, by dsimp only; rw [← Int.natCast_add]; exact n1, by dsimp only; rw [← Int.natCast_add, n2]; simp⟩
    have es : stL (m, cs) o = (m + o.n.toNat, e ++ [⟨x.k, x.n + o.n.toNat, x.t⟩]) := by
      simp only [stL, hk, show ¬ ((3 : Int) = 1) by decide, show ¬ ((3 : Int) = 2) by decide, if_false]
      rw [hH, upL_snoc]
    rw [es]
    refine ⟨by rw [frD_snoc, ← h.f, hfr], hG, ⟨by rw [lstC_sn]; dsimp only; omega, by rw [lstC_sn]; dsimp only; omega⟩, ?_, fun y hy => ?_, fun e => by simp at e, fun y hy h2 => ?_, hkk⟩
    · rw [lstC_sn, hA, dA_app, dA_one, eo]
      dsimp only
      rw [show m + o.n.toNat - (x.n + (o.n.toNat : Int)).toNat = 0 by omega]
      simp
    · obtain rfl : o = y := by simpa using hy
      simp [hk, hxn]
    · obtain rfl : o = y := by simpa using hy
      omega
  · have hx1 : ∀ x, p.getLast? = some x → x.k = 1 := fun x hx => by
      have h3 := hok x hx
      rw [hk] at h3
      have h5 := h3.1
      have h6 := h.k x (List.mem_of_getLast? hx)
      have h7 : x.k ≠ 3 := fun h7 => h3.2 ⟨h7, rfl⟩
      omega
    have hg := hnot hx1
    obtain ⟨n1, n2⟩ := h.new hg 0 o.t
    rw [Nat.add_zero] at n1 n2
    have es : stL (m, cs) o = (m, cs ++ [⟨m, m, o.t⟩]) := by
      simp only [stL, hk, show ¬ ((2 : Int) = 1) by decide, if_false, if_true]
      unfold herL
      rw [if_neg hg, upL_snoc]
    rw [es]
    refine ⟨by rw [frD_snoc, ← h.f]; simp [frN, hk], n1, ⟨by rw [lstC_sn]; dsimp only; omega, by rw [lstC_sn]; dsimp only; omega⟩, ?_, fun y hy => ?_, fun e => by simp at e, fun y hy h2 => ⟨_, _, rfl⟩, hkk⟩
    · rw [lstC_sn, n2, dA_app, dA_one]
      simp [opA, hk]
    · obtain rfl : o = y := by simpa using hy
      simp [hk]

theorem chs_fold : ∀ (d : List Dop) {p : List Dop} {m : Nat} {cs : List Dop}, ChS p m cs → (∀ o ∈ d, Pln o) → Chn (p ++ d) → ChS (p ++ d) (d.foldl stL (m, cs)).1 (d.foldl stL (m, cs)).2
  | [], p, m, cs, h, _, _ => by simpa using h
  | o :: d, p, m, cs, h, hp, hc => by
    have h1 := h.step (hp o (by simp)) (fun x hx => chn_mid hc hx)
    have h2 := chs_fold d h1 (fun q hq => hp q (by simp [hq])) (by simpa using hc)
    simpa using h2
theorem chs_run {d : List Dop} (h : Can d) : ChS d (runL d).1 (runL d).2 := by
  have h0 : ChS [] 0 [] := ⟨rfl, trivial, by simp [lstC], by simp [opC, lstC, dA], fun x hx => by simp at hx, fun _ => rfl, fun x hx => by simp at hx, fun x hx => by simp at hx⟩
  have := chs_fold d h0 h.p (by simpa using h.c)
  simpa [runL] using this
theorem val_can {d : List Dop} (hc : canA (dA d) = d) : Can d := hc ▸ canA_can _
/-- Of of a delta's changes is the delta -/
theorem of_changes {d : List Dop} {n : Nat} (hv : valB d = true) (h : Can d) (hf : frD d = n) : chD d = ((runL d).2, 0) ∧ ErrC (n : Int) (runL d).2 0 ∧ ofD (n : Int) (runL d).2 0 = (d, 0) ∧ (runL d).2.length ≤ n + 1 := by
  have hs := chs_run h
  have hch : chD d = ((runL d).2, 0) := by unfold chD; rw [hv]; rfl
  have hnn := valB_nn hv
  have hm : (runL d).1 = n := hs.f.trans hf
  generalize (runL d).2 = cs at *
  generalize (runL d).1 = m at *
  subst hm
  have hl := hs.l
  obtain ⟨g1, g2⟩ := gap_le hs.g
  have hlast : cs ≠ [] → lstC (-1) cs = lstC 0 cs := fun h => lstC_two _ _ h
  have hbad : ∀ k, k < cs.length → ¬ badC (m : Int) (cs.getD k opZ) := fun k hk hb => by
    obtain ⟨b1, b2, b3⟩ := g2 _ (getD_memD hk)
    have := hlast (fun e => by rw [e] at hk; simp at hk)
    unfold badC at hb
    omega
  have hE : ErrC (m : Int) cs 0 := by
    obtain ⟨E, hE⟩ := errC_is (m : Int) cs
    have hz := hE.d (by omega) hbad (fun k hk hc => by
      have := gap_next hs.g k hk
      unfold crsC at hc
      omega)
    exact hz ▸ hE
  have ha : dA (opsC (m : Int) cs) = dA d := by
    rw [← hs.a]
    unfold opsC
    rw [dA_app, dA_one]
    congr 1
    simp only [opA, if_true]
    congr 1; omega
  have hk : ∀ o ∈ opsC (m : Int) cs, o.k = 1 ∨ o.k = 2 ∨ o.k = 3 := opsC_k _ _
  have ht : toD (opsC (m : Int) cs) = toD d := by rw [← (frA_dA hk).2, ha, (frA_dA (valB_k hv)).2]
  refine ⟨hch, hE, ?_, ?_⟩
  · unfold ofD
    rw [if_pos rfl, if_neg (by omega), ha, canA_id h]
  · cases cs with
    | nil => simp
    | cons x r =>
      have h1 := gap_len hs.g
      have h2 := hlast (by simp)
      omega

/-- no put stands behind a drop -/
def NoDP : List Atm → Prop
  | [] => True
  | .d :: u => (∀ x r, u ≠ .p x :: r) ∧ NoDP u
  | .k :: u => NoDP u
  | .p _ :: u => NoDP u
theorem nodp_ins : ∀ (u : List Atm), NoDP u → NoDP (insD u)
  | [], _ => ⟨(fun _ _ e => by cases e), trivial⟩
  | .k :: _, h => ⟨(fun _ _ e => by cases e), h⟩
  | .d :: _, h => ⟨(fun _ _ e => by cases e), h⟩
  | .p _ :: u, h => nodp_ins u h
theorem nodp_nf : ∀ u : List Atm, NoDP (nfA u)
  | [] => trivial
  | .k :: u => nodp_nf u
  | .p _ :: u => nodp_nf u
  | .d :: u => nodp_ins _ (nodp_nf u)
/-- bytes that are all unlike -/
def unT : Nat → Nat → List Int
  | _, 0 => []
  | i, m + 1 => (128 + (i : Int)) :: unT (i + 1) m
theorem unT_len : ∀ (m i : Nat), (unT i m).length = m
  | 0, _ => rfl
  | m + 1, i => by simp [unT, unT_len m]
theorem unT_by : ∀ (m i : Nat), i + m ≤ 120 → ∀ x ∈ unT i m, 0 ≤ x ∧ x ≤ 255
  | 0, _, _, x, hx => by simp [unT] at hx
  | m + 1, i, h, x, hx => by
    simp only [unT, List.mem_cons] at hx
    rcases hx with rfl | hx
    · omega
    · exact unT_by m (i + 1) (by omega) x hx
theorem unT_sn : ∀ (m i : Nat), unT i (m + 1) = unT i m ++ [128 + ((i + m : Nat) : Int)]
  | 0, i => by simp [unT]
  | m + 1, i => by
    rw [unT, unT_sn m (i + 1), unT]
    simp only [List.cons_append, List.cons.injEq, true_and]
    congr 4; omega
def decU (n : Nat) : List Int → Nat → List Atm
  | [], i => List.replicate (n - i) .d
  | x :: o, i => if x < 128 then .p x :: decU n o i else List.replicate ((x - 128).toNat - i) .d ++ .k :: decU n o ((x - 128).toNat + 1)
theorem dec_app (n : Nat) : ∀ (u : List Atm) (i m : Nat), i + m = n → frA u = m → NoDP u → (∀ z, Atm.p z ∈ u → z < 128) → decU n (appA (unT i m) u) i = u ∧ ((∀ x r, u ≠ .p x :: r) → ∀ y o, appA (unT i m) u = y :: o → 128 + (i : Int) ≤ y)
  | [], i, m, h, hf, _, _ => by
    have : m = 0 := by simpa [frA] using hf.symm
    subst this
    refine ⟨?_, fun _ y o e => by simp [appA] at e⟩
    simp only [appA, decU]
    rw [show n - i = 0 by omega]; rfl
  | .k :: u, i, m, h, hf, hn, hz => by
    obtain ⟨m', rfl⟩ : ∃ m', m = m' + 1 := ⟨frA u, by simp only [frA] at hf; omega⟩
    obtain ⟨h1, _⟩ := dec_app n u (i + 1) m' (by omega) (by simp only [frA] at hf; omega) hn (fun z hm => hz z (by simp [hm]))
    have e : appA (unT i (m' + 1)) (.k :: u) = (128 + (i : Int)) :: appA (unT (i + 1) m') u := by simp [appA, unT]
    rw [e]
    refine ⟨?_, fun _ y o e => by cases e; exact Int.le_refl _⟩
    simp only [decU]
    rw [if_neg (by omega), show (128 + (i : Int) - 128).toNat = i by omega, Nat.sub_self, h1]
    rfl
  | .p z :: u, i, m, h, hf, hn, hz => by
    obtain ⟨h1, _⟩ := dec_app n u i m h (by simpa [frA] using hf) hn (fun z hm => hz z (by simp [hm]))
    have e : appA (unT i m) (.p z :: u) = z :: appA (unT i m) u := by simp [appA]
    rw [e]
    refine ⟨?_, fun hx => absurd rfl (hx z u)⟩
    simp only [decU]
    rw [if_pos (hz z (by simp)), h1]
  | .d :: u, i, m, h, hf, hn, hz => by
    obtain ⟨m', rfl⟩ : ∃ m', m = m' + 1 := ⟨frA u, by simp only [frA] at hf; omega⟩
    obtain ⟨h1, h2⟩ := dec_app n u (i + 1) m' (by omega) (by simp only [frA] at hf; omega) hn.2 (fun z hm => hz z (by simp [hm]))
    have h3 := h2 hn.1
    have e : appA (unT i (m' + 1)) (.d :: u) = appA (unT (i + 1) m') u := by simp [appA, unT]
    rw [e]
    generalize appA (unT (i + 1) m') u = out at *
    cases out with
    | nil =>
      refine ⟨?_, fun _ y o e => by cases e⟩
      simp only [decU] at h1 ⊢
      rw [show n - i = (n - (i + 1)) + 1 by omega, List.replicate_succ, h1]
    | cons y o =>
      have h4 := h3 y o rfl
      refine ⟨?_, fun _ y' o' e => by cases e; omega⟩
      simp only [decU] at h1 ⊢
      rw [if_neg (by omega)] at h1 ⊢
      rw [show (y - 128).toNat - i = ((y - 128).toNat - (i + 1)) + 1 by omega, List.replicate_succ, List.cons_append, h1]
theorem un_inj {A B : List Dop} {n : Nat} (hA : valB A = true) (cA : Can A) (fA : frD A = n) (hB : valB B = true) (cB : Can B) (fB : frD B = n) (zA : ∀ o ∈ A, ∀ x ∈ o.t, x < 128) (zB : ∀ o ∈ B, ∀ x ∈ o.t, x < 128) : apD (unT 0 n) A = apD (unT 0 n) B ↔ A = B := by
  refine ⟨fun h => ?_, fun h => by rw [h]⟩
  have hz : ∀ {D : List Dop}, (∀ o ∈ D, ∀ x ∈ o.t, x < 128) → ∀ z, Atm.p z ∈ dA D → z < 128 := fun {D} hD z hm => by
    obtain ⟨o, ho, hm⟩ := List.mem_flatMap.1 hm
    unfold opA at hm
    split at hm
    · exact absurd (List.eq_of_mem_replicate hm) (by simp)
    · split at hm
      · obtain ⟨y, hy, e⟩ := List.mem_map.1 hm
        cases e
        exact hD o ho z hy
      · exact absurd (List.eq_of_mem_replicate hm) (by simp)
  rw [apD_is hA (by rw [unT_len]; exact fA), apD_is hB (by rw [unT_len]; exact fB)] at h
  have dA' := (dec_app n (dA A) 0 n (by omega) (by rw [(frA_dA (valB_k hA)).1]; exact fA) (by rw [← can_nf cA]; exact nodp_nf _) (hz zA)).1
  have dB' := (dec_app n (dA B) 0 n (by omega) (by rw [(frA_dA (valB_k hB)).1]; exact fB) (by rw [← can_nf cB]; exact nodp_nf _) (hz zB)).1
  rw [h, dB'] at dA'
  exact (can_inj cB cA dA').symm

end Go.Proofs.Ytdemagijhmbdcaa
end

section
namespace Go.Proofs.Ytdemagijhmbdcaa
open Go.ChangeShapes Go.WideShapes Go.ChangeAt Go.RowKit
attribute [local go_sem] Oper.semAt_some

/-- two more operations -/
theorem push_op2 (W : World) (B n : Nat) (v : Value) (xs : List Value) (a b : Int) (s : ByteArray) (a' b' : Int) (s' : ByteArray) (ty : TypeId) (h : W.ownsRow B 34 3 v n xs) (hn : n ≤ 1099511627776) (hB : B ≤ W.heap.size) :
    ∃ g k W', (Builtin.append_ #[24, 24] ty #[v, .slice (some ⟨W.heap.size, 0, none⟩) 2 2]).run Try.prog (W.alloc (.cells #[.int .i64 a, .int .i64 b, .string s, .int .i64 a', .int .i64 b', .string s'] 34)) = .ok (.slice (some ⟨g, 0, none⟩) (n + 2) k) W' ∧
      W'.ownsRow B 34 3 (.slice (some ⟨g, 0, none⟩) (n + 2) k) (n + 2) (xs ++ [.int .i64 a, .int .i64 b, .string s, .int .i64 a', .int .i64 b', .string s']) ∧ W.grownBy W' v.ownBlock ∧ Below B W W' := by
  obtain ⟨i, hi, hz, hs, hby⟩ := info_op
  have hr := World.ownsRow.alloc h (.cells #[.int .i64 a, .int .i64 b, .string s, .int .i64 a', .int .i64 b', .string s'] 34)
  have kN := Cls.new W 34 #[.int .i64 a, .int .i64 b, .string s, .int .i64 a', .int .i64 b', .string s']
  obtain ⟨g, k, W', hrun, ho, hg, _, _⟩ := run_append_lies (P := Try.prog) (W.alloc (.cells #[.int .i64 a, .int .i64 b, .string s, .int .i64 a', .int .i64 b', .string s'] 34)) 24 ty B 34 i (.agg #[.int .i64 0, .int .i64 0, .string ⟨#[]⟩]) 3 32 Try.underlying24 hi hz hs hby rfl (by decide)
    v n xs hr ⟨W.heap.size, 0, none⟩ 2 2 [.int .i64 a, .int .i64 b, .string s, .int .i64 a', .int .i64 b', .string s'] rfl
    (fun j u hj => by
      rw [Addr.add_lit, Nat.zero_add]
      exact (kN.cell j).trans (by simpa using hj))
    (fun u hu => by simp at hu; rcases hu with rfl | rfl | rfl | rfl | rfl | rfl <;> rfl) (by decide) (by unfold maxLen; omega) (by omega) (by simp; omega) _ rfl
  have ha := World.grownBy_alloc W (.cells #[.int .i64 a, .int .i64 b, .string s, .int .i64 a', .int .i64 b', .string s'] 34) none
  refine ⟨g, k, W', hrun, ho, ⟨hg.os.trans ha.os, hg.tape.trans ha.tape, hg.output.trans ha.output, Nat.le_trans ha.size hg.size, fun k hk hne => ?_⟩, ((Below.refl B W).alloc hB _).grown hg (by simp; omega) (fun k hk => (hr.lt k hk).1)⟩
  exact (hg.block k (Nat.lt_of_lt_of_le hk ha.size) hne).trans (ha.block k hk (by simp))
theorem bk_push2 {w X : World} {v : Value} {L : List Dop} (ho : X.ownsRow w.heap.size 34 3 v L.length (opsV L)) (hd : Below w.heap.size w X) (hl : L.length ≤ 1000000000) (m : Int) (s : List Int) :
    ∃ g c W', (Builtin.append_ #[24, 24] 24 #[v, .slice (some ⟨X.heap.size, 0, none⟩) 2 2]).run Try.prog (X.alloc (.cells #[.int .i64 2, .int .i64 0, .string (strOfNums s), .int .i64 3, .int .i64 m, .string ⟨#[]⟩] 34)) = .ok (.slice (some ⟨g, 0, none⟩) (L.length + 2) c) W' ∧
      W'.ownsRow w.heap.size 34 3 (.slice (some ⟨g, 0, none⟩) (L.length + 2) c) (L ++ [(⟨2, 0, s⟩ : Dop), ⟨3, m, []⟩]).length (opsV (L ++ [(⟨2, 0, s⟩ : Dop), ⟨3, m, []⟩])) ∧ Below w.heap.size w W' ∧ (∀ i, i < X.heap.size → v.ownBlock ≠ some i → W'.heap[i]? = X.heap[i]?) := by
  obtain ⟨g, c, W', r, o, gr, b⟩ := push_op2 X w.heap.size L.length v (opsV L) 2 0 (strOfNums s) 3 m ⟨#[]⟩ 24 ho (by omega) hd.size
  refine ⟨g, c, W', r, ?_, hd.trans b, fun i hi hne => gr.block i hi (fun e => hne e.symm)⟩
  rw [show (L ++ [(⟨2, 0, s⟩ : Dop), ⟨3, m, []⟩]).length = L.length + 2 by simp, opsV_app]
  exact o
theorem bk_push1 {w X : World} {v : Value} {L : List Dop} (ho : X.ownsRow w.heap.size 34 3 v L.length (opsV L)) (hd : Below w.heap.size w X) (hl : L.length ≤ 1000000000) (k n : Int) (s : ByteArray) (y : Dop) (hy : opL y = [.int .i64 k, .int .i64 n, .string s]) :
    ∃ g c W', (Builtin.append_ #[24, 24] 24 #[v, .slice (some ⟨X.heap.size, 0, none⟩) 1 1]).run Try.prog (X.alloc (.cells #[.int .i64 k, .int .i64 n, .string s] 34)) = .ok (.slice (some ⟨g, 0, none⟩) (L.length + 1) c) W' ∧
      W'.ownsRow w.heap.size 34 3 (.slice (some ⟨g, 0, none⟩) (L.length + 1) c) (L ++ [y]).length (opsV (L ++ [y])) ∧ Below w.heap.size w W' ∧ (∀ i, i < X.heap.size → v.ownBlock ≠ some i → W'.heap[i]? = X.heap[i]?) := by
  obtain ⟨g, c, W', r, o, gr, b⟩ := push_op X w.heap.size L.length v (opsV L) k n s 24 ho (by omega) hd.size
  rw [← hy, ← opsV_one, ← opsV_app] at o
  refine ⟨g, c, W', r, ?_, hd.trans b, fun i hi hne => gr.block i hi (fun e => hne e.symm)⟩
  rw [show (L ++ [y]).length = L.length + 1 by simp]
  exact o
structure BkI (d : List Dop) (b : List Int) (k f : Nat) (L : List Dop) (v : Value) (w X : World) : Prop where
  e : (runB b (d.take k)).2 = L
  f : f = frD (d.take k)
  o : X.ownsRow w.heap.size 34 3 v L.length (opsV L)
  d : Below w.heap.size w X
end Go.Proofs.Ytdemagijhmbdcaa
end

section
namespace Go.Proofs.Ytdemagijhmbdcaa
open Go.ChangeShapes Go.WideShapes Go.ChangeAt Go.RowKit
attribute [local go_sem] Oper.semAt_some

/-- append(v, e...): v a list of one's own -/
theorem app_op (w : World) (B : Nat) (v : Value) (d : List Dop) (a0 : Option Addr) (cap : Nat) (e : List Dop) (ty : TypeId) (hv : w.ownsRow B 34 3 v d.length (opsV d)) (h : IsO w a0 e) (hb : (d.length + e.length) * 32 ≤ 140737488355328) (hB : B ≤ w.heap.size) :
    ∃ v' w', (Builtin.append_ #[24, 24] ty #[v, .slice a0 e.length cap]).run Try.prog w = .ok v' w' ∧
      w'.ownsRow B 34 3 v' (d ++ e).length (opsV (d ++ e)) ∧ w.grownBy w' v.ownBlock ∧ Below B w w' := by
  obtain ⟨i, hi, hzz, hs, hby⟩ := info_op
  by_cases he : e = []
  · subst he
    rw [List.append_nil]
    have hsrc : Src Try.prog i.size 24 (.slice a0 0 cap) 0 [] w := by
      cases a0 with
      | none => exact Src.ofNil _ Try.underlying24 cap
      | some x => exact Src.ofSlice _ Try.underlying24 x 0 cap [] (by simp) (fun j u h => by simp at h) (fun u h => by cases h)
    refine ⟨v, w, ?_, hv, ⟨rfl, rfl, rfl, Nat.le_refl _, fun _ _ _ => rfl⟩, Below.refl _ _⟩
    rcases hv.2 with ⟨rfl, _⟩ | ⟨g, c, cur, rfl, _, _, hc, _⟩
    · exact run_append_nothing (P := Try.prog) w 24 24 ty 34 i Try.underlying24 hi none 0 0 (Nat.le_refl _) _ hsrc
    · exact run_append_nothing (P := Try.prog) w 24 24 ty 34 i Try.underlying24 hi _ _ _ hc _ hsrc
  · rcases h with h | ⟨g, off, rfl, hg, hL⟩
    · exact absurd h he
    obtain ⟨v', w', hr, ho, hgr, _⟩ := run_append_own (P := Try.prog) w B 24 ty 34 i (.agg #[.int .i64 0, .int .i64 0, .string ⟨#[]⟩]) 3 32 Try.underlying24 hi hzz hs hby rfl (by decide)
      v d.length (opsV d) hv ⟨g, off, none⟩ e.length cap (opsV e) (opsV_len e)
      (fun j u hj => by
        have hjl : j < (opsV e).length := (List.getElem?_eq_some_iff.1 hj).1
        rw [opsV_len] at hjl
        have hk : j / 3 < e.length := by omega
        have q := opsV_get e (j / 3) (j % 3) hk (by omega)
        rw [show j / 3 * 3 + j % 3 = j by omega, hj] at q
        obtain ⟨c0, c1, c2⟩ := hL (j / 3) hk
        rw [Addr.add_lit]
        have hm : j % 3 = 0 ∨ j % 3 = 1 ∨ j % 3 = 2 := by omega
        rcases hm with hm | hm | hm
        · rw [hm] at q; rw [show off + j = off + j / 3 * 3 by omega]; exact c0.trans q.symm
        · rw [hm] at q; rw [show off + j = off + j / 3 * 3 + 1 by omega]; exact c1.trans q.symm
        · rw [hm] at q; rw [show off + j = off + j / 3 * 3 + 2 by omega]; exact c2.trans q.symm)
      (fun u hu => by obtain ⟨x, _, hx⟩ := List.mem_flatMap.1 hu; exact opL_cell hx) (by unfold maxLen; omega) hb hB
    refine ⟨v', w', hr, by rw [List.length_append, opsV_app]; exact ho, hgr, (Below.refl B w).grown hgr hB (fun k e => (hv.lt k e).1)⟩
theorem made_u8D (n : Nat) : (madeCells (Value.int .u8 0).cells (n * 1)).toList = (List.replicate n (0 : Int)).map (Value.int .u8) := by
  apply List.ext_getElem?
  intro i
  simp only [madeCells, Nat.mul_one, Array.toList_map, Array.toList_range, List.getElem?_map, List.map_replicate]
  rcases Nat.lt_or_ge i n with h | h
  · rw [List.getElem?_range h, List.getElem?_replicate, if_pos h]
    simp [Value.cells]
    simp [Nat.mod_one]
  · rw [List.getElem?_eq_none (by simpa using h), List.getElem?_replicate, if_neg (by omega)]
    rfl
theorem make_fullD (w : World) (n : Nat) (hn : n ≤ 5000) : ∃ w', (Instr.makeSlice 22 (.int .i64 (n : Int)) (.int .i64 (n : Int))).run Try.prog w = .ok (.slice (some ⟨w.heap.size, 0, none⟩) n n) w' ∧
    Own w' w.heap.size (.slice (some ⟨w.heap.size, 0, none⟩) n n) (List.replicate n 0) ∧ Below w.heap.size w w' := by
  obtain ⟨i, hi, hz, hs, hby⟩ := info_u8
  obtain ⟨w', h1, h2, h3⟩ := run_make_full (P := Try.prog) w w.heap.size 22 5 i _ 1 Try.underlying22 hi hz hs .i64 .i64 n (by rw [hby]; omega) (by unfold maxLen; omega) (Nat.le_refl _)
  rw [made_u8D] at h2
  exact ⟨w', h1, by unfold Own; rw [List.length_replicate]; exact h2, (Below.refl _ w).grown h3 (Nat.le_refl _) (fun k e => by cases e)⟩
theorem un_set {n i : Nat} (h : i < n) : (unT 0 i ++ List.replicate (n - i) (0 : Int)).set i (128 + (i : Int)) = unT 0 (i + 1) ++ List.replicate (n - (i + 1)) 0 := by
  rw [unT_sn, Nat.zero_add, show n - i = (n - (i + 1)) + 1 by omega, List.replicate_succ, List.set_append_right _ _ (by rw [unT_len]; exact Nat.le_refl _), unT_len, Nat.sub_self, List.set_cons_zero]
  simp
/-- Valid, Changes, Of, Canon in plain lists -/
theorem ChangesO_at (a : Option Addr) (c : Nat) (d : List Dop) (w : World) (h : IsO w a d) (hl : d.length ≤ 4611686018427387904) :
    Calls Try.prog 14 #[.slice a d.length c] w fun y w' => ∃ a' c', y = .returned (.tuple #[.slice a' (chD d).1.length c', .int .i64 (chD d).2]) ∧ IsO w' a' (chD d).1 ∧ Below w.heap.size w w' :=
  (Changes_at a c d w h hl).mono fun y w' ⟨v, e, ho, x⟩ => by
    obtain ⟨a', c', rfl, hi, _⟩ := own_isOC ho
    exact ⟨a', c', e, hi, x⟩
theorem OfO_at (a : Option Addr) (c : Nat) (n : Int) (cs : List Dop) (E : Int) (w : World) (h : IsO w a cs) (hl : cs.length ≤ 4398046511104) (hE : ErrC n cs E) :
    Calls Try.prog 15 #[.int .i64 n, .slice a cs.length c] w fun y w' => ∃ a' c', y = .returned (.tuple #[.slice a' (ofD n cs E).1.length c', .int .i64 (ofD n cs E).2]) ∧ IsO w' a' (ofD n cs E).1 ∧ Below w.heap.size w w' :=
  (Of_atD a c n cs E w h hl hE).mono fun y w' ⟨v, e, ho, x⟩ => by
    obtain ⟨a', c', rfl, hi, _⟩ := own_isOC ho
    exact ⟨a', c', e, hi, x⟩
theorem CanonO_at (a : Option Addr) (c : Nat) (d : List Dop) (w : World) (h : IsO w a d) (hl : d.length ≤ 4611686018427387904) :
    Calls Try.prog 13 #[.slice a d.length c] w fun y w' => ∃ a' c', y = .returned (.tuple #[.slice a' (canD d).1.length c', .int .i64 (canD d).2]) ∧ IsO w' a' (canD d).1 ∧ Below w.heap.size w w' :=
  (Canon_at a c d w h hl).mono fun y w' ⟨v, e, ho, x⟩ => by
    obtain ⟨a', c', rfl, hi, _⟩ := own_isOC ho
    exact ⟨a', c', e, hi, x⟩
theorem canD_val {d : List Dop} (hv : valB d = true) (h : Can d) : canD d = (d, 0) := by
  have hk := (valB_nn hv).2
  have h1 : d.all knB = true := List.all_eq_true.2 fun o ho => by
    rcases h.p o ho with ⟨q | q, q2, _⟩ | ⟨q, q2, _⟩ <;> simp [knB, q] <;> omega
  have h2 : lonB d = false := decide_eq_false (by omega)
  unfold canD
  rw [h1, h2, canA_id h]
  rfl
theorem pln_tl {d : List Dop} (hv : valB d = true) : ∀ o ∈ d, o.t.length ≤ 536870912 := fun o ho => by
  have h1 := (val_rdK hv).s o ho
  have h2 := (szO_i ((val_rdK hv).p o ho)).1
  have h3 := pln_n ((val_rdK hv).p o ho)
  omega
theorem fitD_can (d : List Dop) (n : Nat) : Can (fitD d n) := canA_can _
end Go.Proofs.Ytdemagijhmbdcaa
end

section
namespace Go.Proofs.Ytdemagijhmbdcaa
open Go.ChangeShapes Go.WideShapes Go.ChangeAt Go.RowKit

section
variable {P : Program}
theorem rwk_cut {W : World} {B s n m c : Nat} {e : TypeId} {a : Option Addr} {xs ys : List Value} (h : W.ownsRow B e s (.slice a (n + m) c) (n + m) (xs ++ ys)) (hx : xs.length = n * s) (ha : a ≠ none) : W.ownsRow B e s (.slice a n c) n xs := by
  rcases h.2 with ⟨e1, _⟩ | ⟨g, cap, cur, e1, hb, hg, hn, hm, hs, ht⟩
  · injection e1 with e1; exact absurd e1 ha
  · cases e1
    refine ⟨hx, .inr ⟨g, c, cur, rfl, hb, hg, by omega, hm, hs, ?_⟩⟩
    have h2 := congrArg (List.take (n * s)) ht
    rw [List.take_take, Nat.min_eq_left (Nat.mul_le_mul_right _ (by omega)), ← hx, List.take_left] at h2
    rw [← hx]; exact h2
theorem push_kept (w : World) (base : Nat) (t ty e : TypeId) (i : TypeInfo) (z : Value) (size bytes : Nat) (ht : P.underlying t = some (.slice e)) (hi : P.info? e = some i) (hz : i.zero = some z)
    (hsize : i.size = size) (hby : i.bytes = bytes) (hzs : z.cells.size = size) (hsz : 0 < size)
    (v : Value) (n : Nat) (xs : List Value) (hown : w.ownsRow base e size v n xs)
    (a : Addr) (m c : Nat) (news : List Value) (hl : news.length = m * size) (hnews : ∀ j u, news[j]? = some u → w.cell? (a.add j) = some u) (h1 : ∀ u ∈ news, u.oneCell' = true)
    (h63 : n + m ≤ maxLen) (hbytes : (n + m) * bytes ≤ 140737488355328) (hbase : base ≤ w.heap.size) :
    ∃ v' w', (Builtin.append_ #[t, t] ty #[v, .slice (some a) m c]).run P w = .ok v' w' ∧ w'.ownsRow base e size v' (n + m) (xs ++ news) ∧ w'.ownsRow base e size v n xs ∧ w.grownBy w' v.ownBlock ∧
      ((∃ g c, v = .slice (some ⟨g, 0, none⟩) n c ∧ v' = .slice (some ⟨g, 0, none⟩) (n + m) c) ∨ v' = .slice none 0 0 ∨ v'.ownBlock = some w.heap.size) := by
  obtain ⟨v', w', hr, h2, h3, _, h5⟩ := run_append_own_at (P := P) w base t ty e i z size bytes ht hi hz hsize hby hzs hsz v n xs hown a m c news hl hnews h1 h63 hbytes hbase
  refine ⟨v', w', hr, h2, ?_⟩
  subst hsize
  subst hby
  rcases hown.2 with ⟨rfl, rfl⟩ | ⟨g, cap, cur, rfl, hbg, hg, hnc, hcm, hcs, htake⟩
  · refine ⟨⟨hown.1, .inl ⟨rfl, rfl⟩⟩, h3, .inr ?_⟩
    rcases h5 with h5 | h5
    · left
      rcases h2.2 with ⟨e1, _⟩ | ⟨g, cap, cur, e1, _⟩
      · exact e1
      · subst e1; cases h5
    · exact .inr h5
  · by_cases hroom : n + m ≤ cap
    · have hr2 := run_append_room (P := P) w t ty e i ht hi g n cap cur hg a m c news hl hnews h1 hroom (by rw [hl, hcs, ← Nat.add_mul]; exact Nat.mul_le_mul_right _ hroom)
      rw [hr] at hr2
      injection hr2 with e1 e2
      subst e1
      exact ⟨rwk_cut h2 hown.1 (by simp), h3, .inl ⟨g, cap, rfl, rfl⟩⟩
    · have hr2 := run_append_grow (P := P) w t ty e i z ht hi hz ⟨g, 0, none⟩ n cap xs hown.1 (hown.cells (g := g) rfl) a m c news hl hnews (by omega) (by simp only [maxLen] at h63; omega) (growslice_fits (by omega) hbytes)
      rw [hr] at hr2
      injection hr2 with e1 e2
      subst e2
      refine ⟨⟨hown.1, .inr ⟨g, cap, cur, rfl, hbg, ?_, hnc, hcm, hcs, htake⟩⟩, h3, .inr (.inr (by rw [e1]; rfl))⟩
      rw [← hg]
      exact heap_alloc_old w.drew _ (Array.getElem?_eq_some_iff.1 hg).1
/-- one cell of a row is written -/
theorem rwk_set {W : World} {B s n cap g : Nat} {e : TypeId} {xs : List Value} (h : W.ownsRow B e s (.slice (some ⟨g, 0, none⟩) n cap) n xs) (j : Nat) (u : Value) : (W.setCell ⟨g, j, none⟩ u).ownsRow B e s (.slice (some ⟨g, 0, none⟩) n cap) n (xs.set j u) := by
  rcases h.2 with ⟨e1, _⟩ | ⟨g', cap', cur, e1, hb, hg, hn, hm, hs, ht⟩
  · cases e1
  · cases e1
    refine ⟨by rw [List.length_set]; exact h.1, .inr ⟨g, cap, cur.setIfInBounds j u, rfl, hb, ?_, hn, hm, by rw [Array.size_setIfInBounds]; exact hs, ?_⟩⟩
    · have hl := (Array.getElem?_eq_some_iff.1 hg).1
      show (W.heap.modify g _)[g]? = _
      rw [Array.getElem?_eq_getElem (by rw [Array.size_modify]; exact hl), Array.getElem_modify_self]
      rw [Array.getElem?_eq_getElem hl] at hg
      rw [Option.some.inj hg]
      rfl
    · rw [Array.toList_setIfInBounds, List.take_set, ht]
/-- and how it is read -/
theorem rwk_cell {W : World} {B s n cap g : Nat} {e : TypeId} {xs : List Value} (h : W.ownsRow B e s (.slice (some ⟨g, 0, none⟩) n cap) n xs) (j : Nat) (hj : j < n * s) : W.cell? ⟨g, j, none⟩ = xs[j]? ∧ W.frozen? ⟨g, j, none⟩ = false := by
  rcases h.2 with ⟨e1, _⟩ | ⟨g', cap', cur, e1, hb, hg, hn, hm, hs, ht⟩
  · cases e1
  · cases e1
    refine ⟨?_, by simp [World.frozen?, hg]⟩
    rw [← ht, List.getElem?_take_of_lt hj]
    simp [World.cell?, hg]
/-- two rows do not share a block -/
def NB (a b : Value) : Prop := ∀ g, a.ownBlock = some g → b.ownBlock ≠ some g
theorem NB.symm {a b : Value} (h : NB a b) : NB b a := fun g h1 h2 => h g h2 h1
theorem rwk_other {W : World} {B s n cap g j : Nat} {e : TypeId} {v u : Value} {xs : List Value} (h : W.ownsRow B e s v n xs) (hne : NB (.slice (some ⟨g, 0, none⟩) 0 cap) v) : (W.setCell ⟨g, j, none⟩ u).ownsRow B e s v n xs := by
  refine World.ownsRow.kept (row := some g) h ⟨rfl, rfl, rfl, by simp [World.setCell], fun k hk hk' => ?_⟩ ?_
  · exact Below.heap_setCell W ⟨g, j, none⟩ u k (fun e => hk' (by rw [e]))
  · right; exact hne g rfl
end
end Go.Proofs.Ytdemagijhmbdcaa
end
